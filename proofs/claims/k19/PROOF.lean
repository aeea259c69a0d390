import PyProof.Rows.All
import Wide.All
import OpenK.AllK
import Wide.FinOn
import Lean
import PyProof.EqAt
import PyProof.EqKinds
import PyProof.TupleCall
import PyProof.TupleKey
import PyProof.DictFindH
import PyProof.NeData
import PyProof.ListRange
import PyProof.ZipIter
import PyProof.Rows.CallKwBuiltin
import PyProof.MinMaxWalk
import KE.KSortTup
import PyProof.DictItems
import KE.KEqDict
import PyProof.DictValues
import PyProof.MeetsStr
import PyProof.MeetsStr2
import PyProof.StrCalls
import PyProof.StrCalls2
import PyProof.FString
import KE.KIntText
import KE.KDictSum
import PySem.Challenge.RW_meetwall_k19_whole_hands_that_meet
set_option Elab.async false
set_option linter.all false
set_option maxRecDepth 100000
set_option maxHeartbeats 4000000
set_option compiler.extract_closed false
noncomputable section
theorem qI(h:True:=by intro _ _ _ _ h;first|(cases h;subst_vars;rfl)|(obtain⟨h,_⟩:=h;(repeat obtain⟨_,h⟩:=h)<;>(subst_vars;rfl))):True:=h
theorem qH(h:True:=by intro _ _ _ _ _ _ us a;first|exact Fu a (λ_=>rfl)|exact Ft a (λ_ _=>rfl)|exact Fr a (λ_ _ _=>rfl)|exact Fq a (λ_ _ _ _=>rfl)|exact Fp a (λ_ _ _ _ _=>rfl)|(cases us<;>first|rfl|cases a)):True:=h
theorem wZ(h:True:=by first|exact Or.inl J|exact Or.inr (Or.inl J)|exact Or.inr (Or.inr J)):True:=h
theorem aY{m n:Nat}(h:Nat.ble m n=true:=by rfl):m<=n:=Nat.le_of_ble_eq_true h
theorem J{a:Sort _}{b:a}:b=b:=rfl
abbrev O:=@List
abbrev I:=PySem.Value
abbrev Y:=PySem.Addr
namespace L2
open PySem PySem.Spec PyProof.Rows
noncomputable def _root_.a4:=@wpAny_bind
noncomputable def _root_.a9:=@wpAny_pure
noncomputable def _root_.aa:=@List.mem_singleton
noncomputable def _root_.ae:=@Nat.le_refl
noncomputable def _root_.ai:=@List.length_map
noncomputable def _root_.aj:=@Ne.symm
noncomputable def _root_.ak:=@List.mem_cons
noncomputable def _root_.aq:=@Heap.get?_push_of_some
noncomputable def _root_.au:=@Heap.lt_size
noncomputable def _root_.ax:=@decide_eq_true
noncomputable def _root_.az:=@Nat.ne_of_lt
noncomputable def _root_.bc:=@List.getElem?_map
noncomputable def _root_.be:=@List.map_append
noncomputable def _root_.bf:=@Heap.get?_push_size
noncomputable def _root_.bi:=@List.getElem?_eq_getElem
noncomputable def _root_.bo:=@Nat.zero_le
noncomputable def _root_.bp:=@List.mem_range
noncomputable def _root_.br:=@List.mem_cons_of_mem
noncomputable def _root_.bu:=@Bool.false_ne_true
noncomputable def _root_.bv:=@List.mem_cons_self
noncomputable def _root_.bz:=@Int.toNat_natCast
noncomputable def _root_.c5:=@decide_eq_false
noncomputable def _root_.c6:=@List.map_cons
noncomputable def _root_.c7:=@List.map_map
noncomputable def _root_.c8:=@List.length_range
noncomputable def _root_.c9:=@List.getElem?_eq_some_iff
noncomputable def _root_.ca:=@Bool.and_eq_true
noncomputable def _root_.cb:=@of_decide_eq_true
noncomputable def _root_.cf:=@Nat.lt_of_lt_of_le
noncomputable def _root_.cg:=@wpAny_call_entry
noncomputable def _root_.ci:=@List.mem_map
noncomputable def _root_.cj:=@Nat.le_trans
noncomputable def _root_.ck:=@List.mem_of_getElem?
noncomputable def _root_.cn:=@List.length_append
noncomputable def _root_.cp:=@Nat.lt_irrefl
noncomputable def _root_.cq:=@List.size_toArray
noncomputable def _root_.cr:=@List.nodup_cons
noncomputable def _root_.cu:=@Option.map_eq_some_iff
noncomputable def _root_.cw:=@List.mem_append_right
noncomputable def _root_.cx:=@wpAny_newObj_type
noncomputable def _root_.cy:=@List.take_add_one
noncomputable def _root_.cz:=@List.getD_eq_getElem?_getD
noncomputable def _root_.d7:=@List.not_mem_nil
noncomputable def _root_.d8:=@List.mem_filter
noncomputable def _root_.dc:=@List.mem_append
noncomputable def _root_.de:=@wpAny_mono
noncomputable def _root_.df:=@List.all_eq_true
noncomputable def _root_.di:=@Int.le_refl
noncomputable def _root_.dj:=@Array.getElem?_eq_getElem
noncomputable def _root_.dk:=@wpAny_isInstance
noncomputable def _root_.dl:=@Nat.ne_of_gt
noncomputable def _root_.dm:=@List.length_cons
noncomputable def _root_.dy:=@Heap.size_push
noncomputable def _root_.dz:=@Nat.lt_succ_self
noncomputable def _root_.ee:=@Int.zero_add
noncomputable def _root_.ef:=@List.mem_append_left
noncomputable def _root_.eh:=@List.append_nil
noncomputable def _root_.ei:=@Int.emod_nonneg
noncomputable def _root_.f6:=@List.length_filter_le
noncomputable def _root_.f7:=@Nat.lt_of_le_of_lt
noncomputable def _root_.f9:=@Int.emod_lt_of_pos
noncomputable def _root_.fb:=@List.length_replicate
noncomputable def _root_.fc:=@Nat.not_lt_zero
noncomputable def _root_.fe:=@List.take_length
noncomputable def _root_.ff:=@List.getElem?_eq_none
noncomputable def _root_.fg:=@List.replicate_succ'
noncomputable def _root_.fh:=@List.getElem?_append_left
abbrev aI:=Sum Int Str
noncomputable def Ke:aI->Value->Bool|.inl k,v=>Value.isInt k v|.inr x,v=>Value.isStrOf x v
noncomputable def xV(w:World):aI->Int|.inl k=>hashInt k|.inr x=>hashStr w x
theorem xy:∀{k:aI}{v:Value},Ke k v=true->(∃i t,k=Sum.inl i/\v=Value.int i t)\/(∃x t,k=Sum.inr x/\v=Value.str x t)
 | .inl i,v,h=>by
   obtain⟨t,e⟩:=Value.isInt_shape h
   simp_all
 | .inr x,v,h=>by
   obtain⟨t,e⟩:=Value.isStrOf_shape h
   simp_all
theorem C6(i:Int)(t:Tok):Ke (.inl i) (.int i t)=true:=by simp[Ke,Value.isInt]
theorem C7(x:Str)(t:Tok):Ke (.inr x) (.str x t)=true:=by simp[Ke,Value.isStrOf]
theorem AJ(a b:Int):decide ((Sum.inl a:aI)=Sum.inl b)=(a==b):=by grind
theorem AM(a b:Str):decide ((Sum.inr a:aI)=Sum.inr b)=decide (a=b):=by simp
theorem AK(a:Int)(b:Str):decide ((Sum.inl a:aI)=Sum.inr b)=false:=c5 (λq=>nomatch q)
theorem AL(a:Str)(b:Int):decide ((Sum.inr a:aI)=Sum.inl b)=false:=c5 (λq=>nomatch q)
noncomputable def zy(prog:Program)(w:World):PySem.KeyKind prog w aI where
 is:=Ke
 hash:=xV w
 inj:=λv a b U F=>by
  rcases xy U with⟨i,t,rfl,rfl⟩|⟨x,t,rfl,rfl⟩;rcases xy F with⟨j,u,rfl,e⟩|⟨y,u,rfl,e⟩;injection e with e1 _;rw[e1];exact nomatch e
  rcases xy F with⟨j,u,rfl,e⟩|⟨y,u,rfl,e⟩;exact nomatch e
  injection e with e1 _;rw[e1]
 byValue:=λk v h=>by rcases xy h with⟨i,t,rfl,rfl⟩|⟨x,t,rfl,rfl⟩<;>rfl
 pyHash:=λB h=>by rcases xy B with⟨i,t,rfl,rfl⟩|⟨x,t,rfl,rfl⟩;exact wpAny_pyHash_int h;exact wpAny_pyHash_str h
 eqBool:=λG B h=>by rcases xy G with⟨i,t,rfl,rfl⟩|⟨x,t,rfl,rfl⟩;rcases xy B with⟨j,u,rfl,rfl⟩|⟨y,u,rfl,rfl⟩;rw[AJ]at h;exact wpAny_eqBool_int h;rw[AK]at h;exact SeqAt.EqAt.int_str i t y u _ _ _ _ h;rcases xy B with⟨j,u,rfl,rfl⟩|⟨y,u,rfl,rfl⟩;rw[AL]at h;exact SeqAt.EqAt.str_int x t j u _ _ _ _ h;rw[AM]at h;exact wpAny_eqBool_str h
 «strs»:=λk x t v h=>by
  rcases xy h with⟨i,u,rfl,e⟩|⟨y,u,rfl,e⟩;exact nomatch e
  injection e with e1 _;subst e1;cases v<;>rfl
theorem EC(prog:Program)(w:World)(i:Int)(t:Tok):(zy prog w).is (.inl i) (.int i t)=true:=C6 i t
theorem ED(prog:Program)(w:World)(x:Str)(t:Tok):(zy prog w).is (.inr x) (.str x t)=true:=C7 x t
inductive V where|non|bl (b:Bool)|int (i:Int)|str (x:Str)|byt (b:Array UInt8)|flt (b:UInt64)|ref (a:Addr)|ty (n:String)
 deriving DecidableEq
def yk:V->Value->Prop|.non,u=>u=Value.none|.bl b,u=>u=Value.bool b|.int i,u=>∃t,u=Value.int i t|.str x,u=>∃t,u=Value.str x t|.byt b,u=>∃t,u=Value.bytes b t|.flt b,u=>∃t,u=Value.float b t|.ref a,u=>u=Value.ref a|.ty n,u=>u=Value.type n
abbrev yo:List V->List Value->Prop:=Paired yk
theorem yo.length{xs:O V}{a:O I}(r:yo xs a):xs.length=a.length:=Paired.length r
theorem yo.get:∀{xs:List V}{a:List Value}{i:Nat}{x:V},yo xs a->xs[i]?=some x->∃u,a[i]?=some u/\yk x u
 |_,_,_,_,.nil,e=>by grind
 |_,_,0,_,.cons r _,e=>by simp_all
 | _,_,i+1,x,.cons _ t,e=>by
   obtain⟨u,c,b⟩:=yo.get t (by simpa using e)
   simp_all
theorem yo.set{x:V}{u:Value}(r:yk x u):∀{xs:List V}{a:List Value}(i:Nat),yo xs a->yo (xs.set i x) (a.set i u)|_,_,_,.nil=>.nil|_,_,0,.cons _ t=>.cons r t|_,_,i+1,.cons q t=>.cons q (yo.set r i t)
theorem yo.append:∀{xs a:List V}{c b:List Value},yo xs c->yo a b->yo (xs++a) (c++b)|_,_,_,_,.nil,s=>s|_,_,_,_,.cons r t,s=>.cons r (yo.append t s)
theorem yo.take:∀{xs:List V}{a:List Value}(n:Nat),yo xs a->yo (xs.take n) (a.take n)|_,_,0,_=>.nil|_,_,_+1,.nil=>.nil|_,_,n+1,.cons r t=>.cons r (yo.take n t)
theorem yo.drop:∀{xs:List V}{a:List Value}(n:Nat),yo xs a->yo (xs.drop n) (a.drop n)|_,_,0,r=>r|_,_,_+1,.nil=>.nil|_,_,n+1,.cons _ t=>yo.drop n t
def Zk:Option V->Option Value->Prop|some v,some u=>yk v u|none,none=>True|_,_=>False
def KV{B:Type}:List (B×V)->List (B×Value)->Prop:=Paired λ(p:B×V) (q:B×Value)=>p.1=q.1/\yk p.2 q.2
noncomputable def kV:aI->V|.inl i=>.int i|.inr x=>.str x
inductive HO where|lst (xs:List V)|tup (xs:List V)|dK (kvs:List (aI×V))|dT (kvs:List (List aI×V))|set (S:Int->Bool) (n:Nat)|ins (C dx:Addr) (fs:List (Str×V))|own (x:Addr)|xd (fs:List (Str×V))|met (f x:Addr)|rng (lo hi:Int)|frz (o:Obj) (u:HO)|tbl (ps:Array Value)|ext (φ:Heap->Prop)
abbrev Hp:=Addr->Option HO
noncomputable def upd(H:Hp)(a:Addr)(o:HO):Hp:=λb=>if b=a then some o else H b
variable{a b:Addr}{o u:HO}{h h':Heap}{H:Hp}{P:Program}{w:World}
theorem ze:upd H a o a=some o:=by unfold upd;rw[if_pos J]
theorem upd_ne(h:b≠a):upd H a o b=H b:=by unfold upd;rw[if_neg h]
theorem BL:upd (upd H a o) a u=upd H a u:=by funext b;unfold upd;simp_all
theorem Ye(h:H a=some o)(h':H b=some u)(d:o≠u):a≠b:=by grind
theorem zj(h:H a=some o)(h':H b=none):a≠b:=by grind
def iw(h:Heap)(a:Addr):Prop:=∀o,h.get? a=some o->o.dict=none
theorem iw.of{o:Obj}(n:iw h a)(e:h.get? a=some o)(c:h'.get? a=some o):iw h' a:=λq b=>by rw[c]at b;cases b;exact n o e
theorem iw.push{h:Heap}{c:Value}{d:Data}{a:Array (Option Value)}:iw (h.push {cls:=c,dict:=none,data:=d,slots:=a}) h.objs.size:=λq f=>by
 have e:=f;cases b:({cls:=c,dict:=none,data:=d,slots:=a}:Obj).isFreed with|false=>rw[bf _ b]at e;grind| true=>
   simp[Heap.get?,Heap.push,b]at e
   grind
section
variable(P:Program)(w:World)
def wq(H:Hp)(h:Heap)(a:Addr):HO->Prop
 |.lst xs=>xs.length<=sizeLine/\∃(its:List Value)(n:Nat),yo xs its/\h.get? a=some {cls:=.type "list",data:=.seq its.toArray n}
 |.tup xs=>xs.length<=sizeLine/\∃its:List Value,yo xs its/\IsTup h a its.toArray/\iw h a
 |.dK kvs=>kvs.length<=sizeLine/\(a==sysModules)=false/\∃vs,KV kvs vs/\h.DictOf (zy P w) a vs
 |.dT kvs=>kvs.length<=sizeLine/\(a==sysModules)=false/\∃xs:List (List aI×Addr×Value),
  Paired (λ(p:List aI×V) (q:List aI×Addr×Value)=>p.1=q.1/\H q.2.1=some (.tup (p.1.map kV))/\yk p.2 q.2.2) kvs xs/\
  ∃o es ep,h.get? a=some o/\o.ExactDict/\o.data=.dict es ep/\es.toList=xs.map (entryOfKey (tupleKind (zy P w)))/\(xs.map (·.1)).Nodup
 |.set S n=>h.SetOf (intKind P w) a S n
 |.ins C dx fs=>H dx=some (.own a)/\fs.length<=1000/\dx≠a/\h.get? a=some (W.instObj C dx)/\
  ∃mA,h.Ns1 dx mA/\(∀f,Zk (fs.lookup f) (mA f))/\PySem.Within mA (fs.map (·.1))
 |.own _=>∃o,h.get? a=some o
 |.xd fs=>∃mA,h.Ns1 a mA/\∀f,Zk (fs.lookup f) (mA f)
 |.rng lo hi=>∃t u v,h.get? a=some {cls:=.type "range",data:=.fields #[.int lo t,.int hi u,.int 1 v]}
 |.frz o u=>h.get? a=some o/\wq H h a u
 |.tbl ps=>h.get? a=some {cls:=.none,data:=.fields ps}
 |.met f x=>h.get? a=some (W.methodObj (.ref f) (.ref x))
 |.ext B=>B h/\(∃o,h.get? a=some o)/\∀h1 h2:Heap,B h1->(∀o,h1.get? a=some o->h2.get? a=some o)->B h2
def bR(H:Hp)(h:Heap):Prop:=∀a o,H a=some o->wq P w H h a o
end
section
variable{H':Hp}
theorem wq.lt(x:wq P w H h a o):a<h.objs.size:=by cases o with|lst c=>obtain⟨_,_,_,_,e⟩:=x;exact au e|tup c=>obtain⟨_,_,_,p,_⟩:=x;exact p.lt|dK b=>obtain⟨_,_,_,_,o,_,_,e,_⟩:=x;exact au e|dT b=>obtain⟨_,_,_,_,o,_,_,e,_⟩:=x;exact au e|set S n=>obtain⟨o,_,_,_,e,_⟩:=x;exact au e|ins C l d=>obtain⟨_,_,_,e,_⟩:=x;exact au e|own y=>obtain⟨_,e⟩:=x;exact au e|xd d=>obtain⟨_,⟨_,_,_,e,_⟩,_⟩:=x;exact au e|rng lo k=>obtain⟨_,_,_,e⟩:=x;exact au e|frz j u=>obtain⟨e,_⟩:=x;exact au e|tbl i=>exact au (x)|met f y=>exact au (x)|ext g=>obtain⟨_,⟨_,e⟩,_⟩:=x;exact au e
theorem Paired.mapP{g e:Type}{F G:g->e->Prop}:∀{d:List g}{c:List e},Paired F d c->(∀a b,F a b->G a b)->Paired G d c|_,_,.nil,_=>.nil|_,_,.cons r t,f=>.cons (f _ _ r) (Paired.mapP t f)
theorem wq.stay(x:wq P w H h a o)(k:∀b u,(b=a\/H b=some (.own a))->h.get? b=some u->h'.get? b=some u)(K:∀b,H b=some (.own a)->H' b=some (.own a)) (G:∀b xs,H b=some (.tup xs)->H' b=some (.tup xs)):wq P w H' h' a o:=by induction o with|lst xs=>obtain⟨z,l,n,r,e⟩:=x;exact⟨z,l,n,r,k _ _ (.inl J) e⟩|tup xs=>obtain⟨z,l,r,⟨g,e,c⟩,E⟩:=x;exact⟨z,l,r,⟨g,k _ _ (.inl J) e,c⟩,E.of e (k _ _ (.inl J) e)⟩|dK A=>obtain⟨z,y,B,r,g,i,j,e,c⟩:=x;exact⟨z,y,B,r,g,i,j,k _ _ (.inl J) e,c⟩| dT A=>obtain⟨z,y,xs,r,g,i,j,e,c⟩:=x;exact⟨z,y,xs,Paired.mapP r λp q z=>⟨z.1,G _ _ z.2.1,z.2.2⟩,g,i,j,k _ _ (.inl J) e,c⟩|set S n=>obtain⟨g,i,j,t,e,c⟩:=x;exact⟨g,i,j,t,k _ _ (.inl J) e,c⟩| ins C U L=>obtain⟨d,z,D,e,s,⟨m,i,j,M,c⟩,r⟩:=x;exact⟨K _ d,z,D,k _ _ (.inl J) e,s,⟨m,i,j,k _ _ (.inr d) M,c⟩,r⟩|own y=>obtain⟨g,e⟩:=x;exact⟨g,k _ _ (.inl J) e⟩|xd L=>obtain⟨s,⟨m,i,j,e,c⟩,r⟩:=x;exact⟨s,⟨m,i,j,k _ _ (.inl J) e,c⟩,r⟩|rng lo R=>obtain⟨t,u,v,e⟩:=x;exact⟨t,u,v,k _ _ (.inl J) e⟩|frz g u F=>obtain⟨e,q⟩:=x;exact⟨k _ _ (.inl J) e,F q⟩| tbl Q=>have e:=x;exact k a _ (.inl J) e| met f y=>have e:=x;exact k a _ (.inl J) e|ext N=>obtain⟨p,⟨o,e⟩,st⟩:=x;exact⟨st _ _ p λo q=>k _ _ (.inl J) q,⟨o,k _ _ (.inl J) e⟩,st⟩
theorem bR.lt(x:bR P w H h)(e:H a=some o):a<h.objs.size:=(x a o e).lt
theorem bR.fresh(x:bR P w H h)(e:h.objs.size<=a):H a=none:=by cases q:H a with|none=>rfl|some u=>exact absurd (cf (x.lt q) e) (cp _)
theorem bR.kept(x:bR P w H h)(k:∀b u,h.get? b=some u->h'.get? b=some u):bR P w H h':=λa o e=>(x a o e).stay (λb u _ q=>k b u q) (λ_ q=>q) λ_ _ q=>q
theorem bR.laid(x:bR P w H h)(k:∀b u,h.get? b=some u->h'.get? b=some u)(i:h.objs.size<=a)(g:wq P w (upd H a o) h' a o):bR P w (upd H a o) h':=λb u e=>by have d:=x.fresh i;by_cases f:b=a;subst f;rw[ze]at e;simp_all;rw[upd_ne f]at e;exact(x b u e).stay (λc v _ q=>k c v q) (λc q=>by rw[upd_ne (zj q d)];exact q) λc j q=>by rw[upd_ne (zj q d)];exact q
end
def Rd(H:Hp)(a:Addr)(u:HO):Prop:=H a=some u\/∃o,H a=some (.frz o u)
theorem Rd.ok(r:Rd H a u)(x:bR P w H h):wq P w H h a u:=by rcases r with r|⟨o,r⟩;exact x a u r;obtain⟨_,q⟩:=x a _ r;exact q
def mW:Option HO->Prop|some (.lst _)=>True|some (.dK _)=>True|some (.dT _)=>True|some (.set _ _)=>True|some (.ins _ _ _)=>True|some (.ext _)=>True|_=>False
section
variable{x e:Addr}{o':HO}
theorem bR.write(m:bR P w H h)(g:mW (H x))(he:e=x\/H e=some (.own x))(k:∀b u,b≠e->h.get? b=some u->h'.get? b=some u)(i:∃u,h'.get? e=some u)(n:wq P w (upd H x o') h' x o'):bR P w (upd H x o') h':=λb u q=>by
 have d:∀c y,H c=some (.own y)->c≠x:=λc y r z=>by subst z;rw[r]at g;exact g
 have a:∀c f,H c=some (.tup f)->c≠x:=λc f r z=>by subst z;rw[r]at g;exact g
 by_cases l:b=x;subst l;rw[ze]at q;simp_all;rw[upd_ne l]at q;by_cases o:b=e;have j:H b=some (.own x):=by simp_all
 rw[q]at j;cases j;obtain⟨v,p⟩:=i;exact⟨v,by simp_all⟩;refine(m b u q).stay (λc v s r=>k c v ?_ r) (λc r=>by rw[upd_ne (d c b r)];exact r) λc f r=>by rw[upd_ne (a c f r)];exact r
 grind
end
structure Un(fs ex:List Addr)(H H':Hp)(h h':Heap):Prop where
 keep:∀b o,h.get? b=some o->H b=none->b ∉ fs->b ∉ ex->h'.get? b=some o
 slot:∀b o,h.get? b=some o->H b=none->b∈fs->b ∉ ex->∃sl,h'.get? b=some {o with slots:=sl}
 free:∀b o,h.get? b=some o->H b=none->b ∉ ex->H' b=none
 there:∀b o,h.get? b=some o->b ∉ ex->∃o',h'.get? b=some o'
 tups:∀b xs,H b=some (.tup xs)->H' b=some (.tup xs)
 frzs:∀b o u,H b=some (.frz o u)->H' b=some (.frz o u)
 tbls:∀b ps,H b=some (.tbl ps)->∃more,H' b=some (.tbl (ps++more))
section
variable{fs Fm ex Fx:List Addr}{H1 H2:Hp}{h1 h2:Heap}{x e:Addr}
theorem Un.any(u:Un fs ex H H1 h h1){a:Obj}(q:h.get? b=some a)(n:H b=none)(c:b ∉ ex):∃sl,h1.get? b=some {a with slots:=sl}:=by by_cases d:b∈fs;exact u.slot b a q n d c;exact⟨a.slots,u.keep b a q n d c⟩
theorem Un.kept(k:∀b u,h.get? b=some u->h'.get? b=some u):Un fs ex H H h h':=⟨λb a q _ _ _=>k b a q,λb a q _ _ _=>⟨a.slots,k b a q⟩,λ_ _ _ n _=>n,λb a q _=>⟨a,k b a q⟩,λ_ _ q=>q,λ_ _ _ q=>q,λ_ c q=>⟨#[],by simp_all⟩⟩
theorem Un.refl:Un fs ex H H h h:=Un.kept λ_ _ q=>q
theorem Un.laid(k:∀b u,h.get? b=some u->h'.get? b=some u)(e:h.objs.size<=a)(c:H a=none):Un fs ex H (upd H a o) h h' where
 keep:=λb u q _ _ _=>k b u q
 slot:=λb u q _ _ _=>⟨u.slots,k b u q⟩
 free:=λb u q n _=>by rw[upd_ne (az (cf (au q) e))];exact n
 there:=λb u q _=>⟨u,k b u q⟩
 tups:=λb d q=>by rw[upd_ne (zj q c)];exact q
 frzs:=λb u d q=>by rw[upd_ne (zj q c)];exact q
 tbls:=λb f q=>⟨#[],by rw[upd_ne (zj q c),q];simp⟩
theorem Un.write(c:mW (H x))(he:e=x\/H e=some (.own x))(k:∀b u,b≠e->h.get? b=some u->h'.get? b=some u)(i:∃u,h'.get? e=some u):Un fs ex H (upd H x o) h h':=by
 have g:∀b,H b=none->b≠x:=λb n z=>by subst z;rw[n]at c;exact c
 have d:∀b,H b=none->b≠e:=λb n z=>by simp_all
 have a:∀b u,H b=some u->¬mW (some u)->b≠x:=λb u q l z=>by simp_all
 refine⟨λb u q n _ _=>k b u (d b n) q,λb u q n _ _=>⟨u.slots,k b u (d b n) q⟩,λb u q n _=>by rw[upd_ne (g b n)];exact n,λb u q _=>?_,λb f q=>by rw[upd_ne (a b _ q λz=>z)];exact q,λb u f q=>by rw[upd_ne (a b _ q λz=>z)];exact q,λb j q=>⟨#[],by rw[upd_ne (a b _ q λz=>z),q];simp⟩⟩
 grind
end
noncomputable def nO(h:Heap)(H:Hp):List Addr:=(List.range h.objs.size).filter λa=>(H a).isSome
noncomputable def i0(h:Heap)(H:Hp):Heap:=W.hideAll h (nO h H)
theorem C3(h:Heap)(H:Hp):(i0 h H).objs.size=h.objs.size:=W.hideAll_size _ _
theorem Cl{o:Obj}(e:h.get? b=some o)(n:H b=none):(i0 h H).get? b=some o:=
 W.hideAll_get _ e λa=>by
  have q:=(d8.mp a).2
  simp_all
theorem Bc{o:Obj}(e:(i0 h H).get? b=some o):h.get? b=some o/\H b=none:=by
 have a:=W.of_hideAll (nO h H) e;refine⟨a,?_⟩;cases q:H b with|none=>rfl| some x=>
   have c:b∈nO h H:=d8.mpr ⟨bp.mpr (au a),by grind⟩;have z:(i0 h H).get? b=none:=W.hideAll_none (nO h H) c
   simp_all
noncomputable def AQ(g h:Heap)(L:Addr):List (Addr×Obj):=(List.range h.objs.size).filterMap λa=>if a=L\/(g.get? a).isSome=true then none else(h.get? a).map λo=>(a,o)
noncomputable def vw(g h:Heap)(L d:Addr):List (Addr×Obj):=(AQ g h L).filter λp=>decide (p.1≠d)
structure Mod(K:W.Frag)(mg:Str->Option Value)(base:Heap):Prop where
 kin:K.In base
 glob:base.Ns mainGlobals mg
 blt:∃mb,base.Ns builtinsNs mb/\∀x:Str,x≠"__name__"->mb x=bootBuiltins x
 nolimit:base.NoLimit
structure Cx where
 prog:Program
 w:World
 K:W.Frag
 mg:Str->Option Value
 base:Heap
 A:Around
 N:List Str
 s₀:Shared
 H₀:Hp
 env:Env
 outer:List Env
 stack:List Env
 ex:List Addr
 fn:Str->Bool
 calm:Bool
 pn:List (Addr×Obj)
 xe:Value->Shared->Prop
noncomputable def fS(l:List Env):List Addr:=l.filterMap (·.frame)
variable{A:Around}{pins cH:List (Addr×Obj)}{σ:List (Option V)}{ch:List Addr}{N:List Str}{i t':Nat}{s:Shared}{x:Str}{Q:Unit->Shared->Prop}{v:V}{u:Value}{E:Value->Shared->Prop}
abbrev Cx.fs(X:Cx):List Addr:=fS X.outer
def mT(B:Scope)(x:Str):Prop:=B.names.lookup x=some .local\/B.names.lookup x=some .cell\/B.names.lookup x=some .free
def Loc(B:Scope)(x:Str):Prop:=B.names.lookup x=some .local\/B.names.lookup x=some .cell
def rD(B:Env)(h:Heap)(m:Str->Option Value)(x:Str)(u:Value):Prop:=(B.kindOf x=some .local/\m x=some u)\/((B.kindOf x=some .cell\/B.kindOf x=some .free)/\∃c,B.cells.lookup x=some c/\h.IsCell c (some u))
structure Cx.Ok(X:Cx):Prop where
 mod:Mod X.K X.mg X.base
 kind:X.env.scope.kind=.function
 glob:X.env.globals=mainGlobals
 blt:X.env.builtins=builtinsNs
 above:X.s₀.heap.objs.size<=X.env.locals
 inj:∀x y c,X.env.cells.lookup x=some c->X.env.cells.lookup y=some c->x=y
 has:∀x,(X.env.kindOf x=some .cell\/X.env.kindOf x=some .free)->∃c,X.env.cells.lookup x=some c
 cab:∀x c,X.fn x=true->X.env.cells.lookup x=some c->X.s₀.heap.objs.size<=c
 hd:X.calm=true->X.A.handled=none
 frames:X.A.frames=some X.stack
 stk:X.stack=X.outer\/(X.stack=X.env::X.outer/\X.env.frame=some X.env.locals)
 exf:∀b∈X.ex,b≠X.env.locals/\∀x c,X.env.cells.lookup x=some c->c≠b
 bs:∀b o,X.base.get? b=some o->X.s₀.heap.get? b=some o/\X.H₀ b=none
 bsz:X.base.objs.size<=X.s₀.heap.objs.size
 noex:∀b o,X.base.get? b=some o->b ∉ X.ex
 exfs:∀b∈X.ex,b ∉ X.fs
 funs:X.s₀.heap.FunFrames X.base X.outer
 frf:∀b∈X.fs,X.H₀ b=none
structure Inv(X:Cx)(pins:List (Addr×Obj))(σ:List (Option V))(H:Hp)(s:Shared):Prop where
 ok:X.Ok
 os:s.os=X.s₀.os
 bare:AllBare s.gens
 base:Un X.fs X.ex X.H₀ H X.s₀.heap s.heap
 loc:∃m,s.heap.Ns X.env.locals m/\∀(i:Nat)(x:Str)(v:V),X.N[i]?=some x->σ[i]?=some (some v)->mT X.env.scope x->∃u,yk v u/\rD X.env s.heap m x u
 cell:∀x c,X.env.cells.lookup x=some c->∃v,s.heap.IsCell c v
 free:H X.env.locals=none
 freeC:∀x c,X.env.cells.lookup x=some c->H c=none
 pin:∀p∈X.pn++pins,s.heap.get? p.1=some p.2/\H p.1=none/\p.1≠X.env.locals/\p.1 ∉ X.fs/\∀v,p.2.data≠ .cell v
 hok:bR X.prog X.w H s.heap
 len:σ.length=X.N.length
section
variable{X:Cx}{H':Hp}
theorem Cx.Ok.nofr(a:X.Ok){o:Obj}(e:X.base.get? b=some o):b ∉ X.fs:=λc=>by
 have:=(a.funs.mem c).1
 simp_all
theorem Inv.bs(I:Inv X pins σ H s):∀b o,X.base.get? b=some o->s.heap.get? b=some o/\H b=none:=λb o e=>⟨I.base.keep b o (I.ok.bs b o e).1 (I.ok.bs b o e).2 (I.ok.nofr e) (I.ok.noex b o e),I.base.free b o (I.ok.bs b o e).1 (I.ok.bs b o e).2 (I.ok.noex b o e)⟩
theorem Inv.bk(I:Inv X pins σ H s):∀b o,X.base.get? b=some o->s.heap.get? b=some o:=λb o e=>(I.bs b o e).1
theorem Inv.mod(I:Inv X pins σ H s):Mod X.K X.mg X.base:=I.ok.mod
theorem Inv.kIn(I:Inv X pins σ H s):X.K.In s.heap:=I.ok.mod.kin.keeps I.bk
theorem Inv.lt(I:Inv X pins σ H s):X.env.locals<s.heap.objs.size:=let⟨_,a,_⟩:=I.loc;a.lt
theorem Inv.sz(I:Inv X pins σ H s):X.s₀.heap.objs.size<=s.heap.objs.size:=cj I.ok.above (Nat.le_of_lt I.lt)
theorem Inv.nofs(I:Inv X pins σ H s)(h:s.heap.objs.size<=a):a ∉ X.fs:=λc=>by obtain⟨_,o,b,_⟩:=I.ok.funs.mem c;exact absurd (cf (au b) (cj I.sz h)) (cp _)
theorem Inv.cne(I:Inv X pins σ H s):∀x c,X.env.cells.lookup x=some c->c≠X.env.locals:=λx c e z=>by
 obtain⟨v,o,f,g⟩:=I.cell x c e;obtain⟨m,⟨d,h,i,a,b,_⟩,_⟩:=I.loc
 simp_all
theorem Inv.funs(I:Inv X pins σ H s):s.heap.FunFrames X.base X.outer:=by
 have d:∀(l:O Env),(∀b∈fS l,b∈X.fs)->X.s₀.heap.FunFrames X.base l->s.heap.FunFrames X.base l:=by intro l;induction l with|nil=>intro _ _;trivial| cons p r h=>intro f m;obtain⟨hk,⟨L,o,g,k,j,n⟩,i⟩:=m;have c:=f L (by unfold fS;simp_all);obtain⟨q,e⟩:=I.base.slot L o j (I.ok.frf L c) c λz=>I.ok.exfs L z c;exact⟨hk,⟨L,_,g,k,e,n⟩,h (λb a=>f b (by unfold fS;rw[List.filterMap_cons,g];exact br _ a)) i⟩
 exact d X.outer (λ_ a=>a) I.ok.funs
theorem Inv.stack(I:Inv X pins σ H s):s.heap.FunFrames X.base X.stack:=by rcases I.ok.stk with e|⟨e,b⟩;rw[e];exact I.funs;rw[e];obtain⟨m,a,_⟩:=I.loc;refine .cons (by rw[I.ok.kind];decide) b a ?_ I.funs;exact Heap.get?_none_of_le (cj I.ok.bsz I.ok.above)
theorem Inv.stkSub(I:Inv X pins σ H s):∀b∈fS X.stack,b∈X.env.locals::X.fs:=λb a=>by
 rcases I.ok.stk with e|⟨e,c⟩
 simp_all
 rw[e]at a;unfold fS at a;rw[List.filterMap_cons,c]at a;exact a
theorem Inv.stkFree(I:Inv X pins σ H s):∀b∈fS X.stack,H b=none:=λb a=>by rcases ak.mp (I.stkSub b a)with e|a;rw[e];exact I.free;obtain⟨_,o,c,_⟩:=I.ok.funs.mem a;exact I.base.free b o c (I.ok.frf b a) λz=>I.ok.exfs b z a
theorem Inv.step{R:Array GenState}{d':Drawn}(I:Inv X pins σ H s)(g:∀b∈ch,(b∈X.ex\/X.s₀.heap.objs.size<=b)/\b≠X.env.locals/\(∀x c,X.env.cells.lookup x=some c->c≠b)/\∀p∈X.pn++pins,p.1≠b)
  (keep:∀b o,b≠X.env.locals->b ∉ X.fs->b ∉ ch->s.heap.get? b=some o->H b=none->h'.get? b=some o)
  (w:∀b o,b≠X.env.locals->b∈X.fs->b ∉ ch->s.heap.get? b=some o->H b=none->∃sl,h'.get? b=some {o with slots:=sl}) (free:∀b o,b ∉ ch->s.heap.get? b=some o->H b=none->H' b=none)
  (y:∀b o,b ∉ ch->s.heap.get? b=some o->∃o',h'.get? b=some o')
  (C:∀b xs,H b=some (.tup xs)->H' b=some (.tup xs)) (F:∀b o u,H b=some (.frz o u)->H' b=some (.frz o u)) (D:∀b ps,H b=some (.tbl ps)->∃more,H' b=some (.tbl (ps++more)))
  (ns:∀m,s.heap.Ns X.env.locals m->h'.Ns X.env.locals m) (hok:bR X.prog X.w H' h') (hg:AllBare R):
  Inv X pins σ H' {s with heap:=h',gens:=R,drawn:=d',toks:=t'}:=by
 have E:∀b o,X.s₀.heap.get? b=some o->b≠X.env.locals:=λb o e=>az (cf (au e) I.ok.above);have j:∀b o,X.s₀.heap.get? b=some o->b ∉ X.ex->b ∉ ch:=λb o e a A=>by rcases(g b A).1 with z|z;exact a z;exact absurd (cf (au e) z) (cp _)
 have h:∀x c,X.env.cells.lookup x=some c->∀v,s.heap.IsCell c v->h'.IsCell c v:=λx c e v ⟨o,B,L⟩=>by have f:c ∉ ch:=λz=>(g c z).2.2.1 x c e J;by_cases Q:c∈X.fs;obtain⟨sl,q⟩:=w c o (I.cne x c e) Q f B (I.freeC x c e);exact⟨_,q,L⟩;exact⟨o,keep c o (I.cne x c e) Q f B (I.freeC x c e),L⟩
 refine⟨I.ok,I.os,hg,⟨λb o e n A a=>?_,λb o e n A a=>?_,λb o e n a=>?_,λb o e a=>?_,λb xs e=>C b xs (I.base.tups b xs e),λb o xs e=>F b o xs (I.base.frzs b o xs e),λb ps e=>?_⟩,?_,λx c e=>?_,?_,λx c e=>?_,λp P=>?_,hok,I.len⟩;exact keep b o (E b o e) A (j b o e a) (I.base.keep b o e n A a) (I.base.free b o e n a);obtain⟨sl,t⟩:=I.base.slot b o e n A a;obtain⟨K,G⟩:=w b _ (E b o e) A (j b o e a) t (I.base.free b o e n a);exact⟨K,G⟩;obtain⟨o',t⟩:=I.base.there b o e a;exact free b o' (j b o e a) t (I.base.free b o e n a);obtain⟨o',t⟩:=I.base.there b o e a;exact y b o' (j b o e a) t;obtain⟨U,t⟩:=I.base.tbls b ps e;obtain⟨S,G⟩:=D b _ t;exact⟨U++S,by rw[G,Array.append_assoc]⟩;obtain⟨m,W,Z⟩:=I.loc;refine⟨m,ns m W,λi x v t G e3=>?_⟩;obtain⟨u,r,l⟩:=Z i x v t G e3;refine⟨u,r,?_⟩;rcases l with l|⟨k,c,e,z⟩;exact .inl l;exact .inr ⟨k,c,e,h x c e _ z⟩;obtain⟨v,z⟩:=I.cell x c e;exact⟨v,h x c e v z⟩;obtain⟨m,⟨o,_,_,B,_⟩,_⟩:=I.loc;exact free _ o (λz=>(g _ z).2.1 J) B I.free;obtain⟨v,o,B,L⟩:=I.cell x c e;exact free c o (λz=>(g c z).2.2.1 x c e J) B (I.freeC x c e);obtain⟨e,n,N,M,d⟩:=I.pin p P;have f:p.1 ∉ ch:=λz=>(g p.1 z).2.2.2 p P J;exact⟨keep p.1 p.2 N M f e n,free p.1 p.2 f e n,N,M,d⟩
theorem Inv.un(I:Inv X pins σ H s)(u:Un X.fs [] H H' s.heap h')(hok:bR X.prog X.w H' h'):Inv X pins σ H' {s with heap:=h',toks:=t'}:=by obtain⟨m,⟨o,q,t,g,r⟩,_⟩:=id I.loc;obtain⟨k,j⟩:=u.any g I.free (by simp);exact I.step (ch:=[]) (λ_ z=>nomatch z) (λb o _ c _ e n=>u.keep b o e n c (by simp)) (λb o _ c _ e n=>u.slot b o e n c (by simp)) (λb o _ e n=>u.free b o e n (by simp)) (λb o _ e=>u.there b o e (by simp)) u.tups u.frzs u.tbls (λp i=>by obtain⟨l,d,f,a,h⟩:=i;rw[g]at a;cases a;exact⟨_,d,f,j,h⟩) hok I.bare
theorem Inv.call{k:Array GenState}{w:Drawn}(I:Inv X pins σ H s)(u:Un (fS X.stack) ch H H' s.heap h')(hok:bR X.prog X.w H' h')(t:AllBare k)(f:∀b∈ch,(b∈X.ex\/X.s₀.heap.objs.size<=b)/\b≠X.env.locals/\(∀x c,X.env.cells.lookup x=some c->c≠b)/\∀p∈X.pn++pins,p.1≠b):
  Inv X pins σ H' {s with heap:=h',gens:=k,drawn:=w,toks:=t'}:=by obtain⟨m,⟨o,C,D,j,r⟩,_⟩:=id I.loc;obtain⟨y,g⟩:=u.any j I.free λz=>(f _ z).2.1 J;exact I.step f (λb o g v a e n=>u.keep b o e n (λz=>(ak.mp (I.stkSub b z)).elim g v) a) (λb o _ _ a e n=>u.any e n a) (λb o a e n=>u.free b o e n a) (λb o a e=>u.there b o e a) u.tups u.frzs u.tbls (λB q=>by obtain⟨A,h,i,d,l⟩:=q;rw[j]at d;cases d;exact⟨_,h,i,g,l⟩) hok t
theorem Inv.turned{a:Y}(I:Inv X pins σ H s)(k:∀b o,b≠a->s.heap.get? b=some o->h'.get? b=some o)(w:H a=none)(i:a≠X.env.locals)(C:a∈X.ex\/X.s₀.heap.objs.size<=a) (B:∀x c,X.env.cells.lookup x=some c->c≠a) (A:∀p∈X.pn++pins,p.1≠a):Inv X pins σ H {s with heap:=h',toks:=t'}:=by
 have f:∀b u,H b=some u->b≠a:=λb u e z=>by simp_all
 refine I.step (ch:=[a]) (λb y=>?_) (λb o _ _ d e _=>k b o (λz=>d (by grind)) e) (λb o _ _ d e _=>⟨o.slots,k b o (λz=>d (by grind)) e⟩) (λ_ _ _ _ n=>n)
  (λb o d e=>⟨o,k b o (λz=>d (by grind)) e⟩) (λ_ _ e=>e) (λ_ _ _ e=>e) (λb t e=>⟨#[],by simp_all⟩) (λm h=>?_) (λb u e=>?_) I.bare
 grind
 obtain⟨o,j,l,g,r⟩:=h;exact⟨o,j,l,k _ o (aj i) g,r⟩;refine(I.hok b u e).stay (λc v d q=>k c v ?_ q) (λ_ q=>q) λ_ _ q=>q
 grind
theorem Inv.tok(I:Inv X pins σ H s)(t:Nat):Inv X pins σ H {s with toks:=t}:=I.un Un.refl I.hok
theorem Inv.kept{t':Nat}(I:Inv X pins σ H s)(k:∀b u,s.heap.get? b=some u->h'.get? b=some u):Inv X pins σ H {s with heap:=h',toks:=t'}:=I.un (Un.kept k) (I.hok.kept k)
theorem Inv.laid{a:Y}{o:HO}{t':Nat}(I:Inv X pins σ H s)(k:∀b u,s.heap.get? b=some u->h'.get? b=some u)(d:s.heap.objs.size<=a)(c:wq X.prog X.w (upd H a o) h' a o):Inv X pins σ (upd H a o) {s with heap:=h',toks:=t'}:=I.un (Un.laid k d (I.hok.fresh d)) (I.hok.laid k d c)
theorem Inv.write{x e:Y}{o:HO}{t':Nat}(I:Inv X pins σ H s)(d:mW (H x))(he:e=x\/H e=some (.own x))(k:∀b u,b≠e->s.heap.get? b=some u->h'.get? b=some u)(a:∃u,h'.get? e=some u)(c:wq X.prog X.w (upd H x o) h' x o):Inv X pins σ (upd H x o) {s with heap:=h',toks:=t'}:=I.un (Un.write d he k a) (I.hok.write d he k a c)
theorem Inv.pins_of(I:Inv X pins σ H s)(h:∀p∈cH,s.heap.get? p.1=some p.2/\H p.1=none/\p.1≠X.env.locals/\p.1 ∉ X.fs/\∀v,p.2.data≠ .cell v):Inv X cH σ H s:=⟨I.ok,I.os,I.bare,I.base,I.loc,I.cell,I.free,I.freeC,λp a=>(dc.mp a).elim (λz=>I.pin p (ef _ z)) (h p),I.hok,I.len⟩
theorem vB(hN:N.Nodup){j:Nat}(a:N[i]?=some x)(b:N[j]?=some x):i=j:=by obtain⟨f,d⟩:=c9.mp a;obtain⟨e,c⟩:=c9.mp b;exact(List.getElem_inj hN).mp (d.trans c.symm)
theorem Ju{M:Model}(I:Inv X pins σ H s)(hN:X.N.Nodup)(R:X.N[i]?=some x)(t:Loc X.env.scope x)(r:yk v u)(h:∀s',Inv X pins (σ.set i (some v)) H s'->(∃a,Heap.SameBut a s.heap s'.heap/\(a=X.env.locals\/X.env.cells.lookup x=some a))->Q () s') (hf:X.fn x=true\/X.env.scope.names.lookup x=some .local:=by first|exact .inl J|exact .inr J|assumption):wpAny M A (storeName X.env x u) Q E s:=by
 obtain⟨m,hn,hl⟩:=id I.loc;have N:(X.env.scope.kind==.class ||(X.env.scope.kind==.module && X.env.locals !=X.env.globals))=false:=by rw[I.ok.kind];rfl
 have C:i<σ.length:=by rw[I.len];grind
 have K:=I.cne;have g:∀{a:Y}{L:Heap},(∃o,s.heap.get? a=some o/\H a=none)->Heap.SameBut a s.heap L->bR X.prog X.w H L:=λ{a L} ha f b ob e=>by
  obtain⟨_,_,ap⟩:=ha;refine(I.hok b ob e).stay (λc U w q=>(f.2 c ?_).trans q) (λ_ q=>q) λ_ _ q=>q
  grind
 rcases t with hk|hk;refine wpAny_storeName_local hk hn (λL ao f=>?_) N;obtain⟨oL,_,_,ah,_⟩:=id hn;refine h _ ⟨I.ok,I.os,I.bare,⟨λb o e n G t=>?_,λb o e n G t=>?_,I.base.free,λb o e t=>?_,I.base.tups,I.base.frzs,I.base.tbls⟩,⟨_,ao,λj y W l B e3=>?_⟩,λy c e=>?_,I.free,I.freeC,λp hp=>?_,g ⟨oL,ah,I.free⟩ f,by simpa using I.len⟩ ⟨_,f,.inl J⟩;exact(f.2 b (az (cf (au e) I.ok.above))).trans (I.base.keep b o e n G t);obtain⟨sl,l⟩:=I.base.slot b o e n G t;exact⟨sl,(f.2 b (az (cf (au e) I.ok.above))).trans l⟩;obtain⟨o',l⟩:=I.base.there b o e t;exact⟨o',(f.2 b (az (cf (au e) I.ok.above))).trans l⟩;by_cases D:j=i;subst D;rw[R]at l;cases l;rw[List.getElem?_set_self C]at B;cases B;exact⟨u,r,.inl ⟨hk,by simp⟩⟩;rw[List.getElem?_set_ne (aj D)]at B;obtain⟨Z,r',q⟩:=hl j y W l B e3;refine⟨Z,r',?_⟩;rcases q with⟨k,e⟩|⟨k,c,e,z⟩;refine .inl ⟨k,?_⟩;have:y≠x:=λe=>D (vB hN l (e▸R))
 simp_all
 exact .inr ⟨k,c,e,z.sameBut f (K y c e)⟩;obtain⟨U,z⟩:=I.cell y c e;exact⟨U,z.sameBut f (K y c e)⟩;obtain⟨e,n,P,nf,d⟩:=I.pin p hp;exact⟨(f.2 p.1 P).trans e,n,P,nf,d⟩;have F:X.fn x=true:=by simp_all
 obtain⟨c,w⟩:=I.ok.has x (.inl hk);obtain⟨U,z⟩:=I.cell x c w;refine wpAny_storeName_cell I.ok.kind hk w z (λL aw f=>?_);obtain⟨oc,ag,ay⟩:=id z;refine h {s with heap:=L} ⟨I.ok,I.os,I.bare,⟨λb o e n G t=>?_,λb o e n G t=>?_,I.base.free,λb o e t=>?_,I.base.tups,I.base.frzs,I.base.tbls⟩,⟨m,hn.sameBut f (aj (K x c w)),λj y W l B e3=>?_⟩,λy S e=>?_,I.free,I.freeC,λp hp=>?_,g ⟨oc,ag,I.freeC x c w⟩ f,by simpa using I.len⟩ ⟨c,f,.inr w⟩;exact(f.2 b (az (cf (au e) (I.ok.cab x c F w)))).trans (I.base.keep b o e n G t);obtain⟨sl,l⟩:=I.base.slot b o e n G t;exact⟨sl,(f.2 b (az (cf (au e) (I.ok.cab x c F w)))).trans l⟩;obtain⟨o',l⟩:=I.base.there b o e t;exact⟨o',(f.2 b (az (cf (au e) (I.ok.cab x c F w)))).trans l⟩;by_cases D:j=i;subst D;rw[R]at l;cases l;rw[List.getElem?_set_self C]at B;cases B;exact⟨u,r,.inr ⟨.inl hk,c,w,aw⟩⟩;rw[List.getElem?_set_ne (aj D)]at B;obtain⟨Z,r',q⟩:=hl j y W l B e3;refine⟨Z,r',?_⟩;rcases q with q|⟨k,S,e,z'⟩;exact .inl q;refine .inr ⟨k,S,e,z'.sameBut f ?_⟩;rintro rfl;exact D (vB hN l (I.ok.inj _ _ _ e w▸R));by_cases av:S=c
 grind
 obtain⟨w2,z2⟩:=I.cell y S e;exact⟨w2,z2.sameBut f av⟩;obtain⟨e,n,P,nf,d⟩:=I.pin p hp;refine⟨(f.2 p.1 ?_).trans e,n,P,nf,d⟩
 grind
theorem vS{M:Model}(I:Inv X pins σ H s)(hN:X.N.Nodup)(b:X.N[i]?=some x)(a:Loc X.env.scope x)(r:yk v u)(h:∀s',Inv X pins (σ.set i (some v)) H s'->Q () s') (c:X.fn x=true\/X.env.scope.names.lookup x=some .local:=by first|exact .inl J|exact .inr J|assumption):wpAny M A (storeName X.env x u) Q E s:=
 Ju I hN b a r (λs' d _=>h s' d) c
theorem Inv.call'{a:Shared}(I:Inv X pins σ H s)(f:a.os=s.os)(u:Un (fS X.stack) ch H H' s.heap a.heap)(hok:bR X.prog X.w H' a.heap)(g:AllBare a.gens)(d:∀b∈ch,(b∈X.ex\/X.s₀.heap.objs.size<=b)/\b≠X.env.locals/\(∀x c,X.env.cells.lookup x=some c->c≠b)/\∀p∈X.pn++pins,p.1≠b):Inv X pins σ H' a:=by obtain⟨j,k,l,h,i⟩:=a;have e:=f;subst e;exact I.call u hok g d
end
abbrev XK:=Value->Option Addr->Hp->Prop
abbrev St:=List (Option V)
abbrev VK:=V->Hp->Prop
abbrev TE:=St->Hp->VK->Prop
abbrev TT:=St->Hp->(Bool->Hp->Prop)->Prop
abbrev TA:=St->Hp->(List V->Hp->Prop)->Prop
structure Ends where
 nx:St->Hp->Prop
 rt:VK
 bk:St->Hp->Prop:=λ_ _=>False
 ct:St->Hp->Prop:=λ_ _=>False
variable{X:Cx}{c e:Expr}{Fe:List Stmt}{aE:Pos}{σ:St}{Q:Value->Shared->Prop}
abbrev TS:=Ends->St->Hp->Prop
abbrev Ends.sq(D:Ends)(u:TS):Ends:={D with nx:=u D}
abbrev Ends.lp(D:Ends)(N:St->Hp->Prop):Ends:={D with nx:=N,ct:=N,bk:=D.nx}
abbrev Ends.of(Q:VK):Ends:={nx:=λ_ H'=>Q .non H',rt:=Q}
inductive EP(X:Cx)(pins:List (Addr×Obj))(σ:St)(Q:VK)(u:Value)(s':Shared):Prop|mk:∀v H',Inv X pins σ H' s'->yk v u->Q v H'->EP X pins σ Q u s'
inductive TP(X:Cx)(pins:List (Addr×Obj))(σ:St)(Q:Bool->Hp->Prop)(b:Bool)(s':Shared):Prop|mk:∀H',Inv X pins σ H' s'->Q b H'->TP X pins σ Q b s'
inductive AP(X:Cx)(pins:List (Addr×Obj))(σ:St)(Q:List V->Hp->Prop)(us:List Value)(s':Shared):Prop|mk:∀vs H',Inv X pins σ H' s'->yo vs us->Q vs H'->AP X pins σ Q us s'
def SP(X:Cx)(B:List (Addr×Obj))(D:Ends)(f:Flow)(F:Shared):Prop:=match f with|.next=>∃σ' H',Inv X B σ' H' F/\D.nx σ' H'|.brk=>∃σ' H',Inv X B σ' H' F/\D.bk σ' H'|.cont=>∃σ' H',Inv X B σ' H' F/\D.ct σ' H'|.ret u=>∃v σ' H',Inv X B σ' H' F/\yk v u/\D.rt v H'
def PE(X:Cx)(e:Expr)(t:TE):Prop:=∀(pins:List (Addr×Obj))(s:Shared)(σ:St)(H:Hp)(Q:VK),Inv X pins σ H s->t σ H Q->wpAny (model X.prog X.w) X.A (eval e X.env) (EP X pins σ Q) X.xe s
def PT(X:Cx)(e:Expr)(t:TT):Prop:=∀(pins:List (Addr×Obj))(s:Shared)(σ:St)(H:Hp)(Q:Bool->Hp->Prop),Inv X pins σ H s->t σ H Q->wpAny (model X.prog X.w) X.A (isTrue e X.env (eval e X.env)) (TP X pins σ Q) X.xe s
def PW(X:Cx)(e:Expr)(t:TT):Prop:=∀(B:Sem Value)(pins:List (Addr×Obj))(s:Shared)(σ:St)(H:Hp)(Q:Bool->Hp->Prop),Inv X pins σ H s->t σ H Q->wpAny (model X.prog X.w) X.A (isTrue e X.env B) (TP X pins σ Q) X.xe s
theorem PW.pt{t:TT}(h:PW X e t):PT X e t:=h _
def PA(X:Cx)(es:List Expr)(t:TA):Prop:=∀(aE:Pos)(pins:List (Addr×Obj))(s:Shared)(σ:St)(H:Hp)(Q:List V->Hp->Prop),Inv X pins σ H s->t σ H Q->wpAny (model X.prog X.w) X.A (spliced (backTo aE (starEach es X.env))) (AP X pins σ Q) X.xe s
def PS(X:Cx)(st:Stmt)(t:TS):Prop:=∀(pins:List (Addr×Obj))(s:Shared)(σ:St)(H:Hp)(D:Ends),Inv X pins σ H s->t D σ H->wpAny (model X.prog X.w) X.A (exec st X.env) (SP X pins D) X.xe s
def dO(X:Cx)(st:List Stmt)(t:TS):Prop:=∀(pins:List (Addr×Obj))(s:Shared)(σ:St)(H:Hp)(D:Ends),Inv X pins σ H s->t D σ H->wpAny (model X.prog X.w) X.A (execs st X.env) (SP X pins D) X.xe s
theorem aG{b:Type}{t:Sem b}{Q c:b->Shared->Prop}{M:Model}(h:wpAny M A t Q E s)(d:∀a s,Q a s->c a s):wpAny M A t c E s:=de h d λ_ _ x=>x
section
def oV:Option (Option V)->(V->Prop)->Prop|some (some v),f=>f v|_,_=>False
theorem Ah{o:Option (Option V)}{f:V->Prop}(h:oV o f):∃v,o=some (some v)/\f v:=by match o,h with|some (some v),h=>exact⟨v,J,h⟩
theorem yV{o:Option (Option V)}{f:V->Prop}(e:o=some (some v))(h:f v):oV o f:=by rw[e];exact h
def jh(i:Nat)(B:St)(H:Hp)(Q:VK):Prop:=oV B[i]? λv=>Q v H
def tC(v:V):TE:=λ_ H Q=>Q v H
theorem Au(hN:X.N[i]?=some x)(n:mT X.env.scope x)(f:(x==("__debug__":Str))=false:=by decide)(g:(x==("__classdict__":Str))=false:=by decide):PE X (.Name x aE) (jh i):=by
 intro d s k H Q I h;replace h:=Ah h;obtain⟨v,e,h⟩:=h;obtain⟨m,o,q⟩:=I.loc;obtain⟨u,r,l⟩:=q i x v hN e n;have b:EP X d k Q u s:=⟨v,H,I,r,h⟩
 rcases l with⟨hk,p⟩|⟨hk,c,j,a⟩;exact wpAny_Name (wpAny_loadName_local I.ok.kind hk o p b) f;rcases hk with hk|hk;exact wpAny_Name (wpAny_loadName_cell I.ok.kind hk j a b) f;exact wpAny_Name (wpAny_loadName_free I.ok.kind hk j a b g) f
theorem zg{i j a}:PE X (.Constant (.int i) j a) (tC (.int i)):=λ_ _ _ H _ I h=>wpAny_Constant_int ⟨.int i,H,I.tok _,⟨_,J⟩,h⟩
theorem qg{b j a}:PE X (.Constant (.bool b) j a) (tC (.bl b)):=λ_ _ _ H _ I h=>Constant_bool ⟨.bl b,H,I,J,h⟩
theorem Wn{j a}:PE X (.Constant .none j a) (tC .non):=λ_ _ _ H _ I h=>Constant_none ⟨.non,H,I,J,h⟩
theorem zx{x j a}:PE X (.Constant (.str x) j a) (tC (.str x)):=λ_ _ _ H _ I h=>Calls.Constant_str ⟨.str x,H,I.tok _,⟨_,J⟩,h⟩
def Gl(X:Cx)(x:Str):Prop:=X.env.kindOf x=some .globalImplicit
theorem pS(I:Inv X pins σ H s)(b:Gl X x)(a:X.mg x=some u)(h:Q u s)(c:(x==("__debug__":Str))=false:=by decide):wpAny (model X.prog X.w) X.A (eval (.Name x aE) X.env) Q E s:=
 Calls.Name_function_global I.ok.kind b (Calls.loadGlobal_global (by rw[I.ok.glob];exact I.mod.glob.keeps I.bk) a h) c
theorem Xf(I:Inv X pins σ H s)(d:Gl X x)(c:X.mg x=none)(a:bootBuiltins x=some u)(h:Q u s)(b:x≠"__name__":=by decide) (e:(x==("__debug__":Str))=false:=by decide):wpAny (model X.prog X.w) X.A (eval (.Name x aE) X.env) Q E s:=by obtain⟨i,g,f⟩:=I.mod.blt;exact Calls.Name_function_global I.ok.kind d (Calls.loadGlobal_builtin (by rw[I.ok.glob];exact I.mod.glob.keeps I.bk) c (by rw[I.ok.blt];exact g.keeps I.bk) ((f x b).trans a) h) e
theorem uj(b:Gl X x)(a:X.mg x=some u)(r:yk v u)(c:(x==("__debug__":Str))=false:=by decide):PE X (.Name x aE) (tC v):=λ_ _ _ H _ I h=>pS I b a ⟨v,H,I,r,h⟩ c
theorem Bn(d:Gl X x)(c:X.mg x=none)(a:bootBuiltins x=some u)(r:yk v u)(b:x≠"__name__":=by decide)(e:(x==("__debug__":Str))=false:=by decide):PE X (.Name x aE) (tC v):=λ_ _ _ H _ I h=>Xf I d c a ⟨v,H,I,r,h⟩ b e
variable{a b:Expr}{ta tb:TE}
def PC(X:Cx)(op:CmpOp)(a b:Expr)(t:TE):Prop:=
 ∀ (pins:List (Addr×Obj)) (s:Shared) (σ:St) (H:Hp) (Q:VK),Inv X pins σ H s->t σ H Q->
   wpAny (model X.prog X.w) X.A (eval a X.env) (λv B=>wpAny (model X.prog X.w) X.A (eval b X.env) (λu s₂=>wpAny (model X.prog X.w) X.A (compareOp op v u) (EP X pins σ Q) X.xe s₂) X.xe B) X.xe s
theorem vA(b:Expr){op:CmpOp}(h:op≠ .In)(d:op≠ .NotIn):behindInMarks op b=false:=by
 have c:(op==CmpOp.In)=false:=by simp_all
 have a:(op==CmpOp.NotIn)=false:=by simp_all
 cases b<;>simp[behindInMarks,c,a]
def rO(ta:TE):TE:=λσ H Q=>ta σ H λx H1=>Q (.bl (decide (x=.non))) H1
def Ad(ta:TE):TE:=λσ H Q=>ta σ H λx H1=>Q (.bl (!decide (x=.non))) H1
theorem yk.none_iff{x:V}{v:Value}(r:yk x v):(v==Value.none)=decide (x=.non):=by cases x with|non=>cases r;rfl|bl _=>cases r;rfl|int _=>obtain⟨t,rfl⟩:=r;rfl|str _=>obtain⟨t,rfl⟩:=r;rfl|byt _=>obtain⟨t,rfl⟩:=r;rfl|flt _=>obtain⟨t,rfl⟩:=r;rfl|ref _=>cases r;rfl|ty _=>cases r;rfl
theorem Wo{j g}(f:PE X a ta):PC X .Is a (.Constant .none j g) (rO ta):=by intro b s c H Q I h;refine aG (f b s c H _ I h) λv l ⟨x,k,i,d,e⟩=>?_;exact Constant_none (is_none_gen ⟨.bl _,k,i,by rw[d.none_iff];rfl,e⟩)
theorem pV{j g}(f:PE X a ta):PC X .IsNot a (.Constant .none j g) (Ad ta):=by intro b s c H Q I h;refine aG (f b s c H _ I h) λv l ⟨x,k,i,d,e⟩=>?_;exact Constant_none (isnot_none_gen ⟨.bl _,k,i,by rw[d.none_iff];rfl,e⟩)
inductive wG(Q:Bool->Hp->Prop)(x:V)(H1:Hp):Prop|mk:∀c,x=.bl c->Q c H1->wG Q x H1
def tB(t:TE):TT:=λσ H Q=>t σ H λx H1=>wG Q x H1
theorem pB{op:CmpOp}{t:TE}(h:PC X op a b t)(f:behindInMarks op b=false:=by first|exact vA _ (by decide) (by decide)|rfl):PE X (.Compare a [op] [b] aE) t:=λc s d H Q I e=>wpAny_Compare1 (h c s d H Q I e) f
theorem Zv{op:CmpOp}{t:TE}(h:PC X op a b t)(f:behindInMarks op b=false:=by first|exact vA _ (by decide) (by decide)|rfl):PT X (.Compare a [op] [b] aE) (tB t):=by intro e s g H Q I k;refine wpAny_isTrue_Compare1 (aG (h e s g H _ I k) λv r f=>aG f λu p l=>aG l λc o ⟨x,n,m,i,j⟩=>?_) f;obtain⟨d,rfl,q⟩:=j;cases i;exact wpAny_truthy_bool ⟨n,m,q⟩
theorem yy{t:TE}(h:PE X e t)(he:∀a,isTrue e X.env a=(do let v<-a;standAt e.pos;holding [v] (truthy v)):=by intro _;rfl):PT X e (tB t):=by intro b s c H Q I i;refine isTrue_plain (aG (h b s c H _ I i) λv l ⟨x,k,j,f,g⟩=>?_) (he _);obtain⟨d,rfl,q⟩:=g;cases f;exact wpAny_truthy_bool ⟨k,j,q⟩
variable{tA nP:TT}{vw:List Expr}
def xY(t u:TT):TT:=λσ H Q=>t σ H λc H1=>if c=true then u σ H1 Q else Q false H1
def Fc(t u:TT):TT:=λσ H Q=>t σ H λc H1=>if c=true then Q true H1 else u σ H1 Q
def yG(t:TT):TT:=λσ H Q=>t σ H λc H1=>Q (!c) H1
theorem jn(f:PT X a tA):PW X (.BoolOp .And [a] aE) tA:=by intro g b s d H Q I h;refine isTrue_and (aG (f b s d H Q I h) λc i e=>?_);cases c with|true=>exact isTrue_and_nil e|false=>exact e
theorem jv(f:PT X a tA):PW X (.BoolOp .Or [a] aE) tA:=by intro g b s d H Q I h;refine isTrue_or (aG (f b s d H Q I h) λc i e=>?_);cases c with|false=>exact isTrue_or_nil e|true=>exact e
theorem jj(m:PT X a tA)(l:PW X (.BoolOp .And (b::vw) aE) nP):PW X (.BoolOp .And (a::b::vw) aE) (xY tA nP):=by intro j d s e H Q I h;refine isTrue_and (aG (m d s e H _ I h) λc k ⟨i,g,f⟩=>?_);cases c with|true=>exact l j d k e i Q g f|false=>exact⟨i,g,f⟩
theorem Yb(m:PT X a tA)(l:PW X (.BoolOp .Or (b::vw) aE) nP):PW X (.BoolOp .Or (a::b::vw) aE) (Fc tA nP):=by intro j d s e H Q I h;refine isTrue_or (aG (m d s e H _ I h) λc k ⟨i,g,f⟩=>?_);cases c with|true=>exact⟨i,g,f⟩|false=>exact l j d k e i Q g f
theorem xx(e:PT X a tA):PT X (.UnaryOp .Not a aE) (yG tA):=by intro b s d H Q I h;exact isTrue_not (aG (e b s d H (λc f=>Q (!c) f) I h) λ_ _ ⟨g,i,q⟩=>⟨g,i,q⟩)
inductive gg(tb:TE)(σ:St)(Q:VK)(x:V)(H1:Hp):Prop|mk:∀c,x=.bl c->(if c=true then tb σ H1 Q else Q (.bl false) H1)->gg tb σ Q x H1
def zX(ta tb:TE):TE:=λσ H Q=>ta σ H λx H1=>gg tb σ Q x H1
inductive jE(tb:TE)(σ:St)(Q:VK)(x:V)(H1:Hp):Prop|mk:∀c,x=.bl c->(if c=true then Q (.bl true) H1 else tb σ H1 Q)->jE tb σ Q x H1
def yH(ta tb:TE):TE:=λσ H Q=>ta σ H λx H1=>jE tb σ Q x H1
inductive fY(Q:VK)(x:V)(H1:Hp):Prop|mk:∀c,x=.bl c->Q (.bl (!c)) H1->fY Q x H1
def Ae(ta:TE):TE:=λσ H Q=>ta σ H λx H1=>fY Q x H1
theorem vg{op}{t:TE}(h:PE X a t):PE X (.BoolOp op [a] aE) t:=λb s c H Q I d=>BoolOp_one (h b s c H Q I d)
theorem wr(m:PE X a ta)(l:PE X (.BoolOp .And (b::vw) aE) tb):PE X (.BoolOp .And (a::b::vw) aE) (zX ta tb):=by intro d s f H Q I h;refine BoolOp_and (aG (m d s f H _ I h) λv j ⟨x,i,g,k,e⟩=>?_);obtain⟨c,rfl,e⟩:=e;cases k;refine wpAny_truthy_bool ?_;cases c with|true=>exact l d j f i Q g e|false=>exact⟨.bl false,i,g,J,e⟩
theorem oZ(m:PE X a ta)(l:PE X (.BoolOp .Or (b::vw) aE) tb):PE X (.BoolOp .Or (a::b::vw) aE) (yH ta tb):=by intro d s f H Q I h;refine BoolOp_or (aG (m d s f H _ I h) λv j ⟨x,i,g,k,e⟩=>?_);obtain⟨c,rfl,e⟩:=e;cases k;refine wpAny_truthy_bool ?_;cases c with|false=>exact l d j f i Q g e|true=>exact⟨.bl true,i,g,J,e⟩
theorem As(g:PE X a ta):PE X (.UnaryOp .Not a aE) (Ae ta):=by intro b s e H Q I h;refine UnaryOp_ (aG (g b s e H _ I h) λv k ⟨x,j,i,f,d⟩=>?_);obtain⟨c,rfl,d⟩:=d;cases f;exact not_of (wpAny_truthy_bool ⟨.bl (!c),j,i,J,d⟩)
def Fd(t:TT)(ta tb:TE):TE:=λσ H Q=>t σ H λc H1=>if c=true then ta σ H1 Q else tb σ H1 Q
theorem Xy(l:PT X c tA)(n:PE X a ta)(m:PE X b tb):PE X (.IfExp c a b aE) (Fd tA ta tb):=by intro e s f H Q I h;refine wpAny_IfExp (aG (l e s f H _ I h) λd g ⟨k,j,i⟩=>?_);cases d with|true=>exact n e g f k Q j i|false=>exact m e g f k Q j i
end
def aJ(K:W.Frag)(H:Hp)(a:Addr)(xs:List V):Prop:=
 Rd H a (.lst xs)\/
  ∃(o:Obj)(its:Array Value)(n:Nat),K.lookup a=some o/\o.cls=.type "list"/\o.dict=none/\o.data=.seq its n/\its.size<=sizeLine/\yo xs its.toList
def aH(K:W.Frag)(H:Hp)(a:Addr)(xs:List V):Prop:=
 Rd H a (.tup xs)\/
  ∃(o:Obj)(its:Array Value)(n:Nat),K.lookup a=some o/\o.cls=.type "tuple"/\o.data=.seq its n/\its.size<=sizeLine/\yo xs its.toList
noncomputable def xP:Value->Option V|.none=>some .non|.bool b=>some (.bl b)|.int i _=>some (.int i)|.str x _=>some (.str x)|.bytes b _=>some (.byt b)|.float b _=>some (.flt b)|.ref a=>some (.ref a)|.type n=>some (.ty n)|_=>none
theorem yk.abs{x:V}(r:yk x u):xP u=some x:=by cases x with|non=>cases r;rfl|bl _=>cases r;rfl|int _=>obtain⟨t,rfl⟩:=r;rfl|str _=>obtain⟨t,rfl⟩:=r;rfl|byt _=>obtain⟨t,rfl⟩:=r;rfl|flt _=>obtain⟨t,rfl⟩:=r;rfl|ref _=>cases r;rfl|ty _=>cases r;rfl
theorem yk.inj{x y:V}{u:I}(r:yk x u)(q:yk y u):x=y:=Option.some.inj (r.abs.symm.trans q.abs)
theorem yo.inj:∀{xs a:List V}{b:List Value},yo xs b->yo a b->xs=a|_,_,_,.nil,.nil=>rfl|_,_,_,.cons r t,.cons d c=>by rw[r.inj d,yo.inj t c]
section
variable{xs ys:List V}
theorem aJ.of{K:W.Frag}(h:H a=some (.lst xs)):aJ K H a xs:=.inl (.inl h)
theorem aH.of{K:W.Frag}(h:H a=some (.tup xs)):aH K H a xs:=.inl (.inl h)
theorem Inv.list(I:Inv X pins σ H s)(h:aJ X.K H a xs):∃its:O Value,yo xs its/\PlainL s.heap a its.toArray/\xs.length<=sizeLine:=by
 rcases h with h|⟨o,its,n,hk,c,b,f,d,r⟩;obtain⟨z,its,n,r,e⟩:=h.ok I.hok;exact⟨its,r,⟨_,n,e,J,J,J⟩,z⟩;refine⟨its.toList,r,⟨o,n,I.kIn a o hk,c,b,by omega⟩,?_⟩;have e:=r.length
 simp_all
theorem Inv.tuple(I:Inv X pins σ H s)(h:aH X.K H a xs):∃its:O Value,yo xs its/\IsTup s.heap a its.toArray/\xs.length<=sizeLine:=by
 rcases h with h|⟨o,its,n,hk,b,d,c,r⟩;obtain⟨z,its,r,p,_⟩:=h.ok I.hok
 grind
 refine⟨its.toList,r,⟨o,I.kIn a o hk,b,n,by omega⟩,?_⟩;have e:=r.length
 simp_all
theorem Inv.list_inj(I:Inv X pins σ H s)(h:aJ X.K H a xs)(h':aJ X.K H a ys):xs=ys:=by
 obtain⟨b,r,⟨o,n,e,_,_,d⟩,_⟩:=I.list h;obtain⟨i,g,⟨j,k,c,_,_,f⟩,_⟩:=I.list h';rw[e]at c;cases c;rw[d]at f;injection f with l _;have:b=i:=by simp_all
 subst this;exact r.inj g
theorem Inv.tuple_inj(I:Inv X pins σ H s)(h:aH X.K H a xs)(h':aH X.K H a ys):xs=ys:=by
 obtain⟨b,r,⟨o,e,_,n,d⟩,_⟩:=I.tuple h;obtain⟨i,g,⟨j,c,_,k,f⟩,_⟩:=I.tuple h';rw[e]at c;cases c;rw[d]at f;injection f with l _;have:b=i:=by simp_all
 subst this;exact r.inj g
end
abbrev Cx.wish(X:Cx)(E:Value->Shared->Prop):Cx:={X with xe:=E}
abbrev Cx.nox(X:Cx):Cx:=X.wish λ_ _=>False
theorem Cx.Ok.wish{X:Cx}(a:X.Ok)(E:I->Shared->Prop):(X.wish E).Ok:=⟨a.mod,a.kind,a.glob,a.blt,a.above,a.inj,a.has,a.cab,a.hd,a.frames,a.stk,a.exf,a.bs,a.bsz,a.noex,a.exfs,a.funs,a.frf⟩
theorem Cx.Ok.unwish(a:(X.wish E).Ok):X.Ok:=⟨a.mod,a.kind,a.glob,a.blt,a.above,a.inj,a.has,a.cab,a.hd,a.frames,a.stk,a.exf,a.bs,a.bsz,a.noex,a.exfs,a.funs,a.frf⟩
section
theorem Inv.wish(I:Inv X pins σ H s)(E:Value->Shared->Prop):Inv (X.wish E) pins σ H s:=⟨I.ok.wish E,I.os,I.bare,I.base,I.loc,I.cell,I.free,I.freeC,I.pin,I.hok,I.len⟩
theorem Inv.unwish(I:Inv (X.wish E) pins σ H s):Inv X pins σ H s:=⟨I.ok.unwish,I.os,I.bare,I.base,I.loc,I.cell,I.free,I.freeC,I.pin,I.hok,I.len⟩
theorem SP.unwish{D:Ends}{f:Flow}{c:Shared}(h:SP (X.wish E) pins D f c):SP X pins D f c:=by cases f with|next=>obtain⟨a,b,I,q⟩:=h;exact⟨a,b,I.unwish,q⟩|brk=>obtain⟨a,b,I,q⟩:=h;exact⟨a,b,I.unwish,q⟩|cont=>obtain⟨a,b,I,q⟩:=h;exact⟨a,b,I.unwish,q⟩|ret u=>obtain⟨v,a,b,I,r,q⟩:=h;exact⟨v,a,b,I.unwish,r,q⟩
theorem dO.nox{st:O Stmt}{t:TS}(h:dO X.nox st t):dO X st t:=λa s b H D I c=>de (h a s b H D (I.wish _) c) (λ_ _ q=>q.unwish) λ_ _ z=>False.elim z
end
section
variable{st:Stmt}{vw:List Stmt}{t u:TS}{te:TE}
def r9:TS:=λD σ H=>D.nx σ H
def oz(t u:TS):TS:=λD σ H=>t (D.sq u) σ H
theorem zn:dO X [] r9:=λ_ _ a H _ I h=>wpAny_execs_nil ⟨a,H,I,h⟩
theorem zf(g:PS X st t)(e:dO X vw u):dO X (st::vw) (oz t u):=by intro a s c H D I h;refine wpAny_execs_cons (aG (g a s c H (D.sq u) I h) λf d q=>?_);cases f with| next=>obtain⟨b,j,i,q⟩:=q;exact e a d b j D i q|ret v=>exact q|brk=>exact q|cont=>exact q
theorem zh(c:PS X st t):dO X [st] t:=by intro a s b H D I h;refine wpAny_execs_cons (aG (c a s b H D I h) λf d q=>?_);cases f with|next=>exact wpAny_execs_nil q|ret v=>exact q|brk=>exact q|cont=>exact q
theorem Inv.quiet(I:Inv X pins σ H s):interactive X.env=false:=by simp[interactive,I.ok.kind]
def mx(te:TE):TS:=λD σ H=>te σ H λ_ H1=>D.nx σ H1
theorem xn(he:PE X e te)(d:swapsWith e none aE.line X.env=pure false:=by rfl):PS X (.Expr e aE) (mx te):=by intro a s b H D I h;exact wpAny_Expr_any (aG (he a s b H _ I h) λv i ⟨x,g,f,j,c⟩=>⟨b,g,f,c⟩) I.quiet d
def rL(te:TE):TS:=λD σ H=>te σ H D.rt
theorem zp(he:PE X e te):PS X (.Return (some e) aE) (rL te):=by intro a s b H D I h;exact wpAny_Return_some (aG (he a s b H _ I h) λv i ⟨x,g,f,c,d⟩=>⟨x,b,g,f,c,d⟩)
def rM(c:TT)(t u:TS):TS:=λD σ H=>c σ H λb H1=>if b=true then t D σ H1 else u D σ H1
theorem yj{a b:List Stmt}{g:TT}(m:PT X c g)(o:dO X a t)(n:dO X b u):PS X (.If c a b aE) (rM g t u):=by intro e s f H D I h;refine wpAny_If (aG (m e s f H _ I h) λd i ⟨l,k,j⟩=>?_);cases d with|true=>exact o e i f l D k j|false=>exact n e i f l D k j
def tq:TS:=λ_ _ _=>False
theorem Xt:PS X st tq:=λ_ _ _ _ _ _ h=>h.elim
theorem xz:dO X Fe tq:=λ_ _ _ _ _ _ h=>h.elim
end
abbrev TG:=V->St->Hp->(St->Hp->Prop)->Prop
variable{es:List Expr}{eX:List Stmt}{te:TE}
abbrev lX:=List V->St->Hp->(St->Hp->Prop)->Prop
def PG(X:Cx)(B:Expr)(t:TG):Prop:=
 ∀ (pins:List (Addr×Obj)) (s:Shared) (σ:St) (H:Hp) (v:V) (u:Value) (Q:St->Hp->Prop),Inv X pins σ H s->yk v u->t v σ H Q->
   wpAny (model X.prog X.w) X.A (assign B X.env u) (λ_ s'=>∃σ' H',Inv X pins σ' H' s'/\Q σ' H') X.xe s
def nY(X:Cx)(B:List Expr)(t:lX):Prop:=
 ∀ (pins:List (Addr×Obj)) (s:Shared) (σ:St) (H:Hp) (vs:List V) (us:List Value) (Q:St->Hp->Prop),Inv X pins σ H s->yo vs us->t vs σ H Q->
   wpAny (model X.prog X.w) X.A (assignInOrder ((assignEach B X.env).map (·.2)) us) (λ_ s'=>∃σ' H',Inv X pins σ' H' s'/\Q σ' H') X.xe s
abbrev l9:=V->V->V->Hp->(Hp->Prop)->Prop
def om(X:Cx)(t:l9):Prop:=
 ∀ (pins:List (Addr×Obj)) (s:Shared) (σ:St) (H:Hp) (o i v:V) (ov B u:Value) (Q:Hp->Prop),Inv X pins σ H s->yk o ov->yk i B->yk v u->t o i v H Q->
   wpAny (model X.prog X.w) X.A (setItem ov B u) (λ_ s'=>∃H',Inv X pins σ H' s'/\Q H') X.xe s
abbrev qP:=V->V->Hp->VK->Prop
def xI(X:Cx)(op:Operator)(t:qP):Prop:=
 ∀ (pins:List (Addr×Obj)) (s:Shared) (σ:St) (H:Hp) (x y:V) (v u:Value) (Q:VK),Inv X pins σ H s->yk x v->yk y u->t x y H Q->
   wpAny (model X.prog X.w) X.A (inplaceOp op v u) (EP X pins σ Q) X.xe s
section
def jz(i:Nat):TG:=λv σ H Q=>Q (σ.set i (some v)) H
theorem zu(hN:X.N.Nodup)(c:X.N[i]?=some x:=by rfl)(b:Loc X.env.scope x:=by first|exact Or.inl J|exact Or.inr J|assumption)(d:X.fn x=true\/X.env.scope.names.lookup x=some .local:=by first|exact .inl J|exact .inr J|assumption):PG X (.Name x aE) (jz i):=by intro a s f H v u Q I r h;exact wpAny_assign_Name (vS I hN c b r (λg e=>⟨_,H,e,h⟩) d)
def mn:lX:=λvs σ H Q=>vs=[]/\Q σ H
inductive cK(t:TG)(u:lX)(vs:List V)(σ:St)(H:Hp)(Q:St->Hp->Prop):Prop|mk:∀v r,vs=v::r->(t v σ H λσ' H'=>u r σ' H' Q)->cK t u vs σ H Q
theorem ja:nY X [] mn:=by intro a s b H c d Q I r h;obtain⟨e,h⟩:=h;subst e;cases r;exact assignInOrder_nil ⟨b,H,I,h⟩
theorem y6{t:TG}{u:lX}(k:PG X e t)(j:nY X es u)(i:(assignEach (e::es) X.env).map (·.2)=assign e X.env::(assignEach es X.env).map (·.2):=by rfl):nY X (e::es) (cK t u):=by intro a s c H o q Q I r h;obtain⟨v,p,l,h⟩:=h;subst l;cases r with| cons r f=>rw[i];refine assignInOrder_cons (aG (k a s c H _ _ _ I r h) λ_ d ⟨b,n,m,g⟩=>?_);exact j a d b n _ _ Q m f g
inductive fN(K:W.Frag)(n:Nat)(t:lX)(v:V)(σ:St)(H:Hp)(Q:St->Hp->Prop):Prop|mk:∀a xs,v=.ref a->aH K H a xs->xs.length=n->t xs σ H Q->fN K n t v σ H Q
theorem ki{k:Nat}{t:lX}{n:Nat}(y:X.calm=true)(h:nY X es t)(w:(assignEach es X.env).length=n:=by rfl) (f:(assignEach es X.env).findIdx? (·.1)=none:=by rfl):PG X (.Tuple es k aE) (fN X.K n t):=by intro c s g H v u Q I r d;obtain⟨a,i,z,q,x,d⟩:=d;subst z;cases r;obtain⟨l,j,p,B⟩:=I.tuple q;refine assign_Tuple_tuple (I.ok.hd y) p (by simp[w,<-x,j.length]) f λC m=>?_;have A:=I.kept (t':=s.toks) λb o e=>m b o (az (au e)) e;exact h c _ g H i _ Q A (by omega) d
def rj(to B:TE)(t:l9):TG:=λv σ H Q=>to σ H λo H1=>B σ H1 λi H2=>t o i v H2 λF=>Q σ F
theorem Qk{o i:Expr}{to d:TE}{t:l9}(p:PE X o to)(q:PE X i d)(n:om X t)(w:∀v,assign (.Subscript o i aE) X.env v=(do
   let ov<-holding [v] (eval o X.env);let b<-holding [v,ov] (eval i X.env)
   standAt aE
   holding [v,ov,b] (setItem ov b v)
   release [v,ov,b] []):=by intro _;rfl):PG X (.Subscript o i aE) (rj to d t):=by intro a s c H v u Q I r h;rw[w];refine a4 (wpAny_holding (aG (p a s c H _ I h) λov f ⟨x,E,B,j,m⟩=>?_));refine a4 (wpAny_holding (aG (q a f c E _ B m) λb e ⟨y,D,A,g,l⟩=>?_));refine a4 (wpAny_standAt (a4 (wpAny_holding (aG (n a e c D x y v ov b u _ A j g r l) λ_ F ⟨C,z,k⟩=>?_))));exact wpAny_release ⟨c,C,z,k⟩
def nu(te:TE)(g:TG):TS:=λD σ H=>te σ H λx H1=>g x σ H1 D.nx
theorem Qg{b:Expr}{g:TG}(he:PE X e te)(l:PG X b g)(k:swapsWithSole [b] e aE.line X.env=pure false:=by rfl)(j:swappedStores [b] e X.env=pure none:=by rfl)
  (m:(assignEach [b] X.env).map (·.2)=[assign b X.env]:=by rfl):PS X (.Assign [b] e aE) (nu te g):=by intro a s c H D I h;refine wpAny_Assign_stores (aG (he a s c H _ I h) λv d ⟨x,o,n,f,i⟩=>?_) k j;rw[m];exact aG (l a d c o x v _ n f i) λ_ p q=>q
theorem zv{b:Pos}(hN:X.N.Nodup)(he:PE X e te)(k:X.N[i]?=some x:=by rfl)(g:Loc X.env.scope x:=by first|exact Or.inl J|exact Or.inr J|assumption)(j:swapsWith e (some (.Name x b)) aE.line X.env=pure false:=by rfl)(l:X.fn x=true\/X.env.scope.names.lookup x=some .local:=by first|exact .inl J|exact .inr J|assumption):PS X (.Assign [.Name x b] e aE) (nu te (jz i)):=by intro a s c H D I h;refine wpAny_Assign_Name (aG (he a s c H _ I h) λv q ⟨y,o,n,d,f⟩=>?_) j;exact vS n hN k g d (λp m=>⟨_,o,m,f⟩) l
def zY(to U te:TE)(F:V->V->Hp->VK->Prop)(G:qP)(B:l9):TS:=λD σ H=>to σ H λo H1=>U σ H1 λi H2=>F o i H2 λx H3=>te σ H3 λy H4=>G x y H4 λz H5=>B o i z H5 λZ=>D.nx σ Z
def rG(X:Cx)(t:V->V->Hp->VK->Prop):Prop:=
 ∀ (pins:List (Addr×Obj)) (s:Shared) (σ:St) (H:Hp) (o i:V) (ov B:Value) (Q:VK),Inv X pins σ H s->yk o ov->yk i B->t o i H Q->
   wpAny (model X.prog X.w) X.A (getItem ov B) (EP X pins σ Q) X.xe s
theorem Bx{o i:Expr}{to m:TE}{d:V->V->Hp->VK->Prop}{j:qP}{c:l9}{op:Operator}{Z:Pos}(Q:PE X o to)(R:PE X i m)(S:rG X d)(he:PE X e te)(P:xI X op j)(N:om X c)(U:∀ov g b,augStore i ov g b=(do holding [b,ov,g] (setItem ov g b);release [b,ov,g] [];pure .next):=by intros;rfl):PS X (.AugAssign (.Subscript o i Z) op e aE) (zY to m te d j c):=by intro a s f H D I h;refine wpAny_AugAssign_SubscriptAny (aG (Q a s f H _ I h) λov z ⟨l,H1,I1,p,M⟩=>?_) U;refine aG (R a z f H1 _ I1 M) λg y ⟨k,H2,I2,n,L⟩=>?_;refine aG (S a y f H2 l k ov g _ I2 p n L) λW x ⟨t,H3,I3,C,K⟩=>?_;refine aG (he a x f H3 _ I3 K) λv w ⟨r,H4,I4,B,G⟩=>?_;refine aG (P a w f H4 t r W v _ I4 C B G) λb u ⟨q,H5,I5,A,F⟩=>?_;exact aG (N a u f H5 l k q ov g b _ I5 p n A F) λ_ s6 ⟨H6,I6,E⟩=>⟨f,H6,I6,E⟩
inductive wP(f:Int->Int->Int)(x y:V)(H:Hp)(Q:VK):Prop|mk:∀i j,x=.int i->y=.int j->Q (.int (f i j)) H->wP f x y H Q
theorem AI:xI X .Add (wP λi j=>i+j):=by intro a s f H x y v u Q I c b h;obtain⟨i,j,e,d,q⟩:=h;subst e;subst d;obtain⟨t,rfl⟩:=c;obtain⟨g,rfl⟩:=b;exact iadd_int ⟨.int _,H,I.tok _,⟨_,J⟩,q⟩
end
section
inductive fU(c:TT)(tb:TS)(D:Ends)(σ:St)(H:Hp):Prop|mk:∀W:Nat->St->Hp->Prop,(∃m,W m σ H)->(∀m σ H,W m σ H-> c σ H λb H1=>if b=true then∃N:St->Hp->Prop,(∀σ' H',N σ' H'->∃m',m'<m/\W m' σ' H')/\tb (D.lp N) σ H1 else D.nx σ H1)->fU c tb D σ H
theorem CF{t:TT}{tb:TS}(u:PassesOwn (model X.prog X.w) X.A X.env X.xe)(L:PT X c t)(M:dO X eX tb):PS X (.While c eX [] aE) (fU t tb):=by
 intro d s A H D I h;obtain⟨W,⟨K,C⟩,i⟩:=h;refine wpAny_While (codeAny_whileLoop (λn G=>∃g z,Inv X d g z G/\W n g z) ?_ K ⟨A,H,I,C⟩);rintro n F ⟨e,y,P,B⟩;refine wpAny_passesOwn u (aG (L d F e y _ P (i n e y B)) λb E ⟨x,w,l⟩=>?_);cases b with
 | true=>
   obtain⟨N,hN,l⟩:=l;rw[if_pos J];refine wpAny_passesOwn u (aG (M d E e x _ w l) λf Q k=>?_);cases f with
   | next=>obtain⟨a,j,r,o⟩:=k;obtain⟨p,q,m⟩:=hN a j o;exact⟨p,q,a,j,r,m⟩
   | cont=>obtain⟨a,j,r,o⟩:=k;obtain⟨p,q,m⟩:=hN a j o;exact⟨p,q,a,j,r,m⟩
   |brk=>exact k
   |ret v=>exact k
 | false=>rw[if_neg bu];exact wpAny_execs_nil ⟨e,x,w,l⟩
end
structure It where
 go:Nat->Hp->Prop
 yld:Nat->Hp->V->Hp->Prop
 stop:Nat->Hp->Prop
def Vg(X:Cx)(B:List (Addr×Obj))(H:Hp)(b:Addr):Prop:=H b=none/\b≠X.env.locals/\b ∉ X.fs/\(b∈X.ex\/X.s₀.heap.objs.size<=b)/\(∀x c,X.env.cells.lookup x=some c->c≠b)/\∀p∈X.pn++B,p.1≠b
theorem Inv.fpOk{d:Hp}(I:Inv X pins σ H s)(a:s.heap.objs.size<=b)(g:d b=none):Vg X pins d b:=by refine⟨g,dl (cf I.lt a),I.nofs a,.inr (cj I.sz a),λx c e z=>?_,λp f z=>?_⟩;obtain⟨v,q⟩:=I.cell x c e;exact absurd (cf q.lt (by simp_all)) (cp _);exact absurd (cf (au (I.pin p f).1) (by simp_all)) (cp _)
structure dJ(P:Program)(w:World)(K:W.Frag)(tg:Expr)(J:It)(fp:List Addr)(it:Addr)(tn:Nat->Heap->Prop):Prop where
 mem:it∈fp
 obj:∀i h,tn i h->∀b∈fp,∃o,h.get? b=some o/\∀v,o.data≠ .cell v
 keep:∀i h h',tn i h->(∀b∈fp,∀o,h.get? b=some o->h'.get? b=some o)->tn i h'
 item:∀(X:Cx),X.prog=P->X.w=w->X.K=K->X.calm=true->∀(i:Nat)(pins:List (Addr×Obj))(s:Shared)(σ:St)(H:Hp)(E:Value->Shared->Prop),Inv X pins σ H s->(∀b∈fp,Vg X pins H b)->tn i s.heap->J.go i H->
  wpAny (model P w) X.A (pyNext (.ref it)) (λr s1=>∃u,r=some u/\ wpAny (model P w) X.A (letOwnedTupleGo tg (.ref it) u) (λ_ s2=>∃x H',Inv X pins σ H' s2/\yk x u/\J.yld i H x H'/\tn (i+1) s2.heap/\∀b∈fp,H' b=none) E s1) E s
 done:∀(X:Cx),X.prog=P->X.w=w->X.K=K->X.calm=true->∀(i:Nat)(pins:List (Addr×Obj))(s:Shared)(σ:St)(H:Hp)(E:Value->Shared->Prop),Inv X pins σ H s->(∀b∈fp,Vg X pins H b)->tn i s.heap->J.stop i H->
  wpAny (model P w) X.A (pyNext (.ref it)) (λr s1=>r=none/\Inv X pins σ H s1) E s
 self:∀(A:Around)(i:Nat)(s:Shared)(Q:Value->Shared->Prop)(E:Value->Shared->Prop),tn i s.heap->Q (.ref it) s->wpAny (model P w) A (pyIter (.ref it)) Q E s
abbrev TI:=St->Hp->(It->Hp->Prop)->Prop
inductive qQ(X:Cx)(pins:List (Addr×Obj))(σ:St)(tg:Expr)(R:It->Hp->Prop)(itv:Value)(s2:Shared):Prop|mk:∀(it:Addr)(fp:List Addr)(tn:Nat->Heap->Prop)(J:It)(H':Hp),itv=.ref it->Inv X pins σ H' s2->dJ X.prog X.w X.K tg J fp it tn->tn 0 s2.heap->(∀b∈fp,Vg X pins H' b)->R J H'->qQ X pins σ tg R itv s2
variable{C dx:Addr}{osl:Array (Option Value)}{D:Ends}{env:Env}{l tg aR:Expr}{fd:FuncData}{base:Heap}{H':Hp}{lo:Int}{pl:List (Addr×Obj)}{kvs:List (aI×V)}{fp:List Addr}{outer:List Env}{ks:List aI}{ns ps:List Str}{vs xs:List V}{ds its more us:List Value}{o:Option Value}{apos p:Pos}{prog:Program}{R:Result->Shared->Prop}{sc scope:Scope}{f m name qual:Str}{mA mg:Str->Option Value}{id:String}{ta tl:TE}{g:TG}{tb:TS}{y:V}{r:Value}
def PI(X:Cx)(F U:Expr)(B:TI):Prop:=
 ∀ (pins:List (Addr×Obj)) (s:Shared) (σ:St) (H:Hp) (R:It->Hp->Prop),Inv X pins σ H s->B σ H R->
   wpAny (model X.prog X.w) X.A (eval U X.env) (λv G=>wpAny (model X.prog X.w) X.A (pyIter v) (qQ X pins σ F R) X.xe G) X.xe s
theorem Kh{M:Model}{b:Y}{o:Obj}{n:String}{vs:Array I}{Q:Unit->Shared->Prop}(c:s.heap.get? b=some o)(f:o.cls=.type n)(e:o.data=.fields vs)
  (d:["enumerate","zip","dict_itemiterator","dict_reverseitemiterator","odict_iterator","itertools.zip_longest","itertools.pairwise"].contains n=false) (a:Q () s):wpAny M A (letOwnedTupleGo tg (.ref b) u) Q E s:=by
 unfold letOwnedTupleGo;cases tg<;>first
  |exact a9 a
  |(cases u<;>first
   |exact a9 a
   | (refine a4 (wpAny_load c ?_)
      rw[f,e];show wpAny M A (if(["enumerate","zip","dict_itemiterator","dict_reverseitemiterator","odict_iterator","itertools.zip_longest","itertools.pairwise"].contains n && vs[0]?==some (rawInt _))=true then _ else _) Q E s;rw[if_neg (by intro h;rw[d,Bool.false_and]at h;cases h)];exact a9 a))
noncomputable def m8(K:W.Frag)(a:Addr):It:=⟨λi H=>∃xs x,aJ K H a xs/\xs[i]?=some x,λi H x H'=>H'=H/\∀xs,aJ K H a xs->xs[i]?=some x,λi H=>∃xs,aJ K H a xs/\xs.length<=i⟩
noncomputable def lY(K:W.Frag)(a:Addr):It:=⟨λi H=>∃xs x,aH K H a xs/\xs[i]?=some x,λi H x H'=>H'=H/\∀xs,aH K H a xs->xs[i]?=some x,λi H=>∃xs,aH K H a xs/\xs.length<=i⟩
noncomputable def m7(lo:Int)(n:Nat):It:=⟨λi _=>i<n,λi H x H'=>H'=H/\x=.int (lo+i),λi _=>n<=i⟩
theorem DV{K:W.Frag}(a f:Y):dJ P w K tg (m8 K a) [f] f (λi h=>h.IsListIter f a i) where
 mem:=by simp
 obj:=λi h st b g=>by
  have e:b=f:=by simp_all
  subst e;obtain⟨o,e,c,d⟩:=st
  simp_all
 keep:=λi h L st k=>st.at λo e=>k f (by simp) o e
 item:=by intro X y t z G i l s M H E I n st v;subst y t z;obtain⟨N,x,m,F⟩:=v;obtain⟨r,q,p,S⟩:=I.list m;obtain⟨u,Z,R⟩:=q.get F;obtain⟨f0,D,f2,C,B,A⟩:=n f (by simp);refine wpAny_pyNext_list_item st p.isList (by simpa using Z) λL j Q=>?_;have I1:=I.turned (t':=s.toks) (λb o g e=>(Q.2 b g).trans e) f0 D C B A;obtain⟨o,e,c,d⟩:=id j;exact⟨u,J,Kh e c d (by rfl) ⟨x,H,I1,R,⟨J,λys U=>by rw[I.list_inj U m];omega⟩,j,λb g=>(n b g).1⟩⟩
 done:=by intro X y t z G i l s M H E I n st v;subst y t z;obtain⟨N,m,F⟩:=v;obtain⟨r,q,p,S⟩:=I.list m;obtain⟨f0,D,f2,C,B,A⟩:=n f (by simp);have hl:=q.length;exact wpAny_pyNext_list_end (I.ok.hd G) st p.isList (by simp_all) λL eb=>⟨J,I.turned (λb o g e=>eb b o g e) f0 D C B A⟩
 self:=λ_ _ _ _ _ st h=>wpAny_pyIter_listiter st h
theorem EL{K:W.Frag}(a f:Y):dJ P w K tg (lY K a) [f] f (λi h=>h.IsTupleIter f a i) where
 mem:=by simp
 obj:=λi h st b g=>by
  have e:b=f:=by simp_all
  subst e;obtain⟨o,e,c,d⟩:=st
  simp_all
 keep:=λi h L st k=>st.at λo e=>k f (by simp) o e
 item:=by intro X y t z G i l s M H E I n st v;subst y t z;obtain⟨N,x,m,F⟩:=v;obtain⟨r,q,p,S⟩:=I.tuple m;obtain⟨u,Z,R⟩:=q.get F;obtain⟨f0,D,f2,C,B,A⟩:=n f (by simp);refine wpAny_pyNext_tuple_item st (p) (by simpa using Z) λL j Q=>?_;have I1:=I.turned (t':=s.toks) (λb o g e=>(Q.2 b g).trans e) f0 D C B A;obtain⟨o,e,c,d⟩:=id j;exact⟨u,J,Kh e c d (by rfl) ⟨x,H,I1,R,⟨J,λys U=>by rw[I.tuple_inj U m];omega⟩,j,λb g=>(n b g).1⟩⟩
 done:=by intro X y t z G i l s M H E I n st v;subst y t z;obtain⟨N,m,F⟩:=v;obtain⟨r,q,p,S⟩:=I.tuple m;obtain⟨f0,D,f2,C,B,A⟩:=n f (by simp);have hl:=q.length;exact wpAny_pyNext_tuple_end (I.ok.hd G) st (p) (by simp_all) λL eb=>⟨J,I.turned (λb o g e=>eb b o g e) f0 D C B A⟩
 self:=λ_ _ _ _ _ st h=>wpAny_pyIter_tupleiter st h
theorem EK{K:W.Frag}(c:Y)(lo:Int)(n:Nat):dJ P w K tg (m7 lo n) [c] c (λi h=>IsRangeIter h c (lo+(i:Nat)*1) ((n:Int)-(i:Nat)) 1) where
 mem:=by simp
 obj:=λi h st b f=>by simp_all
 keep:=λi h r st k=>k c (by simp) _ st
 item:=by intro X p j q m i a s A H E I g st l;subst p j q;obtain⟨f0,z,F,y,x,u⟩:=g c (by simp);have W:=Walks.range (prog:=X.prog) (w:=X.w) (I.ok.hd m) c lo 1 n;refine W.item i s _ _ l st λv r B D d C=>?_;obtain⟨t,rfl⟩:=D;have L:Inv X a A H {s with heap:=r,toks:=B}:=I.turned (λb o f e=>C b o (by simp_all) e) f0 z y x u;refine⟨_,J,Kh d J J (by rfl) ⟨.int (lo+i),H,L,⟨t,?_⟩,⟨J,J⟩,d,λb f=>(g b f).1⟩⟩;rw[Int.mul_one]
 done:=by intro X p j q m i a s A H E I g st l;subst p j q;obtain⟨f0,z,F,y,x,u⟩:=g c (by simp);exact wpAny_pyNext_range_end (I.ok.hd m) st (by have:n<=i:=l;omega) λr G=>⟨J,I.turned (λb o f e=>G b o f e) f0 z y x u⟩
 self:=λ_ _ _ _ _ st h=>wpAny_pyIter_rangeiter st h
section
inductive hJ(K:W.Frag)(R:It->Hp->Prop)(x:V)(H1:Hp):Prop|mk:∀a,x=.ref a->(∃xs,aJ K H1 a xs)->R (m8 K a) H1->hJ K R x H1
def yO(K:W.Frag)(B:TE):TI:=λσ H R=>B σ H λx H1=>hJ K R x H1
inductive jS(K:W.Frag)(R:It->Hp->Prop)(x:V)(H1:Hp):Prop|mk:∀a,x=.ref a->(∃xs,aH K H1 a xs)->R (lY K a) H1->jS K R x H1
def xU(K:W.Frag)(B:TE):TI:=λσ H R=>B σ H λx H1=>jS K R x H1
theorem Yu(n:PE X l tl):PI X tg l (yO X.K tl):=by
 intro c s g H R I h;refine aG (n c s g H _ I h) λv f ⟨x,r,d,i,j⟩=>?_;obtain⟨a,e,⟨t,m⟩,q⟩:=j;subst e;cases i;obtain⟨k,u,p,w⟩:=d.list m;refine wpAny_pyIter_list p.isList ?_;refine⟨f.heap.objs.size,[f.heap.objs.size],_,_,r,J,d.kept λb o e=>aq _ e,DV a _,⟨_,bf _ J,J,J⟩,λb y=>?_,q⟩;have e:b=f.heap.objs.size:=by simp_all
 subst e;exact d.fpOk (ae _) (d.hok.fresh (ae _))
theorem jk(n:PE X l tl):PI X tg l (xU X.K tl):=by
 intro c s g H R I h;refine aG (n c s g H _ I h) λv f ⟨x,r,d,i,j⟩=>?_;obtain⟨a,e,⟨t,m⟩,q⟩:=j;subst e;cases i;obtain⟨k,u,p,w⟩:=d.tuple m;refine wpAny_pyIter_tuple (p) ?_;refine⟨f.heap.objs.size,[f.heap.objs.size],_,_,r,J,d.kept λb o e=>aq _ e,EL a _,⟨_,bf _ J,J,J⟩,λb y=>?_,q⟩;have e:b=f.heap.objs.size:=by simp_all
 subst e;exact d.fpOk (ae _) (d.hok.fresh (ae _))
theorem Cp{R:It->Hp->Prop}{a:Int}{t u v:Tok}{d:Nat}(I:Inv X pins σ H s)(i: -(2^62)<=lo)(h:lo<2^62)(g: -(2^62)<=a)(f:a<2^62)(q:R (m7 lo (a-lo).toNat) H):wpAny (model X.prog X.w) X.A (pyIter (.ref s.heap.objs.size)) (qQ X pins σ tg R) E {s with heap:=s.heap.push {cls:=.type "range",data:=.fields #[.int lo t,.int a u,.int 1 v]},toks:=d}:=by
 refine wpAny_pyIter_range (IsRange.new ..) (small_one i h g f) ?_;have c:Inv X pins σ H {s with heap:=s.heap.push {cls:=.type "range",data:=.fields #[.int lo t,.int a u,.int 1 v]},toks:=d}:=I.kept λb o e=>aq _ e;refine⟨(s.heap.push {cls:=.type "range",data:=.fields #[.int lo t,.int a u,.int 1 v]}).objs.size,[(s.heap.push {cls:=.type "range",data:=.fields #[.int lo t,.int a u,.int 1 v]}).objs.size],_,_,H,J,c.kept λb o e=>aq _ e,EK _ lo (a-lo).toNat,?_,λb l=>?_,q⟩
 have k:lo+((0:Nat))*1=lo:=by simp
 have j:((a-lo).toNat:Int)-((0:Nat))=Builtin.Range.rangeSize lo a 1:=by rw[rangeSize_one];omega
 rw[k,j];exact bf _ J;have e:b=(s.heap.push {cls:=.type "range",data:=.fields #[.int lo t,.int a u,.int 1 v]}).objs.size:=by simp_all
 subst e;exact c.fpOk (ae _) (c.hok.fresh (ae _))
inductive hE(R:It->Hp->Prop)(vs:List V)(H1:Hp):Prop|mk:∀j:Int,vs=[.int j]-> -(2^62)<=j->j<2^62->R (m7 0 j.toNat) H1->hE R vs H1
def yP(ta:TA):TI:=λσ H R=>ta σ H λvs H1=>hE R vs H1
theorem wg{a:Expr}{ta:TA}(m:Gl X "range")(l:X.mg "range"=none)(n:PA X [a] ta)(k:starEach [a] X.env=[(false,eval a X.env)]:=by rfl):PI X tg (.Call (.Name "range" p) [a] [] aE) (yP ta):=by intro b s d H R I h;refine Call_ (Xf I m l boot_range (PyProof.Rows.callWith_type1 (aG (n aE b s d H _ I h) λv w ⟨u,x,o,g,c⟩=>?_) k J));obtain⟨j,e,c,i,q⟩:=c;subst e;cases g with| cons r f=>cases f;obtain⟨t,rfl⟩:=r;exact call_range_1 (Cp o (by omega) (by omega) c i (by simp_all))
inductive cA(g:TG)(tb:TS)(D:Ends)(σ:St)(J:It)(H1:Hp):Prop|mk:∀W:Nat->Nat->St->Hp->Prop,(∃m,W 0 m σ H1)->(∀i m σ H,W i m σ H-> (J.stop i H/\D.nx σ H)\/(J.go i H/\∃N:St->Hp->Prop,(∀σ' H',N σ' H'->∃m',m'<m/\W (i+1) m' σ' H')/\∀x H',J.yld i H x H'->g x σ H' λσ2 H2=>tb (D.lp N) σ2 H2))->cA g tb D σ J H1
def yC(B:TI)(g:TG)(tb:TS):TS:=λD σ H=>B σ H λJ H1=>cA g tb D σ J H1
noncomputable def Qj(B:List Addr)(h:Heap):List (Addr×Obj):=B.filterMap λb=>(h.get? b).map λo=>(b,o)
theorem Zx{o:Obj}(a:b∈fp)(e:h.get? b=some o):(b,o)∈Qj fp h:=List.mem_filterMap.mpr ⟨b,a,by rw[e];rfl⟩
theorem DM{p:Addr×Obj}(a:p∈Qj fp h):p.1∈fp/\h.get? p.1=some p.2:=by obtain⟨b,c,e⟩:=List.mem_filterMap.mp a;cases q:h.get? b with|none=>simp_all| some o=>grind
theorem Inv.pinned(I:Inv X pins σ H s)(c:∀b∈fp,Vg X pins H b)(f:∀b∈fp,∃o,s.heap.get? b=some o/\∀v,o.data≠ .cell v):Inv X (pins++Qj fp s.heap) σ H s:=
 I.pins_of λp a=>(dc.mp a).elim (λz=>I.pin p (cw _ z)) λz=>by
  obtain⟨d,e⟩:=DM z;obtain⟨f0,h,g,_⟩:=c p.1 d
  grind
theorem Inv.unpinned(I:Inv X (pins++pl) σ H s):Inv X pins σ H s:=I.pins_of λp a=>I.pin p (cw _ (ef _ a))
theorem wy{U:Expr}{wi:TI}(F:PassesOwn (model X.prog X.w) X.A X.env X.xe)(hc:X.calm=true)(hi:PI X tg U wi)(hg:PG X tg g)(p:dO X eX tb)(hs:∀x,foldedSetIterable U X.env x=pure x:=by intro _;rfl):PS X (.For tg U eX [] aE) (yC wi g tb):=by
 intro c s σ H D I h;refine wpAny_For (aG (hi c s σ H _ I h) λv s1 h1=>aG h1 λag s2 h2=>?_) hs;obtain⟨it,K,tn,J,H2,e,I2,T,P,f2,W,⟨m0,w0⟩,A⟩:=h2;subst e;have l:∀{w:Hp},(∀b∈K,w b=none)->∀b∈K,Vg X c w b:=λhn b p=>⟨hn b p,(f2 b p).2⟩
 refine codeAny_forLoop_any (λn s'=>∃i k w,Inv X c k w s'/\tn i s'.heap/\(∀b∈K,w b=none)/\W i n k w) ?_ m0 ⟨0,σ,H2,I2,P,λb p=>(f2 b p).1,w0⟩;rintro n s3 ⟨i,j,L,I3,C,G,w3⟩;rcases A i n j L w3 with⟨B,qn⟩|⟨go,N,hN,step⟩;refine wpAny_passesOwn F (aG (T.done X rfl rfl rfl hc i c s3 j L X.xe I3 (l G) C B) λr s4 ⟨R,I4⟩=>?_);subst R;exact wpAny_execs_nil ⟨j,L,I4,qn⟩
 . refine wpAny_passesOwn F (aG (T.item X rfl rfl rfl hc i c s3 j L X.xe I3 (l G) C go) λr s4 ⟨u,R,h4⟩=>?_);subst R;refine wpAny_passesOwn F (aG h4 λ_ s5 ⟨x,H5,I5,r5,y5,z,S⟩=>?_);have Z:=I5.pinned (l S) (T.obj _ _ z);refine wpAny_passesOwn F (aG (hg _ s5 j H5 x u _ Z r5 (step x H5 y5)) λ_ s6 ⟨M,H6,I6,q6⟩=>?_);refine wpAny_passesOwn F (aG (p _ s6 M H6 _ I6 q6) λf Q y=>?_);have again:∀{a:St} {t:Hp},Inv X (c++Qj K s5.heap) a t Q->N a t->∃m,m<n/\∃i k w,Inv X c k w Q/\tn i Q.heap/\(∀b∈K,w b=none)/\W i m k w:=λ{a t} q E=>by obtain⟨m',hm,w7⟩:=hN a t E;refine⟨m',hm,i+1,a,t,q.unpinned,T.keep _ _ _ z λb p o e=>(q.pin (b,o) (cw _ (cw _ (Zx p e)))).1,λb p=>?_,w7⟩;obtain⟨o,e,d⟩:=T.obj _ _ z b p;exact(q.pin (b,o) (cw _ (cw _ (Zx p e)))).2.1
   cases f with|next=>obtain⟨a,t,q,E⟩:=y;exact again q E|cont=>obtain⟨a,t,q,E⟩:=y;exact again q E|brk=>obtain⟨a,t,q,y⟩:=y;exact⟨a,t,q.unpinned,y⟩|ret v=>obtain⟨x7,a,t,q,r7,y⟩:=y;exact⟨x7,a,t,q.unpinned,r7,y⟩
end
theorem Q4{K:W.Frag}(Pv:Nat->St->Hp->Prop)(l:Pv 0 σ H)(h:∀i σ H,i<=xs.length->Pv i σ H->aJ K H a xs)(o:∀i x σ H,xs[i]?=some x->Pv i σ H->g x σ H λb H2=>tb (D.lp (Pv (i+1))) b H2) (k:∀σ H,Pv xs.length σ H->D.nx σ H):
  cA g tb D σ (m8 K a) H:=by
 refine⟨λi m σ H=>m=xs.length-i/\i<=xs.length/\Pv i σ H,⟨xs.length,by simp,bo _,l⟩,?_⟩;rintro i m σ H ⟨rfl,j,p⟩;have q:=h i σ H j p;by_cases c:i<xs.length;refine .inr ⟨⟨xs,xs[i],q,by simp⟩,Pv (i+1),λd n f=>⟨xs.length-(i+1),by omega,J,c,f⟩,λx n y=>?_⟩;obtain⟨e,y⟩:=y
 grind
 have e:i=xs.length:=by omega
 subst e;exact .inl ⟨⟨xs,q,ae _⟩,k σ H p⟩
theorem X4{K:W.Frag}(Pv:Nat->St->Hp->Prop)(l:Pv 0 σ H)(h:∀i σ H,i<=xs.length->Pv i σ H->aH K H a xs)(o:∀i x σ H,xs[i]?=some x->Pv i σ H->g x σ H λb H2=>tb (D.lp (Pv (i+1))) b H2) (k:∀σ H,Pv xs.length σ H->D.nx σ H):
  cA g tb D σ (lY K a) H:=by
 refine⟨λi m σ H=>m=xs.length-i/\i<=xs.length/\Pv i σ H,⟨xs.length,by simp,bo _,l⟩,?_⟩;rintro i m σ H ⟨rfl,j,p⟩;have q:=h i σ H j p;by_cases c:i<xs.length;refine .inr ⟨⟨xs,xs[i],q,by simp⟩,Pv (i+1),λd n f=>⟨xs.length-(i+1),by omega,J,c,f⟩,λx n y=>?_⟩;obtain⟨e,y⟩:=y
 grind
 have e:i=xs.length:=by omega
 subst e;exact .inl ⟨⟨xs,q,ae _⟩,k σ H p⟩
theorem Zh{n:Nat}(Pv:Nat->St->Hp->Prop)(h:Pv 0 σ H)(k:∀i σ H,i<n->Pv i σ H->g (.int (lo+i)) σ H λb H2=>tb (D.lp (Pv (i+1))) b H2) (f:∀σ H,Pv n σ H->D.nx σ H):
  cA g tb D σ (m7 lo n) H:=by
 refine⟨λi m σ H=>m=n-i/\i<=n/\Pv i σ H,⟨n,by simp,bo _,h⟩,?_⟩;rintro i m σ H ⟨rfl,l,p⟩;by_cases a:i<n;refine .inr ⟨a,Pv (i+1),λc j d=>⟨n-(i+1),by omega,J,a,d⟩,λx j y=>?_⟩;obtain⟨e,y⟩:=y
 simp_all
 have e:i=n:=by omega
 subst e;exact .inl ⟨ae _,f σ H p⟩
abbrev R2:=V->V->Hp->VK->Prop
def dA(X:Cx)(f:Value->Value->Sem Value)(r:R2):Prop:=
 ∀ (pins:List (Addr×Obj)) (s:Shared) (σ:St) (H:Hp) (x y:V) (v u:Value) (Q:VK),Inv X pins σ H s->yk x v->yk y u->r x y H Q->
   wpAny (model X.prog X.w) X.A (f v u) (EP X pins σ Q) X.xe s
def qN(X:Cx)(f:Value->Sem Value)(r:V->Hp->VK->Prop):Prop:=
 ∀ (pins:List (Addr×Obj)) (s:Shared) (σ:St) (H:Hp) (x:V) (v:Value) (Q:VK),Inv X pins σ H s->yk x v->r x H Q->
   wpAny (model X.prog X.w) X.A (f v) (EP X pins σ Q) X.xe s
def qx(X:Cx)(f:Value)(r:List V->Hp->VK->Prop):Prop:=
 ∀ (pins:List (Addr×Obj)) (s:Shared) (σ:St) (H:Hp) (xs:List V) (us:List Value) (Q:VK),Inv X pins σ H s->yo xs us->r xs H Q->
   wpAny (model X.prog X.w) X.A (call f us) (EP X pins σ Q) X.xe s
def xO(X:Cx)(r:V->Hp->(Bool->Hp->Prop)->Prop):Prop:=
 ∀ (pins:List (Addr×Obj)) (s:Shared) (σ:St) (H:Hp) (x:V) (v:Value) (Q:Bool->Hp->Prop),Inv X pins σ H s->yk x v->r x H Q->
   wpAny (model X.prog X.w) X.A (truthy v) (TP X pins σ Q) X.xe s
def kD(r:R2)(ta tb:TE):TE:=λσ H Q=>ta σ H λx H1=>tb σ H1 λy H2=>r x y H2 Q
def Fa(r:V->Hp->VK->Prop)(ta:TE):TE:=λσ H Q=>ta σ H λx H1=>r x H1 Q
inductive rI(C:Int->Int->Prop)(g:Int->Int->V)(x y:V)(H:Hp)(Q:VK):Prop|mk:∀i j,x=.int i->y=.int j->C i j->Q (g i j) H->rI C g x y H Q
inductive iV(g:Int->Int->V)(x y:V)(H:Hp)(Q:VK):Prop|mk:∀i j,x=.int i->y=.int j->Q (g i j) H->iV g x y H Q
inductive rU(g:Int->V)(x:V)(H:Hp)(Q:VK):Prop|mk:∀i,x=.int i->Q (g i) H->rU g x H Q
section
variable{a b:Expr}{tb tc:TE}
theorem oq(j:PE X a ta)(i:PE X b tb){R:V->V->Hp->Prop}(I:Inv X pins σ H s)(h:ta σ H λx H1=>tb σ H1 λy H2=>R x y H2) {f:Value->Value->Sem Value}
  (o:∀v u d x y H2,Inv X pins σ H2 d->yk x v->yk y u->R x y H2->wpAny (model X.prog X.w) X.A (f v u) Q X.xe d):
  wpAny (model X.prog X.w) X.A (eval a X.env) (λv c=>wpAny (model X.prog X.w) X.A (eval b X.env) (λu s₂=>wpAny (model X.prog X.w) X.A (f v u) Q X.xe s₂) X.xe c) X.xe s:=by
 refine aG (j pins s σ H _ I h) λv e ⟨x,H1,k,m,g⟩=>?_;refine aG (i pins e σ H1 _ k g) λu d ⟨y,H2,p,l,n⟩=>?_
 grind
theorem yt{op:Operator}{r:R2}(i:dA X (binaryOp op) r)(k:PE X a ta)(j:PE X b tb):PE X (.BinOp a op b aE) (kD r ta tb):=by intro c s d H Q I h;exact wpAny_BinOp (oq k j I h λv u e x y m l g f q=>i c e d m x y v u Q l g f q)
theorem nD{op:UnaryOp}{r:V->Hp->VK->Prop}(g:qN X (unaryOp op) r)(i:PE X a ta):PE X (.UnaryOp op a aE) (Fa r ta):=by intro b s c H Q I h;exact UnaryOp_ (aG (i b s c H _ I h) λv d ⟨x,k,j,e,f⟩=>g b d c k x v Q j e f)
theorem nS{f:Value->Value->Sem Value}{C:Int->Int->Prop}{g:Int->Int->Int}(rule:∀(i j:Int)(t u:Tok)(s:Shared)(Q:Value->Shared->Prop)(E:Value->Shared->Prop),C i j->Q (.int (g i j) s.toks) {s with toks:=s.toks+1}->wpAny (model X.prog X.w) X.A (f (.int i t) (.int j u)) Q E s):
  dA X f (rI C λi j=>.int (g i j)):=by intro a s k H x y v u Q I d c h;obtain⟨i,j,rfl,rfl,e,q⟩:=h;obtain⟨t,rfl⟩:=d;obtain⟨b,rfl⟩:=c;exact rule i j t b s _ _ e ⟨.int (g i j),H,I.tok _,⟨_,J⟩,q⟩
theorem rB{f:Value->Value->Sem Value}{g:Int->Int->Int}(rule:∀(i j:Int)(t u:Tok)(s:Shared)(Q:Value->Shared->Prop)(E:Value->Shared->Prop),Q (.int (g i j) s.toks) {s with toks:=s.toks+1}->wpAny (model X.prog X.w) X.A (f (.int i t) (.int j u)) Q E s):
  dA X f (iV λi j=>.int (g i j)):=by intro a s e H x y v u Q I d c h;obtain⟨i,j,rfl,rfl,q⟩:=h;obtain⟨t,rfl⟩:=d;obtain⟨b,rfl⟩:=c;exact rule i j t b s _ _ ⟨.int (g i j),H,I.tok _,⟨_,J⟩,q⟩
theorem nj{f:Value->Value->Sem Value}{g:Int->Int->Bool}(rule:∀(i j:Int)(t u:Tok)(s:Shared)(Q:Value->Shared->Prop)(E:Value->Shared->Prop),Q (.bool (g i j)) s->wpAny (model X.prog X.w) X.A (f (.int i t) (.int j u)) Q E s):
  dA X f (iV λi j=>.bl (g i j)):=by intro a s e H x y v u Q I d c h;obtain⟨i,j,rfl,rfl,q⟩:=h;obtain⟨t,rfl⟩:=d;obtain⟨b,rfl⟩:=c;exact rule i j t b s _ _ ⟨.bl (g i j),H,I,J,q⟩
def xL(i j:Int):Prop:=0<j/\j<1073741824
def xM(i j:Int):Prop:=0<=j/\j<=1000000/\i.natAbs<2^64
def lZ(i j:Int):Prop:=(-(2^64)<i/\i<2^64)\/(-(2^64)<j/\j<2^64)
theorem lZ.ok{i j:Int}(h:lZ i j):IntMulOk i j:=by rcases h with⟨b,a⟩|⟨b,a⟩;exact .of_left (intBits_le_64 b a);exact .of_right (intBits_le_64 b a)
theorem we:dA X (binaryOp .Add) (iV λi j=>.int (i+j)):=rB λ_ _ _ _ _ _ _ q=>add_int q
theorem nI:dA X (binaryOp .Sub) (iV λi j=>.int (i-j)):=rB λ_ _ _ _ _ _ _ q=>sub_int q
theorem kj:dA X (binaryOp .Mult) (rI lZ λi j=>.int (i*j)):=nS λ_ _ _ _ _ _ _ a q=>mul_int q a.ok
theorem Bi:dA X (binaryOp .FloorDiv) (rI xL λi j=>.int (i/j)):=nS λi j _ _ _ _ _ a q=>by have c:=a.1;have b:=a.2;exact floordiv_int (by omega) (by grind) (.inl (PyProof.noPylong_small (by omega)))
theorem Yd:dA X (binaryOp .Mod) (rI (λ_ j=>0<j) λi j=>.int (i%j)):=nS λi j _ _ _ _ _ a q=>by exact mod_int' (by omega) (by grind)
theorem sL:dA X (binaryOp .Pow) (rI xM λi j=>.int (i^j.toNat)):=nS λ_ _ _ _ _ _ _ a q=>pow_int_small a.1 a.2.1 a.2.2 q
theorem E9{f:Value->Sem Value}{g:Int->Int}(rule:∀(i:Int)(t:Tok)(s:Shared)(Q:Value->Shared->Prop)(E:Value->Shared->Prop),Q (.int (g i) s.toks) {s with toks:=s.toks+1}->wpAny (model X.prog X.w) X.A (f (.int i t)) Q E s):
  qN X f (rU λi=>.int (g i)):=by intro a s c H x v Q I b h;obtain⟨i,rfl,q⟩:=h;obtain⟨t,rfl⟩:=b;exact rule i t s _ _ ⟨.int (g i),H,I.tok _,⟨_,J⟩,q⟩
theorem Kt:qN X (unaryOp .USub) (rU λi=>.int (-i)):=E9 λ_ _ _ _ _ q=>neg_int q
end
noncomputable def rC:V->V->Bool|.non,.non=>true|.non,.int _=>true|.int _,.non=>true|.non,.bl _=>true|.bl _,.non=>true|.non,.str _=>true|.str _,.non=>true|.int _,.int _=>true|.bl _,.bl _=>true|.str _,.str _=>true|.byt _,.byt _=>true|.int _,.str _=>true|.str _,.int _=>true|.bl _,.str _=>true|.str _,.bl _=>true|_,_=>false
def Fh:R2:=λx y H Q=>rC x y=true/\Q (.bl (decide (x=y))) H
def wH:R2:=λx y H Q=>rC x y=true/\Q (.bl (!decide (x=y))) H
theorem tQ{i j:Int}:decide (V.int i=V.int j)=(i==j):=by grind
theorem sy{i j:Bool}:decide (V.bl i=V.bl j)=(i==j):=by grind
theorem tS{i j:Str}:decide (V.str i=V.str j)=(i==j):=by grind
theorem tP{i j:Array UInt8}:decide (V.byt i=V.byt j)=(i.toList==j.toList):=by rw[Bool.eq_iff_iff];simp
section
variable{a b:Expr}{tb tc:TE}
theorem y7{Q:VK}{k a:Bool}(I:Inv X pins σ H s)(q:Q (.bl k) H)(e:k=a):EP X pins σ Q (.bool a) s:=by subst e;exact⟨.bl k,H,I,J,q⟩
theorem yz:dA X (compareOp .Eq) Fh:=by
 intro e s f H x y v u Q I d a h;obtain⟨c,q⟩:=h;cases x with
 | non=>
   cases d;cases y with
   |non=>cases a;exact EqNone.eq_none_none (y7 I q (by simp))
   |bl j=>cases a;exact EqNone.eq_none_bool (y7 I q (by simp))
   |int j=>obtain⟨b,rfl⟩:=a;exact EqNone.eq_none_int (y7 I q (by simp))
   |str j=>obtain⟨b,rfl⟩:=a;exact EqNone.eq_none_str (y7 I q (by simp))
   |_=>exact absurd (c) bu
 | bl i=>
   cases d;cases y with
   |non=>cases a;exact EqNone.eq_bool_none (y7 I q (by simp))
   |bl j=>cases a;exact eq_bool (y7 I q sy)
   |str j=>obtain⟨b,rfl⟩:=a;exact EqMixed.eq_bool_str (y7 I q (by simp))
   |_=>exact absurd (c) bu
 | int i=>
   obtain⟨t,rfl⟩:=d;cases y with
   |non=>cases a;exact EqNone.eq_int_none (y7 I q (by simp))
   |int j=>obtain⟨b,rfl⟩:=a;exact eq_int (y7 I q tQ)
   |str j=>obtain⟨b,rfl⟩:=a;exact EqMixed.eq_int_str (y7 I q (by simp))
   |_=>exact absurd (c) bu
 | str i=>
   obtain⟨t,rfl⟩:=d;cases y with
   |non=>cases a;exact EqNone.eq_str_none (y7 I q (by simp))
   |bl j=>cases a;exact EqMixed.eq_str_bool (y7 I q (by simp))
   |int j=>obtain⟨b,rfl⟩:=a;exact EqMixed.eq_str_int (y7 I q (by simp))
   |str j=>obtain⟨b,rfl⟩:=a;exact eq_str (y7 I q tS)
   |_=>exact absurd (c) bu
 | byt i=>
   obtain⟨t,rfl⟩:=d;cases y with
   |byt j=>obtain⟨b,rfl⟩:=a;exact W.eq_bytes (y7 I q tP)
   |_=>exact absurd (c) bu
 |_=>cases y<;>exact absurd (c) bu
theorem Qp:dA X (compareOp .NotEq) wH:=by
 intro e s f H x y v u Q I d a h;obtain⟨c,q⟩:=h;cases x with
 | non=>
   cases d;cases y with
   |non=>cases a;exact EqNone.ne_none_none (y7 I q (by simp))
   |bl j=>cases a;exact EqNone.ne_none_bool (y7 I q (by simp))
   |int j=>obtain⟨b,rfl⟩:=a;exact EqNone.ne_none_int (y7 I q (by simp))
   |str j=>obtain⟨b,rfl⟩:=a;exact EqNone.ne_none_str (y7 I q (by simp))
   |_=>exact absurd (c) bu
 | bl i=>
   cases d;cases y with
   |non=>cases a;exact EqNone.ne_bool_none (y7 I q (by simp))
   |bl j=>cases a;exact ne_bool (y7 I q (congrArg not sy))
   |str j=>obtain⟨b,rfl⟩:=a;exact EqMixed.ne_bool_str (y7 I q (by simp))
   |_=>exact absurd (c) bu
 | int i=>
   obtain⟨t,rfl⟩:=d;cases y with
   |non=>cases a;exact EqNone.ne_int_none (y7 I q (by simp))
   |int j=>obtain⟨b,rfl⟩:=a;exact ne_int (y7 I q (congrArg not tQ))
   |str j=>obtain⟨b,rfl⟩:=a;exact EqMixed.ne_int_str (y7 I q (by simp))
   |_=>exact absurd (c) bu
 | str i=>
   obtain⟨t,rfl⟩:=d;cases y with
   |non=>cases a;exact EqNone.ne_str_none (y7 I q (by simp))
   |bl j=>cases a;exact EqMixed.ne_str_bool (y7 I q (by simp))
   |int j=>obtain⟨b,rfl⟩:=a;exact EqMixed.ne_str_int (y7 I q (by simp))
   |str j=>obtain⟨b,rfl⟩:=a;exact ne_str (y7 I q (congrArg not tS))
   |_=>exact absurd (c) bu
 | byt i=>
   obtain⟨t,rfl⟩:=d;cases y with
   |byt j=>obtain⟨b,rfl⟩:=a;exact W.ne_bytes (y7 I q (congrArg not tP))
   |_=>exact absurd (c) bu
 |_=>cases y<;>exact absurd (c) bu
theorem nA:dA X (compareOp .Lt) (iV λi j=>.bl (decide (i<j))):=nj λ_ _ _ _ _ _ _ q=>lt_int q
theorem Qq:dA X (compareOp .LtE) (iV λi j=>.bl (decide (i<=j))):=nj λ_ _ _ _ _ _ _ q=>le_int q
theorem mv:dA X (compareOp .Gt) (iV λi j=>.bl (decide (j<i))):=nj λ_ _ _ _ _ _ _ q=>gt_int q
theorem oH:dA X (compareOp .GtE) (iV λi j=>.bl (decide (j<=i))):=nj λ_ _ _ _ _ _ _ q=>ge_int q
theorem zo(b:Expr){op:CmpOp}(h:op≠ .In:=by decide)(d:op≠ .NotIn:=by decide):behindInMarks op b=false:=by
 have c:(op==CmpOp.In)=false:=by simp_all
 have a:(op==CmpOp.NotIn)=false:=by simp_all
 cases b<;>simp[behindInMarks,c,a]
theorem xj{op:CmpOp}{r:R2}(i:dA X (compareOp op) r)(l:PE X a ta)(k:PE X b tb)(j:behindInMarks op b=false):PE X (.Compare a [op] [b] aE) (kD r ta tb):=by intro c s d H Q I h;exact wpAny_Compare1 (oq l k I h λv u e x y n m g f q=>i c e d n x y v u Q m g f q) j
inductive fW(Q:Bool->Hp->Prop)(x:V)(H':Hp):Prop|mk:∀k,x=.bl k->Q k H'->fW Q x H'
def si(t:TE):TT:=λσ H Q=>t σ H λx H'=>fW Q x H'
theorem zr{op:CmpOp}{r:R2}(q:dA X (compareOp op) r)(A:PE X a ta)(w:PE X b tb)(t:behindInMarks op b=false):PT X (.Compare a [op] [b] aE) (si (kD r ta tb)):=by
 intro d s f H Q I h;refine wpAny_isTrue_Compare1 (aG (A d s f H _ I h) λv i ⟨x,G,D,m,p⟩=>aG (w d i f G _ D p) λu g ⟨y,F,C,l,o⟩=>aG (q d g f F x y v u _ C m l o) λc K ⟨z,E,B,j,k,e,n⟩=>?_) t
 subst e;cases j;exact wpAny_truthy_bool ⟨E,B,n⟩
inductive fu(r':R2)(tc:TE)(σ:St)(Q:VK)(y z:V)(H3:Hp):Prop|mk:∀k,z=.bl k->(if k=true then tc σ H3 λw' H4=>r' y w' H4 Q else Q (.bl false) H3)->fu r' tc σ Q y z H3
def AD(r F:R2)(ta tb B:TE):TE:=λσ H Q=>ta σ H λx H1=>tb σ H1 λy H2=>r x y H2 λz G=>fu F B σ Q y z G
theorem vD{op g:CmpOp}{r m:R2}(M:dA X (compareOp op) r)(j:dA X (compareOp g) m)(S:PE X a ta)(R:PE X b tb)(P:PE X c tc)(N:lastMarks [op,g] [b,c]=false:=by with_unfolding_all rfl):PE X (.Compare a [op,g] [b,c] aE) (AD r m ta tb tc):=by
 intro f s i H Q I h;refine Compare_chain (aG (S f s i H _ I h) λv C ⟨x,H1,Z,F,L⟩=>chain_link (aG (R f C i H1 _ Z L) λu B ⟨y,H2,W,l,K⟩=>aG (M f B i H2 x y v u _ W F l K) λd A ⟨z,p,o,E,k,e,n⟩=>?_)) N
 subst e;cases E;refine wpAny_truthy_bool ?_;cases k with|false=>exact ite_ff ⟨.bl false,p,o,J,n⟩|true=>exact ite_tt (chain_last (aG (P f A i p _ o n) λt w ⟨q,H4,U,D,G⟩=>j f w i H4 y q u t Q U l D G))
def rH(K:W.Frag)(x:V)(H:Hp)(k:Bool):Prop:=match x with|.non=>k=false|.bl b=>k=b|.int i=>k=(i !=0)|.str y=>y.length<=sizeLine/\k=((y.length:Int) !=0)|.byt y=>y.size<=sizeLine/\k=((y.size:Int) !=0)|.ref p=>(∃xs,aJ K H p xs/\k= !xs.isEmpty)\/(∃xs,aH K H p xs/\k= !xs.isEmpty)\/∃kvs,H p=some (.dK kvs)/\k= !kvs.isEmpty|_=>False
theorem Et{a:Type}{kvs:O (a×V)}{vs:O (a×I)}(r:KV kvs vs):(!vs.isEmpty)= !kvs.isEmpty:=by cases r<;>rfl
theorem Q0(r:yo xs its):(!its.toArray.isEmpty)= !xs.isEmpty:=by cases r<;>simp
theorem Qw:(sizeLine:Nat)<2^63:=by rw[sizeLine_eq];decide
theorem A7:xO X (λx H Q=>∃k,rH X.K x H k/\Q k H):=by intro o s B H x v Q I d h;obtain⟨k,e,q⟩:=h;have C:=sizeLine_eq;cases x with| non=>cases d;have a:=e;subst a;exact truthy_none ⟨H,I,q⟩| bl b=>cases d;have a:=e;subst a;exact wpAny_truthy_bool ⟨H,I,q⟩| int i=>obtain⟨t,rfl⟩:=d;have a:=e;subst a;exact P.truthy_int ⟨H,I,q⟩| str y=>obtain⟨t,rfl⟩:=d;obtain⟨z,a⟩:y.length<=sizeLine/\k=((y.length:Int) !=0):=e;subst a;exact P.truthy_str (by omega) ⟨H,I.tok _,q⟩| byt y=>obtain⟨t,rfl⟩:=d;obtain⟨z,a⟩:y.size<=sizeLine/\k=((y.size:Int) !=0):=e;subst a;exact W.truthy_bytes (by omega) ⟨H,I.tok _,q⟩| ref p=>cases d;have a:=e;rcases a with⟨w,g,a⟩|⟨w,g,a⟩|⟨f,g,a⟩;subst a;obtain⟨n,r,l,u⟩:=I.list g;have c:=r.length;exact wpAny_truthy_list l.isList (by grind) ⟨H,I.tok _,by rw[Q0 r];exact q⟩;subst a;obtain⟨n,r,l,u⟩:=I.tuple g;have c:=r.length;exact truthy_tuple l (by grind) ⟨H,I.tok _,by rw[Q0 r];exact q⟩;subst a;obtain⟨u,A,j,r,m⟩:f.length<=sizeLine/\(p==sysModules)=false/\∃j,KV f j/\s.heap.DictOf (zy X.prog X.w) p j:=I.hok p _ g;have c:=Paired.length r;exact wpAny_truthy_dict A m (by omega) ⟨H,I.tok _,by rw[Et r];exact q⟩|_=>exact(e).elim
theorem CG(g:PE X a ta)(he:∀b,isTrue a X.env b=(do let v<-b;standAt a.pos;holding [v] (truthy v))):PT X a (λσ H Q=>ta σ H λx H'=>∃k,rH X.K x H' k/\Q k H'):=by intro c s σ H Q I h;exact isTrue_plain (aG (g c s σ H _ I h) λv d ⟨x,j,i,e,f⟩=>A7 c d σ j x v Q i e f) (he _)
theorem qt{x:V}(r:yo [x] us):∃u,us=[u]/\yk x u:=by cases r with|cons b a=>cases a;simp_all
theorem zI{x:V}(r:yo [x,y] us):∃u a,us=[u,a]/\yk x u/\yk y a:=by cases r with| cons e c=>cases c with|cons d b=>cases b;grind
theorem Km:qx X (.type "int") (λxs H Q=>(∃i,xs=[.int i]/\Q (.int i) H)\/∃k,xs=[.bl k]/\Q (.int (if k then 1 else 0)) H):=by intro a s c H xs d Q I r h;rcases h with⟨i,rfl,q⟩|⟨k,rfl,q⟩;obtain⟨u,rfl,t,rfl⟩:=qt r;exact call_int_int ⟨.int i,H,I,⟨_,J⟩,q⟩;obtain⟨u,rfl,b⟩:=qt r;cases b;exact call_int_bool ⟨.int (if k then 1 else 0),H,I.tok _,⟨_,J⟩,q⟩
end
structure eY(h:Heap)(x dx C:Addr)(mA:Str->Option Value):Prop where
 obj:h.get? x=some (W.instObj C dx)
 ns:h.Ns1 dx mA
 ne:dx≠x
theorem Da(n:h.Ns1 dx mA):∃od,h.get? dx=some od/\∀name,W.lookIn name od=some (mA name):=by
 obtain⟨o,i,j,d,g,hk,_,f⟩:=n;refine⟨o,d,λname=>?_⟩;have e:=f name;unfold nsFind findBy at e;rw[<-Array.find?_toList]at e;unfold W.lookIn;rw[g];dsimp only;split
 simp_all
 rename_i q
 rw[q]at e;have a:i.toList.any (·.refKey)=false:=by rw[List.any_eq_false];intro y c;obtain⟨z,t,b⟩:=hk y (Array.mem_toList_iff.mp c);simp[DictEntry.refKey,b]
 simp_all
theorem eY.look{x:Y}(I:eY h x dx C mA):∃od,W.InstAt h x (W.instObj C dx) C (some od)/\∀name,W.lookIn name od=some (mA name):=
 let⟨od,a,b⟩:=Da I.ns
 ⟨od,⟨I.obj,J,J,a⟩,b⟩
section
variable{K:W.Frag}{x f:Addr}{v:Value}
theorem BB{a:Bool}(X:K.In s.heap)(I:eY s.heap x dx C mA)(f:W.plainGet K C name=true)(e:W.hasDictIn K C=true)(g:W.findIn K (.ref C) name=some none) (c:mA name=some v) (b:W.handedIn v=true) (h:Q v {s with toks:=s.toks+1}):
  wpAny (model prog w) A (getAttr (.ref x) name a) Q E s:=by obtain⟨i,J,d⟩:=I.look;exact W.get_value X J (W.plainGet_of f).1 (W.findObj_own e g rfl (by rw[d,c])) b h
theorem Ck{b:Sem Bool}{Q:Value×O Value->Shared->Prop}(X:K.In s.heap)(I:eY s.heap x dx C mA)(a:W.plainGet K C name=true)(i:W.findIn K (.ref C) name=some (some (.ref f))) (e:W.isFn K (.ref f)=true) (d:mA name=none) (h:Q (.ref f,[.ref x]) s):
  wpAny (model prog w) A (getMethod (.ref x) name b) Q E s:=by obtain⟨c,J,g⟩:=I.look;exact W.method_fn X J (W.plainGet_of a).1 (W.plainGet_of a).2 i (beq_iff_eq.mp e) (by show(W.lookIn name c).map (·.isSome)=some false;rw[g,d];rfl) h
theorem BW{Q:Unit->Shared->Prop}(X:K.In s.heap)(I:eY s.heap x dx C mA)(m:W.findIn K (.ref C) "__setattr__"=some (some (.builtin "object.__setattr__"))) (n:W.plainOver K C=true) (k:W.takerIn K C name=some none) (o:W.hasDictIn K C=true)
  (j:PySem.Within mA ns) (l:ns.length<=sizeLine)
  (h:∀h',eY h' x dx C (λy=>if y=name then some v else mA y)->Heap.SameBut dx s.heap h'->Q () {s with heap:=h',toks:=s.toks+2}):
  wpAny (model prog w) A (setAttr (.ref x) name v) Q E s:=by obtain⟨t,J,z⟩:=I.look;refine W.set_plain X J m (W.osa_open X J n k λb=>?_);obtain⟨B,p,f⟩:=W.any_some o;have i:=I.obj;refine a4 (a9 (a4 (a4 (wpAny_loadPart i (a4 (W.Looks.here (W.looks_clsIn X p) ?_))))));rw[f];refine a9 (a4 (a9 (a4 ?_)));refine wpAny_nsSet1 I.ns λh' c a=>?_;obtain⟨u,q,r,d,e,g⟩:=c.count (PySem.Within.cons name v j);refine a4 (wpAny_lookBehind d (by rw[e];exact pastItsLine_dict (cj g (by simp_all))) ?_);exact a9 (h _ ⟨(a.2 _ (aj I.ne)).trans I.obj,c,I.ne⟩ a)
theorem B4{vs:O I}{b:O (Str×I)}(X:K.In s.heap)(c:W.makesIn K C=true)(e:W.findIn K (.ref C) "__init__"=some (some (.ref f))) (i:W.typeIn K (.ref f)=some (.type "function"))
  (h:codeAny (model prog w) (A.under (.builtin "type.__call__" ⟨.ref C::vs,b⟩)) (.call (.ref f) ⟨.ref (s.heap.objs.size+1)::vs,b⟩) (W.InitBack (s.heap.objs.size+1) R) {s with heap:=(s.heap.push W.emptyDict).push (W.instObj C s.heap.objs.size)}):
  codeAny (model prog w) A (.call (.ref C) ⟨vs,b⟩) R s:=by obtain⟨j,g,d,t,os⟩:=s;exact W.make_core (W.makes_of X c) (W.looks_findIn X e) (λa=>W.bind_fn X a i) (.inl J) h
end
noncomputable def vn(f:Str)(v:V):List (Str×V)->List (Str×V)|[]=>[(f,v)]|(g,x)::r=>if g=f then(g,v)::r else(g,x)::vn f v r
theorem W8(f g:Str)(v:V):∀fs:List (Str×V),(vn f v fs).lookup g=if g=f then some v else fs.lookup g
 | []=>by
   show List.lookup g [(f,v)]=_
   grind
 | (k,x)::r=>by
   have a:=W8 f g v r;rw[show vn f v ((k,x)::r)=(if k=f then(k,v)::r else(k,x)::vn f v r)from rfl]
   grind
theorem Wt(f:Str)(v:V):∀fs:List (Str×V),f∈(vn f v fs).map (·.1)/\∀g,g∈fs.map (·.1)->g∈(vn f v fs).map (·.1)
 |[]=>⟨by simp[vn],λg h=>by grind⟩
 | (k,x)::r=>by
   obtain⟨b,a⟩:=Wt f v r;rw[show vn f v ((k,x)::r)=(if k=f then(k,v)::r else(k,x)::vn f v r)from rfl]
   grind
theorem W9(f:Str)(v:V):∀fs:List (Str×V),(vn f v fs).length<=fs.length+1
 |[]=>by simp[vn]
 | (k,x)::r=>by
   have a:=W9 f v r;rw[show vn f v ((k,x)::r)=(if k=f then(k,v)::r else(k,x)::vn f v r)from rfl]
   grind
theorem Zk.some_of(r:Zk (some v) o):∃u,o=some u/\yk v u:=by cases o with|none=>exact(r).elim|some u=>exact⟨u,J,r⟩
theorem Zk.none_of(r:Zk none o):o=none:=by cases o with|none=>rfl|some u=>exact(r).elim
theorem C0(r:yk v u):W.handedIn u=true:=by cases v with|non=>cases(r);rfl|bl b=>cases(r);rfl|int i=>obtain⟨t,e⟩:=(r);cases e;rfl|str x=>obtain⟨t,e⟩:=(r);cases e;rfl|byt b=>obtain⟨t,e⟩:=(r);cases e;rfl|flt b=>obtain⟨t,e⟩:=(r);cases e;rfl|ref a=>cases(r);rfl|ty n=>cases(r);rfl
section
variable{fs Fm:List (Str×V)}
theorem Vr(b:bR P w H h)(e:H a=some (.ins C dx fs)):∃mA,eY h a dx C mA/\(∀f,Zk (fs.lookup f) (mA f))/\PySem.Within mA (fs.map (·.1))/\fs.length<=1000/\H dx=some (.own a):=by
 obtain⟨d,z,g,c,mA,n,r,q⟩:=(b a _ e)
 exact⟨mA,⟨c,n,g⟩,r,q,z,d⟩
end
structure fO(K:W.Frag)(C:Addr):Prop where
 pg:W.plainGet K C Str.empty=true
 hd:W.hasDictIn K C=true
 po:W.plainOver K C=true
 sa:W.findIn K (.ref C) "__setattr__"=some (some (.builtin "object.__setattr__"))
theorem fO.get{K:W.Frag}(c:fO K C)(f:Str):W.plainGet K C f=true:=c.pg
def Ym(K:W.Frag)(C:Addr)(f:Str):Prop:=W.findIn K (.ref C) f=some none
theorem Ym.taker{K:W.Frag}(n:Ym K C f):W.takerIn K C f=some none:=by unfold W.takerIn;rw[(n)];rfl
structure ii(K:W.Frag)(C:Addr)(m:Str)(f:Addr):Prop where
 at_:W.findIn K (.ref C) m=some (some (.ref f))
 fn:W.isFn K (.ref f)=true
 kp:W.keepIn K (.ref f)=true
section
variable{fs:List (Str×V)}
theorem Er{b:Bool}(I:Inv X pins σ H s)(e:H a=some (.ins C dx fs))(c:fO X.K C)(n:Ym X.K C f)(l:fs.lookup f=some v)(h:∀u s',Inv X pins σ H s'->yk v u->Q u s'):wpAny (model X.prog X.w) A (getAttr (.ref a) f b) Q E s:=by obtain⟨i,O,r,_,_,_⟩:=Vr I.hok e;obtain⟨u,g,d⟩:=Zk.some_of (by rw[<-l];exact r f);exact BB I.kIn O (c.get f) c.hd n g (C0 d) (h u _ (I.tok _) d)
theorem Q1{g:Y}{b:Sem Bool}{Q:Value×List Value->Shared->Prop}(I:Inv X pins σ H s)(e:H a=some (.ins C dx fs))(c:fO X.K C)(k:ii X.K C m g)(l:fs.lookup m=none)(h:Q (.ref g,[.ref a]) s):wpAny (model X.prog X.w) A (getMethod (.ref a) m b) Q E s:=by obtain⟨f,O,r,_,_,_⟩:=Vr I.hok e;have d:=Zk.none_of (by rw[<-l];exact r m);exact Ck I.kIn O (c.get m) k.at_ k.fn d h
theorem EF{Q:Unit->Shared->Prop}(I:Inv X pins σ H s)(e:H a=some (.ins C dx fs))(c:fO X.K C)(n:Ym X.K C f)(D:fs.length<1000)(k:yk y u)(h:∀s',Inv X pins σ (upd H a (.ins C dx (vn f y fs))) s'->Q () s'):wpAny (model X.prog X.w) A (setAttr (.ref a) f u) Q E s:=by
 obtain⟨B,O,r,i,_,m⟩:=Vr I.hok e;have l:(fs.map (·.1)).length<=sizeLine:=by rw[ai,sizeLine_eq];omega
 refine BW I.kIn O c.sa c.po n.taker c.hd i l λw d j=>h _ ?_;have t:∃o,w.get? dx=some o:=let⟨o,_,_,x,_⟩:=d.ns;⟨o,x⟩;refine I.write (by rw[e];exact True.intro) (.inr m) (λb q v z=>(j.2 b v).trans z) t ?_;refine⟨by rw[upd_ne O.ne];omega,?_,O.ne,d.obj,_,d.ns,λg=>?_,λg p=>?_⟩;have:=W9 f y fs;omega;rw[W8];by_cases q:g=f;rw[if_pos q,if_pos q];exact k
 simp_all
 by_cases q:g=f;rw[q];exact(Wt f y fs).1;refine(Wt f y fs).2 g (i g λz=>p ?_)
 simp_all
theorem Inv.made(I:Inv X pins σ H s):Inv X pins σ (upd (upd H s.heap.objs.size (.own (s.heap.objs.size+1))) (s.heap.objs.size+1) (.ins C s.heap.objs.size []))
  {s with heap:=(s.heap.push W.emptyDict).push (W.instObj C s.heap.objs.size)}:=by
 have c:(s.heap.push W.emptyDict).get? s.heap.objs.size=some W.emptyDict:=bf s.heap J;have h:((s.heap.push W.emptyDict).push (W.instObj C s.heap.objs.size)).get? (s.heap.objs.size+1)=some (W.instObj C s.heap.objs.size):=by
  have:=bf (s.heap.push W.emptyDict) (o:=W.instObj C s.heap.objs.size) J
  rwa[dy]at this
 have g:(s.heap.push W.emptyDict).Ns s.heap.objs.size (λ_=>none):=⟨W.emptyDict,#[],_,c,J,(λe f=>absurd f (by simp)),λ_=>rfl⟩
 have i:=I.laid (o:=.own (s.heap.objs.size+1)) (t':=s.toks) (λb u q=>aq _ q) (ae _) ⟨_,c⟩;refine i.laid (λb u q=>aq _ q) (Nat.le_of_eq (dy _ _)) ?_;have a:s.heap.objs.size≠s.heap.objs.size+1:=az (dz _);refine⟨by rw[upd_ne a,ze],bo _,a,h,λ_=>none,(Heap.Ns1.of_empty g).at λo q=>aq _ q,λ_=>True.intro,λy d=>absurd J d⟩
theorem AR(b:attributeBase e f env (eval e env)=eval e env)(h:wpAny (model prog w) A (eval e env) (λo a=>wpAny (model prog w) A (getAttr o f true) Q E a) E s):wpAny (model prog w) A (eval (.Attribute e f aE) env) Q E s:=
 Attribute_any_ h (by rw[arm_eval_Attribute,b])
end
inductive jG(K:W.Frag)(f:Str)(Q:VK)(x:V)(H1:Hp):Prop|mk:∀a C dx fs v,x=.ref a->H1 a=some (.ins C dx fs)->fO K C->Ym K C f->fs.lookup f=some v->Q v H1->jG K f Q x H1
def lH(K:W.Frag)(ta:TE)(f:Str):TE:=λσ H Q=>ta σ H λx H1=>jG K f Q x H1
inductive jI(K:W.Frag)(f:Str)(D:Ends)(σ:St)(y x:V)(H2:Hp):Prop|mk:∀a C dx fs,x=.ref a->H2 a=some (.ins C dx fs)->fO K C->Ym K C f->fs.length<1000->D.nx σ (upd H2 a (.ins C dx (vn f y fs)))->jI K f D σ y x H2
def xX(K:W.Frag)(ta B:TE)(f:Str):TS:=λD σ H=>B σ H λy H1=>ta σ H1 λx H2=>jI K f D σ y x H2
def re(X:Cx)(op:Operator)(B:V->V->Hp->VK->Prop):Prop:=∀(pins:List (Addr×Obj))(s:Shared)(σ:St)(H:Hp)(x y:V)(u v:Value)(Q:VK),Inv X pins σ H s->yk x u->yk y v->B x y H Q->wpAny (model X.prog X.w) X.A (inplaceOp op u v) (EP X pins σ Q) X.xe s
section
variable{o:Expr}{cD dP:Pos}{tv:TE}
theorem zt(he:PE X e ta)(j:attributeBase e f X.env (eval e X.env)=eval e X.env):PE X (.Attribute e f aE) (lH X.K ta f):=by intro b s d H Q I h;refine AR j (aG (he b s d H _ I h) λu y ⟨x,r,p,g,a,C,A,z,v,k,m,c,n,l,q⟩=>?_);subst k;obtain rfl:u=Value.ref a:=g;exact Er p m c n l λt w o i=>⟨v,r,o,i,q⟩
theorem va(r:PE X o ta)(m:PE X aR tv)(p:swapsWith aR (some (.Attribute o f cD)) aE.line X.env=pure false):PS X (.Assign [.Attribute o f cD] aR aE) (xX X.K ta tv f):=by intro b s d H D I h;refine plainObj_wpAny_Assign_Attribute (aG (m b s d H _ I h) λu e ⟨y,B,A,g,q⟩=>aG (r b e d B _ A q) λk F ⟨x,L,z,i,a,C,K,G,t,v,c,n,l,j⟩=>?_) p;subst t;obtain rfl:k=Value.ref a:=i;exact EF z v c n l g λE w=>⟨d,_,w,j⟩
inductive mL(x y:V)(H:Hp)(Q:VK):Prop|mk:∀i j,x=.int i->y=.int j->Q (.int (i+j)) H->mL x y H Q
theorem AH:re X .Add mL:=by
 rintro b s e H x y u v Q I d c ⟨i,j,rfl,rfl,q⟩;obtain⟨t,rfl⟩:=(show∃t,u=Value.int i t from d)
 obtain⟨a,rfl⟩:=(show∃a,v=Value.int j a from c)
 exact PyProof.Rows.iadd_int ⟨.int (i+j),H,I.tok _,⟨_,J⟩,q⟩
end
section
variable{c:Value}{b:Bool}
inductive cS(K:W.Frag)(H:Hp):V->Value->Prop where|non:cS K H .non (.type "NoneType")|bl (x:Bool):cS K H (.bl x) (.type "bool")|int (i:Int):cS K H (.int i) (.type "int")|str (x:Str):cS K H (.str x) (.type "str")|flt (x:UInt64):cS K H (.flt x) (.type "float")|lst {a:Addr} {xs:List V} (e:H a=some (.lst xs)):cS K H (.ref a) (.type "list")|frz {a:Addr} {o:Obj} {xs:List V} (e:H a=some (.frz o (.lst xs))):cS K H (.ref a) (.type "list")|tup {a:Addr} {xs:List V} (e:H a=some (.tup xs)):cS K H (.ref a) (.type "tuple")|dK {a:Addr} {kvs:List (aI×V)} (e:H a=some (.dK kvs)):cS K H (.ref a) (.type "dict")|dT {a:Addr} {kvs:List (List aI×V)} (e:H a=some (.dT kvs)):cS K H (.ref a) (.type "dict")|ins {a C dx:Addr} {fs:List (Str×V)} (e:H a=some (.ins C dx fs)) (cl:fO K C) (ha:W.findIn K (.ref C) "__class__"=some (some (.builtin "object.__class__")))
  (hn:W.specialIn K (.builtin "object.__class__") "__get__"=some (some (.builtin "getset_descriptor.__get__"))) (htk:W.takesIn K (.builtin "object.__class__")=some true)
  (hm:W.mroIn K C (.type "object")=some true):cS K H (.ref a) (.ref C)
theorem C5{x:V}{t:Value}(I:Inv X pins σ H s)(d:yk x u)(v:cS X.K H x t)(e:W.kitOne X.K t c=some b)(h:∀tk,Q (.bool b) {s with toks:=tk}):wpAny (model X.prog X.w) A (call (.builtin "isinstance") [u,c]) Q E s:=by
 cases v with|non=>cases(d);exact W.kia_one W.kitx_none I.kIn True.intro e (λz=>nomatch z) h|bl y=>cases(d);exact W.kia_one W.kitx_bool I.kIn True.intro e (λz=>nomatch z) h|int i=>obtain⟨t,q⟩:=(d);cases q;exact W.kia_one W.kitx_int I.kIn True.intro e (λz=>nomatch z) h|str y=>obtain⟨t,q⟩:=(d);cases q;exact W.kia_one W.kitx_str I.kIn True.intro e (λz=>nomatch z) h|flt y=>obtain⟨t,q⟩:=(d);cases q;exact W.kia_one W.kitx_float I.kIn True.intro e (λz=>nomatch z) h| @lst a k f=>
   cases(d);obtain⟨_,_,n,_,g⟩:=(I.hok a _ f)
   exact W.kia_one W.kitx_list I.kIn ⟨_,g,rfl⟩ e (λz=>nomatch z) h| @frz a M k f=>
   cases(d);obtain⟨_,_,_,n,_,g⟩:=(I.hok a _ f)
   exact W.kia_one W.kitx_list I.kIn ⟨_,g,rfl⟩ e (λz=>nomatch z) h| @tup a k f=>
   cases(d);obtain⟨_,_,_,p⟩:=(I.hok a _ f)
   obtain⟨⟨o,g,j,_⟩,_⟩:=p;exact W.kia_one W.kitx_tuple I.kIn ⟨o,g,j⟩ e (λz=>nomatch z) h| @dK a l f=>
   cases(d);obtain⟨_,_,K,_,p⟩:=(I.hok a _ f)
   obtain⟨o,F,G,g,j,_⟩:=p;exact W.kia_one W.kitx_dict I.kIn ⟨o,g,j.1⟩ e (λz=>nomatch z) h| @dT a l f=>
   cases(d);obtain⟨_,_,k,_,o,F,G,g,j,_⟩:=(I.hok a _ f)
   exact W.kia_one W.kitx_dict I.kIn ⟨o,g,j.1⟩ e (λz=>nomatch z) h| @ins a C R P f r D w m B=>cases(d);obtain⟨N,O,_⟩:=Vr I.hok f;obtain⟨L,J,_⟩:=O.look;exact W.kia_one (W.kitx_own (r.get _) r.hd D w m B) I.kIn J e (λz=>nomatch z) h
end
structure aO(k:Nat)(A:Around):Prop where
 hd:A.handled=none
 dp:A.depth+3*k+5<recursionLimit
 un:A.units+16*k+200<cLine
theorem aO.mono{j k:Nat}(r:aO k A)(h:j<=k):aO j A:=⟨r.hd,by have:=r.dp;omega,by have:=r.un;omega⟩
theorem aO.deeper{k:Nat}{A:Around}(r:aO (k+1) A)(a:Env):aO k (A.deeper a):=⟨r.hd,by have:=r.dp;show A.depth+1+3*k+5<_;omega,by have:=r.un;show A.units+3+16*k+200<_;omega⟩
theorem Ev{a:O (Str×I)}:(A.under (.builtin "type.__call__" ⟨.ref C::us,a⟩)).depth=A.depth+1:=by rfl
theorem Ew{a:O (Str×I)}:(A.under (.builtin "type.__call__" ⟨.ref C::us,a⟩)).units=A.units+1:=by rfl
theorem aO.make{k:Nat}(r:aO (k+1) A)(C:Y)(a:O I)(b:O (Str×I)):aO k (A.under (.builtin "type.__call__" ⟨.ref C::a,b⟩)):=⟨r.hd,by have:=r.dp;rw[Ev];omega,by have:=r.un;rw[Ew];omega⟩
theorem aO.depth{k:Nat}{A:Around}(r:aO k A):A.depth<recursionLimit:=by have:=r.dp;omega
theorem aO.units{k:Nat}{A:Around}(r:aO k A):A.units+64<cLine:=by have:=r.un;omega
theorem aO.units0{k:Nat}(r:aO k A):A.units<cLine:=by have:=r.un;omega
def Wd:TA:=λ_ H Q=>Q [] H
def jr(ta:TE)(B:TA):TA:=λσ H Q=>ta σ H λx H1=>B σ H1 λxs H2=>Q (x::xs) H2
section
variable{t:TA}
theorem zd:PA X [] Wd:=λ_ _ _ _ H Q I h=>Calls.spliced_nil ⟨[],H,I,.nil,h⟩
theorem zc(m:PE X e te)(l:PA X es t)(k:starEach (e::es) X.env=(false,eval e X.env)::starEach es X.env:=by rfl):PA X (e::es) (jr te t):=by intro n a s b H Q I h;rw[k];refine Calls.spliced_cons (aG (m a s b H _ I h) λu d ⟨x,r,p,g,j⟩=>?_);exact aG (l n a d b r _ p j) λv w ⟨c,q,o,f,i⟩=>⟨x::c,q,o,.cons g f,i⟩
def yJ(t:TA):TE:=λσ H Q=>t σ H λxs H1=>xs.length<=sizeLine/\∀p,H1 p=none->Q (.ref p) (upd H1 p (.tup xs))
def yF(t:TA):TE:=λσ H Q=>t σ H λxs H1=>xs.length<=sizeLine/\∀p,H1 p=none->Q (.ref p) (upd H1 p (.lst xs))
theorem Wm{i}(h:PA X es t):PE X (.Tuple es i aE) (yJ t):=by intro a s f H Q I k;refine wpAny_Tuple_spliced (aG (h aE a s f H _ I k) λj c ⟨g,m,d,r,z,q⟩=>⟨by rw[<-r.length];exact z,?_⟩);have l:=d.hok.fresh (ae _);refine⟨.ref c.heap.objs.size,upd m c.heap.objs.size (.tup g),d.laid (λb u e=>aq _ e) (ae _) ?_,J,q _ l⟩;exact⟨z,j,r,⟨_,bf _ J,J,_,J⟩,iw.push⟩
theorem tz(h:PA X es t):PE X (.List es aE) (yF t):=by intro a s f H Q I j;refine wpAny_List_spliced (aG (h aE a s f H _ I j) λi c ⟨g,l,d,r,z,q⟩=>⟨by rw[<-r.length];exact z,?_⟩);have k:=d.hok.fresh (ae _);refine⟨.ref c.heap.objs.size,upd l c.heap.objs.size (.lst g),d.laid (λb u e=>aq _ e) (ae _) ?_,J,q _ k⟩;exact⟨z,i,0,r,bf _ J⟩
end
abbrev Sp:=List V->Hp->VK->XK->Prop
abbrev io:=List Env->Hp->Shared->XK->Value->Shared->Prop
structure eZ(P:Program)(w:World)(K:W.Frag)(mg:Str->Option Value)(base:Heap)(A:Around)(outer:List Env)(s:Shared)(H:Hp):Prop where
 frames:A.frames=some outer
 mod:Mod K mg base
 bs:∀b o,base.get? b=some o->s.heap.get? b=some o/\H b=none
 bsz:base.objs.size<=s.heap.objs.size
 funs:s.heap.FunFrames base outer
 frf:∀b∈fS outer,H b=none
 hok:bR P w H s.heap
 bare:AllBare s.gens
inductive CE(outer:List Env)(P:Program)(w:World)(H:Hp)(s:Shared)(Q:VK)(u:Value)(s':Shared):Prop|mk:∀v H',s'.os=s.os->AllBare s'.gens->Un (fS outer) [] H H' s.heap s'.heap->bR P w H' s'.heap->yk v u->Q v H'->CE outer P w H s Q u s'
def CR(CX:io)(outer:List Env)(P:Program)(w:World)(H:Hp)(s:Shared)(Q:VK)(E:XK)(r:Result)(B:Shared):Prop:=match r with|.ok (.ret u)=>CE outer P w H s Q u B|.ok _=>False|.error e=>CX outer H s E e B
structure cG(P:Program)(w:World)(K:W.Frag)(mg:Str->Option Value)(base:Heap)(CX:io)(k:Nat)(f:Addr)(fd:FuncData)(ps:List Str)(sp:Sp):Prop where
 len:∀vs H Q E,sp vs H Q E->vs.length=ps.length
 run:∀(A:Around)(outer:List Env)(s:Shared)(H:Hp)(args:Args)(us:List Value)(vs:List V)(Q:VK)(E:XK),aO k A->eZ P w K mg base A outer s H->BindsTo s fd args (ps.zip us)->yo vs us->sp vs H Q E->
  codeAny (model P w) A (.call (.ref f) args) (CR CX outer P w H s Q E) s
theorem eZ.make{K:W.Frag}(e:eZ P w K mg base A outer s H)(C:Y)(a:O I)(b:O (Str×I)):eZ P w K mg base (A.under (.builtin "type.__call__" ⟨.ref C::a,b⟩)) outer s H:=⟨by first|exact e.frames|(simpa[Around.under,Code.envs,Code.isFrame,pushEnvs]using e.frames),e.mod,e.bs,e.bsz,e.funs,e.frf,e.hok,e.bare⟩
section
variable{s':Shared}
theorem Inv.env0(I:Inv X pins σ H s):eZ X.prog X.w X.K X.mg X.base X.A X.stack s H:=⟨I.ok.frames,I.ok.mod,I.bs,cj I.ok.bsz I.sz,I.stack,I.stkFree,I.hok,I.bare⟩
theorem Inv.after{Q:VK}(I:Inv X pins σ H s)(h:CE X.stack X.prog X.w H s Q u s'):EP X pins σ Q u s':=by obtain⟨v,c,os,bare,un,hok,r,q⟩:=h;obtain⟨e,g,d,t,a⟩:=s';obtain rfl:a=s.os:=os;exact⟨v,c,I.call un hok bare (λb z=>absurd z (by simp)),r,q⟩
end
def rX(sp:Sp)(B:List V)(E:XK)(t:TA):TE:=λσ H Q=>t σ H λvs H1=>sp (vs++B) H1 Q E
inductive gc(C:Addr)(m:Str)(sp:Sp)(dvs:List V)(E:XK)(t:TA)(σ:St)(Q:VK)(x:V)(H1:Hp):Prop|mk:∀a dx fs,x=.ref a->H1 a=some (.ins C dx fs)->fs.lookup m=none->(t σ H1 λvs H2=>sp (x::(vs++dvs)) H2 Q E)->gc C m sp dvs E t σ Q x H1
def my(C:Addr)(m:Str)(sp:Sp)(B:List V)(E:XK)(ta:TE)(t:TA):TE:=λσ H Q=>ta σ H λx H1=>gc C m sp B E t σ Q x H1
def rZ(C:Addr)(sp:Sp)(B:List V)(E:XK)(t:TA):TE:=λσ H Q=>t σ H λvs H1=>∀x dx,H1 x=none->H1 dx=none->dx≠x->
 sp (.ref x::(vs++B)) (upd (upd H1 dx (.own x)) x (.ins C dx [])) (λv H2=>v=.non/\Q (.ref x) H2) E
def Z4(K:W.Frag)(G:FuncData)(B:List Str)(F:List Value):Prop:=∀(s:Shared)(us:List Value),K.In s.heap->(us++F).length=B.length->BindsTo s G ⟨us,[]⟩ (B.zip (us++F))
theorem Z4.all{K:W.Frag}(h:∀us:O I,us.length=ps.length->bindArgs fd ⟨us,[]⟩=pure (ps.zip us)):Z4 K fd ps []:=λs us _ a=>by rw[eh]at a⊢;exact .of_eq (h us a)
def Xj(CX:io)(X:Cx)(E:XK):Prop:=∀(pins:List (Addr×Obj))(σ:St)(H:Hp)(s:Shared)(e:Value)(s':Shared),Inv X pins σ H s->CX X.stack H s E e s'->X.xe e s'
section
variable{CX:io}{k:Nat}{f:Addr}{sp:Sp}{dvs:List V}{E:XK}{o:Expr}{t:TA}
theorem pD{Q:VK}(F:cG X.prog X.w X.K X.mg X.base CX k f fd ps sp)(g:aO k X.A)(l:Z4 X.K fd ps ds)(j:yo dvs ds)(d:Xj CX X E)(I:Inv X pins σ H s) (r:yo vs us) (h:sp (vs++dvs) H Q E):wpAny (model X.prog X.w) X.A (call (.ref f) us) (EP X pins σ Q) X.xe s:=by
 have b:=r.append j;have i:(us++ds).length=ps.length:=by rw[<-b.length];exact F.len _ _ _ _ h
 refine wpAny_call (codeAny_mono (F.run X.A X.stack s H ⟨us,[]⟩ (us++ds) (vs++dvs) Q E g I.env0 (l s us I.kIn i) b h) λr c a=>?_);cases r with|error e=>exact d pins σ H s e c I a| ok m=>cases m with|ret u=>exact I.after a|next=>exact False.elim a|brk=>exact False.elim a|cont=>exact False.elim a
theorem Bo(F:cG X.prog X.w X.K X.mg X.base CX k f fd ps sp)(j:aO k X.A)(n:Gl X x)(l:X.mg x=some (.ref f))(m:W.keepIn X.K (.ref f)=true)(u:Z4 X.K fd ps ds)(o:yo dvs ds)(i:Xj CX X E)(v:PA X (e::es) t) (c:(x==("__debug__":Str))=false:=by decide) (he:starEach (e::es) X.env=(false,eval e X.env)::starEach es X.env:=by rfl) (b:(backTo aE (starEach es X.env)).any (·.1)=false:=by rfl):
  PE X (.Call (.Name x p) (e::es) [] aE) (rX sp dvs E t):=by intro a s g H Q I h;refine wpAny_Call_Name_kw (pS I n l ?_ c);refine W.callWith_K I.ok.mod.kin m (aG (v aE a s g H _ I h) λy z ⟨w,A,d,r,q⟩=>⟨d.kIn,?_⟩) he b;exact pD F j u o i d r q
theorem Br{A:Sem Bool}(he:PE X o ta)(c:fO X.K C)(j:ii X.K C m f)(F:cG X.prog X.w X.K X.mg X.base CX k f fd ps sp)(G:aO k X.A)(L:Z4 X.K fd ps ds)(K:yo dvs ds)(B:Xj CX X E)(M:PA X (e::es) t)(d:starEach (e::es) X.env=(false,eval e X.env)::starEach es X.env:=by rfl) (g:(backTo aE (starEach es X.env)).any (·.1)=false:=by rfl)
  (D:eval (.Call (.Attribute o m apos) (e::es) [] aE) X.env=(do
   let ov<-eval o X.env
   standAt apos.atName
   let(f,first)<-holding [ov] (getMethod ov m A)
   callWith aE f first (backTo aE (starEach (e::es) X.env)) (backToKw aE (keywordEach [] X.env))):=by rfl):
  PE X (.Call (.Attribute o m apos) (e::es) [] aE) (my C m sp dvs E ta t):=by intro b s i H Q I h;refine W.methodCall_KW (aG (he b s i H _ I h) λu w ⟨x,R,p,y,a,dx,Z,N,P,l,q⟩=>?_) D;subst N;obtain rfl:u=Value.ref a:=y;refine Q1 p P c j l ?_;refine W.callWith_K I.ok.mod.kin j.kp (aG (M aE b w i R _ p q) λS U ⟨v,H2,n,r,z⟩=>⟨n.kIn,?_⟩) d g;exact pD (vs:=.ref a::v) F G L K B n (.cons J r) z
theorem CB{j:Sem Bool}(he:PE X o ta)(c:fO X.K C)(e:ii X.K C m f)(F:cG X.prog X.w X.K X.mg X.base CX k f fd ps sp)(r:aO k X.A)(v:Z4 X.K fd ps ds)(t:yo dvs ds)(n:Xj CX X E)(p:eval (.Call (.Attribute o m apos) [] [] aE) X.env=(do
   let ov<-eval o X.env
   standAt apos.atName
   let(f,first)<-holding [ov] (getMethod ov m j)
   callWith aE f first (backTo aE (starEach [] X.env)) (backToKw aE (keywordEach [] X.env))):=by rfl):
  PE X (.Call (.Attribute o m apos) [] [] aE) (my C m sp dvs E ta Wd):=by intro b s g H Q I h;refine W.methodCall_KW (aG (he b s g H _ I h) λu z ⟨x,D,d,i,a,B,A,w,y,l,q⟩=>?_) p;subst w;obtain rfl:u=Value.ref a:=i;refine Q1 d y c e l ?_;exact W.callWith_K0 d.kIn e.kp (pD (vs:=[.ref a]) F r v t n d (.cons J .nil) q)
structure Mk(K:W.Frag)(C f:Addr):Prop where
 makes:W.makesIn K C=true
 init:W.findIn K (.ref C) "__init__"=some (some (.ref f))
 fn:W.isFn K (.ref f)=true
 kp:W.keepIn K (.ref C)=true
theorem Cs{Q:VK}(M:Mk X.K C f)(F:cG X.prog X.w X.K X.mg X.base CX k f fd ps sp)(m:aO (k+1) X.A)(p:Z4 X.K fd ps ds)(o:yo dvs ds)(l:Xj CX X E) (I:Inv X pins σ H s) (r:yo vs us)
  (h:∀x dx,H x=none->H dx=none->dx≠x->sp (.ref x::(vs++dvs)) (upd (upd H dx (.own x)) x (.ins C dx [])) (λv H2=>v=.non/\Q (.ref x) H2) E):
  wpAny (model X.prog X.w) X.A (call (.ref C) us) (EP X pins σ Q) X.xe s:=by
 have d:=h (s.heap.objs.size+1) s.heap.objs.size (I.hok.fresh (Nat.le_succ _)) (I.hok.fresh (ae _)) (az (dz _));have b:=Inv.made (C:=C) I;have c:yo (V.ref (s.heap.objs.size+1)::(vs++dvs)) (Value.ref (s.heap.objs.size+1)::(us++ds)):=.cons J (r.append o);have n:(Value.ref (s.heap.objs.size+1)::us++ds).length=ps.length:=by
  have e:=c.length;rw[F.len _ _ _ _ d]at e
  simp_all
 refine wpAny_call (B4 I.kIn M.makes M.init (beq_iff_eq.mp M.fn) (codeAny_mono (F.run _ X.stack _ _ ⟨Value.ref (s.heap.objs.size+1)::us,[]⟩ (Value.ref (s.heap.objs.size+1)::(us++ds)) _ _ E (m.make C us []) (b.env0.make C us []) (p _ (Value.ref (s.heap.objs.size+1)::us) b.kIn n) c d) λr g a=>?_))
 cases r with|error e=>exact l pins σ _ _ e g b a| ok q=>cases q with| ret u=>obtain⟨v,y,w,i,t,j⟩:=b.after a;subst t;exact⟨i,⟨V.ref (s.heap.objs.size+1),y,w,J,j⟩⟩|next=>exact False.elim a|brk=>exact False.elim a|cont=>exact False.elim a
theorem Bq(M:Mk X.K C f)(F:cG X.prog X.w X.K X.mg X.base CX k f fd ps sp)(j:aO (k+1) X.A)(m:Gl X x)(l:X.mg x=some (.ref C))(o:Z4 X.K fd ps ds)(n:yo dvs ds)(i:Xj CX X E)(u:PA X (e::es) t) (c:(x==("__debug__":Str))=false:=by decide) (he:starEach (e::es) X.env=(false,eval e X.env)::starEach es X.env:=by rfl) (b:(backTo aE (starEach es X.env)).any (·.1)=false:=by rfl):
  PE X (.Call (.Name x p) (e::es) [] aE) (rZ C sp dvs E t):=by intro a s g H Q I h;refine wpAny_Call_Name_kw (pS I m l ?_ c);refine W.callWith_K I.ok.mod.kin M.kp (aG (u aE a s g H _ I h) λw y ⟨v,z,d,r,q⟩=>⟨d.kIn,?_⟩) he b;exact Cs M F j o n i d r q
end
section
variable{CX:io}{k:Nat}{f:Addr}{ks:List Str}{sp:Sp}{E:XK}{mP:Pos}{o:Expr}{Fv:List Keyword}{t tk:TA}{nm:Option Str}
variable{g:List Value->List Value->List Value}{gV:List V->List V->List V}
end
structure aA(N P:List Str)(sc:Scope):Prop where
 kind:sc.kind=.function
 co:sc.isCoroutine=false
 gen:sc.isGenerator=false
 nd:N.Nodup
 pre:N.take P.length=P
 par:∀x∈P,sc.names.lookup x=some .local\/sc.names.lookup x=some .cell
 nofree:∀y∈sc.names,y.2≠ .free
theorem aA.of{P:O Str}(g:sc.kind=.function:=by rfl)(f:sc.isCoroutine=false:=by rfl)(e:sc.isGenerator=false:=by rfl)(d:N.Nodup:=by decide+kernel)(c:N.take P.length=P:=by rfl)(b:∀x∈P,sc.names.lookup x=some .local\/sc.names.lookup x=some .cell:=by decide+kernel)(a:∀y∈sc.names,y.2≠ .free:=by decide+kernel):aA N P sc:=⟨g,f,e,d,c,b,a⟩
theorem Kn{kindOf:Str->Option NameKind}{x:Str}:∀{a:List (Str×Value)}{m:Str->Option Value},(∀v,(x,v) ∉ a)->bindL kindOf a m x=m x
 |[],_,_=>rfl
 | (n,v)::r,m,h=>by
   unfold bindL;rw[Kn λw b=>h w (br _ b)];split
   grind
   rfl
theorem Kp{kindOf:Str->Option NameKind}{x:Str}:∀{a:List (Str×Value)}{m:Str->Option Value},(∀v,(x,v) ∉ a)->bindC kindOf a m x=m x
 |[],_,_=>rfl
 | (n,v)::r,m,h=>by
   unfold bindC;rw[Kp λw b=>h w (br _ b)];split;rfl
   grind
theorem Ko{kindOf:Str->Option NameKind}{x:Str}{v:Value}:∀{P:List Str}{vs:List Value}{i:Nat}{m:Str->Option Value},P.Nodup->P[i]?=some x->vs[i]?=some v->kindOf x=some .local->
  bindL kindOf (P.zip vs) m x=some v|[],_,_,_,_,h,_,_=>by simp at h|_::_,[],_,_,_,_,h,_=>by simp at h| p::P,w::vs,0,m,c,b,a,hk=>by simp at b a;subst b;subst a;show bindL kindOf ((p,w)::P.zip vs) m p=_;unfold bindL;rw[Kn λv d=>(cr.mp c).1 (List.of_mem_zip d).1,if_pos hk];simp| p::P,w::vs,i+1,m,c,b,a,hk=>by show bindL kindOf ((p,w)::P.zip vs) m x=_;unfold bindL;exact Ko (i:=i) (cr.mp c).2 (by simpa using b) (by simpa using a) hk
theorem Kq{kindOf:Str->Option NameKind}{x:Str}{v:Value}:∀{P:List Str}{vs:List Value}{i:Nat}{m:Str->Option Value},P.Nodup->P[i]?=some x->vs[i]?=some v->kindOf x≠some .local->
  bindC kindOf (P.zip vs) m x=some v|[],_,_,_,_,h,_,_=>by grind|_::_,[],_,_,_,_,h,_=>by grind| p::P,w::vs,0,m,b,a,c,hk=>by simp at a c;subst a;subst c;show bindC kindOf ((p,w)::P.zip vs) m p=_;unfold bindC;rw[Kp λv d=>(cr.mp b).1 (List.of_mem_zip d).1,if_neg hk];simp| p::P,w::vs,i+1,m,b,a,c,hk=>by unfold bindC;exact Kq (cr.mp b).2 (by simpa using a) (by simp_all) hk
noncomputable def start(N:List Str)(vs:List V):St:=vs.map some++List.replicate (N.length-vs.length) none
noncomputable def Ve(CX:io)(P:Program)(w:World)(K:W.Frag)(mg:Str->Option Value)(base:Heap)(N:List Str)(F:Str)(B:Scope)(f:Addr)(U:Value)(A:Around)(outer:List Env)(s:Shared)(H:Hp)(E:XK):Cx where
 prog:=P
 w:=w
 K:=K
 mg:=mg
 base:=base
 A:=A.deeper (envOfC F B s.heap.objs.size f U)
 N:=N
 s₀:=s
 H₀:=H
 env:=envOfC F B s.heap.objs.size f U
 outer:=outer
 stack:=envOfC F B s.heap.objs.size f U::outer
 ex:=[]
 calm:=true
 fn:=λ_=>true
 pn:=[]
 xe:=λe s'=>wpAny (model P w) (A.deeper (envOfC F B s.heap.objs.size f U)) (leaving (envOfC F B s.heap.objs.size f U) e) (λ_ G=>CX outer H s E e G) (λZ G=>CX outer H s E Z G) s'
theorem uG{n:Nat}(h:sc.names.lookup x=some .cell):∃c,(cellsFrom n sc.names []).lookup x=some c:=by have q:=W.cellsFrom_some sc.names n [] (.inl h);exact Option.isSome_iff_exists.mp q
theorem C4{CX:io}{K:W.Frag}{f:Y}{o:I}{t:Shared}{E:XK}(S:aA N ps scope) (F:A.handled=none) (a:eZ P w K mg base A outer s H) (M:vs.length=ps.length) (r:yo vs us)
  (x:InCallC s s.heap.objs.size (bindL (envOfC qual scope s.heap.objs.size f o).kindOf (ps.zip us) λ_=>none) (cellsFrom (s.heap.objs.size+1) scope.names []) (bindC (envOfC qual scope s.heap.objs.size f o).kindOf (ps.zip us) λ_=>none) t):
  Inv (Ve CX P w K mg base N qual scope f o A outer s H E) [] (start N vs) H t:=by
 have D:ps.length<=N.length:=by have:=congrArg List.length S.pre;grind
 obtain⟨n,L,rfl,hk⟩:=x.done;have d:∀b:Y,b ∉ (Ve CX P w K mg base N qual scope f o A outer s H E).ex:=λb z=>absurd (show b∈[]from z) (by simp);refine⟨⟨a.mod,S.kind,J,J,ae _,λy z c n m=>?_,λy j=>?_,λy c _ h=>?_,λ_=>F,Around.frames_deeper a.frames,.inr ⟨J,J⟩,λb z=>absurd z (d b),a.bs,a.bsz,λb _ _=>d b,λb z=>absurd z (d b),a.funs,a.frf⟩,J,a.bare,Un.kept hk,⟨_,x.toInCall.ns,λi y v n m R=>?_⟩,λy c h=>⟨_,x.cell y c h⟩,a.hok.fresh (ae _),λy c h=>?_,λp l=>absurd (show p∈[]from l) (by simp),a.hok.kept hk,?_⟩
 exact name_of_addr x.apart (PySem.mem_of_lookup n) (PySem.mem_of_lookup m);rcases j with j|j;exact uG j;exact absurd J (S.nofree _ (PySem.mem_of_lookup j));exact Nat.le_of_lt (x.above y c (PySem.mem_of_lookup h));have Q:i<vs.length:=by
  unfold start at m
  grind
 have G:vs[i]?=some v:=by
  unfold start at m
  grind
 obtain⟨u,B,C⟩:=r.get G;have l:ps[i]?=some y:=by rw[<-S.pre,List.getElem?_take_of_lt (by omega)];exact n
 have g:ps.Nodup:=by rw[<-S.pre];exact S.nd.sublist (List.take_sublist _ _)
 refine⟨u,C,?_⟩;rcases S.par y (ck l)with k|k;exact .inl ⟨k,Ko g l B k⟩;obtain⟨c,e⟩:=uG k;refine .inr ⟨.inl k,c,e,?_⟩;have q:=x.cell y c e;rw[Kq g l B (by show scope.names.lookup y≠_;rw[k];decide)]at q;exact q;exact a.hok.fresh (Nat.le_of_lt (x.above y c (PySem.mem_of_lookup h)));unfold start;show _=N.length
 simp_all
theorem yK{CX:io}{K:W.Frag}{k:Nat}{f:Addr}{a:Arguments}{R kV z M cdv U oc:Value}{Z od:Option Addr}{sp:Sp} (lk:K.lookup f=some ⟨oc,od,.func (W.fnOf name qual a eX scope R kV z M Z cdv U),osl⟩) (G:W.codeIn K cdv qual=true) (S:aA N ps scope)
  (j:∀vs H Q E,sp vs H Q E->vs.length=ps.length)
  (g:∀(A:Around) (outer:List Env) (s:Shared) (H:Hp) (vs:List V) (Q:VK) (E:XK),aO k (A.deeper (envOfC qual scope s.heap.objs.size f cdv))->sp vs H Q E-> ∃t,dO (Ve CX P w K mg base N qual scope f cdv A outer s H E) eX t/\t (.of Q) (start N vs) H):
  cG P w K mg base CX (k+1) f (W.fnOf name qual a eX scope R kV z M Z cdv U) ps sp:=by
 refine⟨j,λA outer s H X us vs Q E F p hb r l=>?_⟩;have hl:=j _ _ _ _ l;have KX:=p.mod.kin.keeps λb o e=>(p.bs b o e).1;have D:=p.mod.nolimit.keeps λb o e=>(p.bs b o e).1;have d:∀y∈ps.zip us,scope.names.lookup y.1=some .local\/(scope.names.lookup y.1=some .cell/\((cellsFrom (s.heap.objs.size+1) scope.names []).lookup y.1).isSome=true):=λ⟨n,v⟩ hy=>by
  rcases S.par n (List.of_mem_zip hy).1 with q|q
  simp_all
  exact .inr ⟨q,W.cellsFrom_some _ _ _ (.inl q)⟩
 refine codeAny_call_function F.depth (KX _ _ lk) rfl S.co S.gen rfl (W.codeRec_of KX G) (hb _ _ _ _ ?_);refine wpAny_newFunctionEnv_cells S.kind d λag he L x=>?_;subst he;refine⟨D.keeps x.toInCall.keep,codeAny_func ?_⟩;obtain⟨t,ht,hq⟩:=g A outer s H vs Q E (F.deeper _) l;have I:Inv (Ve CX P w K mg base N qual scope f cdv A outer s H E) [] (start N vs) H L:=C4 S F.hd p hl r x;refine de (ht [] L (start N vs) H _ I hq) (λfl B h=>?_) λe B h=>h;have m:∀{c:St}{i:Hp}{v:V}{u:Value},Inv (Ve CX P w K mg base N qual scope f cdv A outer s H E) [] c i B->yk v u->Q v i->CE outer P w H s Q u B:=
  λ{c i v u} J C q=>⟨v,i,J.os,J.bare,J.base,J.hok,C,q⟩
 cases fl with
 | ret u=>obtain⟨v,c,i,J,C,q⟩:=h;exact m J C q
 | next=>obtain⟨c,i,J,q⟩:=h;exact m (v:=V.non) J rfl q
 | brk=>
   obtain⟨_,_,_,q⟩:=h
   simp_all
 | cont=>
   obtain⟨_,_,_,q⟩:=h
   simp_all
section
variable{t:TA}{T:String}{r:List V->Hp->VK->Prop}
def mE(r:List V->Hp->VK->Prop)(t:TA):TE:=λσ H Q=>t σ H λvs H1=>r vs H1 Q
theorem yf(q:qx X (.builtin id) r)(o:Gl X x)(n:X.mg x=none)(l:bootBuiltins x=some (.builtin id))(u:PA X (e::es) t)(m:x≠"__name__":=by decide)(c:(x==("__debug__":Str))=false:=by decide)
  (he:starEach (e::es) X.env=(false,eval e X.env)::starEach es X.env:=by rfl) (b:(backTo aE (starEach es X.env)).any (·.1)=false:=by rfl):PE X (.Call (.Name x p) (e::es) [] aE) (mE r t):=by intro a s d H Q I h;refine wpAny_Call_Name_kw (Xf I o n l ?_ m c);exact PyProof.Rows.callWith_builtin1 (aG (u aE a s d H _ I h) λg i ⟨f,w,v,j,k⟩=>q a i d w f g Q v j k) he b
theorem xk(q:qx X (.type T) r)(o:Gl X x)(n:X.mg x=none)(l:bootBuiltins x=some (.type T))(u:PA X (e::es) t)(m:x≠"__name__":=by decide)(c:(x==("__debug__":Str))=false:=by decide)
  (he:starEach (e::es) X.env=(false,eval e X.env)::starEach es X.env:=by rfl) (b:(backTo aE (starEach es X.env)).any (·.1)=false:=by rfl):PE X (.Call (.Name x p) (e::es) [] aE) (mE r t):=by intro a s d H Q I h;refine wpAny_Call_Name_kw (Xf I o n l ?_ m c);exact PyProof.Rows.callWith_type1 (aG (u aE a s d H _ I h) λg i ⟨f,w,v,j,k⟩=>q a i d w f g Q v j k) he b
end
section
variable{κ:Type}[DecidableEq κ]
noncomputable def y9(kvs:List (κ×V))(k:κ):Option V:=(kvs.find? λB=>decide (B.1=k)).map (·.2)
noncomputable def wc(kvs:List (κ×V))(k:κ)(v:V):List (κ×V):=if(kvs.any λB=>decide (B.1=k))=true then kvs.map (λB=>if B.1=k then(B.1,v)else B)else kvs++[(k,v)]
noncomputable def j0(kvs:List (κ×V))(k:κ):List (κ×V):=kvs.filter λB=>decide (B.1≠k)
theorem wk{p:κ×V}{r:O (κ×V)}{k:κ}(e:p.1=k):y9 (p::r) k=some p.2:=by simp[y9,List.find?_cons,e]
theorem wm{p:κ×V}{r:O (κ×V)}{k:κ}(e:¬p.1=k):y9 (p::r) k=y9 r k:=by simp[y9,List.find?_cons,e]
theorem jq(k:κ):∀kvs:List (κ×V),(kvs.any λa=>decide (a.1=k))=(y9 kvs k).isSome|[]=>rfl| p::r=>by rw[List.any_cons];by_cases e:p.1=k;simp only[wk e,ax e,Bool.true_or,Option.isSome_some];rw[wm e,c5 e,Bool.false_or];exact jq k r
theorem vV(k j:κ)(y:V):∀kvs:List (κ×V),y9 (kvs.map λa=>if a.1=k then(a.1,y)else a) j=(y9 kvs j).map λx=>if j=k then y else x|[]=>rfl| p::r=>by have b:=vV k j y r;rw[c6];by_cases h:p.1=k;rw[if_pos h];by_cases e:p.1=j;rw[wk (p:=(p.1,y)) e,wk e,Option.map_some,if_pos (e.symm.trans h)];rw[wm (p:=(p.1,y)) e,wm e,b];rw[if_neg h];by_cases e:p.1=j;rw[wk e,wk e,Option.map_some,if_neg (λz=>h (e.trans z))];rw[wm e,wm e,b]
theorem Jt(k j:κ)(y:V):∀kvs:List (κ×V),y9 kvs k=none->y9 (kvs++[(k,y)]) j=if j=k then some y else y9 kvs j
 | [],_=>by by_cases e:k=j;rw[if_pos e.symm];exact wk e;rw[if_neg (λz=>e z.symm)];exact wm e
 | p::r,a=>by
   rw[List.cons_append];have hk:¬p.1=k:=λz=>by rw[wk z]at a;grind
   rw[wm hk]at a;have b:=Jt k j y r a;by_cases e:p.1=j;rw[wk e,wk e,if_neg (λz=>hk (e.trans z))];rw[wm e,wm e,b]
theorem ku(kvs:O (κ×V))(k j:κ)(y:V):y9 (wc kvs k y) j=if j=k then some y else y9 kvs j:=by
 unfold wc;by_cases a:(kvs.any λb=>decide (b.1=k))=true;rw[if_pos a,vV];rw[jq]at a;by_cases e:j=k;obtain⟨x,c⟩:=Option.isSome_iff_exists.mp a;rw[if_pos e,e,c,Option.map_some,if_pos J]
 simp_all
 rw[if_neg a];refine Jt k j y kvs ?_;rw[jq]at a
 simp_all
theorem xt(kvs:O (κ×V))(k:κ)(v:V):(wc kvs k v).length<=kvs.length+1:=by
 unfold wc
 grind
theorem Yc{kvs:O (κ×V)}{k:κ}(v:V)(h:y9 kvs k=none):wc kvs k v=kvs++[(k,v)]:=by unfold wc;rw[jq,h];rfl
theorem Zk.isSome_eq{o:Option V}{u:Option Value}(r:Zk o u):o.isSome=u.isSome:=by
 cases o with
 | none=>cases u with
   |none=>rfl
   |some _=>exact(r).elim
 | some _=>cases u with
   |none=>exact(r).elim
   |some _=>rfl
theorem Zk.getD{o:Option V}{u:Option Value}{d:V}{a:Value}(r:Zk o u)(b:yk d a):yk (o.getD d) (u.getD a):=by
 cases o with
 | none=>cases u with
   |none=>grind
   |some _=>exact(r).elim
 | some _=>cases u with
   |none=>exact(r).elim
   |some _=>exact r
theorem KV.val{kvs:List (κ×V)}{vs:List (κ×Value)}(r:KV kvs vs)(k:κ):Zk (y9 kvs k) (valueAt vs k):=by
 unfold KV at r;induction r with|nil=>exact True.intro| @cons p q g a h t i=>
   obtain⟨d,f⟩:=h;by_cases e:p.1=k;have c:=d.symm.trans e;have b:valueAt (q::a) k=some q.2:=by simp[valueAt,List.find?_cons,c]
   rw[wk e,b];exact f;have c:¬q.1=k:=λz=>e (d.trans z);have b:valueAt (q::a) k=valueAt a k:=by simp[valueAt,List.find?_cons,c]
   rw[wm e,b];omega
theorem KV.any{kvs:List (κ×V)}{vs:List (κ×Value)}(r:KV kvs vs)(k:κ):(kvs.any λa=>decide (a.1=k))=vs.any λa=>decide (a.1=k):=by unfold KV at r;induction r with|nil=>rfl|cons h t b=>rw[List.any_cons,List.any_cons,b,h.1]
theorem KV.repl{kvs:List (κ×V)}{vs:List (κ×Value)}(r:KV kvs vs)(k:κ)(c:yk y u):KV (kvs.map λa=>if a.1=k then(a.1,y)else a) (vs.map λa=>if a.1=k then(a.1,u)else a):=by
 unfold KV at r⊢;induction r with|nil=>exact .nil| @cons p q e d h t b=>
   rw[c6,c6];refine .cons ?_ b
   grind
theorem KV.put{kvs:O (κ×V)}{vs:O (κ×I)}(r:KV kvs vs)(k:κ)(a:yk y u):KV (wc kvs k y) (stored vs k u):=by unfold wc stored;rw[r.any k];by_cases e:(vs.any λb=>decide (b.1=k))=true;rw[if_pos e,if_pos e];exact r.repl k a;rw[if_neg e,if_neg e];exact Paired.snoc r ⟨J,a⟩
theorem KV.drop{kvs:List (κ×V)}{vs:List (κ×Value)}(r:KV kvs vs)(k:κ):KV (j0 kvs k) (without vs k):=by
 unfold KV at r⊢;unfold j0 without;induction r with|nil=>exact .nil| @cons p q i g h t d=>
   obtain⟨c,f⟩:=h;rw[List.filter_cons,List.filter_cons];by_cases e:p.1=k
   simp_all
   have j:¬q.1=k:=λz=>e (c.trans z);have a:decide (p.1≠k)=true:=by grind
   have b:decide (q.1≠k)=true:=by grind
   rw[if_pos a,if_pos b];exact .cons ⟨c,f⟩ d
theorem KV.length{kvs:O (κ×V)}{vs:O (κ×I)}(r:KV kvs vs):kvs.length=vs.length:=Paired.length r
theorem uK(kvs:O (κ×V))(k:κ):(j0 kvs k).length<=kvs.length:=f6 _ _
end
theorem Y3{k:aI}(r:yk (kV k) u):(zy P w).is k u=true:=by cases k with|inl i=>obtain⟨t,e⟩:=(r);subst e;exact EC P w i t|inr x=>obtain⟨t,e⟩:=(r);subst e;exact ED P w x t
theorem Kf{P:Program}{w:World}:∀{a:List aI}{b:List Value},yo (a.map kV) b->ItemsAre (zy P w) a b|[],_,r=>by rw[List.map_nil]at r;cases r;exact .nil| k::a,_,r=>by rw[c6]at r;cases r with|cons h t=>exact .cons (Y3 h) (Kf t)
abbrev KT(H:Hp):List (List aI×V)->List (List aI×Addr×Value)->Prop:=Paired λp q=>p.1=q.1/\H q.2.1=some (.tup (p.1.map kV))/\yk p.2 q.2.2
theorem KT.val{kvs:List (List aI×V)}{xs:List (List aI×Addr×Value)}(r:KT H kvs xs)(k:List aI):Zk (y9 kvs k) ((atKey xs k).map (·.2)):=by
 induction r with|nil=>exact True.intro| @cons p q g a h t i=>
   obtain⟨d,_,f⟩:=h;by_cases e:p.1=k;have c:=d.symm.trans e;have b:atKey (q::a) k=some q.2:=by simp[atKey,List.find?_cons,c]
   rw[wk e,b];exact f;have c:¬q.1=k:=λz=>e (d.trans z);have b:atKey (q::a) k=atKey a k:=by simp[atKey,List.find?_cons,c]
   rw[wm e,b];omega
theorem KT.repl{kvs:List (List aI×V)}{xs:List (List aI×Addr×Value)}(r:KT H kvs xs)(k:List aI)(d:yk y u):KT H (kvs.map λb=>if b.1=k then(b.1,y)else b) (xs.map (putAt k u)):=by induction r with|nil=>exact .nil| @cons p q j i h t f=>rw[c6,c6];refine .cons ?_ f;obtain⟨a,c,g⟩:=h;unfold putAt;by_cases e:p.1=k;rw[if_pos e,if_pos (a.symm.trans e)];exact⟨a,c,d⟩;rw[if_neg e,if_neg (λz=>e (a.trans z))];exact⟨a,c,g⟩
theorem KT.put{kvs:O (O aI×V)}{xs:O (O aI×Y×I)}(r:KT H kvs xs)(k:O aI)(d:H b=some (.tup (k.map kV)))(a:yk y u):KT H (wc kvs k y) (storedH xs k b u):=by
 have e:(kvs.any λc=>decide (c.1=k))=(atKey xs k).isSome:=by rw[jq,(r.val k).isSome_eq,Option.isSome_map]
 unfold wc storedH;rw[e];by_cases q:(atKey xs k).isSome=true;rw[if_pos q,if_pos q];exact r.repl k a;rw[if_neg q,if_neg q];exact Paired.snoc r ⟨J,d,a⟩
theorem KT.keeps{kvs:O (O aI×V)}{xs:O (O aI×Y×I)}(r:KT H kvs xs)(a:∀b ys,H b=some (.tup ys)->H' b=some (.tup ys)):KT H' kvs xs:=Paired.mapP r λ_ _ z=>⟨z.1,a _ _ z.2.1,z.2.2⟩
section
theorem rV{u:HO}(b:bR P w H h)(e:Rd H a u):wq P w H h a u:=e.ok b
theorem X7(b:bR P w H h)(e:Rd H a (.dK kvs)):kvs.length<=sizeLine/\(a==sysModules)=false/\∃vs,KV kvs vs/\h.DictOf (zy P w) a vs:=(rV b e)
theorem rQ(b:bR P w H h)(e:H a=some (.dK kvs)):kvs.length<=sizeLine/\(a==sysModules)=false/\∃vs,KV kvs vs/\h.DictOf (zy P w) a vs:=X7 b (.inl e)
theorem Yh(c:bR P w H h)(e:H a=some (.tup (ks.map kV))):(tupleKind (zy P w)).is h ks a:=by
 obtain⟨_,b,r,⟨o,g,f,n,d⟩,_⟩:=(c a _ e)
 exact⟨o,b.toArray,n,g,f,d,by simpa using Kf r⟩
theorem Z3{kvs:O (O aI×V)}(c:bR P w H h)(e:Rd H a (.dT kvs)):kvs.length<=sizeLine/\(a==sysModules)=false/\
  ∃xs,KT H kvs xs/\h.DictOfH (tupleKind (zy P w)) a xs:=by
 obtain⟨z,y,xs,r,o,k,n,j,i,g,f,d⟩:=(rV c e)
 refine⟨z,y,xs,r,o,k,n,j,i,g,f,λx b=>?_,d⟩;have s:∀{l:O (O aI×V)}{m:O (O aI×Y×I)},KT H l m->∀x∈m,(tupleKind (zy P w)).is h x.1 x.2.1:=by
  intro l m q;induction q with|nil=>simp| @cons p q v u B t A=>
    intro x b;rcases ak.mp b with e|b;subst e;exact Yh c (by simp_all)
    grind
 grind
theorem mr{kvs:O (O aI×V)}(b:bR P w H h)(e:H a=some (.dT kvs)):kvs.length<=sizeLine/\(a==sysModules)=false/\
 ∃xs,KT H kvs xs/\h.DictOfH (tupleKind (zy P w)) a xs:=Z3 b (.inl e)
end
def DGet(H:Hp)(a:Addr)(y:V)(r:Option V):Prop:=(∃kvs k,Rd H a (.dK kvs)/\y=kV k/\r=y9 kvs k)\/∃kvs k b,Rd H a (.dT kvs)/\y=.ref b/\H b=some (.tup (k.map kV))/\r=y9 kvs k
def Zl(H:Hp)(a:Addr)(y v:V)(B:Hp):Prop:=
 (∃kvs k,H a=some (.dK kvs)/\y=kV k/\kvs.length<sizeLine/\B=upd H a (.dK (wc kvs k v)))\/
 ∃kvs k b,H a=some (.dT kvs)/\y=.ref b/\H b=some (.tup (k.map kV))/\kvs.length<sizeLine/\B=upd H a (.dT (wc kvs k v))
theorem DGet.k{H:Hp}{a:Y}{kvs:O (aI×V)}{k:aI}(e:H a=some (.dK kvs)):DGet H a (kV k) (y9 kvs k):=.inl ⟨kvs,k,.inl e,J,J⟩
theorem DGet.t{kvs:O (O aI×V)}{k:O aI}(e:H a=some (.dT kvs))(c:H b=some (.tup (k.map kV))):DGet H a (.ref b) (y9 kvs k):=.inr ⟨kvs,k,b,.inl e,J,c,J⟩
theorem Zl.k{H:Hp}{a:Y}{kvs:O (aI×V)}{k:aI}{v:V}(e:H a=some (.dK kvs))(b:kvs.length<sizeLine):Zl H a (kV k) v (upd H a (.dK (wc kvs k v))):=.inl ⟨kvs,k,e,J,b,J⟩
theorem Zl.t{kvs:O (O aI×V)}{k:O aI}(e:H a=some (.dT kvs))(d:H b=some (.tup (k.map kV)))(c:kvs.length<sizeLine):Zl H a (.ref b) v (upd H a (.dT (wc kvs k v))):=.inr ⟨kvs,k,b,e,J,d,c,J⟩
section
variable{o:Option V}
theorem Inv.big(I:Inv X pins σ H s):sysModules<s.heap.objs.size:=by have h:=(I.mod.glob.keeps I.bk).lt;exact Nat.lt_trans (by decide) h
theorem CM(r:A.units+1<cLine)(I:Inv X pins σ H s)(g:DGet H a y (some v))(q:yk y u)(h:∀f s',Inv X pins σ H s'->yk v f->Q f s'):wpAny (model X.prog X.w) A (getItem (.ref a) u) Q E s:=by rcases g with⟨i,k,e,n,l⟩|⟨i,k,b,e,n,x,l⟩;subst n;obtain⟨z,w,C,d,o⟩:=X7 I.hok e;obtain⟨f,j,c⟩:=Zk.some_of (by rw[l];exact d.val k);exact wpAny_getItem_of (Y3 q) o.mapOf j (h f _ (I.tok _) c);subst n;cases(q);obtain⟨z,w,B,d,o⟩:=Z3 I.hok e;obtain⟨f,j,c⟩:=Zk.some_of (by rw[l];exact d.val k);obtain⟨p,t,m⟩:=cu.mp j;refine wpAny_getItem_heap (tupleKind_room_in1 r) (Yh I.hok x) o t ?_;rw[m];exact h f _ (I.tok _) c
theorem xR(n:A.units+1<cLine)(I:Inv X pins σ H s)(g:DGet H a y o)(m:yk y u)(h:∀s',Inv X pins σ H s'->Q (.bool o.isSome) s'):wpAny (model X.prog X.w) A (compareOp .In u (.ref a)) Q E s:=by rcases g with⟨d,k,e,i,l⟩|⟨d,k,b,e,i,p,l⟩;subst i;obtain⟨z,f,t,c,j⟩:=X7 I.hok e;refine wpAny_in_of (Y3 m) f j.mapOf ?_;rw[<-(c.val k).isSome_eq,<-l];exact h _ (I.tok _);subst i;cases(m);obtain⟨z,f,r,c,j⟩:=Z3 I.hok e;refine wpAny_in_heap (tupleKind_room_in1 n) (Yh I.hok p) f j ?_;have q:=(c.val k).isSome_eq;rw[Option.isSome_map]at q;rw[<-q,<-l];exact h _ (I.tok _)
theorem AT(n:A.units+1<cLine)(I:Inv X pins σ H s)(g:DGet H a y o)(m:yk y u)(h:∀s',Inv X pins σ H s'->Q (.bool (!o.isSome)) s'):wpAny (model X.prog X.w) A (compareOp .NotIn u (.ref a)) Q E s:=by rcases g with⟨d,k,e,i,l⟩|⟨d,k,b,e,i,p,l⟩;subst i;obtain⟨z,f,t,c,j⟩:=X7 I.hok e;refine wpAny_notIn_of (Y3 m) f j.mapOf ?_;rw[<-(c.val k).isSome_eq,<-l];exact h _ (I.tok _);subst i;cases(show u=Value.ref b from m);obtain⟨z,f,r,c,j⟩:=Z3 I.hok e;refine wpAny_notIn_heap (tupleKind_room_in1 n) (Yh I.hok p) f j ?_;have q:=(c.val k).isSome_eq;rw[Option.isSome_map]at q;rw[<-q,<-l];exact h _ (I.tok _)
theorem Z1{c:HO}(I:Inv X pins σ H s)(e:mW (H a))(f:Heap.SameBut a s.heap h')(he:∃q,h'.get? a=some q)(d:wq X.prog X.w (upd H a c) h' a c):Inv X pins σ (upd H a c) {s with heap:=h',toks:=t'}:=
 I.write e (.inl J) (λb q g z=>(f.2 b g).trans z) he d
theorem pr{vs:O (aI×I)}(z:kvs.length<=sizeLine)(c:(a==sysModules)=false)(b:KV kvs vs)(d:h'.DictOf (zy P w) a vs):wq P w H' h' a (.dK kvs):=⟨z,c,vs,b,d⟩
theorem CN{Q:Unit->Shared->Prop}(K:A.units+1<cLine)(I:Inv X pins σ H s)(g:Zl H a y v H')(w:yk y u)(x:yk v r)(h:∀s',Inv X pins σ H' s'->Q () s'):wpAny (model X.prog X.w) A (setItem (.ref a) u r) Q E s:=by
 rcases g with⟨f,k,e,p,l,eH⟩|⟨f,k,b,e,p,C,l,eH⟩;subst p eH;obtain⟨z,o,F,d,t⟩:=rQ I.hok e;have G:F.length<=sizeLine:=by rw[<-d.length];exact z
 have n:(wc f k v).length<=sizeLine:=by have:=xt f k v;omega
 refine wpAny_setItem_pairs (Y3 w) t λB i m=>h _ ?_;have L:∃q,B.get? a=some q:=let⟨q,_,_,j,_⟩:=i;⟨q,j⟩;exact Z1 I (by rw[e];exact True.intro) m L (pr n o (d.put k x) i);subst p eH;cases(w);obtain⟨z,o,D,d,t⟩:=mr I.hok e;have G:D.length<=sizeLine:=by rw[<-Paired.length d];exact z
 have n:(wc f k v).length<=sizeLine:=by have:=xt f k v;omega
 refine wpAny_setItem_heap (tupleKind_room_in1 K) (Yh I.hok C) t λB i m=>h _ ?_;obtain⟨q,S,U,j,R,P,N,_,M⟩:=i;refine Z1 I (by rw[e];exact True.intro) m ⟨q,j⟩ ⟨n,o,_,(d.put k C x).keeps λc Z W=>?_,q,S,U,j,R,P,N,M⟩;rw[upd_ne (Ye W e (λz=>nomatch z))];omega
end
section
variable{k:aI}
theorem zD(I:Inv X pins σ H s)(e:H a=some (.dK kvs))(f:yk (kV k) u)(l:y9 kvs k=some v)(j:more=[]\/∃x,more=[x])(h:∀c s',Inv X pins σ (upd H a (.dK (j0 kvs k))) s'->yk v c->Q c s'):wpAny (model X.prog X.w) A (call (.builtin "dict.pop") (.ref a::u::more)) Q E s:=by
 obtain⟨z,B,n,b,m⟩:=rQ I.hok e;obtain⟨c,o,g⟩:=Zk.some_of (by rw[<-l];exact b.val k);have w:(keyPart u).isSome=true:=by cases k with|inl i=>obtain⟨t,q⟩:=(f);subst q;rfl|inr x=>obtain⟨t,q⟩:=(f);subst q;rfl
 have C:argsOk "dict.pop" ⟨.ref a::u::more,[]⟩:=by rcases j with q|⟨x,q⟩;subst q;rfl;subst q;rfl
 refine call_meetsIn PySem.F.slot_dict_pop m.typeIs PySem.F.entry_dict_pop C (meets_dict_pop_there (zy X.prog X.w) a (Y3 f) more j w)
  ⟨n,c,m,by rw[<-b.length];exact z,o,λD d p=>h c _ ?_ g⟩
 have y:∃q,D.get? a=some q:=let⟨q,_,_,r,_⟩:=d;⟨q,r⟩;exact Z1 I (by rw[e];exact True.intro) p y (pr (cj (uK kvs k) z) B (b.drop k) d)
end
def rE(i:Expr):Prop:=∀ov B,subscripted i false ov B=operate [ov,B] (getItem ov B)
theorem BY{a:Expr}{T:String}(l:typeLookup (.type T) "__getitem__"=pure (some (.builtin id))) (k:rE a)
  (h:wpAny (model prog w) A (eval aR env) (λo d=>wpAny (model prog w) A (eval a env) (λi s₂=>s₂.TypeIs o T/\wpAny (model prog w) A (getItem o i) Q E s₂) E d) E s):
  wpAny (model prog w) A (eval (.Subscript aR a aE) env) Q E s:=by
 refine Subscript_ (de h (λo d g=>de g (λi s₂ b=>?_) λ_ _ x=>x) λ_ _ x=>x);obtain⟨j,b⟩:=b;unfold subscriptTail;refine a4 ?_;rw[getitemInPython_of_ne j.not_modules];refine a4 (wpAny_specialOf j l ?_);have e:wpAny (model prog w) A (subscripted a false o i) (λr c=>wpAny (model prog w) A (letTemporaryGo aR o r>>=λ_=>pure r) Q E c) E s₂:=by rw[k o i];exact wpAny_operating (de b (λr c f=>a4 (wpAny_letTemporaryGo (a9 f))) λ_ _ x=>x)
 first|exact a9 (a4 e)|exact a4 (a9 (a4 e))|exact a4 e
theorem EB{o:Option V}(I:Inv X pins σ H s)(g:DGet H a y o):s.TypeIs (.ref a) "dict":=by rcases g with⟨c,k,e,_,_⟩|⟨c,k,b,e,_,_,_⟩;obtain⟨_,_,h,_,d⟩:=X7 I.hok e;exact d.typeIs;obtain⟨_,_,f,_,d⟩:=Z3 I.hok e;exact d.typeIs
inductive ge(Q:VK)(x y:V)(H2:Hp):Prop|mk:∀a v,x=.ref a->DGet H2 a y (some v)->Q v H2->ge Q x y H2
def zZ(F B:TE):TE:=λσ H Q=>F σ H λx H1=>B σ H1 λy H2=>ge Q x y H2
inductive jH(Q:VK)(y x:V)(H2:Hp):Prop|mk:∀a o,x=.ref a->DGet H2 a y o->Q (.bl o.isSome) H2->jH Q y x H2
def yB(B F:TE):TE:=λσ H Q=>B σ H λy H1=>F σ H1 λx H2=>jH Q y x H2
inductive eF(Q:VK)(y x:V)(H2:Hp):Prop|mk:∀a o,x=.ref a->DGet H2 a y o->Q (.bl (!o.isSome)) H2->eF Q y x H2
def B1(B F:TE):TE:=λσ H Q=>B σ H λy H1=>F σ H1 λx H2=>eF Q y x H2
inductive gH(D:Ends)(σ:St)(v x y:V)(H3:Hp):Prop|mk:∀a H4,x=.ref a->Zl H3 a y v H4->D.nx σ H4->gH D σ v x y H3
def yX(G B F:TE):TS:=λD σ H=>F σ H λv H1=>G σ H1 λx H2=>B σ H2 λy U=>gH D σ v x y U
section
variable{o i:Expr}{cD dP:Pos}{td ty tv:TE}
theorem vx(n:X.A.units+1<cLine)(q:PE X o td)(r:PE X i ty)(p:rE i:=by exact λ_ _=>rfl):PE X (.Subscript o i aE) (zZ td ty):=by intro b s d H Q I h;refine BY PySem.F.slot_dict_getitem.lookup p (aG (q b s d H _ I h) λu f ⟨x,B,z,k,m⟩=>aG (r b f d B _ z m) λF E ⟨y,A,e,j,a,v,t,g,l⟩=>?_);subst t;obtain rfl:u=Value.ref a:=k;exact⟨EB e g,CM n e g j λC D w c=>⟨v,A,w,c,l⟩⟩
theorem Ap(m:X.A.units+1<cLine)(p:PE X i ty)(n:PE X o td):PC X .In i o (yB ty td):=by intro b s c H Q I h;refine aG (p b s c H _ I h) λC d ⟨y,z,v,e,k⟩=>aG (n b d c z _ v k) λu B ⟨x,w,t,f,a,l,q,g,j⟩=>?_;subst q;obtain rfl:u=Value.ref a:=f;exact xR m t g e λA r=>⟨.bl l.isSome,w,r,J,j⟩
theorem Dq(m:X.A.units+1<cLine)(p:PE X i ty)(n:PE X o td):PC X .NotIn i o (B1 ty td):=by intro b s c H Q I h;refine aG (p b s c H _ I h) λC d ⟨y,z,v,e,k⟩=>aG (n b d c z _ v k) λu B ⟨x,w,t,f,a,l,q,g,j⟩=>?_;subst q;obtain rfl:u=Value.ref a:=f;exact AT m t g e λA r=>⟨.bl (!l.isSome),w,r,J,j⟩
theorem vj(q:X.A.units+1<cLine)(w:PE X o td)(z:PE X i ty)(p:PE X aR tv)(t:swapsWith aR (some (.Subscript o i cD)) aE.line X.env=pure false):PS X (.Assign [.Subscript o i cD] aR aE) (yX td ty tv):=by intro b s c H D I h;refine wpAny_Assign_Subscript (aG (p b s c H _ I h) λr e ⟨v,L,F,k,n⟩=>aG (w b e c L _ F n) λu d ⟨x,K,E,j,m⟩=>aG (z b d c K _ E m) λP N ⟨y,Q,C,f,a,G,A,g,l⟩=>?_) t;subst A;obtain rfl:u=Value.ref a:=j;exact CN q C g f k λM B=>⟨c,G,B,l⟩
end
theorem uJ(h:Heap)(a:sysModules<h.objs.size):wq P w H (h.push {cls:=.type "dict",data:=.dict #[]}) h.objs.size (.dK []):=⟨bo _,beq_eq_false_iff_ne.mpr (aj (az a)),[],.nil,Heap.DictOf.new h⟩
theorem uL(h:Heap)(a:sysModules<h.objs.size):wq P w H (h.push {cls:=.type "dict",data:=.dict #[]}) h.objs.size (.dT []):=⟨bo _,beq_eq_false_iff_ne.mpr (aj (az a)),[],.nil,_,#[],0,bf _ J,⟨J,J,J⟩,J,J,List.nodup_nil⟩
def AE:TE:=λ_ H Q=>∀p,H p=none->Q (.ref p) (upd H p (.dK []))
def A1:TE:=λ_ H Q=>∀p,H p=none->Q (.ref p) (upd H p (.dT []))
section
theorem Xz:PE X (.Dict [] [] aE) AE:=λa s b H Q I h=>wpAny_Dict_empty ⟨.ref s.heap.objs.size,_,I.laid (λ_ _ q=>aq _ q) (ae _) (uJ s.heap I.big),J,h _ (I.hok.fresh (ae _))⟩
theorem Zc:PE X (.Dict [] [] aE) A1:=λa s b H Q I h=>wpAny_Dict_empty ⟨.ref s.heap.objs.size,_,I.laid (λ_ _ q=>aq _ q) (ae _) (uL s.heap I.big),J,h _ (I.hok.fresh (ae _))⟩
end
noncomputable def Yf(kvs B:List (aI×V)):List (aI×V):=B.foldl (λF G=>wc F G.1 G.2) kvs
theorem KV.merge:∀{a:List (aI×V)}{b:List (aI×Value)}{kvs:List (aI×V)}{vs:List (aI×Value)},KV a b->KV kvs vs->KV (Yf kvs a) (merged vs b):=by
 intro a b kvs vs r;unfold KV at r;induction r generalizing kvs vs with|nil=>intro q;exact q| @cons p q g f h t d=>
   intro c;have e:KV (wc kvs p.1 p.2) (stored vs q.1 q.2):=by
    have:=c.put p.1 h.2
    simp_all
   exact d e
theorem Y2:∀(a kvs:List (aI×V)),(Yf kvs a).length<=kvs.length+a.length
 |[],kvs=>by show kvs.length<=kvs.length+0;omega
 | p::r,kvs=>by
   have c:=Y2 r (wc kvs p.1 p.2);have b:=xt kvs p.1 p.2;show(Yf (wc kvs p.1 p.2) r).length<=_
   grind
structure M1(X:Cx)(o:Expr)(m:Str)(apos:Pos)(e:Expr)(cpos:Pos):Prop where
 base:attributeBase o m X.env (eval o X.env)=eval o X.env
 few:((backTo cpos (starEach [e] X.env)).all (λx=> !x.1) && (backToKw cpos (keywordEach [] X.env)).all (λx=>x.1.isSome) && decide (([e]:List Expr).length+([]:List Keyword).length+(if([]:List Keyword).isEmpty then 0 else 1)<30))=true
 line:(apos.endLine==cpos.line)=true
 trees:backTo cpos (starEach [e] X.env)=[(false,eval e X.env)]
structure M2(X:Cx)(o:Expr)(m:Str)(apos:Pos)(e f:Expr)(cpos:Pos):Prop where
 base:attributeBase o m X.env (eval o X.env)=eval o X.env
 few:((backTo cpos (starEach [e,f] X.env)).all (λx=> !x.1) && (backToKw cpos (keywordEach [] X.env)).all (λx=>x.1.isSome) && decide (([e,f]:List Expr).length+([]:List Keyword).length+(if([]:List Keyword).isEmpty then 0 else 1)<30))=true
 line:(apos.endLine==cpos.line)=true
 trees:backTo cpos (starEach [e,f] X.env)=[(false,eval e X.env),(false,eval f X.env)]
def og(H:Hp)(a:Addr):Prop:=(∃kvs,Rd H a (.dK kvs))\/∃kvs,Rd H a (.dT kvs)
theorem sR(I:Inv X pins σ H s)(d:og H a):s.TypeIs (.ref a) "dict"/\(∀b,Value.ref a=.ref b->∃c,s.heap.get? b=some c/\c.dict=none)/\(a==sysModules)=false:=by rcases d with⟨g,e⟩|⟨g,e⟩;obtain⟨_,h,l,_,f⟩:=X7 I.hok e;refine⟨f.typeIs,λb q=>?_,h⟩;cases q;obtain⟨c,_,_,j,i,_⟩:=f;exact⟨c,j,i.2.1⟩;obtain⟨_,h,k,_,f⟩:=Z3 I.hok e;refine⟨f.typeIs,λb q=>?_,h⟩;cases q;obtain⟨c,_,_,j,i,_⟩:=f;exact⟨c,j,i.2.1⟩
section
variable{d:V}{o:Option V}
theorem zO(q:A.units+1<cLine)(I:Inv X pins σ H s)(g:DGet H a y o)(n:yk y u)(h:∀m s',Inv X pins σ H s'->yk (o.getD .non) m->Q m s'):wpAny (model X.prog X.w) A (call (.builtin "dict.get") [.ref a,u]) Q E s:=by rcases g with⟨f,k,e,j,l⟩|⟨f,k,b,e,j,r,l⟩;subst j;obtain⟨z,i,t,c,d⟩:=X7 I.hok e;refine call_meetsIn PySem.F.slot_dict_get d.typeIs PySem.F.entry_dict_get (PySem.F.args_dict_get_2 _ _) (meets_dict_get (zy X.prog X.w) a (Y3 n) i) ⟨_,d.mapOf,h _ _ (I.tok _) ?_⟩;rw[l];exact(c.val k).getD J;subst j;cases(n);obtain⟨z,i,p,c,d⟩:=Z3 I.hok e;refine call_meetsIn PySem.F.slot_dict_get d.typeIs PySem.F.entry_dict_get (PySem.F.args_dict_get_2 _ _) (meetsH_dict_get (tupleKind (zy X.prog X.w)) a b i) ⟨tupleKind_room_in1 q,k,p,Yh I.hok r,d,h _ _ (I.tok _) ?_⟩;rw[l];exact(c.val k).getD J
end
inductive ft(Q:VK)(a:Addr)(y:V)(H2:Hp):Prop|mk:∀o,DGet H2 a y o->Q (o.getD .non) H2->ft Q a y H2
inductive eG(ty:TE)(σ:St)(Q:VK)(x:V)(H1:Hp):Prop|mk:∀a,x=.ref a->og H1 a->(ty σ H1 λy H2=>ft Q a y H2)->eG ty σ Q x H1
def tm(F B:TE):TE:=λσ H Q=>F σ H λx H1=>eG B σ Q x H1
inductive fq(Q:VK)(a:Addr)(y:V)(H2:Hp):Prop|mk:∀kvs k v,H2 a=some (.dK kvs)->y=kV k->y9 kvs k=some v->Q v (upd H2 a (.dK (j0 kvs k)))->fq Q a y H2
inductive eE(ty:TE)(σ:St)(Q:VK)(x:V)(H1:Hp):Prop|mk:∀a,x=.ref a->og H1 a->(ty σ H1 λy H2=>fq Q a y H2)->eE ty σ Q x H1
def A2(F B:TE):TE:=λσ H Q=>F σ H λx H1=>eE B σ Q x H1
section
variable{o f:Expr}{cpos:Pos}{td ty tx:TE}
theorem Qo(t:X.A.units+1<cLine)(v:PE X o td)(he:PE X e ty)(m:M1 X o "get" apos e cpos):PE X (.Call (.Attribute o "get" apos) [e] [] cpos) (tm td ty):=by intro b s f H Q I h;refine wpAny_Call_method m.base m.few m.line PySem.F.plainAttrs_dict PySem.F.slot_dict_get PySem.F.type_dict_get (aG (v b s f H _ I h) λu l ⟨x,C,i,p,a,w,d,r⟩=>?_);subst w;obtain rfl:u=Value.ref a:=p;obtain⟨k,j,_⟩:=sR i d;refine⟨k,j,?_⟩;rw[m.trees];refine Calls.callWith_builtin J (Calls.evalArgs_plain (Calls.spliced_cons (aG (he b l f C _ i r) λK F ⟨y,B,A,n,G,g,q⟩=>Calls.spliced_nil ?_)));exact zO t A g n λD E z c=>⟨_,B,z,c,q⟩
theorem Ci(z:PE X o td)(he:PE X e ty)(m:M1 X o "pop" apos e cpos):PE X (.Call (.Attribute o "pop" apos) [e] [] cpos) (A2 td ty):=by intro b s f H Q I h;refine wpAny_Call_method m.base m.few m.line PySem.F.plainAttrs_dict PySem.F.slot_dict_pop PySem.F.type_dict_pop (aG (z b s f H _ I h) λu n ⟨x,F,g,q,a,B,d,t⟩=>?_);subst B;obtain rfl:u=Value.ref a:=q;obtain⟨j,i,_⟩:=sR g d;refine⟨j,i,?_⟩;rw[m.trees];refine Calls.callWith_builtin J (Calls.evalArgs_plain (Calls.spliced_cons (aG (he b n f F _ g t) λM L ⟨y,N,E,p,w,k,v,C,A,l,r⟩=>Calls.spliced_nil ?_)));subst A;exact zD E C p l (.inl J) λG K D c=>⟨v,_,D,c,r⟩
end
section
end
section
end
end L2
namespace HT
open PySem PyProof.Rows
variable{sl:Addr}{A:Around}{aB:Array Value}{s:Shared}{vl vu:Value}{E Q:Value->Shared->Prop}
theorem eK(A:Around)(s:Shared)(a:Int)(t:Tok)(c:Int)(u:Tok)(prog:Program)(w:World)(E:I->Shared->Prop)(Q:I->Shared->Prop)(h:Q (.bool (decide (a<c))) s):wpAny (model prog w) A (richCompare .Lt (.int a t) (.int c u)) Q E s:=
 (PyProof.Rows.lt_int h:wpAny (model prog w) A (compareOp .Lt (.int a t) (.int c u)) Q E s)
section
open PySem.SeqAt
open PySem.AutoSeq1 (wpAny_loadPart')
open PySem.MeetsSeq PySem.MeetsSeq2 PySem.MeetsSeq3
end
section
variable{prog:Program}{w:World}
noncomputable def bH(n d:Nat):Option Int->Nat|none=>d|some v=>if v<0 then(v+(n:Int)).toNat else min v.toNat n
theorem mG(n d:Nat):bH n d none=d:=rfl
theorem nQ(n d k:Nat):bH n d (some (k:Int))=min k n:=by rfl
theorem Ay(n d:Nat)(a:d<=n)(o:Option Int):bH n d o<=n:=by
 cases o with|none=>exact a| some v=>
   show(if v<0 then(v+n).toNat else min v.toNat n)<=n
   grind
theorem uo(v:Int)(n d:Nat):(if v<0 then max (v+(n:Int)) 0 else min v (n:Int))=((bH n d (some v):Nat):Int):=by
 show(if v<0 then max (v+n) 0 else min v n)=(((if v<0 then(v+n).toNat else min v.toNat n):Nat):Int)
 grind
theorem DX(lo a:Option Int)(n:Nat):Builtin.Slice.sliceAdjust lo a 1 (n:Int)=(((bH n 0 lo:Nat):Int),((bH n n a:Nat):Int)):=by
 have b:¬((1)<0):=by omega
 unfold Builtin.Slice.sliceAdjust;simp only[b,if_false];refine Prod.ext ?_ ?_;cases lo with|none=>rfl|some v=>exact uo v n 0
 cases a with|none=>rfl|some v=>exact uo v n n
theorem Ej(i j:Nat):Builtin.Slice.slicePlaces (i:Int) (j:Int) 1=j-i:=by
 unfold Builtin.Slice.slicePlaces;have a:(1:Int)>0:=by omega
 simp only[a,if_true,Int.ediv_one];split<;>omega
theorem Vz{v:Value}{o:Option Int}{Q:Option Int->Shared->Prop}(p:IsPart v o)(h:Q o s):wpAny (model prog w) A (Builtin.Slice.slicePartIndex v) Q E s:=by cases p with|none=>exact slicePart_none h|int i t=>exact slicePart_int h
theorem kz{lo b:Option Int}{n:Nat}{Q:Int×Int×Nat->Shared->Prop}(f:s.heap.IsSliceOf sl vl vu .none)(e:IsPart vl lo)(d:IsPart vu b)(h:Q (((bH n 0 lo:Nat):Int),1,bH n n b-bH n 0 lo) s):wpAny (model prog w) A (Builtin.Slice.sliceApplied (.ref sl) (pure (n:Int))) Q E s:=by obtain⟨os,a,g,c⟩:=id f;unfold Builtin.Slice.sliceApplied Builtin.Slice.sliceFields;refine a4 (a4 (wpAny_field a c J (a4 (wpAny_field a c J (a4 (wpAny_field a c J (a9 ?_)))))));refine a4 (slicePart_none ?_);rw[if_neg (by decide)];refine a4 (Vz e (a4 (Vz d (a4 (a9 ?_)))));show wpAny _ _ (match Builtin.Slice.sliceAdjust lo b 1 n with|(lo,b)=>pure (lo,(1:Int),Builtin.Slice.slicePlaces lo b 1)) _ _ s;rw[DX lo b n];show wpAny _ _ (pure (((bH n 0 lo):Int),(1),Builtin.Slice.slicePlaces ((bH n 0 lo:Nat)) ((bH n n b):Int) 1)) _ _ s;rw[Ej];exact a9 h
theorem CD(xs:Array I)(i k:Nat):((List.range k).filterMap λ(m:Nat)=>xs[((i:Int)+(m:Int)*1).toNat]?).toArray=((xs.toList.drop i).take k).toArray:=by
 have e:(λ(m:Nat)=>xs[((i:Int)+m*1).toNat]?)=λm=>xs[i+m]?:=by grind
 rw[e];have:=pick_run xs i k;rw[List.filterMap_map]at this;have a:((λx=>xs[x]?)∘λx=>i+x)=λm=>xs[i+m]?:=rfl
 simp_all
theorem fE{t:Y}{lo b:Option Int}(c:IsTup s.heap t aB)(i:s.heap.IsSliceOf sl vl vu .none)(k:IsPart vl lo)(j:IsPart vu b)(l:¬(bH aB.size 0 lo=0/\bH aB.size aB.size b=aB.size))
  (h:Q (.ref s.heap.objs.size) {s with heap:=s.heap.push {cls:=.type "tuple",data:=.seq ((aB.toList.drop (bH aB.size 0 lo)).take (bH aB.size aB.size b-bH aB.size 0 lo)).toArray}})
  (m:aB.size<=sizeLine):wpAny (model prog w) A (getItem (.ref t) (.ref sl)) Q E s:=by
 have a:sizeOk (.seq ((aB.toList.drop (bH aB.size 0 lo)).take (bH aB.size aB.size b-bH aB.size 0 lo)).toArray):=by show((aB.toList.drop (bH aB.size 0 lo)).take (bH aB.size aB.size b-bH aB.size 0 lo)).toArray.size<=sizeLine;rw[cq,List.length_take,List.length_drop,Array.length_toList];omega
 have r:bH aB.size aB.size b<=aB.size:=Ay _ _ (ae _) b;obtain⟨os,d,f,n⟩:=id i;have g:s.TypeIs (.ref sl) "slice":=⟨os,d,f⟩
 unfold getItem
 try with_reducible refine wpAny_holding ?_
 first|refine a4 (a9 ?_)|skip
 refine a4 (wpAny_sequenceKey c.typeIs (by decide) ?_);refine a4 (wpAny_callSpecial?_slot (name:=Str.ofString "__getitem__") c.typeIs PyProof.Rows.slot_tuple_getitem (cg PyProof.Rows.slot_tuple_getitem c.typeIs entry_tuple_getitem ?_ (args_tuple_getitem _ _)))
 show wpAny _ _ (Builtin.Tuple.tupleItemsOf (.ref t)>>=_) _ _ s;refine a4 (tupleItemsOf_ c ?_);refine a4 (wpAny_typeOf g ?_);rw[if_pos (by decide)];refine a4 (kz i k j ?_);have e:¬((((bH aB.size 0 lo:Nat):Int)==0 && (1:Int)==1 && (bH aB.size aB.size b-bH aB.size 0 lo)==aB.size)=true):=by intro q;rw[ca,ca]at q;have p:((bH aB.size 0 lo:Nat):Int)=0:=eq_of_beq q.1.1;have o:bH aB.size aB.size b-bH aB.size 0 lo=aB.size:=eq_of_beq q.2;exact l ⟨by omega,by omega⟩
 show wpAny _ _ (if(((bH aB.size 0 lo:Nat):Int)==0 && (1:Int)==1 && (bH aB.size aB.size b-bH aB.size 0 lo)==aB.size)=true then _ else _) _ _ s;rw[if_neg e,CD];first|exact a4 (m:=Builtin.Tuple.tupleExact _) (cx (a9 ⟨_,J,a9 h⟩) a)|exact a4 (m:=Builtin.Tuple.tupleExact _) (cx (a4 (a9 (a9 ⟨_,J,a9 h⟩))) a)|exact a4 (a4 (m:=Builtin.Tuple.tupleExact _) (cx (a9 (a9 ⟨_,J,a9 h⟩)) a))|exact a4 (a4 (m:=Builtin.Tuple.tupleExact _) (cx (a9 ⟨_,J,a9 h⟩) a))
end
end HT
namespace L2
open PySem PySem.Spec PyProof.Rows
variable{A:Around}{X:Cx}{e:Expr}{H:Hp}{i:Int}{pins:List (Addr×Obj)}{es:List Expr}{ns:List Int}{xs ys:List V}{its dI:List Value}{j t':Nat}{aE:Pos}{s:Shared}{σ:St}{x:V}{u v:Value}{E:Value->Shared->Prop}
abbrev TO:=St->Hp->(Option Int->Hp->Prop)->Prop
def PO(X:Cx)(e:Option Expr)(t:TO):Prop:=
 ∀ (pins:List (Addr×Obj)) (s:Shared) (σ:St) (H:Hp) (Q:Option Int->Hp->Prop),Inv X pins σ H s->t σ H Q->
   wpAny (model X.prog X.w) X.A (evalPart e X.env) (λu s'=>∃o H',Inv X pins σ H' s'/\IsPart u o/\Q o H') X.xe s
def B2:TO:=λ_ H Q=>Q none H
inductive fX(Q:Option Int->Hp->Prop)(x:V)(H1:Hp):Prop|mk:∀i,x=.int i->Q (some i) H1->fX Q x H1
def zF(t:TE):TO:=λσ H Q=>t σ H λx H1=>fX Q x H1
theorem Es:∀{a:List Value},yo (ns.map V.int) a->IntsAre a ns:=by induction ns with|nil=>intro a r;rw[List.map_nil]at r;cases r;exact .nil| cons n ns d=>intro a r;rw[c6]at r;cases r with| cons c b=>obtain⟨t,e⟩:=c;subst e;exact .cons n t (d b)
section
variable{te:TE}{lo hi:Option Expr}{tl th:TO}{p2:Pos}
theorem pX:PO X none B2:=by intro a s b H Q I h;rw[evalPart_none];exact a9 ⟨none,H,I,.none,h⟩
theorem pY(h:PE X e te):PO X (some e) (zF te):=by intro a s b H Q I f;rw[evalPart_some];refine aG (h a s b H _ I f) λu k ⟨x,j,g,c,d⟩=>?_;obtain⟨i,rfl,q⟩:=d;obtain⟨t,rfl⟩:=c;exact⟨some i,j,g,.int i t,q⟩
inductive mU(X:Cx)(pins:List (Addr×Obj))(s:Shared)(σ:St)(v:Value)(sl:Addr)(Q:VK):Prop|mk:∀T id,typeLookup (.type T) "__getitem__"=pure (some (.builtin id))->s.TypeIs v T->wpAny (model X.prog X.w) X.A (getItem v (.ref sl)) (EP X pins σ Q) X.xe s->mU X pins s σ v sl Q
def nV(X:Cx)(r:V->Option Int->Option Int->Hp->VK->Prop):Prop:=
 ∀ (pins:List (Addr×Obj)) (s:Shared) (σ:St) (H:Hp) (x:V) (v vl vu:Value) (lo hi:Option Int) (sl:Addr) (Q:VK),Inv X pins σ H s->yk x v->s.heap.IsSliceOf sl vl vu .none->IsPart vl lo->IsPart vu hi->r x lo hi H Q->
   mU X pins s σ v sl Q
def Fb(r:V->Option Int->Option Int->Hp->VK->Prop)(te:TE)(B F:TO):TE:=λσ H Q=>te σ H λx H1=>B σ H1 λl H2=>F σ H2 λu G=>r x l u G Q
theorem Ql{r:V->Option Int->Option Int->Hp->VK->Prop}(A:nV X r)(he:PE X e te)(B:PO X lo tl)(y:PO X hi th):PE X (.Subscript e (.Slice lo hi none p2) aE) (Fb r te tl th):=by intro a s c H Q I h;refine Subscript_ (aG (he a s c H _ I h) λv k ⟨x,M,K,m,p⟩=>?_);refine wpAny_Slice (aG (B a k c M _ K p) λg j ⟨l,L,G,w,o⟩=>aG (y a j c L _ G o) λf d ⟨u,i,F,t,n⟩=>?_);rw[evalPart_none];refine a9 ?_;have E:Inv X a c i {d with heap:=d.heap.push {cls:=.type "slice",data:=.fields #[g,f,.none]}}:=F.kept λb N q=>aq _ q;obtain⟨T,id,D,z,C⟩:=A a {d with heap:=d.heap.push {cls:=.type "slice",data:=.fields #[g,f,.none]}} c i x v g f l u d.heap.objs.size Q E m (Heap.IsSliceOf.new ..) w t n;exact tail_any z D C (by rfl)
noncomputable def mi(xs:List V)(lo B:Option Int):List V:=(xs.drop (HT.bH xs.length 0 lo)).take (HT.bH xs.length xs.length B-HT.bH xs.length 0 lo)
theorem EA(xs:O V)(lo a:Option Int):(mi xs lo a).length<=xs.length:=by unfold mi;rw[List.length_take,List.length_drop];omega
inductive mI(K:W.Frag)(x:V)(lo hi:Option Int)(H:Hp)(Q:VK):Prop|mk:∀a xs,x=.ref a->aH K H a xs->¬(HT.bH xs.length 0 lo=0/\HT.bH xs.length xs.length hi=xs.length)->(∀p,H p=none->Q (.ref p) (upd H p (.tup (mi xs lo hi))))->mI K x lo hi H Q
theorem AA:nV X (mI X.K):=by
 intro f s p H x v u t lo i w Q I j o l k h;obtain⟨a,c,rfl,n,z,q⟩:=h;cases j;obtain⟨e,r,g,m⟩:=I.tuple n;have d:e.toArray.size=c.length:=by rw[cq];exact r.length.symm
 refine⟨"tuple",_,PyProof.Rows.slot_tuple_getitem.lookup,g.typeIs,?_⟩;refine HT.fE g o l k (by simp_all) ?_ (by omega);rw[d];refine⟨.ref s.heap.objs.size,_,I.laid (λb y q=>aq _ q) (ae _) ?_,J,q _ (I.hok.fresh (ae _))⟩;exact⟨cj (EA c lo i) m,_,(r.drop (HT.bH c.length 0 lo)).take (HT.bH c.length c.length i-HT.bH c.length 0 lo),IsTup.new _ _,iw.push⟩
end
noncomputable def iq(n:Nat)(i:Int):Option Nat:=if 0<=i then(if i<n then some i.toNat else none)else if -(n:Int)<=i then some (i+n).toNat else none
noncomputable def cN{B:Type}(xs:List B)(i:Int):Option B:=(iq xs.length i).bind λj=>xs[j]?
theorem ug{n:Nat}(h:iq n i=some j):seqIndex? i n=some j/\j<n/\ -(n:Int)<=i/\i<n:=by
 unfold iq at h;by_cases b:0<=i;rw[if_pos b]at h;by_cases a:i<n;rw[if_pos a]at h;have e:=Option.some.inj h;exact⟨by rw[seqIndex_of b a,e],by omega,by omega,a⟩
 simp_all
 rw[if_neg b]at h;by_cases a: -n<=i;rw[if_pos a]at h;have e:=Option.some.inj h;exact⟨by rw[seqIndex_neg (by omega) a,e],by omega,a,by omega⟩
 simp_all
theorem ul{a:Type}{xs:List a}{v:a}(h:cN xs i=some v):∃j,seqIndex? i xs.length=some j/\xs[j]?=some v/\j<xs.length/\ -(xs.length:Int)<=i/\i<xs.length:=by
 unfold cN at h;cases e:iq xs.length i with|none=>simp_all| some j=>
   rw[e]at h;obtain⟨f,d,c,b⟩:=ug e
   simp_all
theorem y4{a:Type}{xs:O a}{v:a}(h:xs[j]?=some v):cN xs (j:Int)=some v:=by
 have b:=(c9.mp h).1;have e:iq xs.length j=some j:=by
  unfold iq
  simp_all
 unfold cN;simp_all
def AO(b:Expr):Prop:=∀o i,subscripted b false o i=operate [o,i] (getItem o i)
def qV(X:Cx)(r:R2):Prop:=
 ∀ (aR B:Expr) (pins:List (Addr×Obj)) (s:Shared) (σ:St) (H:Hp) (x y:V) (v u:Value) (Q:VK),Inv X pins σ H s->yk x v->yk y u->r x y H Q->
   subscripted B false v u=operate [v,u] (getItem v u)->wpAny (model X.prog X.w) X.A (subscriptTail aR B v u) (EP X pins σ Q) X.xe s
def mX(X:Cx)(id:String)(r:V->List V->Hp->VK->Prop):Prop:=
 ∀ (pins:List (Addr×Obj)) (s:Shared) (σ:St) (H:Hp) (x:V) (xs:List V) (v:Value) (us:List Value) (Q:VK),Inv X pins σ H s->yk x v->yo xs us->r x xs H Q->
   wpAny (model X.prog X.w) X.A (call (.builtin id) (v::us)) (EP X pins σ Q) X.xe s
section
variable{a b:Expr}{ta tb:TE}
theorem zm{r:R2}(j:qV X r)(l:PE X a ta)(k:PE X b tb)(i:AO b:=by exact λ_ _=>rfl):PE X (.Subscript a b aE) (kD r ta tb):=by intro c s d H Q I h;exact Subscript_ (oq l k I h λv u e x y n m g f q=>j a b c e d n x y v u Q m g f q (i _ _))
inductive fK(K:W.Frag)(x y:V)(H:Hp)(Q:VK):Prop|mk:∀p xs i v,x=.ref p->y=.int i->aJ K H p xs->cN xs i=some v->Q v H->fK K x y H Q
inductive eL(K:W.Frag)(x y:V)(H:Hp)(Q:VK):Prop|mk:∀p xs i v,x=.ref p->y=.int i->aH K H p xs->cN xs i=some v->Q v H->eL K x y H Q
theorem yu:qV X (fK X.K):=by
 intro R c a s m H x y v u Q I o n h g;obtain⟨p,G,i,z,rfl,rfl,A,C,q⟩:=h;cases o;obtain⟨t,rfl⟩:=n;obtain⟨f,r,e,K⟩:=I.list A;obtain⟨j,k,F,N,E,D⟩:=ul C;obtain⟨w,P,d⟩:=r.get F;have M:=r.length;have L:=Qw;have b:EP X a m Q w s:=⟨z,H,I,d,q⟩
 by_cases l:0<=i;have B:i.toNat=j:=by
  rw[seqIndex_of l D]at k
  simp_all
 exact item_listR e.isList l (by omega) (by simp_all) b g;have B:(i+f.toArray.size).toNat=j:=by
  rw[seqIndex_neg (by omega) E]at k
  simp_all
 exact subscriptTail_builtinR e.isList.typeIs slot_list_getitem.lookup
  (wpAny_getItem_list_neg e.isList (by omega) (by simp_all) (by omega) (by simp_all) ⟨J,b⟩) g
theorem zk:qV X (eL X.K):=by
 intro N b a s f H x y v u Q I k g h m;obtain⟨p,C,i,z,rfl,rfl,n,A,q⟩:=h;cases k;obtain⟨t,rfl⟩:=g;obtain⟨l,r,e,D⟩:=I.tuple n;obtain⟨j,L,B,K,G,F⟩:=ul A;obtain⟨w,M,c⟩:=r.get B;have o:=r.length;have E:=Qw;have d:EP X a f Q w s:=⟨z,H,I,c,q⟩
 exact subscriptTail_builtinR e.typeIs slot_tuple_getitem.lookup
  (getItem_tuple e (by omega) (by omega) (by rw[cq,<-o];omega) (by simp_all) ⟨J,d⟩) m
theorem Ey(its:O I)(n j:Nat)(u:I):Obj.mapSeq (·.setIfInBounds j u) {cls:=.type "list",data:=.seq its.toArray n}={cls:=.type "list",data:=.seq (its.set j u).toArray n}:=by simp[Obj.mapSeq]
theorem Inv.lst{a:O (Y×Obj)}{b:St}{H:Hp}{s:Shared}{p:Y}{xs:O V}(I:Inv X a b H s)(h:H p=some (.lst xs)):∃(its:O Value)(n:Nat),yo xs its/\s.heap.get? p=some {cls:=.type "list",data:=.seq its.toArray n}/\xs.length<=sizeLine:=by
 obtain⟨z,its,n,r,e⟩:=I.hok p _ h
 simp_all
theorem Inv.lstUpd{p:Y}{n a:Nat}{f:Obj->Obj}(I:Inv X pins σ H s)(h:H p=some (.lst xs))(d:s.heap.get? p=some {cls:=.type "list",data:=.seq its.toArray n}) (c:f {cls:=.type "list",data:=.seq its.toArray n}={cls:=.type "list",data:=.seq dI.toArray a}) (r:yo ys dI) (hz:ys.length<=sizeLine) (t:Nat):
  Inv X pins σ (upd H p (.lst ys)) {s with heap:=s.heap.update p f,toks:=t}:=by
 have e:(s.heap.update p f).get? p=some {cls:=.type "list",data:=.seq dI.toArray a}:=by rw[Heap.get?_update_self f d (by rw[c]<;>rfl),c]
 refine I.write (by rw[h];trivial) (.inl J) (λb u g q=>(Heap.get?_update_other _ _ (aj g)).trans q) ⟨_,e⟩ ?_;exact⟨hz,dI,a,r,e⟩
inductive gQ(o i v:V)(H:Hp)(Q:Hp->Prop):Prop|mk:∀p xs k j,o=.ref p->i=.int k->H p=some (.lst xs)->iq xs.length k=some j->Q (upd H p (.lst (xs.set j v)))->gQ o i v H Q
theorem k7:om X gQ:=by
 intro c s z H o i v B C u Q I l m g h;obtain⟨p,A,k,j,rfl,rfl,d,w,q⟩:=h;cases l;obtain⟨t,rfl⟩:=m;obtain⟨a,n,r,b,D⟩:=I.lst d;obtain⟨e,G,y,x⟩:=ug w;have F:=r.length;have E:=Qw;have K:=
  I.lstUpd d b (Ey a n j u) (r.set g j) (by simp_all) s.toks
 by_cases f:0<=k;have hk:k.toNat=j:=by
  rw[seqIndex_of f x]at e
  simp_all
 exact W.ki_setAt b f (by omega) (by simp_all) (by grind);have hk:(k+a.toArray.size).toNat=j:=by
  rw[seqIndex_neg (by omega) y]at e
  simp_all
 exact W.ki_setBack b (by omega) (by simp_all) (by omega) (by grind)
noncomputable def X5:V->Bool|.non=>true|.bl _=>true|.int _=>true|.str _=>true|_=>false
noncomputable def jT:V->V->Bool|.non,.non=>true|.bl a,.bl b=>a==b|.bl a,.int b=>(if a then 1 else 0)==b|.int a,.bl b=>a==(if b then 1 else 0)|.int a,.int b=>a==b|.str a,.str b=>a==b|_,_=>false
theorem zT{y:V}(e:yk y u)(c:yk x v)(g:X5 y=true)(f:X5 x=true):SeqAt.EqAt A s u v (jT y x):=by
 cases y with
 | non=>
   cases e;cases x with
   |non=>cases c;exact SeqAt.EqAt.same _
   |bl b=>cases c;exact SeqAt.EqAt.none_bool b
   |int b=>obtain⟨t,rfl⟩:=c;exact SeqAt.EqAt.none_int b t
   |str b=>obtain⟨t,rfl⟩:=c;exact SeqAt.EqAt.none_str b t
   |_=>exact absurd (f) bu
 | bl a=>
   cases e;cases x with
   |non=>cases c;exact SeqAt.EqAt.bool_none a
   |bl b=>cases c;exact SeqAt.EqAt.bool_bool a b
   |int b=>obtain⟨t,rfl⟩:=c;exact SeqAt.EqAt.bool_int a b t
   |str b=>obtain⟨t,rfl⟩:=c;exact SeqAt.EqAt.bool_str a b t
   |_=>exact absurd (f) bu
 | int a=>
   obtain⟨d,rfl⟩:=e;cases x with
   |non=>cases c;exact SeqAt.EqAt.int_none a d
   |bl b=>cases c;exact SeqAt.EqAt.int_bool a d b
   |int b=>obtain⟨t,rfl⟩:=c;exact SeqAt.EqAt.int_int a d b t
   |str b=>obtain⟨t,rfl⟩:=c;exact SeqAt.EqAt.int_str a d b t
   |_=>exact absurd (f) bu
 | str a=>
   obtain⟨d,rfl⟩:=e;cases x with
   |non=>cases c;exact SeqAt.EqAt.str_none a d
   |bl b=>cases c;exact SeqAt.EqAt.str_bool a d b
   |int b=>obtain⟨t,rfl⟩:=c;exact SeqAt.EqAt.str_int a d b t
   |str b=>obtain⟨t,rfl⟩:=c;exact SeqAt.EqAt.str_str a d b t
   |_=>exact absurd (f) bu
 |_=>exact absurd (g) bu
noncomputable def iY(x:V)(u:Value):Bool:=match u with|.none=>jT .non x|.bool b=>jT (.bl b) x|.int i _=>jT (.int i) x|.str z _=>jT (.str z) x|_=>false
theorem sC{y:V}(r:yk y u)(f:X5 y=true):iY x u=jT y x:=by cases y with|non=>cases r;rfl|bl b=>cases r;rfl|int i=>obtain⟨t,rfl⟩:=r;rfl|str z=>obtain⟨t,rfl⟩:=r;rfl|_=>exact absurd (f) bu
theorem qA{x:V}:∀{xs:List V}{a:List Value},yo xs a->xs.all X5=true->a.any (iY x)=xs.any λy=>jT y x|_,_,.nil,_=>rfl| y::xs,u::a,.cons r t,f=>by rw[List.all_cons,ca]at f;rw[List.any_cons,List.any_cons,sC r f.1,qA t f.2]
theorem Qv{A:Around}{s:Shared}{x:V}{v:Value}(c:yk x v)(d:X5 x=true):∀{xs:List V}{b:List Value},yo xs b->xs.all X5=true->∀u∈b,SeqAt.EqAt A s u v (iY x u)|_,_,.nil,_=>λu a=>by grind| y::xs,u::b,.cons r t,f=>λe a=>by rw[List.all_cons,ca]at f;rcases ak.mp a with rfl|a;rw[sC r f.1];exact zT r c f.1 d;exact Qv c d t f.2 e a
noncomputable def jR(x:V)(xs:List V):Bool:=xs.any λy=>jT y x
inductive wI(K:W.Frag)(neg:Bool)(x y:V)(H:Hp)(Q:VK):Prop|mk:∀p xs,y=.ref p->(aJ K H p xs\/aH K H p xs)->X5 x=true->xs.all X5=true->Q (.bl (if neg then !jR x xs else jR x xs)) H->wI K neg x y H Q
theorem jp:dA X (compareOp .In) (wI X.K false):=by intro f s l H x y v u Q I e i h;obtain⟨p,m,rfl,b,g,c,q⟩:=h;cases i;rcases b with b|b;obtain⟨a,r,d,j⟩:=I.list b;refine SeqAt.in_listAt (iY x) d.isList (λw k=>Qv e g r c w (by simp_all)) ⟨.bl _,H,I,J,?_⟩;rw[show a.toArray.any (iY x)=a.any (iY x) by simp,qA r c];exact q;obtain⟨a,r,d,j⟩:=I.tuple b;refine SeqAt.in_tupleAt (iY x) d (λw k=>Qv e g r c w (by simp_all)) ⟨.bl _,H,I,J,?_⟩;rw[show a.toArray.any (iY x)=a.any (iY x) by simp,qA r c];exact q
theorem yh:qx X (.builtin "len") (λxs H Q=>∃p ys,xs=[.ref p]/\(aJ X.K H p ys\/aH X.K H p ys)/\Q (.int ys.length) H):=by intro f s j H xs k Q I r h;obtain⟨p,ys,rfl,b,q⟩:=h;obtain⟨u,rfl,g⟩:=qt r;cases g;have l:=Qw;rcases b with b|b;obtain⟨e,c,d,i⟩:=I.list b;have a:=c.length;exact Calls.call_len_list d.isList (by grind) ⟨.int ys.length,H,I.tok _,⟨s.toks+1,by rw[cq,a]⟩,q⟩;obtain⟨e,c,d,i⟩:=I.tuple b;have a:=c.length;exact len_tuple d (by grind) ⟨.int ys.length,H,I.tok _,⟨s.toks+1,by rw[cq,a]⟩,q⟩
theorem ve:qx X (.type "tuple") (λxs H Q=>∃p ys,xs=[.ref p]/\((aJ X.K H p ys/\∀l,H l=none->Q (.ref l) (upd H l (.tup ys)))\/(aH X.K H p ys/\Q (.ref p) H))):=by
 intro g s w H xs x Q I r h;obtain⟨p,ys,rfl,h⟩:=h;obtain⟨u,rfl,m⟩:=qt r;cases m;rcases h with⟨f,q⟩|⟨f,q⟩;obtain⟨a,c,d,i⟩:=I.list f;have j:=c.length;refine call_tuple_list d.isList (λt n=>?_) (by simp_all);have k:=I.kept (t':=s.toks) n;have v:=
  k.laid (t':=s.toks) (λb o e=>aq _ e) (ae _) (show wq X.prog X.w _ _ _ (.tup ys)from⟨i,a,c,IsTup.new _ _,iw.push⟩)
 exact⟨.ref t.objs.size,_,v,J,q _ (k.hok.fresh (ae _))⟩;obtain⟨a,c,d,i⟩:=I.tuple f;exact call_tuple_same d ⟨.ref p,H,I,J,q⟩
def nN(K:W.Frag)(T:String)(x:V)(H:Hp):Prop:=match x with|.str _=>T="str"|.int _=>T="int"|.ref p=>(T="list"/\∃xs,aJ K H p xs)\/(T="tuple"/\∃o,K.lookup p=some o/\o.cls=.type "tuple"/\o.dict=none)\/
  (T="dict"/\((∃kvs,H p=some (.dK kvs))\/∃kvs,H p=some (.dT kvs)))\/(T="set"/\∃S n,H p=some (.set S n))|_=>False
theorem tu{T:String}(I:Inv X pins σ H s)(r:yk x v)(d:nN X.K T x H):s.TypeIs v T/\∀a,v=.ref a->∃j,s.heap.get? a=some j/\j.dict=none:=by
 cases x with| str z=>
   obtain⟨t,rfl⟩:=r;cases(d);exact⟨typeIs_str s z t,λ_ e=>nomatch e⟩| int i=>
   obtain⟨t,rfl⟩:=r;cases(d);exact⟨typeIs_int s i t,λ_ e=>nomatch e⟩| ref p=>
   cases r;rcases d with⟨rfl,u,m⟩|⟨rfl,o,hk,q,k⟩|⟨rfl,hk⟩|⟨rfl,S,n,hk⟩;obtain⟨l,_,h,_⟩:=I.list m;refine⟨h.isList.typeIs,λa e=>?_⟩;cases e;obtain⟨o,n,e,c,k,_⟩:=h
   simp_all
   refine⟨⟨o,I.kIn p o hk,q⟩,λa e=>?_⟩;cases e;exact⟨o,I.kIn _ o hk,k⟩;have z:∃o,s.heap.get? p=some o/\o.ExactDict:=by
    rcases hk with⟨f,hk⟩|⟨f,hk⟩;obtain⟨_,_,_,_,o,_,_,e,b,_⟩:=I.hok p _ hk
    simp_all
    obtain⟨_,_,_,_,o,_,_,e,b,_⟩:=I.hok p _ hk
    simp_all
   obtain⟨o,e,b⟩:=z;refine⟨⟨o,e,b.1⟩,λa g=>?_⟩;cases g;exact⟨o,e,b.2.1⟩;obtain⟨o,_,_,_,e,b,_⟩:=I.hok p _ hk;refine⟨⟨o,e,b.1⟩,λa g=>?_⟩;cases g;exact⟨o,e,b.2.1⟩|_=>exact False.elim d
def xZ(K:W.Frag)(T:String)(r:V->List V->Hp->VK->Prop)(to:TE):TE:=λσ H Q=>to σ H λx H1=>nN K T x H1/\r x [] H1 Q
def mF(K:W.Frag)(T:String)(r:V->List V->Hp->VK->Prop)(to:TE)(t:TA):TE:=λσ H Q=>to σ H λx H1=>nN K T x H1/\t σ H1 λxs H2=>r x xs H2 Q
variable{o:Expr}{to:TE}{t:TA}{name:Str}{apos cpos:Pos}{T id:String}{r:V->List V->Hp->VK->Prop}
theorem Ar(m:PlainAttrs T)(d:Slot T name id)(e:typeOf (.builtin id)=pure (.type "method_descriptor"))(p:mX X id r)(n:PE X o to)(c:attributeBase o name X.env (eval o X.env)=eval o X.env:=by rfl) (b:(apos.endLine==cpos.line)=true:=by rfl):PE X (.Call (.Attribute o name apos) [] [] cpos) (xZ X.K T r to):=by intro a s f H Q I h;refine wpAny_Call_method0_late c b (aG (n a s f H _ I h) λv k ⟨x,u,i,g,j,l⟩=>?_);obtain⟨t,q⟩:=tu i g j;exact⟨T,id,m,d,e,t,q,Calls.callWith_builtin J (PySem.evalArgs_none (p a k f u x [] v [] Q i g .nil l))⟩
theorem Zd(B:PlainAttrs T)(d:Slot T name id)(j:typeOf (.builtin id)=pure (.type "method_descriptor"))(E:mX X id r)(D:PE X o to)(F:PA X (e::es) t)(c:attributeBase o name X.env (eval o X.env)=eval o X.env:=by rfl)
  (f:((backTo cpos (starEach (e::es) X.env)).all (λx=> !x.1) && (backToKw cpos (keywordEach [] X.env)).all (λx=>x.1.isSome) && decide ((e::es).length+([]:O Keyword).length+(if([]:O Keyword).isEmpty then 0 else 1)<30))=true:=by rfl)
  (b:(apos.endLine==cpos.line)=true:=by rfl) (C:starEach (e::es) X.env=(false,eval e X.env)::starEach es X.env:=by rfl) (g:(backTo cpos (starEach es X.env)).any (·.1)=false:=by rfl):
  PE X (.Call (.Attribute o name apos) (e::es) [] cpos) (mF X.K T r to t):=by intro a s i H Q I h;refine wpAny_Call_method_late c f b J (aG (D a s i H _ I h) λv w ⟨x,N,m,k,q,A⟩=>?_);obtain⟨K,G⟩:=tu m k q;refine⟨T,id,B,d,j,K,G,?_⟩;have l:=F cpos a w i N _ m A;rw[C]at l⊢;refine Calls.callWith_builtin (by simp_all) (Calls.evalArgs_plain ?_);exact aG l λp u ⟨n,M,L,y,z⟩=>E a u i M x n v p Q L k y z
/-xs.append(e),list.index on a module's tuple .. are MtR facts of 06m -/
end
def qT(X:Cx)(id:String)(r:V->List V->Hp->VK->Prop):Prop:=
 ∀ (pins:List (Addr×Obj)) (s:Shared) (σ:St) (H:Hp) (x:V) (xs:List V) (v:Value) (us:List Value) (Q:VK),Inv X pins σ H s->yk x v->yo xs us->r x xs H Q->
   wpAny (model X.prog X.w) X.A (call (.builtin id) (v::us)) (EP X pins σ Q) X.xe s
theorem yo.one:∀{x:V}{a:List Value},yo [x] a->∃u,a=[u]/\yk x u|_,_,.cons r .nil=>⟨_,J,r⟩
theorem yo.zero:∀{a:List Value},yo [] a->a=[]|_,.nil=>rfl
theorem yo.dropLast{xs:List V}{a:List Value}(h:yo xs a):yo xs.dropLast a.dropLast:=by induction h with|nil=>exact .nil| cons r t b=>cases t with|nil=>grind|cons q c=>exact .cons r b
theorem yo.rep{xs:List V}{a:List Value}(h:yo xs a):∀k:Nat,yo (List.replicate k xs).flatten (List.replicate k a).flatten|0=>.nil| k+1=>by rw[List.replicate_succ,List.replicate_succ,List.flatten_cons,List.flatten_cons];exact yo.append h (yo.rep h k)
theorem D7{a:Type}(l:O a):l.eraseIdx (l.length-1)=l.dropLast:=by simp
theorem Ki(its:List Value):∀(k:Nat)(a:List Value),List.foldl (λc b=>c++b) a.toArray (List.replicate k its.toArray)=(a++(List.replicate k its).flatten).toArray
 |0,a=>by simp
 | k+1,a=>by
   have e:a.toArray++its.toArray=(a++its).toArray:=by simp
   have d:(a++its)++(List.replicate k its).flatten=a++(List.replicate (k+1) its).flatten:=by rw[List.replicate_succ,List.flatten_cons,List.append_assoc]
   rw[<-d,<-Ki its k (a++its),<-e,List.replicate_succ,List.foldl_cons]
section
variable{l b:Addr}{zs:List V}
theorem Inv.lset{n:Nat}{f:Array Value->Array Value}(I:Inv X pins σ H s)(g:H l=some (.lst xs))(e:s.heap.get? l=some {cls:=.type "list",data:=.seq its.toArray n}) (c:f its.toArray=dI.toArray) (a:yo ys dI) (hz:ys.length<=sizeLine):
  Inv X pins σ (upd H l (.lst ys)) {s with heap:=s.heap.update l (Obj.mapSeq f),toks:=t'}:=by have q:=PySem.IsL.update e f;rw[c]at q;refine I.write (by rw[g];exact trivial) (.inl J) (λh u d b=>(Heap.get?_update_other s.heap (Obj.mapSeq f) (aj d)).trans b) ⟨_,q⟩ ?_;exact⟨hz,dI,_,a,q⟩
theorem Inv.lnew(I:Inv X pins σ H s)(a:yo ys its)(hz:ys.length<=sizeLine):Inv X pins σ (upd H s.heap.objs.size (.lst ys)) {s with heap:=s.heap.push {cls:=.type "list",data:=.seq its.toArray},toks:=t'}:=
 I.laid (λ_ _ q=>aq _ q) (ae _) ⟨hz,its,0,a,bf _ J⟩
theorem Inv.fresh(I:Inv X pins σ H s):H s.heap.objs.size=none:=I.hok.fresh (ae _)
theorem Inv.lstM(I:Inv X pins σ H s)(a:H l=some (.lst xs)):xs.length<=sizeLine/\∃(its:O Value)(n:Nat),yo xs its/\xs.length=its.length/\s.heap.get? l=some {cls:=.type "list",data:=.seq its.toArray n}:=by obtain⟨z,its,n,r,e⟩:=I.hok l _ a;exact⟨z,its,n,r,r.length,e⟩
theorem vY{n:Nat}(h:n<=sizeLine):Builtin.List.listTooLong n=false:=by
 unfold Builtin.List.listTooLong
 simp_all
end
section
inductive bT(x:V)(vs:List V)(H:Hp)(Q:VK):Prop|mk:∀l xs y,x=.ref l->vs=[y]->H l=some (.lst xs)->xs.length<sizeLine->Q .non (upd H l (.lst (xs++[y])))->bT x vs H Q
theorem wj:qT X "list.append" bT:=by
 intro b s i H x k v m Q I d f h;obtain⟨l,j,y,rfl,rfl,c,o,q⟩:=h;cases d;obtain⟨u,rfl,g⟩:=f.one;obtain⟨z,a,n,r,p,e⟩:=I.lstM c;refine call_meets F.slot_list_append ⟨_,e,J⟩ F.entry_list_append (F.args_list_append_2 _ _) (list_append l a.toArray n u (by simp_all)) ⟨e,?_⟩;refine⟨.non,_,I.lset c e (by simp) (r.append (.cons g .nil)) ?_,J,q⟩
 grind
inductive fA(x:V)(vs:List V)(H:Hp)(Q:VK):Prop|mk:∀l b xs zs,x=.ref l->vs=[.ref b]->H l=some (.lst xs)->H b=some (.lst zs)->xs.length+zs.length<=sizeLine->Q .non (upd H l (.lst (xs++zs)))->fA x vs H Q
theorem DJ:qT X "list.extend" fA:=by
 intro g s A H x E v G Q I j k h;obtain⟨l,b,D,B,rfl,rfl,i,w,K,q⟩:=h;cases j;obtain⟨u,rfl,m⟩:=k.one;cases m;obtain⟨z,c,n,r,L,e⟩:=I.lstM i;obtain⟨C,a,p,o,t,y⟩:=I.lstM w;have f:c.toArray.size+a.toArray.size<=sizeLine:=by simp_all
 have d:¬(!c.toArray.isEmpty && Builtin.List.listTooLong (c.toArray.size+a.toArray.size))=true:=by rw[vY f,Bool.and_false];simp
 refine call_meets F.slot_list_extend ⟨_,e,J⟩ F.entry_list_extend (F.args_list_extend_2 _ _)
  (AutoSeq1.list_extend_list_list_0 l c.toArray n b a.toArray p d (by omega) (by omega)) ⟨e,y,?_⟩
 refine⟨.non,_,I.lset i e (by simp) (r.append o) ?_,J,q⟩
 simp_all
inductive mK(x:V)(vs:List V)(H:Hp)(Q:VK):Prop|mk:∀l xs y,x=.ref l->vs=[]->H l=some (.lst xs)->xs[xs.length-1]?=some y->Q y (upd H l (.lst xs.dropLast))->mK x vs H Q
theorem Af:qT X "list.pop" mK:=by
 intro d s m H x p v t Q I g i h;obtain⟨l,o,y,rfl,rfl,f,k,q⟩:=h;cases g;have c:=i.zero;subst c;obtain⟨z,a,n,r,A,e⟩:=I.lstM f;obtain⟨u,w,j⟩:=r.get k;have b:a.toArray[a.toArray.size-1]?=some u:=by simp_all
 refine call_meets F.slot_list_pop ⟨_,e,J⟩ F.entry_list_pop (F.args_list_pop_1 _) (MeetsSeq.list_pop_last l a.toArray n u b (by simp_all)) ⟨e,?_⟩;refine⟨y,_,I.lset f e ?_ r.dropLast ?_,j,q⟩;rw[cq,List.eraseIdxIfInBounds_toArray,D7]
 grind
inductive mJ(x y:V)(H:Hp)(Q:VK):Prop|mk:∀l k xs,x=.ref l->y=.int k->H l=some (.lst xs)-> -(2^63)<=k->k<2^63->xs.length*k.toNat<=sizeLine->(∀p,H p=none->Q (.ref p) (upd H p (.lst (List.replicate k.toNat xs).flatten)))->mJ x y H Q
theorem BG{a:Type}(xs:O a)(k:Nat):(List.replicate k xs).flatten.length=k*xs.length:=by simp
theorem sO:dA X (binaryOp .Mult) mJ:=by
 intro j s G H x y v u Q I B A h;obtain⟨l,k,K,rfl,rfl,C,E,D,M,q⟩:=h;cases B;obtain⟨t,rfl⟩:=A;obtain⟨z,b,n,r,N,e⟩:=I.lstM C;have f:b.toArray.size*k.toNat<=sizeLine:=by simp_all
 have i:¬b.toArray.size*k.toNat>(2^63-1)/8:=by
  have:sizeLine<=(2^63-1)/8:=by decide
  omega
 have g:¬(!Builtin.List.listFitsIndex k)=true:=by rw[fitsIndex_both E D];simp
 have c:¬Builtin.List.listTooLong (b.toArray.size*k.toNat)=true:=by rw[vY f];simp
 have d:List.foldl (λp o=>p++o) #[] (List.replicate (if b.toArray.isEmpty=true then 0 else k.toNat) b.toArray)=(List.replicate k.toNat b).flatten.toArray:=by
  have f0:=λm=>by have:=Ki b m [];rw[List.nil_append]at this;exact this
  rw[f0];cases b with|nil=>simp|cons a L=>rfl
 refine wpAny_binaryOp_repeat_ref (by rfl) ⟨_,e,J⟩ (λw=>typeIs_int w k t) noFill_list_mul F.fills_int_mul F.slot_int_rmul repeat_list F.slot_int_index.lookup
  (call_meets F.slot_int_rmul (typeIs_int s k t) F.entry_int_rmul (F.args_int_rmul_2 _ _) (int___rmul___int_list k t l b.toArray n) ⟨e,J,⟨_,e,J⟩,call_meets F.slot_list_mul ⟨_,e,J⟩ F.entry_list_mul (F.args_list_mul_2 _ _) (AutoListH.list___mul___list_int_3 l b.toArray n k t g i c) ⟨e,?_⟩⟩)
 rw[d];exact⟨.ref _,_,I.lnew (r.rep k.toNat) (by rw[BG,Nat.mul_comm];omega),J,q _ I.fresh⟩
end
section
variable{prog:Program}{w:World}
end
section
end
end L2
namespace Att
open PySem PySem.W PySem.Calls PyProof.Rows
variable{A:Around}{h:Heap}{kC:List Value}{q:Program}{s:Shared}{E:Value->Shared->Prop}
theorem Vd{P:Params}:∀(ns:List Int)(vs:List Value),WellAll P h vs (ns.map WData.int)->IntsAre vs ns:=by intro ns;induction ns with| nil=>intro vs w;rw[List.map_nil]at w;cases w;exact .nil| cons n ns c=>intro vs w;rw[c6]at w;cases w with| cons a b=>cases a;exact .cons _ _ (c _ b)
theorem DF{l:OpenLaw}{n:Nat}(v:l.most=some n){P:Params}{b:List WData}(c:l.row.toRowW.claim.pre b=true) (g:WellAll P h kC b):
  ∃a vs ns,kC=[Value.ref a]/\b=[WData.list (ns.map WData.int)]/\h.get? a=some {cls:=.type "list",data:=.seq vs.toArray}/\IntsAre vs ns/\ns.length<=n:=by
 have i:=(pre_splitW c).1;have j:l.pre.holds [] {args:=b}=true:=(pre_splitW c).2;obtain⟨d,r,rfl,t,s⟩:=hasAllW_cons i;obtain rfl:=hasAllW_nil s;obtain⟨u,rfl,q⟩:=hasW_list t;obtain⟨ns,rfl⟩:=items_int q;have e:ns.length<=n:=by
  unfold OpenLaw.pre at j;have k:(WTm.not (.lt (.lit (.int n)) (.len (.arg 0)))).holds [] {args:=[.list (ns.map .int)]}=true:=by
   have k:=(holds_andW j).1
   simp_all
  have w:=condW_of k (w_not (w_lt w_lit (w_len_list (w_arg J))))
  simp_all
 cases g with| cons o m=>cases m;cases o with|list p f=>exact⟨_,_,ns,J,J,p,Vd ns _ f,e⟩
theorem Ds(l:OpenLaw)(a:O WData):l.row.toRowW.claim.post a (.bool true) a=true:=
 postW_of
  (show WShape.has [] (.bool true) .bool=true by rfl)
  (w_eq_bool (w_res J) w_lit) J
theorem jV{l:OpenLaw}{n:Nat}{e:O Str}{D:(Str->Option I)->Heap->Prop}{C:World->Heap->Prop}{d:DefRec}(K:l.most=some n) (x:d.params.defaults=[])
  (call:∀(w:World) (c b:Shared) (mg t:Str->Option I) (m:Addr) (o:Obj) (s p h:I) (a:Addr) (vs:O I) (ns:O Int),Ground q e [] D w c mg t b.heap->C w b.heap->
   b.heap.get? m=some o->o.data=.func (docDef d.name d.params d.body d.scope s p h)->b.heap.CodeRec p d.name->mg d.name=some (.ref m)->
   b.heap.get? a=some {cls:=.type "list",data:=.seq vs.toArray}->IntsAre vs ns->ns.length<=n->b.gens=#[]->
   codeAny (model l.prog w) callerA (.call (.ref m) ⟨[.ref a],[]⟩) (λr s'=>r=.ok (.ret (.bool true))/\OldK b.heap s'.heap/\s'.os=b.os/\AllBare s'.gens) b):
  WalkO q e D C l.row.toRowW d [] (λf vs=>PySem.call f vs):=by intro w c b mg t G Y m o s p h U kV H P y A v N B W as i z E u M;obtain rfl:U=.none:=Dflts.none A x;obtain rfl:kV=.none:=Dflts.noKw A;obtain⟨a,vs,ns,rfl,rfl,j,g,k⟩:=DF K i u;refine enter_call (codeAny_mono (call w c b mg t m o s p h a vs ns G Y H (fd_plain P) y v j g k N) λr s' F=>?_);obtain⟨rfl,S,R,Q⟩:=F;exact⟨.inl ⟨.bool true,.bool true,[],J,λ_=>rfl,.bool true,Ds l _,λ_=>⟨List.Pairwise.nil,λ_ L=>(nomatch L)⟩⟩,S,R,Q⟩
section
variable{prog:Program}{w:World}{K:Frag}
end
end Att
namespace L2
open PySem PySem.Spec PyProof.Rows
variable{a c f it:Addr}{A:Around}{osl sl:Array (Option Value)}{its:Array Value}{X:Cx}{D:Ends}{env:Env}{tg:Expr}{fd:FuncData}{h':Heap}{H H' H2:Hp}{lo:Int}{pins cH:List (Addr×Obj)}{fp:List Addr}{eW fM:List Expr}{ns:List Int}{cap:List Nat}{own ps:List Str}{xs:List V}{us vs:List Value}{i:Nat}{v:Option Value}{aE:Pos}{P prog q:Program}{R:Result->Shared->Prop}{scope:Scope}{s s':Shared}{sp:Sp}{σ σ':St}{st:Stmt}{qual x:Str}{mb mg:Str->Option Value}{ta:TA}{te:TE}{g:TG}{tb:TS}{tc:TT}{dQ:Value}{E Ex Q:Value->Shared->Prop}{w:World}
theorem Js:∀{vs:List Value}{ns:List Int},IntsAre vs ns->yo (ns.map V.int) vs|_,_,.nil=>.nil|_,_,.cons n t h=>.cons ⟨t,J⟩ (Js h)
def ol(H:Hp):Prop:=∀b,H b=none\/∃o xs,H b=some (.frz o (.lst xs))
theorem Cn {K:W.Frag} {CX:io} {k:Nat} {R:Addr} {c:Shared}(KX:K.In c.heap) (y:c.heap.Ns mainGlobals mg) (l:c.heap.Ns builtinsNs mb) (M:∀x:Str,x≠"__name__"->mb x=bootBuiltins x) (A:c.heap.NoLimit) (hg:c.gens=#[])
  (N:c.heap.get? a=some {cls:=.type "list",data:=.seq vs.toArray}) (X:IntsAre vs ns) (hl:ns.length<=sizeLine) (hr:aO k callerA)
  (F:∀base:Heap,K.In base->base.Ns mainGlobals mg->cG P w K mg base CX k R fd [x] sp) (j:∀(s:Shared)(u:Value),BindsTo s fd ⟨[u],[]⟩ [(x,u)])
  (L:∀H:Hp,ol H->aJ K H a (ns.map V.int)->sp [.ref a] H (λv _=>v=.bl true) λ_ _ _=>False)
  (Q:∀H e s',CX [] H c (λ_ _ _=>False) e s'->False):
  codeAny (model P w) callerA (.call (.ref R) ⟨[.ref a],[]⟩) (λr s'=>r=.ok (.ret (.bool true))/\OldK c.heap s'.heap/\s'.os=c.os/\AllBare s'.gens) c:=by
 have rv:=Js X;have U:=X.length;have i:∀H:Hp,ol H->aJ K H a (ns.map V.int)->bR P w H c.heap->(∀b,H b≠none->b=a)->(H a≠none->K.lookup a=none)->
   codeAny (model P w) callerA (.call (.ref R) ⟨[.ref a],[]⟩) (λr s'=>r=.ok (.ret (.bool true))/\OldK c.heap s'.heap/\s'.os=c.os/\AllBare s'.gens) c:=by
  intro H Z hS t hA hK;have f:∀{b:Addr}{o:Obj},c.heap.get? b=some o->H b=none->(i0 c.heap H).get? b=some o:=λe n=>Cl e n;have G:∀{b:Addr}{o:Obj}{D:Array DictEntry}{E:Nat},c.heap.get? b=some o->o.data=.dict D E->H b=none:=λ{b o D E} e d=>by grind
  have g:∀{b:Addr}{m:Str->Option Value},c.heap.Ns b m->(i0 c.heap H).Ns b m:=λ{b m} ⟨o,D,E,e,d,r⟩=>⟨o,D,E,f e (G e d),d,r⟩
  have B:=λb o e=>f (KX b o e) (by grind)
  have hM:Mod K mg (i0 c.heap H):=⟨B,g y,⟨mb,g l,M⟩,let⟨mc,h1,h2⟩:=A;⟨mc,g h1,h2⟩⟩
  have e0:eZ P w K mg (i0 c.heap H) callerA [] c H:=⟨J,hM,λb o e=>Bc e,Nat.le_of_eq (C3 _ _),trivial,λb l=>absurd (show b∈[]from l) (by simp),t,.of_eq hg⟩
  refine codeAny_mono ((F _ B (g y)).run callerA [] c H ⟨[.ref a],[]⟩ [.ref a] [.ref a] _ _ hr e0 (j c (.ref a)) (.cons J .nil) (L H Z hS)) λr s' h=>?_;cases r with|error e=>exact(Q H e s' h).elim| ok fl=>
    cases fl with|next=>exact False.elim h|brk=>exact False.elim h|cont=>exact False.elim h| ret u=>
      obtain⟨v,H',os,C,S,p,r',q⟩:=h;have q':=q;subst q';obtain rfl:u=Value.bool true:=r';refine⟨J,OldK.of_keep λb o e=>?_,os,C⟩;cases q:H b with|none=>exact S.keep b o e q (by intro z;exact absurd (show b∈[]from z) (by simp)) (by simp)| some u=>
        rcases Z b with z|⟨ob,xs,z⟩
        simp_all
        have z2:=S.frzs b ob _ z;obtain⟨e1,_⟩:=t b _ z;obtain⟨e2,_⟩:=p b _ z2
        simp_all
 cases hk:K.lookup a with| some o=>
   have e:=KX a o hk;rw[N]at e;cases e;refine i (λ_=>none) (λ_=>.inl J) (.inr ⟨_,vs.toArray,_,hk,J,J,J,by simp_all,by omega⟩) (λb u z=>by simp_all) (λb z=>absurd J z) λz=>absurd J z| none=>
   refine i (λb=>if b=a then some (.frz {cls:=.type "list",data:=.seq vs.toArray} (.lst (ns.map V.int)))else none) (λb=>?_) (.inl (.inr ⟨{cls:=.type "list",data:=.seq vs.toArray},if_pos J⟩)) (λb u z=>?_) (λb z=>?_) λ_=>hk
   grind
   by_cases l:b=a;have z':=(if_pos l).symm.trans z;cases z';subst l;exact⟨N,by simp_all,vs,_,rv,N⟩
   simp_all
   simp_all
theorem nM{l:W.OpenLaw}{n k:Nat}{c:O Str}{Z:(Str->Option I)->Heap->Prop}{C:World->Heap->Prop}{d:DefRec}{K:Params->W.Frag}{CX:World->io}{sp:World->Sp}(L:l.most=some n) (t:n<=sizeLine) (z:d.params.defaults=[]) (E:aO k callerA)
  (Q:∀(w:World)(h:Heap),C w h->(K w.params).In h)
  (F :∀(w:World) (mg:Str->Option I) (m:Addr) (h:Heap),(K w.params).In h->h.Ns mainGlobals mg->mg d.name=some (.ref m)-> ∃ fd:FuncData,(∀(s:Shared) (u:I),BindsTo s fd ⟨[u],[]⟩ [(x,u)])/\
     ∀base:Heap,(K w.params).In base->base.Ns mainGlobals mg->cG l.prog w (K w.params) mg base (CX w) k m fd [x] (sp w))
  (r:∀(w:World)(H:Hp)(a:Addr)(ns:O Int),ns.length<=n->ol H->aJ (K w.params) H a (ns.map V.int)->sp w [.ref a] H (λv _=>v=.bl true) λ_ _ _=>False)
  (A:∀(w:World)(H:Hp)(s:Shared)(e:I)(p:Shared),CX w [] H s (λ_ _ _=>False) e p->False):
  W.WalkO q c Z C l.row.toRowW d [] (λf vs=>PySem.call f vs):=by refine Att.jV L z λw B i mg mb m o pm cd X a vs ns G Y ho hd N y j g b M=>?_;have D:=Q w _ Y;obtain⟨fd,P,U⟩:=F w mg m _ D G.T.g y;exact Cn D G.T.g G.T.b G.T.builtins G.T.nolimit M j g (cj b t) E U P (λH S R=>r w H a ns b S R) λH e p=>A w H i e p
noncomputable def qb(s:Stmt):Arguments:=match s with|.FunctionDef _ a _ _ _ _ _ _ _ _=>a|_=>{posonlyargs:=[],args:=[],vararg:=none,kwonlyargs:=[],kw_defaults:=[],kwarg:=none,defaults:=[]}
noncomputable def y0(s:Stmt):List Stmt:=match s with|.FunctionDef _ _ b _ _ _ _ _ _ _=>b|_=>[]
noncomputable def zi(s:Stmt):Scope:=match s with|.FunctionDef _ _ _ _ _ _ sc _ _ _=>sc|_=>{kind:=.function,names:=[],isGenerator:=false,isCoroutine:=false}
abbrev eT:io:=λ_ _ _ _ _ _=>False
abbrev E0:XK:=λ_ _ _=>False
theorem nB:Xj eT X E0:=λ_ _ _ _ _ _ _ h=>h.elim
structure im(K:W.Frag)(x qual:Str)(st:Stmt)(f:Addr)(fd:FuncData):Prop where
 ex:∃(oc:Value)(od:Option Addr)(kV doc pm:Value)(an:Option Addr)(cdv ct:Value)(osl:Array (Option Value)),fd=W.fnOf x qual (qb st) (y0 st) (zi st) .none kV doc pm an cdv ct/\K.lookup f=some ⟨oc,od,.func fd,osl⟩/\W.codeIn K cdv qual=true
 kp:W.keepIn K (.ref f)=true
section
variable{K:W.Frag}{base:Heap}
theorem im.ok{N:O Str}{k:Nat}(F:im K x qual st f fd)(S:aA N ps (zi st))(b:∀vs H Q E,sp vs H Q E->vs.length=ps.length)(a:∀(cdv:I) (A:Around) (outer:O Env) (s:Shared) (H:Hp) (vs:O V) (Q:VK) (E:XK),aO k (A.deeper (envOfC qual (zi st) s.heap.objs.size f cdv))->sp vs H Q E-> ∃t,dO (Ve eT P w K mg base N qual (zi st) f cdv A outer s H E).nox (y0 st) t/\t (.of Q) (start N vs) H):cG P w K mg base eT (k+1) f fd ps sp:=by obtain⟨n,m,kV,j,l,p,cdv,o,e,rfl,g,d⟩:=F.ex;refine yK g d S b λA outer s H vs Q E i c=>?_;obtain⟨t,h,q⟩:=a cdv A outer s H vs Q E i c;exact⟨t,h.nox,q⟩
theorem im.binds(F:im K x qual st f fd)(h:∀(kV a c:I)(e:Option Y)(cdv d:I)(b:O I),b.length=ps.length->bindArgs (W.fnOf x qual (qb st) (y0 st) (zi st) .none kV a c e cdv d) ⟨b,[]⟩=pure (ps.zip b)):Z4 K fd ps []:=by obtain⟨k,j,kV,a,c,e,cdv,d,g,rfl,l,i⟩:=F.ex;exact .all (h kV a c e cdv d)
theorem pH{h:I}{g e:Option Y}{kV a b cdv d:I}(l:K.lookup f=some ⟨h,g,.func (W.fnOf x qual (qb st) (y0 st) (zi st) .none kV a b e cdv d),osl⟩)(c:W.codeIn K cdv qual=true) (k:W.keepIn K (.ref f)=true):im K x qual st f (W.fnOf x qual (qb st) (y0 st) (zi st) .none kV a b e cdv d):=⟨⟨h,g,kV,a,b,e,cdv,d,osl,J,l,c⟩,k⟩
end
theorem jy{k:Nat}(a:aO k A):A.units+1<cLine:=f7 (Nat.add_le_add_left (by decide) _) a.units
theorem yq{n:Nat}(h:n<=1000):n<sizeLine:=f7 h (by decide)
section
theorem pv(i:Nat)(hN:X.N[i]?=some x:=by rfl)(b:autoParam (mT X.env.scope x) wZ._auto_1)(c:(x==("__debug__":Str))=false:=by decide)
 (a:(x==("__classdict__":Str))=false:=by decide):PE X (.Name x aE) (jh i):=Au hN b c a
end
theorem yd{A B:Prop}(h:B):if false=true then A else B:=by simp_all
theorem yv{A B:Prop}(h:A):if true=true then A else B:=by simp_all
theorem Zy{c A B:Prop}[Decidable c](b:c->A)(a:¬c->B):if c then A else B:=by simp_all
def Same(H B:Hp):Prop:=∀b o,H b=some o->B b=some o
theorem Same.refl(H:Hp):Same H H:=λ_ _ h=>h
theorem Same.trans{d:Hp}(a:Same H d)(b:Same d H2):Same H H2:=λc o h=>b c o (a c o h)
theorem Same.seq{K:W.Frag}(e:Same H H')(h:aJ K H a xs):aJ K H' a xs:=by rcases h with(h|⟨o,h⟩)|h;exact .inl (.inl (e _ _ h));exact .inl (.inr ⟨o,e _ _ h⟩);exact .inr h
section
variable{κ:Type}[DecidableEq κ]
theorem BM{kvs:O (κ×V)}{k:κ}{v:V}(h:y9 kvs k=some v):k∈kvs.map (·.1):=by
 have q:(kvs.any λa=>decide (a.1=k))=true:=by rw[jq,h];rfl
 simp_all
end
section
theorem E7{B a D:Expr}{y t:Value}(I:Nat->Shared->Prop)(z:∀e s',Ex e s'->notedBy (model prog w) A env (λx u=>R (.error x) u) e s')(l:∀n s,I n s->wpAny (model prog w) A (pyNext y) (λr b=>match r with
   |none=>R (.ok .next) b
   | some v=>wpAny (model prog w) A (letOwnedTupleGo a y v) (λ_ s₂=>wpAny (model prog w) A (assign a env v) (λ_ s₂=> wpAny (model prog w) A (forIn fM true λc r=>if r=true then do let ok<-isTrue c env (eval c env);pure (ForInStep.yield ok)else pure (ForInStep.yield r)) (λok f=> if ok=true then wpAny (model prog w) A (eval B env) (λx j=>wpAny (model prog w) A (call (.builtin "list.append") [t,x]) (λ_ i=>∃m,m<n/\I m i) (λ_ _=>False) j) Ex f
     else∃m,m<n/\I m f) (λ_ _=>False) s₂) (λ_ _=>False) s₂) (λ_ _=>False) b) (λ_ _=>False) s)
  (n:Nat) (h:I n s):
  codeAny (model prog w) A (.compLoop (.ListComp B [⟨a,D,fM,0⟩] scope aE) 0 y t env) R s:=by
 refine codeAny_loop J I (λn s C=>?_) n h;refine wpAny_noted ?_;rw[compTurn_list];refine a4 (wpAny_standAt (a4 (de (l n s C) (λr b d=>?_) λ_ _ g=>g.elim)));cases r with
 |none=>exact a9 d
 | some v=>
   refine a4 (de d (λ_ b d=>?_) λ_ _ g=>g.elim);refine a4 (de d (λ_ s₂ q=>a4 (de q (λok f k=>?_) λ_ _ g=>g.elim)) λ_ _ g=>g.elim);cases ok with
   |false=>exact a9 ⟨J,k⟩
   | true=>exact a4 (a4 (de k (λx j p=>a4 (de p (λ_ i o=>a9 (a9 ⟨J,o⟩)) λ_ _ g=>g.elim)) z))
end
noncomputable def dY(B:Env):List (Str×NameKind)->List (Str×Addr)->List (Str×Addr)|[],F=>F|(n,k)::r,F=>if k==.free then dY B r ((n,(B.cells.lookup n).getD 0)::F)else dY B r F
theorem Yk(j:∀x∈scope.names,x.2=.free->∃c,env.cells.lookup x.1=some c):closureFor scope env=pure (dY env scope.names []):=by
 have go:∀(l:O (Str×NameKind))(b:O (Str×Y)),(∀x∈l,x.2=.free->∃c,env.cells.lookup x.1=some c)->
   (forIn (m:=Sem) l b λx r=>(if(x.2==NameKind.free)=true then do let a<-cellOf env x.1;pure (ForInStep.yield ((x.1,a)::r))else pure (ForInStep.yield r)))=pure (dY env l b):=by
  intro l;induction l with|nil=>intro b _;rfl| cons p r f=>
    obtain⟨n,k⟩:=p;intro b h;have g:=λx i=>h x (br _ i);rw[List.forIn_cons];by_cases hk:k=.free;subst hk;obtain⟨c,m⟩:=h (n,.free) bv J;have e:cellOf env n=pure c:=by unfold cellOf;rw[m]
    rw[if_pos (by rfl),e,pure_bind,pure_bind];dsimp only;rw[f _ g];show _=pure (if(NameKind.free==.free)=true then dY env r ((n,(env.cells.lookup n).getD 0)::b)else dY env r b)
    simp_all
    have d:(k==NameKind.free)=false:=by simp_all
    rw[d,if_neg bu,pure_bind];dsimp only;rw[f _ g];show _=pure (if(k==.free)=true then dY env r ((n,(env.cells.lookup n).getD 0)::b)else dY env r b);rw[d,if_neg bu]
 have e:=go scope.names [] j;unfold closureFor
 simp_all
theorem Xi{a:Env}{x:Str}{c:Addr}:∀{l:List (Str×NameKind)}{b:List (Str×Addr)},(∀x∈l,x.2=.free->∃c,a.cells.lookup x.1=some c)->(dY a l b).lookup x=some c->b.lookup x=some c\/a.cells.lookup x=some c
 |[],b,_,h=>.inl h
 | (n,k)::r,b,e,h=>by
   have d:=λx f=>e x (br _ f);unfold dY at h;split at h
   rename_i hk
   obtain⟨i,g⟩:=e (n,k) bv (by simp_all);rcases Xi d h with q|q
   grind
   simp_all
   exact Xi d h
theorem X8{b:Env}{x:Str}:∀{l:List (Str×NameKind)}{a:List (Str×Addr)},(x,NameKind.free)∈l\/(∃c,a.lookup x=some c)->∃c,(dY b l a).lookup x=some c
 | [],a,h=>by rcases h with h|h;cases h;exact h
 | (n,k)::r,a,h=>by
   unfold dY;split
   rename_i hk
   have hk:k=.free:=by simp_all
   subst hk;refine X8 ?_;rcases h with h|⟨c,h⟩;rcases ak.mp h with h|h
   simp_all
   simp_all
   grind
   rename_i hk
   refine X8 ?_
   grind
theorem Xs(a:∀y∈scope.names,y.2≠ .cell)(h:(relabel scope env).names.lookup x=some .cell\/(relabel scope env).names.lookup x=some .free):(x,NameKind.free)∈scope.names:=by
 have go:∀(l:O (Str×NameKind)),(∀y∈l,y.2≠ .cell)->∀k,(k=NameKind.cell\/k=.free)->
   (l.map λ(n,k)=>if(k==NameKind.free && env.scope.kind==.function && env.kindOf n==some .cell)then(n,NameKind.cell)else(n,k)).lookup x=some k->(x,NameKind.free)∈l:=by intro l;induction l with|nil=>simp| cons p r b=>grind
 rcases h with h|h;exact go scope.names a _ (.inl J) h;exact go scope.names a _ (.inr J) h
abbrev Jo(B:List Value):Obj:={cls:=.type "list",data:=.seq B.toArray B.length}
theorem Db(a:O I)(u:I):({cls:=.type "list",data:=.seq (a.toArray.push u) (a.length+1)}:Obj)=Jo (a++[u]):=by simp
noncomputable def bY(k:Nat)(cap:List Nat)(B:St):St:=List.replicate k none++cap.map λj=>(B[j]?).getD none
noncomputable def kA(own:List Str)(cap:List Nat)(N:List Str):List Str:=own++cap.map λj=>(N[j]?).getD Str.empty
noncomputable def vi(X:Cx)(own:List Str)(cap:List Nat)(B:Scope)(C:Addr)(U:List Addr)(F:Shared)(G:Hp):Cx:={X with N:=kA own cap X.N,s₀:=F,H₀:=G,env:=compEnvC B (dY X.env B.names []) C X.env,outer:=X.stack,ex:=U,fn:=λ_=>false,pn:=[],xe:=λ_ _=>False}
def Kr(X:Cx)(B:Scope):List Nat->Prop|[]=>True|j::r=>(∃x,X.N[j]?=some x/\(X.env.scope.names.lookup x=some .cell\/X.env.scope.names.lookup x=some .free)/\(relabel B X.env).names.lookup x≠some .local)/\Kr X B r
theorem Kr.mem{X:Cx}{c:Scope}:∀{cap:List Nat},Kr X c cap->∀j∈cap,∃x,X.N[j]?=some x/\(X.env.scope.names.lookup x=some .cell\/X.env.scope.names.lookup x=some .free)/\(relabel c X.env).names.lookup x≠some .local|[],_,_,h=>nomatch h| _::_,⟨a,b⟩,j,h=>by rcases ak.mp h with rfl|h;exact a;exact Kr.mem b j h
structure aW(X:Cx)(own:List Str)(cap:List Nat)(scope:Scope):Prop where
 kind:scope.kind=.function
 free:∀x∈scope.names,x.2=.free->X.env.kindOf x.1=some .cell\/X.env.kindOf x.1=some .free
 cell:∀x∈scope.names,x.2≠ .cell
 names:∀x∈scope.names,x.2=.local->scope.names.lookup x.1=some .local
 cap:Kr X scope cap
section
variable{H₂:Hp}{s₂:Shared}{C:Addr}
theorem aW.has(S:aW X own cap scope)(a:X.Ok):∀x∈scope.names,x.2=.free->∃c,X.env.cells.lookup x.1=some c:=λx b hk=>a.has _ (S.free x b hk)
theorem aW.look(S:aW X own cap scope)(a:X.Ok)(h:(dY X.env scope.names []).lookup x=some c):X.env.cells.lookup x=some c:=by rcases Xi (S.has a) h with q|q;cases q;omega
theorem Un.cellK{g a:O Y}{h:Heap}(u:Un g a H H' h h')(n:H c=none)(b:c ∉ a)(z:h.IsCell c v):h'.IsCell c v:=by obtain⟨o,d,f⟩:=z;obtain⟨i,e⟩:=u.any d n b;exact⟨_,e,f⟩
theorem CL(I:Inv X pins σ H₂ s₂)(S:aW X own cap scope)(f:∀b∈fp,Vg X pins H₂ b)(g:s₂.heap.objs.size<=C)(d:∀b∈fp,b<s₂.heap.objs.size):(vi X own cap scope C fp s₂ H₂).Ok where
 mod:=I.ok.mod
 kind:=S.kind
 glob:=I.ok.glob
 blt:=I.ok.blt
 above:=g
 inj:=λx y c j i=>I.ok.inj x y c (S.look I.ok j) (S.look I.ok i)
 has:=λx h=>X8 (.inl (Xs S.cell h))
 cab:=λx c h=>by cases h
 hd:=I.ok.hd
 frames:=I.ok.frames
 stk:=.inl J
 exf:=λb a=>⟨az (cf (d b a) g),λx c h=>(f b a).2.2.2.2.1 x c (S.look I.ok h)⟩
 bs:=I.bs
 bsz:=cj I.ok.bsz I.sz
 noex:=λb o e a=>by rcases(f b a).2.2.2.1 with z|z;exact I.ok.noex b o e z;exact absurd (cf (au e) (cj I.ok.bsz z)) (cp _)
 exfs:=λb a z=>by rcases ak.mp (I.stkSub b z)with e|e;exact(f b a).2.1 e;exact(f b a).2.2.1 e
 funs:=I.stack
 frf:=λb a=>I.stkFree b a
theorem uI(I:Inv X pins σ H₂ s₂)(S:aW X own cap scope)(f:∀b∈fp,Vg X pins H₂ b){E:List Addr}(u:Un E fp H₂ H' s₂.heap h')(m:Str->Option Value):∀(i:Nat)(x:Str)(v:V),(kA own cap X.N)[i]?=some x->(bY own.length cap σ)[i]?=some (some v)->mT (relabel scope X.env) x->∃q,yk v q/\rD (compEnvC scope (dY X.env scope.names []) C X.env) h' m x q:=by
 intro i x v a d D;unfold bY at d;unfold kA at a;by_cases B:i<own.length
 grind
 rw[List.getElem?_append_right (by simpa using B)]at d a;rw[fb]at d;rw[bc]at a d;cases e:cap[i-own.length]? with|none=>simp_all| some j=>
   rw[e]at a d;obtain⟨y,s,hk,k⟩:=S.cap.mem j (ck e);have a:(X.N[j]?).getD Str.empty=x:=Option.some.inj a;rw[s]at a;have a:y=x:=a;subst a;have d:(σ[j]?).getD none=some v:=Option.some.inj d;have o:σ[j]?=some (some v):=by grind
   obtain⟨F,G,A⟩:=I.loc;obtain⟨q,r,l⟩:=A j y v s o (.inr hk);refine⟨q,r,?_⟩;rcases l with⟨p,_⟩|⟨_,c,n,z⟩;have p:X.env.scope.names.lookup y=some .local:=p
   simp_all
   have g:=D.resolve_left k;obtain⟨H,h⟩:=X8 (.inl (Xs S.cell g));have t:=S.look I.ok h;rw[n]at t;cases t;exact .inr ⟨g,c,h,u.cellK (I.freeC y c n) (λw=>(f c w).2.2.2.2.1 y c n J) z⟩
theorem Kj(I:Inv X pins σ H₂ s₂)(S:aW X own cap scope)(f:∀b∈fp,Vg X pins H₂ b)(J:Inv (vi X own cap scope C fp s₂ H₂) cH σ' H' s'):Inv (vi X own cap scope C fp s₂ H₂) cH (bY own.length cap σ) H' s':=by obtain⟨m,a,_⟩:=id J.loc;refine⟨J.ok,J.os,J.bare,J.base,⟨m,a,uI I S f J.base m⟩,J.cell,J.free,J.freeC,J.pin,J.hok,?_⟩;unfold bY;show _=(kA own cap X.N).length;unfold kA;simp
theorem uH{D:Y}{i:O V}(I:Inv X pins σ H₂ s₂)(f:∀b∈fp,Vg X pins H₂ b)(J:Inv (vi X own cap scope C fp s₂ H₂) cH σ' H' s')(x:Heap.SameBut C s'.heap h') (E:s₂.heap.objs.size<=C) (B:s₂.heap.objs.size<=D) (l:D≠C) (y:s'.heap.get? D=some (Jo us)) (h:H' D=none) (A:i.length<=sizeLine) (r:yo i us):
  Inv X pins σ (upd H' D (.lst i)) {s' with heap:=h'}:=by
 have same:∀b o,b≠C->s'.heap.get? b=some o->h'.get? b=some o:=λb o a e=>(x.2 b a).trans e;have p:∀b o,s₂.heap.get? b=some o->b≠C/\b≠D:=λb o e=>⟨az (cf (au e) E),az (cf (au e) B)⟩
 have u:=J.base;have Q:H' C=none:=J.free;have k:bR X.prog X.w (upd H' D (.lst i)) h':=by
  intro b t e;by_cases a:b=D;subst a;rw[ze]at e;cases e;exact⟨A,us,us.length,r,same b _ l y⟩;rw[upd_ne a]at e;have w:∀c m,H' c=some m->c≠C:=λc m z q=>by simp_all
  refine(J.hok b t e).stay (λc v H q=>same c v ?_ q) (λc q=>?_) λc j q=>?_
  grind
  rw[upd_ne (zj q h)];exact q;rw[upd_ne (zj q h)];exact q
 refine I.call' (ch:=fp) J.os ⟨λb o e n a d=>?_,λb o e n a d=>?_,λb o e n d=>?_,λb o e d=>?_,λb j e=>?_,λb o j e=>?_,λb s e=>?_⟩ k J.bare λb a=>?_;exact same b o (p b o e).1 (u.keep b o e n a d);obtain⟨F,q⟩:=u.slot b o e n a d
 simp_all
 rw[upd_ne (p b o e).2];exact u.free b o e n d;obtain⟨G,q⟩:=u.there b o e d
 simp_all
 have q:=u.tups b j e;rw[upd_ne (zj q h)];exact q;have q:=u.frzs b o j e;rw[upd_ne (zj q h)];exact q;obtain⟨g,q⟩:=u.tbls b s e;exact⟨g,by rw[upd_ne (zj q h)];exact q⟩;obtain⟨f0,P,N,M,L,K⟩:=f b a
 grind
end
def l6(X:Cx)(B:List Expr)(t:TT):Prop:=
 ∀ (pins:List (Addr×Obj)) (s:Shared) (σ:St) (H:Hp) (Q:Bool->Hp->Prop),Inv X pins σ H s->t σ H Q->
   wpAny (model X.prog X.w) X.A (forIn B true λc r=>if r=true then do let ok<-isTrue c X.env (eval c X.env);pure (ForInStep.yield ok)else pure (ForInStep.yield r)) (TP X pins σ Q) X.xe s
def mq:TT:=λ_ H Q=>Q true H
theorem wb:l6 X [] mq:=by intro a s b H Q I h;exact a9 ⟨H,I,h⟩
theorem Vk{c:Expr}{t:TT}(h:PT X c t):l6 X [c] t:=by intro a s d H Q I f;rw[List.forIn_cons];rw[if_pos J];refine a4 (a4 (aG (h a s d H Q I f) λb j ⟨i,g,e⟩=>?_));refine a9 ?_;dsimp only;rw[List.forIn_nil];exact a9 ⟨i,g,e⟩
inductive cV(J:It)(g:TG)(tc:TT)(te:TE)(k:Nat)(cap:List Nat)(σ:St)(H:Hp)(Q:VK):Prop| mk:∀W:Nat->Nat->List V->Hp->Prop,(∃m,W 0 m [] H)->(∀i m ys H,W i m ys H-> (J.stop i H/\ys.length<=sizeLine/\∀p,H p=none->Q (.ref p) (upd H p (.lst ys)))\/
   (J.go i H/\ys.length<=sizeLine/\∃N:List V->Hp->Prop,(∀ys' H',N ys' H'->∃m',m'<m/\W (i+1) m' ys' H')/\∀x H',J.yld i H x H'->g x (bY k cap σ) H' λσ2 H2=>tc σ2 H2 λb H3=>if b=true then te σ2 H3 λy H4=>N (ys++[y]) H4 else N ys H3))->cV J g tc te k cap σ H Q
def wF(B:TI)(g:TG)(F:TT)(te:TE)(k:Nat)(cap:List Nat):TE:=λσ H Q=>B σ H λJ H1=>cV J g F te k cap σ H1 Q
section
variable{bX fT:Expr}{wi:TI}
theorem uT{Zw:Cx->O Str->O Nat->Scope->Y->O Y->Shared->Hp->I->Shared->Prop}{f:Shared}{tn:Nat->Heap->Prop}{J:It}{W:Nat->Nat->O V->Hp->Prop}{m0:Nat}{QQ:O V->Hp->Prop}{RR:I->Y->Result->Shared->Prop}(hc:X.calm=true) (S:aW X own cap scope)
  (hg:∀C fp s₂ H₂,PG (vi X own cap scope C fp s₂ H₂) tg g) (ht:∀C fp s₂ H₂,l6 (vi X own cap scope C fp s₂ H₂) fM tc) (he:∀C fp s₂ H₂,PE ((vi X own cap scope C fp s₂ H₂).wish (Zw X own cap scope C fp s₂ H₂)) fT te)
  (B:Inv X pins σ H2 f) (T:dJ X.prog X.w X.K tg J fp it tn) (a7:tn 0 f.heap) (f2:∀b∈fp,Vg X pins H2 b) (w0:W 0 m0 [] H2)
  (a1:∀i m k H,W i m k H-> (J.stop i H/\k.length<=sizeLine/\QQ k H)\/
   (J.go i H/\k.length<=sizeLine/\∃N:O V->Hp->Prop,(∀aS s,N aS s->∃m',m'<m/\W (i+1) m' aS s)/\∀x s,J.yld i H x s->g x (bY own.length cap σ) s λay H2=>tc ay H2 λb H3=>if b=true then te ay H3 λy H4=>N (k++[y]) H4 else N k H3))
  (hZ:∀(D C:Y)(e:I)(L:Shared),Zw X own cap scope C fp f H2 e L->notedBy (model X.prog X.w) X.A (compEnvC scope (dY X.env scope.names []) C X.env) (λx bl=>RR (.ref D) C (.error x) bl) e L)
  (bq:∀(D C:Y) (cH:O (Y×Obj)) (bk:St) (s:Hp) (L:Shared) (t:O I) (k:O V),Inv (vi X own cap scope C fp f H2) cH bk s L->f.heap.objs.size<=C->f.heap.objs.size<=D->D≠C->L.heap.get? D=some (Jo t)->s D=none-> k.length<=sizeLine->yo k t->QQ k s->RR (.ref D) C (.ok .next) L):
  wpAny (model X.prog X.w) X.A (newList []) (λbj l=>wpAny (model X.prog X.w) X.A (newFunctionEnv scope X.env.globals (dY X.env scope.names []) [] X.env.qual none .none (some X.env)) (λQ a3=>codeAny (model X.prog X.w) X.A (.compStart (.ListComp fT [⟨tg,bX,fM,0⟩] scope aE) 0 (.ref it) bj {Q with scope:=relabel scope X.env}) (RR bj Q.locals) a3) X.xe l) X.xe f:=by
 refine cx (wpAny_newFunctionEnv S.cell (by intro y hy;simp at hy) (λF w j=>?_) S.kind);generalize ah:f.heap.push {cls:=.type "list",dict:=none,data:=.seq [].toArray}=g2 at w j⊢;have ap:g2.objs.size=f.heap.objs.size+1:=by rw[<-ah,dy]
 have hC:f.heap.objs.size<=g2.objs.size:=by rw[ap];exact Nat.le_succ _
 have ao:f.heap.objs.size≠g2.objs.size:=by rw[ap];exact az (dz _)
 have below:∀b,b<f.heap.objs.size->b≠g2.objs.size/\b≠f.heap.objs.size:=λb h=>⟨by rw[ap];exact az (Nat.lt_succ_of_lt h),az h⟩
 have dQ:=λb o e=>j.extBut b o (below b (au e)).1 (aq _ (ah▸aq _ e));have bb:=j.extBut _ _ ao (aq _ (ah▸bf _ rfl));have ag:∀b∈fp,b<f.heap.objs.size:=λb h=>by obtain⟨o,e,_⟩:=T.obj _ _ a7 b h;exact au e
 have A:∀a,f.heap.objs.size<=a->H2 a=none:=λa ha=>B.hok.fresh ha;have ok:=CL B S f2 hC ag;have a8:=T.keep _ _ _ a7 λb h o e=>dQ b o e;let K:=vi X own cap scope g2.objs.size fp f H2;have u1:Un (fS X.stack) fp H2 H2 f.heap F:=Un.kept dQ;have start:Inv K [(f.heap.objs.size,Jo [])] (bY own.length cap σ) H2 {f with heap:=F,toks:=f.toks+([]:O (Str×I)).length}:=by
  refine⟨ok,rfl,B.bare,u1,⟨_,w,uI B S f2 u1 _⟩,λx c e=>?_,A _ hC,λx c e=>B.freeC x c (S.look B.ok e),λp M=>?_,B.hok.kept dQ,?_⟩;obtain⟨v,z⟩:=B.cell x c (S.look B.ok e);obtain⟨o,ho,hd⟩:=z;exact⟨v,o,dQ c o ho,hd⟩;have e:p=(f.heap.objs.size,Jo []):=by simpa[K,vi]using M
  subst e;refine⟨bb,A _ (ae _),ao,λz=>?_,λv z=>by cases z⟩;obtain⟨_,o,ho,_⟩:=B.stack.mem z;exact absurd (au ho) (cp _);unfold bY;show _=(kA own cap X.N).length;unfold kA;simp
 have E:∀{D:Y}{o:Obj}{s:Hp},f.heap.objs.size<=D->(∀b∈fp,s b=none)->∀b∈fp,Vg K [(D,o)] s b:=λ{D o s} hD hn b h=>
  ⟨hn b h,(ok.exf b h).1,ok.exfs b h,.inl h,λx c e=>(ok.exf b h).2 x c e,λp M=>by
   have e:p=(D,o):=by simpa[K,vi]using M
   subst e;exact aj (az (cf (ag b h) hD))⟩
 have P:∀l:Shared,l={f with heap:=F,toks:=f.toks+([]:O (Str×I)).length}->
   codeAny (model X.prog X.w) X.A (.compLoop (.ListComp fT [⟨tg,bX,fM,0⟩] scope aE) 0 (.ref it) (.ref f.heap.objs.size) (compEnvC scope (dY X.env scope.names []) g2.objs.size X.env))
    (RR (.ref f.heap.objs.size) g2.objs.size) l:=by
  rintro l rfl;refine E7 (λn L=>∃i s t k,Inv K [(f.heap.objs.size,Jo t)] (bY own.length cap σ) s L/\tn i L.heap/\(∀b∈fp,s b=none)/\yo k t/\W i n k s) (hZ _ _) ?_ m0
   ⟨0,H2,[],[],start,a8,λb h=>(f2 b h).1,.nil,w0⟩
  rintro n s3 ⟨i,H3,t,k,I3,a6,bg,rv,w3⟩;rcases a1 i n k H3 w3 with⟨a5,hl,qn⟩|⟨go,hl,N,hN,step⟩;refine aG (T.done K rfl rfl rfl hc i _ s3 _ H3 _ I3 (E (ae _) bg) a6 a5) λr s4 ⟨hr,I4⟩=>?_;subst hr;have G:=I4.pin (f.heap.objs.size,Jo t) (cw _ bv);exact bq _ _ _ _ H3 s4 t k I4 hC (ae _) ao G.1 G.2.1 hl rv qn;refine aG (T.item K rfl rfl rfl hc i _ s3 _ H3 _ I3 (E (ae _) bg) a6 go) λr s4 ⟨u,hr,h4⟩=>?_;subst hr;refine aG h4 λ_ s5 ⟨x,H5,I5,r5,y5,U,bw⟩=>?_;have bx:=I5.pinned (E (ae _) bw) (T.obj _ _ U);refine aG (hg _ _ _ _ _ s5 _ H5 x u _ bx r5 (step x H5 y5)) λ_ s6 ⟨aw,H6,I6,q6⟩=>?_;refine aG (ht _ _ _ _ _ s6 aw H6 _ I6 q6) λb s7 ⟨H7,I7,q7⟩=>?_;have a2:∀{av:St}{H8:Hp}{Z:Shared},Inv K ([(f.heap.objs.size,Jo t)]++Qj fp s5.heap) av H8 Z->tn (i+1) Z.heap/\∀b∈fp,H8 b=none:=λ{av H8 Z} R=>by refine⟨T.keep _ _ _ U λb h o e=>(R.pin (b,o) (cw _ (cw _ (Zx h e)))).1,λb h=>?_⟩;obtain⟨o,e,d⟩:=T.obj _ _ U b h;exact(R.pin (b,o) (cw _ (cw _ (Zx h e)))).2.1
  cases b with| false=>
    rw[if_neg bu]at q7;obtain⟨m',hm,w7⟩:=hN _ _ q7;rw[if_neg bu];obtain⟨t7,n7⟩:=a2 I7;exact⟨m',hm,i+1,H7,t,k,Kj B S f2 I7.unpinned,t7,n7,rv,w7⟩| true=>
    rw[if_pos rfl]at q7;rw[if_pos rfl];refine de (he _ _ _ _ _ s7 aw H7 _ (I7.wish _) q7) (λy Z h8=>?_) λ_ _ z=>z;obtain⟨z,H8,R,r8,bn⟩:=h8;have R:=R.unwish;obtain⟨m',hm,w8⟩:=hN _ _ bn;obtain⟨t8,n8⟩:=a2 R;have p8:=R.pin (f.heap.objs.size,Jo t) (cw _ (ef _ bv));have bB:t.length<=sizeLine:=by rw[<-rv.length];exact hl
    refine append_at p8.1 λh9 ba bt=>?_;have bd:=bt.trans (congrArg some (Db t y));refine⟨m',hm,i+1,H8,t++[y],k++[z],?_,T.keep _ _ _ t8 λb h o e=>(ba.2 b (λq=>?_)).trans e,n8,yo.append rv (.cons r8 .nil),w8⟩;have J0:Inv K [] (bY own.length cap σ) H8 Z:=(Kj B S f2 R).pins_of λp M=>by cases M
    have J1:Inv K [] (bY own.length cap σ) H8 {Z with heap:=h9,toks:=Z.toks}:=J0.turned (λb o h e=>(ba.2 b h).trans e) p8.2.1 p8.2.2.1 (.inr (ae _)) (λx c e q=>by
     obtain⟨v,hv⟩:=B.cell x c (S.look B.ok e);exact absurd (cf hv.lt (by rw[q];exact ae _)) (cp _)) (λp M=>by
     have:p∈[]:=by simpa[K,vi]using M
     cases this)
    exact J1.pins_of λp M=>by
     have e:p=(f.heap.objs.size,Jo (t++[y])):=by simpa using M
     subst e;exact⟨bd,p8.2.1,p8.2.2.1,p8.2.2.2.1,λv z=>by cases z⟩
    exact absurd (ag b h) (by rw[q];exact cp _)
 exact codeAny_compStart_list (P _ rfl) (T.self _ 0 _ _ _ a8 (P _ rfl))
theorem qf(F:X.calm=true)(S:aW X own cap scope)(B:PI X tg bX wi)(E:∀C fp s₂ H₂,PG (vi X own cap scope C fp s₂ H₂) tg g) (y:∀C fp s₂ H₂,l6 (vi X own cap scope C fp s₂ H₂) fM tc) (he:∀C fp s₂ H₂,PE (vi X own cap scope C fp s₂ H₂) fT te)
  (z:∀x,foldedSetIterable bX X.env x=pure x:=by intro _;rfl):PE X (.ListComp fT [⟨tg,bX,fM,0⟩] scope aE) (wF wi g tc te own.length cap):=by intro b s r H Q I h;rw[eval_ListComp];refine wpAny_comprehension_free rfl z (Yk (S.has I.ok)) S.kind S.names (aG (B b s r H _ I h) λv Z M=>aG M λw U L=>?_);obtain⟨it,fp,R,J,H2,e,o,T,c,l,W,⟨m0,t⟩,a⟩:=L;subst e;refine uT (Zw:=λ_ _ _ _ _ _ _ _ _ _=>False) F S E y he o T c l t a (λ_ _ _ _ h=>h.elim) λD C cH p H' s' P N n K G i j k A u q=>?_;obtain⟨m,f,_⟩:=id n.loc;exact⟨m,f,λh' d=>⟨.ref D,_,uH o l n d K G i j k A u,rfl,q D k⟩⟩
def yE(i:Nat)(te:TE):TS:=λD σ H=>te σ H λx H1=>D.nx (σ.set i (some x)) H1
theorem rT{y:Str}{Q d:Pos}(hc:X.calm=true)(S:aW X own cap scope)(hi:PI X tg bX wi)(hg:∀C fp s₂ H₂,PG (vi X own cap scope C fp s₂ H₂) tg g) (ht:∀C fp s₂ H₂,l6 (vi X own cap scope C fp s₂ H₂) fM tc) (he:∀C fp s₂ H₂,PE (vi X own cap scope C fp s₂ H₂) fT te)
  (hN:X.N.Nodup) (hy:X.N[i]?=some y) (U:X.env.scope.names.lookup y=some .local)
  (w:swapsWith (.ListComp fT [⟨tg,bX,fM,0⟩] scope aE) (some (.Name y Q)) d.line X.env=pure true)
  (hs:∀x,foldedSetIterable bX X.env x=pure x:=by intro _;rfl):PS X (.Assign [.Name y Q] (.ListComp fT [⟨tg,bX,fM,0⟩] scope aE) d) (yE i (wF wi g tc te own.length cap)):=by
 intro l s P H D I h;rw[exec_Assign_Name_used _ _ _ _ w];refine a4 (wpAny_standAt (a4 ?_));refine a4 (de (wpAny_comprehension_free rfl hs (Yk (S.has I.ok)) S.kind S.names (aG (hi l s P H _ I h) λv s1 h1=>aG h1 λah s2 h2=>?_)) (λ_ s' hq=>a9 (a9 hq)) λ_ _ e=>e)
 obtain⟨it,fp,tn,J,H2,e,f,T,r,Z,W,⟨m0,w0⟩,k⟩:=h2;subst e;refine uT (Zw:=λ_ _ _ _ _ _ _ _ _ _=>False) hc S hg ht he f T r Z w0 k (λ_ _ _ _ h=>h.elim) λL C cH ag H' s' us ys N j hD n K R E rv q=>?_;obtain⟨m,B,_⟩:=id N.loc;have I3:=uH f Z N ⟨rfl,λ_ _=>rfl⟩ j hD n K R E rv;refine wpAny_assign_Name (Ju I3 hN hy (.inl U) (v:=.ref L) rfl (λs5 I5 F=>?_) (.inr U));have M:(upd H' L (.lst ys)) C=none:=by rw[upd_ne (aj n)];exact N.free
 have t:∀a,(a=X.env.locals\/X.env.cells.lookup y=some a)->C≠a:=λa G z=>by rcases G with e|e;exact absurd (cf f.lt (by rw[<-e,<-z];exact j)) (cp _);obtain⟨v,u⟩:=f.cell y a e;exact absurd (cf u.lt (by rw[<-z];exact j)) (cp _)
 obtain⟨a,sb,G⟩:=F;refine⟨m,B.sameBut sb (t a G),λh6 A=>?_⟩;refine⟨P.set i (some (.ref L)),_,?_,q L R⟩;refine I5.turned (λb o hb e=>(A.2 b hb).trans e) M ?_ (.inr (cj f.sz j)) (λx c e z=>?_) λp hp z=>?_;exact λz=>absurd (cf f.lt (by rw[<-z];exact j)) (cp _);obtain⟨v,u⟩:=f.cell x c e;exact absurd (cf u.lt (by rw[z];exact j)) (cp _);exact absurd (cf (au (f.pin p hp).1) (by rw[z];exact j)) (cp _)
end
section
inductive iS(K:W.Frag)(xs:List V)(H:Hp)(Q:VK):Prop|mk:∀x n t b,xs=[x,.ty n]->cS K H x t->W.kitOne K t (.type n)=some b->Q (.bl b) H->iS K xs H Q
theorem BR:qx X (.builtin "isinstance") (iS X.K):=by intro a s i H j k Q I r h;obtain⟨x,n,t,b,rfl,c,e,q⟩:=h;obtain⟨u,l,rfl,g,f⟩:=zI r;cases(f);exact C5 I g c e λd=>⟨.bl b,H,I.tok d,J,q⟩
theorem Bk(g:X.A.units<cLine):dA X (compareOp .NotEq) (λx y H Q=>∃a b xs,x=.ref a/\y=.ref b/\aJ X.K H a xs/\aJ X.K H b []/\Q (.bl (!xs.isEmpty)) H):=by intro d s p H x y v u Q I k j h;obtain⟨a,b,xs,rfl,rfl,o,n,q⟩:=h;cases k;cases j;obtain⟨D,c,f,w⟩:=I.list o;obtain⟨C,l,e,t⟩:=I.list n;cases l;cases xs with| nil=>cases c;exact SeqAt.RcNeAt.lists (e:=λ_=>true) f.isList e.isList J g (λi m=>absurd m (fc i)) X.prog X.w _ _ ⟨.bl false,H,I,J,q⟩| cons z r=>cases c with| cons B A=>exact SeqAt.RcNeAt.lists_lengths f.isList e.isList (by simp) g X.prog X.w _ _ ⟨.bl true,H,I,J,q⟩
theorem je(B:X.calm=true):qx X (.builtin "all") (λxs H Q=>∃(a:Addr)(bs:List Bool),xs=[.ref a]/\aJ X.K H a (bs.map V.bl)/\Q (.bl (bs.all id)) H):=by
 intro m s E H xs F Q I r h;obtain⟨a,bs,rfl,n,q⟩:=h;obtain⟨u,rfl,t⟩:=qt r;cases t;obtain⟨c,j,p,L⟩:=I.list n;have k:a<s.heap.objs.size:=by obtain⟨_,e,_⟩:=p.isList;exact au e
 have l:=j.length;rw[ai]at l;refine call_all_walk (wpAny_pyIter_list p.isList ?_);refine⟨s.heap.objs.size,_,_,_,_,_,λi=>(bs[i]?).getD false,J,Walks.list (A:=X.A.in1) (I.ok.hd B) s.heap.objs.size a (az k) c.toArray,⟨⟨_,bf _ J,J,J⟩,p.isList.push _⟩,?_,λM G hk=>?_⟩;intro i v K N P g f;have g:c[i]?=some v:=by simpa using g
 cases e:bs[i]? with| none=>have:=List.getElem?_eq_none_iff.mp e;have D:c[i]?=none:=List.getElem?_eq_none_iff.mpr (by omega);rw[D]at g;cases g| some b=>obtain⟨u,A,w⟩:=j.get (by rw[bc,e];rfl);rw[A]at g;cases g;cases(w);dsimp only at f;rw[e]at f;exact a9 f
 have e:((List.range c.toArray.size).all λi=>(bs[i]?).getD false)=bs.all id:=by rw[cq,<-l];clear q n j l;rw[Bool.eq_iff_iff,df,df];constructor;intro h x y;obtain⟨i,d,rfl⟩:=List.mem_iff_getElem.mp y;have:=h i (bp.mpr d);simpa[d]using this;intro h i d;have d:=bp.mp d;have:=h (bs[i]) (List.getElem_mem d);simpa[d]using this
 rw[e];refine⟨.bl (bs.all id),H,I.kept λb o e=>hk b o (λC=>?_) (aq _ e),J,q⟩;have z:b=s.heap.objs.size:=by simpa using C
 exact absurd (au e) (by rw[z];exact cp _)
theorem Kl(Z:X.calm=true):qx X (.builtin "sum") (λxs H Q=>∃(a:Y)(ns:O Int),xs=[.ref a]/\aJ X.K H a (ns.map V.int)/\(∀n∈ns,0<=n)/\ns.sum<2^63/\Q (.int ns.sum) H):=by
 intro E s σ H xs us Q I r h;obtain⟨a,ns,rfl,U,C,h1,q⟩:=h;obtain⟨u,rfl,P⟩:=qt r;cases P;obtain⟨c,D,p,hz⟩:=I.list U;have f:a<s.heap.objs.size:=by obtain⟨_,e,_⟩:=p.isList;exact au e
 have G:=D.length;rw[ai]at G;have w:∀k,k<=ns.length->preSum (λi=>(ns[i]?).getD 0) k=(ns.take k).sum:=by intro k;induction k with|zero=>intro _;rfl| succ k x=>intro hk;have this:ns[k]?=some ns[k]:=bi (by omega);rw[preSum,x (by omega),cy,this,List.sum_append];simp
 have F:∀(l:O Int),(∀n∈l,0<=n)->0<=l.sum:=by intro l;induction l with|nil=>intro _;exact di _| cons a r x=>intro h;have h1:=h a bv;have h2:=x λn d=>h n (br _ d);rw[List.sum_cons];omega
 have M:∀k,(ns.take k).sum<=ns.sum:=by
  intro k;have e:ns.sum=(ns.take k).sum+(ns.drop k).sum:=by rw[<-List.sum_append,List.take_append_drop]
  have:=F (ns.drop k) λn d=>C n (List.mem_of_mem_drop d);omega
 refine call_sum_walk (wpAny_pyIter_list p.isList ?_);refine⟨s.heap.objs.size,_,_,_,_,_,λi=>(ns[i]?).getD 0,J,Walks.list (A:=X.A.in1) (I.ok.hd Z) s.heap.objs.size a (az f) c.toArray,⟨⟨_,bf _ J,J,J⟩,p.isList.push _⟩,?_,?_,?_,λh' L N hk=>?_⟩;intro b B;rw[dy];rcases ak.mp B with z|z;rw[z];exact dz _;have z:b=a:=by simpa using z
 rw[z];exact Nat.lt_succ_of_lt f;intro i v m;have m:c[i]?=some v:=by simpa using m
 have K:i<ns.length:=by have:=(c9.mp m).1;omega
 obtain⟨u,S,R⟩:=D.get (by rw[bc,bi K];rfl);rw[S]at m;cases m;obtain⟨t,rfl⟩:=(R)
 exact⟨t,by dsimp only;rw[bi K];rfl⟩;intro j g;rw[cq]at g;have g:j<ns.length:=by omega
 have W:=List.getElem_mem g;have A:=w (j+1) (by omega);have y:=w j (by omega);have h3:=M (j+1);have h5:=F (ns.take j) λn d=>C n (List.mem_of_mem_take d);have h6:=C _ W;rw[preSum,y,bi g]at A;have A:(ns.take j).sum+ns[j]=(ns.take (j+1)).sum:=A;refine⟨?_,?_⟩;dsimp only;rw[bi g];unfold InLong;omega;rw[w (j+1) (by omega)];unfold InLong;omega;have e:preSum (λi=>(ns[i]?).getD 0) c.toArray.size=ns.sum:=by rw[cq,<-G,w _ (ae _),fe]
 rw[e];refine⟨.int ns.sum,H,I.kept λb o e=>hk b o (λB=>?_) (aq _ e),⟨N,J⟩,q⟩;have z:b=s.heap.objs.size:=by simpa using B
 exact absurd (au e) (by rw[z];exact cp _)
end
section
theorem D9{t:Y}{v:I}(a:s.heap.IsTupleIter it t i)(e:s.heap.IsTuple t its)(d:its[i]?=some v)(k:∀g,g.IsTupleIter it t (i+1)->Heap.SameBut it s.heap g->Q v {s with heap:=g}):wpAny (model prog w) A (Builtin.SmallTypes.nextOf (.ref it)) Q E s:=by obtain⟨o,c,h,b⟩:=id a;obtain⟨l,f,_,m,j⟩:=e;unfold Builtin.SmallTypes.nextOf;refine a4 (wpAny_callSpecial?_slot a.typeIs PySem.F.slot_tuple_iterator_next (cg PySem.F.slot_tuple_iterator_next a.typeIs PySem.F.entry_tuple_iterator_next ?_ (PySem.F.args_tuple_iterator_next_1 _)));show wpAny _ _ (field (.ref it) 0>>=_) _ _ s;refine a4 (wpAny_field c b J ?_);rw[if_neg (λz=>by grind)];refine a4 (wpAny_field c b J ?_);refine a4 (wpAny_seqItems f j ?_);simp only[bz,d];refine a4 (wpAny_setField c b (by simp) (a9 ⟨v,J,a9 (k _ ⟨_,Heap.get?_update_self _ c (Obj.isFreed_of_fields (Obj.data_mapFields b _)),(Obj.cls_mapFields ..).trans h,?_⟩ (Heap.SameBut.update ..))⟩));rw[Obj.data_mapFields b];rfl
theorem Jn{t:Y}(d:A.handled=none)(a:s.heap.IsTupleIter it t i)(f:s.heap.IsTuple t its)(e:its[i]?=none)(k:∀g x,Heap.ExtBut it s.heap g->(∃o,g.get? x=some o/\o.cls=.type "StopIteration")->E (.ref x) {s with heap:=g}):wpAny (model prog w) A (Builtin.SmallTypes.nextOf (.ref it)) Q E s:=by
 obtain⟨o,c,n,b⟩:=id a;obtain⟨l,h,_,m,j⟩:=f;unfold Builtin.SmallTypes.nextOf;refine a4 (wpAny_callSpecial?_slot a.typeIs PySem.F.slot_tuple_iterator_next (cg PySem.F.slot_tuple_iterator_next a.typeIs PySem.F.entry_tuple_iterator_next ?_ (PySem.F.args_tuple_iterator_next_1 _)));show wpAny _ _ (field (.ref it) 0>>=_) _ _ s;refine a4 (wpAny_field c b J ?_);rw[if_neg (λz=>by grind)];refine a4 (wpAny_field c b J ?_);refine a4 (wpAny_seqItems h j ?_);simp only[bz,e];refine a4 (wpAny_rule (a4 (wpAny_setField c b (by simp) ?_)));refine a4 ?_;simp only[newExc,newTuple];refine a4 (cx ?_ (by size_fits));refine a4 (wpAny_of_eq (by rfl) ?_);refine cx ?_ (by size_fits);simp only[raiseNew];refine a4 (wpAny_handled ?_);first|rw[(d)]|rw[d]
 exact a4 (a9 (wpAny_throw (k _ _ (((Heap.SameBut.update ..).extBut.push _).push _) ⟨_,bf _ J,J⟩)))
theorem D5{e t:Y}{v:I}{Q:Option I->Shared->Prop}(he:IsEnum s.heap e it i dQ)(W:s.heap.IsTupleIter it t i)(ht:s.heap.IsTuple t its)(hv:its[i]?=some v)(m:e≠it)(k:∀g,IsEnumOut g e it ((i:Int)+1) v s.heap.objs.size->g.IsTupleIter it t (i+1)->g.get? s.heap.objs.size=some {cls:=.type "tuple",data:=.seq #[.int i s.toks,v]}->g.objs.size=s.heap.objs.size+1-> (∀b o,b≠e->b≠it->s.heap.get? b=some o->g.get? b=some o)->Q (some (.ref s.heap.objs.size)) {s with heap:=g,toks:=s.toks+1}):wpAny (model prog w) A (pyNext (.ref e)) Q E s:=by
 have Z:s.TypeIs (.ref e) "enumerate":=⟨_,he,J⟩
 unfold pyNext;refine a4 (wpAny_attempt (wpAny_callSpecial?_slot Z PySem.F.slot_enumerate_next (cg PySem.F.slot_enumerate_next Z PySem.F.entry_enumerate_next ?_ (PySem.F.args_enumerate_next_1 _))));obtain⟨M,gs,d,L,os⟩:=s;show wpAny _ _ (field (.ref e) 2>>=_) _ _ _;refine a4 (wpAny_field he J J ?_);refine a4 (D9 W ht hv λg1 z l=>?_);replace l:=l;have y:=(l.2 e m).trans he;refine a4 (wpAny_field y J J ?_);refine a4 (wpAny_field y J J ?_);refine a4 (wpAny_mkInt ?_);refine a4 (wpAny_setField_rec y (by simp) λg2 x j=>?_);replace j:=j;replace x:=x;refine a4 (wpAny_setField_rec x (by simp) λN u h=>?_);replace h:=h;replace u:=u;refine a4 (wpAny_newTuple ?_);have q:IsEnum (N.push {cls:=.type "tuple",data:=.seq #[.int i L,v]}) e it (i+1) dQ:=aq _ u;generalize n:N.push {cls:=.type "tuple",data:=.seq #[.int i L,v]}=K at q;have p:N.objs.size=M.objs.size:=by rw[h.1,j.1,l.1]
 have C:=au he;have S:K.get? M.objs.size=some {cls:=.type "tuple",data:=.seq #[.int i L,v]}:=by rw[<-n,<-p];exact bf _ J
 have R:K.objs.size=M.objs.size+1:=by rw[<-n,dy,p]
 have U:∀b o,b≠e->b≠it->M.get? b=some o->K.get? b=some o:=λb o B P X=>by rw[<-n];exact aq _ (h.extBut b o B (j.extBut b o B (l.extBut b o P X)))
 have H:K.IsTupleIter it t (i+1):=by rw[<-n];obtain⟨o,ho,r⟩:=(z.extBut j.extBut (aj m)).extBut h.extBut (aj m);exact⟨o,aq _ ho,r⟩
 show wpAny _ _ (Builtin.SmallTypes.ownedTupleIsFree (.ref e)>>=_) _ _ ⟨K,gs,d,L+1,os⟩;rw[p];clear n u h x j y l z p N g2 g1;refine a4 ?_;unfold Builtin.SmallTypes.ownedTupleIsFree;refine a4 (wpAny_field q J J (a9 ?_));simp only[if_true];refine a4 (wpAny_rule (a4 (wpAny_field q J J (a4 (wpAny_setField_rec q (by simp) λg5 G f=>?_)))));replace f:=f;replace G:=G;refine a4 ?_;unfold Builtin.SmallTypes.ownedTupleHandOut;refine a4 (wpAny_setField_rec G (by simp) λg6 F c=>?_);replace c:=c;replace F:=F;refine wpAny_setField_rec F (by simp) λg7 D a=>?_;replace a:=a;replace D:=D;refine a4 (wpAny_letGo (a9 ⟨_,J,a9 (k g7 D ?_ ?_ ?_ ?_)⟩));exact((H.extBut f.extBut (aj m)).extBut c.extBut (aj m)).extBut a.extBut (aj m);exact a.extBut _ _ (dl C) (c.extBut _ _ (dl C) (f.extBut _ _ (dl C) S));rw[a.1,c.1,f.1,R];exact λb o B P X=>a.extBut b o B (c.extBut b o B (f.extBut b o B (U b o B P X)))
theorem CT{e t:Y}{Q:Option I->Shared->Prop}(j:A.handled=none)(he:IsEnum s.heap e it i dQ)(a:s.heap.IsTupleIter it t i)(f:s.heap.IsTuple t its)(d:its[i]?=none)(k:∀g,Heap.ExtBut it s.heap g->Q none {s with heap:=g}):wpAny (model prog w) A (pyNext (.ref e)) Q E s:=by
 have b:s.TypeIs (.ref e) "enumerate":=⟨_,he,J⟩
 unfold pyNext;refine a4 (wpAny_attempt (wpAny_callSpecial?_slot b PySem.F.slot_enumerate_next (cg PySem.F.slot_enumerate_next b PySem.F.entry_enumerate_next ?_ (PySem.F.args_enumerate_next_1 _))));show wpAny _ _ (field (.ref e) 2>>=_) _ _ _;refine a4 (wpAny_field he J J ?_);refine a4 (Jn j a f d λg x c ⟨o,h,l⟩=>?_);exact a4 (dk ⟨o,h,l⟩ isSubtype_stop (a9 (k _ c)))
theorem B8(t:Y)(its:Array I)(n:Nat)(e:Option Y)(k:Array (Option I)):
  Meets (Builtin.«enumerate.__new__» ⟨[.type "enumerate",.ref t],[]⟩) (λ_ R s=>s.heap.get? t=some {cls:=.type "tuple",dict:=e,data:=.seq its n,slots:=k}/\ R (.ok (.ret (.ref (s.heap.push {cls:=.type "tuple_iterator",data:=.fields #[.ref t,.int 0 0]}).objs.size)))
     {s with heap:=(s.heap.push {cls:=.type "tuple_iterator",data:=.fields #[.ref t,.int 0 0]}).push {cls:=.type "enumerate",data:=.fields #[.none,.bool false,.ref s.heap.objs.size,rawInt 0,.none,.none]}}):=
 .of_wp λf w A R s h=>by
  obtain⟨l,g,d,j,os⟩:=s;obtain⟨a,h⟩:=h;have i:=sub_enumerate;have b:Heap.IsTuple (Shared.heap ⟨l,g,d,j,os⟩) t its:=⟨_,a,J,n,J⟩
  wp_walk using AutoSeq1.wpAny_loadPart' a
  refine wpAny_stack_any λst=>a9 ?_;split
  rename_i c _ _ _ _ _
  cases(c==Value.type "enumerate")
  wp_walk using AutoSeq1.wpAny_loadPart' a,wpAny_pyIter_tuple b
  exact⟨_,J,h⟩
  wp_walk using AutoSeq1.wpAny_loadPart' a,wpAny_pyIter_tuple b
  exact⟨_,J,h⟩
  wp_walk using AutoSeq1.wpAny_loadPart' a,wpAny_pyIter_tuple b
  exact⟨_,J,h⟩
theorem DZ{t:Y}(m:s.heap.IsTuple t its)(k:∀g,IsEnum g (s.heap.objs.size+1) s.heap.objs.size 0 .none->g.IsTupleIter s.heap.objs.size t 0->g.objs.size=s.heap.objs.size+2->(∀b o,s.heap.get? b=some o->g.get? b=some o)->Q (.ref (s.heap.objs.size+1)) {s with heap:=g}):
  wpAny (model prog w) A (call (.type "enumerate") [.ref t]) Q E s:=by
 obtain⟨⟨c,h,r,l⟩,p,f,n,d⟩:=m;replace f:=f;replace d:=d;subst f d;refine callType_new PySem.F.called_enumerate (by rfl) (PySem.F.typeCall_enumerate_1 _) (PySem.F.newCall_enumerate_1 _) (λa=>PySem.F.args_object_init_2 a _) PySem.F.entry_enumerate_new (B8 t its n h l) ⟨p,?_⟩;have i:(s.heap.push {cls:=.type "tuple_iterator",data:=.fields #[.ref t,.int 0 0]}).objs.size=s.heap.objs.size+1:=dy ..;rw[i];have j:IsEnum ((s.heap.push {cls:=.type "tuple_iterator",data:=.fields #[.ref t,.int 0 0]}).push {cls:=.type "enumerate",data:=.fields #[.none,.bool false,.ref s.heap.objs.size,rawInt 0,.none,.none]}) (s.heap.objs.size+1) s.heap.objs.size 0 .none:=by
  have q:=bf (s.heap.push {cls:=.type "tuple_iterator",data:=.fields #[.ref t,.int 0 0]}) (o:={cls:=.type "enumerate",data:=.fields #[.none,.bool false,.ref s.heap.objs.size,rawInt 0,.none,.none]}) J
  grind
 refine⟨⟨_,j,J⟩,k _ j ⟨_,aq _ (bf _ J),J,J⟩ (by rw[dy,i]) λb o e=>aq _ (aq _ e)⟩
end
noncomputable def qX(K:W.Frag)(a:Addr):It:=⟨λi H=>∃xs x,aH K H a xs/\xs[i]?=some x,λi H x H'=>∃p y,x=.ref p/\H p=none/\H'=upd H p (.tup [.int i,y])/\∀xs,aH K H a xs->xs[i]?=some y,λi H=>∃xs,aH K H a xs/\xs.length<=i⟩
theorem DT{K:W.Frag}{k1}(a e f:Y)(L:e≠f)(l:sizeLine≥2):dJ P w K (.Tuple eW k1 aE) (qX K a) [e,f] e (λi h=>(∃dQ,IsEnum h e f i dQ)/\h.IsTupleIter f a i) where
 mem:=by simp
 obj:=λi h st b l=>by
  obtain⟨⟨dQ,A⟩,D⟩:=st;rcases ak.mp l with z|z
  simp_all
  have z:b=f:=by simp_all
  rw[z];obtain⟨o,F,c,d⟩:=D
  simp_all
 keep:=λi h h' st k=>by obtain⟨⟨dQ,A⟩,o,F,r⟩:=st;exact⟨⟨dQ,k e (by simp) _ A⟩,o,k f (by simp) o F,r⟩
 item:=by
  intro X hP hw hK hc i B s σ H E I Q st hg;subst hP hw hK;obtain⟨xs,x,G,hx⟩:=hg;obtain⟨Z,S,p,hz⟩:=I.tuple G;obtain⟨u,hu,ru⟩:=S.get hx;obtain⟨⟨dQ,A⟩,D⟩:=st;obtain⟨f0,f1,f2,f3,f4,f5⟩:=Q e (by simp);obtain⟨g0,g1,g2,g3,g4,g5⟩:=Q f (by simp);refine D5 A D (p) (by simpa using hu) L λg ho ah hT aw hk=>?_;refine⟨.ref s.heap.objs.size,J,wpAny_letOwnedTupleGo_enum ho λg' ay C=>?_⟩;have M:=dl (au A);have ao:s.heap.objs.size≠f:=by obtain⟨o,F,_⟩:=D;exact dl (au F)
  have y:=λb o N U z=>(C.2 b N).trans (hk b o N U z);have ap:=(C.2 _ M).trans hT;have j:=I.hok.fresh (ae _);have av:∀b o,H b=some o->b≠e/\b≠f:=λb o z=>⟨(λq=>by simp_all),(λq=>by simp_all)⟩
  have I1:Inv X B σ (upd H s.heap.objs.size (.tup [.int i,x])) {s with heap:=g',toks:=s.toks+1}:=by
   refine I.step (ch:=[e,f]) (λb l=>?_) (λb o N U t z _=>y b o (λq=>t (by grind)) (λq=>t (by grind)) z)
    (λb o N U t z _=>⟨o.slots,y b o (λq=>t (by grind)) (λq=>t (by grind)) z⟩) (λb o t z n=>?_) (λb o t z=>⟨o,y b o (λq=>t (by grind)) (λq=>t (by grind)) z⟩)
    (λb R z=>by rw[upd_ne (zj z j)];exact z) (λb o R z=>by rw[upd_ne (zj z j)];exact z) (λb ps z=>⟨#[],by rw[upd_ne (zj z j),z];simp⟩) (λm hm=>?_) (λb ob z=>?_) I.bare
   grind
   rw[upd_ne (az (au z))];exact n;obtain⟨o,es,ep,ag,r⟩:=hm;exact⟨o,es,ep,y _ o (aj f1) (aj g1) ag,r⟩;by_cases l:b=s.heap.objs.size;subst l;rw[ze]at z;cases z;exact⟨by omega,[.int i s.toks,u],.cons ⟨_,J⟩ (.cons ru .nil),⟨_,ap,J,_,J⟩,λq G=>by simp_all⟩
   rw[upd_ne l]at z;refine(I.hok b ob z).stay (λc v hc q=>?_) (λc q=>by rw[upd_ne (zj q j)];exact q) λc R q=>by rw[upd_ne (zj q j)];exact q
   grind
  refine⟨.ref s.heap.objs.size,_,I1,J,⟨_,x,J,j,J,λR hy=>by rw[I.tuple_inj hy G];omega⟩,⟨⟨u,by grind⟩,?_⟩,λb l=>?_⟩;obtain⟨o,F,r⟩:=ah;exact⟨o,(C.2 f (aj L)).trans F,r⟩;rcases ak.mp l with q|q;rw[q,upd_ne (aj M)];omega;have q:b=f:=by simp_all
  rw[q,upd_ne (aj ao)];omega
 done:=by intro X hP hw hK hc i B s σ H E I Q st hg;subst hP hw hK;obtain⟨xs,G,hx⟩:=hg;obtain⟨Z,S,p,hz⟩:=I.tuple G;obtain⟨⟨dQ,A⟩,D⟩:=st;obtain⟨g0,g1,g2,g3,g4,g5⟩:=Q f (by simp);have hl:=S.length;exact CT (I.ok.hd hc) A D (p) (by simp_all) λg eb=>⟨J,I.turned (λb o l z=>eb b o l z) g0 g1 g3 g4 g5⟩
 self:=λ_ _ _ _ _ st h=>by obtain⟨⟨dQ,A⟩,_⟩:=st;exact wpAny_pyIter_enum A h
section
inductive hV(K:W.Frag)(R:It->Hp->Prop)(vs:List V)(H1:Hp):Prop|mk:∀a xs,vs=[.ref a]->aH K H1 a xs->R (qX K a) H1->hV K R vs H1
def yM(K:W.Frag)(ta:TA):TI:=λσ H R=>ta σ H λvs H1=>hV K R vs H1
theorem pW{o}{E:Pos}{a:Expr}{p:Pos}(B:Gl X "enumerate")(y:X.mg "enumerate"=none)(D:PA X [a] ta)(w:starEach [a] X.env=[(false,eval a X.env)]:=by rfl):PI X (.Tuple eW o E) (.Call (.Name "enumerate" p) [a] [] aE) (yM X.K ta):=by
 intro f s j H R I h;refine Call_ (Xf I B y boot_enumerate (PyProof.Rows.callWith_type1 (aG (D aE f s j H _ I h) λL c ⟨K,F,d,l,m⟩=>?_) w J));obtain⟨t,G,e,x,q⟩:=m;subst e;obtain⟨u,rfl,k⟩:=qt l;cases k;obtain⟨r,M,n,N⟩:=d.tuple x;refine DZ (n) λg i A v hk=>?_;refine wpAny_pyIter_enum i ?_;refine⟨c.heap.objs.size+1,[c.heap.objs.size+1,c.heap.objs.size],_,_,F,J,d.kept hk,DT t (c.heap.objs.size+1) c.heap.objs.size (Nat.succ_ne_self _) (by rw[sizeLine_eq];omega),⟨⟨_,i⟩,A⟩,λb C=>?_,q⟩;rcases ak.mp C with z|z;rw[z];exact d.fpOk (Nat.le_succ _) (d.hok.fresh (Nat.le_succ _));have z:b=c.heap.objs.size:=by simp_all
 rw[z];exact d.fpOk (ae _) (d.hok.fresh (ae _))
end
theorem Q5{K:W.Frag}(Pv:Nat->St->Hp->Prop)(l:Pv 0 σ H)(h:∀i σ H,i<=xs.length->Pv i σ H->aH K H a xs)(s:∀i x σ H p,xs[i]?=some x->Pv i σ H->H p=none->g (.ref p) σ (upd H p (.tup [.int i,x])) λb H2=>tb (D.lp (Pv (i+1))) b H2) (k:∀σ H,Pv xs.length σ H->D.nx σ H):
  cA g tb D σ (qX K a) H:=by
 refine⟨λi m σ H=>m=xs.length-i/\i<=xs.length/\Pv i σ H,⟨xs.length,by simp,bo _,l⟩,?_⟩;rintro i m σ H ⟨rfl,j,p⟩;have q:=h i σ H j p;by_cases c:i<xs.length;refine .inr ⟨⟨xs,xs[i],q,by simp⟩,Pv (i+1),λf n d=>⟨xs.length-(i+1),by omega,J,c,d⟩,λx n y=>?_⟩;obtain⟨d,o,rfl,t,rfl,r⟩:=y
 grind
 have e:i=xs.length:=by omega
 subst e;exact .inl ⟨⟨xs,q,ae _⟩,k σ H p⟩
noncomputable def qY(lo:Int)(n:Nat):It:=⟨λi _=>i<n,λi H x H'=>H'=H/\x=.int (lo-i),λi _=>n<=i⟩
theorem DS{K:W.Frag}(c:Y)(lo:Int)(n:Nat):dJ P w K tg (qY lo n) [c] c (λi h=>IsRangeIter h c (lo+(i:Nat)*(-1)) ((n:Int)-(i:Nat)) (-1)) where
 mem:=by simp
 obj:=λi h st b f=>by simp_all
 keep:=λi h r st k=>k c (by simp) _ st
 item:=by
  intro X p j q m i a s A H E I g st l;subst p j q;obtain⟨f0,z,F,y,x,u⟩:=g c (by simp);refine(Walks.range (I.ok.hd m) c lo (-1) n).item i s _ _ l st λv r B D d C=>?_;obtain⟨t,rfl⟩:=D;have L:Inv X a A H {s with heap:=r,toks:=B}:=I.turned (λb o f e=>C b o (by simp_all) e) f0 z y x u;refine⟨_,J,Kh d J J (by rfl) ⟨.int (lo-i),H,L,⟨t,?_⟩,⟨J,J⟩,d,λb f=>(g b f).1⟩⟩
  grind
 done:=by intro X p j q m i a s A H E I g st l;subst p j q;obtain⟨f0,z,F,y,x,u⟩:=g c (by simp);exact wpAny_pyNext_range_end (I.ok.hd m) st (by have:n<=i:=l;omega) λr G=>⟨J,I.turned (λb o f e=>G b o f e) f0 z y x u⟩
 self:=λ_ _ _ _ _ st h=>wpAny_pyIter_rangeiter st h
section
inductive hW(R:It->Hp->Prop)(vs:List V)(H1:Hp):Prop|mk:∀n:Nat,vs=[.int ((n:Int)-1),.int (-1),.int (-1)]->(n:Int)<2^62->R (qY ((n:Int)-1) n) H1->hW R vs H1
def yL(ta:TA):TI:=λσ H R=>ta σ H λvs H1=>hW R vs H1
theorem Bv {a b c:Expr} {p:Pos} (D:Gl X "range") (C:X.mg "range"=none) (F:PA X [a,b,c] ta) (B:starEach [a,b,c] X.env=[(false,eval a X.env),(false,eval b X.env),(false,eval c X.env)]:=by rfl)
  (g:starEach [b,c] X.env=[(false,eval b X.env),(false,eval c X.env)]:=by rfl):
  PI X tg (.Call (.Name "range" p) [a,b,c] [] aE) (yL ta):=by
 intro d s m H R I h;refine Call_ (Xf I D C boot_range (PyProof.Rows.callWith_type1 (aG (F aE d s m H _ I h) λN j ⟨M,v,L,y,A⟩=>?_) (by rw[B,g]) (by rw[g];rfl)));obtain⟨n,e,P,q⟩:=A;subst e;cases y with| cons r f=>
   cases f with| cons z f=>
     cases f with| cons k f=>
       cases f;obtain⟨t,rfl⟩:=r;obtain⟨w,rfl⟩:=z;obtain⟨i,rfl⟩:=k;refine call_range_3 (by decide) ?_ (.inl (PyProof.noPylong_small (by omega)));have u:Builtin.Range.rangeSize (n-1) (-1) (-1)=n:=by
        unfold Builtin.Range.rangeSize
        grind
       have x:Builtin.Range.small (n-1) (-1) (-1)=true:=by
        unfold Builtin.Range.small;simp only[u,Builtin.Range.rangeFitsLong,ca,Bool.or_eq_true,decide_eq_true_eq,beq_iff_eq]
        grind
       refine wpAny_pyIter_range (IsRange.new ..) x ?_;rw[u];have l:Inv X d m v {j with heap:=j.heap.push {cls:=.type "range",data:=.fields #[.int (n-1) t,.int (-1) w,.int (-1) i]},toks:=j.toks}:=L.kept λb o e=>aq _ e;refine⟨_,[_],_,_,v,J,l.kept λb o e=>aq _ e,DS _ (n-1) n,?_,λb E=>?_,q⟩;have K:n-1+((0:Nat):Int)*(-1)=n-1:=by omega
       have G:n-((0:Nat):Int)=n:=by omega
       rw[K,G];exact bf _ J;have e:=aa.mp E;rw[e];exact l.fpOk (ae _) (l.hok.fresh (ae _))
end
theorem BU{n:Nat}(Pv:Nat->St->Hp->Prop)(h:Pv 0 σ H)(k:∀i σ H,i<n->Pv i σ H->g (.int (lo-i)) σ H λb H2=>tb (D.lp (Pv (i+1))) b H2) (f:∀σ H,Pv n σ H->D.nx σ H):
  cA g tb D σ (qY lo n) H:=by
 refine⟨λi m σ H=>m=n-i/\i<=n/\Pv i σ H,⟨n,by simp,bo _,h⟩,?_⟩;rintro i m σ H ⟨rfl,l,p⟩;by_cases a:i<n;refine .inr ⟨a,Pv (i+1),λc j d=>⟨n-(i+1),by omega,J,a,d⟩,λx j y=>?_⟩;obtain⟨e,y⟩:=y
 simp_all
 have e:i=n:=by omega
 subst e;exact .inl ⟨ae _,f σ H p⟩
theorem Yx:entryFor table "dict.update.loop"=some Builtin.«dict.update.loop»:=entryFor_of_tree (by kernel_rfl)
theorem qe:plainId "dict.update.loop"=true:=by decide+kernel
theorem Dc:typeLookup (.type "tuple") "keys"=pure none:=am_miss_of_fast (by decide+kernel)
section
set_option maxRecDepth 8000 in
theorem Ku{xs:Array Value}{k:Nat}{u:Tok}(hx:s.heap.get? a=some {cls:=.type "tuple",dict:=none,data:=.seq xs k,slots:=sl})(hA:A.handled=none)
  (h:∀h' tk e,Heap.NewExcOf s.heap h' e "AttributeError"->E (.ref e) {s with heap:=h',toks:=tk}):wpAny (model prog w) A (getAttrBy (.ref a) (.str "keys" u) false) Q E s:=by
 obtain⟨hp,g,d,tk,os⟩:=s;have hT:∀tk',(⟨hp,g,d,tk',os⟩:Shared).TypeIs (.ref a) "tuple":=λ_=>⟨_,hx,rfl⟩
 have f1:=sub_AttributeError;have f3:=PySem.F.slot_tuple_getattribute.lookup;have f4:=PySem.F.slot_tuple_getattribute.bind (.ref a);have f5:=am_tuple_getattr_none;unfold getAttrBy
 repeat(any_goals (first|assumption|exact hT _|((with_reducible show wpAny _ _ (call (Value.builtin "tuple.__getattribute__") _ _) _ _ _);refine call_meets PySem.F.slot_tuple_getattribute (hT _) am_entry_tuple_getattribute (PySem.F.args_tuple_getattribute_2 _ _) (meets_getattribute_miss_tuple a xs k sl "keys" _ Dc (by decide+kernel) (by size_fits)) ⟨hx,hA,λh' tk' e hx'=>?_⟩)|wp_step))
 obtain⟨t',u',he⟩:=hx'.there;show wpAny _ _ (getattributeRaised _ _ _ _ _ _ _) _ _ _;unfold getattributeRaised
 repeat(any_goals (first|assumption|wp_step))
 exact h _ _ _ hx'.of
theorem EH{xs:Array I}{k:Nat}{Q:Option I->Shared->Prop}(d:s.heap.get? a=some {cls:=.type "tuple",dict:=none,data:=.seq xs k,slots:=sl})(i:A.handled=none)
  (h:∀h' tk,(∀b o,s.heap.get? b=some o->h'.get? b=some o)->Q none {s with heap:=h',toks:=tk}):wpAny (model prog w) A (getAttr? (.ref a) "keys") Q E s:=by unfold getAttr? getAttrBy?;refine a4 (wpAny_mkText ?_);refine a4 (wpAny_attempt (Ku d i λh' tk e x=>?_));obtain⟨c,r,f,g,_⟩:=x.there;refine a4 (dk ⟨_,f,g⟩ sub_AttributeError ?_);exact a9 (h _ _ x.keeps)
end
section
end
section
end
section
variable{K:W.Frag}{k:Nat}{Q:VK}
theorem pI(Pv:Nat->O V->Hp->Prop)(s:Pv 0 [] H)(n:∀i ys H,i<=xs.length->Pv i ys H->aH K H a xs/\ys.length<=sizeLine)(v:∀i x ys H,xs[i]?=some x->Pv i ys H->g x (bY k cap σ) H λc H2=>tc c H2 λb h=>if b=true then te c h λy t=>Pv (i+1) (ys++[y]) t else Pv (i+1) ys h)
  (r:∀ys H,Pv xs.length ys H->∀p,H p=none->Q (.ref p) (upd H p (.lst ys))):cV (lY K a) g tc te k cap σ H Q:=by
 refine⟨λi m ys H=>m=xs.length-i/\i<=xs.length/\Pv i ys H,⟨xs.length,by simp,bo _,s⟩,?_⟩;rintro i m ys H ⟨rfl,o,p⟩;obtain⟨q,f⟩:=n i ys H o p;by_cases d:i<xs.length;refine .inr ⟨⟨xs,xs[i],q,by simp⟩,f,Pv (i+1),λj u l=>⟨xs.length-(i+1),by omega,J,d,l⟩,λx u y=>?_⟩;obtain⟨e,y⟩:=y
 grind
 have e:i=xs.length:=by omega
 subst e;exact .inl ⟨⟨xs,q,ae _⟩,f,r ys H p⟩
theorem pQ(Pv:Nat->O V->Hp->Prop)(t:Pv 0 [] H)(o:∀i ys H,i<=xs.length->Pv i ys H->aJ K H a xs/\ys.length<=sizeLine)(n:∀i x ys H,xs[i]?=some x->Pv i ys H->g x (bY k cap σ) H λc H2=>tc c H2 λb h=>if b=true then te c h λy u=>Pv (i+1) (ys++[y]) u else Pv (i+1) ys h)
  (s:∀ys H,Pv xs.length ys H->∀p,H p=none->Q (.ref p) (upd H p (.lst ys))):cV (m8 K a) g tc te k cap σ H Q:=by
 refine⟨λi m ys H=>m=xs.length-i/\i<=xs.length/\Pv i ys H,⟨xs.length,by simp,bo _,t⟩,?_⟩;rintro i m ys H ⟨rfl,r,p⟩;obtain⟨q,f⟩:=o i ys H r p;by_cases d:i<xs.length;refine .inr ⟨⟨xs,xs[i],q,by simp[d]⟩,f,Pv (i+1),λj v l=>⟨xs.length-(i+1),by omega,J,d,l⟩,λx v y=>?_⟩;obtain⟨e,y⟩:=y;subst e;exact n i x ys _ (y xs q) p;have e:i=xs.length:=by omega
 subst e;exact .inl ⟨⟨xs,q,ae _⟩,f,s ys H p⟩
theorem jx{n:Nat}(Pv:Nat->O V->Hp->Prop)(r:Pv 0 [] H)(l:∀i ys H,i<=n->Pv i ys H->ys.length<=sizeLine)(u:∀i ys H,i<n->Pv i ys H->g (.int (lo+i)) (bY k cap σ) H λa H2=>tc a H2 λb f=>if b=true then te a f λy s=>Pv (i+1) (ys++[y]) s else Pv (i+1) ys f)
  (q:∀ys H,Pv n ys H->∀p,H p=none->Q (.ref p) (upd H p (.lst ys))):cV (m7 lo n) g tc te k cap σ H Q:=by
 refine⟨λi m ys H=>m=n-i/\i<=n/\Pv i ys H,⟨n,by simp,bo _,r⟩,?_⟩;rintro i m ys H ⟨rfl,o,p⟩;have d:=l i ys H o p;by_cases c:i<n;refine .inr ⟨c,d,Pv (i+1),λh t j=>⟨n-(i+1),by omega,J,c,j⟩,λx t y=>?_⟩;obtain⟨e,y⟩:=y
 simp_all
 have e:i=n:=by omega
 subst e;exact .inl ⟨ae _,d,q ys H p⟩
end
inductive T where|non|bl (b:Bool)|int (i:Int)|str (x:Str)|tup (ts:List T)|lst (ts:List T)|dct
inductive rc(H:Hp)(f:List V->HO)(L:List V->Prop)(v:V):Prop|mk:∀a xs,v=.ref a->H a=some (f xs)->L xs->rc H f L v
inductive xJ(A:V->Prop)(L:List V->Prop)(xs:List V):Prop|mk:∀v vs,xs=v::vs->A v->L vs->xJ A L xs
mutual
noncomputable def Is(H:Hp):T->V->Prop|.non,v=>v=.non|.bl b,v=>v=.bl b|.int i,v=>v=.int i|.str x,v=>v=.str x|.tup ts,v=>rc H .tup (λxs=>IsL H ts xs) v|.lst ts,v=>rc H .lst (λxs=>IsL H ts xs) v|.dct,v=>∃a,v=.ref a/\H a=some (.dK [])
noncomputable def IsL(H:Hp):List T->List V->Prop|[],xs=>xs=[]|t::ts,xs=>xJ (λv=>Is H t v) (λvs=>IsL H ts vs) xs
end
variable{p:Addr}{es:Array DictEntry}{e:Expr}{kvs:List (aI×V)}{ts:List T}{o:Obj}{v:V}
def ym(H B:Hp):Prop:=∀b xs,H b=some (.tup xs)->B b=some (.tup xs)
theorem Same.tups(s:Same H H'):ym H H':=λb a e=>s b _ e
theorem ym.refl(H:Hp):ym H H:=λ_ _ e=>e
theorem ym.trans{f:Hp}(a:ym H f)(b:ym f H2):ym H H2:=λc d e=>b c d (a c d e)
theorem Same.new(h:H p=none)(o:HO):Same H (upd H p o):=λb u q=>by rw[upd_ne (zj q h)];exact q
theorem ym.upd{H:Hp}{p:Y}{o a:HO}(h:H p=some o)(c:∀xs,o≠ .tup xs):ym H (upd H p a):=λb xs e=>by rw[upd_ne (Ye e h (λz=>c xs z.symm))];exact e
mutual
theorem Is.mono{H H':Hp}(s:Same H H'):∀{t:T}{v:V},Is H t v->Is H' t v|.non,v,h=>h|.bl b,v,h=>h|.int i,v,h=>h|.str x,v,h=>h| .tup ts,v,h=>by obtain⟨a,xs,e,ha,hl⟩:=h;exact⟨a,xs,e,s a _ ha,IsL.mono s hl⟩| .lst ts,v,h=>by obtain⟨a,xs,e,ha,hl⟩:=h;exact⟨a,xs,e,s a _ ha,IsL.mono s hl⟩| .dct,v,h=>by obtain⟨a,e,ha⟩:=h;exact⟨a,e,s a _ ha⟩
theorem IsL.mono{H H':Hp}(s:Same H H'):∀{ts:List T}{xs:List V},IsL H ts xs->IsL H' ts xs|[],xs,h=>h| t::ts,xs,h=>by obtain⟨v,vs,e,h1,h2⟩:=h;exact⟨v,vs,e,Is.mono s h1,IsL.mono s h2⟩
end
mutual
noncomputable def dS:T->Prop|.tup ts=>qj ts|.lst _=>False|.dct=>False|_=>True
noncomputable def qj:List T->Prop|[]=>True|t::ts=>dS t/\qj ts
end
mutual
theorem Is.tups{H H':Hp}(s:ym H H'):∀{t:T}{v:V},dS t->Is H t v->Is H' t v
 |.non,v,_,h=>h
 |.bl b,v,_,h=>h
 |.int i,v,_,h=>h
 |.str x,v,_,h=>h
 | .tup ts,v,f,h=>by
   obtain⟨a,xs,e,ha,hl⟩:=h;have f:qj ts:=by unfold dS at f;exact f
   exact⟨a,xs,e,s a _ ha,IsL.tups s f hl⟩
 |.lst ts,v,f,h=>by unfold dS at f;exact f.elim
 |.dct,v,f,h=>by unfold dS at f;exact f.elim
theorem IsL.tups{H H':Hp}(s:ym H H'):∀{ts:List T}{xs:List V},qj ts->IsL H ts xs->IsL H' ts xs
 |[],xs,_,h=>h
 | t::ts,xs,f,h=>by
   obtain⟨v,vs,e,h1,h2⟩:=h;have f:dS t/\qj ts:=by unfold qj at f;exact f
   exact⟨v,vs,e,Is.tups s f.1 h1,IsL.tups s f.2 h2⟩
end
theorem qj.all:qj ts↔∀t∈ts,dS t:=by induction ts with|nil=>simp[qj]|cons t ts a=>simp[qj,a]
theorem IsL.length{H:Hp}:∀{a:List T}{xs:List V},IsL H a xs->xs.length=a.length|[],xs,h=>by cases h;rfl| t::a,xs,h=>by obtain⟨v,c,rfl,_,b⟩:=h;simp[IsL.length b]
theorem IsL.get{H:Hp}:∀{a:List T}{xs:List V}{i:Nat}{t:T},IsL H a xs->a[i]?=some t->∃v,xs[i]?=some v/\Is H t v|[],_,_,_,_,e=>by simp at e| t ::a,xs,i,j,h,e=>by obtain⟨v,g,rfl,c,b⟩:=h;cases i with|zero=>simp at e;subst e;exact⟨v,J,c⟩| succ i=>obtain⟨w,f,d⟩:=IsL.get b (by simpa using e);exact⟨w,by simpa using f,d⟩
theorem IsL.get'(h:IsL H ts xs)(e:xs[i]?=some v):∃t,ts[i]?=some t/\Is H t v:=by
 have d:=h.length;have a:i<ts.length:=by have:=(c9.mp e).1;omega
 obtain⟨w,b,c⟩:=h.get (bi a);rw[e]at b;cases b;exact⟨_,bi a,c⟩
theorem IsL.append{H:Hp}:∀{c b:List T}{xs a:List V},IsL H c xs->IsL H b a->IsL H (c++b) (xs++a)|[],b,xs,a,h,k=>by cases h;exact k| t::c,b,xs,a,h,k=>by obtain⟨v,d,rfl,f,e⟩:=h;exact⟨v,d++a,J,f,IsL.append e k⟩
theorem IsL.drop{H:Hp}:∀{a:List T}{xs:List V}(n:Nat),IsL H a xs->IsL H (a.drop n) (xs.drop n)|a,xs,0,h=>h|[],xs,n+1,h=>by cases h;exact rfl| t::a,xs,n+1,h=>by obtain⟨v,c,rfl,d,b⟩:=h;exact IsL.drop n b
theorem IsL.take{H:Hp}:∀{a:List T}{xs:List V}(n:Nat),IsL H a xs->IsL H (a.take n) (xs.take n)|a,xs,0,h=>rfl|[],xs,n+1,h=>by cases h;exact rfl| t::a,xs,n+1,h=>by obtain⟨v,b,rfl,d,c⟩:=h;exact⟨v,b.take n,J,d,IsL.take n c⟩
theorem IsL.one{t:T}(h:Is H t v):IsL H [t] [v]:=⟨v,[],J,h,J⟩
theorem IsL.two{t u:T}{w:V}(h:Is H t v)(k:Is H u w):IsL H [t,u] [v,w]:=⟨v,[w],J,h,w,[],J,k,J⟩
noncomputable def mC:T->String|.non=>"NoneType"|.bl _=>"bool"|.int _=>"int"|.str _=>"str"|.tup _=>"tuple"|.lst _=>"list"|.dct=>"dict"
theorem Is.ty{K:W.Frag}{t:T}(h:Is H t v):cS K H v (.type (mC t)):=by cases t with|non=>cases(h);exact .non|bl b=>cases(h);exact .bl b|int i=>cases(h);exact .int i|str x=>cases(h);exact .str x|tup e=>obtain⟨a,d,rfl,c,_⟩:=h;exact .tup c|lst e=>obtain⟨a,d,rfl,c,_⟩:=h;exact .lst c|dct=>obtain⟨a,rfl,c⟩:=h;exact .dK c
noncomputable def rn:T->Bool|.int _=>true|.bl _=>true|_=>false
noncomputable def wR:T->Bool|.bl _=>true|_=>false
noncomputable def yR:T->Bool|.tup _=>true|_=>false
noncomputable def yQ:T->Bool|.str _=>true|_=>false
theorem BF(K:W.Frag)(t:T):W.kitOne K (.type (mC t)) (.type "int")=some (rn t):=by cases t<;>kernel_rfl
theorem Cm(K:W.Frag)(t:T):W.kitOne K (.type (mC t)) (.type "bool")=some (wR t):=by cases t<;>kernel_rfl
theorem Kd(K:W.Frag)(t:T):W.kitOne K (.type (mC t)) (.type "tuple")=some (yR t):=by cases t<;>kernel_rfl
theorem Vq(K:W.Frag)(t:T):W.kitOne K (.type (mC t)) (.type "str")=some (yQ t):=by cases t<;>kernel_rfl
def Kg:HO->Prop|.dK _=>True|.dT _=>True|_=>False
section
variable{d:Addr}{u u':HO}
theorem Inv.retag(I:Inv X pins σ H s)(e:H d=some u)(h:∀xs,u≠ .tup xs)(l:∀x,u≠ .own x)(k:∀ps,u≠ .tbl ps)(B:∀o v,X.H₀ d≠some (.frz o v))(ok:wq X.prog X.w (upd H d u') s.heap d u'):Inv X pins σ (upd H d u') s:=by
 have a:∀{b},H b=none->b≠d:=λz q=>by simp_all
 refine⟨I.ok,I.os,I.bare,⟨I.base.keep,I.base.slot,λb f q n m=>?_,I.base.there,λb xs q=>?_,λb f v q=>?_,λb ps q=>?_⟩,I.loc,I.cell,?_,λx c q=>?_,λp r=>?_,λb f q=>?_,I.len⟩;have z:=I.base.free b f q n m;rw[upd_ne (a z)];exact z;have z:=I.base.tups b xs q;rw[upd_ne (Ye z e (λw=>h xs w.symm))];exact z;have z:=I.base.frzs b f v q;have j:b≠d:=λw=>by simp_all
 rw[upd_ne j];exact z;obtain⟨g,z⟩:=I.base.tbls b ps q;exact⟨g,by rw[upd_ne (Ye z e (λw=>k _ w.symm))];exact z⟩;rw[upd_ne (a I.free)];exact I.free;rw[upd_ne (a (I.freeC x c q))];exact I.freeC x c q;obtain⟨A,y,t⟩:=I.pin p r;exact⟨A,by rw[upd_ne (a y)];omega,t⟩;by_cases i:b=d;subst i;rw[ze]at q;simp_all;rw[upd_ne i]at q;exact(I.hok b f q).stay (λ_ _ _ z=>z) (λc z=>by rw[upd_ne (Ye z e (λw=>l _ w.symm))];exact z) λc xs z=>by rw[upd_ne (Ye z e (λw=>h _ w.symm))];exact z
theorem Kg.no(h:Kg u):(∀xs,u≠ .tup xs)/\(∀x,u≠ .own x)/\(∀ps,u≠ .tbl ps)/\∀o v,u≠ .frz o v:=by cases u<;>first|exact h.elim|exact⟨(λ_ z=>by cases z),(λ_ z=>by cases z),(λ_ z=>by cases z),λ_ _ z=>by cases z⟩
theorem Inv.nofrz(I:Inv X pins σ H s)(e:H d=some u)(h:Kg u):∀o v,X.H₀ d≠some (.frz o v):=λo v q=>by have z:=I.base.frzs d o v q;rw[e]at z;cases z;exact h.no.2.2.2 _ _ J
theorem Inv.freeze(I:Inv X pins σ H s)(e:H d=some u)(h:Kg u):∃o,Inv X pins σ (upd H d (.frz o u)) s:=by
 obtain⟨g,f,i,k⟩:=h.no;have ok:=I.hok d u e;have a:∃o,s.heap.get? d=some o:=by cases u<;>first|exact h.elim|(obtain⟨_,_,_,_,o,_,_,b,_⟩:=ok;exact⟨o,b⟩)
 obtain⟨o,b⟩:=a;refine⟨o,I.retag e g f i (I.nofrz e h) ⟨b,ok.stay (λ_ _ _ z=>z) (λc z=>?_) λc j z=>?_⟩⟩;rw[upd_ne (Ye z e (λw=>f _ w.symm))];exact z;rw[upd_ne (Ye z e (λw=>g _ w.symm))];exact z
theorem Inv.thaw(I:Inv X pins σ H s)(e:H d=some (.frz o u))(a:∀o v,X.H₀ d≠some (.frz o v)):Inv X pins σ (upd H d u) s:=by refine I.retag e (λ_ z=>by cases z) (λ_ z=>by cases z) (λ_ z=>by cases z) a ?_;obtain⟨_,ok⟩:=I.hok d _ e;refine ok.stay (λ_ _ _ z=>z) (λc z=>?_) λc b z=>?_;rw[upd_ne (Ye z e (λw=>by cases w))];exact z;rw[upd_ne (Ye z e (λw=>by cases w))];exact z
end
noncomputable def zH(d:Addr)(o:Obj)(u:HO)(D:Ends):Ends where
 nx:=λσ H=>H d=some (.frz o u)/\D.nx σ (upd H d u)
 rt:=λv H=>H d=some (.frz o u)/\D.rt v (upd H d u)
 bk:=λσ H=>H d=some (.frz o u)/\D.bk σ (upd H d u)
 ct:=λσ H=>H d=some (.frz o u)/\D.ct σ (upd H d u)
inductive mH(ts:TS)(D:Ends)(σ:St)(H:Hp):Prop|mk:∀d u,H d=some u->Kg u->(∀o,ts (zH d o u D) σ (upd H d (.frz o u)))->mH ts D σ H
inductive mD(te:TE)(σ:St)(H:Hp)(Q:VK):Prop|mk:∀d u,H d=some u->Kg u->(∀o,te σ (upd H d (.frz o u)) λv H'=>H' d=some (.frz o u)/\Q v (upd H' d u))->mD te σ H Q
section
theorem nK{l:TS}(h:PS X st l):PS X st (mH l):=by intro c s n H D I p;obtain⟨d,u,e,m,q⟩:=p;obtain⟨o,t⟩:=I.freeze e m;have g:=I.nofrz e m;refine aG (h c s n _ _ t (q o)) λf w i=>?_;cases f with|next=>obtain⟨a,j,J,b,k⟩:=i;exact⟨a,_,J.thaw b g,k⟩|brk=>obtain⟨a,j,J,b,k⟩:=i;exact⟨a,_,J.thaw b g,k⟩|cont=>obtain⟨a,j,J,b,k⟩:=i;exact⟨a,_,J.thaw b g,k⟩|ret v=>obtain⟨x,a,j,J,r,b,k⟩:=i;exact⟨x,a,_,J.thaw b g,r,k⟩
theorem nJ(h:PE X e te):PE X e (mD te):=by intro a s c H Q I g;obtain⟨d,u,e,b,q⟩:=g;obtain⟨o,j⟩:=I.freeze e b;have f:=I.nofrz e b;exact aG (h a s c _ _ j (q o)) λv l ⟨x,m,J,r,i,k⟩=>⟨x,_,J.thaw i f,r,k⟩
end
theorem pC{k:aI}{u:I}(h:(zy P w).is k u=true):yk (kV k) u:=by rcases xy h with⟨i,t,rfl,rfl⟩|⟨x,t,rfl,rfl⟩;exact⟨t,J⟩;exact⟨t,J⟩
theorem KV.get:∀{kvs:List (aI×V)}{vs:List (aI×Value)}{i:Nat}{a:aI×V},KV kvs vs->kvs[i]?=some a->∃u,vs[i]?=some (a.1,u)/\yk a.2 u:=by intro kvs vs i a r;unfold KV at r;induction r generalizing i with|nil=>simp| @cons p q c b h t d=>grind
noncomputable def qW(d:Addr)(o:Obj)(kvs:List (aI×V)):It:=⟨λi H=>H d=some (.frz o (.dK kvs))/\i<kvs.length,λi H x H'=>H'=H/\∃B,kvs[i]?=some B/\x=kV B.1,λi H=>H d=some (.frz o (.dK kvs))/\kvs.length<=i⟩
theorem tT{h:Heap}{d:Y}{ep:Nat}(i:bR P w H h)(e:H d=some (.frz o (.dK kvs)))(b:o.data=.dict es ep):∃vs,KV kvs vs/\h.DictAt (zy P w) d vs ep:=by obtain⟨g,n,p,vs,a,m,k,l,f,j,c,r⟩:=i d _ e;rw[g]at f;cases f;rw[b]at c;cases c;exact⟨vs,a,o,es,g,j,b,r⟩
theorem DU{K:W.Frag}(d g:Y)(o:Obj)(kvs:O (aI×V))(es:Array DictEntry)(ep:Nat)(G:o.data=.dict es ep):dJ P w K tg (qW d o kvs) [g] g (λi h=>h.IsKeyIter g d i kvs.length ep) where
 mem:=by simp
 obj:=λi h st b j=>by
  have e:b=g:=by simp_all
  subst e;obtain⟨o,e,c,dd⟩:=st
  simp_all
 keep:=λi h N st k=>st.at λo e=>k g (by simp) o e
 item:=by intro X x r y M i l s Q H E I p st u;subst x r y;obtain⟨z,L⟩:=u;obtain⟨R,a,F⟩:=tT I.hok z G;obtain⟨f0,D,Z,C,B,A⟩:=p g (by simp);have t:=a.length;have m:=bi L;obtain⟨v,U,rv⟩:=a.get m;refine wpAny_pyNext_dict_item (by simp_all) F U λq N n f S=>?_;rw[<-t]at f;have I1:=I.turned (t':=s.toks) (λb o j e=>(S.2 b j).trans e) f0 D C B A;obtain⟨o1,e1,c1,d1⟩:=id f;exact⟨q,J,Kh e1 c1 d1 (by rfl) ⟨kV kvs[i].1,H,I1,pC n,⟨J,_,m,J⟩,f,λb j=>(p b j).1⟩⟩
 done:=by intro X x r y M i l s Q H E I p st u;subst x r y;obtain⟨z,L⟩:=u;obtain⟨R,a,F⟩:=tT I.hok z G;obtain⟨f0,D,Z,C,B,A⟩:=p g (by simp);have t:=a.length;exact wpAny_pyNext_dict_end (I.ok.hd M) (by rw[<-t];omega) F (List.getElem?_eq_none_iff.mpr (by omega)) λN eb=>⟨J,I.turned (λb o j e=>eb b o j e) f0 D C B A⟩
 self:=λ_ _ _ _ _ st h=>wpAny_pyIter_keyiter st h
section
inductive hU(R:It->Hp->Prop)(v:V)(H1:Hp):Prop|mk:∀d o kvs,v=.ref d->H1 d=some (.frz o (.dK kvs))->R (qW d o kvs) H1->hU R v H1
def yN(B:TE):TI:=λσ H R=>B σ H λv H1=>hU R v H1
theorem Bw{l:Expr}{j:TE}(z:PE X l j):PI X tg l (yN j):=by
 intro a s t H R I h;refine aG (z a s t H _ I h) λv f ⟨x,E,c,u,w⟩=>?_;obtain⟨d,o,i,e,A,q⟩:=w;subst e;cases u;obtain⟨n,K,B,F,g,G,p,D,m,C,k,r⟩:=c.hok d _ A;rw[n]at m;cases m;have y:=g.length;refine wpAny_pyIter_dict B ⟨o,p,n,C,k,r⟩ ?_;refine⟨f.heap.objs.size,[f.heap.objs.size],_,_,E,J,c.kept λb o e=>aq _ e,DU d _ o i p D k,⟨_,bf _ J,J,by simp_all⟩,λb L=>?_,q⟩;have e:b=f.heap.objs.size:=by simp_all
 subst e;exact c.fpOk (ae _) (c.hok.fresh (ae _))
end
section
variable{d:Addr}{k:Nat}{Q:VK}
end
theorem Vh:∀{xs:List V}{a:List Value},xs.length=a.length->(∀(j:Nat) x u,xs[j]?=some x->a[j]?=some u->yk x u)->yo xs a|[],[],_,_=>.nil|x::xs,u::a,b,h=>.cons (h 0 x u J J) (Vh (by simp_all) λj y v d c=>h (j+1) y v (by simp_all) (by simp_all))|[],_::_,b,_=>by grind|_::_,[],b,_=>by grind
theorem yo.rev:∀{xs:List V}{a:List Value},yo xs a->yo xs.reverse a.reverse|_,_,.nil=>.nil| _,_,.cons r t=>by rw[List.reverse_cons,List.reverse_cons];exact yo.append (yo.rev t) (.cons r .nil)
section
theorem Q8(B:X.calm=true):qx X (.type "list") (λxs H Q=>∃d kvs,xs=[.ref d]/\Rd H d (.dK kvs)/\∀l,H l=none->Q (.ref l) (upd H l (.lst (kvs.map λe=>kV e.1)))):=by intro n s M H xs P Q I r h;obtain⟨d,kvs,rfl,A,q⟩:=h;obtain⟨u,rfl,t⟩:=qt r;cases t;obtain⟨o,C,N,f,G⟩:=X7 I.hok A;obtain⟨S,K⟩:=G.dictAt;have a:=f.length;refine W.kdl_call (W.kdl_dict C) (I.ok.hd B) K (by rw[<-a];exact o) λR p g L hk D b=>?_;refine⟨.ref s.heap.objs.size,_,I.laid (t':=p) (o:=.lst (kvs.map λe=>kV e.1)) hk (ae _) ?_,J,q _ (I.hok.fresh (ae _))⟩;refine⟨by rw[ai];exact o,g.toList,L,Vh ?_ ?_,by rw[Array.toArray_toList];exact D⟩;rw[ai,a,<-b.1];simp;intro j x v c F;obtain⟨k,y,i,E⟩:=b.2 j v (by rw[<-Array.getElem?_toList];exact F);rw[bc]at c;cases m:kvs[j]? with|none=>rw[m]at c;cases c| some e=>rw[m]at c;have c:kV e.1=x:=Option.some.inj c;obtain⟨w,z,_⟩:=f.get m;rw[z]at i;have i:=Option.some.inj i;have hk:e.1=k:=congrArg Prod.fst i;rw[<-c,hk];exact pC E
theorem sJ:dA X (compareOp .Is) (λx y H Q=>∃a b,x=.bl a/\y=.bl b/\Q (.bl (a==b)) H):=by intro c s f H x y v u Q I e d h;obtain⟨a,b,rfl,rfl,q⟩:=h;cases e;cases d;exact PyProof.Rows.is_bool ⟨.bl _,H,I,J,q⟩
inductive jD(K:W.Frag)(Q:VK)(x:V)(H1:Hp):Prop|mk:∀a xs,x=.ref a->aJ K H1 a xs->(∀p,H1 p=none->Q (.ref p) (upd H1 p (.lst xs.reverse)))->jD K Q x H1
def yI(K:W.Frag)(te:TE):TE:=λσ H Q=>te σ H λx H1=>jD K Q x H1
theorem At{j:Nat}{i n g:Pos}(he:PE X e te):PE X (.Subscript e (.Slice none none (some (.UnaryOp .USub (.Constant (.int 1) j g) i)) n) aE) (yI X.K te):=by intro c s f H Q I h;refine Subscript_ (aG (he c s f H _ I h) λv z ⟨x,u,M,B,C⟩=>?_);obtain⟨a,w,rfl,F,q⟩:=C;cases B;refine wpAny_Slice ?_;rw[evalPart_none];refine a9 ?_;refine a9 ?_;rw[evalPart_some];refine aG ((nD Kt zg:PE X (.UnaryOp .USub (.Constant (.int 1) j g) i) _) c z f u (λy m=>m=u/\y=.int (-1)) M ⟨1,J,J,J⟩) λN d ⟨y,m,L,A,K,G⟩=>?_;subst K G;obtain⟨t,rfl⟩:=A;have l:Inv X c f m {d with heap:=d.heap.push {cls:=.type "slice",data:=.fields #[.none,.none,.int (-1) t]}}:=L.kept (t':=d.toks) λb D q=>aq _ q;obtain⟨k,r,o,E⟩:=l.list F;have p:=r.length;show wpAny (model X.prog X.w) X.A (subscriptTail e (.Slice none none (some (.UnaryOp .USub (.Constant (.int 1) j g) i)) n) (.ref a) (.ref d.heap.objs.size)) (EP X c f Q) X.xe {d with heap:=d.heap.push {cls:=.type "slice",data:=.fields #[.none,.none,.int (-1) t]}};refine tail_any (ops:=[.ref a,.ref d.heap.objs.size]) o.isList.typeIs slot_list_getitem.lookup ?_ (by with_unfolding_all rfl);refine wpAny_getItem_list_slice o.isList (Heap.IsSliceOf.new ..) .none .none (.int (-1) t) (by decide) ?_ (by rw[cq]<;>omega);rw[W.krv_pick];refine⟨.ref _,_,l.laid (t':=d.toks) (o:=.lst w.reverse) (λb D q=>aq _ q) (ae _) ?_,J,q _ (l.hok.fresh (ae _))⟩;exact⟨by rw[List.length_reverse];exact E,k.reverse,0,r.rev,bf _ J⟩
end
noncomputable def off(S:Addr->Prop)(H:Hp):Hp:=λb=>@ite _ (S b) (Classical.propDecidable _) none (H b)
theorem Vo{S:Y->Prop}{b:Y}{o:HO}:off S H b=some o↔¬S b/\H b=some o:=by unfold off;simp
theorem Ca{S:Y->Prop}(s:Same H H'):Same (off S H) (off S H'):=λb o e=>by rw[Vo]at e⊢;exact⟨e.1,s _ _ e.2⟩
theorem Aj{S:Y->Prop}:Same (off S H) H:=λb o e=>(Vo.mp e).2
def Sd(S:Addr->Prop)(H:Hp):Prop:=∀b,S b->H b≠none
theorem Bd{S:Y->Prop}{o:HO}(d:Sd S H)(h:H p=none):off S (upd H p o) p=some o:=Vo.mpr ⟨λz=>d p z h,ze⟩
theorem B9(H:Hp):off (λ_=>False) H=H:=by funext b;unfold off;simp
theorem Is.off{S:Y->Prop}{H:Hp}{t:T}{v:V}(h:Is (off S H) t v):Is H t v:=h.mono Aj
theorem Is.off0{t:T}(h:Is H t v):Is (L2.off (λ_=>False) H) t v:=by rw[B9];exact h
theorem Is.nt{S:Y->Prop}(d:Sd S H)(a:H p=none)(h:IsL (L2.off S H) ts xs):Is (L2.off S (upd H p (.tup xs))) (.tup ts) (.ref p):=⟨p,xs,J,Bd d a,IsL.mono (Ca (Same.new a _)) h⟩
end L2
namespace HT
open PySem PyProof.Rows
open PySem.SeqAt
open PySem.AutoSeq1 (wpAny_loadPart')
open PySem.MeetsSeq PySem.MeetsSeq2 PySem.MeetsSeq3
variable{A:Around}{aB:Array Value}{s:Shared}{E Q:Value->Shared->Prop}
section
variable{prog:Program}{w:World}
theorem fF{t d:Y}{j i:I}{lo c:Option Int}(b:IsTup s.heap t aB)(k:s.heap.IsSliceOf d j i .none)(m:IsPart j lo)(l:IsPart i c)(o:bH aB.size 0 lo=0/\bH aB.size aB.size c=aB.size) (h:Q (.ref t) s):wpAny (model prog w) A (getItem (.ref t) (.ref d)) Q E s:=by
 obtain⟨os,e,f,n⟩:=id k;have g:s.TypeIs (.ref d) "slice":=⟨os,e,f⟩
 unfold getItem
 try with_reducible refine wpAny_holding ?_
 first|refine a4 (a9 ?_)|skip
 refine a4 (wpAny_sequenceKey b.typeIs (by rfl) ?_);refine a4 (wpAny_callSpecial?_slot b.typeIs PyProof.Rows.slot_tuple_getitem (cg PyProof.Rows.slot_tuple_getitem b.typeIs entry_tuple_getitem ?_ (args_tuple_getitem _ _)))
 show wpAny _ _ (Builtin.Tuple.tupleItemsOf (.ref t)>>=_) _ _ s;refine a4 (tupleItemsOf_ b ?_);refine a4 (wpAny_typeOf g ?_);rw[if_pos (by rfl)];refine a4 (kz k m l ?_);have a:(((bH aB.size 0 lo):Int)==0 && (1:Int)==1 && (bH aB.size aB.size c-bH aB.size 0 lo)==aB.size)=true:=by simp_all
 show wpAny _ _ (if(((bH aB.size 0 lo):Int)==0 && (1)==1 && (bH aB.size aB.size c-bH aB.size 0 lo)==aB.size)=true then _ else _) _ _ s;rw[if_pos a];refine a4 ?_;unfold Builtin.Tuple.tupleIsExact;refine a4 (wpAny_typeOf b.typeIs (a9 ?_));rw[if_pos (by rfl)];exact a4 (wpAny_rule (a9 ⟨_,J,a9 h⟩))
end
end HT
namespace L2
open PySem PySem.Spec PyProof.Rows
variable{L e f:Addr}{A:Around}{vs:Array Value}{X:Cx}{env:Env}{base:Heap}{H H₀:Hp}{pins:List (Addr×Obj)}{outer:List Env}{N:List Str}{oe:Obj}{P:Program}{scope:Scope}{s s₀:Shared}{σ:St}{qual:Str}{mg:Str->Option Value}{Q:Unit->Shared->Prop}{cd:Value}{E Ex:Value->Shared->Prop}{w:World}
section
variable{S:Addr->Prop}
noncomputable def Jq{B:Type}(xs:List B)(lo F:Option Int):List B:=(xs.drop (HT.bH xs.length 0 lo)).take (HT.bH xs.length xs.length F-HT.bH xs.length 0 lo)
theorem zN{a:O T}{xs:O V}(h:IsL H a xs)(lo b:Option Int):IsL H (Jq a lo b) (mi xs lo b):=by unfold Jq mi;rw[h.length];exact IsL.take _ (IsL.drop _ h)
inductive jL(S:Addr->Prop)(x:V)(lo hi:Option Int)(H:Hp)(Q:VK):Prop|mk:∀ts,Is (off S H) (.tup ts) x->Sd S H->(∀v H',Same H H'->Is (off S H') (.tup (Jq ts lo hi)) v->Q v H')->jL S x lo hi H Q
theorem zB:nV X (jL S):=by
 intro c s B H x v D C lo g E Q I m u o n h;obtain⟨l,⟨a,b,rfl,z,k⟩,d,q⟩:=h;have f:=(Vo.mp z).2;have A:=k.length;by_cases j:HT.bH b.length 0 lo=0/\HT.bH b.length b.length g=b.length;cases m;obtain⟨i,r,t,F⟩:=I.tuple (aH.of f);have y:i.toArray.size=b.length:=by rw[cq];exact r.length.symm
 refine⟨"tuple",_,PyProof.Rows.slot_tuple_getitem.lookup,t.typeIs,?_⟩;refine HT.fF t u o n (by simp_all) ⟨.ref a,H,I,J,q _ H (Same.refl H) ?_⟩;have e:Jq l lo g=l:=by unfold Jq;rw[<-A,j.1,j.2,A,List.drop_zero,Nat.sub_zero,fe]
 rw[e];exact⟨a,b,J,z,k⟩;exact AA c s B H (.ref a) v D C lo g E Q I m u o n ⟨a,b,J,aH.of f,j,λp w=>q _ _ (Same.new w _) (Is.nt d w (zN k lo g))⟩
end
section
variable{S:Addr->Prop}{aL:Str->Bool}
theorem kx{n:Nat}(h:n<=1000):n<=sizeLine:=cj h (by decide)
end
section
variable{M:Model}{T0:Addr}{cls a0:Value}
end
section
variable{K:W.Frag}{E:XK}
end
section
variable{K:W.Frag}{E:XK}
end
structure qS(K:W.Frag)(mg:Str->Option Value)(base:Heap)(x:Str)(C:Addr):Prop where
 cls:OwnCls x C [.type "ValueError",.type "Exception",.type "BaseException",.type "object"] "ValueError.__new__" mg base
 keep:W.keepIn K (.ref C)=true
section
variable{M:Model}{h:Heap}{g:Array GenState}{d:Drawn}{t:Nat}{os:OsState}{Q:Bool->Shared->Prop}
end
section
variable{E:XK}{s':Shared}{e:Value}{R:Shared->Prop}
end
section
end
section
variable{a C:Addr}
end
section
variable{K:W.Frag}
end
end L2
namespace PySem
open Sem (wp)
noncomputable def qn:List Str:=["__class__","__getattribute__","__getattr__","__init__"]
abbrev vE:List Value:=[.type "ValueError",.type "Exception",.type "BaseException",.type "object"]
section
variable{M:Model}{prog:Program}{w:World}{A:Around}{E:Value->Shared->Prop}{h:Heap}{g:Array GenState}{d:Drawn}{t:Nat}{os:OsState}{a:Addr}{o:Obj}{nm q:Str} {C N:Addr} {bs bm:List Value} {hdct:Bool} {sn:List Str} {sub:List Value} {ab:Bool} {col:Option Bool} {dd:Option Addr} {k0 k1 k2 k3 k5:Option Value} {mM:String} {mN:Str->Option Value}
end
section
variable{M:Model}{prog:Program}{w:World}{A:Around}{E:Value->Shared->Prop}{h:Heap}{g:Array GenState}{d:Drawn}{t:Nat}{os:OsState}{a:Addr}{o:Obj}{nm q:Str} {C N:Addr} {bs bm:List Value} {hdct:Bool} {sn:List Str} {sub:List Value} {ab:Bool} {col:Option Bool} {dd:Option Addr} {k0 k1 k2 k3 k5:Option Value} {mM:String} {mN:Str->Option Value}
end
end PySem
namespace L2
open PySem PySem.Spec PyProof.Rows
variable{A:Around}{X:Cx}{H:Hp}{pins:List (Addr×Obj)}{es fM:List Expr}{ns:List Int}{cap:List Nat}{own:List Str}{its:List Value}{prog:Program}{s:Shared}{σ:St}{mg:Str->Option Value}{E:Value->Shared->Prop}{w:World}
structure qO(K:W.Frag)(C D:Addr):Prop where
 c:∃nm q N bs hdct sn sub ab col dd k0 k1 k2 k3 k5,K.lookup C=some (excClassObj nm q C N bs (.ref D::vE) hdct sn sub ab col dd k0 k1 k2 k3 k5 "ValueError.__new__")/\W.nsOkIn K N=true/\∀n∈qn,W.nsIn K N n=some none
 d:∃nm q N bs hdct sn sub ab col dd k0 k1 k2 k3 k5,K.lookup D=some (excClassObj nm q D N bs vE hdct sn sub ab col dd k0 k1 k2 k3 k5 "ValueError.__new__")/\W.nsOkIn K N=true/\∀n∈qn,W.nsIn K N n=some none
section
variable{K:W.Frag}{C D:Addr}{base:Heap}{x:Str}
end
section
variable{e bX fT tg:Expr}{t:TE}{scope:Scope}{aE:Pos}
end
mutual
noncomputable def aN:T->PyData|.non=>.none|.bl b=>.bool b|.int i=>.int i|.str x=>.str x|.tup ts=>.tuple (vb ts)|.lst ts=>.list (vb ts)|.dct=>.dict []
noncomputable def vb:List T->List PyData|[]=>[]|t::r=>aN t::vb r
end
section
mutual
theorem Ya(I:Inv X pins σ H s):∀{t:T}{v:V}{u:Value},(aN t).canLay0=true->Is H t v->yk v u->∃as,Reads s.heap u (aN t) as
 | .non,v,u,_,h,r=>by cases(show v=.non from h);cases(show u=Value.none from r);exact⟨_,by unfold aN;exact .none⟩
 | .bl b,v,u,_,h,r=>by cases(show v=.bl b from h);cases(show u=Value.bool b from r);exact⟨_,by unfold aN;exact .bool b⟩
 | .int i,v,u,_,h,r=>by
   cases(show v=.int i from h);obtain⟨t,rfl⟩:=(show∃t,u=Value.int i t from r)
   exact⟨_,by unfold aN;exact .int i t⟩
 | .str x,v,u,_,h,r=>by
   cases(show v=.str x from h);obtain⟨t,rfl⟩:=(show∃t,u=Value.str x t from r)
   exact⟨_,by unfold aN;exact .str x t⟩
 | .tup ts,v,u,l,h,r=>by obtain⟨a,xs,rfl,ha,hl⟩:=h;cases(show u=Value.ref a from r);obtain⟨its,rv,⟨o,e,c,n,d⟩,_⟩:=I.tuple (aH.of ha);obtain⟨as,ra⟩:=jb I (by unfold aN PyData.canLay0 at l;exact l) hl rv;exact⟨_,by unfold aN;exact .tuple e c d (by simpa using ra)⟩
 | .lst ts,v,u,l,h,r=>by obtain⟨a,xs,rfl,ha,hl⟩:=h;cases(show u=Value.ref a from r);obtain⟨its,rv,⟨o,n,e,c,_,d⟩,_⟩:=I.list (aJ.of ha);obtain⟨as,ra⟩:=jb I (by unfold aN PyData.canLay0 at l;exact l) hl rv;exact⟨_,by unfold aN;exact .list e c d (by simpa using ra)⟩
 |.dct,v,u,l,h,r=>by unfold aN PyData.canLay0 at l;cases l
theorem jb(I:Inv X pins σ H s):∀{ts:List T}{xs:List V}{us:List Value},PyData.canLayAll0 (vb ts)=true->IsL H ts xs->yo xs us->∃as,ReadsAll s.heap us (vb ts) as| [],xs,us,_,h,r=>by cases(show xs=[]from h);cases r;exact⟨_,by unfold vb;exact .nil⟩| t ::ts,xs,us,l,h,r=>by obtain⟨v,vs,rfl,h1,h2⟩:=h;cases r with| cons r1 r2=>unfold vb PyData.canLayAll0 at l;rw[ca]at l;obtain⟨as,ra⟩:=Ya I l.1 h1 r1;obtain⟨bs,rb⟩:=jb I l.2 h2 r2;exact⟨_,by unfold vb;exact .cons ra rb⟩
end
end
section
end
noncomputable def iT(ns:List Int):List T:=ns.map T.int
theorem IsL.ints{H:Hp}:∀{ns:List Int}{xs:List V},IsL H (iT ns) xs↔xs=ns.map V.int|[],xs=>Iff.rfl| n::r,xs=>by constructor;rintro⟨v,c,rfl,b,a⟩;rw[IsL.ints.mp a,(b)];rfl;rintro rfl;exact⟨_,_,J,J,IsL.ints.mpr J⟩
noncomputable def tt(B ns:List Int):T:=.tup [.tup (iT B),.tup (iT ns)]
section
theorem CJ:qx X (.type "range") (λxs H Q=>∃j:Int,xs=[.int j]/\∀p,H p=none->Q (.ref p) (upd H p (.rng 0 j))):=by intro a s d H xs f Q I r h;obtain⟨j,rfl,q⟩:=h;obtain⟨u,rfl,c⟩:=qt r;obtain⟨t,rfl⟩:=c;refine call_range_1 ?_;exact⟨.ref s.heap.objs.size,upd H s.heap.objs.size (.rng 0 j),I.laid (λb o e=>aq _ e) (ae _) (show wq X.prog X.w _ _ _ (.rng 0 j)from⟨_,_,_,bf _ J⟩),J,q _ (I.hok.fresh (ae _))⟩
theorem Jd(a:its.length=ns.length)(h:∀(i:Nat)(v:Value),its[i]?=some v->∃n t,ns[i]?=some n/\v=.int n t):yo (ns.map V.int) its:=by
 induction its generalizing ns with
 | nil=>cases ns with
   |nil=>exact .nil
   |cons _ _=>simp at a
 | cons v r c=>cases ns with
   |nil=>simp at a
   | cons n m=>obtain⟨b,t,e,rfl⟩:=h 0 v J;cases(show some n=some b from e);exact .cons ⟨t,J⟩ (c (by simpa using a) λi v d=>by simpa using h (i+1) v (by simpa using d))
theorem Jr(y:X.calm=true):qx X (.type "list") (λxs H Q=>∃(p:Y)(n:Nat),xs=[.ref p]/\H p=some (.rng 0 (n:Int))/\n<=1000/\∀l,H l=none->Q (.ref l) (upd H l (.lst ((List.range n).map λ(i:Nat)=>V.int (i:Int))))):=by
 intro g s C H xs D Q I r h;obtain⟨p,n,rfl,o,w,q⟩:=h;obtain⟨u,rfl,m⟩:=qt r;cases(show u=Value.ref p from m);obtain⟨t,u,v,e⟩:=(show wq X.prog X.w H s.heap p (.rng 0 (n:Int))from I.hok p _ o)
 have j:Builtin.Range.rangeSize 0 (n:Int) 1=(n:Int):=by unfold Builtin.Range.rangeSize;rw[if_pos (by decide)];by_cases z:(0:Int)<n;rw[if_pos z];omega;rw[if_neg z];omega
 have k:Builtin.Range.small 0 (n:Int) 1=true:=small_one (by omega) (by omega) (by omega) (by omega);refine call_list_range (n:=n) (I.ok.hd y) e k j (by omega) λB E a c hk A f=>?_;have d:yo ((List.range n).map λ(i:Nat)=>V.int (i:Int)) a.toList:=by
  have e:((List.range n).map λ(i:Nat)=>V.int (i:Int))=((List.range n).map λ(i:Nat)=>(i:Int)).map V.int:=by rw[c7];rfl
  rw[e];refine Jd (by simp[f.1]) λi v d=>?_;have b:a[i]?=some v:=by simpa using d
  obtain⟨t,rfl⟩:=f.2 i v b;have x:i<n:=by have:=(Array.getElem?_eq_some_iff.mp b).1;rw[f.1]at this;exact this
  refine⟨_,t,?_,J⟩;rw[bc,List.getElem?_range x];simp
 exact⟨.ref s.heap.objs.size,_,I.laid hk (ae _) (show wq X.prog X.w _ B _ (.lst _)from⟨by rw[ai,c8];exact kx w,a.toList,c,d,by simpa using A⟩),J,q _ (I.hok.fresh (ae _))⟩
end
section
inductive jN(K:W.Frag)(o i:V)(H:Hp)(Q:VK):Prop|mk:∀p xs k v,o=.ref p->i=.int k->0<=k->aJ K H p xs->xs[k.toNat]?=some v->Q v H->jN K o i H Q
theorem Cj:rG X (jN X.K):=by intro b s n H o i x y Q I d e h;obtain⟨p,u,k,v,rfl,rfl,m,j,l,q⟩:=h;cases(d);obtain⟨t,rfl⟩:=e;obtain⟨g,r,f,z⟩:=I.list j;obtain⟨w,c,a⟩:=r.get l;have B:=r.length;have A:=Qw;have hk:=(c9.mp c).1;exact wpAny_getItem_list f.isList m (by omega) (by simpa using c) ⟨v,H,I,a,q⟩
end
section
end
section
end
section
end
section
variable{a b:Addr}{xs zs:List V}{g:TG}{tc:TT}{te:TE}{k:Nat}{Q:VK}
end
section
inductive gX(x:V)(ys:List V)(H:Hp)(Q:VK):Prop|mk:∀(ts:List T)(u:T)(y:V),ys=[y]->Is H (.tup ts) x->Is H u y->(∀t∈ts,(aN t).canLay0=true)->(aN u).canLay0=true->(aN u).depth<=20->Q (.int ((ts.countP λt=>PyData.eqv (aN t) (aN u):Nat):Int)) H->gX x ys H Q
theorem qB(A:Around)(s:Shared)(m:A.units+40<cLine){x:Value}{d:PyData}{q:List Addr}(f:Reads s.heap x d q)(i:d.canLay0=true)(p:d.depth<=20){e:Value->Bool}(he:∀u t as,Reads s.heap u (aN t) as->(aN t).canLay0=true->e u=PyData.eqv (aN t) d):∀{a:List Value}{b:List T}{as:List Addr},ReadsAll s.heap a (vb b) as->PyData.canLayAll0 (vb b)=true->(∀u∈a,SeqAt.EqAt A s u x (e u))/\a.countP e=b.countP λt=>PyData.eqv (aN t) d
 | a,[],as,r,_=>by unfold vb at r;cases r;exact⟨λu h=>(by simp at h),J⟩
 | a,t::b,as,r,l=>by
   unfold vb at r l;have l:(aN t).canLay0=true/\PyData.canLayAll0 (vb b)=true:=by simpa[PyData.canLayAll0]using l
   cases r with
   | cons g k=>obtain⟨o,n⟩:=qB A s m f i p he k l.2;have j:=he _ _ _ g l.1;refine⟨λu c=>?_,?_⟩;rcases ak.mp c with rfl|c;rw[j];exact SeqAt.eqAt_reads _ _ A s _ _ _ _ g f l.1 i (by omega);exact o u c;rw[List.countP_cons,List.countP_cons,n,j]
open Classical in
theorem DH(hu:X.A.units+64<cLine):mX X "tuple.count" gX:=by
 intro pins s σ H x xs v us Q I rx rv h;obtain⟨ts,u,y,rfl,hx,hy,lts,lu,du,q⟩:=h;obtain⟨a,zs,rfl,ha,hz⟩:=hx;cases(show v=Value.ref a from rx);obtain⟨u',rfl,ru⟩:=rv.one;obtain⟨bs,rb⟩:=Ya I lu hy ru;obtain⟨its,r,ht,hzl⟩:=I.tuple (aH.of ha);have la:PyData.canLayAll0 (vb ts)=true:=by clear hz q;induction ts with|nil=>rfl| cons t ts ih=>unfold vb;simp only[PyData.canLayAll0,ca];exact⟨lts t bv,ih λt' h=>lts t' (br _ h)⟩
 obtain⟨as,ra⟩:=jb I la hz r;let e:Value->Bool:=λz=>decide (∃t as,Reads s.heap z (aN t) as/\(aN t).canLay0=true/\PyData.eqv (aN t) (aN u)=true);have he:∀z t as,Reads s.heap z (aN t) as->(aN t).canLay0=true->e z=PyData.eqv (aN t) (aN u):=λz t as rz lz=>by rw[Bool.eq_iff_iff];refine⟨λh=>?_,λh=>ax ⟨t,as,rz,lz,h⟩⟩;obtain⟨t',as',rz',lz',h'⟩:=cb h;rw[SeqAt.Reads.unique _ _ _ _ _ lz rz rz'];exact h'
 obtain⟨o,eo,hc,n,hd⟩:=ht;have eo':s.heap.get? a=some {cls:=.type "tuple",dict:=o.dict,data:=.seq its.toArray n,slots:=o.slots}:=by rw[eo,<-hc,<-hd]
 have hun:X.A.in1.units=X.A.units+1:=rfl;obtain⟨c1,c2⟩:=qB X.A.in1 s (by omega) rb lu du he ra la;refine call_meets PySem.F.slot_tuple_count ⟨_,eo',rfl⟩ PySem.F.entry_tuple_count (PySem.F.args_tuple_count_2 _ _) (SeqAt.tuple_countAt a its.toArray n o.dict o.slots u' e) ⟨eo',λz hz'=>c1 z (by simpa using hz'),?_⟩;rw[List.toList_toArray,c2];exact⟨.int _,H,I.tok _,⟨_,rfl⟩,q⟩
end
section
variable{o e:Expr}{to:TE}{t:TA}{name:Str}{apos cpos:Pos}{id:String}{r:V->List V->Hp->VK->Prop}
def yA(r:V->List V->Hp->VK->Prop)(to:TE)(t:TA):TE:=λσ H Q=>to σ H λx H1=>(∃p xs,x=.ref p/\H1 p=some (.tup xs))/\t σ H1 λxs H2=>r x xs H2 Q
theorem sP(g:Slot "tuple" name id)(l:typeOf (.builtin id)=pure (.type "method_descriptor"))(S:mX X id r)(R:PE X o to)(W:PA X (e::es) t)(f:attributeBase o name X.env (eval o X.env)=eval o X.env:=by rfl)
  (i:((backTo cpos (starEach (e::es) X.env)).all (λx=> !x.1) && (backToKw cpos (keywordEach [] X.env)).all (λx=>x.1.isSome) && decide ((e::es).length+([]:O Keyword).length+(if([]:O Keyword).isEmpty then 0 else 1)<30))=true:=by rfl)
  (d:(apos.endLine==cpos.line)=true:=by rfl) (N:starEach (e::es) X.env=(false,eval e X.env)::starEach es X.env:=by rfl) (c:(backTo cpos (starEach es X.env)).any (·.1)=false:=by rfl):
  PE X (.Call (.Attribute o name apos) (e::es) [] cpos) (yA r to t):=by
 intro b s j H Q I h;refine wpAny_Call_method_late f i d J (aG (R b s j H _ I h) λv q ⟨x,y,w,F,C,K⟩=>?_);obtain⟨p,z,rfl,P⟩:=C;cases F;obtain⟨_,M,_,⟨k,m,U,n,hd⟩,L⟩:=(show wq X.prog X.w y q.heap p (.tup z)from w.hok p _ P)
 refine⟨"tuple",id,PySem.F.plainAttrs_tuple,g,l,⟨k,m,U⟩,λa e=>?_,?_⟩;cases e;exact⟨k,m,L k m⟩;have u:=W cpos b q j y _ w K;rw[N]at u⊢;refine Calls.callWith_builtin (by show(false ||(backTo cpos (starEach es X.env)).any (·.1))=false;rw[c]<;>rfl) (Calls.evalArgs_plain ?_);exact aG u λB D ⟨A,H2,Z,E,G⟩=>S b D j H2 (.ref p) A (.ref p) B Q Z J E G
end
section
end
end L2
namespace L2
open PySem PySem.Spec PyProof.Rows PySem.W
variable{A:Around}{p:Array Nat}{h:Heap}{gs:List (List Int)}{g:List Int}{vs:List Value}{prog:Program}{s:Shared}{E Q:Value->Shared->Prop}{w:World}
noncomputable def yi(lt:Nat->Nat->Bool){B:Type}:KasT B->B|.ret a=>a|.ask i j k=>yi lt (k (lt i j))
def qo(n:Nat)(lt:Nat->Nat->Bool){B:Type}:KasT B->Prop|.ret _=>True|.ask i j k=>i<n/\j<n/\qo n lt (k (lt i j))
section
variable{n:Nat}{lt:Nat->Nat->Bool}
theorem qh{a b:Type}{f:a->KasT b}:∀t:KasT a,yi lt (t.bind f)=yi lt (f (yi lt t))|.ret _=>rfl|.ask i j k=>qh (k (lt i j))
theorem q8{a b:Type}{f:a->KasT b}:∀{t:KasT a},qo n lt t->qo n lt (f (yi lt t))->qo n lt (t.bind f)|.ret _,_,h=>h|.ask i j k,h,g=>⟨h.1,h.2.1,q8 h.2.2 g⟩
theorem uS{b:Type}{a:Nat->Nat->(Bool->Shared->Prop)->Shared->Prop}{Q:b->Shared->Prop}{s:Shared}(c:∀i j,i<n->j<n->∀C:Bool->Shared->Prop,C (lt i j) s->a i j C s):∀{t:KasT b},qo n lt t->Q (yi lt t) s->t.kasWp a Q s|.ret _,_,q=>q|.ask i j k,h,q=>c i j h.1 h.2.1 _ (uS c h.2.2 q)
def wv(n:Nat)(p:Array Nat):Prop:=p.toList.Perm (List.range n)
theorem wv.bd(h:wv n p)(b:0<n)(k:Nat):p.getD k 0<n:=by
 by_cases hk:k<p.size;have e:p.getD k 0=p[k]:=by simp[Array.getD,hk]
 rw[e];have a:p[k]∈p.toList:=by simp
 exact bp.mp (h.mem_iff.mp a);have e:p.getD k 0=0:=by simp[Array.getD,hk]
 rw[e];exact b
theorem wv.rev(h:wv n p)(i j:Nat):wv n (kas_rev p i j):=(mirror_perm p i j _).toList.trans h
theorem wv.bub(h:wv n p)(i j:Nat):wv n (bubble p i j):=(bubble_perm p i j).toList.trans h
theorem pc(a:0<n){p:Array Nat}(h:wv n p):∀f m,qo n lt (kas_asc p f m)|0,_=>trivial| f+1,m=>by refine⟨h.bd a _,h.bd a _,?_⟩;dsimp only;split;trivial;exact pc a h f (m+1)
theorem Vt(c:0<n):∀f {p:Array Nat} m q,wv n p->qo n lt (kas_desc f p m q)/\wv n (yi lt (kas_desc f p m q)).1|0,_,_,_,h=>⟨trivial,h⟩| f+1,p,m,q,h=>by unfold kas_desc;show(_/\_/\qo n lt (ite _ _ _))/\wv n (yi lt (ite _ _ _:KasT (Array Nat×Nat×Nat))).1;split;split;obtain⟨a,b⟩:=Vt c f (m+1) 0 (h.rev (m-(q+1)) m);exact⟨⟨h.bd c _,h.bd c _,a⟩,b⟩;obtain⟨a,b⟩:=Vt c f (m+1) 0 h;exact⟨⟨h.bd c _,h.bd c _,a⟩,b⟩;show(_/\_/\(_/\_/\qo n lt (ite _ _ _)))/\wv n (yi lt (ite _ _ _:KasT (Array Nat×Nat×Nat))).1;split;exact⟨⟨h.bd c _,h.bd c _,h.bd c _,h.bd c _,trivial⟩,h⟩;obtain⟨a,b⟩:=Vt c f (m+1) (q+1) h;exact⟨⟨h.bd c _,h.bd c _,h.bd c _,h.bd c _,a⟩,b⟩
theorem vT(a:0<n)(h:wv n p)(m r:Nat):qo n lt (kas_tail3 m r p)/\wv n (yi lt (kas_tail3 m r p)).2:=by unfold kas_tail3;refine⟨q8 (pc a (h.rev 0 m) _ _) trivial,?_⟩;rw[qh];exact h.rev 0 m
theorem Vb(c:0<n)(h:wv n p)(m r:Nat):qo n lt (kas_descPart m r p)/\wv n (yi lt (kas_descPart m r p)).2:=by
 unfold kas_descPart;obtain⟨a,b⟩:=Vt c (r-(m+1)) (m+1) 0 h;generalize kas_desc (r-(m+1)) p (m+1) 0=t at a b;have d:qo n lt (if(yi lt t).2.2>0 then kas_tail3 (yi lt t).2.1 r (kas_rev (yi lt t).1 ((yi lt t).2.1-((yi lt t).2.2+1)) (yi lt t).2.1)else kas_tail3 (yi lt t).2.1 r (yi lt t).1)/\
   wv n (yi lt (if(yi lt t).2.2>0 then kas_tail3 (yi lt t).2.1 r (kas_rev (yi lt t).1 ((yi lt t).2.1-((yi lt t).2.2+1)) (yi lt t).2.1)else kas_tail3 (yi lt t).2.1 r (yi lt t).1)).2:=by split;exact vT c (b.rev _ _) _ _;exact vT c b _ _
 refine⟨q8 a d.1,?_⟩;rw[qh];exact d.2
theorem BS(b:0<n)(h:wv n p)(r:Nat):qo n lt (kas_count r p)/\wv n (yi lt (kas_count r p)).2:=by
 unfold kas_count;have a:=pc (lt:=lt) b h (r-1) 1;generalize kas_asc p (r-1) 1=t at a;generalize e:yi lt t=m;have d:qo n lt (if(m==r)=true then KasT.ret (m,p)else if m>1 then KasT.ask (p.getD 0 0) (p.getD (m-1) 0) λc=>if c=true then KasT.ret (m,p)else kas_descPart m r (kas_rev p 0 m)else kas_descPart m r p)/\
   wv n (yi lt (if(m==r)=true then KasT.ret (m,p)else if m>1 then KasT.ask (p.getD 0 0) (p.getD (m-1) 0) λc=>if c=true then KasT.ret (m,p)else kas_descPart m r (kas_rev p 0 m)else kas_descPart m r p)).2:=by split;exact⟨trivial,h⟩;split;show(_/\_/\qo n lt (ite _ _ _))/\wv n (yi lt (ite _ _ _:KasT (Nat×Array Nat))).2;split;exact⟨⟨h.bd b _,h.bd b _,trivial⟩,h⟩;obtain⟨x,y⟩:=Vb b (h.rev 0 m) m r;exact⟨⟨h.bd b _,h.bd b _,x⟩,y⟩;exact Vb b h m r
 subst e;refine⟨q8 a d.1,?_⟩;rw[qh];exact d.2
theorem Qi(a:0<n){p:Array Nat}(h:wv n p)(k:Nat):∀f l r,qo n lt (kas_place p k f l r)|0,_,_=>trivial| f+1,l,r=>by unfold kas_place;split;trivial;refine⟨h.bd a _,h.bd a _,?_⟩;dsimp only;split;exact Qi a h k f _ _;exact Qi a h k f _ _
theorem sr(c:0<n):∀f {p:Array Nat} k,wv n p->qo n lt (kas_bin f p k)/\wv n (yi lt (kas_bin f p k))|0,_,_,h=>⟨trivial,h⟩| f+1,p,k,h=>by unfold kas_bin;obtain⟨a,b⟩:=sr c f (k+1) (h.bub k (k-yi lt (kas_place p k k 0 k)));refine⟨q8 (Qi c h k k 0 k) a,?_⟩;rw[qh];exact b
theorem Ky(d:0<n):qo n lt (kas_sort n)/\wv n (yi lt (kas_sort n)):=by
 unfold kas_sort;have e:wv n (List.toArray (List.range n)):=List.Perm.refl _;obtain⟨a,b⟩:=BS d e n;generalize kas_count n (List.toArray (List.range n))=t at a b;have c:qo n lt (if(yi lt t).1<n then kas_bin (n-max (yi lt t).1 1) (yi lt t).2 (max (yi lt t).1 1)else KasT.ret (yi lt t).2)/\
   wv n (yi lt (if(yi lt t).1<n then kas_bin (n-max (yi lt t).1 1) (yi lt t).2 (max (yi lt t).1 1)else KasT.ret (yi lt t).2)):=by split;exact sr d _ _ b;exact⟨trivial,b⟩
 refine⟨q8 a c.1,?_⟩;rw[qh];exact c.2
end
structure lC(R:Around->Prop)(P:Program)(w:World)(h:Heap)(vs:List Value)(κ:SortKind)(lt:Nat->Nat->Bool):Prop where
 kind:∀(A:Around),R A->∀(s:Shared)(E:Value->Shared->Prop)(Q:SortKind->Shared->Prop),(∀b o,h.get? b=some o->s.heap.get? b=some o)->Q κ s->wpAny (model P w) A (keyKind' vs.toArray) Q E s
 ask:∀i j,i<vs.length->j<vs.length->∀(A:Around),R A->∀(s:Shared)(E:Value->Shared->Prop)(Q:Bool->Shared->Prop),(∀b o,h.get? b=some o->s.heap.get? b=some o)->Q (lt i j) s->wpAny (model P w) A (keyLt' κ (vs.getD i Value.none) (vs.getD j Value.none)) Q E s
theorem Yg{a:Type}(vs:O a)(d:a):(List.range vs.length).map (λi=>vs.getD i d)=vs:=by refine List.ext_getElem (by simp) λi c b=>?_;have e:=bi b;simp[e]
section
variable{h0:Heap}{κ:SortKind}{lt:Nat->Nat->Bool}
noncomputable def v9(lt:Nat->Nat->Bool)(vs:List Value):List Value:=if vs.length<2 then vs else(yi lt (kas_sort vs.length)).toList.map λi=>vs.getD i Value.none
theorem Kz:(v9 lt vs).Perm vs:=by
 unfold v9;split
 . exact List.Perm.refl _
 . rename_i h
   have p:=(Ky (n:=vs.length) (lt:=lt) (by omega)).2;exact(List.Perm.map (λi=>vs.getD i Value.none) p).trans (List.Perm.of_eq (Yg vs Value.none))
theorem E1{R:Around->Prop}(F:R A){a:Y}{n:Nat}{P:PySem.Fin->Shared->Prop}(t:s.heap.get? a=some (seqObj "list" vs.toArray n))(v:vs.length<64)(O:2<=vs.length->lC R prog w h0 vs κ lt)(M:∀b o,h0.get? b=some o->b≠a/\s.heap.get? b=some o) (h:P (.done (.ret .none)) {s with heap:=sortedHeap s.heap a vs (v9 lt vs).toArray}):
  wpAny (model prog w) A (Builtin.«list.sort» ⟨[.ref a],[]⟩) P E s:=by
 rw[list_sort_plain];refine a4 (listItems_at t J (a4 (listUpdate_at t J ?_ (by rw[cq,sizeLine_eq];omega) (bo _))));have r:=get?_update_seq t (λ_=>(#[]));generalize (if(#[]).size==vs.toArray.size then n else n+1)=z at r;refine a4 (seqEpoch_at r J (a4 (wpAny_newTuple (a4 (wpAny_newList (wpAny_holding ?_) (bo _))) (by show vs.length<=_;rw[sizeLine_eq];omega))));have m:(((s.heap.update a (Obj.mapSeq λ_=>(#[]))).push (seqObj "tuple" vs.toArray 0)).push (seqObj "list" #[] 0)).get? a=some (seqObj "list" #[] z):=aq _ (aq _ r);have B:∀b o,h0.get? b=some o->(((s.heap.update a (Obj.mapSeq λ_=>(#[]))).push (seqObj "tuple" vs.toArray 0)).push (seqObj "list" #[] 0)).get? b=some o:=λb o e=>by obtain⟨L,z⟩:=M b o e;exact aq _ (aq _ (by rw[Heap.get?_update_ne _ _ _ _ L];exact z))
 dsimp only;by_cases q:vs.length<2
 . have d:vs.toArray.size<2:=by rw[cq];exact q
   have y:v9 lt vs=vs:=by unfold v9;rw[if_pos q]
   rw[if_pos d,if_pos d];refine a4 (a9 ?_);rw[StateT.run_pure];refine a4 (a9 ?_);have f:(arrOf (SortSt.mk' general' (vs.toArray.zip vs.toArray) #[] 7 none)).map (·.2)=vs.toArray:=by show(vs.toArray.zip vs.toArray).map (·.2)=vs.toArray;refine Array.ext (by simp) λi h1 H=>by simp
   rw[f];refine a4 (seqEpoch_at m J (a4 (listUpdate_at m J ?_ (bo _) (by rw[cq,sizeLine_eq];omega))));simp only[bne_self_eq_false,Bool.false_eq_true,if_false];rw[y]at h;exact a9 h
 . have d:¬vs.toArray.size<2:=by rw[cq];exact q
   have O:=O (by omega);have y:v9 lt vs=(yi lt (kas_sort vs.length)).toList.map λi=>vs.getD i Value.none:=by unfold v9;rw[if_neg q]
   obtain⟨K,Z⟩:=Ky (n:=vs.length) (by omega);rw[if_neg d,if_neg d];refine a4 (O.kind _ F _ _ _ B ?_);generalize D:({s with heap:=(((s.heap.update a (Obj.mapSeq λ_=>(#[]))).push (seqObj "tuple" vs.toArray 0)).push (seqObj "list" #[] 0))}:Shared)=S at *;have l:S.heap=(((s.heap.update a (Obj.mapSeq λ_=>(#[]))).push (seqObj "tuple" vs.toArray 0)).push (seqObj "list" #[] 0)):=by rw[<-D]
   have run:=kat_run (A:=A) (E:=E) (G:=λp g=>g=S/\p=yi lt (kas_sort vs.length))
    (Q:=λc g=>g=S/\failedOf c=none/\arrOf c=(yi lt (kas_sort vs.length)).map (kas_item (vs.toArray.zip vs.toArray))) J (by omega) v
    (λp c g _ H X G=>⟨G.1,X,by rw[<-G.2];exact H⟩)
    (uS (λi j Q N C W=>O.ask i j Q N _ F _ _ _ (by rw[l];exact B) W) K ⟨J,J⟩)
   refine a4 (de run ?_ λ_ _ x=>x);rintro⟨⟨⟩,c⟩ g ⟨rfl,U,u⟩;have f:(arrOf c).map (·.2)=(v9 lt vs).toArray:=by rw[y];exact kat_snds J u
   have k:(v9 lt vs).length=vs.length:=Kz.length_eq;rw[f];rw[<-l]at m;refine a4 (seqEpoch_at m J (a4 (listUpdate_at m J ?_ (bo _) (by rw[cq,k,sizeLine_eq];omega))));rw[U];simp only[bne_self_eq_false,Bool.false_eq_true,if_false];rw[<-D];exact a9 h
theorem DG{R:Around->Prop}{l:Y}(g:s.heap.IsList l vs.toArray)(d:vs.length<64)(O:2<=vs.length->lC R prog w s.heap vs κ lt)(h:Q (.ref (s.heap.objs.size+1)) {s with heap:=sortedAll s.heap vs (v9 lt vs).toArray}) (i:R A.in1.in1:=by trivial):wpAny (model prog w) A (call (.builtin "sorted") [.ref l]) Q E s:=by
 refine Calls.call_function_entry kind_sorted plain_sorted entry_sorted (args_sorted1 _) ?_;unfold Builtin.«sorted»;refine a4 (a9 (a4 (collect_list g (a4 (wpAny_newList ?_ (by rw[sizeLine_eq];omega))) (by rw[sizeLine_eq];omega))));have c:((s.heap.push (seqObj "list" #[] 0)).update s.heap.objs.size (Obj.mapSeq (· ++vs.toArray))).objs.size=s.heap.objs.size+1:=by rw[Heap.size_update,size_push']
 have f:(((s.heap.push (seqObj "list" #[] 0)).update s.heap.objs.size (Obj.mapSeq (· ++vs.toArray))).push (seqObj "list" vs.toArray 0)).get? (s.heap.objs.size+1)=some (seqObj "list" vs.toArray 0):=by rw[<-c];exact bf _ J
 rw[c];refine a4 (wpAny_holding (cg slot_list_sort ⟨_,f,J⟩ entry_list_sort (E1 i f d O (λb o e=>?_) ⟨_,J,a9 ⟨_,J,h⟩⟩) (args_list_sort _)));have a:=au e;refine⟨az (Nat.lt_succ_of_lt a),?_⟩;rw[Heap.get?_push_ne _ _ _ (by rw[c];exact az (Nat.lt_succ_of_lt a)),Heap.get?_update_ne _ _ _ _ (az a),Heap.get?_push_ne _ _ _ (az a)];exact e
end
noncomputable def tI(g:List Int):T:=.tup (iT g)
noncomputable def mj(B:Bool):List Int->List Int->Bool|p::r,q::t=>if(p==q)=true then mj B r t else decide (p<q)|_,_=>B
def jZ(h:Heap)(v:Value)(g:List Int):Prop:=∃a o n,∃us:List Value,v=.ref a/\h.get? a=some o/\o.cls=.type "tuple"/\o.data=.seq us.toArray n/\yo (g.map V.int) us
section
theorem uX{b a:Bool}{Q:Bool->Shared->Prop}:∀{g h:List Int}{f d:List Value}(i:Nat),yo (g.map V.int) f->yo (h.map V.int) d->Q (mj a g h) s->KatLex prog w A b a Q (f.zip d) i s
 |[],_,_,_,i,.nil,_,q=>q
 |_::_,[],_,_,i,.cons _ _,.nil,q=>q
 | p ::r,e::t,_,_,i,.cons m l,.cons k j,q=>by
   obtain⟨x,rfl⟩:=m;obtain⟨y,rfl⟩:=k;refine kat_cons (wpAny_eqBool_int ?_);have q:Q (if(p==e)=true then mj a r t else decide (p<e)) s:=q;by_cases c:(p==e)=true
   . rw[if_pos c]at q;rw[c];exact kat_yes (uX (i+1) l j q)
   . rw[if_neg c]at q;rw[Bool.eq_false_iff.mpr c];refine kat_no ?_;cases n:(b && i==0)with
     |true=>exact oneLt_int q
     |false=>exact kat_one _ _ (PyProof.Rows.lt_int q)
theorem jZ.keep{h':Heap}{v:I}(t:jZ h v g)(k:∀b o,h.get? b=some o->h'.get? b=some o):jZ h' v g:=by obtain⟨a,o,n,c,e,d,r⟩:=t;exact⟨a,o,n,c,e,k _ _ d,r⟩
theorem Qz{h:Heap}:∀{gs:List (List Int)}{vs:List Value},Paired (λg v=>jZ h v g) gs vs->(∀g∈gs,g≠[])->∃fs,KatTups h vs fs/\fs.length=vs.length/\∀f∈fs,∃i t,f=Value.int i t
 |_,_,.nil,_=>⟨[],trivial,J,λf c=>by grind⟩
 | g ::gs,v::vs,.cons w s,b=>by
   obtain⟨fs,k,l,z⟩:=Qz s λx m=>b x (br _ m);obtain⟨a,o,n,y,rfl,j,q,p,e⟩:=w;cases g with
   |nil=>simp_all
   | cons i g=>
     cases e with
     | cons r t=>
       rename_i u d
       refine⟨u::fs,KatTups.cons j q p (by simp) k,by grind,λf c=>?_⟩;rcases ak.mp c with rfl|c
       . obtain⟨t,rfl⟩:=r;simp
       simp_all
theorem Dp (P:Paired (λg v=>jZ h v g) gs vs) (d:∀g∈gs,g≠[]) (K:2<=vs.length):lC (λ_=>True) prog w h vs (tuples' true) (λi j=>mj (decide ((gs.getD i []).length<(gs.getD j []).length)) (gs.getD i []) (gs.getD j [])):=by
 have m:∀i,i<vs.length->jZ h (vs.getD i Value.none) (gs.getD i []):=by
  clear d K;induction P with
  |nil=>simp
  | cons r t H=>grind
 constructor
 . intro A _ s E Q k q;obtain⟨b,c,l,x⟩:=Qz P d;have y:KatTups s.heap vs b:=by
    clear l x m q K d P
    revert b
    induction vs with
    | nil=>intro b c;cases b with
      |nil=>trivial
      |cons=>exact c.elim
    | cons v vs H=>intro b c;cases b with
      |nil=>exact c.elim
      | cons f b=>obtain⟨⟨a,o,L,n,e,B,r⟩,c⟩:=c;exact⟨⟨a,o,L,n,e,k _ _ B,r⟩,H b c⟩
   refine kat_kind (T:=.type "int") y (by omega) (λv u=>?_) (by rfl) q;obtain⟨i,t,rfl⟩:=x v u;exact Looks.now
 . intro i j x N A _ s E Q k q;obtain⟨a,o,n,W,U,B,hc,R,u⟩:=(m i x).keep k;obtain⟨a',X,Z,M,D,z,S,C,p⟩:=(m j N).keep k;rw[U,D];have G:=u.length;have F:=p.length;rw[ai]at G F;refine kat_lt B R z C ?_;rw[cq,cq,<-G,<-F];exact uX 0 u p q
end
section
variable{X:Cx}
theorem IsL.tupI{b:List (Addr×Obj)}{k:St}{H:Hp}{s:Shared}(I:Inv X b k H s):∀{gs:List (List Int)}{xs:List V}{f:List Value},IsL H (gs.map tI) xs->yo xs f->Paired (λg v=>jZ s.heap v g) gs f| [],xs,f,h,r=>by cases(h);cases r;exact .nil| g ::gs,xs,f,h,r=>by obtain⟨v,x,rfl,u,t⟩:=h;cases r with| cons m l=>refine .cons ?_ (IsL.tupI I t l);obtain⟨a,w,rfl,q,p⟩:=u;cases(m);obtain⟨i,j,⟨o,e,c,n,d⟩,_⟩:=I.tuple (aH.of q);rw[IsL.ints.mp p]at j;exact⟨a,o,n,i,J,e,c,d,j⟩
end
end L2
namespace L2
open PySem PySem.Spec PyProof.Rows
variable{A:Around}{X:Cx}{es:List Expr}{aE:Pos}{prog:Program}{s:Shared}{E:Value->Shared->Prop}{w:World}
theorem AN{a:List T}(h:∀t∈a,(aN t).canLay0=true):PyData.canLayAll0 (vb a)=true:=by
 induction a with|nil=>rfl| cons t a b=>
   unfold vb;simp only[PyData.canLayAll0,ca]
   simp_all
section
open Classical in
end
section
end
section
end
section
end
section
end
def Ab(t:TA):TE:=λσ H Q=>t σ H λxs H1=>xs.length<=1000/\∀p H',Same H1 H'->H1 p=none->H' p=some (.lst xs)->Q (.ref p) H'
def mz(t:TA):TE:=λσ H Q=>t σ H λxs H1=>xs.length<=1000/\∀p H',Same H1 H'->H1 p=none->H' p=some (.tup xs)->Q (.ref p) H'
section
theorem vm{t:TA}(h:PA X es t):PE X (.List es aE) (Ab t):=by intro a s g H Q I k;refine wpAny_List_spliced (aG (h aE a s g H _ I k) λj c ⟨i,l,f,r,z,q⟩=>⟨by rw[<-r.length];exact kx z,?_⟩);have d:=f.hok.fresh (ae _);exact⟨.ref c.heap.objs.size,upd l c.heap.objs.size (.lst i),f.laid (λb u e=>aq _ e) (ae _) ⟨kx z,j,0,r,bf _ J⟩,J,q _ _ (Same.new d _) d ze⟩
theorem yn{t:TA}{j}(h:PA X es t):PE X (.Tuple es j aE) (mz t):=by intro a s g H Q I l;refine wpAny_Tuple_spliced (aG (h aE a s g H _ I l) λk c ⟨i,m,f,r,z,q⟩=>⟨by rw[<-r.length];exact kx z,?_⟩);have d:=f.hok.fresh (ae _);exact⟨.ref c.heap.objs.size,upd m c.heap.objs.size (.tup i),f.laid (λb u e=>aq _ e) (ae _) ⟨kx z,k,r,IsTup.new _ _,iw.push⟩,J,q _ _ (Same.new d _) d ze⟩
end
end L2
namespace L2
open PySem PySem.Spec PyProof.Rows PySem.W
structure Ord(n:Nat)(lt:Nat->Nat->Bool):Prop where
 irr:∀i,lt i i=false
 tr:∀i j k,lt i j=true->lt j k=true->lt i k=true
 tot:∀i j,i<n->j<n->i≠j->lt i j=true\/lt j i=true
section
variable{n:Nat}{lt:Nat->Nat->Bool}
end
section
variable{X:Cx}
theorem Ei{c b γ:Type}{R:c->b->Prop}{xs:List c}{a:List b}(h:Paired R xs a){dx:c}{k:b}:∀(l:List Nat),(∀i∈l,i<a.length)->Paired R (l.map λi=>xs.getD i dx) (l.map λi=>a.getD i k):=by
 have f:∀i,i<a.length->R (xs.getD i dx) (a.getD i k):=by induction h with|nil=>intro i e;simp at e| cons r t d=>intro i e;cases i with|zero=>exact r|succ i=>exact d i (by simpa using e)
 intro l;induction l with|nil=>intro _;exact .nil|cons i l d=>intro g;exact .cons (f i (g i bv)) (d λj m=>g j (br _ m))
theorem ue{H:Hp}{a:List T}{xs:List V}(h:IsL H a xs){dt:T}{dx:V}:∀(l:List Nat),(∀i∈l,i<xs.length)->IsL H (l.map λi=>a.getD i dt) (l.map λi=>xs.getD i dx)|[],_=>rfl| i::l,c=>by have g:=c i bv;have b:=h.length;obtain⟨v,f,e⟩:=h.get (i:=i) (t:=a.getD i dt) (by rw[cz,bi (by omega)];rfl);refine⟨_,_,J,?_,ue h l λj d=>c j (br _ d)⟩;show Is H (a.getD i dt) (xs.getD i dx);rw[cz (l:=xs),f];exact e
end
end L2
namespace L2
open PySem PySem.Spec PyProof.Rows
section
variable{X:Cx}
end
end L2
namespace L2
open PySem PySem.Spec PyProof.Rows PySem.W
variable{A:Around}{es:Array DictEntry}{h:Heap}{H:Hp}{ks:List (List Int)}{Q:Option Value->Shared->Prop}{s:Shared}{E:Value->Shared->Prop}
def w9(h:Heap)(d:Addr)(es:Array DictEntry)(ep:Nat):Prop:=∃o,h.get? d=some o/\o.ExactDict/\o.data=.dict es ep
section
variable{prog:Program}{w:World}{d it:Addr}{ep i:Nat}
theorem w9.ty(x:w9 s.heap d es ep):s.TypeIs (.ref d) "dict":=let⟨o,a,b,_⟩:=x;⟨o,a,b.1⟩
theorem w9.at{h':Heap}(x:w9 h d es ep)(k:∀o,h.get? d=some o->h'.get? d=some o):w9 h' d es ep:=let⟨o,a,r⟩:=x;⟨o,k o a,r⟩
theorem w9.lt(x:w9 h d es ep):d<h.objs.size:=let⟨_,a,_⟩:=x;au a
theorem uM{Q:I->Shared->Prop}(e:(d==sysModules)=false)(x:w9 s.heap d es ep)(f:Q (.ref s.heap.objs.size) {s with heap:=s.heap.push {cls:=.type "dict_keyiterator",data:=.fields #[.ref d,.int 0 0,.int es.size 0,.int ep 0]}}):wpAny (model prog w) A (pyIter (.ref d)) Q E s:=by have b:=x.ty;obtain⟨o,c,g,a⟩:=id x;refine wpAny_pyIter_slot b F.slot_dict_iter (cg F.slot_dict_iter b F.entry_dict_iter ?_ (F.args_dict_iter_1 _));unfold Builtin.«dict.__iter__»;refine a4 ?_;unfold Builtin.Dict.dictSlotNone;refine a4 (wpAny_notOrdered_dict b (a9 ?_));show wpAny _ _ (Builtin.Dict.showsAll d>>=_) _ _ s;unfold Builtin.Dict.showsAll;rw[if_neg (by rw[e];exact bu)];refine a4 (a9 (a4 (wpAny_dictEntries c a (a4 (wpAny_dictEpoch c a ?_)))));refine a4 (cx (a9 ⟨_,J,"dict_keyiterator",_,⟨_,bf _ J,J⟩,F.slot_dict_keyiterator_next.lookup,?_⟩));simpa[rawInt]using f
theorem uN(a:s.heap.IsKeyIter it d i es.size ep)(x:w9 s.heap d es ep)(h:i<es.size)(l:∀h',h'.IsKeyIter it d (i+1) es.size ep->Heap.SameBut it s.heap h'->Q (some es[i].key) {s with heap:=h'}):wpAny (model prog w) A (pyNext (.ref it)) Q E s:=by
 obtain⟨m,f,k,e⟩:=id a;obtain⟨n,b,j,c⟩:=id x;unfold pyNext;refine a4 (wpAny_attempt (wpAny_callSpecial?_slot a.typeIs F.slot_dict_keyiterator_next (cg F.slot_dict_keyiterator_next a.typeIs F.entry_dict_keyiterator_next (a4 (a9 (a4 (a4 ?_)))) (F.args_dict_keyiterator_next_1 _))))
 first|refine a4 (wpAny_typeNameOfWhole_keyiter a.typeIs (a9 ?_))|refine a4 (wpAny_typeNameOf_keyiter a.typeIs (a9 ?_))
 refine a4 (wpAny_fieldsOf f e ?_);simp only[show Builtin.Dict_items.ownsTuple "dict_keyiterator"=false from by decide,Bool.false_eq_true,if_false];show wpAny _ _ (if(Value.ref d==Value.none)=true then _ else _) _ _ s;rw[if_neg (show¬((Value.ref d==Value.none)=true)from bu)];refine a4 (a9 (a4 (wpAny_dictEntries b c ?_)));rw[if_neg (by simp)];refine a4 (a9 (a4 (wpAny_dictEpoch b c ?_)));rw[if_neg (by simp)];refine a9 ?_;simp only[(by omega),if_false,bz,dj h];refine a4 ?_;first|refine a4 (wpAny_typeNameOfWhole_keyiter a.typeIs (a9 ?_))|refine a4 (wpAny_typeNameOf_keyiter a.typeIs (a9 ?_))
 refine a4 (wpAny_isOneOf_keyiter a.typeIs ?_);show wpAny _ _ (setField (.ref it) 1 (rawInt (i+1))>>=_) _ _ s;refine a4 (wpAny_setField f e (by simp) ?_);have g:(s.heap.update it (Obj.mapFields (·.setIfInBounds 1 (rawInt (i+1))))).IsKeyIter it d (i+1) es.size ep:=
  ⟨_,Heap.get?_update_self _ f (Obj.isFreed_of_fields (Obj.data_mapFields e _)),(Obj.cls_mapFields ..).trans k,by rw[Obj.data_mapFields e];simp[rawInt]⟩
 refine a4 (wpAny_holding (a4 (wpAny_isOneOf_keyiter g.typeIs ?_)));exact a9 (a9 ⟨_,J,a9 (l _ g (Heap.SameBut.update ..))⟩)
theorem tY(h:A.handled=none)(a:s.heap.IsKeyIter it d i es.size ep)(x:w9 s.heap d es ep)(g:es.size<=i)(k:∀h',Heap.ExtBut it s.heap h'->Q none {s with heap:=h'}):wpAny (model prog w) A (pyNext (.ref it)) Q E s:=by
 obtain⟨l,e,n,f⟩:=id a;obtain⟨m,b,j,c⟩:=id x;unfold pyNext;refine a4 (wpAny_attempt (wpAny_callSpecial?_slot a.typeIs F.slot_dict_keyiterator_next (cg F.slot_dict_keyiterator_next a.typeIs F.entry_dict_keyiterator_next (a4 (a9 (a4 (a4 ?_)))) (F.args_dict_keyiterator_next_1 _))))
 first|refine a4 (wpAny_typeNameOfWhole_keyiter a.typeIs (a9 ?_))|refine a4 (wpAny_typeNameOf_keyiter a.typeIs (a9 ?_))
 refine a4 (wpAny_fieldsOf e f ?_);simp only[show Builtin.Dict_items.ownsTuple "dict_keyiterator"=false from by decide,Bool.false_eq_true,if_false];show wpAny _ _ (if(Value.ref d==Value.none)=true then _ else _) _ _ s;rw[if_neg (show¬((Value.ref d==Value.none)=true)from bu)];refine a4 (a9 (a4 (wpAny_dictEntries b c ?_)));rw[if_neg (by simp)];refine a4 (a9 (a4 (wpAny_dictEpoch b c ?_)));rw[if_neg (by simp)];refine a9 ?_;simp only[(by omega),if_false,bz,Array.getElem?_eq_none g];refine a4 ?_;first|refine a4 (wpAny_typeNameOfWhole_keyiter a.typeIs (a9 ?_))|refine a4 (wpAny_typeNameOf_keyiter a.typeIs (a9 ?_))
 show wpAny _ _ (setField (.ref it) 0 .none>>=_) _ _ s;refine a4 (wpAny_setField e f (by simp) ?_);refine a4 ?_;simp only[newExc,newTuple];refine a4 (cx (a4 (wpAny_of_eq (by first|rfl|(simp only[firstArgMember];rfl)) (cx ?_ (by size_fits)))) (by size_fits));simp only[raiseNew];refine a4 (wpAny_handled ?_);rw[(h)];refine a4 (a9 (wpAny_throw ?_));refine a4 (dk ⟨_,bf _ J,J⟩ isSubtype_stop ?_);exact a9 (k _ (((Heap.SameBut.update ..).extBut.push _).push _))
theorem CS(n:A.handled=none)(I:Y)(j:d≠I):Walks prog w A I [I,d] [I] es.size (λi v=>∃e,es[i]?=some e/\v=e.key) (λi h=>h.IsKeyIter I d i es.size ep/\w9 h d es ep) where
 sub:=λb a=>by simp at a;simp[a]
 frame:=λ_ _ _ st hk=>⟨st.1.at λo e=>hk I (by simp) o e,st.2.at λo e=>hk d (by simp) o e⟩
 item:=λi s Q E m st g=>uN st.1 st.2 m λl f c=>g _ l s.toks ⟨_,dj m,J⟩ ⟨f,st.2.at λo e=>c.extBut d o j e⟩ λb o a e=>c.extBut b o (λh=>a (by simp[h])) e
 done:=λs Q E st g=>tY n st.1 st.2 (ae _) λl k=>g l s.toks λb o a e=>k b o (λh=>a (by simp[h])) e
 self:=λ_ _ _ _ st g=>wpAny_pyIter_keyiter st.1 g
theorem AX(lo:(d==sysModules)=false):KdlSrc prog w "dict" d d es.size (λi v=>∃e,es[i]?=some e/\v=e.key) (λh=>w9 h d es ep) where
 type:=λ_ x=>x.ty
 there:=λ_ x=>⟨x.lt,x.lt⟩
 keep:=λ_ _ x hk=>x.at λo e=>hk d (.inl J) o e
 notList:=by decide
 notTuple:=by decide
 hint:=λ_ _ _ _ x a=>kdl_hint_dict x.ty a
 iter:=λ_ _ b x=>⟨_,_,(λ_ _ a=>uM lo x a),CS b _ (az x.lt),⟨⟨_,bf _ J,J,J⟩,x.at λo e=>aq _ e⟩⟩
end
noncomputable def kI(g:List Int):List aI:=g.map Sum.inl
theorem Z2(g:O Int):(kI g).map kV=g.map V.int:=by unfold kI;rw[c7];rfl
theorem sT{g c:List Int}(h:kI g=kI c):g=c:=by unfold kI at h;induction g generalizing c with|nil=>simp_all| cons a g d=>cases c with|nil=>cases h| cons b c=>grind
inductive nc(H:Hp)(d:Addr)(ks:List (List Int)):Prop|mk:∀kvs:List (List aI×V),H d=some (.dT kvs)->kvs.map (·.1)=ks.map kI->nc H d ks
theorem nc.len{d:Y}{kvs:O (O aI×V)}(e:H d=some (.dT kvs))(k:kvs.map (·.1)=ks.map kI):kvs.length=ks.length:=by
 have:=congrArg List.length k
 grind
theorem yS{kvs:List (List aI×V)}{xs:List (List aI×Addr×Value)}(b:KT H kvs xs):∀{a:List (List Int)},kvs.map (·.1)=a.map kI->IsL H (a.map tI) (xs.map λx=>V.ref x.2.1):=by
 induction b with
 | nil=>
   intro a k;cases a with
   |nil=>rfl
   |cons=>cases k
 | @cons p x i h f t e=>
   intro a k;cases a with
   |nil=>cases k
   | cons g a=>injection k with c d;refine⟨_,_,J,⟨x.2.1,_,J,f.2.1,?_⟩,e d⟩;have c:p.1=kI g:=c;rw[c,Z2];exact IsL.ints.mpr J
section
variable{X:Cx}
inductive jM(xs:List V)(H:Hp)(Q:VK):Prop|mk:∀d ks,xs=[.ref d]->nc H d ks->Q (.int ((ks.length:Nat):Int)) H->jM xs H Q
theorem Dh:qx X (.builtin "len") jM:=by
 intro i s B H m C Q I r h;obtain⟨d,a,rfl,⟨p,e,k⟩,q⟩:=h;obtain⟨u,rfl,n⟩:=qt r;cases(show u=Value.ref d from n);have b:=nc.len e k;obtain⟨z,v,m,f,⟨o,y,F,j,w,c,t,_,_⟩⟩:=mr I.hok e;have g:y.size=a.length:=by have E:=size_of_entries t;have D:=Paired.length f;omega
 have l:s.TypeIs (.ref d) "dict":=⟨o,j,w.1⟩
 have x:((a.length:Nat):Int)<2^63:=by rw[<-b];rw[sizeLine_eq]at z;omega
 refine Calls.call_function_entry kind_len plain_len entry_len (args_len1 _) ?_;unfold Builtin.«len»;refine a4 (m:=oneArg "len" _) (a9 ?_);refine a4 (m:=callSpecial? (.ref d) (Str.ofString "__len__")) (wpAny_callSpecial?_slot (name:=Str.ofString "__len__") l PySem.F.slot_dict_len (cg PySem.F.slot_dict_len l PySem.F.entry_dict_len ?_ (PySem.F.args_dict_len_1 _)));show wpAny _ _ (dictSize d>>=_) _ _ s;unfold dictSize;refine a4 (a4 (wpAny_dictEntries j c (a9 ?_)));show wpAny _ _ (Builtin.Dict.pendingCount d>>=_) _ _ s;refine a4 (wpAny_pendingCount_other v (wpAny_ret_mkInt ?_));rw[g];have A:((a.length:Nat):Int)+((0:Nat):Int)=((a.length:Nat):Int):=by simp
 rw[A];refine a4 (wpAny_holding (a9 (a4 (wpAny_letGo ?_))));show wpAny _ _ (if((a.length:Nat):Int)<0 then _ else _) _ _ _;rw[if_neg (by omega)];show wpAny _ _ (if((a.length:Nat):Int)≥2^63 then _ else _) _ _ _;rw[if_neg (by omega)];exact a4 (wpAny_mkInt (a9 ⟨_,J,.int _,H,(I.tok _).tok _,⟨_,J⟩,q⟩))
inductive gS(xs:List V)(H:Hp)(Q:VK):Prop|mk:∀d ks,xs=[.ref d]->nc H d ks->(∀ys p H',Same H H'->H p=none->H' p=some (.lst ys)->IsL H' (ks.map tI) ys->Q (.ref p) H')->gS xs H Q
theorem D1(K:X.calm=true):qx X (.type "list") gS:=by
 intro p s P H c S Q I r h;obtain⟨d,W,rfl,⟨A,e,k⟩,q⟩:=h;obtain⟨u,rfl,y⟩:=qt r;cases(y);obtain⟨z,G,c,f,⟨o,es,ep,D,l,g,w,_,_⟩⟩:=mr I.hok e;have B:=Paired.length f;have F:=size_of_entries w;refine kdl_call (AX G) (I.ok.hd K) ⟨o,D,l,g⟩ (by omega) λh' U b N hk Z a=>?_;have C:yo (c.map λx=>V.ref x.2.1) b.toList:=Vh (by have i:=a.1;simp_all) λj x v m e2=>by obtain⟨en,i,L⟩:=a.2 j v (by simp_all);rw[entry_at w j]at i;rw[bc]at m;cases M:c[j]? with|none=>simp_all| some R=>rw[M]at m i;cases m;cases i;rw[L];rfl
 have E:=yS f k;have t:=I.hok.fresh (ae s.heap.objs.size);have n:=Same.new t (.lst (c.map λx=>V.ref x.2.1));exact⟨.ref s.heap.objs.size,_,I.laid (o:=.lst (c.map λx=>V.ref x.2.1)) hk (ae _) ⟨by simp_all,b.toList,N,C,by omega⟩,J,q _ _ _ n t ze (E.mono n)⟩
end
end L2
namespace L2
open PySem PySem.Spec PyProof.Rows
variable{a:Addr}{A:Around}{sl:Array (Option Value)}{its xs:Array Value}{X:Cx}{Q:Option Value->Shared->Prop}{prog:Program}{R:Result->Shared->Prop}{s:Shared}{E:Value->Shared->Prop}{w:World}
theorem Ez:typeLookup (.type "list") "keys"=pure none:=am_miss_of_fast (by rfl)
section
set_option maxRecDepth 8000 in
theorem E2{k:Nat}{u:Tok}{Q:Value->Shared->Prop}(hx:s.heap.get? a=some {cls:=.type "list",dict:=none,data:=.seq xs k,slots:=sl})(hA:A.handled=none)
  (h:∀h' tk e,Heap.NewExcOf s.heap h' e "AttributeError"->E (.ref e) {s with heap:=h',toks:=tk}):wpAny (model prog w) A (getAttrBy (.ref a) (.str "keys" u) false) Q E s:=by
 obtain⟨hp,g,d,tk,os⟩:=s;have hT:∀tk',(⟨hp,g,d,tk',os⟩:Shared).TypeIs (.ref a) "list":=λ_=>⟨_,hx,rfl⟩
 have f1:=sub_AttributeError;have f3:=PySem.F.slot_list_getattribute.lookup;have f4:=PySem.F.slot_list_getattribute.bind (.ref a);have f5:=am_list_getattr_none;unfold getAttrBy
 repeat(any_goals (first|assumption|exact hT _|((with_reducible show wpAny _ _ (call (Value.builtin "list.__getattribute__") _ _) _ _ _);refine call_meets PySem.F.slot_list_getattribute (hT _) am_entry_list_getattribute (PySem.F.args_list_getattribute_2 _ _) (meets_getattribute_miss_list a xs k sl "keys" _ Ez (by decide+kernel) (by size_fits)) ⟨hx,hA,λh' tk' e hx'=>?_⟩)|wp_step))
 obtain⟨t',u',he⟩:=hx'.there;show wpAny _ _ (getattributeRaised _ _ _ _ _ _ _) _ _ _;unfold getattributeRaised
 repeat(any_goals (first|assumption|wp_step))
 exact h _ _ _ hx'.of
theorem Eu{k:Nat}(d:s.heap.get? a=some {cls:=.type "list",dict:=none,data:=.seq xs k,slots:=sl})(i:A.handled=none)
  (h:∀h' tk,(∀b o,s.heap.get? b=some o->h'.get? b=some o)->Q none {s with heap:=h',toks:=tk}):wpAny (model prog w) A (getAttr? (.ref a) "keys") Q E s:=by unfold getAttr? getAttrBy?;refine a4 (wpAny_mkText ?_);refine a4 (wpAny_attempt (E2 d i λh' tk e x=>?_));obtain⟨c,r,f,g,_⟩:=x.there;refine a4 (dk ⟨_,f,g⟩ sub_AttributeError ?_);exact a9 (h _ _ x.keeps)
end
abbrev Vf:=List aI×Addr×Value
noncomputable def sE(xs rows:List Vf):List Vf:=rows.foldl (λB r=>storedH B r.1 r.2.1 r.2.2) xs
theorem EQ(xs:O Vf)(k:O aI)(a:Y)(v:I):(storedH xs k a v).length<=xs.length+1:=by
 unfold storedH
 grind
section
def nE(prog:Program)(w:World)(h:Heap)(d B:Addr)(v:Value)(r:Vf):Prop:=∃b,v=.ref b/\b≠d/\b≠B/\r.2.1≠d/\r.2.1≠B/\h.IsTuple b #[.ref r.2.1,r.2.2]/\(tupleKind (zy prog w)).is h r.1 r.2.1
theorem nE.keep{h h':Heap}{d a:Y}{v:I}{r:Vf}(p:nE prog w h d a v r)(k:∀c o,c≠d->c≠a->h.get? c=some o->h'.get? c=some o):nE prog w h' d a v r:=by obtain⟨b,e,l,j,i,g,⟨o,t,x,n,u⟩,⟨s,y,m,f,q⟩⟩:=p;exact⟨b,e,l,j,i,g,⟨o,k _ _ l j t,x,n,u⟩,⟨s,y,m,k _ _ i g f,q⟩⟩
theorem CO{d p t:Addr}{rows:List Vf}(hu:A.units+1<cLine)(hh:A.handled=none)(B:d≠p)(Z:t≠p)(X:t≠d)(hl:its.size=rows.length)(ag:rows.length<=sizeLine):
  ∀ (k i:Nat) (s:Shared) (xs:List Vf),rows.length-i=k->i<=rows.length->xs.length<=i->s.heap.IsListIter p t i->s.heap.IsList t its->s.heap.DictOfH (tupleKind (zy prog w)) d xs->
    (∀(j:Nat) v r,its[j]?=some v->rows[j]?=some r->nE prog w s.heap d p v r)->
    (∀h' tk,h'.DictOfH (tupleKind (zy prog w)) d (sE xs (rows.drop i))->(∀b o,b≠d->b≠p->s.heap.get? b=some o->h'.get? b=some o)->R (.ok (.ret .none)) {s with heap:=h',toks:=tk})->
    codeAny (model prog w) A (.builtin "dict.update.loop" ⟨[.ref d,.ref p,rawInt i,.none],[]⟩) R s:=by
 intro k;induction k with| zero=>
   intro i s xs hk hi hz f N hd S hR;have e:i=rows.length:=by omega
   refine codeAny_builtin Yx ?_;rw[Around.under_plainId qe _];refine a4 (wpAny_pyNext_list_end (hh) f N (Array.getElem?_eq_none (by omega)) λh' eb=>?_);refine a4 (a9 (a9 ?_));refine hR h' s.toks ?_ λb o G l z=>eb b o l z;rw[e,List.drop_length];obtain⟨o,es,ep,W,hc,D,he,C,y⟩:=hd;refine⟨o,es,ep,eb d o B W,hc,D,he,λx F=>?_,y⟩;obtain⟨P,aB,m,a,n⟩:=C x F;refine⟨P,aB,m,eb _ _ (λz=>?_) a,n⟩;obtain⟨oi,u,E,_⟩:=f;rw[z,u]at a;cases a;rw[E]at n;exact absurd n.1 (by decide)| succ k ih=>
   intro i s xs hk hi hz f N hd S hR;have h:i<rows.length:=by omega
   have F:its[i]?=some its[i]:=dj (by omega);have hr:=bi h;have P0:=S i _ _ F hr;refine codeAny_builtin Yx ?_;rw[Around.under_plainId qe _];refine a4 (wpAny_pyNext_list_item f N F λg L H=>?_);have kg:∀c o,c≠d->c≠p->s.heap.get? c=some o->g.get? c=some o:=λc o _ l z=>H.extBut c o l z;obtain⟨b,hb,a1,aS,ay,aw,M,K⟩:=P0.keep kg;have av:g.DictOfH (tupleKind (zy prog w)) d xs:=by obtain⟨o,es,ep,W,hc,D,he,C,y⟩:=hd;refine⟨o,es,ep,H.extBut d o B W,hc,D,he,λx F=>?_,y⟩;obtain⟨P,aB,m,a,n⟩:=C x F;refine⟨P,aB,m,H.extBut _ _ (λz=>?_) a,n⟩;obtain⟨oi,u,E,_⟩:=f;rw[z,u]at a;cases a;rw[E]at n;exact absurd n.1 (by decide)
   rw[hb];refine a4 (wpAny_holding (a4 (wpAny_tryCatch ?_)));unfold Builtin.Dict.pairItems;refine a4 (wpAny_typeOf (Heap.IsTuple.typeIs M) ?_);rw[if_pos (by rfl)];obtain⟨ob,U,_,nb,ao⟩:=M;refine a4 (wpAny_seqItems U ao (a9 ?_));refine wpAny_holding (wpAny_dictSet_heap (tupleKind_room_in1 hu) K av (λg2 ap q=>?_) (cj (Nat.le_of_lt (f7 hz h)) ag));refine a9 ⟨plainId_quiet qe _,?_⟩;have e1:rawInt (i+1)=rawInt ((i+1:Nat)):=by simp
   have keep:=λc o G l z=>q.extBut c o G (H.extBut c o l z);rw[e1];have lz:=EQ xs rows[i].1 rows[i].2.1 rows[i].2.2;refine ih (i+1) _ _ (by omega) h (by omega) (L.extBut q.extBut (aj B)) (N.extBut H.extBut Z |>.extBut q.extBut X) ap (λj v r hv Q=>(S j v r hv Q).keep keep) λh' tk hD ah=>?_;refine hR h' tk ?_ λc o G l z=>ah c o G l (keep c o G l z);have e2:=List.drop_eq_getElem_cons h;rw[e2];exact hD
end
inductive cE(H:Hp)(b:Addr)(r:List Int×V):Prop|mk:∀kb,H b=some (.tup [.ref kb,r.2])->H kb=some (.tup (r.1.map V.int))->cE H b r
theorem rW{X:Cx}{c:List (Addr×Obj)}{i:St}{H:Hp}{s:Shared}(I:Inv X c i H s):∀{d:List Addr}{rows:List (List Int×V)},Paired (cE H) d rows->∃a:List Vf,a.length=d.length/\Paired (λ(r:List Int×V) (q:Vf)=>kI r.1=q.1/\H q.2.1=some (.tup (q.1.map kV))/\yk r.2 q.2.2) rows a/\
  ∀(j:Nat) b q,d[j]?=some b->a[j]?=some q->s.heap.IsTuple b #[.ref q.2.1,q.2.2]/\(tupleKind (zy X.prog X.w)).is s.heap q.1 q.2.1
 |_,_,.nil=>⟨[],J,.nil,λj b q e=>by simp⟩
 | b ::d,r::rows,.cons h t=>by
   obtain⟨a,A,x,z⟩:=rW I t;obtain⟨u,e,hk⟩:=h;obtain⟨_,v,l,w,_⟩:=(I.hok b _ e)
   cases l with
   | @cons _ y _ _ p o=>
     cases o with
     | @cons _ k _ _ n m=>
       cases m;cases(p);rw[<-Z2]at hk;refine⟨(kI r.1,u,k)::a,by grind,.cons ⟨J,hk,n⟩ x,λj B q g f=>?_⟩;cases j with
       | zero=>simp at g f;subst g f;exact⟨w,Yh I.hok hk⟩
       |succ j=>grind
section
end
section
end
end L2
namespace L2
open PySem PySem.Spec PyProof.Rows PySem.W
variable{A:Around}{Q:Bool->Shared->Prop}{s:Shared}{E:Value->Shared->Prop}
section
variable{prog:Program}{w:World}{K:Type}[DecidableEq K](knd:KeyKind prog w K)
variable{knd}
theorem Dv{n:Nat}{i:O K}{a:Y}(f:IsTupleKey knd s.heap i a)(h:Q true s):wpAny (model prog w) A (eqIsQuiet (n+1) (.ref a)) Q E s:=by have g:=f.typeIs;obtain⟨o,t,m,j,_,l,k⟩:=f;unfold eqIsQuiet;refine a4 (wpAny_specialOf g F.slot_tuple_eq.lookup ?_);refine a4 (dk g isSubtype_tuple_tuple ?_);simp only[Bool.not_true,Bool.false_eq_true,if_false];refine a4 (wpAny_seqItems j l ?_);refine a4 ?_;rw[<-Array.forIn_toList];refine wpAny_forIn_list _ (λvw r c=>r.1=none/\c=s/\∀v∈vw,carriedByValue v=true) _ ?_ ?_ _ _ ⟨J,J,k.byValue⟩;rintro v vw r c ⟨e,rfl,b⟩;rw[eqIsQuiet_byValue _ (b v bv)];refine a4 (a9 ?_);simp only[Bool.not_true,Bool.false_eq_true,if_false];exact a9 ⟨J,J,λu d=>b u (br _ d)⟩;rintro⟨q,p⟩ c ⟨e,rfl,_⟩;simp only at e;subst e;exact a9 h
end
noncomputable def tN(k:List (List Int)):T:=.tup (k.map tI)
abbrev xN:=List (List Int)
variable{kvs:List (xN×V)}{P:Program}
theorem X3:∀(a:List Int),qj (a.map T.int)|[]=>trivial|c::a=>⟨trivial,X3 a⟩
section
variable{w:World}{H H':Hp}{d:Addr}
end
section
variable{X:Cx}{o i e aR:Expr}{aE cD dP:Pos}{td ty tv:TE}
end
end L2
namespace L2
open PySem PySem.Spec PyProof.Rows
variable{A:Around}{its:Array Value}{X:Cx}{prog:Program}{R:Result->Shared->Prop}{w:World}
section
variable{h h':Heap}
end
section
end
section
def sj(prog:Program)(w:World)(h:Heap)(v:Value)(F:aI×Value):Prop:=∃b B,v=.ref b/\h.IsTuple b #[B,F.2]/\(zy prog w).is F.1 B=true
theorem BT{d a t:Addr}{rows:List (aI×Value)}(hh:A.handled=none)(q:d≠a)(P:t≠a)(N:t≠d)(hl:its.size=rows.length)(Q:rows.length<=sizeLine):
  ∀ (k i:Nat) (s:Shared) (kvs:List (aI×Value)),rows.length-i=k->i<=rows.length->kvs.length<=i->s.heap.IsTupleIter a t i->s.heap.IsTuple t its->s.heap.DictOf (zy prog w) d kvs->
    (∀(j:Nat) v F,its[j]?=some v->rows[j]?=some F->∃b,v=.ref b/\b≠d/\b≠a/\sj prog w s.heap v F)->
    (∀h' tk,h'.DictOf (zy prog w) d (merged kvs (rows.drop i))->(∀b o,b≠d->b≠a->s.heap.get? b=some o->h'.get? b=some o)->R (.ok (.ret .none)) {s with heap:=h',toks:=tk})->
    codeAny (model prog w) A (.builtin "dict.update.loop" ⟨[.ref d,.ref a,rawInt i,.none],[]⟩) R s:=by
 intro k;induction k with| zero=>
   intro i s kvs hk hi hz u G hd K hR;have e:i=rows.length:=by omega
   refine codeAny_builtin Yx ?_;rw[Around.under_plainId qe _];show wpAny _ A.in1 (pyNext (.ref a)>>=_) _ _ s;refine a4 (wpAny_pyNext_tuple_end (show A.in1.handled=none from hh) u G (Array.getElem?_eq_none (by omega)) λh' eb=>?_);show wpAny _ A.in1 (Builtin.Dict.addKeywords d []>>=_) _ _ _;refine a4 (a9 ?_);refine a9 ?_;refine hR h' s.toks ?_ λb o m f z=>eb b o f z;rw[e,List.drop_length];show h'.DictOf (zy prog w) d kvs;obtain⟨o,es,ep,M,r⟩:=hd;exact⟨o,es,ep,eb d o q M,r⟩| succ k ih=>
   intro i s kvs hk hi hz u G hd K hR;have l:i<rows.length:=by omega
   have hx:its[i]?=some its[i]:=dj (by omega);have hr:rows[i]?=some rows[i]:=bi l;obtain⟨b,hb,ap,H,b',p,E,ao,C⟩:=K i _ _ hx hr;rw[hb]at E;cases E;refine codeAny_builtin Yx ?_;rw[Around.under_plainId qe _];show wpAny _ A.in1 (pyNext (.ref a)>>=_) _ _ s;refine a4 (wpAny_pyNext_tuple_item u G hx λg D B=>?_);have n:g.IsTuple b #[p,rows[i].2]:=ao.extBut B.extBut H;have ag:g.DictOf (zy prog w) d kvs:=by obtain⟨o,es,ep,M,r⟩:=hd;exact⟨o,es,ep,B.extBut d o q M,r⟩
   rw[hb];show wpAny _ A.in1 (holding [Value.ref b] _>>=_) _ _ _;refine a4 (wpAny_holding ?_);refine a4 (wpAny_tryCatch ?_);unfold Builtin.Dict.pairItems;refine a4 (wpAny_typeOf (T:="tuple") (Heap.IsTuple.typeIs (s:={s with heap:=g}) n) ?_);rw[if_pos (by rfl)];obtain⟨ob,L,_,nb,X⟩:=n;refine a4 (wpAny_seqItems (s:={s with heap:=g}) L X ?_);refine a9 ?_;show wpAny _ A.in1 (holding [p,rows[i].2] (dictSet d p rows[i].2)) _ _ _;refine wpAny_holding (wpAny_dictSet_pairs (knd:=zy prog w) C ag (λg2 Z h=>?_) (cj (Nat.le_of_lt (f7 hz l)) Q));refine a9 ⟨plainId_quiet qe _,?_⟩;have e1:rawInt ((i:Int)+1)=rawInt ((i+1:Nat):Int):=by simp
   have keep:∀c o,c≠d->c≠a->s.heap.get? c=some o->g2.get? c=some o:=λc o m f z=>h.extBut c o m (B.extBut c o f z);show codeAny (model prog w) A (.builtin "dict.update.loop" ⟨[.ref d,.ref a,rawInt ((i:Int)+1),.none],[]⟩) R _;rw[e1];refine ih (i+1) _ _ (by omega) l ?_ (D.extBut h.extBut (aj q)) (G.extBut B.extBut P |>.extBut h.extBut N) Z (λj v F hv S=>?_) λh' tk hD W=>?_
   . unfold stored;split
     . rw[ai];omega
     . rw[cn,List.length_singleton];omega
   . obtain⟨c,hc,m,f,c',y,x,ah,U⟩:=K j v F hv S;refine⟨c,hc,m,f,c',y,x,?_,U⟩;rw[hc]at x;cases x;exact(ah.extBut B.extBut f).extBut h.extBut m
   . refine hR h' tk ?_ λc o m f z=>W c o m f (keep c o m f z);have e2:rows.drop i=rows[i]::rows.drop (i+1):=List.drop_eq_getElem_cons l;rw[e2];exact hD
end
section
def Aw:List V->Hp->VK->Prop:=λxs H Q=>∃(a:Addr)(bs:List Addr)(kvs:List (aI×V)),xs=[.ref a]/\H a=some (.tup (bs.map V.ref))/\Paired (λ(b:Addr) (B:aI×V)=>H b=some (.tup [kV B.1,B.2])) bs kvs/\
 ∀p,H p=none->Q (.ref p) (upd H p (.dK (Yf [] kvs)))
theorem DY (hc:X.calm=true):qx X (.type "dict") Aw:=by
 intro a1 s σ H xs us Q I r h;obtain⟨a,f,d,rfl,ha,aw,q⟩:=h;obtain⟨u,rfl,rx⟩:=qt r;cases rx;obtain⟨hz,l,rv,⟨⟨cc,cd,a7,aS⟩,h1,h2,n,h3⟩,nd⟩:=(show wq X.prog X.w H s.heap a (.tup (f.map V.ref))from I.hok a _ ha)
 have h4:=nd _ h1;dsimp only at h2 h3 h4;subst h2 h3 h4;have hh:X.A.handled=none:=I.ok.hd hc;have rowsOf:∀(f:O Y) (d:O (aI×V)),Paired (λ(b:Addr) (k:aI×V)=>H b=some (.tup [kV k.1,k.2])) f d->∃c:O (aI×Value),KV d c/\c.length=f.length/\
   ∀(j:Nat) b k,f[j]?=some b->c[j]?=some k->sj X.prog X.w s.heap (.ref b) k/\H b≠none:=by
  intro f d hp;induction hp with|nil=>exact⟨[],.nil,J,λj b k G=>by simp at G⟩| @cons b k f d G _ ih=>
    obtain⟨c,F,hl,hr⟩:=ih;obtain⟨_,a2,N,W,_⟩:=(show wq X.prog X.w H s.heap b (.tup [kV k.1,k.2])from I.hok b _ G)
    cases N with| @cons _ kq _ _ r1 r2=>cases r2 with| @cons _ vq _ _ r3 r4=>cases r4;refine⟨(k.1,vq)::c,.cons ⟨J,r3⟩ F,by simp[hl],λj b' S L K=>?_⟩;cases j with| zero=>simp at L K;subst L K;exact⟨⟨b,kq,J,W,Y3 r1⟩,by rw[G];simp⟩|succ j=>exact hr j b' S (by simpa using L) (by simpa using K)
 obtain⟨c,F,a5,w⟩:=rowsOf f d aw;have ao:l.length=f.length:=by have:=rv.length;rw[ai]at this;omega
 have a3:f.length<=sizeLine:=by rw[ai]at hz;exact hz
 refine callType_codes (Q₁:=λy p=>y=.ref s.heap.objs.size/\p={s with heap:=s.heap.push {cls:=.type "dict",data:=.dict #[]}}) PySem.F.kt_called_dict (PySem.F.kt_typeCall_dict_1 _) PySem.F.entry_dict_init (kt_code_dict_new _ ⟨J,J⟩) ?_;rintro y p ⟨rfl,rfl⟩;have i:(s.heap.push {cls:=.type "dict",data:=.dict #[]}).DictOf (zy X.prog X.w) s.heap.objs.size []:=Heap.DictOf.new s.heap;have x:(s.heap.push {cls:=.type "dict",data:=.dict #[]}).get? a=some {cls:=.type "tuple",dict:=none,data:=.seq l.toArray n,slots:=aS}:=aq _ h1;have D:a<s.heap.objs.size:=au h1;refine⟨i.typeIs,PySem.F.args_dict_init_2 _ _,?_⟩;unfold Builtin.«dict.__init__»;refine a4 ?_;unfold Builtin.Dict.selfAndRest;refine a4 (wpAny_notOrdered_dict i.typeIs ?_);show wpAny _ _ (pure (s.heap.objs.size,[Value.ref a])) _ _ _;refine a9 ?_;show wpAny _ _ (Builtin.Dict.updateFrom "dict.__init__" s.heap.objs.size (.ref a) [] .none) _ _ _;unfold Builtin.Dict.updateFrom;refine a4 (wpAny_typeOf (T:="tuple") ⟨_,x,J⟩ ?_);rw[if_pos (by decide)];refine a4 (EH (s:={s with heap:=s.heap.push {cls:=.type "dict",data:=.dict #[]}}) x hh λg tk hk=>?_);simp only[Option.isNone_none,if_true];refine a4 (wpAny_rule ?_);have B:g.IsTuple a l.toArray:=⟨_,hk _ _ x,J,n,J⟩
 refine a4 (wpAny_pyIter_tuple (s:={s with heap:=g,toks:=tk}) B ?_);refine a9 ⟨plainId_quiet qe _,?_⟩;have m:s.heap.objs.size+1<=g.objs.size:=by obtain⟨o,es,ep,Z,_⟩:=i;exact au (hk _ _ Z)
 have ap:(g.push {cls:=.type "tuple_iterator",data:=.fields #[.ref a,.int 0 0]}).DictOf (zy X.prog X.w) s.heap.objs.size []:=by obtain⟨o,es,ep,Z,P⟩:=i;exact⟨o,es,ep,aq _ (hk _ _ Z),P⟩
 have up:∀b o,s.heap.get? b=some o->(g.push {cls:=.type "tuple_iterator",data:=.fields #[.ref a,.int 0 0]}).get? b=some o:=λb o e=>aq _ (hk _ _ (aq _ e));refine BT (A:=X.A.in1) (rows:=c) (its:=l.toArray) (t:=a) hh (az (Nat.lt_of_succ_le m)) (az (Nat.lt_trans D (Nat.lt_of_succ_le m))) (az D) (by rw[cq];omega) (by omega) c.length 0 _ [] (by omega) (bo _) (ae _)
  ⟨_,bf _ J,J,J⟩ (B.push _) ap (λj v k A ah=>?_) λh' M hD hK=>?_
 . have A:l[j]?=some v:=by simpa using A
   have hj:j<f.length:=by have:=(c9.mp A).1;omega
   obtain⟨u,hu,ru⟩:=rv.get (i:=j) (x:=V.ref f[j]) (by rw[bc,bi hj];rfl);rw[hu]at A;cases A;cases(show v=Value.ref f[j]from ru);obtain⟨⟨b',U,ay,av,E⟩,a6⟩:=w j f[j] k (bi hj) ah;cases ay;obtain⟨ob,C,P⟩:=av;have t:f[j]<s.heap.objs.size:=au C;exact⟨f[j],J,az t,az (Nat.lt_trans t (Nat.lt_of_succ_le m)),f[j],U,J,⟨ob,up _ _ C,P⟩,E⟩
 . refine⟨J,?_⟩;have keep:∀b o,s.heap.get? b=some o->h'.get? b=some o:=λb o e=>hK b o (az (au e)) (az (Nat.lt_trans (au e) (Nat.lt_of_succ_le m))) (up b o e);have hD:h'.DictOf (zy X.prog X.w) s.heap.objs.size (merged [] c):=hD;have R:KV (Yf [] d) (merged [] c):=F.merge .nil;have ag:(Yf [] d).length<=sizeLine:=by
    have L:=Y2 d [];have K:d.length=f.length:=by have:=F.length;omega
    have e3:([]:O (aI×V)).length=0:=rfl;omega
   refine⟨.ref s.heap.objs.size,_,I.laid (a:=s.heap.objs.size) (o:=.dK (Yf [] d)) (t':=M) keep (ae _) (pr ag ?_ R hD),J,q _ (I.hok.fresh (ae _))⟩;obtain⟨_,z,_⟩:=uJ (P:=X.prog) (w:=X.w) (H:=H) s.heap I.big;exact z
end
end L2
namespace L2
open PySem PySem.Spec PyProof.Rows PySem.W
variable{a b:Addr}{A:Around}{es:Array DictEntry}{r:Bool}{X:Cx}{D:Ends}{e f:Expr}{h:Heap}{H:Hp}{pins:List (Addr×Obj)}{kvs:List (aI×V)}{eW:List Expr}{ns:List Int}{cap:List Nat}{its:List Value}{o:Obj}{apos cpos aE dP:Pos}{P prog:Program}{R:Result->Shared->Prop}{s:Shared}{σ:St}{td to tx:TE}{g:TG}{tb:TS}{y:V}{u v:Value}{E Q:Value->Shared->Prop}{w:World}
noncomputable def dR:Option Int->List Int->Option Int|b,[]=>b|none,k::r=>dR (some k) r|some m,k::r=>dR (some (if k<m then k else m)) r
noncomputable def ou:Option (Int×Tok)->Array Value|none=>#[]|some (n,t)=>#[.int n t,.int n t]
theorem eK(A:Around)(s:Shared)(a:Int)(t:Tok)(c:Int)(u:Tok)(prog:Program)(w:World)(E:I->Shared->Prop)(Q:I->Shared->Prop)(h:Q (.bool (decide (a<c))) s):wpAny (model prog w) A (richCompare .Lt (.int a t) (.int c u)) Q E s:=
 (PyProof.Rows.lt_int h:wpAny (model prog w) A (compareOp .Lt (.int a t) (.int c u)) Q E s)
section
theorem BJ{B t S:Addr}{H:Value}(hh:A.handled=none)(h1:t≠B)(G:S≠B)(h3:t≠S)(hv:IntsAre its ns):
  ∀ (m i:Nat) (s:Shared) (b:Option (Int×Tok)) (c:Nat),its.length-i=m->i<=its.length->s.heap.IsListIter B t i->s.heap.IsList t its.toArray->s.heap.get? S=some {cls:=.type "list",data:=.seq (ou b) c}->
    (∀h' tk v,(match dR (b.map (·.1)) (ns.drop i)with|none=>v=H|some n=>∃u,v=.int n u)->(∀c o,c≠B->c≠S->s.heap.get? c=some o->h'.get? c=some o)->R (.ok (.ret v)) {s with heap:=h',toks:=tk})->
    codeAny (model P w) A (.builtin "min.loop" ⟨[.ref B,.none,.ref S],[("default",H)]⟩) R s:=by
 have hl:=hv.length;intro m;induction m with
 | zero=>
   intro i s b c hk hi r L E C;have e:i=its.length:=by omega
   refine codeAny_builtin F.entry_min_loop ?_;rw[Around.under_plainId F.plain_min_loop _];show wpAny _ A.in1 ((load S>>=_)>>=_) _ _ s;refine a4 (a4 (wpAny_load E (a9 ?_)));refine a4 (wpAny_tryCatch (wpAny_pyNext_list_end (show A.in1.handled=none from hh) r L (Array.getElem?_eq_none (by simp;omega)) λh' eb=>?_));rw[List.drop_of_length_le (by omega)]at C;cases b with
   | none=>show wpAny _ _ (rule _>>=λ_=>ret H) _ _ _;exact a4 (wpAny_rule (a9 (C h' s.toks H J λc o y _ z=>eb c o y z)))
   | some q=>show wpAny _ _ (updateSeq S _>>=λ_=>letGo _ _>>=λ_=>ret (Value.int q.1 q.2)) _ _ _;exact a4 (wpAny_updateSeq (s:={s with heap:=h'}) (eb S _ G E) J (a4 (wpAny_letGo (a9 (C _ s.toks (.int q.1 q.2) ⟨q.2,J⟩ λc o y K z=>by show(h'.update S _).get? c=some o;rw[Heap.get?_update_ne _ _ _ _ K];exact eb c o y z)))) aY)
 | succ m ih=>
   intro i s b c hk hi r L E C;have p:i<its.length:=by omega
   have hx:its.toArray[i]?=some its[i]:=by simp[p]
   obtain⟨a,d,U,X⟩:=hv.at i (its[i]) (bi p);have ed:ns.drop i=a::ns.drop (i+1):=by obtain⟨h1,G⟩:=c9.mp X;rw[List.drop_eq_getElem_cons h1,G]
   rw[ed]at C;refine codeAny_builtin F.entry_min_loop ?_;rw[Around.under_plainId F.plain_min_loop _];show wpAny _ A.in1 ((load S>>=_)>>=_) _ _ s;refine a4 (a4 (wpAny_load E (a9 ?_)));refine a4 (wpAny_tryCatch (wpAny_pyNext_list_item r L hx λg D W=>?_));rw[U];have f:=W.extBut S _ G E;have Q:∀(l:Shared)(M:Option (Int×Tok))(k:Nat),Heap.SameBut S g l.heap->l={s with heap:=l.heap,toks:=l.toks}->l.heap.get? S=some {cls:=.type "list",data:=.seq (ou M) k}->dR (M.map (·.1)) (ns.drop (i+1))=dR (b.map (·.1)) (a::ns.drop (i+1))->codeAny (model P w) A (.builtin "min.loop" ⟨[.ref B,.none,.ref S],[("default",H)]⟩) R l:=λl M k N es Z em=>by refine ih (i+1) l M k (by omega) p (D.extBut N.extBut (aj G)) (L.extBut W.extBut h1 |>.extBut N.extBut h3) Z λh' tk v hm k'=>?_;rw[es];exact C h' tk v (by rw[<-em];exact hm) λc o y K z=>k' c o y K (N.extBut c o K (W.extBut c o y z))
   have up:∀{xs:Array Value}{c0:Nat}{g0:Heap},g0.get? S=some {cls:=.type "list",data:=.seq xs c0}->∃k,(g0.update S (Obj.mapSeq λ_=>#[Value.int a d,.int a d])).get? S=some {cls:=.type "list",data:=.seq (ou (some (a,d))) k}:=λh=>⟨_,get?_update_seq h _⟩
   cases b with
   | none=>show wpAny _ _ (updateSeq S _>>=λ_=>again _) _ _ _;obtain⟨k,x⟩:=up f;exact a4 (wpAny_updateSeq (s:={s with heap:=g}) f J (a9 ⟨plainId_quiet F.plain_min_loop _,Q {s with heap:=_} (some (a,d)) k (Heap.SameBut.update ..) J x J⟩))
   | some q=>
     refine a4 (a9 (a4 (wpAny_tryCatch (wpAny_holding (a4 (eK _ _ _ _ _ _ _ _ _ _ (a4 (wpAny_holding (wpAny_truthy_bool (a4 (wpAny_letGo (a9 ?_))))))))))));by_cases j:a<q.1
     . rw[ax j];show wpAny _ _ (updateSeq S _>>=λ_=>letGo _ _>>=λ_=>again _) _ _ _;obtain⟨k,x⟩:=up f;exact a4 (wpAny_updateSeq (s:={s with heap:=g}) f J (a4 (wpAny_letGo (a9 ⟨plainId_quiet F.plain_min_loop _,Q {s with heap:=_} (some (a,d)) k (Heap.SameBut.update ..) J x (by show _=dR (some (if a<q.1 then a else q.1)) _;rw[if_pos j];rfl)⟩))) aY)
     . rw[c5 j];show wpAny _ _ (letGo _ _>>=λ_=>again _) _ _ _;exact a4 (wpAny_letGo (a9 ⟨plainId_quiet F.plain_min_loop _,Q {s with heap:=g} (some q) c (Heap.SameBut.refl ..) J f (by show _=dR (some (if a<q.1 then a else q.1)) _;rw[if_neg j];rfl)⟩))
end
theorem BO:bootBuiltins "min"=some (.builtin "min"):=by decide+kernel
noncomputable def oI:Option Int->V|none=>.non|some i=>.int i
section
inductive fZ(K:W.Frag)(Q:VK)(vs:List V)(H1:Hp):Prop|mk:∀a ns,vs=[.ref a]->aJ K H1 a (ns.map V.int)->Q (oI (dR none ns)) H1->fZ K Q vs H1
def Ac(K:W.Frag)(ta:TA):TE:=λσ H Q=>ta σ H λvs H1=>fZ K Q vs H1
theorem Bs{kc}{Z U:Pos}{a:Expr}{ta:TA}{p:Pos}(hg:Gl X "min")(hm:X.mg "min"=none)(hc:X.calm=true)(ha:PA X [a] ta)(hs:starEach [a] X.env=(false,eval a X.env)::starEach [] X.env:=by rfl)(t:((backTo aE (starEach [a] X.env)).any (·.1))=false:=by rfl):PE X (.Call (.Name "min" p) [a] [⟨some "default",.Constant .none kc Z,U⟩] aE) (Ac X.K ta):=by
 intro d s B H Q I h;refine wpAny_Call_Name_kw (Xf I hg hm BO ?_);refine W.callWith_of (P:=λ_=>True) (by rw[t];rfl) (λh _=>⟨.machine,.inr (.inl J),?_⟩) ?_;exact λA Q E s _ q=>(show wpAny _ A (pure Keeper.machine) Q E s from a9 q)
 have C:backTo aE (starEach [a] X.env)=(false,eval a X.env)::backTo aE (starEach [] X.env):=by rw[hs];rfl
 rw[C];refine evalArgs_kwB J ?_;rw[<-C];refine aG (ha aE d s B H _ I h) λus L ⟨vs,G,I1,R,S⟩=>?_;obtain⟨b,f,rfl,hq,q⟩:=S;refine kws_cons (aG (Wn (X:=X) d L B G (λv D=>v=.non/\D=G) I1 ⟨J,J⟩) λdv j ⟨x,D,z,P,e1,e2⟩=>kws_nil ⟨trivial,?_⟩);subst e1 e2;obtain rfl:dv=Value.none:=P;obtain⟨u,rfl,M⟩:=qt R;cases(show u=Value.ref b from M);obtain⟨k,N,m,hz⟩:=z.list hq;have l:b<j.heap.objs.size:=by obtain⟨_,e,_⟩:=m.isList;exact au e
 have w:checkBuiltinCall "min" ⟨[.ref b],[("default",.none)]⟩=pure ():=by kernel_rfl
 refine wpAny_call (codeAny_call_builtin F.plain_min F.entry_min (wpAny_of_eq w ?_));have y:Builtin.Builtins.bindParams "min" ["key","default"] 0 {kw:=[("default",.none)]}=pure [none,some Value.none]:=by kernel_rfl
 show wpAny _ _ (Builtin.Builtins.bindParams "min" ["key","default"] 0 {kw:=[("default",.none)]}>>=_) _ _ j;refine a4 (wpAny_of_eq y ?_);show wpAny _ _ (pyIter (.ref b)>>=_) _ _ j;refine a4 (wpAny_pyIter_list m.isList ?_);refine a4 (wpAny_newList (a9 ⟨plainId_quiet F.plain_min_loop _,?_⟩) (bo _));have i:(j.heap.push {cls:=.type "list_iterator",data:=.fields #[.ref b,.int 0 0]}).objs.size=j.heap.objs.size+1:=Array.size_push ..;refine BJ (t:=b) (its:=k) (ns:=f) (z.ok.hd hc) (az l) (by rw[i];exact dl (dz _)) (by rw[i];exact az (Nat.lt_succ_of_lt l)) (Es N) k.length 0 _ none 0 (by omega) (bo _) ⟨_,aq _ (bf _ J),J,J⟩ ((m.isList.push _).push _) (bf _ J) λh' K v g r=>?_;have keep:∀c o,j.heap.get? c=some o->h'.get? c=some o:=λc o e=>by have:=au e;exact r c o (az this) (by rw[i];exact az (Nat.lt_succ_of_lt this)) (aq _ (aq _ e))
 have g:yk (oI (dR none f)) v:=by rw[List.drop_zero]at g;cases e:dR none f with|none=>rw[show dR (Option.map (·.1) (none:Option (Int×Tok))) f=dR none f from rfl,e]at g;exact g|some n=>rw[show dR (Option.map (·.1) (none:Option (Int×Tok))) f=dR none f from rfl,e]at g;exact g
 exact⟨_,_,z.kept (t':=K) keep,g,q⟩
end
section
variable{K:Type}[DecidableEq K](knd:KeyKind prog w K)
abbrev dB(K:Type):=List K ⊕ K
noncomputable def Y4:dB K->Bool|.inl _=>true|.inr _=>false
def eN(h:Heap):dB K->Value->Prop|.inl k,v=>∃a,v=.ref a/\IsTupleKey knd h k a|.inr k,v=>knd.is k v=true
noncomputable def Xg:dB K->Int|.inl k=>tupleKeyHash knd k|.inr k=>knd.hash k
noncomputable def pP:dB K->Nat|.inl k=>k.length+1|.inr _=>1
inductive cF(h:Heap):List (dB K)->List Value->Prop|nil:cF h [] []|cons {k:dB K} {v:Value} {ks:List (dB K)} {vs:List Value}:eN knd h k v->cF h ks vs->cF h (k::ks) (v::vs)
def jg(h:Heap)(B:List (dB K))(a:Addr):Prop:=∃o aB n,h.get? a=some o/\o.cls=.type "tuple"/\o.data=.seq aB n/\cF knd h B aB.toList
noncomputable def pU(B:List (dB K)):Int:=reduceHash (Builtin.Tuple.tupleHashOf (B.map (Xg knd)))
noncomputable def Qu(B:List (dB K)):Nat:=(B.map pP).sum+1
variable{knd}
theorem eN.inj{h:Heap}{x y:dB K}{v:Value}(f:eN knd h x v)(c:eN knd h y v):x=y:=by
 cases x with
 | inl k=>
   obtain⟨a,rfl,i⟩:=f;cases y with
   | inl d=>obtain⟨b,e,g⟩:=c;cases e;rw[i.inj g]
   |inr d=>exact absurd (knd.byValue _ _ c) (λz=>by cases z)
 | inr k=>
   cases y with
   | inl d=>obtain⟨b,rfl,g⟩:=c;exact absurd (knd.byValue _ _ f) (λz=>by cases z)
   |inr d=>rw[knd.inj _ _ _ f c]
theorem eN.keeps{h h':Heap}{k:dB K}{v:Value}{d:Addr}{o:Obj}{es ep}(x:eN knd h k v)(c:h.get? d=some o)(f:o.data=.dict es ep)(b:Heap.SameBut d h h'):eN knd h' k v:=by cases k with| inl k=>obtain⟨a,e,g⟩:=x;exact⟨a,e,g.keeps c f b⟩|inr k=>exact x
theorem cF.inj{h:Heap}{x y:List (dB K)}{vs:List Value}(d:cF knd h x vs)(a:cF knd h y vs):x=y:=by induction d generalizing y with|nil=>cases a;rfl| cons f _ c=>cases a with|cons e b=>rw[f.inj e,c b]
theorem jg.typeIs{b:O (dB K)}(x:jg knd s.heap b a):s.TypeIs (.ref a) "tuple":=let⟨o,_,_,c,d,_⟩:=x;⟨o,c,d⟩
theorem jg.inj{h:Heap}{a:Y}{x y:O (dB K)}(i:jg knd h x a)(g:jg knd h y a):x=y:=by obtain⟨o,q,n,j,_,l,k⟩:=i;obtain⟨f,c,p,d,_,b,e⟩:=g;obtain rfl:o=f:=Option.some.inj (j.symm.trans d);rw[l]at b;injection b with m _;subst m;exact k.inj e
theorem cF.keeps{h h':Heap}{a:List (dB K)}{vs:List Value}{d:Addr}{o:Obj}{es ep}(x:cF knd h a vs)(e:h.get? d=some o)(f:o.data=.dict es ep)(c:Heap.SameBut d h h'):cF knd h' a vs:=by induction x with|nil=>exact .nil|cons g _ b=>exact .cons (g.keeps e f c) b
theorem jg.keeps{h h':Heap}{f:O (dB K)}{a d:Y}{o:Obj}{es ep}(x:jg knd h f a)(j:h.get? d=some o)(l:o.data=.dict es ep)(g:Heap.SameBut d h h'):jg knd h' f a:=by
 obtain⟨i,p,n,b,m,e,k⟩:=x;have c:a≠d:=by grind
 exact⟨i,p,n,(g.2 a c).trans b,m,e,k.keeps j l g⟩
theorem Dt{k:dB K}{Q:Int->Shared->Prop}(c:A.units<cLine)(b:eN knd s.heap k v)(h:Q (Xg knd k) {s with toks:=s.toks+pP k}):wpAny (model prog w) A (pyHash v) Q E s:=by cases k with| inl k=>obtain⟨a,rfl,d⟩:=b;exact wpAny_pyHash_tuple c d h|inr k=>exact knd.pyHash b h
theorem CV{x y:dB K}{Q:Bool->Shared->Prop}(g:A.units<cLine)(f:Y4 x=Y4 y)(e:eN knd s.heap x u)(d:eN knd s.heap y v)(h:Q (decide (x=y)) s):wpAny (model prog w) A (eqBool u v) Q E s:=by
 cases x with
 | inl k=>
   cases y with
   | inl c=>
     obtain⟨a,rfl,j⟩:=e;obtain⟨b,rfl,i⟩:=d;refine wpAny_eqBool_tuple g j i ?_
     simp_all
   |inr c=>cases f
 | inr k=>
   cases y with
   |inl c=>cases f
   | inr c=>
     refine knd.eqBool e d ?_
     simp_all
theorem Ek{f:O (dB K)}{Q:Int->Shared->Prop}(y:A.units+2<cLine)(q:jg knd s.heap f a)(h:Q (pU knd f) {s with toks:=s.toks+Qu f}):wpAny (model prog w) A (pyHash (.ref a)) Q E s:=by
 have j:=q.typeIs;obtain⟨o,z,n,r,_,u,t⟩:=q;unfold pyHash;first|unfold pyHashByItsType|skip
 first|refine a4 (wpAny_cRoomFor_or (.inr (show A.units<cLine by omega)) ?_)|skip
 refine a4 (wpAny_specialOf j F.slot_tuple_hash.lookup ?_);rw[if_neg (by simp)];refine a4 (wpAny_specialOf j F.slot_tuple_hash.lookup ?_);refine a4 (wpAny_callSpecialIfBoundUnlessNone?_slot j F.slot_tuple_hash (cg F.slot_tuple_hash j F.entry_tuple_hash ?_ (F.args_tuple_hash_1 _)));show wpAny _ _ (Builtin.Tuple.tupleItemsOf (.ref a)>>=_) _ _ s;refine a4 (wpAny_tupleItemsOf r u ?_);refine a4 ?_;rw[<-Array.forIn_toList];refine wpAny_forIn_list _
  (λvw b l=>∃d gZ,f=d++gZ/\cF knd s.heap gZ vw/\b.toList=d.map (Xg knd)/\l={s with toks:=s.toks+(d.map pP).sum})
  _ ?_ ?_ _ _ ⟨[],f,J,t,J,J⟩
 . rintro x vw b l ⟨d,gZ,rfl,m,p,rfl⟩;cases m with| @cons k c e _ v g=>
     refine a4 (Dt ?room v ?_)
     case room=>grind
     first|exact a9 ⟨d++[k],e,by simp,g,by grind,by grind⟩|exact a4 (a9 (a9 ⟨d++[k],e,by simp,g,by simp[p],by simp[Nat.add_assoc]⟩))
 rintro b l ⟨d,gZ,rfl,m,p,rfl⟩;cases m;rw[eh]at h;show wpAny _ _ (retInt (Builtin.Tuple.tupleHashOf b.toList)) _ _ _;rw[p];refine wpAny_ret_mkInt ?_;show wpAny _ _ (if(decide (-(2)^63<=Builtin.Tuple.tupleHashOf (d.map (Xg knd))) && decide (Builtin.Tuple.tupleHashOf (d.map (Xg knd))<2^63))=true then _ else _) Q E _;unfold pU reduceHash Qu at h;by_cases i:(decide (-(2)^63<=Builtin.Tuple.tupleHashOf (d.map (Xg knd))) && decide (Builtin.Tuple.tupleHashOf (d.map (Xg knd))<2^63))=true;rw[if_pos i];rw[if_pos i]at h;exact a9 (by omega);rw[if_neg i];rw[if_neg i]at h;exact a4 (wpAny_rule (a9 (by omega)))
theorem EE{x y:List (dB K)}{P:Fin->Shared->Prop}(hu:A.units<cLine)(F:x.map Y4=y.map Y4)(hx:jg knd s.heap x a)(X:jg knd s.heap y b)(h:P (.done (.ret (.bool (decide (x=y))))) s):wpAny (model prog w) A (Builtin.«tuple.__eq__» ⟨[.ref a,.ref b],[]⟩) P E s:=by
 have W:=X.typeIs;obtain⟨oa,z,na,N,_,U,R⟩:=hx;obtain⟨ob,t,nb,M,_,S,Q⟩:=X;show wpAny _ _ (isInstance (.ref b) (.type "tuple")>>=_) _ _ s;refine a4 (dk W isSubtype_tuple_tuple ?_);simp only[Bool.not_true,Bool.false_eq_true,if_false];refine a4 (wpAny_tupleItemsOf N U ?_);refine a4 (wpAny_tupleItemsOf M S ?_);refine a4 ?_;refine wpAny_forIn_list _
  (λvw r B=>r.1=none/\B=s/\∃n l d c,vw=List.zip d c/\cF knd s.heap n d/\cF knd s.heap l c/\n.map Y4=l.map Y4/\decide (n=l)=decide (x=y)/\(d.length==c.length)=(z.size==t.size))
  _ ?_ ?_ _ _ ⟨J,J,x,y,z.toList,t.toList,J,R,Q,F,J,by simp⟩
 rintro⟨u,v⟩ vw r B ⟨L,rfl,n,l,d,c,o,i,e,j,g,f⟩;cases i with
 |nil=>simp at o
 | @cons k1 u' D m h1 q=>
   cases e with
   |nil=>grind
   | @cons k2 v' C k h2 p=>
     simp only[List.zip_cons_cons,List.cons.injEq,Prod.mk.injEq]at o;obtain⟨⟨rfl,rfl⟩,rfl⟩:=o;rw[c6,c6]at j;injection j with H G;refine a4 (CV hu H h1 h2 ?_);by_cases hk:k1=k2;subst hk;rw[ax J];simp only[Bool.not_true,Bool.false_eq_true,if_false];refine a9 ⟨J,J,D,C,m,k,J,q,p,G,?_,by simp_all⟩
     simp_all
     rw[c5 hk];simp only[Bool.not_false,if_true];have hf:decide (x=y)=false:=by simp_all
     rw[hf]at h;exact a4 (a9 (a9 (a9 h)))
 rintro⟨r1,r2⟩ B ⟨L,rfl,n,l,d,c,o,i,e,j,g,f⟩;simp only at L;subst L;refine a9 ?_;have Z:(z.size==t.size)=decide (x=y):=by
  rw[<-g,<-f];cases i with
  | nil=>
    cases e with
    |nil=>simp
    |cons _ _=>simp
  | cons _ _=>
    cases e with
    |nil=>simp
    |cons _ _=>simp at o
 show P (.done (.ret (.bool (z.size==t.size)))) B
 simp_all
theorem D6{x y:O (dB K)}{Q:Bool->Shared->Prop}(i:A.units+2<cLine)(g:x.map Y4=y.map Y4)(d:jg knd s.heap x a)(f:jg knd s.heap y b)(h:Q (decide (x=y)) s):wpAny (model prog w) A (eqBool (.ref a) (.ref b)) Q E s:=by
 unfold eqBool
 try with_reducible refine wpAny_holding ?_
 by_cases c:(Value.ref a==Value.ref b)=true;rw[if_pos c];have e:a=b:=by simp_all
 subst e;obtain rfl:=d.inj f;exact a4 (wpAny_rule (a9 (by simp_all)))
 . rw[if_neg c];refine a4 (wpAny_richCompare_same_room d.typeIs f.typeIs F.slot_tuple_eq (cg F.slot_tuple_eq d.typeIs F.entry_tuple_eq (EE ?room g d f ⟨_,J,(λe=>nomatch e),wpAny_truthy_bool h⟩) (F.args_tuple_eq_2 _ _)) (by omega))
   grind
theorem CH{n:Nat}{k:dB K}{Q:Bool->Shared->Prop}(b:eN knd s.heap k v)(h:Q true s):wpAny (model prog w) A (eqIsQuiet (n+1) v) Q E s:=by cases k with| inl k=>obtain⟨a,rfl,c⟩:=b;exact Dv c h| inr k=>rw[eqIsQuiet_byValue _ (knd.byValue _ _ b)];exact a9 h
theorem Du{d:List (dB K)}{Q:Bool->Shared->Prop}(f:jg knd s.heap d a)(h:Q true s):wpAny (model prog w) A (eqIsQuiet 8 (.ref a)) Q E s:=by
 have g:=f.typeIs;obtain⟨o,u,m,j,_,l,k⟩:=f;unfold eqIsQuiet;refine a4 (wpAny_specialOf g F.slot_tuple_eq.lookup ?_);refine a4 (dk g isSubtype_tuple_tuple ?_);simp only[Bool.not_true,Bool.false_eq_true,if_false];refine a4 (wpAny_seqItems j l ?_);refine a4 ?_;rw[<-Array.forIn_toList];refine wpAny_forIn_list _ (λvw r c=>r.1=none/\c=s/\∃d,cF knd s.heap d vw) _ ?_ ?_ _ _ ⟨J,J,_,k⟩;rintro v vw r c ⟨e,rfl,i,b⟩;cases b with| cons n t=>refine a4 (CH n ?_);simp only[Bool.not_true,Bool.false_eq_true,if_false];exact a9 ⟨J,J,_,t⟩
 rintro⟨q,p⟩ c ⟨e,rfl,_⟩;simp only at e;subst e;exact a9 h
end
structure Shape(K κ:Type) where
 f:κ->List (dB K)
 inj:∀a b,f a=f b->a=b
 one:∀a b,(f a).map Y4=(f b).map Y4
noncomputable def We{prog:Program}{w:World}{K B:Type}[DecidableEq K][DecidableEq B](knd:KeyKind prog w K)(S:Shape K B):HeapKind prog w B where
 is:=λh k a=>jg knd h (S.f k) a
 hash:=λk=>pU knd (S.f k)
 draws:=λk=>Qu (S.f k)
 room:=λA=>A.units+2<cLine
 inj:=λG F=>S.inj _ _ (G.inj F)
 keeps:=λx Z hd hs=>x.keeps Z hd hs
 pyHash:=λU hk h=>Ek U hk h
 eqBool:=λ{_ _ _ x y _ _ _} U G F h=>D6 U (S.one x y) G F (by
  have e:decide (S.f x=S.f y)=decide (x=y):=by by_cases c:x=y;rw[c];simp;rw[c5 c,c5 λz=>c (S.inj _ _ z)]
  rw[e];exact h)
 quiet:=λhk h=>Du hk h
structure aQ(κ:Type)[DecidableEq κ] where
 S:Shape aI κ
 tr:κ->T
 fro:∀k,dS (tr k)
 of:∀{P:Program}{w:World}{H:Hp}{h:Heap},bR P w H h->∀{k:κ}{a:Addr},Is H (tr k) (.ref a)->(We (zy P w) S).is h k a
abbrev Jc(B:Type):=B×Addr×Value
section
variable{κ:Type}[DecidableEq κ]{τ:aQ κ}
def iE(τ:aQ κ)(P:Program)(w:World)(d:Addr)(xs:List (Jc κ)):Heap->Prop:=λh=>∃o es ep,h.get? d=some o/\o.ExactDict/\o.data=.dict es ep/\es.toList=xs.map (entryOfKey (We (zy P w) τ.S))
theorem iE.ok{d:Y}{xs:O (Jc κ)}(x:iE τ P w d xs h):wq P w H h d (.ext (iE τ P w d xs)):=by refine⟨x,?_,λf e y k=>?_⟩;obtain⟨o,_,_,a,_⟩:=x;exact⟨o,a⟩;obtain⟨o,b,c,a,r⟩:=y;exact⟨o,b,c,k o a,r⟩
abbrev KG(τ:aQ κ)(H:Hp):List (κ×V)->List (Jc κ)->Prop:=Paired λp q=>p.1=q.1/\Is H (τ.tr p.1) (.ref q.2.1)/\yk p.2 q.2.2
theorem KG.val{kvs:List (κ×V)}{xs:List (Jc κ)}(r:KG τ H kvs xs)(k:κ):Zk (y9 kvs k) ((atKey xs k).map (·.2)):=by
 induction r with|nil=>exact True.intro| @cons p q i a h t f=>
   obtain⟨d,_,g⟩:=h;by_cases e:p.1=k;have c:q.1=k:=by rw[<-d,e]
   have b:atKey (q::a) k=some q.2:=by simp[atKey,List.find?_cons,c]
   rw[wk e,b];exact g;have c:¬q.1=k:=λz=>e (d.trans z);have b:atKey (q::a) k=atKey a k:=by simp[atKey,List.find?_cons,c]
   rw[wm e,b];exact f
theorem KG.repl{kvs:List (κ×V)}{xs:List (Jc κ)}(r:KG τ H kvs xs)(k:κ)(d:yk y u):KG τ H (kvs.map λb=>if b.1=k then(b.1,y)else b) (xs.map (putAt k u)):=by induction r with|nil=>exact .nil| @cons p q j i h t f=>rw[c6,c6];refine .cons ?_ f;obtain⟨a,c,g⟩:=h;unfold putAt;by_cases e:p.1=k;rw[if_pos e,if_pos (by rw[<-a,e])];exact⟨a,c,d⟩;rw[if_neg e,if_neg (λz=>e (a.trans z))];exact⟨a,c,g⟩
theorem KG.put{kvs:O (κ×V)}{xs:O (Jc κ)}(r:KG τ H kvs xs)(k:κ)(d:Is H (τ.tr k) (.ref b))(a:yk y u):KG τ H (wc kvs k y) (storedH xs k b u):=by
 have e:(kvs.any λc=>decide (c.1=k))=(atKey xs k).isSome:=by rw[jq,(r.val k).isSome_eq,Option.isSome_map]
 unfold wc storedH;rw[e];by_cases q:(atKey xs k).isSome=true;rw[if_pos q,if_pos q];exact r.repl k a;rw[if_neg q,if_neg q];exact Paired.snoc r ⟨J,d,a⟩
theorem KG.tups{H a:Hp}{kvs:O (κ×V)}{xs:O (Jc κ)}(r:KG τ H kvs xs)(t:ym H a):KG τ a kvs xs:=Paired.mapP r λ_ _ z=>⟨z.1,z.2.1.tups t (τ.fro _),z.2.2⟩
inductive aM(τ:aQ κ)(P:Program)(w:World)(H:Hp)(d:Addr)(kvs:List (κ×V)):Prop|mk:∀xs:List (Jc κ),H d=some (.ext (iE τ P w d xs))->(d==sysModules)=false->kvs.length<=sizeLine->(xs.map (·.1)).Nodup->KG τ H kvs xs->aM τ P w H d kvs
section
variable{H':Hp}{d:Addr}{kvs:List (κ×V)}
theorem aM.same(n:aM τ P w H d kvs)(s:Same H H'):aM τ P w H' d kvs:=by obtain⟨f,e,a,b,c,r⟩:=n;exact⟨f,s _ _ e,a,b,c,Paired.mapP r λ_ _ z=>⟨z.1,z.2.1.mono s,z.2.2⟩⟩
theorem aM.by(n:aM τ P w H d kvs)(t:ym H H')(e:H' d=H d):aM τ P w H' d kvs:=by obtain⟨f,g,a,b,c,r⟩:=n;exact⟨f,e.trans g,a,b,c,r.tups t⟩
theorem aM.tups{o:HO}(n:aM τ P w H d kvs):ym H (upd H d o):=by obtain⟨b,e,_⟩:=n;exact ym.upd e (λa z=>by cases z)
theorem aM.dict(i:bR P w H h)(n:aM τ P w H d kvs):(d==sysModules)=false/\∃xs,KG τ H kvs xs/\xs.length<=sizeLine/\h.DictOfH (We (zy P w) τ.S) d xs:=by
 obtain⟨xs,e,a,b,c,r⟩:=n;obtain⟨⟨o,z,A,y,v,u,s⟩,_⟩:=(i d _ e)
 have D:=Paired.length r;refine⟨a,xs,r,by omega,o,z,A,y,v,u,s,?_,c⟩;have g:∀{l:O (κ×V)}{m:O (Jc κ)},KG τ H l m->∀x∈m,(We (zy P w) τ.S).is h x.1 x.2.1:=by intro l m q;induction q with|nil=>intro x f;exact nomatch f| @cons p q C B j t k=>intro x f;rcases ak.mp f with e|f;subst e;rw[<-j.1];exact τ.of i j.2.1;exact k x f
 exact g r
end
inductive jF(τ:aQ κ)(P:Program)(w:World)(f:Bool->Bool)(Q:VK)(y x:V)(H2:Hp):Prop|mk:∀d b kvs k,x=.ref d->y=.ref b->aM τ P w H2 d kvs->Is H2 (τ.tr k) (.ref b)->Q (.bl (f (y9 kvs k).isSome)) H2->jF τ P w f Q y x H2
def yD(τ:aQ κ)(P:Program)(w:World)(f:Bool->Bool)(B F:TE):TE:=λσ H Q=>B σ H λy H1=>F σ H1 λx H2=>jF τ P w f Q y x H2
inductive gy(τ:aQ κ)(P:Program)(w:World)(D:Ends)(σ:St)(v x y:V)(H3:Hp):Prop|mk:∀d b kvs k,x=.ref d->y=.ref b->aM τ P w H3 d kvs->Is H3 (τ.tr k) (.ref b)->kvs.length<sizeLine->(∀o,aM τ P w (upd H3 d o) d (wc kvs k v)->D.nx σ (upd H3 d o))->gy τ P w D σ v x y H3
def yZ(τ:aQ κ)(P:Program)(w:World)(G B F:TE):TS:=λD σ H=>F σ H λv H1=>G σ H1 λx H2=>B σ H2 λy U=>gy τ P w D σ v x y U
def rY(τ:aQ κ)(P:Program)(w:World):TE:=λ_ H Q=>∀p o,H p=none->aM τ P w (upd H p o) p []->Q (.ref p) (upd H p o)
section
variable{o i aR:Expr}{cD:Pos}{ty tv:TE}
theorem Xd(a:A.units+3<cLine):(We (zy P w) τ.S).room A.in1:=by show A.in1.units+2<cLine;omega
theorem Aq(w:X.A.units+3<cLine)(A:PE X i ty)(z:PE X o td):PC X .In i o (yD τ X.prog X.w id ty td):=by intro a s g H Q I h;refine aG (A a s g H _ I h) λt j ⟨y,K,F,l,r⟩=>aG (z a j g K _ F r) λu M ⟨x,G,f,m,d,b,e,k,D,C,n,v,p⟩=>?_;subst D C;obtain rfl:u=Value.ref d:=m;obtain rfl:t=Value.ref b:=l;obtain⟨B,L,c,_,E⟩:=n.dict f.hok;refine wpAny_in_heap (Xd w) (τ.of f.hok v) B E ?_;have q:=(c.val k).isSome_eq;rw[Option.isSome_map]at q;rw[<-q];exact⟨.bl (y9 e k).isSome,G,f.tok _,J,p⟩
theorem uw(M:X.A.units+3<cLine)(P:PE X o td)(R:PE X i ty)(L:PE X aR tv)(N:swapsWith aR (some (.Subscript o i cD)) aE.line X.env=pure false):PS X (.Assign [.Subscript o i cD] aR aE) (yZ τ X.prog X.w td ty tv):=by intro a s c H D I h;refine wpAny_Assign_Subscript (aG (L a s c H _ I h) λr z ⟨v,H1,I1,C,G⟩=>aG (P a z c H1 _ I1 G) λu w ⟨x,H2,I2,B,F⟩=>aG (R a w c H2 _ I2 F) λK s3 ⟨y,H3,l,A,d,b,f,k,ex,ey,n,m,hl,E⟩=>?_) N;subst ex ey;obtain rfl:u=Value.ref d:=B;obtain rfl:K=Value.ref b:=A;obtain⟨S,xs,e,hz,dd⟩:=n.dict l.hok;refine wpAny_setItem_heap (Xd M) (τ.of l.hok m) dd λh' j g=>?_;obtain⟨q,es,ep,p,h2,Z,W,_,U⟩:=j;obtain⟨t,e0,_⟩:=id n;have Q:=xt f k v;refine⟨c,_,Z1 l (by rw[e0];exact True.intro) g ⟨q,p⟩ (iE.ok ⟨q,es,ep,p,h2,Z,W⟩),E _ ⟨_,ze,S,by omega,U,(e.put k m C).tups n.tups⟩⟩
theorem BA(h:Heap):iE τ P w h.objs.size [] (h.push {cls:=.type "dict",data:=.dict #[]}):=⟨_,#[],0,bf _ J,⟨J,J,J⟩,J,J⟩
theorem Vm:PE X (.Dict [] [] aE) (rY τ X.prog X.w):=λa s b H Q I h=>wpAny_Dict_empty ⟨.ref s.heap.objs.size,_,I.laid (λ_ _ q=>aq _ q) (ae _) (BA s.heap).ok,J,h _ _ (I.hok.fresh (ae _)) ⟨[],ze,beq_eq_false_iff_ne.mpr (aj (az I.big)),bo _,List.nodup_nil,.nil⟩⟩
end
end
theorem Wq{b c:Type}(f:b->c):∀(l:List b)(j:Nat),(l.eraseIdx j).map f=(l.map f).eraseIdx j|[],_=>rfl|_::_,0=>rfl| a::l,j+1=>by show f a::(l.eraseIdx j).map f=f a::(l.map f).eraseIdx j;rw[Wq f l j]
section
variable{K:Type}[DecidableEq K]{knd:HeapKind prog w K}
theorem Vc{d:Y}{xs:O (K×Y×I)}{k:K}{dflt:I}(u:knd.room A)(b:knd.is s.heap k a)(D:s.heap.DictOfH knd d xs)(c:∀p,atKey xs k=some p->Q p.2 {s with toks:=s.toks+knd.draws k})
  (l:atKey xs k=none->∀h',h'.DictOfH knd d (storedH xs k a dflt)->Heap.SameBut d s.heap h'->Q dflt {s with heap:=h',toks:=s.toks+knd.draws k}) (C:xs.length<=sizeLine):
  wpAny (model prog w) A (dictSetDefault d (.ref a) dflt) Q E s:=by
 obtain⟨o,H,G,h,F,g,n,m,t⟩:=D;unfold dictSetDefault
 try with_reducible refine wpAny_holding ?_
 refine a4 (knd.pyHash u b ?_);refine a4 (wpAny_dictFind_heap u b h g n m t ?_ ?_);intro i;have q:=atKey_none_of_get i;refine a4 (wpAny_rule (a4 (wpAny_updateDictKeys (hz:=by have e:=size_of_entries n;omega) h g (a9 (l q _ ⟨_,_,G+1,Heap.get?_update_self _ h (Obj.isFreed_of_dict (Obj.data_mapDictKeys g _)),F.mapDictKeys _,Obj.data_mapDictKeys g _,?_,?_,?_⟩ (Heap.SameBut.update ..))))))
 rw[storedH_new q];simp[n,entryOfKey];rw[storedH_new q];intro x f;rcases dc.mp f with f|f;exact knd.keeps (m x f) h g (Heap.SameBut.update ..);rw[aa.mp f];exact knd.keeps b h g (Heap.SameBut.update ..);rw[storedH_new q,be,List.nodup_append];refine⟨t,by simp,λx f y B z=>?_⟩;have r:y=k:=by simpa using B
 exact not_mem_keys_of_get i (r▸z▸f);intro j p v;refine a4 (wpAny_dictEntries h g ?_);rw[entry_at n j,v];exact a4 (wpAny_rule (a9 (c p (atKey_of_get t v))))
theorem Kx{d:Y}{xs:O (K×Y×I)}{k:K}{Q:Option DictEntry->Shared->Prop}(t:knd.room A)(b:knd.is s.heap k a)(B:s.heap.DictOfH knd d xs)(f:atKey xs k=none->Q none {s with toks:=s.toks+knd.draws k})
  (c:∀j p,xs[j]?=some (k,p)->∀h',h'.DictOfH knd d (xs.eraseIdx j)->Heap.SameBut d s.heap h'->Q (some (entryOfKey knd (k,p))) {s with heap:=h',toks:=s.toks+knd.draws k}) (z:xs.length<=sizeLine):
  wpAny (model prog w) A (Builtin.Dict.takeOut d (.ref a)) Q E s:=by
 obtain⟨o,D,F,h,C,g,m,i,u⟩:=B;unfold Builtin.Dict.takeOut
 try with_reducible refine wpAny_holding ?_
 refine a4 (knd.pyHash t b ?_);refine a4 (wpAny_dictFind_heap t b h g m i u ?_ ?_);intro n;exact a9 (f (atKey_none_of_get n));intro j p r;refine a4 (wpAny_dictEntries h g ?_);rw[entry_at m j,r];refine a4 (wpAny_updateDictKeys (hz:=by have e:=size_of_entries m;omega) h g (a9 (c j p r _ ⟨_,_,F+1,Heap.get?_update_self _ h (Obj.isFreed_of_dict (Obj.data_mapDictKeys g _)),C.mapDictKeys _,Obj.data_mapDictKeys g _,?_,?_,?_⟩ (Heap.SameBut.update ..))))
 rw[Wq,<-m];obtain⟨l⟩:=D;have q:j<l.length:=by have H:=(c9.mp r).1;have v:=congrArg List.length m;rw[ai]at v;have G:l.length=xs.length:=v;omega
 simp[Array.eraseIdxIfInBounds_eq,q];intro x y;exact knd.keeps (i x (List.mem_of_mem_eraseIdx y)) h g (Heap.SameBut.update ..);rw[Wq];exact u.sublist (List.eraseIdx_sublist ..)
end
section
variable{κ:Type}[DecidableEq κ]{τ:aQ κ}
theorem KG.erase {kvs:List (κ×V)} {xs:List (Jc κ)} (r:KG τ H kvs xs) (u:(xs.map (·.1)).Nodup) {j:Nat} {k:κ} {p:Addr×Value} (f:xs[j]?=some (k,p)):KG τ H (j0 kvs k) (xs.eraseIdx j):=by
 induction r generalizing j with
 |nil=>rw[List.getElem?_nil]at f;cases f
 | @cons a q y n h t s=>
   have d:=cr.mp u;unfold j0;rw[List.filter_cons];cases j with
   | zero=>
     rw [List.getElem?_cons_zero]at f;cases f;have e:=h.1;rw[if_neg (by simp[e])];have keep:∀{l:List (κ×V)} {m:List (Jc κ)},KG τ H l m->k ∉ m.map (·.1)->(l.filter λo=>decide (o.1≠k))=l:=by
      intro l m q;induction q with
      |nil=>exact λ_=>rfl
      | @cons b c B A w x g=>intro hk;have i:b.1≠k:=λz=>hk (ak.mpr (.inl (z.symm.trans w.1)));rw[List.filter_cons,if_pos (by simp[i]),g λz=>hk (br _ z)]
     rw[keep t d.1];exact t
   | succ j=>
     rw[List.getElem?_cons_succ]at f;have i:a.1≠k:=λz=>by have v:k∈n.map (·.1):=List.mem_map_of_mem (ck f);exact d.1 (by show q.1∈_;rw[<-h.1,z];exact v)
     rw[if_pos (by simp[i])];exact .cons h (s d.2 f)
theorem aM.typ{d:Y}{kvs:O (κ×V)}(b:bR P w H h)(n:aM τ P w H d kvs):∃o,h.get? d=some o/\o.cls=.type "dict"/\o.dict=none:=by obtain⟨_,e,_,_,o,f,g,c,a,_⟩:=n.dict b;exact⟨o,c,a.1,a.2.1⟩
inductive dU(τ:aQ κ)(P:Program)(w:World)(Q:VK)(d:Addr)(y z:V)(H3:Hp):Prop|mk:∀b kvs k,y=.ref b->aM τ P w H3 d kvs->Is H3 (τ.tr k) (.ref b)->(∀v,y9 kvs k=some v->∀o,aM τ P w (upd H3 d o) d (j0 kvs k)->Q v (upd H3 d o))->(y9 kvs k=none->Q z H3)->dU τ P w Q d y z H3
inductive eA(τ:aQ κ)(P:Program)(w:World)(ty tx:TE)(σ:St)(Q:VK)(x:V)(H1:Hp):Prop|mk:∀d kvs0,x=.ref d->aM τ P w H1 d kvs0->(ty σ H1 λy H2=>tx σ H2 λz H3=>dU τ P w Q d y z H3)->eA τ P w ty tx σ Q x H1
def A4(τ:aQ κ)(P:Program)(w:World)(G B F:TE):TE:=λσ H Q=>G σ H λx H1=>eA τ P w B F σ Q x H1
variable{o:Expr}{ty:TE}
theorem Qm(hu:X.A.units+4<cLine)(ho:PE X o td)(he:PE X e ty)(hf:PE X f tx)(m:M2 X o "pop" apos e f cpos):PE X (.Call (.Attribute o "pop" apos) [e,f] [] cpos) (A4 τ X.prog X.w td ty tx):=by
 intro g s B H Q I h;refine wpAny_Call_method m.base m.few m.line PySem.F.plainAttrs_dict PySem.F.slot_dict_pop PySem.F.type_dict_pop (aG (ho g s B H _ I h) λu s1 ⟨x,H1,I1,rx,d,W,ex,n0,q1⟩=>?_);subst ex;obtain rfl:u=Value.ref d:=rx;obtain⟨U,N,t1,t2⟩:=n0.typ I1.hok;refine⟨⟨U,N,t1⟩,λb q=>by cases q;exact⟨U,N,t2⟩,?_⟩;rw[m.trees];refine Calls.callWith_builtin J (Calls.evalArgs_plain (Calls.spliced_cons (aG (he g s1 B H1 _ I1 q1) λiv s2 ⟨y,H2,I2,ry,q2⟩=>Calls.spliced_cons (aG (hf g s2 B H2 _ I2 q2) λfv s3 ⟨z,H3,w,P,b,i,k,ey,n,ik,q3,R⟩=>Calls.spliced_nil ?_))))
 subst ey;obtain rfl:iv=Value.ref b:=ry;obtain⟨F,M,r,hz,A⟩:=n.dict w.hok;refine cg PySem.F.slot_dict_pop A.typeIs PySem.F.entry_dict_pop ?_ (PySem.F.args_dict_pop_3 _ _ _);unfold Builtin.«dict.pop»;refine a4 ?_;unfold Builtin.Dict.keyAndDefault;refine a4 (wpAny_notOrdered_dict A.typeIs ?_);refine a9 ?_;obtain⟨o1,es,ep,C,ap,E,D,ao,hn⟩:=id A;have a:atKey M k=none->y9 i k=none:=λl=>by have q:=(r.val k).isSome_eq;rw[l]at q;cases c:y9 i k with|none=>rfl|some p=>rw[c]at q;cases q
 dsimp only;rw[if_neg (by exact bu)];refine a4 (wpAny_dictEntries C E (a4 (a9 ?_)));by_cases em:es.isEmpty=true;rw[if_pos em];refine a4 (wpAny_rule (a4 (a9 ?_)));have x0:M=[]:=by
  have h1:=size_of_entries D;have h2:es.size=0:=by simpa using em
  exact List.length_eq_zero_iff.mp (by omega)
 rw[if_pos (show none.isNone=true from rfl)];refine a4 (wpAny_missedRemoval_other F ?_);exact a4 (wpAny_rule (a9 ⟨fv,J,z,H3,w,P,R (a (by rw[x0];rfl))⟩));rw[if_neg em];refine a4 (Kx (Xd (by omega)) (τ.of w.hok ik) A (λl=>?_) (λj p hj h' L hs=>?_) hz);rw[if_pos (show none.isNone=true from rfl)];refine a4 (wpAny_missedRemoval_other F ?_);exact a4 (wpAny_rule (a9 ⟨fv,J,z,H3,w.tok _,P,R (a l)⟩));rw[if_neg (show¬(some (entryOfKey _ (k,p))).isNone=true from bu)];have hv:=atKey_of_get hn hj;have t:=r.val k;rw[hv]at t;obtain⟨S,G,K,Z,h2,h3,h4,_,h5⟩:=L;obtain⟨ag,e0,_⟩:=id n;cases c:y9 i k with|none=>rw[c]at t;exact t.elim| some v=>rw[c]at t;have ah:=uK i k;refine a4 (wpAny_letGo (a9 ⟨p.2,J,v,_,Z1 w (by rw[e0];exact True.intro) hs ⟨S,Z⟩ (iE.ok ⟨S,G,K,Z,h2,h3,h4⟩),t,q3 v c _ ⟨_,ze,F,by omega,h5,(r.erase hn hj).tups n.tups⟩⟩))
end
section
variable{κ:Type}[DecidableEq κ]{τ:aQ κ}
inductive fo(τ:aQ κ)(P:Program)(w:World)(Q:VK)(d:Addr)(y z:V)(H3:Hp):Prop|mk:∀b kvs k,y=.ref b->aM τ P w H3 d kvs->Is H3 (τ.tr k) (.ref b)->Q ((y9 kvs k).getD z) H3->fo τ P w Q d y z H3
inductive eB(τ:aQ κ)(P:Program)(w:World)(ty tx:TE)(σ:St)(Q:VK)(x:V)(H1:Hp):Prop|mk:∀d kvs0,x=.ref d->aM τ P w H1 d kvs0->(ty σ H1 λy H2=>tx σ H2 λz H3=>fo τ P w Q d y z H3)->eB τ P w ty tx σ Q x H1
def A3(τ:aQ κ)(P:Program)(w:World)(G B F:TE):TE:=λσ H Q=>G σ H λx H1=>eB τ P w B F σ Q x H1
inductive gF(τ:aQ κ)(P:Program)(w:World)(D:Ends)(σ:St)(b d:Addr)(k:κ)(z:V)(H4:Hp):Prop|mk:∀kvs,aM τ P w H4 d kvs->Is H4 (τ.tr k) (.ref b)->kvs.length<sizeLine->(∀o,aM τ P w (upd H4 d o) d (wc kvs k z)->D.nx σ (upd H4 d o))->gF τ P w D σ b d k z H4
inductive fw(τ:aQ κ)(P:Program)(w:World)(tv:TE)(rd:V->V->Hp->VK->Prop)(D:Ends)(σ:St)(x y:V)(H2:Hp):Prop|mk:∀d b kvs k v,x=.ref d->y=.ref b->aM τ P w H2 d kvs->Is H2 (τ.tr k) (.ref b)->y9 kvs k=some v->(tv σ H2 λy2 H3=>rd v y2 H3 λz H4=>gF τ P w D σ b d k z H4)->fw τ P w tv rd D σ x y H2
def yY(τ:aQ κ)(P:Program)(w:World)(G B F:TE)(U:V->V->Hp->VK->Prop):TS:=λD σ H=>G σ H λx H1=>B σ H1 λy H2=>fw τ P w F U D σ x y H2
variable{o i aR:Expr}{ty tv:TE}
theorem Qn(hu:X.A.units+4<cLine)(S:PE X o td)(he:PE X e ty)(U:PE X f tx)(m:M2 X o "get" apos e f cpos):PE X (.Call (.Attribute o "get" apos) [e,f] [] cpos) (A3 τ X.prog X.w td ty tx):=by
 intro a s c H Q I h;refine wpAny_Call_method m.base m.few m.line PySem.F.plainAttrs_dict PySem.F.slot_dict_get PySem.F.type_dict_get (aG (S a s c H _ I h) λu C ⟨x,H1,t,F,d,p,ex,M,L⟩=>?_);subst ex;obtain rfl:u=Value.ref d:=F;obtain⟨l,j,A,w⟩:=M.typ t.hok;refine⟨⟨l,j,A⟩,λb q=>by cases q;exact⟨l,j,w⟩,?_⟩;rw[m.trees];refine Calls.callWith_builtin J (Calls.evalArgs_plain (Calls.spliced_cons (aG (he a C c H1 _ t L) λP B ⟨y,H2,I2,E,K⟩=>Calls.spliced_cons (aG (U a B c H2 _ I2 K) λZ s3 ⟨z,H3,i,D,b,N,k,ey,n,R,G⟩=>Calls.spliced_nil ?_))))
 subst ey;obtain rfl:P=Value.ref b:=E;obtain⟨W,v,g,hz,r⟩:=n.dict i.hok;refine call_meetsIn PySem.F.slot_dict_get r.typeIs PySem.F.entry_dict_get (PySem.F.args_dict_get_3 _ _ _) (meetsH_dict_get_default (We (zy X.prog X.w) τ.S) d b W Z) ⟨Xd (by omega),k,v,τ.of i.hok R,r,?_⟩;exact⟨_,H3,i.tok _,(g.val k).getD D,G⟩
theorem By{op:Operator}{K:V->V->Hp->VK->Prop}(L:X.A.units+3<cLine)(ho:PE X o td)(hi:PE X i ty)(hv:PE X aR tv)(B:re X op K)(ha:∀ov f c,augStore i ov f c=(do holding [c,ov,f] (setItem ov f c);release [c,ov,f] [];pure .next):=by intros;rfl):PS X (.AugAssign (.Subscript o i dP) op aR aE) (yY τ X.prog X.w td ty tv K):=by intro a s g H D I h;refine wpAny_AugAssign_SubscriptAny (aG (ho a s g H _ I h) λu Z ⟨x,H1,I1,rx,q1⟩=>aG (hi a Z g H1 _ I1 q1) λf s2 ⟨y,H2,G,ry,d,b,j,k,v,ex,ey,n,m,l,q2⟩=>?_) ha;subst ex ey;obtain rfl:u=Value.ref d:=rx;obtain rfl:f=Value.ref b:=ry;obtain⟨N,R,e,_,E⟩:=n.dict G.hok;obtain⟨U,hw,t⟩:=Zk.some_of (by rw[<-l];exact e.val k);obtain⟨p,hp,A⟩:=cu.mp hw;refine wpAny_getItem_heap (Xd L) (τ.of G.hok m) E hp ?_;rw[A];refine aG (hv a _ g H2 _ (G.tok _) q2) λS W ⟨P,H3,I4,r,q3⟩=>aG (B a W g H3 v P U S _ I4 t r q3) λw3 s5 ⟨z,H4,F,rz,j,n,m,hl,q4⟩=>?_;obtain⟨N,R,e,hz,E⟩:=n.dict F.hok;refine wpAny_setItem_heap (Xd L) (τ.of F.hok m) E λh' C w=>?_;obtain⟨q,es,ep,M,h2,h3,h4,_,h5⟩:=C;obtain⟨Q,e0,_⟩:=id n;have ag:=xt j k z;refine⟨g,_,Z1 F (by rw[e0];exact True.intro) w ⟨q,M⟩ (iE.ok ⟨q,es,ep,M,h2,h3,h4⟩),q4 _ ⟨_,ze,N,by omega,h5,(e.put k m rz).tups n.tups⟩⟩
end
section
variable{d it v:Addr}{ep i:Nat}{ok ov:Value}
theorem tX(c:(d==sysModules)=false)(x:w9 s.heap d es ep)(b:Q (.ref s.heap.objs.size) {s with heap:=s.heap.push {cls:=.type "dict_items",data:=.fields #[.ref d]}}):wpAny (model prog w) A (call (.builtin "dict.items") [.ref d]) Q E s:=by have a:=x.ty;refine cg F.slot_dict_items a F.entry_dict_items ?_ (F.args_dict_items_1 _);unfold Builtin.«dict.items»;refine a4 ?_;unfold Builtin.Dict.noArgs;refine a4 (wpAny_notOrdered_dict a (a9 ?_));unfold Builtin.Dict.showsAll;rw[if_neg (by simp_all)];exact a4 (a9 (a4 (cx (a9 ⟨_,J,b⟩))))
theorem tV(b:s.heap.IsItemsView v d)(x:w9 s.heap d es ep)(h:Q (.ref s.heap.objs.size) {s with heap:=s.heap.push {cls:=.type "dict_itemiterator",data:=.fields #[.none,.bool false,.ref d,.int 0 0,.int es.size 0,.int ep 0,.none,.none]}}):wpAny (model prog w) A (pyIter (.ref v)) Q E s:=by
 obtain⟨i,c,g,e⟩:=id b;obtain⟨o,f,j,a⟩:=id x;refine wpAny_pyIter_slot b.typeIs F.slot_dict_items_iter (cg F.slot_dict_items_iter b.typeIs F.entry_dict_items_iter ?_ (F.args_dict_items_iter_1 _));unfold Builtin.«dict_items.__iter__»;refine a4 (a9 (a4 ?_));unfold Builtin.Dict_items.dictOf;refine a4 (wpAny_field c e J (a9 (a4 ?_)));unfold Builtin.Dict_items.newIterator;refine a4 (wpAny_dictEntries f a (a4 (wpAny_dictEpoch f a ?_)));simp only[show Builtin.Dict_items.ownsTuple "dict_itemiterator"=true by rfl,if_true];refine cx (a9 ⟨_,J,"dict_itemiterator",_,⟨_,bf _ J,J⟩,F.slot_dict_itemiterator_next.lookup,?_⟩)
  (by simp only[sizeOk,Builtin.Dict_items.ownedTupleFields,cq,cn,dm,List.length_nil,sizeLine_eq];omega)
 simpa[rawInt,Builtin.Dict_items.ownedTupleFields]using h
theorem tU{Q:Option I->Shared->Prop}(z:IsItemIter s.heap it d i es.size ep ok ov)(x:w9 s.heap d es ep)(hi:i<es.size)(hQ:∀h',IsItemIterOut h' it d (i+1) es.size ep es[i].key es[i].val s.heap.objs.size->h'.get? s.heap.objs.size=some {cls:=.type "tuple",data:=.seq #[es[i].key,es[i].val]}->h'.objs.size=s.heap.objs.size+1-> (∀b o,b≠it->s.heap.get? b=some o->h'.get? b=some o)->Q (some (.ref s.heap.objs.size)) {s with heap:=h'}):wpAny (model prog w) A (pyNext (.ref it)) Q E s:=by
 obtain⟨L,g,R,P,os⟩:=s;obtain⟨od,M,ag,N⟩:=id x;have H:Shared.TypeIs ⟨L,g,R,P,os⟩ (.ref it) "dict_itemiterator":=⟨_,z,J⟩
 unfold pyNext;refine a4 (wpAny_attempt (wpAny_callSpecial?_slot H F.slot_dict_itemiterator_next (cg F.slot_dict_itemiterator_next H F.entry_dict_itemiterator_next (a4 (a9 (a4 (a4 ?_)))) (F.args_dict_itemiterator_next_1 _))));first|refine a4 (wpAny_typeNameOfWhole_itemiter H (a9 ?_))|refine a4 (wpAny_typeNameOf_itemiter H (a9 ?_))
 refine a4 (wpAny_fieldsOf z J ?_);simp only[show Builtin.Dict_items.ownsTuple "dict_itemiterator"=true by rfl,if_true];show wpAny _ _ (if(Value.ref d==Value.none)=true then _ else _) _ _ _;rw[if_neg (show¬((Value.ref d==Value.none)=true)from bu)];refine a4 (a9 (a4 (wpAny_dictEntries M N ?_)));rw[if_neg (by simp)];refine a4 (a9 (a4 (wpAny_dictEpoch M N ?_)));rw[if_neg (by simp)];refine a9 ?_;simp only[(by omega),if_false,bz,dj hi];refine a4 ?_;first|refine a4 (wpAny_typeNameOfWhole_itemiter H (a9 ?_))|refine a4 (wpAny_typeNameOf_itemiter H (a9 ?_))
 refine a4 (wpAny_isOneOf_itemiter H ?_);show wpAny _ _ (setField (.ref it) 3 (rawInt (i+1))>>=_) _ _ ⟨L,g,R,P,os⟩;refine a4 (wpAny_setField_rec z (by simp) λp f a=>?_);replace a:=a;replace f:IsItemIter p it d (i+1) es.size ep ok ov:=by
  have e:((i+1:Nat))=i+1:=by omega
  unfold IsItemIter;rw[e];simpa[rawInt]using f
 have v:Shared.TypeIs ⟨p,g,R,P,os⟩ (.ref it) "dict_itemiterator":=⟨_,f,J⟩
 refine a4 (wpAny_holding (a4 (wpAny_isOneOf_itemiter v (a4 (wpAny_isOneOf_itemiter v ?_)))));unfold Builtin.Dict_items.pairFromOwner;refine a4 (wpAny_newTuple ?_);have c:IsItemIter (p.push {cls:=.type "tuple",data:=.seq #[es[i].key,es[i].val]}) it d (i+1) es.size ep ok ov:=aq _ f;generalize n:p.push {cls:=.type "tuple",data:=.seq #[es[i].key,es[i].val]}=y at c;have h:=a.1;have S:=dl (au (z));have D:y.get? L.objs.size=some {cls:=.type "tuple",data:=.seq #[es[i].key,es[i].val]}:=by rw[<-n,<-h];exact bf _ J
 have C:y.objs.size=L.objs.size+1:=by rw[<-n,dy,h]
 have G:∀b o,b≠it->L.get? b=some o->y.get? b=some o:=λb o B e=>by rw[<-n];exact aq _ (a.extBut b o B e)
 show wpAny _ _ (Builtin.Dict_items.ownedTupleIsFree (.ref it)>>=_) _ _ ⟨y,g,R,P,os⟩;rw[h];clear n f a v h p;refine a4 ?_;unfold Builtin.Dict_items.ownedTupleIsFree;refine a4 (wpAny_field c J J (a9 ?_));simp only[if_true];refine a4 (wpAny_field c J J (a4 (wpAny_field c J J ?_)));refine a4 (wpAny_setField_rec c (by simp) λZ u m=>?_);replace u:=u;refine a4 (wpAny_setField_rec u (by simp) λX t l=>?_);replace t:=t;refine a4 (wpAny_setField_rec t (by simp) λW r k=>?_);replace r:=r;refine a4 (wpAny_setField_rec r (by simp) λK q j=>?_);replace q:=q;replace m:=m;replace l:=l;replace k:=k;replace j:=j;have U:=λb o B e=>j.extBut b o B (k.extBut b o B (l.extBut b o B (m.extBut b o B e)));refine a4 (wpAny_letGo (a9 (a9 ⟨_,J,a9 (hQ K q (U _ _ S D) ?_ λb o B e=>U b o B (G b o B e))⟩)));rw[j.1,k.1,l.1,m.1,C]
theorem sB{Q:Option I->Shared->Prop}(g:A.handled=none)(a:IsItemIter s.heap it d i es.size ep ok ov)(x:w9 s.heap d es ep)(f:es.size<=i)(j:∀h',Heap.ExtBut it s.heap h'->Q none {s with heap:=h'}):wpAny (model prog w) A (pyNext (.ref it)) Q E s:=by
 obtain⟨k,c,h,e⟩:=id x;have b:s.TypeIs (.ref it) "dict_itemiterator":=⟨_,a,J⟩
 unfold pyNext;refine a4 (wpAny_attempt (wpAny_callSpecial?_slot b F.slot_dict_itemiterator_next (cg F.slot_dict_itemiterator_next b F.entry_dict_itemiterator_next (a4 (a9 (a4 (a4 ?_)))) (F.args_dict_itemiterator_next_1 _))));first|refine a4 (wpAny_typeNameOfWhole_itemiter b (a9 ?_))|refine a4 (wpAny_typeNameOf_itemiter b (a9 ?_))
 refine a4 (wpAny_fieldsOf a J ?_);simp only[show Builtin.Dict_items.ownsTuple "dict_itemiterator"=true by rfl,if_true];show wpAny _ _ (if(Value.ref d==Value.none)=true then _ else _) _ _ s;rw[if_neg (show¬((Value.ref d==Value.none)=true)from bu)];refine a4 (a9 (a4 (wpAny_dictEntries c e ?_)));rw[if_neg (by simp)];refine a4 (a9 (a4 (wpAny_dictEpoch c e ?_)));rw[if_neg (by simp)];refine a9 ?_;simp only[(by omega),if_false,bz,Array.getElem?_eq_none f];refine a4 ?_;first|refine a4 (wpAny_typeNameOfWhole_itemiter b (a9 ?_))|refine a4 (wpAny_typeNameOf_itemiter b (a9 ?_))
 show wpAny _ _ (setField (.ref it) 2 .none>>=_) _ _ s;refine a4 (wpAny_setField a J (by simp) ?_);refine a4 ?_;simp only[newExc,newTuple];refine a4 (cx (a4 (wpAny_of_eq (by rfl) (cx ?_ (by size_fits)))) (by size_fits));simp only[raiseNew];refine a4 (wpAny_handled ?_);rw[(g)];refine a4 (a9 (wpAny_throw ?_));refine a4 (dk ⟨_,bf _ J,J⟩ isSubtype_stop ?_);exact a9 (j _ (((Heap.SameBut.update ..).extBut.push _).push _))
theorem tW(a:IsItemIter s.heap it d i es.size ep ok ov)(h:Q (.ref it) s):wpAny (model prog w) A (pyIter (.ref it)) Q E s:=kcp_self a h
end
noncomputable def nZ(d:Addr)(o:Obj)(kvs:List (List aI×V)):It:=⟨λi H=>H d=some (.frz o (.dT kvs))/\i<kvs.length,λi H v H'=>∃p b B,v=.ref p/\H p=none/\kvs[i]?=some B/\H b=some (.tup (B.1.map kV))/\H'=upd H p (.tup [.ref b,B.2]),λi H=>H d=some (.frz o (.dT kvs))/\kvs.length<=i⟩
theorem Yy{d:Y}{kvs:O (O aI×V)}(u:bR P w H h)(e:H d=some (.frz o (.dT kvs))):(d==sysModules)=false/\h.get? d=some o/\o.ExactDict/\∃es ep,o.data=.dict es ep/\es.size=kvs.length/\∀i f,kvs[i]?=some f->∃(hi:i<es.size)(b:Y),es[i].key=.ref b/\H b=some (.tup (f.1.map kV))/\yk f.2 es[i].val:=by
 obtain⟨A,_⟩:=u d _ e;obtain⟨z,E,g,n,⟨F,es,ep,x,t,k,y,_,_⟩⟩:=Z3 u (.inr ⟨o,e⟩);rw[A]at x;cases x;have C:=Paired.length n;have D:=size_of_entries y;refine⟨E,A,t,es,ep,k,by omega,λi f hk=>?_⟩;have hi:i<kvs.length:=by grind
 have j:i<es.size:=by omega
 have s:g[i]?=some g[i]:=bi (by omega);have v:f.1=g[i].1/\H g[i].2.1=some (.tup (f.1.map kV))/\yk f.2 g[i].2.2:=by
  have B:∀{l:O (O aI×V)}{m:O (O aI×Y×I)},KT H l m->∀{i:Nat}{p q},l[i]?=some p->m[i]?=some q->p.1=q.1/\H q.2.1=some (.tup (p.1.map kV))/\yk p.2 q.2.2:=by intro l m r;induction r with|nil=>simp| cons a _ G=>grind
  grind
 have c:=entry_at y i;rw[s,dj j]at c;have c:=Option.some.inj c;exact⟨j,g[i].2.1,by rw[c];rfl,v.2.1,by rw[c];exact v.2.2⟩
theorem EI{K:Frag}{k1}(d u:Y)(o:Obj)(kvs:O (O aI×V))(es:Array DictEntry)(ep:Nat)(j:o.data=.dict es ep):dJ P w K (.Tuple eW k1 aE) (nZ d o kvs) [u] u (λi h=>∃ok ov,IsItemIter h u d i es.size ep ok ov) where
 mem:=by simp
 obj:=λi h st b F=>by grind
 keep:=λi h h' ⟨ok,ov,st⟩ k=>⟨ok,ov,k u (by simp) _ st⟩
 item:=by
  intro X Z L hK x i t s σ H E I U st S;subst Z L hK;obtain⟨hH,R⟩:=S;obtain⟨ok,ov,st⟩:=st;obtain⟨hd,h0,v,ah,ao,a,M,B⟩:=Yy I.hok hH;rw[j]at a;cases a;obtain⟨Q,b,C,F,rv⟩:=B i kvs[i] (bi R);obtain⟨f0,G,f2,f3,f4,f5⟩:=U u (by simp);refine tU st ⟨o,h0,v,j⟩ Q λg gi gT gz gk=>?_;refine⟨.ref s.heap.objs.size,J,wpAny_letOwnedTupleGo_items gi λg' ag p=>?_⟩;replace p:=p;have f:=I.hok.fresh (ae _);have A:=dl (au st);have l:=λc o n e=>p.extBut c o n (gk c o n e);have W:=p.extBut _ _ A gT;have ap:∀c o,H c=some o->c≠u:=λc o e z=>by simp_all
  have I1:Inv X t σ (upd H s.heap.objs.size (.tup [.ref b,kvs[i].2])) {s with heap:=g',toks:=s.toks}:=by
   refine I.step (λc x=>by rw[aa.mp x];exact⟨f3,G,f4,f5⟩) (λc o n1 n2 y e _=>l c o (λz=>y (by grind)) e)
    (λc o n1 n2 y e _=>⟨o.slots,l c o (λz=>y (by grind)) e⟩) (λc o y e n=>by rw[upd_ne (az (au e))];exact n) (λc o y e=>⟨o,l c o (λz=>y (by grind)) e⟩)
    (λc zs e=>by rw[upd_ne (zj e f)];exact e) (λc o zs e=>by rw[upd_ne (zj e f)];exact e) (λc ps e=>⟨#[],by rw[upd_ne (zj e f),e];simp⟩) (λm hm=>?_) (λc ob e=>?_) I.bare
   obtain⟨o,es,ep,N,r⟩:=hm;exact⟨o,es,ep,l _ o (aj G) N,r⟩;by_cases D:c=s.heap.objs.size;subst D;rw[ze]at e;cases e;exact⟨by show 2<=sizeLine;rw[sizeLine_eq];omega,[es[i].key,es[i].val],.cons C (.cons rv .nil),⟨_,W,J,_,J⟩,λq hq=>by simp_all⟩
   rw[upd_ne D]at e;refine(I.hok c ob e).stay (λd o x q=>?_) (λd q=>by rw[upd_ne (zj q f)];exact q) λd zs q=>by rw[upd_ne (zj q f)];exact q
   grind
  exact⟨.ref s.heap.objs.size,_,I1,J,⟨_,b,_,J,f,bi R,F,J⟩,⟨_,_,ag⟩,λc x=>by rw[aa.mp x,upd_ne (aj A)];omega⟩
 done:=by intro X Z L hK x i t s σ H E I U st S;subst Z L hK;obtain⟨hH,R⟩:=S;obtain⟨ok,ov,st⟩:=st;obtain⟨hd,h0,v,ah,ao,a,M,_⟩:=Yy I.hok hH;rw[j]at a;cases a;obtain⟨f0,G,f2,f3,f4,f5⟩:=U u (by simp);exact sB (I.ok.hd x) st ⟨o,h0,v,j⟩ (by omega) λh' eb=>⟨J,I.turned (λb o F e=>eb b o F e) f0 G f3 f4 f5⟩
 self:=λ_ _ _ _ _ ⟨ok,ov,st⟩ h=>tW st h
section
variable{o:Expr}{k1:_}
inductive fD(R:It->Hp->Prop)(x:V)(H1:Hp):Prop|mk:∀d ob kvs,x=.ref d->H1 d=some (.frz ob (.dT kvs))->R (nZ d ob kvs) H1->fD R x H1
def AF(to:TE):TI:=λσ H R=>to σ H λx H1=>fD R x H1
theorem Xw(C:PE X o to)(g:attributeBase o "items" X.env (eval o X.env)=eval o X.env:=by rfl)(f:(apos.endLine==cpos.line)=true:=by rfl):PI X (.Tuple eW k1 dP) (.Call (.Attribute o "items" apos) [] [] cpos) (AF to):=by
 intro j s y H R I h;refine wpAny_Call_method0_late g f (aG (C j s y H _ I h) λv i ⟨x,K,m,z,d,n,p,F,D,q⟩=>?_);subst F;cases z;obtain⟨B,w,l,r,t,c,A,_⟩:=Yy m.hok D;have u:w9 i.heap d r t:=⟨n,w,l,c⟩
 refine⟨"dict","dict.items",PySem.F.plainAttrs_dict,PySem.F.slot_dict_items,PySem.F.type_dict_items,u.ty,λa e=>?_,Calls.callWith_builtin J (PySem.evalArgs_none (tX B u ?_))⟩;cases e;exact⟨n,w,l.2.1⟩;refine tV ⟨_,bf _ J,J,J⟩ (u.at λo e=>aq _ e) ?_;have G:=m.kept (t':=i.toks) (h':=(i.heap.push {cls:=.type "dict_items",data:=.fields #[.ref d]}).push {cls:=.type "dict_itemiterator",data:=.fields #[.none,.bool false,.ref d,.int 0 0,.int r.size 0,.int t 0,.none,.none]}) λb o e=>aq _ (aq _ e);have k:i.heap.objs.size<=(i.heap.push {cls:=.type "dict_items",data:=.fields #[.ref d]}).objs.size:=by simp
 refine⟨_,[(i.heap.push {cls:=.type "dict_items",data:=.fields #[.ref d]}).objs.size],_,_,K,J,G,EI d _ n p r t c,⟨_,_,bf _ J⟩,λb E=>?_,q⟩;rw[aa.mp E];exact m.fpOk k (m.hok.fresh k)
end
theorem CY{d:Y}{kvs:O (O aI×V)}(Pv:Nat->St->Hp->Prop)(s:Pv 0 σ H)(l:∀i σ H,i<=kvs.length->Pv i σ H->H d=some (.frz o (.dT kvs)))(v:∀i c σ H,kvs[i]?=some c->Pv i σ H->∀p b,H p=none->H b=some (.tup (c.1.map kV))->g (.ref p) σ (upd H p (.tup [.ref b,c.2])) λf H2=>tb (D.lp (Pv (i+1))) f H2) (r:∀σ H,Pv kvs.length σ H->D.nx σ H):
  cA g tb D σ (nZ d o kvs) H:=by
 refine⟨λi m σ H=>m=kvs.length-i/\i<=kvs.length/\Pv i σ H,⟨kvs.length,by simp,bo _,s⟩,?_⟩;rintro i m σ H ⟨rfl,n,p⟩;have q:=l i σ H n p;by_cases a:i<kvs.length;refine .inr ⟨⟨q,a⟩,Pv (i+1),λh t j=>⟨kvs.length-(i+1),by omega,J,a,j⟩,λx t y=>?_⟩;obtain⟨u,b,c,rfl,k,hk,w,rfl⟩:=y
 grind
 have e:i=kvs.length:=by omega
 subst e;exact .inl ⟨⟨q,ae _⟩,r σ H p⟩
noncomputable def oh(d:Addr)(o:Obj)(kvs:List (aI×V)):It:=⟨λi H=>H d=some (.frz o (.dK kvs))/\i<kvs.length,λi H v H'=>∃p B,v=.ref p/\H p=none/\kvs[i]?=some B/\H'=upd H p (.tup [kV B.1,B.2]),λi H=>H d=some (.frz o (.dK kvs))/\kvs.length<=i⟩
theorem Bm{K:Type}[DecidableEq K]{prog:Program}{w:World}{knd:PySem.KeyKind prog w K}:∀{es:List DictEntry}{kvs:List (K×Value)}{i:Nat}{e:DictEntry}{q:K×Value},Pairs knd es kvs->es[i]?=some e->kvs[i]?=some q->knd.is q.1 e.key=true/\e.val=q.2:=by intro es kvs i e q h;induction h generalizing i with|nil=>simp| cons _ _ _ a=>cases i with|zero=>intro c b;cases c;cases b;exact⟨by assumption,by assumption⟩|succ i=>exact a
theorem Q6{d:Y}(j:bR P w H h)(e:H d=some (.frz o (.dK kvs))):(d==sysModules)=false/\h.get? d=some o/\o.ExactDict/\∃es ep,o.data=.dict es ep/\es.size=kvs.length/\∀i f,kvs[i]?=some f->∃(hi:i<es.size),yk (kV f.1) es[i].key/\yk f.2 es[i].val:=by
 obtain⟨m,_⟩:=j d _ e;obtain⟨z,t,n,a,⟨y,es,ep,l,g,c,hk,k,_⟩⟩:=X7 j (.inr ⟨o,e⟩);rw[m]at l;cases l;have s:=Paired.length a;have r:n.length=es.size:=by rw[<-k.length];exact Array.length_toList
 refine⟨t,m,g,es,ep,c,by omega,λi f b=>?_⟩;have hi:i<es.size:=by have:=(c9.mp b).1;omega
 obtain⟨u,q,p⟩:=KV.get a b;obtain⟨x,v⟩:=Bm k (by rw[Array.getElem?_toList,dj hi]) q;exact⟨hi,pC x,by rw[v];exact p⟩
theorem ER{K:Frag}{k1}(d u:Y)(o:Obj)(kvs:O (aI×V))(es:Array DictEntry)(ep:Nat)(j:o.data=.dict es ep):dJ P w K (.Tuple eW k1 aE) (oh d o kvs) [u] u (λi h=>∃ok ov,IsItemIter h u d i es.size ep ok ov) where
 mem:=by simp
 obj:=λi h st b hb=>by grind
 keep:=λi h h' ⟨ok,ov,st⟩ k=>⟨ok,ov,k u (by simp) _ st⟩
 item:=by
  intro X W G Z x i t s σ H E I S st R;subst W G Z;obtain⟨hH,Q⟩:=R;obtain⟨ok,ov,st⟩:=st;obtain⟨hd,h0,v,ah,ao,a,L,B⟩:=Q6 I.hok hH;rw[j]at a;cases a;obtain⟨N,C,rv⟩:=B i kvs[i] (bi Q);obtain⟨f0,F,f2,f3,f4,f5⟩:=S u (by simp);refine tU st ⟨o,h0,v,j⟩ N λg gi gT gz gk=>?_;refine⟨.ref s.heap.objs.size,J,wpAny_letOwnedTupleGo_items gi λg' ag p=>?_⟩;replace p:=p;have f:=I.hok.fresh (ae _);have A:=dl (au st);have l:=λc o n e=>p.extBut c o n (gk c o n e);have U:=p.extBut _ _ A gT;have ap:∀c o,H c=some o->c≠u:=λc o e z=>by simp_all
  have I1:Inv X t σ (upd H s.heap.objs.size (.tup [kV kvs[i].1,kvs[i].2])) {s with heap:=g',toks:=s.toks}:=by
   refine I.step (λc x=>by rw[aa.mp x];exact⟨f3,F,f4,f5⟩) (λc o n1 n2 y e _=>l c o (λz=>y (by grind)) e)
    (λc o n1 n2 y e _=>⟨o.slots,l c o (λz=>y (by grind)) e⟩) (λc o y e n=>by rw[upd_ne (az (au e))];exact n) (λc o y e=>⟨o,l c o (λz=>y (by grind)) e⟩)
    (λc zs e=>by rw[upd_ne (zj e f)];exact e) (λc o zs e=>by rw[upd_ne (zj e f)];exact e) (λc ps e=>⟨#[],by rw[upd_ne (zj e f),e];simp⟩) (λm hm=>?_) (λc ob e=>?_) I.bare
   obtain⟨o,es,ep,M,r⟩:=hm;exact⟨o,es,ep,l _ o (aj F) M,r⟩;by_cases D:c=s.heap.objs.size;subst D;rw[ze]at e;cases e;exact⟨by show 2<=sizeLine;rw[sizeLine_eq];omega,[es[i].key,es[i].val],.cons C (.cons rv .nil),⟨_,U,J,_,J⟩,λq hq=>by simp_all⟩
   rw[upd_ne D]at e;refine(I.hok c ob e).stay (λd o x q=>?_) (λd q=>by rw[upd_ne (zj q f)];exact q) λd zs q=>by rw[upd_ne (zj q f)];exact q
   grind
  exact⟨.ref s.heap.objs.size,_,I1,J,⟨_,_,J,f,bi Q,J⟩,⟨_,_,ag⟩,λc x=>by rw[aa.mp x,upd_ne (aj A)];omega⟩
 done:=by intro X W G Z x i t s σ H E I S st R;subst W G Z;obtain⟨hH,Q⟩:=R;obtain⟨ok,ov,st⟩:=st;obtain⟨hd,h0,v,ah,ao,a,L,_⟩:=Q6 I.hok hH;rw[j]at a;cases a;obtain⟨f0,F,f2,f3,f4,f5⟩:=S u (by simp);exact sB (I.ok.hd x) st ⟨o,h0,v,j⟩ (by omega) λh' eb=>⟨J,I.turned (λb o hb e=>eb b o hb e) f0 F f3 f4 f5⟩
 self:=λ_ _ _ _ _ ⟨ok,ov,st⟩ h=>tW st h
section
variable{o:Expr}{k1:_}
inductive eM(R:It->Hp->Prop)(x:V)(H1:Hp):Prop|mk:∀d ob kvs,x=.ref d->H1 d=some (.frz ob (.dK kvs))->R (oh d ob kvs) H1->eM R x H1
def BC(to:TE):TI:=λσ H R=>to σ H λx H1=>eM R x H1
theorem Dr(C:PE X o to)(g:attributeBase o "items" X.env (eval o X.env)=eval o X.env:=by rfl)(f:(apos.endLine==cpos.line)=true:=by rfl):PI X (.Tuple eW k1 dP) (.Call (.Attribute o "items" apos) [] [] cpos) (BC to):=by
 intro j s y H R I h;refine wpAny_Call_method0_late g f (aG (C j s y H _ I h) λv i ⟨x,K,m,z,d,n,p,F,D,q⟩=>?_);subst F;cases z;obtain⟨B,w,l,r,t,c,A,_⟩:=Q6 m.hok D;have u:w9 i.heap d r t:=⟨n,w,l,c⟩
 refine⟨"dict","dict.items",PySem.F.plainAttrs_dict,PySem.F.slot_dict_items,PySem.F.type_dict_items,u.ty,λa e=>?_,Calls.callWith_builtin J (PySem.evalArgs_none (tX B u ?_))⟩;cases e;exact⟨n,w,l.2.1⟩;refine tV ⟨_,bf _ J,J,J⟩ (u.at λo e=>aq _ e) ?_;have G:=m.kept (t':=i.toks) (h':=(i.heap.push {cls:=.type "dict_items",data:=.fields #[.ref d]}).push {cls:=.type "dict_itemiterator",data:=.fields #[.none,.bool false,.ref d,.int 0 0,.int r.size 0,.int t 0,.none,.none]}) λb o e=>aq _ (aq _ e);have k:i.heap.objs.size<=(i.heap.push {cls:=.type "dict_items",data:=.fields #[.ref d]}).objs.size:=by simp
 refine⟨_,[(i.heap.push {cls:=.type "dict_items",data:=.fields #[.ref d]}).objs.size],_,_,K,J,G,ER d _ n p r t c,⟨_,_,bf _ J⟩,λb E=>?_,q⟩;rw[aa.mp E];exact m.fpOk k (m.hok.fresh k)
end
theorem D8{d:Y}(Pv:Nat->St->Hp->Prop)(r:Pv 0 σ H)(k:∀i σ H,i<=kvs.length->Pv i σ H->H d=some (.frz o (.dK kvs)))(u:∀i b σ H,kvs[i]?=some b->Pv i σ H->∀p,H p=none->g (.ref p) σ (upd H p (.tup [kV b.1,b.2])) λc H2=>tb (D.lp (Pv (i+1))) c H2) (n:∀σ H,Pv kvs.length σ H->D.nx σ H):
  cA g tb D σ (oh d o kvs) H:=by
 refine⟨λi m σ H=>m=kvs.length-i/\i<=kvs.length/\Pv i σ H,⟨kvs.length,by simp,bo _,r⟩,?_⟩;rintro i m σ H ⟨rfl,l,p⟩;have q:=k i σ H l p;by_cases a:i<kvs.length;refine .inr ⟨⟨q,a⟩,Pv (i+1),λf s h=>⟨kvs.length-(i+1),by omega,J,a,h⟩,λx s y=>?_⟩;obtain⟨t,b,rfl,j,hk,rfl⟩:=y
 grind
 have e:i=kvs.length:=by omega
 subst e;exact .inl ⟨⟨q,ae _⟩,n σ H p⟩
theorem CZ{d:Y}(Pv:Nat->St->Hp->Prop)(r:Pv 0 σ H)(k:∀i σ H,i<=kvs.length->Pv i σ H->H d=some (.frz o (.dK kvs)))(j:∀i b σ H,kvs[i]?=some b->Pv i σ H->g (kV b.1) σ H λc H2=>tb (D.lp (Pv (i+1))) c H2) (n:∀σ H,Pv kvs.length σ H->D.nx σ H):
  cA g tb D σ (qW d o kvs) H:=by
 refine⟨λi m σ H=>m=kvs.length-i/\i<=kvs.length/\Pv i σ H,⟨kvs.length,by simp,bo _,r⟩,?_⟩;rintro i m σ H ⟨rfl,l,p⟩;have q:=k i σ H l p;by_cases a:i<kvs.length
 . refine .inr ⟨⟨q,a⟩,Pv (i+1),λf s h=>⟨kvs.length-(i+1),by omega,J,a,h⟩,λx s y=>?_⟩;obtain⟨rfl,b,hk,rfl⟩:=y;exact j i b σ _ hk p
 . have e:i=kvs.length:=by omega
   subst e;exact .inl ⟨⟨q,ae _⟩,n σ H p⟩
section
variable{K:Type}[DecidableEq K]{knd:HeapKind prog w K}
inductive bV(A:Around)(s:Shared)(kb:List (K×Addr×Value)):List (K×Addr×Value)->Bool->Prop|nil:bV A s kb [] true|miss:∀{k a v r},atKey kb k=none->bV A s kb ((k,a,v)::r) false|hit:∀{k a v r p e b},atKey kb k=some p->SeqAt.EqAt A s v p.2 e->bV A s kb r b->bV A s kb ((k,a,v)::r) (e && b)
theorem bV.inv{c:List (K×Addr×Value)}{k:K}{r:List (K×Addr×Value)}{b:Bool}(h:bV A s c ((k,a,v)::r) b):(atKey c k=none/\b=false)\/∃p e d,atKey c k=some p/\SeqAt.EqAt A s v p.2 e/\bV A s c r d/\b=(e && d):=by cases h with|miss i=>exact .inl ⟨i,J⟩|hit f j g=>exact .inr ⟨_,_,_,f,j,g,J⟩
theorem V6 {nm:String} {m P:O (K×Y×I)} {Q:Bool->Shared->Prop} (hu:knd.room A) (ha:(a==sysModules)=false) (hb:(b==sysModules)=false)(da:s.heap.DictOfH knd a m) (db:s.heap.DictOfH knd b P) (Z:m.length=P.length->bV A s P m r) (h:Q (m.length==P.length && r) s):
  wpAny (model prog w) A (Builtin.Dict.samePairs nm a b) Q E s:=by
 obtain⟨oa,f,ep,n,_,z,ag,av,_⟩:=da;obtain⟨ob,N,ay,D,_,M,H,ap,U⟩:=db;have t:m.length=f.size:=(size_of_entries ag).symm;have W:P.length=N.size:=(size_of_entries H).symm;rw[t,W]at h;unfold Builtin.Dict.samePairs Builtin.Dict.showsAll;rw[if_neg (show¬(a==sysModules)=true by rw[ha];exact bu),if_neg (show¬(b==sysModules)=true by rw[hb];exact bu)];refine a4 (a9 (a4 (a9 ?_)));refine a4 (wpAny_dictEntries n z ?_);dsimp only;refine a4 (wpAny_dictEntries D M ?_);by_cases g:f.size=N.size
 . have h' :Q r s:=by simpa[g]using h
   have G:=Z (by rw[t,W];exact g);rw[if_neg (by rw[g];simp)];refine a4 (wpAny_dictEpoch n z ?_);refine a4 ?_;rw[Std.Legacy.Range.forIn_eq_forIn_range'];simp only[Std.Legacy.Range.size,Nat.sub_zero,Nat.add_sub_cancel,Nat.div_one];refine wpAny_forIn_list _
    (λvw q s'=>s'=s/\q=(none,())/\∃i,vw=List.range' i (f.size-i)/\i<=f.size/\bV A s P (m.drop i) r)
    _ ?_ ?_ _ _ ⟨J,J,0,by simp,bo _,G⟩
   . rintro x vw q s' ⟨rfl,rfl,i,C,hi,d⟩;have o:i<f.size:=by
      rcases Nat.lt_or_ge i f.size with h|h
      . exact h
      . rw[Nat.sub_eq_zero_of_le h]at C;simp at C
     obtain⟨rfl,B⟩:x=i/\vw=List.range' (i+1) (f.size-(i+1)):=by
      have e:f.size-i=(f.size-(i+1))+1:=by omega
      rw[e,List.range'_succ]at C;injection C with h1 h2;exact⟨h1,h2⟩
     refine a4 (wpAny_dictEntries n z ?_);rw[dj o];have l:x<m.length:=by rw[t];exact o
     obtain⟨k,c,v,F⟩:∃k c v,m[x]=(k,c,v):=⟨_,_,_,J⟩
     have L:m.drop x=(k,c,v)::m.drop (x+1):=by rw[<-F];exact List.drop_eq_getElem_cons l
     have u:=entry_at ag x;rw[dj o,bi l,F]at u;have u:f[x]=entryOfKey knd (k,c,v):=Option.some.inj u;have X:knd.is s'.heap k c:=by have:=av _ (List.getElem_mem l);rw[F]at this;exact this
     rw[L]at d;rw[u];show wpAny _ _ (holding [Value.ref c,v] _>>=_) _ _ _;refine a4 (wpAny_holding (a4 (wpAny_dictFind_heap hu X D M H ap U (λah=>?_) λj p hj=>?_)))
     . have hn:=atKey_none_of_get ah;rcases d.inv with⟨_,er⟩|⟨y,_,_,hy,_⟩
       . rw[er]at h';refine a9 ?_;show wpAny _ _ (if(!false)=true then _ else _) _ _ _;rw[if_pos (by decide)];exact a9 (a9 h')
       . rw[hn]at hy;exact nomatch hy
     . have R:=atKey_of_get U hj;refine a4 (wpAny_dictEntries D M ?_);rw[entry_at H j,hj];rcases d.inv with⟨hn,_⟩|⟨y,e,b',hy,he,S,er⟩
       . rw[R]at hn;exact nomatch hn
       . have ey:p=y:=Option.some.inj (R.symm.trans hy);rw[<-ey]at he;refine wpAny_holding (he prog w _ _ ?_);cases e with| false=>rw[er,Bool.false_and]at h';show wpAny _ _ (if(!false)=true then _ else _) _ _ _;rw[if_pos (by decide)];exact a9 (a9 h')| true=>rw[Bool.true_and]at er;rw[<-er]at S;show wpAny _ _ (if(!true)=true then _ else _) _ _ _;rw[if_neg (by decide)];refine a4 (wpAny_dictEpoch n z ?_);rw[if_neg (by simp)];exact a9 ⟨J,J,x+1,B,o,S⟩
   . rintro q s' ⟨rfl,rfl,i,C,hi,d⟩;have ao:i=f.size:=by
      rcases Nat.lt_or_ge i f.size with h|h
      . have e:f.size-i=(f.size-(i+1))+1:=by omega
        rw[e,List.range'_succ]at C;exact nomatch C
      . exact Nat.le_antisymm hi h
     refine a9 ?_;rw[ao,<-t,List.drop_length]at d;cases d;exact h'
 . rw[if_pos (by simpa using g)];have aw:(f.size==N.size)=false:=by simpa using g
   rw[aw,Bool.false_and]at h;exact a4 (wpAny_rule (a9 h))
theorem Fn{e d:O (K×Y×I)}(j:knd.room A.in1)(l:(a==sysModules)=false)(k:(b==sysModules)=false)(f:s.heap.DictOfH knd a e) (g:s.heap.DictOfH knd b d) (i:A.units<cLine) (c:e.length=d.length->bV A.in1 s d e r) (h:Q (.bool (e.length==d.length && r)) s):
  wpAny (model prog w) A (compareOp .Eq (.ref a) (.ref b)) Q E s:=by
 refine wpAny_richCompare_same_room (op:=.Eq) f.typeIs g.typeIs PySem.F.slot_dict_eq (cg PySem.F.slot_dict_eq f.typeIs PySem.F.entry_dict_eq ?_ (PySem.F.args_dict_eq_2 _ _)) i;show wpAny _ _ (Builtin.Dict.dictSlotArgs "__eq__" ⟨[.ref a,.ref b],[]⟩>>=_) _ _ s;refine a4 ?_;unfold Builtin.Dict.dictSlotArgs;refine a4 (wpAny_notOrdered_dict f.typeIs ?_);show wpAny _ _ (pure (Value.ref a,Value.ref b)) _ _ s;refine a9 ?_;refine a4 (dk (T:="dict") g.typeIs PySem.F.sub_dict_dict ?_);simp only[Bool.not_true,Bool.false_eq_true,if_false];refine a4 (a9 (a4 (a9 ?_)));refine a4 (V6 j l k f g c ?_);refine a9 ⟨_,J,?_,?_⟩
 . exact λx=>nomatch x
 . simpa using h
theorem Fi{e d:O (K×Y×I)}(j:knd.room A.in1)(l:(a==sysModules)=false)(k:(b==sysModules)=false)(f:s.heap.DictOfH knd a e) (g:s.heap.DictOfH knd b d) (i:A.units<cLine) (c:e.length=d.length->bV A.in1 s d e r) (h:Q (.bool (!(e.length==d.length && r))) s):
  wpAny (model prog w) A (compareOp .NotEq (.ref a) (.ref b)) Q E s:=by
 refine wpAny_richCompare_same_room (op:=.NotEq) f.typeIs g.typeIs PySem.F.slot_dict_ne (cg PySem.F.slot_dict_ne f.typeIs PySem.F.entry_dict_ne ?_ (PySem.F.args_dict_ne_2 _ _)) i;show wpAny _ _ (Builtin.Dict.dictSlotArgs "__ne__" ⟨[.ref a,.ref b],[]⟩>>=_) _ _ s;refine a4 ?_;unfold Builtin.Dict.dictSlotArgs;refine a4 (wpAny_notOrdered_dict f.typeIs ?_);show wpAny _ _ (pure (Value.ref a,Value.ref b)) _ _ s;refine a9 ?_;refine a4 (dk (T:="dict") g.typeIs PySem.F.sub_dict_dict ?_);simp only[Bool.not_true,Bool.false_eq_true,if_false];refine a4 (a9 (a4 (a9 ?_)));refine a4 (V6 j l k f g c ?_);refine a9 ⟨_,J,?_,?_⟩
 . exact λx=>nomatch x
 . simpa using h
end
inductive nR(f:Bool->Bool)(x y:V)(H:Hp)(Q:VK):Prop|mk:∀a b ka kb,x=.ref a->y=.ref b->Rd H a (.dT ka)->Rd H b (.dT kb)->(ka.length=kb.length->∀p∈ka,∃t u,Is H t p.2/\y9 kb p.1=some u/\Is H t u/\(aN t).canLay0=true/\(aN t).depth<=10)->Q (.bl (f (ka.length==kb.length))) H->nR f x y H Q
section
theorem ud{g:List (List aI×V)}{c:List (List aI×Addr×Value)}(G:X.A.units+64<cLine)(I:Inv X pins σ H s)(k:KT H g c):∀{f:List (List aI×V)}{d:List (List aI×Addr×Value)},KT H f d->(∀p∈f,∃t u,Is H t p.2/\y9 g p.1=some u/\Is H t u/\(aN t).canLay0=true/\(aN t).depth<=10)->bV X.A.in1 s c d true:=by intro f d l;induction l with|nil=>exact λ_=>.nil| @cons p q F D h _ v=>intro i;obtain⟨t,u,A,y,x,b,K⟩:=i p bv;have a:=k.val p.1;rw[y]at a;cases e:atKey c p.1 with|none=>rw[e]at a;exact a.elim| some z=>rw[e]at a;have a:yk u z.2:=a;obtain⟨as,n⟩:=Ya I b A h.2.2;obtain⟨B,m⟩:=Ya I b x a;have j:=SeqAt.eqAt_reads (aN t) (aN t) X.A.in1 s q.2.2 z.2 as B n m b b (by have:X.A.in1.units=X.A.units+1:=rfl;omega);rw[SeqAt.eqv_refl _ b]at j;obtain⟨o,E,C⟩:=q;have hk:p.1=o:=h.1;rw[hk]at e;exact .hit (e:=true) (b:=true) e j (v λr w=>i r (br _ w))
theorem Vn(p:X.A.units+64<cLine):dA X (compareOp .Eq) (nR id):=by intro f s z H x y v u Q I k j h;obtain⟨a,b,D,C,rfl,rfl,m,l,r,q⟩:=h;obtain rfl:v=Value.ref a:=k;obtain rfl:u=Value.ref b:=j;obtain⟨_,w,B,d,i⟩:=Z3 I.hok m;obtain⟨_,t,A,c,g⟩:=Z3 I.hok l;have o:=Paired.length d;have n:=Paired.length c;exact Fn (r:=true) (tupleKind_room_in1 (by omega)) w t i g (by omega) (λe=>ud p I c d (r (by omega))) ⟨.bl _,H,I,by rw[<-o,<-n,Bool.and_true];rfl,q⟩
theorem Bj(p:X.A.units+64<cLine):dA X (compareOp .NotEq) (nR (!·)):=by intro f s z H x y v u Q I k j h;obtain⟨a,b,D,C,rfl,rfl,m,l,r,q⟩:=h;obtain rfl:v=Value.ref a:=k;obtain rfl:u=Value.ref b:=j;obtain⟨_,w,B,d,i⟩:=Z3 I.hok m;obtain⟨_,t,A,c,g⟩:=Z3 I.hok l;have o:=Paired.length d;have n:=Paired.length c;exact Fi (r:=true) (tupleKind_room_in1 (by omega)) w t i g (by omega) (λe=>ud p I c d (r (by omega))) ⟨.bl _,H,I,by rw[<-o,<-n,Bool.and_true];rfl,q⟩
end
section
variable{κ:Type}[DecidableEq κ]{τ:aQ κ}
inductive fj(τ:aQ κ)(P:Program)(w:World)(Q:VK)(d:Addr)(y z:V)(H3:Hp):Prop|mk:∀b kvs k,y=.ref b->aM τ P w H3 d kvs->Is H3 (τ.tr k) (.ref b)->kvs.length<sizeLine->(∀v,y9 kvs k=some v->Q v H3)->(y9 kvs k=none->∀o,aM τ P w (upd H3 d o) d (wc kvs k z)->Q z (upd H3 d o))->fj τ P w Q d y z H3
inductive dZ(τ:aQ κ)(P:Program)(w:World)(ty tx:TE)(σ:St)(Q:VK)(x:V)(H1:Hp):Prop|mk:∀d kvs0,x=.ref d->aM τ P w H1 d kvs0->(ty σ H1 λy H2=>tx σ H2 λz H3=>fj τ P w Q d y z H3)->dZ τ P w ty tx σ Q x H1
def A5(τ:aQ κ)(P:Program)(w:World)(G B F:TE):TE:=λσ H Q=>G σ H λx H1=>dZ τ P w B F σ Q x H1
variable{o:Expr}{ty:TE}
theorem CA(hu:X.A.units+4<cLine)(ho:PE X o td)(he:PE X e ty)(hf:PE X f tx)(m:M2 X o "setdefault" apos e f cpos):PE X (.Call (.Attribute o "setdefault" apos) [e,f] [] cpos) (A5 τ X.prog X.w td ty tx):=by
 intro a s r H Q I h;refine wpAny_Call_method m.base m.few m.line PySem.F.plainAttrs_dict PySem.F.slot_dict_setdefault PySem.F.type_dict_setdefault (aG (ho a s r H _ I h) λu s1 ⟨x,H1,R,rx,d,K,ex,n0,q1⟩=>?_);subst ex;obtain rfl:u=Value.ref d:=rx;obtain⟨G,D,W,U⟩:=n0.typ R.hok;refine⟨⟨G,D,W⟩,λb q=>by cases q;exact⟨G,D,U⟩,?_⟩;rw[m.trees];refine Calls.callWith_builtin J (Calls.evalArgs_plain (Calls.spliced_cons (aG (he a s1 r H1 _ R q1) λiv s2 ⟨y,H2,I2,ry,q2⟩=>Calls.spliced_cons (aG (hf a s2 r H2 _ I2 q2) λP Z ⟨z,H3,l,E,b,i,k,ey,n,L,hl,q3,q4⟩=>Calls.spliced_nil ?_))))
 subst ey;obtain rfl:iv=Value.ref b:=ry;obtain⟨N,xs,j,hz,C⟩:=n.dict l.hok;refine cg PySem.F.slot_dict_setdefault C.typeIs PySem.F.entry_dict_setdefault ?_ (PySem.F.args_dict_setdefault_3 _ _ _);unfold Builtin.«dict.setdefault»;refine a4 ?_;unfold Builtin.Dict.keyAndDefault;refine a4 (wpAny_notOrdered_dict C.typeIs ?_);refine a9 ?_;show wpAny _ _ (if(d==sysModules)=true then _ else(dictSetDefault d (.ref b) P>>=_)) _ _ Z;rw[if_neg (by rw[N];exact bu)];have g:=j.val k;refine a4 (Vc (Xd (by omega)) (τ.of l.hok L) C (λp hp=>?_) (λt h' B hs=>?_) hz);rw[hp]at g;cases c:y9 i k with|none=>rw[c]at g;exact g.elim| some v=>rw[c]at g;exact a9 ⟨p.2,J,v,H3,l.tok _,g,q3 v c⟩
 rw[t]at g;cases c:y9 i k with|some v=>rw[c]at g;exact g.elim| none=>obtain⟨F,w,A,M,h2,h3,h4,_,h5⟩:=B;obtain⟨S,e0,_⟩:=id n;have ag:=xt i k z;exact a9 ⟨P,J,z,_,Z1 l (by rw[e0];exact True.intro) hs ⟨F,M⟩ (iE.ok ⟨F,w,A,M,h2,h3,h4⟩),E,q4 c _ ⟨_,ze,N,by omega,h5,(j.put k L E).tups n.tups⟩⟩
end
section
theorem pO{i:Int}{v:V}(a:Is H (.int i) v)(r:yk v u):eN (zy P w) h (.inr (.inl i)) u:=by cases(a);exact Y3 r
theorem BD{x:Str}{v:V}(a:Is H (.str x) v)(r:yk v u):eN (zy P w) h (.inr (.inr x)) u:=by cases(a);exact Y3 r
theorem BE(d:bR P w H h){g:O Int}{v:V}(a:Is H (tI g) v)(r:yk v u):eN (zy P w) h (.inl (kI g)) u:=by obtain⟨b,f,rfl,c,e⟩:=a;rw[IsL.ints.mp e,<-Z2]at c;cases(r);exact⟨b,J,Yh d c⟩
theorem ui(l:bR P w H h){c b:T}{f d:dB aI}(i:Is H (.tup [c,b]) (.ref a))(y:∀v u,Is H c v->yk v u->eN (zy P w) h f u)(x:∀v u,Is H b v->yk v u->eN (zy P w) h d u):jg (zy P w) h [f,d] a:=by
 obtain⟨K,D,e,t,s⟩:=i;cases e;obtain⟨_,m,r,⟨o,B,A,n,z⟩,_⟩:=(l a _ t)
 obtain⟨G,E,rfl,q,F,g,rfl,p,C⟩:=s;cases(C);cases r with| cons k r=>cases r with| cons j r=>cases r;exact⟨o,_,n,B,A,z,by simpa using cF.cons (y _ _ q k) (.cons (x _ _ p j) .nil)⟩
end
noncomputable def dH:aQ (Str×Int) where
 S := { f:=λp=>[.inr (.inr p.1),.inr (.inl p.2)]
        inj:=λa b e=>by
         injection e with e1 e2;injection e2 with e2 _;injection e1 with e1;injection e1 with e1;injection e2 with e2;injection e2 with e2;exact Prod.ext e1 e2
        one:=λ_ _=>rfl}
 tr:=λp=>.tup [.str p.1,.int p.2]
 fro:=λ_=>⟨trivial,trivial,trivial⟩
 of:=λok _ _ i=>ui ok i (λ_ _=>BD) (λ_ _=>pO)
noncomputable def lA:aQ (List Int×Int) where
 S := { f:=λp=>[.inl (kI p.1),.inr (.inl p.2)]
        inj:=λa b e=>by
         injection e with e1 e2;injection e2 with e2 _;injection e1 with e1;injection e2 with e2;injection e2 with e2;exact Prod.ext (sT e1) e2
        one:=λ_ _=>rfl}
 tr:=λp=>.tup [tI p.1,.int p.2]
 fro:=λp=>⟨X3 p.1,trivial,trivial⟩
 of:=λok _ _ i=>ui ok i (λ_ _=>BE ok) (λ_ _=>pO)
noncomputable def iC(rows:List (List Int×V))(kvs:List (List aI×V)):List (List aI×V):=rows.foldl (λB r=>wc B (kI r.1) r.2) kvs
inductive gW(as:List V)(H:Hp)(Q:VK):Prop|mk:∀(p:Addr)(bs:List Addr)(rows:List (List Int×V)),as=[.ref p]->H p=some (.lst (bs.map V.ref))->Paired (cE H) bs rows->(∀d H',Same H H'->H d=none->H' d=some (.dT (iC rows []))->Q (.ref d) H')->gW as H Q
theorem Kc{H:Hp}:∀{rows:List (List Int×V)}{d:List Vf}{kvs:List (List aI×V)}{xs:List Vf},Paired (λ(r:List Int×V) (q:Vf)=>kI r.1=q.1/\H q.2.1=some (.tup (q.1.map kV))/\yk r.2 q.2.2) rows d->KT H kvs xs->
  KT H (iC rows kvs) (sE xs d)/\(iC rows kvs).length<=kvs.length+rows.length
 |_,_,kvs,_,.nil,r=>⟨r,ae _⟩
 | r::rows,q::d,kvs,xs,.cons h t,f=>by
   obtain⟨g,j,i⟩:=h;have b:=f.put q.1 j i;rw[<-g]at b;obtain⟨a,c⟩:=Kc t b;have e:storedH xs (kI r.1) q.2.1 q.2.2=storedH xs q.1 q.2.1 q.2.2:=by rw[g]
   rw[e]at a;refine⟨a,cj c ?_⟩;have:=xt kvs (kI r.1) r.2
   grind
section
theorem Q9(hc:X.calm=true)(hu:X.A.units+8<cLine):qx X (.type "dict") gW:=by
 intro ag s σ H as us Q I r h;obtain⟨p,F,k,rfl,hp,U,q⟩:=h;obtain⟨u,rfl,rx⟩:=qt r;cases(rx);obtain⟨hz,f,n,rv,h1⟩:=(I.hok p _ hp)
 have hh:=I.ok.hd hc;obtain⟨rh,av,z,l⟩:=rW I U;have R:f.length=F.length:=by have:=rv.length;simp_all
 have ap:F.length<=sizeLine:=by simp_all
 refine callType_codes (Q₁:=λw i=>w=.ref s.heap.objs.size/\i={s with heap:=s.heap.push {cls:=.type "dict",data:=.dict #[]}}) PySem.F.kt_called_dict (PySem.F.kt_typeCall_dict_1 _) PySem.F.entry_dict_init (kt_code_dict_new _ ⟨J,J⟩) ?_;rintro w i ⟨rfl,rfl⟩;have c:(s.heap.push {cls:=.type "dict",data:=.dict #[]}).DictOfH (tupleKind (zy X.prog X.w)) s.heap.objs.size []:=Heap.DictOfH.new s.heap;have E:=c.typeIs (s:={s with heap:=s.heap.push {cls:=.type "dict",data:=.dict #[]}});have t:(s.heap.push {cls:=.type "dict",data:=.dict #[]}).get? p=some {cls:=.type "list",dict:=none,data:=.seq f.toArray n,slots:=#[]}:=aq _ h1;have D:=au h1;refine⟨E,PySem.F.args_dict_init_2 _ _,?_⟩;unfold Builtin.«dict.__init__»;refine a4 ?_;unfold Builtin.Dict.selfAndRest;refine a4 (wpAny_notOrdered_dict E (a9 ?_));show wpAny _ _ (Builtin.Dict.updateFrom "dict.__init__" s.heap.objs.size (.ref p) [] .none) _ _ _;unfold Builtin.Dict.updateFrom;refine a4 (wpAny_typeOf ⟨_,t,J⟩ ?_);rw[if_pos (by rfl)];refine a4 (Eu t hh λg tk hk=>?_);simp only[Option.isNone_none,if_true];refine a4 (wpAny_rule ?_);have y:g.IsList p f.toArray:=⟨_,hk _ _ t,J,n,J⟩
 refine a4 (wpAny_pyIter_list y (a9 ⟨plainId_quiet qe _,?_⟩));have d:s.heap.objs.size+1<=g.objs.size:=by obtain⟨o,G,K,C,_⟩:=c;exact au (hk _ _ C)
 have S:(g.push {cls:=.type "list_iterator",data:=.fields #[.ref p,.int 0 0]}).DictOfH (tupleKind (zy X.prog X.w)) s.heap.objs.size []:=by obtain⟨o,G,K,C,a1,a2,Z,_,W⟩:=c;exact⟨o,G,K,aq _ (hk _ _ C),a1,a2,Z,(λx hx=>by grind),W⟩
 have L:∀b o,s.heap.get? b=some o->(g.push {cls:=.type "list_iterator",data:=.fields #[.ref p,.int 0 0]}).get? b=some o:=λb o e=>aq _ (hk _ _ (aq _ e));refine CO (A:=X.A.in1) (rows:=rh) (by grind) hh (az (Nat.lt_of_succ_le d)) (az (Nat.lt_trans D (Nat.lt_of_succ_le d))) (az D) (by simp_all) (by omega) rh.length 0 _ [] (by omega) (bo _) (ae _)
  ⟨_,bf _ J,J,J⟩ (y.push _) S (λj v r N hr=>?_) λh' ao hD hK=>?_
 have N:f[j]?=some v:=by simp_all
 have hj:j<F.length:=by grind
 obtain⟨u,P,ru⟩:=rv.get (by rw[bc,bi hj];rfl);rw[P]at N;cases N;cases(ru);obtain⟨⟨ob,B,rr⟩,⟨ok,aB,m,A,rk⟩⟩:=l j F[j] r (bi hj) hr;have l1:=au B;have l2:=au A;exact⟨F[j],J,az l1,az (Nat.lt_trans l1 (Nat.lt_of_succ_le d)),az l2,az (Nat.lt_trans l2 (Nat.lt_of_succ_le d)),⟨ob,L _ _ B,rr⟩,⟨ok,aB,m,L _ _ A,rk⟩⟩;refine⟨J,?_⟩;have keep:=λb o e=>hK b o (az (au e)) (az (Nat.lt_trans (au e) (Nat.lt_of_succ_le d))) (L b o e);obtain⟨M,ah⟩:=Kc z .nil;have aw:=Paired.length z;have a:=I.hok.fresh (ae s.heap.objs.size);have sm:=Same.new a (.dT (iC k []));obtain⟨_,zz,_⟩:=uL (P:=X.prog) (w:=X.w) (H:=H) s.heap I.big;obtain⟨o,G,K,C,a1,a2,Z,_,W⟩:=hD;refine⟨.ref s.heap.objs.size,_,I.laid (o:=.dT (iC k [])) keep (ae _) ⟨?_,zz,_,M.keeps λb ys e=>sm _ _ e,o,G,K,C,a1,a2,Z,W⟩,J,q _ _ sm a ze⟩
 grind
end
section
variable{d:Addr}{kvs:List (List aI×V)}{tc:TT}{te:TE}{k:Nat}{Q:VK}
theorem Qx(Pv:Nat->O V->Hp->Prop)(v:Pv 0 [] H)(s:∀i ys H,i<=kvs.length->Pv i ys H->H d=some (.frz o (.dT kvs))/\ys.length<=sizeLine)(B:∀i f ys H,kvs[i]?=some f->Pv i ys H->∀p b,H p=none->H b=some (.tup (f.1.map kV))->g (.ref p) (bY k cap σ) (upd H p (.tup [.ref b,f.2])) λa H2=>tc a H2 λb j=>if b=true then te a j λy w=>Pv (i+1) (ys++[y]) w else Pv (i+1) ys j)
  (u:∀ys H,Pv kvs.length ys H->∀p,H p=none->Q (.ref p) (upd H p (.lst ys))):cV (nZ d o kvs) g tc te k cap σ H Q:=by
 refine⟨λi m ys H=>m=kvs.length-i/\i<=kvs.length/\Pv i ys H,⟨kvs.length,by simp,bo _,v⟩,?_⟩;rintro i m ys H ⟨rfl,t,p⟩;obtain⟨q,h⟩:=s i ys H t p;by_cases c:i<kvs.length;refine .inr ⟨⟨q,c⟩,h,Pv (i+1),λl z n=>⟨kvs.length-(i+1),by omega,J,c,n⟩,λx z y=>?_⟩;obtain⟨A,b,f,rfl,r,hk,C,rfl⟩:=y
 grind
 have e:i=kvs.length:=by omega
 subst e;exact .inl ⟨⟨q,ae _⟩,h,u ys H p⟩
end
end L2
namespace L2
open PySem PySem.Spec PyProof.Rows
inductive fz(x y:V)(H:Hp)(Q:VK):Prop|mk:∀p,y=.ref p->H p=some (.tup [])->Q (.bl true) H->fz x y H Q
theorem Do{X:Cx}:dA X (compareOp .NotIn) fz:=by intro a s g H x y v u Q I i b h;obtain⟨p,rfl,f,q⟩:=h;cases b;obtain⟨d,r,c,j⟩:=I.tuple (aH.of (K:=X.K) f);cases r;exact SeqAt.notIn_tupleAt (λ_=>false) c (λy e=>by simp at e) ⟨.bl true,H,I,by simp[yk],q⟩
end L2
namespace L2
open PySem PySem.Spec PyProof.Rows PySem.W
variable{A:Around}{es:Array DictEntry}{Q:Option Value->Shared->Prop}{P:Program}{s:Shared}{E:Value->Shared->Prop}{w:World}
section
variable{prog:Program}{d it v:Addr}{ep i:Nat}
theorem ua{Q:I->Shared->Prop}(c:(d==sysModules)=false)(x:w9 s.heap d es ep)(b:Q (.ref s.heap.objs.size) {s with heap:=s.heap.push {cls:=.type "dict_values",data:=.fields #[.ref d]}}):wpAny (model prog w) A (call (.builtin "dict.values") [.ref d]) Q E s:=by have a:=x.ty;refine cg F.slot_dict_values a F.entry_dict_values ?_ (F.args_dict_values_1 _);unfold Builtin.«dict.values»;refine a4 ?_;unfold Builtin.Dict.noArgs;refine a4 (wpAny_notOrdered_dict a (a9 ?_));unfold Builtin.Dict.showsAll;rw[if_neg (by simp_all)];exact a4 (a9 (a4 (cx (a9 ⟨_,J,b⟩))))
theorem t9{Q:I->Shared->Prop}(b:s.heap.IsValuesView v d)(x:w9 s.heap d es ep)(h:Q (.ref s.heap.objs.size) {s with heap:=s.heap.push {cls:=.type "dict_valueiterator",data:=.fields #[.ref d,.int 0 0,.int es.size 0,.int ep 0]}}):wpAny (model prog w) A (pyIter (.ref v)) Q E s:=by obtain⟨i,c,g,e⟩:=id b;obtain⟨o,f,j,a⟩:=id x;refine wpAny_pyIter_slot b.typeIs F.slot_dict_values_iter (cg F.slot_dict_values_iter b.typeIs F.entry_dict_values_iter ?_ (F.args_dict_values_iter_1 _));unfold Builtin.«dict_values.__iter__»;refine a4 (a9 (a4 ?_));unfold Builtin.Dict_items.dictOf;refine a4 (wpAny_field c e J (a9 (a4 ?_)));unfold Builtin.Dict_items.newIterator;refine a4 (wpAny_dictEntries f a (a4 (wpAny_dictEpoch f a ?_)));simp only[show Builtin.Dict_items.ownsTuple "dict_valueiterator"=false by rfl,Bool.false_eq_true,if_false];refine cx (a9 ⟨_,J,"dict_valueiterator",_,⟨_,bf _ J,J⟩,F.slot_dict_valueiterator_next.lookup,?_⟩);simpa[rawInt]using h
theorem AZ(a:s.heap.IsValIter it d i es.size ep)(x:w9 s.heap d es ep)(h:i<es.size)(l:∀h',h'.IsValIter it d (i+1) es.size ep->Heap.SameBut it s.heap h'->Q (some es[i].val) {s with heap:=h'}):wpAny (model prog w) A (pyNext (.ref it)) Q E s:=by
 obtain⟨m,f,k,e⟩:=id a;obtain⟨n,b,j,c⟩:=id x;unfold pyNext;refine a4 (wpAny_attempt (wpAny_callSpecial?_slot a.typeIs F.slot_dict_valueiterator_next (cg F.slot_dict_valueiterator_next a.typeIs F.entry_dict_valueiterator_next (a4 (a9 (a4 (a4 ?_)))) (F.args_dict_valueiterator_next_1 _))))
 first|refine a4 (wpAny_typeNameOfWhole_valiter a.typeIs (a9 ?_))|refine a4 (wpAny_typeNameOf_valiter a.typeIs (a9 ?_))
 refine a4 (wpAny_fieldsOf f e ?_);simp only[show Builtin.Dict_items.ownsTuple "dict_valueiterator"=false from by decide,Bool.false_eq_true,if_false];show wpAny _ _ (if(Value.ref d==Value.none)=true then _ else _) _ _ s;rw[if_neg (show¬((Value.ref d==Value.none)=true)from bu)];refine a4 (a9 (a4 (wpAny_dictEntries b c ?_)));rw[if_neg (by simp)];refine a4 (a9 (a4 (wpAny_dictEpoch b c ?_)));rw[if_neg (by simp)];refine a9 ?_;simp only[(by omega),if_false,bz,dj h];refine a4 ?_;first|refine a4 (wpAny_typeNameOfWhole_valiter a.typeIs (a9 ?_))|refine a4 (wpAny_typeNameOf_valiter a.typeIs (a9 ?_))
 refine a4 (wpAny_isOneOf_valiter a.typeIs ?_);show wpAny _ _ (setField (.ref it) 1 (rawInt (i+1))>>=_) _ _ s;refine a4 (wpAny_setField f e (by simp) ?_);have g:(s.heap.update it (Obj.mapFields (·.setIfInBounds 1 (rawInt (i+1))))).IsValIter it d (i+1) es.size ep:=
  ⟨_,Heap.get?_update_self _ f (Obj.isFreed_of_fields (Obj.data_mapFields e _)),(Obj.cls_mapFields ..).trans k,by rw[Obj.data_mapFields e];simp[rawInt]⟩
 refine a4 (wpAny_holding (a4 (wpAny_isOneOf_valiter g.typeIs ?_)));refine a4 (wpAny_isOneOf_valiter g.typeIs ?_);exact a9 (a9 ⟨_,J,a9 (l _ g (Heap.SameBut.update ..))⟩)
theorem zU(h:A.handled=none)(a:s.heap.IsValIter it d i es.size ep)(x:w9 s.heap d es ep)(g:es.size<=i)(k:∀h',Heap.ExtBut it s.heap h'->Q none {s with heap:=h'}):wpAny (model prog w) A (pyNext (.ref it)) Q E s:=by
 obtain⟨l,e,n,f⟩:=id a;obtain⟨m,b,j,c⟩:=id x;unfold pyNext;refine a4 (wpAny_attempt (wpAny_callSpecial?_slot a.typeIs F.slot_dict_valueiterator_next (cg F.slot_dict_valueiterator_next a.typeIs F.entry_dict_valueiterator_next (a4 (a9 (a4 (a4 ?_)))) (F.args_dict_valueiterator_next_1 _))))
 first|refine a4 (wpAny_typeNameOfWhole_valiter a.typeIs (a9 ?_))|refine a4 (wpAny_typeNameOf_valiter a.typeIs (a9 ?_))
 refine a4 (wpAny_fieldsOf e f ?_);simp only[show Builtin.Dict_items.ownsTuple "dict_valueiterator"=false from by decide,Bool.false_eq_true,if_false];show wpAny _ _ (if(Value.ref d==Value.none)=true then _ else _) _ _ s;rw[if_neg (show¬((Value.ref d==Value.none)=true)from bu)];refine a4 (a9 (a4 (wpAny_dictEntries b c ?_)));rw[if_neg (by simp)];refine a4 (a9 (a4 (wpAny_dictEpoch b c ?_)));rw[if_neg (by simp)];refine a9 ?_;simp only[(by omega),if_false,bz,Array.getElem?_eq_none g];refine a4 ?_;first|refine a4 (wpAny_typeNameOfWhole_valiter a.typeIs (a9 ?_))|refine a4 (wpAny_typeNameOf_valiter a.typeIs (a9 ?_))
 show wpAny _ _ (setField (.ref it) 0 .none>>=_) _ _ s;refine a4 (wpAny_setField e f (by simp) ?_);refine a4 ?_;simp only[newExc,newTuple];refine a4 (cx (a4 (wpAny_of_eq (by first|rfl|(simp only[firstArgMember];rfl)) (cx ?_ (by size_fits)))) (by size_fits));simp only[raiseNew];refine a4 (wpAny_handled ?_);rw[(h)];refine a4 (a9 (wpAny_throw ?_));refine a4 (dk ⟨_,bf _ J,J⟩ isSubtype_stop ?_);exact a9 (k _ (((Heap.SameBut.update ..).extBut.push _).push _))
theorem uO(n:A.handled=none)(I:Y)(j:d≠I):Walks prog w A I [I,d] [I] es.size (λi v=>∃e,es[i]?=some e/\v=e.val) (λi h=>h.IsValIter I d i es.size ep/\w9 h d es ep) where
 sub:=λb a=>by simp at a;simp[a]
 frame:=λ_ _ _ st hk=>⟨st.1.at λo e=>hk I (by simp) o e,st.2.at λo e=>hk d (by simp) o e⟩
 item:=λi s Q E m st g=>AZ st.1 st.2 m λl f c=>g _ l s.toks ⟨_,dj m,J⟩ ⟨f,st.2.at λo e=>c.extBut d o j e⟩ λb o a e=>c.extBut b o (λh=>a (by simp[h])) e
 done:=λs Q E st g=>zU n st.1 st.2 (ae _) λl k=>g l s.toks λb o a e=>k b o (λh=>a (by simp[h])) e
 self:=λ_ _ _ _ st g=>wpAny_pyIter_valiter st.1 g
theorem zV:KdlSrc prog w "dict_values" v d es.size (λi x=>∃e,es[i]?=some e/\x=e.val) (λh=>h.IsValuesView v d/\w9 h d es ep) where
 type:=λ_ x=>x.1.typeIs
 there:=λ_ x=>⟨let⟨_,b,_⟩:=x.1;au b,x.2.lt⟩
 keep:=λ_ _ x hk=>⟨let⟨o,b,r⟩:=x.1;⟨o,hk v (.inl J) o b,r⟩,x.2.at λo e=>hk d (.inr J) o e⟩
 notList:=by decide
 notTuple:=by decide
 hint:=λ_ _ _ _ x a=>kdl_hint_values x.1.typeIs a
 iter:=λ_ _ c x=>⟨_,_,(λ_ _ a=>t9 x.1 x.2 a),uO c _ (az x.2.lt),⟨⟨_,bf _ J,J,J⟩,x.2.at λo e=>aq _ e⟩⟩
end
theorem rS{a b:Type}{R:a->b->Prop}{xs:List a}{c:List b}(p:Paired R xs c):∀{j:Nat}{x:a},xs[j]?=some x->∃y,c[j]?=some y/\R x y:=by induction p with|nil=>exact λh=>nomatch h| cons f _ d=>intro j x e;cases j with|zero=>cases e;exact⟨_,J,f⟩|succ j=>exact d e
inductive cQ(v d:Addr)(h:Heap):Prop|mk:h.IsValuesView v d->cQ v d h
theorem cQ.ok{H:Hp}{h:Heap}{v d:Y}(x:cQ v d h):wq P w H h v (.ext (cQ v d)):=by
 refine⟨x,?_,λc b y k=>?_⟩
 . obtain⟨o,a,_⟩:=x;exact⟨o,a⟩
 . obtain⟨o,a,r⟩:=y;exact⟨o,k o a,r⟩
section
variable{κ:Type}[DecidableEq κ]{τ:aQ κ}
inductive fV(τ:aQ κ)(P:Program)(w:World)(Q:VK)(x:V)(H1:Hp):Prop|mk:∀d kvs,x=.ref d->aM τ P w H1 d kvs->(∀v H2,Same H1 H2->H1 v=none->H2 v=some (.ext (cQ v d))->Q (.ref v) H2)->fV τ P w Q x H1
def zG(τ:aQ κ)(P:Program)(w:World)(B:TE):TE:=λσ H Q=>B σ H λx H1=>fV τ P w Q x H1
inductive gR(τ:aQ κ)(P:Program)(w:World)(as:List V)(H:Hp)(Q:VK):Prop|mk:∀v d kvs,as=[.ref v]->H v=some (.ext (cQ v d))->aM τ P w H d kvs->(∀l H',Same H H'->H l=none->H' l=some (.lst (kvs.map (·.2)))->Q (.ref l) H')->gR τ P w as H Q
variable{X:Cx}{o:Expr}{apos cpos:Pos}{td:TE}
theorem Bu(A:PE X o td)(c:attributeBase o "values" X.env (eval o X.env)=eval o X.env:=by rfl)(b:(apos.endLine==cpos.line)=true:=by rfl):PE X (.Call (.Attribute o "values" apos) [] [] cpos) (zG τ X.prog X.w td):=by
 intro g s t H Q I h;refine wpAny_Call_method0_late c b (aG (A g s t H _ I h) λu f ⟨x,K,k,w,d,y,C,n,q⟩=>?_);subst C;obtain rfl:u=Value.ref d:=w;obtain⟨B,F,v,z,⟨l,D,E,p,j,i,G,_,_⟩⟩:=n.dict k.hok;have r:w9 f.heap d D E:=⟨l,p,j,i⟩
 refine⟨"dict","dict.values",PySem.F.plainAttrs_dict,PySem.F.slot_dict_values,PySem.F.type_dict_values,r.ty,λa e=>?_,Calls.callWith_builtin J (PySem.evalArgs_none (ua B r ?_))⟩
 . cases e;exact⟨l,p,j.2.1⟩
 have m:=k.hok.fresh (ae f.heap.objs.size);exact⟨.ref f.heap.objs.size,_,k.laid (a:=f.heap.objs.size) (o:=.ext (cQ f.heap.objs.size d)) (t':=f.toks) (λ_ _ q=>aq _ q) (ae _) (cQ.ok ⟨_,bf _ J,J,J⟩),J,q _ _ (Same.new m _) m ze⟩
theorem D2(P:X.calm=true):qx X (.type "list") (gR τ X.prog X.w):=by
 intro w s σ H as us Q I r h;obtain⟨v,d,b,rfl,K,n,q⟩:=h;obtain⟨u,rfl,F⟩:=qt r;cases(show u=Value.ref v from F);obtain⟨hd,xs,f,z,⟨o,S,U,L,p,g,B,_,_⟩⟩:=n.dict I.hok;have N:=size_of_entries B;obtain⟨⟨e⟩,_⟩:=(show wq X.prog X.w H s.heap v (.ext (cQ v d))from I.hok v _ K)
 refine kdl_call (zV (es:=S) (ep:=U)) (I.ok.hd P) ⟨e,⟨o,L,p,g⟩⟩ (by omega) λh' D a Z hk R c=>?_;have M:=Paired.length f;have m:yo (b.map (·.2)) a.toList:=Vh (by have k:=c.1;have C:a.toList.length=a.size:=Array.length_toList;rw[ai];omega) λj x y i W=>by obtain⟨en,k,C⟩:=c.2 j y (by rw[<-Array.getElem?_toList];exact W);rw[entry_at B j]at k;rw[bc]at i;cases t:b[j]? with|none=>rw[t]at i;cases i| some kv=>rw[t]at i;cases i;obtain⟨x',l,_,_,G⟩:=rS f t;rw[l]at k;cases k;rw[C];exact G
 have A:=I.hok.fresh (ae s.heap.objs.size);have E:=Same.new A (.lst (b.map (·.2)));exact⟨.ref s.heap.objs.size,_,I.laid (t':=D) (o:=.lst (b.map (·.2))) hk (ae _) ⟨by rw[ai];omega,a.toList,Z,m,by simpa using R⟩,J,q _ _ E A ze⟩
end
end L2
namespace L2
open PySem PySem.Spec PyProof.Rows
variable{a b:Addr}{A:Around}{X:Cx}{e:Expr}{OK:Heap->Prop}{H:Hp}{es:List Expr}{cap:List Nat}{xs zs:List V}{aE:Pos}{prog:Program}{s:Shared}{σ:St}{te:TE}{g:TG}{tc:TT}{Q:VK}{E:Value->Shared->Prop}{w:World}
section
end
section
end
section
end
section
variable{k:Nat}
end
section
end
abbrev TJ:=Str->TE
section
variable{e1 e2:Expr}{t:TJ}
end
section
variable{j k:Nat}{p0 p1 p2:Pos}
end
section
end
section
end
section
variable{K:W.Frag}{k:Nat}
end
section
variable{o f:Expr}{apos cpos:Pos}{td ty tx:TE}
end
section
variable{T:String}{r d:Addr}{n:Nat}{P:Nat->Value->Prop}
end
section
end
end L2
namespace L2
open PySem PySem.Spec PyProof.Rows PySem.W
variable{X:Cx}{tg:Expr}{H:Hp}{gs:List (List Int)}{cap:List Nat}{its:List Value}{P:Program}
noncomputable def nU(gs:List (List Int))(i j:Nat):Bool:=mj (decide ((gs.getD i []).length<(gs.getD j []).length)) (gs.getD i []) (gs.getD j [])
noncomputable def Vy(gs:List (List Int)):List Nat:=if gs.length<2 then List.range gs.length else(yi (nU gs) (kas_sort gs.length)).toList
noncomputable def np(gs:List (List Int)):List (List Int):=(Vy gs).map λi=>gs.getD i []
theorem Jv(gs:O (O Int)):(Vy gs).Perm (List.range gs.length):=by unfold Vy;split;exact List.Perm.refl _;exact(Ky (n:=gs.length) (lt:=nU gs) (by omega)).2
theorem BX(e:its.length=gs.length):v9 (nU gs) its=(Vy gs).map λi=>its.getD i Value.none:=by unfold v9 Vy;rw[e];split;rw[<-e];exact(Yg its Value.none).symm;rfl
theorem AB{xs:O V}(d:IsL H (gs.map tI) xs)(e:yo xs its)(j:xs.length=gs.length):∃b,yo b ((Vy gs).map λi=>its.getD i Value.none)/\IsL H ((np gs).map tI) b/\b.length=gs.length:=by
 have f:=e.length;have a:∀i∈Vy gs,i<gs.length:=λi h=>bp.mp ((Jv gs).mem_iff.mp h);have c:=ue d (dt:=T.non) (dx:=V.non) (Vy gs) λi h=>by have:=a i h;omega
 have g:((Vy gs).map λi=>(gs.map tI).getD i T.non)=(np gs).map tI:=by unfold np;rw[c7];refine List.map_congr_left λi d=>?_;have:=a i d;show(gs.map tI).getD i T.non=tI (gs.getD i []);rw[cz,cz,bc,bi this];rfl
 rw[g]at c;exact⟨_,Ei (γ:=Unit) e (Vy gs) λi h=>by have:=a i h;omega,c,by rw[ai,(Jv gs).length_eq,c8]⟩
section
inductive gP(K:W.Frag)(as:List V)(H:Hp)(Q:VK):Prop|mk:∀(p:Addr)(gs:List (List Int))(xs:List V),as=[.ref p]->aJ K H p xs->IsL H (gs.map tI) xs->(∀g∈gs,g≠[])->gs.length<64->(∀(xs':List V)(l:Addr),IsL H ((np gs).map tI) xs'->H l=none->Q (.ref l) (upd H l (.lst xs')))->gP K as H Q
theorem D3:qx X (.builtin "sorted") (gP X.K):=by intro k s D H as F Q I r h;obtain⟨p,l,E,rfl,x,j,g,A,q⟩:=h;obtain⟨u,rfl,v⟩:=qt r;cases(v);obtain⟨c,f,w,G⟩:=I.list x;have K:=f.length;have d:=j.length;rw[ai]at d;have C:=IsL.tupI I j f;refine DG (lt:=nU l) w.isList (by omega) (λB=>Dp C g B) ?_;rw[BX (by omega)];obtain⟨a,t,n,m⟩:=AB j f d;obtain⟨e,z⟩:=sortedAll_at s.heap c ((Vy l).map λi=>c.getD i Value.none).toArray;exact⟨.ref (s.heap.objs.size+1),upd H (s.heap.objs.size+1) (.lst a),I.laid (λb o y=>sortedAll_old y) (Nat.le_succ _) (⟨by rw[m];exact kx (by omega),_,e,t,z⟩),J,q a _ n (I.hok.fresh (Nat.le_succ _))⟩
end
noncomputable def oj(d:Addr)(o:Obj)(kvs:List (List aI×V)):It:=⟨λi H=>H d=some (.frz o (.dT kvs))/\i<kvs.length,λi H v H'=>H'=H/\∃b B,v=.ref b/\kvs[i]?=some B/\H b=some (.tup (B.1.map kV)),λi H=>H d=some (.frz o (.dT kvs))/\kvs.length<=i⟩
theorem EJ{w:World}{K:Frag}(d j:Y)(o:Obj)(kvs:O (O aI×V))(es:Array DictEntry)(ep:Nat)(f:o.data=.dict es ep):dJ P w K tg (oj d o kvs) [j] j (λi h=>h.IsKeyIter j d i es.size ep) where
 mem:=by simp
 obj:=λi h st b g=>by
  have e:b=j:=by simpa using g
  subst e;obtain⟨o,e,c,dd⟩:=st;exact⟨o,e,λv z=>by rw[dd]at z;cases z⟩
 keep:=λi h U st k=>st.at λo e=>k j (by simp) o e
 item:=by intro X B t C S i n s W H E I r st A;subst B t C;obtain⟨D,y⟩:=A;obtain⟨hd,F,l,Q,R,a,u,p⟩:=Yy I.hok D;rw[f]at a;cases a;obtain⟨x,b,q,g,rv⟩:=p i kvs[i] (bi y);obtain⟨f0,N,f2,M,L,G⟩:=r j (by simp);refine uN st ⟨o,F,l,f⟩ x λU m Z=>?_;have I1:=I.turned (t':=s.toks) (λb o g e=>(Z.2 b g).trans e) f0 N M L G;obtain⟨o1,e1,c1,d1⟩:=id m;exact⟨es[i].key,J,Kh e1 c1 d1 (by decide) ⟨.ref b,H,I1,q,⟨J,b,_,J,bi y,g⟩,m,λb g=>(r b g).1⟩⟩
 done:=by intro X B t C S i n s W H E I r st A;subst B t C;obtain⟨D,y⟩:=A;obtain⟨hd,F,l,Q,R,a,u,_⟩:=Yy I.hok D;rw[f]at a;cases a;obtain⟨f0,N,f2,M,L,G⟩:=r j (by simp);exact tY (I.ok.hd S) st ⟨o,F,l,f⟩ (by omega) λU eb=>⟨J,I.turned (λb o g e=>eb b o g e) f0 N M L G⟩
 self:=λ_ _ _ _ _ st h=>wpAny_pyIter_keyiter st h
section
inductive fC(R:It->Hp->Prop)(v:V)(H1:Hp):Prop|mk:∀d o kvs,v=.ref d->H1 d=some (.frz o (.dT kvs))->R (oj d o kvs) H1->fC R v H1
def AG(B:TE):TI:=λσ H R=>B σ H λv H1=>fC R v H1
theorem vG{l:Expr}{k:TE}(t:PE X l k):PI X tg l (AG k):=by
 intro c s m H R I h;refine aG (t c s m H _ I h) λv g ⟨x,C,f,n,d,o,i,z,u,q⟩=>?_;subst z;cases n;obtain⟨r,y,j,A,B,a,p,_⟩:=Yy f.hok u;refine uM r ⟨o,y,j,a⟩ ?_;refine⟨g.heap.objs.size,[g.heap.objs.size],_,_,C,J,f.kept λb o e=>aq _ e,EJ d _ o i A B a,⟨_,bf _ J,J,J⟩,λb w=>?_,q⟩;have e:b=g.heap.objs.size:=by simpa using w
 subst e;exact f.fpOk (ae _) (f.hok.fresh (ae _))
end
section
variable{d:Addr}{o:Obj}{kvs:List (List aI×V)}{g:TG}{tc:TT}{te:TE}{k:Nat}{σ:St}{Q:VK}
theorem uV(Pv:Nat->O V->Hp->Prop)(w:Pv 0 [] H)(s:∀i ys H,i<=kvs.length->Pv i ys H->H d=some (.frz o (.dT kvs))/\ys.length<=sizeLine)(r:∀i f ys H b,kvs[i]?=some f->H b=some (.tup (f.1.map kV))->Pv i ys H->g (.ref b) (bY k cap σ) H λa H2=>tc a H2 λb j=>if b=true then te a j λy A=>Pv (i+1) (ys++[y]) A else Pv (i+1) ys j)
  (u:∀ys H,Pv kvs.length ys H->∀p,H p=none->Q (.ref p) (upd H p (.lst ys))):cV (oj d o kvs) g tc te k cap σ H Q:=by
 refine⟨λi m ys H=>m=kvs.length-i/\i<=kvs.length/\Pv i ys H,⟨kvs.length,by simp,bo _,w⟩,?_⟩;rintro i m ys H ⟨rfl,t,p⟩;obtain⟨q,h⟩:=s i ys H t p;by_cases c:i<kvs.length;refine .inr ⟨⟨q,c⟩,h,Pv (i+1),λl B n=>⟨kvs.length-(i+1),by omega,J,c,n⟩,λx B y=>?_⟩;obtain⟨e,b,f,z,hk,v⟩:=y;subst e z;exact r i f ys _ b hk v p;have e:i=kvs.length:=by omega
 subst e;exact .inl ⟨⟨q,ae _⟩,h,u ys H p⟩
end
end L2
namespace L2
open PySem PySem.Spec PyProof.Rows
inductive jC(i:Nat)(σ:St)(H:Hp)(Q:VK):Prop|mk:∀v,σ[i]?=some (some v)->Q v H->jC i σ H Q
theorem bW{X:Cx}(i:Nat){x:Str}{g:Pos}(hN:X.N[i]?=some x:=by rfl)(d:autoParam (mT X.env.scope x) wZ._auto_1)(f:(x==("__debug__":Str))=false:=by decide)
 (b:(x==("__classdict__":Str))=false:=by decide):PE X (.Name x g) (jC i):=λa s c H Q I ⟨_,e,q⟩=>pv i hN d f b a s c H Q I (yV e q)
end L2
namespace L2
open PySem PySem.Spec PyProof.Rows PySem.W
inductive fi(Q:VK)(x:V)(H1:Hp):Prop|mk:∀d kvs,x=.ref d->H1 d=some (.dT kvs)->(∀v H2,Same H1 H2->H1 v=none->H2 v=some (.ext (cQ v d))->Q (.ref v) H2)->fi Q x H1
def A6(B:TE):TE:=λσ H Q=>B σ H λx H1=>fi Q x H1
inductive jJ(as:List V)(H:Hp)(Q:VK):Prop|mk:∀v d kvs (ns:List Int),as=[.ref v]->H v=some (.ext (cQ v d))->H d=some (.dT kvs)->kvs.map (·.2)=ns.map V.int->(∀n∈ns,0<=n)->ns.sum<2^63->Q (.int ns.sum) H->jJ as H Q
section
variable{X:Cx}{o:Expr}{apos cpos:Pos}{td:TE}
theorem vF(z:PE X o td)(c:attributeBase o "values" X.env (eval o X.env)=eval o X.env:=by rfl)(b:(apos.endLine==cpos.line)=true:=by rfl):PE X (.Call (.Attribute o "values" apos) [] [] cpos) (A6 td):=by
 intro g s t H Q I h;refine wpAny_Call_method0_late c b (aG (z g s t H _ I h) λu f ⟨x,G,k,w,d,y,B,n,q⟩=>?_);subst B;obtain rfl:u=Value.ref d:=w;obtain⟨_,A,E,v,⟨l,C,D,p,j,i,F,_,_⟩⟩:=mr k.hok n;have r:w9 f.heap d C D:=⟨l,p,j,i⟩
 refine⟨"dict","dict.values",PySem.F.plainAttrs_dict,PySem.F.slot_dict_values,PySem.F.type_dict_values,r.ty,λa e=>?_,Calls.callWith_builtin J (PySem.evalArgs_none (ua A r ?_))⟩
 . cases e;exact⟨l,p,j.2.1⟩
 have m:=k.hok.fresh (ae f.heap.objs.size);exact⟨.ref f.heap.objs.size,_,k.laid (a:=f.heap.objs.size) (o:=.ext (cQ f.heap.objs.size d)) (t':=f.toks) (λ_ _ q=>aq _ q) (ae _) (cQ.ok ⟨_,bf _ J,J,J⟩),J,q _ _ (Same.new m _) m ze⟩
theorem pz:∀{l:List Int},(∀n∈l,0<=n)->0<=l.sum|[],_=>di _| a::r,h=>by have d:=h a bv;have c:=pz λn b=>h n (br _ b);rw[List.sum_cons];omega
theorem Xv{ns:List Int}:∀{k:Nat},k<=ns.length->preSum (λi=>(ns[i]?).getD 0) k=(ns.take k).sum|0,_=>rfl| k+1,hk=>by have this:ns[k]?=some ns[k]:=bi (by omega);rw[preSum,Xv (by omega),cy,this,List.sum_append];simp
theorem Kk(hc:X.calm=true):qx X (.builtin "sum") jJ:=by
 intro M s σ H U us Q I r h;obtain⟨v,d,c,a,rfl,hv,hd,R,G,h1,q⟩:=h;obtain⟨u,rfl,rx⟩:=qt r;cases(show u=Value.ref v from rx);obtain⟨_,hS,U,l,⟨o,K,ep,N,E,w,p,_,_⟩⟩:=mr I.hok hd;obtain⟨⟨f⟩,_⟩:=(show wq X.prog X.w H s.heap v (.ext (cQ v d))from I.hok v _ hv)
 have S:w9 s.heap d K ep:=⟨o,N,E,w⟩
 have ah:=Paired.length l;have ag:=size_of_entries p;have hl:c.length=a.length:=by have:=congrArg List.length R;rwa[ai,ai]at this
 have Z:∀k,(a.take k).sum<=a.sum:=by
  intro k;have e:a.sum=(a.take k).sum+(a.drop k).sum:=by rw[<-List.sum_append,List.take_append_drop]
  have:=pz (l:=a.drop k) λn g=>G n (List.mem_of_mem_drop g);omega
 have m:d<s.heap.objs.size:=au N;refine call_sum_walk (t9 f S ?_);refine⟨s.heap.objs.size,_,_,_,_,_,λi=>(a[i]?).getD 0,J,uO (A:=X.A.in1) (I.ok.hd hc) s.heap.objs.size (az m),⟨⟨_,bf _ J,J,J⟩,S.at λo e=>aq _ e⟩,?_,?_,?_,λh' W t' hk=>?_⟩
 . intro b F;rw[dy];rcases ak.mp F with z|z
   . rw[z];exact dz _
   . have z:b=d:=by simpa using z
     rw[z];exact Nat.lt_succ_of_lt m
 . rintro i v ⟨e,P,rfl⟩;have ao:=(Array.getElem?_eq_some_iff.mp P).1;have hk:i<c.length:=by omega
   have L:=entry_at p i;rw[P]at L;obtain⟨x',A,_,_,x⟩:=rS l (bi hk);rw[A]at L;cases L;have g:a[i]?=some a[i]:=bi (by omega);have B:c[i].2=V.int a[i]:=by have:=congrArg (·[i]?) R;simp only[bc,bi hk,g,Option.map_some]at this;exact Option.some.inj this
   rw[B]at x;obtain⟨t,x⟩:=x;exact⟨t,by dsimp only;rw[g];exact x⟩
 . intro j y;have y:j<a.length:=by omega
   have D:=Xv (ns:=a) (k:=j+1) (by omega);have C:=Xv (ns:=a) (k:=j) (by omega);have h3:=Z (j+1);have h5:=pz (l:=a.take j) λn g=>G n (List.mem_of_mem_take g);have h6:=G _ (List.getElem_mem y);rw[preSum,C,bi y]at D;have D:(a.take j).sum+a[j]=(a.take (j+1)).sum:=D;refine⟨?_,?_⟩
   . dsimp only;rw[bi y];show InLong a[j];unfold InLong;omega
   . rw[Xv (by omega)];unfold InLong;omega
 have e:preSum (λi=>(a[i]?).getD 0) K.size=a.sum:=by rw[show K.size=a.length by omega,Xv (ae _),fe]
 rw[e];refine⟨.int a.sum,H,I.kept λb o e=>hk b o (λF=>?_) (aq _ e),⟨t',J⟩,q⟩;have z:b=s.heap.objs.size:=by simpa using F
 exact absurd (au e) (by rw[z];exact cp _)
end
end L2
namespace L2
open PySem PySem.Spec PyProof.Rows PySem.W PySem.SeqAt
variable{A:Around}{s:Shared}{E:Value->Shared->Prop}
theorem A9{M:Model}{a:Type}(f:Nat->a->Sem (ForInStep a))(I:O Nat->a->Shared->Prop)(Q:a->Shared->Prop)(c:∀x vw b s',I (x::vw) b s'->wpAny M A (f x b) (λr d=>match r with|.yield g=>I vw g d|.done g=>Q g d) E s') (e:∀b s',I [] b s'->Q b s') (r:Std.Legacy.Range) (b:a) (h:I (List.range' r.start r.size r.step) b s):
  wpAny M A (forIn r b f) Q E s:=by rw[Std.Legacy.Range.forIn_eq_forIn_range'];exact wpAny_forIn_list f I Q c e _ _ h
theorem Je(l:Y)(a:Array I)(n:Nat)(K:Option Y)(v:Array (Option I))(x:I)(e:I->Bool)(j:Nat)(M:j<a.size)(t:e a[j]=true)(r:∀m (L:m<a.size),m<j->e a[m]=false):
  Meets (Builtin.«tuple.index» ⟨[.ref l,x],[]⟩)
   (λA R s=>s.heap.get? l=some {cls:=.type "tuple",dict:=K,data:=.seq a n,slots:=v}/\(∀y,y∈a->EqAt A.in1 s y x (e y))/\R (.ok (.ret (.int j s.toks))) {s with toks:=s.toks+1}):=
 .of_wp λk w A R s h=>by
  obtain⟨z,g,d,u,os⟩:=s;obtain⟨B,D,h⟩:=h
  wp_walk using wpAny_loadPart' B,A9 _ (λvw b q=>b.1=none/\q=⟨z,g,d,u,os⟩/\∃i,vw=List.range' i (a.size-i)/\i<=j) _
  . rintro o vw b q ⟨E,rfl,i,p,C⟩;have H:a.size-i=(a.size-(i+1))+1:=by omega
    rw[H,List.range'_succ]at p;injection p with G F;subst G F;have f:o<a.size:=by omega
    rw[dj f];refine a4 (D _ (Array.getElem_mem f) k w _ _ ?_);by_cases c:o=j
    . subst c;rw[t]
      wp_walk
      exact⟨_,J,h⟩
    . rw[r o f (by omega)]
      wp_walk
      exact⟨J,J,o+1,J,by omega⟩
  . rintro b q ⟨E,rfl,i,p,C⟩;have:=congrArg List.length p;simp at this;omega
  . exact⟨J,J,0,by simp[Std.Legacy.Range.size],bo _⟩
theorem vJ{h:Heap}:∀{a:List Value}{c:List T}{as:List Addr}{i:Nat}{u:Value}{t:T},ReadsAll h a (vb c) as->a[i]?=some u->c[i]?=some t->∃as,Reads h u (aN t) as|a,[],as,i,u,t,r,_,b=>by simp at b| a,g::c,as,i,u,t,r,d,b=>by unfold vb at r;cases r with| cons f e=>cases i with|zero=>cases d;cases b;exact⟨_,f⟩|succ i=>exact vJ e d b
inductive gU(x:V)(ys:List V)(H:Hp)(Q:VK):Prop|mk:∀(ts:List T)(u:T)(y:V)(j:Nat),ys=[y]->Is H (.tup ts) x->Is H u y->(∀t∈ts,(aN t).canLay0=true)->(aN u).canLay0=true->(aN u).depth<=20->ts[j]?=some u->(∀m,m<j->∃t,ts[m]?=some t/\PyData.eqv (aN t) (aN u)=false)->Q (.int ((j:Nat):Int)) H->gU x ys H Q
open Classical in
theorem DK{X:Cx}(hu:X.A.units+64<cLine):mX X "tuple.index" gU:=by
 intro pins s σ H x xs v us Q I rx rv h;obtain⟨ts,u,y,j,rfl,hx,hy,lts,lu,du,hj,hno,q⟩:=h;obtain⟨a,zs,rfl,ha,hz⟩:=hx;cases(show v=Value.ref a from rx);obtain⟨u',rfl,ru⟩:=rv.one;obtain⟨bs,rb⟩:=Ya I lu hy ru;obtain⟨its,r,ht,hzl⟩:=I.tuple (aH.of ha);have la:PyData.canLayAll0 (vb ts)=true:=AN lts;obtain⟨as,ra⟩:=jb I la hz r;let e:Value->Bool:=λz=>decide (∃t as,Reads s.heap z (aN t) as/\(aN t).canLay0=true/\PyData.eqv (aN t) (aN u)=true);have he:∀z t as,Reads s.heap z (aN t) as->(aN t).canLay0=true->e z=PyData.eqv (aN t) (aN u):=λz t as rz lz=>by rw[Bool.eq_iff_iff];refine⟨λh=>?_,λh=>ax ⟨t,as,rz,lz,h⟩⟩;obtain⟨t',as',rz',lz',h'⟩:=cb h;rw[SeqAt.Reads.unique _ _ _ _ _ lz rz rz'];exact h'
 obtain⟨o,eo,hc,n,hd⟩:=ht;have eo':s.heap.get? a=some {cls:=.type "tuple",dict:=o.dict,data:=.seq its.toArray n,slots:=o.slots}:=by rw[eo,<-hc,<-hd]
 have hun:X.A.in1.units=X.A.units+1:=rfl;obtain⟨c1,_⟩:=qB X.A.in1 s (by omega) rb lu du he ra la;have hl1:=hz.length;have hl2:=r.length;have hjl:=(c9.mp hj).1;have at':∀m (hm:m<its.toArray.size) t,ts[m]?=some t->e its.toArray[m]=PyData.eqv (aN t) (aN u):=λm hm t ht=>by
  have hm':m<its.length:=by simpa using hm
  obtain⟨as',r'⟩:=vJ ra (bi hm') ht;simpa using he _ _ _ r' (lts t (ck ht))
 refine call_meets PySem.F.slot_tuple_index ⟨_,eo',rfl⟩ PySem.F.entry_tuple_index (PySem.F.args_tuple_index_2 _ _) (Je a its.toArray n o.dict o.slots u' e j (by rw[cq];omega) ?_ ?_) ⟨eo',λz hz'=>c1 z (by simpa using hz'),?_⟩
 . rw[at' j _ u hj,SeqAt.eqv_refl _ lu]
 . intro m hm hlt;obtain⟨t,h1,h2⟩:=hno m hlt;rw[at' m hm t h1,h2]
 . exact⟨.int _,H,I.tok _,⟨_,rfl⟩,q⟩
end L2
namespace My
open PySem PySem.Spec PyProof.Rows L2
variable{af:Addr}{X:Cx}{e:Expr}{base:Heap}{H:Hp}{σ:L2.St}{es:List Expr}{cap:List Nat}{own ps:List Str}{xs:List V}{us:List Value}{i:Nat}{aE:Pos}{P:Program}{sp:Sp}{x:Str}{mg:Str->Option Value}{te:TE}{v:V}{Q:VK}{w:World}
noncomputable def bG(i:Nat):Stmt:=Challenge.pw_meetwall_k19_whole_hands_that_meet.main.body.getD i (.Pass ⟨0,0,0,0⟩)
noncomputable abbrev Xb:Stmt:=bG 22
noncomputable abbrev Z7:Stmt:=bG 23
noncomputable abbrev qm:Stmt:=bG 24
noncomputable abbrev Qd:Stmt:=bG 27
noncomputable abbrev Wg:Stmt:=bG 28
noncomputable abbrev Z8:Stmt:=bG 29
noncomputable abbrev kh:Stmt:=bG 30
noncomputable abbrev Zr:Stmt:=bG 31
noncomputable abbrev Wh:Stmt:=bG 32
noncomputable abbrev j5:Stmt:=bG 33
noncomputable abbrev Xc:Stmt:=bG 34
noncomputable abbrev vt:Stmt:=bG 35
noncomputable abbrev Wk:Stmt:=bG 36
noncomputable abbrev js:Stmt:=bG 37
noncomputable abbrev Zs:Stmt:=bG 38
noncomputable abbrev pE:Stmt:=bG 39
noncomputable abbrev Zq:Stmt:=bG 40
theorem zJ:bootBuiltins "isinstance"=some (.builtin "isinstance"):=by decide+kernel
theorem wu:bootBuiltins "len"=some (.builtin "len"):=by decide+kernel
theorem Yl:bootBuiltins "all"=some (.builtin "all"):=by decide+kernel
theorem nL:bootBuiltins "sum"=some (.builtin "sum"):=by decide+kernel
theorem pf:bootBuiltins "int"=some (.type "int"):=by decide+kernel
theorem AS:bootBuiltins "bool"=some (.type "bool"):=by decide+kernel
theorem pi:bootBuiltins "str"=some (.type "str"):=by decide+kernel
theorem v4:bootBuiltins "tuple"=some (.type "tuple"):=by decide+kernel
theorem Vu:bootBuiltins "dict"=some (.type "dict"):=by decide+kernel
theorem X9:bootBuiltins "list"=some (.type "list"):=by decide+kernel
def Ok(P:Program)(w:World)(K:W.Frag)(mg:Str->Option Value)(base:Heap)(x:Str)(k:Nat)(B:List Str)(sp:Sp):Prop:=∃f fd,cG P w K mg base eT k f fd B sp/\Z4 K fd B []/\W.keepIn K (.ref f)=true/\mg x=some (.ref f)
theorem wO(h:us.length=1):∃a,us=[a]:=by match us,h with|[a],_=>exact⟨a,J⟩
theorem Fl(h:us.length=2):∃a b,us=[a,b]:=by match us,h with|[a,b],_=>exact⟨a,b,J⟩
theorem Fk(h:us.length=3):∃a b c,us=[a,b,c]:=by match us,h with|[a,b,c],_=>exact⟨a,b,c,J⟩
theorem wK(h:us.length=4):∃a b c d,us=[a,b,c,d]:=by match us,h with|[a,b,c,d],_=>exact⟨a,b,c,d,J⟩
theorem Fj(h:us.length=5):∃a b c d e,us=[a,b,c,d,e]:=by match us,h with|[a,b,c,d,e],_=>exact⟨a,b,c,d,e,J⟩
@[elab_as_elim] theorem Fu{P:O I->Prop}(h:us.length=1)(k:∀a,P [a]):P us:=by obtain⟨a,rfl⟩:=wO h;exact k a
@[elab_as_elim] theorem Ft{P:O I->Prop}(h:us.length=2)(k:∀a b,P [a,b]):P us:=by obtain⟨a,b,rfl⟩:=Fl h;exact k a b
@[elab_as_elim] theorem Fr{P:O I->Prop}(h:us.length=3)(k:∀a b c,P [a,b,c]):P us:=by obtain⟨a,b,c,rfl⟩:=Fk h;exact k a b c
@[elab_as_elim] theorem Fq{P:O I->Prop}(h:us.length=4)(k:∀a b c d,P [a,b,c,d]):P us:=by obtain⟨a,b,c,d,rfl⟩:=wK h;exact k a b c d
@[elab_as_elim] theorem Fp{P:O I->Prop}(h:us.length=5)(k:∀a b c d e,P [a,b,c,d,e]):P us:=by obtain⟨a,b,c,d,e,rfl⟩:=Fj h;exact k a b c d e
theorem ye{k:Nat}{p:Pos}{t:TA}(h:Ok X.prog X.w X.K X.mg X.base x k ps sp)(c:aO k X.A)(j:PA X (e::es) t)(g:Gl X x:=by rfl)
  (b:(x==("__debug__":Str))=false:=by decide) (he:starEach (e::es) X.env=(false,eval e X.env)::starEach es X.env:=by rfl) (a:(backTo aE (starEach es X.env)).any (·.1)=false:=by rfl):
  PE X (.Call (.Name x p) (e::es) [] aE) (rX sp [] E0 t):=by obtain⟨f,l,F,i,hk,d⟩:=h;exact Bo F c g d hk i .nil nB j b he a
def bU(K:W.Frag)(mg:Str->Option Value)(x:Str)(st:Stmt):Prop:=∃f fd,im K x x st f fd/\mg x=some (.ref f)
theorem xi{i:Int}(h:∃t,X.mg x=some (.int i t))(a:Gl X x:=by rfl)(b:(x==("__debug__":Str))=false:=by decide):PE X (.Name x aE) (tC (.int i)):=by obtain⟨t,h⟩:=h;exact uj a h ⟨t,J⟩ b
structure Txt(K:W.Frag)(mg:Str->Option Value):Prop where
 BOXES:∃t,mg "BOXES"=some (.int 0 t)
 WALLS:∃t,mg "WALLS"=some (.int 1 t)
 FIRSTS:∃t,mg "FIRSTS"=some (.int 2 t)
 SCRIPTS:∃t,mg "SCRIPTS"=some (.int 3 t)
 MOST_BOXES:∃t,mg "MOST_BOXES"=some (.int 99 t)
 MOST_WALLS:∃t,mg "MOST_WALLS"=some (.int 6 t)
 MOST_FIRSTS:∃t,mg "MOST_FIRSTS"=some (.int 40 t)
 MOST_SCRIPTS:∃t,mg "MOST_SCRIPTS"=some (.int 20 t)
 MOST_DEEDS_OF_SCRIPT:∃t,mg "MOST_DEEDS_OF_SCRIPT"=some (.int 80 t)
 MOST_HANDS:∃t,mg "MOST_HANDS"=some (.int 60 t)
 MOST_DEEDS:∃t,mg "MOST_DEEDS"=some (.int 1200 t)
 MOST_RAISED:∃t,mg "MOST_RAISED"=some (.int 99 t)
 MOST_AWAITED:∃t,mg "MOST_AWAITED"=some (.int 9999 t)
 MOST_WORKED:∃t,mg "MOST_WORKED"=some (.int 999 t)
 MOST_LETTERS:∃t,mg "MOST_LETTERS"=some (.int 8 t)
 MODES:∃a,mg "MODES"=some (.ref a)/\∀H,aH K H a [.str "both",.str "come",.str "go"]
 isi:mg "isinstance"=none
 int:mg "int"=none
 bool:mg "bool"=none
 str:mg "str"=none
 tuple:mg "tuple"=none
 dict:mg "dict"=none
 list:mg "list"=none
 len:mg "len"=none
 all:mg "all"=none
 sum:mg "sum"=none
 range:mg "range"=none
 enumerate:mg "enumerate"=none
 sorted:mg "sorted"=none
 zip:mg "zip"=none
inductive gw(A:T->Prop)(f:T->Bool)(vs:List V)(H:Hp)(Q:VK)(e0:XK):Prop|mk:∀t v,vs=[v]->Is H t v->A t->(∀H',Same H H'->Q (.bl (f t)) H')->gw A f vs H Q e0
section
variable{p1 p2:Pos}
theorem jw{n:Str}{T:String}(h:X.mg "isinstance"=none)(g:X.mg n=none)(f:bootBuiltins n=some (.type T))(he:PE X e te)(j:Gl X "isinstance":=by rfl)(i:Gl X n:=by rfl)(c:n≠"__name__":=by decide)(d:(n==("__debug__":Str))=false:=by decide)
  (b:starEach [e,.Name n p2] X.env=(false,eval e X.env)::starEach [.Name n p2] X.env:=by rfl) (k:(backTo aE (starEach [.Name n p2] X.env)).any (·.1)=false:=by rfl) (a:starEach [.Name n p2] X.env=(false,eval (.Name n p2) X.env)::starEach [] X.env:=by rfl):
  PE X (.Call (.Name "isinstance" p1) [e,.Name n p2] [] aE) (mE (iS X.K) (jr te (jr (tC (.ty T)) Wd))):=
 yf BR j h zJ (zc he (zc (Bn i g f J c d) zd a) b) (he:=b)
end
noncomputable def Wr:T->Bool|.int _=>true|_=>false
section
variable{K:W.Frag}
theorem Fg:aA ["thing"] ["thing"] (zi Xb):=.of
theorem EW(D:bU K mg "is_whole" Xb)(T:Txt K mg):Ok P w K mg base "is_whole" 1 ["thing"] (gw (λ_=>True) Wr):=by
 obtain⟨f,j,F,g⟩:=D;refine⟨f,j,?_,F.binds λ_ _ _ _ _ _ m i=>(by obtain⟨_,rfl⟩:=wO i;rfl),F.kp,g⟩;refine F.ok Fg (λd H Q E h=>?_) (λl A a s H d Q E n h=>?_);obtain⟨t,v,rfl,_⟩:=h;rfl;obtain⟨t,v,rfl,b,_,k⟩:=h;refine⟨_,zh (zp (wr (jw T.isi T.int pf (pv 0)) (vg (As (jw T.isi T.bool AS (pv 0)))))),?_⟩;refine⟨v,"int",_,_,J,b.ty,BF K t,_,J,?_⟩;refine Zy (λc=>?_) (λc=>?_);refine⟨v,"bool",_,_,J,b.ty,Cm K t,_,J,?_⟩;have e:(!wR t)=Wr t:=by cases t<;>first|rfl|(exact absurd c (by simp[rn]))
 rw[e];exact k H (Same.refl H);have e:false=Wr t:=by cases t<;>first|rfl|(exact absurd J c)
 rw[e];exact k H (Same.refl H)
end
abbrev ij:=Int×Str
inductive aF where|rai (b k:Int)|awa (b m:Int)|com (w:Int)|goo (w:Int)|lea (w:Int)|beg (s:Nat) (ms:List ij)|wor (d:Int)|say (x:Str)
abbrev yg:=List aF
abbrev j6:=Nat×List ij
structure aC where
 b:Int
 w:Int
 fs:List j6
 ss:List yg
noncomputable def kB(m:ij):T:=.tup [.int m.1,.str m.2]
noncomputable def lT(B:List ij):T:=.tup (B.map kB)
noncomputable def eD:aF->T|.rai b k=>.tup [.str "raise",.int b,.int k]|.awa b m=>.tup [.str "await",.int b,.int m]|.com w=>.tup [.str "come",.int w]|.goo w=>.tup [.str "go",.int w]|.lea w=>.tup [.str "leave",.int w]|.beg s B=>.tup [.str "begin",.int s,lT B]|.wor d=>.tup [.str "work",.int d]|.say x=>.tup [.str "say",.str x]
noncomputable def eS(s:yg):T:=.tup (s.map eD)
noncomputable def eC(c:j6):T:=.tup [.int c.1,lT c.2]
noncomputable def eH(h:aC):T:=.tup [.int h.b,.int h.w,.tup (h.fs.map eC),.tup (h.ss.map eS)]
noncomputable def dw:aF->Str|.rai _ _=>"raise"|.awa _ _=>"await"|.com _=>"come"|.goo _=>"go"|.lea _=>"leave"|.beg _ _=>"begin"|.wor _=>"work"|.say _=>"say"
theorem Zi(d:aF):∃r,eD d=.tup (.str (dw d)::r):=by cases d<;>exact⟨_,J⟩
inductive m9(K:W.Frag)(H:Hp)(v:V)(i:Nat)(t:T):Prop|mk:∀a xs u,v=.ref a->aH K H a xs->cN xs ((i:Nat):Int)=some u->Is H t u->m9 K H v i t
theorem Is.at{K:W.Frag}{b:O T}{t:T}(h:Is H (.tup b) v)(e:b[i]?=some t):m9 K H v i t:=by obtain⟨a,c,rfl,f,d⟩:=h;obtain⟨u,j,g⟩:=d.get e;exact⟨a,c,u,J,aH.of f,y4 j,g⟩
theorem xo{a:Scope}(b:Scope)(c:X.env.scope=b)(h:a.kind=.function)(g:∀x∈a.names,x.2=.free->b.names.lookup x.1=some .cell\/b.names.lookup x.1=some .free)(f:∀x∈a.names,x.2≠ .cell) (e:∀x∈a.names,x.2=.local->a.names.lookup x.1=some .local) (d:Kr X a cap):aW X own cap a:=by subst c;exact⟨h,g,f,e,d⟩
theorem Q2{A B:L2.St->Hp->Prop}(h:A (σ.set i (some v)) H):jz i v σ H (λa H2=>mq a H2 λb c=>if b=true then A a c else B a c):=by
 show if true=true then A (σ.set i (some v)) H else B (σ.set i (some v)) H
 exact yv h
theorem wQ{A B:Hp->Prop}(h:A H):mq σ H (λb a=>if b=true then A a else B a):=by
 show if true=true then A H else B H
 exact yv h
theorem qw{o:Option NameKind}(h:o=some .cell):o≠some .local:=λz=>by simp_all
theorem vp{n:Nat}(h:n<=1000):n<=sizeLine:=Nat.le_of_lt (yq h)
theorem CC:PE X e (λ_ _ _=>False):=λ_ _ _ _ _ _ h=>h.elim
theorem Vp{K:W.Frag}{k:Nat}(h:H af=some (.tup xs))(r:xs.length<=1000)(p:∀(i:Nat)(x:V)(c:Hp)(R:VK),xs[i]?=some x->Same H c->(∀j,Same c j->R (.bl true) j)->te ((bY k cap σ).set 0 (some x)) c R)(n:∀c,Same H c->Q (.bl true) c):cV (lY K af) (jz 0) mq te k cap σ H (λv H1=>∃(a:Y)(bs:O Bool),[v]=[V.ref a]/\aJ K H1 a (bs.map V.bl)/\Q (.bl (bs.all id)) H1):=by
 refine pI (xs:=xs) (λi f d=>Same H d/\f=List.replicate i (V.bl true)) ⟨Same.refl H,J⟩ (λi f d s ⟨b,q⟩=>⟨aH.of (b _ _ h),by rw[q,fb];exact vp (by omega)⟩) ?_ ?_
 . rintro i x f d o ⟨b,rfl⟩;exact Q2 (p i x d _ o b λj l=>⟨b.trans l,fg.symm⟩)
 . rintro f d ⟨b,rfl⟩ m g;refine⟨m,List.replicate xs.length true,J,aJ.of (by rw[ze,List.map_replicate]),?_⟩;have e:(List.replicate xs.length true).all id=true:=by simp
   rw[e];exact n _ (b.trans (Same.new g _))
inductive spT(A:List V->Hp->Prop)(vs:List V)(H:Hp)(Q:VK)(e0:XK):Prop|mk:A vs H->(∀H',Same H H'->Q (.bl true) H')->spT A vs H Q e0
def lU(vs:List V)(_:Hp):Prop:=∃i lo hi,vs=[.int i,.int lo,.int hi]/\lo<=i/\i<=hi
def lV(vs:List V)(H:Hp):Prop:=∃ts v lo hi,vs=[v,.int lo,.int hi]/\Is H (.tup ts) v/\lo<=(ts.length:Int)/\(ts.length:Int)<=hi
def xF(vs:List V)(H:Hp):Prop:=∃x v h,vs=[.int x,v]/\Is H (eH h) v/\0<=x/\x<h.b
section
variable{K:W.Frag}
theorem vo{st:Stmt}{N:O Str}{k:Nat}(D:bU K mg x st)(S:aA N ps (zi st))(a:∀(f:Y)(cdv:I)(A:Around)(outer:O Env)(s:Shared)(H:Hp)(vs:O V)(Q:VK)(E:XK),aO k (A.deeper (envOfC x (zi st) s.heap.objs.size f cdv))->sp vs H Q E-> let X:=(Ve eT P w K mg base N x (zi st) f cdv A outer s H E).nox;∃t,dO X (y0 st) t/\t (.of Q) (start N vs) H) (c:autoParam (∀vs H Q E,sp vs H Q E->vs.length=ps.length) qI._auto_1) (j:autoParam (∀(kV d e:I)(n:Option Y)(cdv m:I)(b:O I),b.length=ps.length->bindArgs (W.fnOf x x (qb st) (y0 st) (zi st) .none kV d e n cdv m) ⟨b,[]⟩=pure (ps.zip b)) qH._auto_1):Ok P w K mg base x (k+1) ps sp:=by obtain⟨f,l,F,i⟩:=D;exact⟨f,l,F.ok S c (λcdv A outer s H vs Q E g h=>a f cdv A outer s H vs Q E g h),F.binds j,F.kp,i⟩
theorem DE:aA ["thing","least","most"] ["thing","least","most"] (zi Z7):=.of
theorem E6(D:bU K mg "is_within" Z7)(c:Ok P w K mg base "is_whole" 1 ["thing"] (gw (λ_=>True) Wr)):Ok P w K mg base "is_within" 2 ["thing","least","most"] (spT lU):=by refine vo D DE ?_;rintro f j A a s H m Q E d ⟨⟨i,lo,e,rfl,h,g⟩,k⟩ X;refine⟨_,zh (zp (wr (ye c d (zc (pv 0) zd)) (vg (vD Qq Qq (pv 1) (pv 0) (pv 2))))),?_⟩;refine⟨.int i,_,J,J,trivial,λl b=>⟨_,J,yv ⟨lo,i,J,J,_,J,?_⟩⟩⟩;rw[ax h];refine yv ⟨i,e,J,J,?_⟩;rw[ax g];exact k l b
theorem zA:aA ["thing","least","most"] ["thing","least","most"] (zi qm):=.of
theorem Xe(D:bU K mg "is_tuple_within" qm)(T:Txt K mg):Ok P w K mg base "is_tuple_within" 1 ["thing","least","most"] (spT lV):=by refine vo D zA ?_;rintro f m A b s H n Q E o ⟨⟨h,v,lo,j,rfl,c,e,d⟩,k⟩ X;refine⟨_,zh (zp (wr (jw T.isi T.tuple v4 (pv 0)) (vg (vD Qq Qq (pv 1) (yf yh J T.len wu (zc (pv 0) zd)) (pv 2))))),?_⟩;refine⟨v,"tuple",_,_,J,c.ty,Kd K (.tup h),_,J,yv ?_⟩;obtain⟨a,g,rfl,l,i⟩:=c;rw[<-i.length]at e d;refine⟨a,g,J,.inr (aH.of l),lo,_,J,J,_,J,?_⟩;rw[ax e];refine yv ⟨_,j,J,J,?_⟩;rw[ax d];exact k H (Same.refl H)
theorem Az:aA ["thing","house"] ["thing","house"] (zi Qd):=.of
theorem DQ(D:bU K mg "is_box" Qd)(T:Txt K mg)(e:Ok P w K mg base "is_within" 2 ["thing","least","most"] (spT lU)):Ok P w K mg base "is_box" 3 ["thing","house"] (spT xF):=by refine vo D Az ?_;rintro f n A b s H o Q E j ⟨⟨x,v,h,rfl,g,l,p⟩,k⟩ X;obtain⟨a,c,u,rfl,d,m,i⟩:=Is.at (i:=0) g J;cases(i);exact⟨_,zh (zp (ye e j (zc (pv 0) (zc zg (zc (yt nI (zm zk (pv 1) (xi T.BOXES)) zg) zd))))),a,c,_,_,J,J,d,m,_,_,J,J,⟨x,0,h.b-1,J,l,by omega⟩,k⟩
end
def fH(b w:Int):aF->Prop|.rai x k=>0<=x/\x<b/\1<=k/\k<=99|.awa x m=>0<=x/\x<b/\1<=m/\m<=9999|.com x=>x=0/\w=1|.goo x=>x=0/\w=1|.lea x=>x=0/\w=1|.wor d=>0<=d/\d<=999|_=>False
def rF:aF->Prop|.beg _ _=>False|_=>True
theorem fH.no{b w:Int}{d:aF}(h:fH b w d):rF d:=by cases d<;>first|trivial|exact h.elim
def qU(m:Str):Prop:=m="both"\/m="come"\/m="go"
def mY(w:Int)(B:List ij):Prop:=B=[]\/∃m,B=[(0,m)]/\w=1/\qU m
noncomputable def Jp:List ij->Option Str|[]=>none|m::_=>some m.2
noncomputable def lQ(o:Option Str)(m:Str):Bool:=decide (o=some "both") ||decide (o=some m)
noncomputable def jW(o:Option Str):aF->Bool|.com _=>lQ o "come"|.goo _=>lQ o "go"|.lea _=>o.isSome|_=>true
noncomputable def iX(o:Option Str):aF->Option Str|.lea _=>none|_=>o
noncomputable def eP(o:Option Str):yg->Bool|[]=>true|d::r=>jW o d && eP (iX o d) r
structure fI(h:aC):Prop where
 b0:0<=h.b
 b99:h.b<=99
 w01:h.w=0\/h.w=1
 n1:1<=h.ss.length
 n20:h.ss.length<=20
 f1:1<=h.fs.length
 f8:h.fs.length<=8
 call:∀c∈h.fs,c.1<h.ss.length/\mY h.w c.2
 len:∀s∈h.ss,s.length<=80
 pl:∀s∈h.ss,∀d∈s,fH h.b h.w d
 fit:∀c∈h.fs,eP (Jp c.2) (h.ss.getD c.1 [])=true
def qG(vs:List V)(H:Hp):Prop:=∃B h,vs=[.int 0,B]/\Is H (eH h) B/\h.w=1
def xA(vs:List V)(H:Hp):Prop:=∃v B m h,vs=[v,B]/\Is H (kB (0,m)) v/\Is H (eH h) B/\h.w=1/\qU m
def xB(vs:List V)(H:Hp):Prop:=∃v F B h,vs=[v,F]/\Is H (lT B) v/\Is H (eH h) F/\mY h.w B
def xE(vs:List V)(H:Hp):Prop:=∃(c:j6)(v:V)(B:Int)(h:aC)(F:V),vs=[v,.int B,F]/\Is H (eC c) v/\Is H (eH h) F/\B<=(c.1:Int)/\c.1<h.ss.length/\mY h.w c.2
def xD(vs:List V)(H:Hp):Prop:=∃d v B h F,vs=[v,.int B,F]/\Is H (eD d) v/\Is H (eH h) F/\fH h.b h.w d
def wY(vs:List V)(H:Hp):Prop:=∃s v B h F,vs=[v,.int B,F]/\Is H (eS s) v/\Is H (eH h) F/\s.length<=80/\∀d∈s,fH h.b h.w d
def jX(vs:List V)(H:Hp):Prop:=∃h v,vs=[v]/\Is H (eH h) v/\fI h
noncomputable def iZ:Option Str->List (aI×V)|none=>[]|some m=>[(Sum.inl 0,.str m)]
def xG(vs:List V)(H:Hp):Prop:=∃b w d B a o,vs=[B,.ref a]/\Is H (eD d) B/\H a=some (.dK (iZ o))/\fH b w d/\jW o d=true
def xC(vs:List V)(H:Hp):Prop:=∃(b w:Int)(B:List yg)(F:V)(c:j6)(G:V),vs=[F,G]/\Is H (.tup (B.map eS)) F/\Is H (eC c) G/\c.1<B.length/\mY w c.2/\(∀s∈B,∀d∈s,fH b w d)/\eP (Jp c.2) (B.getD c.1 [])=true
def xK(B:List yg)(lo:Nat)(H:Hp)(d:Addr):Prop:=∃kvs:List (aI×V),H d=some (.dK kvs)/\kvs.length<=B.length-lo/\∀j,lo<=j->j<B.length->∃p,y9 kvs (Sum.inl (j:Int):aI)=some (.ref p)/\H p=some (.tup [.int 1,.int ((B.getD j []).length:Int)])
inductive ll(vs:List V)(H:Hp)(Q:VK)(e0:XK):Prop|mk:∀(ss:List yg)(v:V),vs=[v]->Is H (.tup (ss.map eS)) v->ss.length<=20->(∀s∈ss,∀d∈s,rF d)->(∀d H',Same H H'->xK ss 0 H' d->Q (.ref d) H')->ll vs H Q e0
section
variable{K:W.Frag}
theorem BV:aA ["thing","house"] ["thing","house"] (zi Wg):=.of
theorem Ef(D:bU K mg "is_wall" Wg)(T:Txt K mg)(e:Ok P w K mg base "is_within" 2 ["thing","least","most"] (spT lU)):Ok P w K mg base "is_wall" 3 ["thing","house"] (spT qG):=by refine vo D BV ?_;rintro f m A b s H n Q E j ⟨⟨v,h,rfl,g,o⟩,k⟩ X;obtain⟨a,c,u,rfl,d,l,i⟩:=Is.at (i:=1) g J;cases(i);exact⟨_,zh (zp (ye e j (zc (pv 0) (zc zg (zc (yt nI (zm zk (pv 1) (xi T.WALLS)) zg) zd))))),a,c,_,_,J,J,d,l,_,_,J,J,⟨0,0,h.w-1,J,by omega,by omega⟩,k⟩
theorem DA:aA ["thing","house"] ["thing","house"] (zi Z8):=.of
theorem E4(D:bU K mg "is_member" Z8)(T:Txt K mg)(F:Ok P w K mg base "is_tuple_within" 1 ["thing","least","most"] (spT lV))(C:Ok P w K mg base "is_wall" 3 ["thing","house"] (spT qG)):Ok P w K mg base "is_member" 4 ["thing","house"] (spT xA):=by
 refine vo (k:=3) D DA ?_;rintro f W A l s H Z Q E t ⟨⟨v,L,m,h,rfl,r,R,G,M⟩,k⟩ X;obtain⟨u,p,N⟩:=T.MODES;refine⟨_,zf (yj (PW.pt (Yb (xx (yy (ye F (t.mono (by decide)) (zc (pv 0) (zc zg (zc zg zd)))))) (jv (xx (yy (ye C t (zc (zm zk (pv 0) zg) (zc (pv 1) zd)))))))) (zh (zp qg)) zn) (zh (zp (wr (jw T.isi T.str pi (zm zk (pv 0) zg)) (vg (xj jp (zm zk (pv 0) zg) (uj (v:=.ref u) J p J) J))))),?_⟩
 refine⟨⟨_,v,2,2,J,r,di _,di _⟩,λH1 j=>⟨_,J,yd ?_⟩⟩;have d:=r.mono j;obtain⟨a,x,y,rfl,B,S,n⟩:=Is.at (K:=K) (i:=0) d J;cases(show y=.int 0 from n);refine⟨a,x,_,_,J,J,B,S,⟨L,h,J,R.mono j,G⟩,λi q=>⟨_,J,yd ?_⟩⟩;obtain⟨a2,b,z,U,c,g,o⟩:=Is.at (K:=K) (i:=1) (d.mono q) J;cases U;cases(show z=.str m from o);refine⟨a,b,_,_,J,J,c,g,.str m,"str",_,_,J,(show Is i (.str m) (.str m)from rfl).ty,Vq K (.str m),_,J,yv ⟨a,b,_,_,J,J,c,g,u,_,J,.inr (N i),J,J,?_⟩⟩;have e:jR (.str m) [.str "both",.str "come",.str "go"]=true:=by rcases M with rfl|rfl|rfl<;>rfl
 show Q (.bl (jR (.str m) [.str "both",.str "come",.str "go"])) i;rw[e];exact k i (j.trans q)
theorem Zn:aA ["thing","house","last","member"] ["thing","house"] (zi kh):=.of
theorem Qr(D:bU K mg "are_members" kh)(T:Txt K mg)(U:Ok P w K mg base "is_member" 4 ["thing","house"] (spT xA)):Ok P w K mg base "are_members" 5 ["thing","house"] (spT xB):=by
 refine vo (k:=4) D Zn ?_;rintro f ag A t s H vs Q E hr ⟨⟨v,L,G,h,rfl,M,hH,y⟩,k⟩ X;refine⟨_,zf (yj (xx (yy (jw T.isi T.tuple v4 (pv 0)))) (zh (zp qg)) zn) (zf (zv (i:=2) Zn.nd (nD Kt zg)) (zf (wy PassesOwn.never J (jk (pv 0)) (zu (i:=3) Zn.nd) (zf (yj (PW.pt (Yb (xx (yy (ye U hr (zc (pv 3) (zc (pv 1) zd))))) (jv (zr Qq (zm zk (pv 3) zg) (pv 2) (zo _))))) (zh (zp qg)) zn) (zh (zv (i:=2) Zn.nd (zm zk (pv 3) zg)))))
  (zh (zp qg)))),?_⟩
 refine⟨v,"tuple",_,_,J,Is.ty (t:=.tup (G.map kB)) M,Kd K (.tup (G.map kB)),_,J,yd ?_⟩;obtain⟨a,C,rfl,N,hl⟩:=M;refine⟨_,J,a,J,⟨C,aH.of N⟩,X4 (xs:=C) (λi q p=>Same H p/\∃l r,q=[some (.ref a),some L,some (.int l),r]/\(i=0->l= -1)) ⟨Same.refl H,_,_,J,λ_=>rfl⟩ (λi q p _ e=>aH.of (e.1 _ _ N)) ?_ λq p e=>?_⟩
 . rintro i x q p W ⟨c,l,r,rfl,B⟩;obtain⟨tt,n,j⟩:=hl.get' W;rw[bc]at n;obtain⟨mm,b,rfl⟩:=cu.mp n;rcases y with rfl|⟨m,rfl,Z,y⟩
   . cases b
   obtain rfl:i=0:=by have:=(c9.mp b).1;simpa using this
   cases b;cases B J;refine⟨⟨x,L,m,h,J,j.mono c,hH.mono c,Z,y⟩,λH2 F=>⟨_,J,yd ?_⟩⟩;obtain⟨R,d,S,rfl,g,o,u⟩:=Is.at (K:=K) (i:=0) ((j.mono c).mono F) J;cases(show S=.int 0 from u);exact⟨R,d,_,_,J,J,g,o,_,_,J,J,_,J,yd ⟨R,d,_,_,J,J,g,o,c.trans F,_,_,J,λz=>absurd z (Nat.succ_ne_zero _)⟩⟩
 . obtain⟨c,l,r,rfl,_⟩:=e;exact k p c
theorem En:aA ["thing","least","house"] ["thing","least","house"] (zi Zr):=.of
theorem Jk(D:bU K mg "is_calling" Zr)(T:Txt K mg)(W:Ok P w K mg base "is_tuple_within" 1 ["thing","least","most"] (spT lV))(U:Ok P w K mg base "is_within" 2 ["thing","least","most"] (spT lU))(S:Ok P w K mg base "are_members" 5 ["thing","house"] (spT xB)):Ok P w K mg base "is_calling" 6 ["thing","least","house"] (spT xE):=by
 refine vo (k:=5) D En ?_;rintro f ag A o s H vs Q E t ⟨⟨c,v,p,h,hv,rfl,C,F,h1,h2,Z⟩,k⟩ X;refine⟨_,zf (yj (xx (yy (ye W (t.mono (by decide)) (zc (pv 0) (zc zg (zc zg zd)))))) (zh (zp qg)) zn) (zh (zp (wr (ye U (t.mono (by decide)) (zc (zm zk (pv 0) zg) (zc (pv 1) (zc (yt nI (yf yh J T.len wu (zc (zm zk (pv 2) (xi T.SCRIPTS)) zd)) zg) zd)))) (vg (ye S (t.mono (by decide)) (zc (zm zk (pv 0) zg) (zc (pv 2) zd))))))),?_⟩
 refine⟨⟨_,v,2,2,J,C,di _,di _⟩,λH1 g=>⟨_,J,yd ?_⟩⟩;have e:=C.mono g;obtain⟨a,G,M,rfl,N,ea,q⟩:=Is.at (i:=0) e J;cases(show M=.int (c.1:Int)from q);obtain⟨ah,L,uh,rfl,l,z,r⟩:=Is.at (i:=3) (F.mono g) J;obtain⟨as,i,rfl,y,u⟩:=r;have x:=u.length;rw[ai]at x;refine⟨a,G,_,_,J,J,N,ea,ah,L,_,_,J,J,l,z,as,i,J,.inr (aH.of y),_,_,J,J,⟨_,_,_,J,h1,by omega⟩,λH2 n=>⟨_,J,yv ?_⟩⟩;obtain⟨a2,j,b,e2,m,B,d⟩:=Is.at (i:=1) (e.mono n) J;cases e2;exact⟨a,j,_,b,J,J,m,B,⟨b,_,_,h,J,d,F.mono (g.trans n),Z⟩,λH3 R=>k H3 (g.trans (n.trans R))⟩
theorem uz:aA ["thing","number","house","word"] ["thing","number","house"] (zi Wh):=.of
theorem Ed(D:bU K mg "is_deed" Wh)(T:Txt K mg)(o1:Ok P w K mg base "is_tuple_within" 1 ["thing","least","most"] (spT lV))(o2:Ok P w K mg base "is_within" 2 ["thing","least","most"] (spT lU))(o4:Ok P w K mg base "is_box" 3 ["thing","house"] (spT xF))(o5:Ok P w K mg base "is_wall" 3 ["thing","house"] (spT qG)):Ok P w K mg base "is_deed" 7 ["thing","number","house"] (spT xD):=by
 refine vo (k:=6) D uz ?_;rintro f ap A ag s H vs Q E hr ⟨⟨d,v,ao,h,M,rfl,ht,hH,u⟩,k⟩ X;have r1:=hr.mono (show 1<=6 by decide);have r2:=hr.mono (show 2<=6 by decide);have Z:=hr.mono (show 3<=6 by decide);refine⟨_,zf (yj (PW.pt (Yb (xx (yy (ye o1 r1 (zc (pv 0) (zc zg (zc zg zd)))))) (jv (xx (yy (jw T.isi T.str pi (zm zk (pv 0) zg))))))) (zh (zp qg)) zn) (zf (zv (i:=3) uz.nd (zm zk (pv 0) zg)) (zf (yj (zr yz (pv 3) zx (zo _)) xz zn) (zf (yj (zr yz (pv 3) zx (zo _)) (zh (zp (wr (xj yz (yf yh (by rfl) T.len wu (zc (pv 0) zd)) zg (zo _)) (wr (ye o4 Z (zc (zm zk (pv 0) zg) (zc (pv 2) zd))) (vg (ye o2 r2 (zc (zm zk (pv 0) zg) (zc zg (zc (xi T.MOST_RAISED) zd))))))))) zn) (zf (yj (zr yz (pv 3) zx (zo _)) (zh (zp (wr (xj yz (yf yh (by rfl) T.len wu (zc (pv 0) zd)) zg (zo _)) (wr (ye o4 Z (zc (zm zk (pv 0) zg) (zc (pv 2) zd))) (vg (ye o2 r2 (zc (zm zk (pv 0) zg) (zc zg (zc (xi T.MOST_AWAITED) zd))))))))) zn) (zf (yj (zr Qp (yf yh (by rfl) T.len wu (zc (pv 0) zd)) zg (zo _)) xz zn) (zf (yj (zr jp (pv 3) (Wm (zc zx (zc zx (zc zx zd)))) J) (zh (zp (ye o5 Z (zc (zm zk (pv 0) zg) (zc (pv 2) zd))))) zn) (zf (yj (zr yz (pv 3) zx (zo _)) (zh (zp (ye o2 r2 (zc (zm zk (pv 0) zg) (zc zg (zc (xi T.MOST_WORKED) zd)))))) zn) xz))))))),?_⟩
 obtain⟨r,C⟩:=Zi d;have hl:r.length=1\/r.length=2:=by cases d<;>first|exact u.elim|(injection C with e;injection e with _ e;rw[<-e];simp)
 refine⟨⟨_,v,2,3,J,C▸ht,by rw[dm];omega,by rw[dm];omega⟩,λH1 B=>⟨_,J,yd ?_⟩⟩;have j:=ht.mono B;have q:=hH.mono B;obtain⟨a,xs,u0,rfl,sq,ea,ah⟩:=Is.at (K:=K) (i:=0) (t:=.str (dw d)) (C▸j) J;cases(show u0=.str (dw d)from ah);refine⟨a,xs,_,_,J,J,sq,ea,.str (dw d),"str",_,_,J,(show Is H1 (.str (dw d)) (.str (dw d))from rfl).ty,Vq K (.str (dw d)),_,J,yd ⟨a,xs,_,_,J,J,sq,ea,J,_,J,?_⟩⟩;cases d with| rai N m=>obtain⟨S,R,m0,m1⟩:=u;obtain⟨U,g,t,c,i⟩:=j;cases t;have b:g.length=3:=i.length;refine yd ⟨J,_,J,yv ⟨a,g,J,.inr (aH.of c),J,_,J,?_⟩⟩;rw[b];obtain⟨_,_,rfl,_,_,_,rfl,o,_,_,rfl,i2,_⟩:=id i;cases(o);cases(i2);refine yv ⟨a,_,1,.int N,J,J,aH.of c,(show cN _ ((1:Nat):Int)=_ from y4 J),⟨N,M,h,J,q,S,R⟩,λz n=>⟨_,J,yv ⟨a,_,2,.int m,J,J,aH.of (n _ _ c),(show cN _ ((2:Nat):Int)=_ from y4 J),⟨m,1,99,J,m0,m1⟩,λH3 W=>k H3 (B.trans (n.trans W))⟩⟩⟩| awa N m=>obtain⟨S,R,m0,m1⟩:=u;obtain⟨U,g,t,c,i⟩:=j;cases t;have b:g.length=3:=i.length;refine yd ⟨J,_,J,yd ⟨J,_,J,yv ⟨a,g,J,.inr (aH.of c),J,_,J,?_⟩⟩⟩;rw[b];obtain⟨_,_,rfl,_,_,_,rfl,o,_,_,rfl,i2,_⟩:=id i;cases(o);cases(i2);refine yv ⟨a,_,1,.int N,J,J,aH.of c,(show cN _ ((1:Nat):Int)=_ from y4 J),⟨N,M,h,J,q,S,R⟩,λz n=>⟨_,J,yv ⟨a,_,2,.int m,J,J,aH.of (n _ _ c),(show cN _ ((2:Nat):Int)=_ from y4 J),⟨m,1,9999,J,m0,m1⟩,λH3 W=>k H3 (B.trans (n.trans W))⟩⟩⟩|say x=>exact u.elim|beg x y=>exact u.elim| com x=>obtain⟨G,L⟩:=u;cases G;obtain⟨U,g,t,c,i⟩:=j;cases t;have b:g.length=2:=i.length;refine yd ⟨J,_,J,yd ⟨J,_,J,yd ⟨a,g,J,.inr (aH.of c),J,_,J,?_⟩⟩⟩;rw[b];obtain⟨_,_,rfl,_,_,_,rfl,o,_⟩:=id i;cases(o);refine yd ⟨by decide,λp F=>⟨p,_,J,.inr (aH.of ze),J,J,_,J,yv ?_⟩⟩;have l:=Same.new F (.tup [.str "come",.str "go",.str "leave"]);exact⟨a,_,1,.int 0,J,J,aH.of (l _ _ c),(show cN _ ((1:Nat):Int)=_ from y4 J),⟨M,h,J,q.mono l,L⟩,λz n=>k z (B.trans (l.trans n))⟩| goo x=>obtain⟨G,L⟩:=u;cases G;obtain⟨U,g,t,c,i⟩:=j;cases t;have b:g.length=2:=i.length;refine yd ⟨J,_,J,yd ⟨J,_,J,yd ⟨a,g,J,.inr (aH.of c),J,_,J,?_⟩⟩⟩;rw[b];obtain⟨_,_,rfl,_,_,_,rfl,o,_⟩:=id i;cases(o);refine yd ⟨by decide,λp F=>⟨p,_,J,.inr (aH.of ze),J,J,_,J,yv ?_⟩⟩;have l:=Same.new F (.tup [.str "come",.str "go",.str "leave"]);exact⟨a,_,1,.int 0,J,J,aH.of (l _ _ c),(show cN _ ((1:Nat):Int)=_ from y4 J),⟨M,h,J,q.mono l,L⟩,λz n=>k z (B.trans (l.trans n))⟩| lea x=>obtain⟨G,L⟩:=u;cases G;obtain⟨U,g,t,c,i⟩:=j;cases t;have b:g.length=2:=i.length;refine yd ⟨J,_,J,yd ⟨J,_,J,yd ⟨a,g,J,.inr (aH.of c),J,_,J,?_⟩⟩⟩;rw[b];obtain⟨_,_,rfl,_,_,_,rfl,o,_⟩:=id i;cases(o);refine yd ⟨by decide,λp F=>⟨p,_,J,.inr (aH.of ze),J,J,_,J,yv ?_⟩⟩;have l:=Same.new F (.tup [.str "come",.str "go",.str "leave"]);exact⟨a,_,1,.int 0,J,J,aH.of (l _ _ c),(show cN _ ((1:Nat):Int)=_ from y4 J),⟨M,h,J,q.mono l,L⟩,λz n=>k z (B.trans (l.trans n))⟩| wor x=>obtain⟨S,R⟩:=u;obtain⟨U,g,t,c,i⟩:=j;cases t;have b:g.length=2:=i.length;refine yd ⟨J,_,J,yd ⟨J,_,J,yd ⟨a,g,J,.inr (aH.of c),J,_,J,?_⟩⟩⟩;rw[b];obtain⟨_,_,rfl,_,_,_,rfl,o,_⟩:=id i;cases(o);refine yd ⟨by decide,λp F=>⟨p,_,J,.inr (aH.of ze),J,J,_,J,yd ⟨J,_,J,yv ?_⟩⟩⟩;have l:=Same.new F (.tup [.str "come",.str "go",.str "leave"]);exact⟨a,_,1,.int x,J,J,aH.of (l _ _ c),(show cN _ ((1:Nat):Int)=_ from y4 J),⟨x,0,999,J,S,R⟩,λz n=>k z (B.trans (l.trans n))⟩
theorem DD:aA ["thing","number","house"] ["thing","number","house"] (zi j5):=.of
theorem E5(D:bU K mg "is_script" j5)(T:Txt K mg)(z:Ok P w K mg base "is_tuple_within" 1 ["thing","least","most"] (spT lV))(y:Ok P w K mg base "is_deed" 7 ["thing","number","house"] (spT xD)):Ok P w K mg base "is_script" 8 ["thing","number","house"] (spT wY):=by
 refine vo (k:=7) D DD ?_;rintro f W A e s H Z Q E o ⟨⟨l,v,g,h,G,rfl,n,N,U,S⟩,k⟩ X;refine⟨_,zf (yj (xx (yy (ye z (o.mono (by decide)) (zc (pv 0) (zc zg (zc (xi T.MOST_DEEDS_OF_SCRIPT) zd)))))) (zh (zp qg)) zn) (zh (zp (yf (je J) J T.all Yl (zc (qf (own:=["deed"]) (cap:=[1,2]) J (xo (zi j5) J J (by decide+kernel) (by decide+kernel) (by decide+kernel) ⟨⟨_,J,.inl J,qw J⟩,⟨_,J,.inl J,qw J⟩,trivial⟩) (jk (pv 0)) (λ_ _ _ _=>zu (i:=0) (by show(["deed","number","house"]:O Str).Nodup;decide+kernel)) (λ_ _ _ _=>wb)
   (λ_ _ _ _=>ye y o (zc (pv 0) (zc (pv 1) (zc (pv 2) zd))))) zd)))),?_⟩
 have L:(l.map eD).length=l.length:=ai _;refine⟨⟨_,v,0,80,J,n,by omega,by omega⟩,λH1 c=>⟨_,J,yd ?_⟩⟩;obtain⟨a,t,rfl,q,p⟩:=n.mono c;have C:=p.length;refine⟨a,J,⟨t,aH.of q⟩,Vp q (by omega) (λi x r R F m B=>?_) λr u=>k r (c.trans u)⟩;obtain⟨tt,b,j⟩:=p.get' F;rw[bc]at b;obtain⟨d,M,rfl⟩:=cu.mp b;exact⟨⟨d,x,g,h,G,J,j.mono m,N.mono (c.trans m),S d (ck M)⟩,B⟩
theorem Ct:aA ["thing"] ["thing"] (zi Xc):=⟨J,J,J,by simp,J,by decide+kernel,by decide+kernel⟩
theorem ET(D:bU K mg "is_frame" Xc)(T:Txt K mg)(i:Ok P w K mg base "is_tuple_within" 1 ["thing","least","most"] (spT lV))(x:Ok P w K mg base "is_within" 2 ["thing","least","most"] (spT lU)):Ok P w K mg base "is_frame" 3 ["thing"] (spT jX):=by
 refine vo (k:=2) D Ct ?_;rintro f ah A g s H vs Q E n ⟨⟨h,v,rfl,y,F⟩,k⟩ X;have c:=n.mono (show 1<=2 by decide);obtain⟨b0,t,w0,n1,U,f1,ag,_⟩:=F;refine⟨_,zf (yj (xx (yy (ye i c (zc (pv 0) (zc zg (zc zg zd)))))) (zh (zp qg)) zn) (zf (yj (PW.pt (Yb (xx (yy (ye x n (zc (zm zk (pv 0) (xi T.BOXES)) (zc zg (zc (xi T.MOST_BOXES) zd)))))) (jv (xx (yy (ye x n (zc (zm zk (pv 0) (xi T.WALLS)) (zc zg (zc (xi T.MOST_WALLS) zd))))))))) (zh (zp qg)) zn)
  (zh (zp (wr (ye i c (zc (zm zk (pv 0) (xi T.FIRSTS)) (zc zg (zc (xi T.MOST_FIRSTS) zd)))) (vg (ye i c (zc (zm zk (pv 0) (xi T.SCRIPTS)) (zc zg (zc (xi T.MOST_SCRIPTS) zd))))))))),?_⟩
 refine⟨⟨_,v,4,4,J,y,di _,di _⟩,λH1 b=>⟨_,J,yd ?_⟩⟩;have j:∀{G:Hp},Same H G->∃p q r,v=.ref p/\G p=some (.tup [.int h.b,.int h.w,q,r])/\Is G (.tup (h.fs.map eC)) q/\Is G (.tup (h.ss.map eS)) r:=λ{G} L=>by obtain⟨p,xs,rfl,hp,u1,c,rfl,i1,u2,r2,rfl,Z,C,N,rfl,m,B,e,rfl,l,W⟩:=y.mono L;cases(i1);cases(Z);cases(show e=[]from W);exact⟨p,C,B,J,hp,m,l⟩
 obtain⟨p,q,r,rfl,z,_,_⟩:=j b;have lf:(h.fs.map eC).length=h.fs.length:=ai _;have ls:(h.ss.map eS).length=h.ss.length:=ai _;refine⟨p,_,_,_,J,J,aH.of z,J,⟨_,0,99,J,b0,t⟩,λH2 a=>⟨_,J,yd ?_⟩⟩;refine⟨p,_,_,_,J,J,aH.of (a _ _ z),J,⟨_,0,6,J,by omega,by omega⟩,λH3 d=>⟨_,J,yd ?_⟩⟩;obtain⟨S,R,N,o,h3,m,_⟩:=j (b.trans (a.trans d));cases o;refine⟨p,_,_,_,J,J,aH.of h3,J,⟨_,R,1,40,J,m,by omega,by omega⟩,λH4 u=>⟨_,J,yv ?_⟩⟩;obtain⟨S,q4,e,o,h4,_,l⟩:=j (b.trans (a.trans (d.trans u)));cases o;exact⟨p,_,_,_,J,J,aH.of h4,J,⟨_,e,1,20,J,l,by omega,by omega⟩,λH5 M=>k H5 (b.trans (a.trans (d.trans (u.trans M))))⟩
end
section
variable{K:W.Frag}
theorem oX:aA ["thing","number","script"] ["thing"] (zi vt):=.of
theorem X1(D:bU K mg "is_well_formed" vt)(T:Txt K mg)(o1:Ok P w K mg base "is_frame" 3 ["thing"] (spT jX))(o2:Ok P w K mg base "is_script" 8 ["thing","number","house"] (spT wY))(o3:Ok P w K mg base "is_calling" 6 ["thing","least","house"] (spT xE)):Ok P w K mg base "is_well_formed" 9 ["thing"] (spT jX):=by
 refine vo (k:=8) D oX ?_;rintro f ap A B s H vs Q E W ⟨⟨h,v,rfl,l,F⟩,k⟩ X;refine⟨_,zf (yj (xx (yy (ye o1 (W.mono (by decide)) (zc (pv 0) zd)))) (zh (zp qg)) zn) (zf (wy PassesOwn.never J (pW J T.enumerate (zc (zm zk (pv 0) (xi T.SCRIPTS)) zd)) (ki J (y6 (zu (i:=1) oX.nd) (y6 (zu (i:=2) oX.nd) ja))) (zh (yj (xx (yy (ye o2 W (zc (pv 2) (zc (pv 1) (zc (pv 0) zd)))))) (zh (zp qg)) zn)))
  (zh (zp (yf (je J) J T.all Yl (zc (qf (own:=["calling"]) (cap:=[0]) J (xo (zi vt) J J (by decide+kernel) (by decide+kernel) (by decide+kernel) ⟨⟨_,J,.inl J,qw J⟩,trivial⟩) (jk (zm zk (pv 0) (xi T.FIRSTS))) (λ_ _ _ _=>zu (i:=0) (by show(["calling","thing"]:O Str).Nodup;decide+kernel)) (λ_ _ _ _=>wb)
   (λ_ _ _ _=>ye o3 (W.mono (by decide)) (zc (pv 0) (zc zg (zc (pv 1) zd))))) zd))))),?_⟩
 refine⟨⟨h,v,J,l,F⟩,λH1 z=>⟨_,J,yd ?_⟩⟩;obtain⟨a,xs,us,rfl,sq,ea,N⟩:=Is.at (K:=K) (i:=3) (l.mono z) J;obtain⟨as,r,rfl,n,Z⟩:=N;refine⟨a,xs,_,_,J,J,sq,ea,as,r,J,aH.of n,?_⟩;refine Q5 (K:=K) (λi q g=>∃C t,q=[some (.ref a),C,t]/\Same H1 g) ⟨none,none,J,Same.refl H1⟩ (λi q g _ ⟨_,_,_,j⟩=>aH.of (j _ _ n)) ?_ ?_
 . rintro i x q g p M ⟨C,t,rfl,j⟩ hp;obtain⟨tt,b,L⟩:=Z.get' M;rw[bc]at b;obtain⟨y,U,rfl⟩:=cu.mp b;have hm:=ck U;have e:=j.trans (Same.new hp (.tup [.int i,x]));refine⟨p,_,J,aH.of ze,J,_,_,J,_,_,J,J,?_⟩;exact⟨⟨y,x,i,h,_,J,L.mono e,l.mono (z.trans e),F.len y hm,F.pl y hm⟩,λH4 s4=>⟨_,J,yd ⟨_,_,J,e.trans s4⟩⟩⟩
 rintro q H2 ⟨C,t,rfl,j⟩;have d:=z.trans j;obtain⟨a',xf,uf,e',u,ah,S⟩:=Is.at (K:=K) (i:=2) (l.mono d) J;cases e';obtain⟨af,xf,rfl,o,m⟩:=S;have ag:=m.length;rw[ai]at ag;have ao:=F.f8;refine⟨a,_,_,_,J,J,u,ah,af,J,⟨xf,aH.of o⟩,Vp o (by omega) (λi x g R M e kk=>?_) λg s'=>k g (d.trans s')⟩;obtain⟨tt,b,G⟩:=m.get' M;rw[bc]at b;obtain⟨c,hc,rfl⟩:=cu.mp b;obtain⟨c1,c2⟩:=F.call c (ck hc);exact⟨⟨c,x,0,h,_,J,G.mono e,l.mono (d.trans e),by omega,c1,c2⟩,kk⟩
theorem qz:aA ["scripts","brought","number","hands","deeds","deed"] ["scripts"] (zi Wk):=.of
theorem Eb(D:bU K mg "brought_by_scripts" Wk)(T:Txt K mg):Ok P w K mg base "brought_by_scripts" 1 ["scripts"] ll:=by
 refine vo (k:=0) D qz ?_;rintro f bd A ao s H vs Q E hr ⟨c,v,rfl,ht,bb,hN,k⟩ X;have hu:=jy hr;refine⟨_,zf (zv (i:=1) qz.nd Xz) (zf (wy PassesOwn.never J (Bv J T.range (zc (yt nI (yf yh (by rfl) T.len wu (zc (pv 0) zd)) zg) (zc (nD Kt zg) (zc (nD Kt zg) zd)))) (zu (i:=2) qz.nd) (zf (zv (i:=3) qz.nd zg) (zf (zv (i:=4) qz.nd (yf yh (by rfl) T.len wu (zc (zm zk (pv 0) (pv 2)) zd))) (zf (wy PassesOwn.never J (jk (zm zk (pv 0) (pv 2))) (zu (i:=5) qz.nd) (zh (yj (zr yz (zm zk (pv 5) zg) zx (zo _)) xz zn)))
   (zh (vj hu (pv 1) (pv 2) (Wm (zc (pv 3) (zc (pv 4) zd))) J))))))
  (zh (zp (pv 1)))),?_⟩
 obtain⟨a,h,rfl,ha,hl⟩:=ht;have G:=hl.length;rw[ai]at G;intro d hd;have s0:=Same.new hd (.dK []);refine⟨a,h,J,.inr (aH.of (s0 _ _ ha)),_,_,J,J,_,J,_,J,h.length,J,(by omega),?_⟩;refine BU (lo:=(h.length:Int)-1) (n:=h.length) (λi σ B=>(∃x2 x3 x4 l,σ=[some (.ref a),some (.ref d),x2,x3,x4,l])/\Same H B/\xK c (c.length-i) B d) ⟨⟨none,none,none,none,J⟩,s0,[],ze,bo _,λj h1 h2=>absurd h2 (by omega)⟩ ?_ ?_
 . rintro i σ B hi ⟨⟨x2,x3,x4,l,rfl⟩,y,av,n,ba,a3⟩;obtain⟨m,hm⟩:∃m:Nat,m+i+1=c.length:=⟨c.length-i-1,by omega⟩
   have em:(h.length:Int)-1-(i:Int)=((m:Nat):Int):=by omega
   rw[em];have R:m<c.length:=by omega
   have N:c[m]?=some c[m]:=bi R;have a6:c.getD m []=c[m]:=by rw[cz,N];rfl
   obtain⟨u,eu,aS⟩:=hl.get (i:=m) (t:=eS c[m]) (by rw[bc,N];rfl);have W:cN h ((m:Nat):Int)=some u:=y4 eu;obtain⟨as,C,rfl,t,S⟩:=aS.mono y;have F:=S.length;rw[ai]at F;refine⟨a,h,_,_,J,J,aH.of (y _ _ ha),W,as,C,J,.inr (aH.of t),?_⟩;refine⟨a,h,_,_,J,J,aH.of (y _ _ ha),W,as,J,⟨C,aH.of t⟩,?_⟩;refine X4 (K:=K) (a:=as) (xs:=C) (λj g H2=>H2=B/\∃l,g=[some (.ref a),some (.ref d),some (.int (m:Int)),some (.int 1),some (.int (C.length:Int)),l]) ⟨J,_,J⟩ (λj g H2 _ ⟨e,_⟩=>by rw[e];exact aH.of t) ?_ ?_
   . rintro j x g H2 hx ⟨rfl,l,rfl⟩;obtain⟨tt,L,aw⟩:=S.get' hx;rw[bc]at L;obtain⟨Z,a7,rfl⟩:=cu.mp L;have hn:=hN _ (List.getElem_mem R) Z (ck a7);obtain⟨r,a1⟩:=Zi Z;obtain⟨a5,ag,u5,rfl,ah,a8,ay⟩:=Is.at (K:=K) (i:=0) (t:=.str (dw Z)) (a1▸aw) J;cases(show u5=.str (dw Z)from ay);refine⟨a5,ag,_,_,J,J,ah,a8,J,_,J,?_⟩;cases Z<;>first|exact hn.elim|exact yd ⟨J,_,J⟩
   rintro g H2 ⟨rfl,l,rfl⟩;refine⟨aY,λp hp=>?_⟩;have sp:=Same.new hp (.tup [.int 1,.int (C.length:Int)]);have U:=sp _ _ n;have ap:p≠d:=λz=>by rw[z,n]at hp;cases hp
   refine⟨d,_,J,Zl.k (k:=(Sum.inl (m:Int):aI)) U (yq (by omega)),⟨_,_,_,_,J⟩,(λb o e=>by rw[upd_ne (zj e hd)];exact sp _ _ (y _ _ e)),_,ze,?_,λj h1 h2=>?_⟩
   . have:=xt av (Sum.inl (m:Int):aI) (.ref p);omega
   rw[ku];by_cases ej:j=m
   . subst ej;exact⟨p,if_pos J,by rw[upd_ne ap,ze,a6,F]⟩
   . obtain⟨q,a2,M⟩:=a3 j (by omega) h2;exact⟨q,by rw[if_neg (λz=>ej (by have:=Sum.inl.inj z;omega))];exact a2,by rw[upd_ne (Ye M n (by intro z;cases z))];exact sp _ _ M⟩
 rintro σ B ⟨⟨x2,x3,x4,l,rfl⟩,y,hB⟩;rw[G,Nat.sub_self]at hB;exact k d B y hB
end
theorem ur{f:Nat->Nat}{M:Nat}(h:∀i,f i<=M):∀n,0<=((List.range n).map λj=>(f j:Int)).sum/\((List.range n).map λj=>(f j:Int)).sum<=((M*n:Nat):Int)|0=>⟨di _,di _⟩| n+1=>by have:=ur h n;have:=h n;rw[List.range_succ,be,List.sum_append,Nat.mul_succ];simp only[c6,List.map_nil,List.sum_cons,List.sum_nil];omega
theorem sU{K:W.Frag}{k:Nat}(c:H af=some (.tup xs))(d:xs.length<=100){f:Nat->Nat}{M:Nat}(m:∀i,f i<=M)(h:∀(i:Nat)(x:V)(R:VK),xs[i]?=some x->R (.int (f i:Int)) H->te ((bY k cap σ).set 0 (some x)) H R)(e:∀p (ns:O Int) H',Same H H'->aJ K H' p (ns.map V.int)->(∀n∈ns,0<=n)->ns.sum<=((M*xs.length:Nat):Int)->Q (.ref p) H'):cV (lY K af) (jz 0) mq te k cap σ H Q:=by
 refine pI (xs:=xs) (λi a b=>b=H/\a=((List.range i).map λj=>(f j:Int)).map V.int) ⟨J,J⟩ (λi a b s ⟨r,o⟩=>⟨by rw[r];exact aH.of c,by rw[o,ai,ai,c8];exact vp (by omega)⟩) ?_ ?_
 . rintro i x a b g ⟨rfl,rfl⟩;refine Q2 (h i x _ g ⟨J,?_⟩);rw[List.range_succ,be,be];rfl
 . rintro a b ⟨rfl,rfl⟩ p l;have q:=ur m xs.length;refine e p _ _ (Same.new l _) (aJ.of ze) (λn d=>?_) q.2;obtain⟨j,_,rfl⟩:=ci.mp d;exact Int.natCast_nonneg _
section
variable{K:W.Frag}
theorem Xm:aA ["house","brought","hands","deeds"] ["house"] (zi js):=.of
theorem EV(D:bU K mg "is_small_enough" js)(T:Txt K mg)(o1:Ok P w K mg base "brought_by_scripts" 1 ["scripts"] ll):Ok P w K mg base "is_small_enough" 2 ["house"] (spT jX):=by
 refine vo (k:=1) D Xm ?_;rintro f bn A ah s H vs Q E hr ⟨⟨h,v,rfl,ht,F⟩,k⟩ X;have hu:=jy hr;refine⟨_,zf (zv (i:=1) Xm.nd (ye o1 hr (zc (zm zk (pv 0) (xi T.SCRIPTS)) zd))) (zf (zv (i:=2) Xm.nd (yf (Kl J) J T.sum nL (zc (qf (own:=["calling"]) (cap:=[1]) J (xo (zi js) J J (by decide+kernel) (by decide+kernel) (by decide+kernel) ⟨⟨_,J,.inl J,qw J⟩,trivial⟩) (jk (zm zk (pv 0) (xi T.FIRSTS))) (λ_ _ _ _=>zu (i:=0) (by show(["calling","brought"]:O Str).Nodup;decide+kernel)) (λ_ _ _ _=>wb)
   (λ_ _ _ _=>zm (r:=eL K) zk (vx hu (pv 1) (zm (r:=eL K) zk (pv 0) zg (λ_ _=>rfl))) zg (λ_ _=>rfl))) zd)))
  (zf (zv (i:=3) Xm.nd (yf (Kl J) J T.sum nL (zc (qf (own:=["calling"]) (cap:=[1]) J (xo (zi js) J J (by decide+kernel) (by decide+kernel) (by decide+kernel) ⟨⟨_,J,.inl J,qw J⟩,trivial⟩) (jk (zm zk (pv 0) (xi T.FIRSTS))) (λ_ _ _ _=>zu (i:=0) (by show(["calling","brought"]:O Str).Nodup;decide+kernel)) (λ_ _ _ _=>wb)
   (λ_ _ _ _=>zm (r:=eL K) zk (vx hu (pv 1) (zm (r:=eL K) zk (pv 0) zg (λ_ _=>rfl))) zg (λ_ _=>rfl))) zd)))
  (zh (zp (wr (xj Qq (pv 2) (xi T.MOST_HANDS) (zo _)) (vg (xj Qq (pv 3) (xi T.MOST_DEEDS) (zo _)))))))),?_⟩
 obtain⟨a,xs,us,rfl,sq,ea,aS⟩:=Is.at (K:=K) (i:=3) ht J;refine⟨a,xs,_,_,J,J,sq,ea,h.ss,us,J,aS,F.n20,λs hs d hd=>(F.pl s hs d hd).no,λd H1 s1 ⟨bd,a3,bk,a2⟩=>?_⟩;have bl:=F.f8;have C:∀{G:Hp},Same H1 G->∃m n g,aH K G a m/\cN m ((2:Nat):Int)=some (.ref n)/\G n=some (.tup g)/\g.length<=8/\∀(i:Nat) x,g[i]?=some x->∃b r j p,x=.ref b/\G b=some (.tup (.int ((j:Nat):Int)::r))/\DGet G d (.int (j:Int)) (some (.ref p))/\G p=some (.tup [.int 1,.int ((h.ss.getD ((h.fs.getD i (0,[])).1) []).length:Int)]):=λ{G} U=>by obtain⟨a',m,uf,e',S,a8,a1⟩:=Is.at (K:=K) (i:=2) (ht.mono (s1.trans U)) J;cases e';obtain⟨n,g,rfl,a7,z⟩:=a1;have a5:=z.length;rw[ai]at a5;refine⟨m,n,g,S,a8,a7,by omega,λi x q=>?_⟩;obtain⟨tt,u,ay⟩:=z.get' q;rw[bc]at u;obtain⟨c,hc,rfl⟩:=cu.mp u;obtain⟨p,t,y⟩:=a2 c.1 (bo _) (F.call c (ck hc)).1;obtain⟨b,_,rfl,B,u6,r6,rfl,i6,_⟩:=ay;cases(show u6=.int (c.1:Int)from i6);exact⟨b,r6,c.1,p,J,B,t▸DGet.k (k:=(Sum.inl (c.1:Int):aI)) (U _ _ a3),by rw[show h.fs.getD i (0,[])=c from by rw[cz,hc];rfl];exact U _ _ y⟩
 have l:∀i,(h.ss.getD ((h.fs.getD i (0,[])).1) []).length<=80:=λi=>by rw[cz];cases e:h.ss[(h.fs.getD i (0,[])).1]? with|none=>simp|some s=>exact F.len s (ck e)
 obtain⟨m,n,g,q1,q2,q3,q4,q5⟩:=C (Same.refl _);refine⟨a,m,_,_,J,J,q1,q2,n,J,⟨g,aH.of q3⟩,sU q3 (by omega) (f:=λ_=>1) (M:=1) (λ_=>ae _) (λi x R q kR=>?_) λp1 ap H2 s2 N aw bj=>⟨p1,ap,J,N,aw,by omega,?_⟩⟩
 . obtain⟨b,r,j,p,rfl,B,dg,y⟩:=q5 i x q;exact⟨b,_,0,_,J,J,aH.of B,(show cN (_::r) ((0:Nat):Int)=_ from y4 J),d,_,J,dg,p,_,_,_,J,J,aH.of y,J,kR⟩
 obtain⟨x3,ba,L,ag,Z,o,bb,W⟩:=C s2;refine⟨a,x3,_,_,J,J,ag,Z,ba,J,⟨L,aH.of o⟩,sU o (by omega) (M:=80) l (λi x R q kR=>?_) λp2 ao H3 s3 M av bg=>⟨p2,ao,J,M,av,by omega,?_⟩⟩
 . obtain⟨b,r,j,p,rfl,B,dg,y⟩:=W i x q;exact⟨b,_,0,_,J,J,aH.of B,(show cN (_::r) ((0:Nat):Int)=_ from y4 J),d,_,J,dg,p,_,_,_,J,J,aH.of y,J,kR⟩
 refine⟨_,_,J,J,_,J,?_⟩;rw[ax (by omega)];refine yv ⟨_,_,J,J,?_⟩;rw[ax (by omega)];exact k _ (s1.trans (s2.trans s3))
theorem Dd{o:Option Str}:y9 (iZ o) (Sum.inl 0:aI)=o.map V.str:=by cases o<;>rfl
theorem V5:aA ["deed","had","word"] ["deed","had"] (zi Zs):=.of
theorem Jl(D:bU K mg "is_allowed" Zs):Ok P w K mg base "is_allowed" 1 ["deed","had"] (spT xG):=by
 refine vo (k:=0) D V5 ?_;rintro f ag A N s H vs Q E hr ⟨⟨b,ww,d,dv,G,o,rfl,L,W,B,R⟩,k⟩ X;have hu:=jy hr;refine⟨_,zf (zv (i:=2) V5.nd (zm zk (pv 0) zg)) (zf (yj (zr jp (pv 2) (Wm (zc zx (zc zx zd))) J) (zh (zp (xj jp (Qo hu (pv 1) (zm zk (pv 0) zg) ⟨J,J,J,J⟩) (Wm (zc zx (zc (pv 2) zd))) J))) zn) (zf (yj (zr yz (pv 2) zx (zo _)) (zh (zp (pB (Ap hu (zm zk (pv 0) zg) (pv 1))))) zn) (zf (yj (zr yz (pv 2) zx (zo _)) xz zn) (zh (zp qg))))),?_⟩
 obtain⟨r,U⟩:=Zi d;obtain⟨a,xs,u0,rfl,sq,ea,S⟩:=Is.at (K:=K) (i:=0) (t:=.str (dw d)) (U▸L) J;cases(S);refine⟨a,xs,_,_,J,J,sq,ea,(by decide),λp hp=>⟨p,_,J,.inr (aH.of ze),J,J,_,J,?_⟩⟩;have n:=Same.new hp (.tup [.str "come",.str "go"]);have j:=n _ _ W;generalize upd H p (.tup [.str "come",.str "go"])=Z at n j⊢;have z:og Z G:=.inl ⟨_,.inl j⟩;have t:DGet Z G (.int 0) (o.map V.str):=Dd▸DGet.k (k:=(Sum.inl 0:aI)) j;have fl:∀v,(o.map V.str).getD .non=v->X5 v=true:=λv e=>by subst e;cases o<;>rfl
 have C:∀m,(m="come"\/m="go")->lQ o m=true->jR ((o.map V.str).getD .non) [.str "both",.str m]=true:=λm hm h=>by
  unfold lQ at h;rw[Bool.or_eq_true,decide_eq_true_eq,decide_eq_true_eq]at h;rcases h with rfl|rfl
  . rfl
  . rcases hm with rfl|rfl<;>rfl
 cases d with| com x=>
   obtain⟨rfl,hx⟩:=B;obtain⟨a',c,u,F,g,l,i⟩:=Is.at (K:=K) (i:=1) (t:=.int 0) (L.mono n) J;cases F;cases(show u=.int 0 from i);refine yv ⟨G,J,z,a,c,_,_,J,J,g,l,_,t,(by decide),λM q=>⟨M,_,J,.inr (aH.of ze),fl _ J,J,?_⟩⟩;have e:=C "come" (.inl J) R;show Q (.bl (jR ((o.map V.str).getD .non) [.str "both",.str "come"])) _;rw[e];exact k _ (n.trans (Same.new q _))| goo x=>
   obtain⟨rfl,hx⟩:=B;obtain⟨a',c,u,F,g,l,i⟩:=Is.at (K:=K) (i:=1) (t:=.int 0) (L.mono n) J;cases F;cases(show u=.int 0 from i);refine yv ⟨G,J,z,a,c,_,_,J,J,g,l,_,t,(by decide),λM q=>⟨M,_,J,.inr (aH.of ze),fl _ J,J,?_⟩⟩;have e:=C "go" (.inr J) R;show Q (.bl (jR ((o.map V.str).getD .non) [.str "both",.str "go"])) _;rw[e];exact k _ (n.trans (Same.new q _))| lea x=>
   obtain⟨rfl,hx⟩:=B;obtain⟨a',c,u,F,g,l,i⟩:=Is.at (K:=K) (i:=1) (t:=.int 0) (L.mono n) J;cases F;cases(show u=.int 0 from i);refine yd ⟨J,_,J,yv ⟨a,c,_,_,J,J,g,l,G,_,J,t,?_⟩⟩;have e:(o.map V.str).isSome=true:=by have:o.isSome=true:=R;cases o with|none=>cases this|some m=>rfl
   rw[e];exact k Z n|beg x y=>exact B.elim|say x=>exact B.elim|_=>exact yd ⟨J,_,J,yd ⟨J,_,J,yd (k _ n)⟩⟩
theorem K1:aA ["scripts","calling","had","deed"] ["scripts","calling"] (zi pE):=.of
theorem Be(D:bU K mg "fits" pE)(T:Txt K mg)(o1:Ok P w K mg base "is_allowed" 1 ["deed","had"] (spT xG)):Ok P w K mg base "fits" 2 ["scripts","calling"] (spT xC):=by
 refine vo (k:=1) D K1 ?_;rintro f b2 A bj s H vs Q E hr ⟨⟨b,ww,C,sv,c,cv,rfl,hs,ap,av,hm,hN,hg⟩,k⟩ X;refine⟨_,zf (zv (i:=2) K1.nd (xk (DY J) J T.dict Vu (zc (zm zk (pv 1) zg) zd))) (zf (wy PassesOwn.never J (jk (zm zk (pv 0) (zm zk (pv 1) zg))) (zu (i:=3) K1.nd) (zf (yj (xx (yy (ye o1 hr (zc (pv 3) (zc (pv 2) zd))))) xz zn) (zf (yj (zr yz (zm zk (pv 3) zg) zx (zo _)) (zh (xn (Ci (pv 2) (zm zk (pv 3) zg) ⟨J,J,J,J⟩))) zn) (zh (yj (PW.pt (jj (zr yz (zm zk (pv 3) zg) zx (zo _)) (jn (xx (yy CC))))) xz zn)))))
  (zh (zp qg))),?_⟩
 obtain⟨ac,xc,um,rfl,ba,bM,bn⟩:=Is.at (K:=K) (i:=1) (t:=lT c.2) ap J;obtain⟨am,xm,rfl,bK,n⟩:=bn;have hb:∃(bs:List Addr)(j:List (aI×V)),xm=bs.map V.ref/\Paired (λ(b:Addr) (kv:aI×V)=>H b=some (.tup [kV kv.1,kv.2])) bs j/\Yf [] j=iZ (Jp c.2):=by
  rcases hm with e|⟨m,e,_,_⟩
  . rw[e]at n⊢;cases(show xm=[]from n);exact⟨[],[],J,.nil,J⟩
  . rw[e]at n⊢;obtain⟨u1,r1,rfl,i1,e1⟩:=n;cases(show r1=[]from e1);obtain⟨bb,ys,rfl,bJ,u2,r2,rfl,i2,u3,r3,rfl,i3,e3⟩:=i1;cases(show u2=.int 0 from i2);cases(show u3=.str m from i3);cases(show r3=[]from e3);exact⟨[bb],[(Sum.inl 0,.str m)],J,.cons bJ .nil,J⟩
 obtain⟨bs,j,rfl,bI,bB⟩:=hb;refine⟨ac,xc,_,_,J,J,ba,bM,am,bs,j,J,bK,bI,λp Z=>?_⟩;rw[bB];have F:=Same.new Z (.dK (iZ (Jp c.2)));have ao:upd H p (.dK (iZ (Jp c.2))) p=some (.dK (iZ (Jp c.2))):=ze;generalize upd H p (.dK (iZ (Jp c.2)))=H0 at F ao⊢;obtain⟨b4,a1,un,e',M,aw,bl⟩:=Is.at (K:=K) (i:=0) (t:=.int (c.1:Int)) (ap.mono F) J;cases e';cases(show un=.int (c.1:Int)from bl);have U:C[c.1]?=some C[c.1]:=bi av;rw[cz,U]at hg;obtain⟨as,aS,us,rfl,a8,bL,bk⟩:=Is.at (K:=K) (i:=c.1) (t:=eS C[c.1]) hs (by rw[bc,U];rfl);obtain⟨ad,xd,rfl,B,bC⟩:=bk;have bE:eP (Jp c.2) C[c.1]=true:=hg;have R:∀{G:Hp}{o:HO},Same H G->Same H (upd G p o):=λ{G o} t b u e=>by rw[upd_ne (zj e Z)];exact t b u e
 refine⟨ac,a1,_,_,J,J,M,aw,as,aS,_,_,J,J,(a8.elim (λh=>.inl (h.elim (λz=>.inl (F _ _ z)) (λ⟨o,z⟩=>.inr ⟨o,F _ _ z⟩))) .inr),bL,ad,J,⟨xd,aH.of (F _ _ B)⟩,?_⟩;refine X4 (K:=K) (a:=ad) (xs:=xd) (λi σ H'=>∃o x3,σ=[some (.ref as),some (.ref ac),some (.ref p),x3]/\Same H H'/\H' p=some (.dK (iZ o))/\eP o (C[c.1].drop i)=true)
  ⟨_,none,J,F,ao,bE⟩ (λi σ H' _ ⟨_,_,_,t,_⟩=>aH.of (t _ _ B)) ?_ (λσ G ⟨o,x3,e,t,_⟩=>by subst e;exact k G t)
 rintro i x σ G hx ⟨o,x3,rfl,t,v,W⟩;obtain⟨tt,S,l⟩:=bC.get' hx;rw[bc]at S;obtain⟨d,ah,rfl⟩:=cu.mp S;have hn:=hN _ (List.getElem_mem av) d (ck ah);obtain⟨bD,ag⟩:=c9.mp ah;rw[List.drop_eq_getElem_cons bD,ag]at W;obtain⟨ga,gn⟩:jW o d=true/\eP (iX o d) (C[c.1].drop (i+1))=true:=by
  have q:(jW o d && eP (iX o d) (C[c.1].drop (i+1)))=true:=W
  rwa[ca]at q
 refine⟨⟨b,ww,d,x,p,o,J,l.mono t,v,hn,ga⟩,λH2 s2=>⟨_,J,yd ?_⟩⟩;have g:=t.trans s2;have a:=s2 _ _ v;obtain⟨r,bx⟩:=Zi d;obtain⟨a5,L,u5,rfl,N,ay,bw⟩:=Is.at (K:=K) (i:=0) (t:=.str (dw d)) (bx▸l.mono g) J;cases(show u5=.str (dw d)from bw);refine⟨a5,L,_,_,J,J,N,ay,J,_,J,?_⟩;cases d with|beg x y=>exact hn.elim|say x=>exact hn.elim| lea x=>
   obtain⟨rfl,b1⟩:=hn;obtain⟨a6,a3,u6,e6,bg,b0,bt⟩:=Is.at (K:=K) (i:=1) (t:=.int 0) (l.mono g) J;cases e6;cases(show u6=.int 0 from bt);obtain⟨m,rfl⟩:∃m,o=some m:=by have:o.isSome=true:=ga;cases o with|none=>cases this|some m=>exact⟨m,J⟩
   have s3:Same H (upd H2 p (.dK [])):=R g;obtain⟨a7,a2,u7,e7,bd,bN,bq⟩:=Is.at (K:=K) (i:=0) (t:=.str "leave") (l.mono s3) J;cases e7;cases(show u7=.str "leave" from bq);exact yv ⟨p,J,.inl ⟨_,.inl a⟩,a5,a3,_,_,J,J,bg,b0,_,Sum.inl 0,_,a,J,J,a5,a2,_,_,J,J,bd,bN,J,_,J,yd (yd ⟨none,_,J,s3,ze,gn⟩)⟩|_=>exact yd ⟨a5,L,_,_,J,J,N,ay,J,_,J,yd (yd ⟨_,_,J,g,a,gn⟩)⟩
theorem Cv:aA ["thing"] ["thing"] (zi Zq):=.of
theorem EU(D:bU K mg "is_house" Zq)(T:Txt K mg)(o1:Ok P w K mg base "is_well_formed" 9 ["thing"] (spT jX))(Z:Ok P w K mg base "is_small_enough" 2 ["house"] (spT jX))(W:Ok P w K mg base "fits" 2 ["scripts","calling"] (spT xC)):Ok P w K mg base "is_house" 22 ["thing"] (spT jX):=by
 refine vo (k:=21) D Cv ?_;rintro f ah A n s H vs Q E r ⟨⟨h,v,rfl,j,F⟩,k⟩ X;refine⟨_,zf (yj (PW.pt (Yb (xx (yy (ye o1 (r.mono (by decide)) (zc (pv 0) zd)))) (jv (xx (yy (ye Z (r.mono (by decide)) (zc (pv 0) zd))))))) (zh (zp qg)) zn) (zh (zp (yf (je J) J T.all Yl (zc (qf (own:=["calling"]) (cap:=[0]) J (xo (zi Zq) J J (by decide+kernel) (by decide+kernel) (by decide+kernel) ⟨⟨_,J,.inl J,qw J⟩,trivial⟩) (jk (zm zk (pv 0) (xi T.FIRSTS))) (λ_ _ _ _=>zu (i:=0) (by show(["calling","thing"]:O Str).Nodup;decide+kernel)) (λ_ _ _ _=>wb)
   (λ_ _ _ _=>ye W (r.mono (by decide)) (zc (zm (r:=eL K) zk (pv 1) (xi T.SCRIPTS) (λ_ _=>rfl)) (zc (pv 0) zd)))) zd)))),?_⟩
 refine⟨⟨h,v,J,j,F⟩,λH1 z=>⟨_,J,yd ⟨⟨h,v,J,j.mono z,F⟩,λH2 S=>⟨_,J,yd ?_⟩⟩⟩⟩;have b:=z.trans S;obtain⟨a,G,uf,rfl,N,ea,q⟩:=Is.at (i:=2) (j.mono b) J;obtain⟨af,L,rfl,g,e⟩:=q;have t:=e.length;rw[ai]at t;have ag:=F.f8;refine⟨a,G,_,_,J,J,N,ea,af,J,⟨L,aH.of g⟩,Vp g (by omega) (λi x C R hx y kk=>?_) λC U=>k C (b.trans U)⟩;obtain⟨tt,d,o⟩:=e.get' hx;rw[bc]at d;obtain⟨c,B,rfl⟩:=cu.mp d;obtain⟨c1,c2⟩:=F.call c (ck B);obtain⟨a',l,M,e',m,u,p⟩:=Is.at (i:=3) (j.mono (b.trans y)) J;cases e';exact⟨a,l,_,_,J,J,m,u,⟨h.b,h.w,h.ss,M,c,x,J,p,o.mono y,c1,c2,F.pl,F.fit c (ck B)⟩,kk⟩
end
end My
namespace My
structure lD(A D:Type) where
 scr:A->List D
 bg:A->Nat->Option A
 ra:D->Option (Nat×Int)
 aw:D->Option (Nat×Int)
section
variable{A D:Type}[DecidableEq A]
noncomputable def iF(l:List (A×Nat))(h:A):Nat:=match l with|[]=>0|(g,n)::r=>if g=h then n else iF r h
noncomputable def oo(l:List (A×Nat))(h:A)(n:Nat):List (A×Nat):=match l with|[]=>[(h,n)]|(g,m)::r=>if g=h then(g,n)::r else(g,m)::oo r h n
noncomputable def Wb(l:List (A×Nat)):List A:=l.map (·.1)
noncomputable def xQ(l:List (A×Nat)):Nat:=(l.map (·.2)).sum
theorem ut{f:A->Nat}:∀{l all:List A},l.Nodup->(∀x∈l,x∈all)->(l.map f).sum<=(all.map f).sum
 |[],_,_,_=>bo _
 | x::r,all,b,d=>by
   have a:=cr.mp b;have c:=d x bv;have q:(r.map f).sum<=((all.erase x).map f).sum:=ut a.2 λy e=>by grind
   have p:=(List.perm_cons_erase c).map f
   grind
noncomputable def Z5(l:List (Nat×List A))(b:Nat):List A:=match l with|[]=>[]|(c,hs)::r=>if c=b then hs else Z5 r b
noncomputable def j7(l:List (Nat×List A))(b:Nat):List (Nat×List A):=match l with|[]=>[]|(c,hs)::r=>if c=b then r else(c,hs)::j7 r b
noncomputable def j9(l:List (Nat×List A))(b:Nat)(h:A):List (Nat×List A):=match l with|[]=>[(b,[h])]|(c,hs)::r=>if c=b then(c,hs++[h])::r else(c,hs)::j9 r b h
noncomputable def ko(l:List (Nat×List A)):Nat:=(l.map (·.2.length)).sum
def iG(l:List (Nat×List A))(p:A->Prop):Prop:=∀r∈l,∀h∈r.2,p h
theorem wE{b:Nat}:∀{l:List (Nat×List A)},ko (j7 l b)+(Z5 l b).length=ko l|[]=>rfl| (c,a)::r=>by unfold j7 Z5;by_cases e:c=b;rw[if_pos e,if_pos e];show ko r+a.length=a.length+ko r;omega;rw[if_neg e,if_neg e];have q:=wE (b:=b) (l:=r);show a.length+ko (j7 r b)+_=a.length+ko r;omega
structure WS(A:Type) where
 done:List (A×Nat)
 sums:List Int
 ready:List A
 wait:List (Nat×List A)
 stop:List A
 wov:List A
variable(M:lD A D)
noncomputable def ly(s:WS A)(h:A):Option D:=(M.scr h)[iF s.done h]?
noncomputable def xW(s:WS A)(h:A):Bool:=match ly M s h with|none=>false| some d=>match M.aw d with|none=>true|some (b,m)=>decide (m<=s.sums.getD b 0)
noncomputable def mS(l:List (A×Nat))(g:Option A):List (A×Nat):=match g with|none=>l|some g=>oo l g 0
noncomputable def Ax(l:List Int)(r:Option (Nat×Int)):List Int:=match r with|none=>l|some (b,k)=>l.set b (l.getD b 0+k)
noncomputable def zQ(s:WS A)(h:A):List (A×Nat):=mS (oo s.done h (iF s.done h+1)) (M.bg h (iF s.done h))
structure Wv(all:List A)(s:WS A):Prop where
 nd:(Wb s.done).Nodup
 sub:∀h∈Wb s.done,h∈all
 rdy:∀h∈s.ready,h∈Wb s.done
 wai:iG s.wait (· ∈Wb s.done)
 low:∀h∈Wb s.done,iF s.done h<=(M.scr h).length
 bgn:∀h g p,M.bg h p=some g->g∈Wb s.done->h∈Wb s.done/\p<iF s.done h
 len:s.ready.length+ko s.wait+s.stop.length<=s.done.length
 wov:s.wov.length=xQ s.done
 cnt:∀h,s.wov.count h=iF s.done h
structure Fy(all:List A):Prop where
 inj:∀h p h' p' g,M.bg h p=some g->M.bg h' p'=some g->h=h'/\p=p'
 new:∀h p g,M.bg h p=some g->g∈all/\g≠h
 nd:all.Nodup
noncomputable def tot(all:List A):Nat:=(all.map λh=>(M.scr h).length).sum
noncomputable def gZ(all:List A)(s:WS A):Nat:=(tot M all-s.wov.length)*(all.length+1)+s.ready.length
variable{M}
theorem Q7(l:O A)(h x:A):(l++[h]).count x=l.count x+if h=x then 1 else 0:=by grind
end
end My
namespace My
section
variable{A D:Type}[DecidableEq A]
noncomputable def wx(l:List (Nat×List A)):List A:=l.flatMap (·.2)
theorem tK{l:O (Nat×O A)}{h:A}:h∈wx l↔∃r∈l,h∈r.2:=List.mem_flatMap
theorem tH{b:Nat}:∀(l:List (Nat×List A)),(wx l).Perm (Z5 l b++wx (j7 l b))
 |[]=>.refl _
 | (c,a)::r=>by
   unfold Z5 j7;by_cases e:c=b
   . rw[if_pos e,if_pos e];exact .refl _
   . rw[if_neg e,if_neg e];show(a++wx r).Perm (Z5 r b++(a++wx (j7 r b)));refine((tH (b:=b) r).append_left a).trans ?_;rw[<-List.append_assoc,<-List.append_assoc];exact List.perm_append_comm.append_right _
theorem Vv{b:Nat}{h:A}:∀(l:List (Nat×List A)),(wx (j9 l b h)).Perm (h::wx l)
 |[]=>.refl _
 | (c,a)::r=>by
   unfold j9;by_cases e:c=b
   . rw[if_pos e];show(a++[h]++wx r).Perm (h::(a++wx r));rw[List.append_assoc];exact List.perm_middle
   . rw[if_neg e];show(a++wx (j9 r b h)).Perm (h::(a++wx r));exact((Vv r).append_left a).trans List.perm_middle
theorem tF{b:Nat}:∀{l:List (Nat×List A)},(l.map (·.1)).Nodup->((j7 l b).map (·.1)).Nodup/\∀r∈j7 l b,r∈l/\r.1≠b
 |[],_=>⟨List.nodup_nil,λ_ h=>nomatch h⟩
 | (c, m)::q,j=>by
   obtain⟨i,g⟩:=cr.mp j;unfold j7;by_cases e:c=b
   . rw[if_pos e];exact⟨g,λr a=>⟨br _ a,λz=>i (by show c∈_;rw[e,<-z];exact List.mem_map_of_mem (f:=(·.1)) a)⟩⟩
   . rw[if_neg e];obtain⟨k,d⟩:=tF (b:=b) g;refine⟨cr.mpr ⟨λz=>?_,k⟩,λr a=>?_⟩
     . obtain⟨r,a,f⟩:=ci.mp z;exact i (by show c∈_;have f:r.1=c:=f;rw[<-f];exact List.mem_map_of_mem (f:=(·.1)) (d r a).1)
     . rcases ak.mp a with z|z
       . rw[z];exact⟨bv,e⟩
       . exact⟨br _ (d r z).1,(d r z).2⟩
theorem tE{b:Nat}{h:A}:∀{l:List (Nat×List A)},(l.map (·.1)).Nodup->((j9 l b h).map (·.1)).Nodup/\(∀k∈(j9 l b h).map (·.1),k=b\/k∈l.map (·.1))/\∀r∈j9 l b h,∀x∈r.2,(x=h/\r.1=b)\/∃q∈l,q.1=r.1/\x∈q.2
 |[],_=>⟨by simp[j9],by simp[j9],by simp[j9]⟩
 | (c, s)::q,j=>by
   obtain⟨g,f⟩:=cr.mp j;unfold j9;by_cases e:c=b
   . rw[if_pos e];refine⟨cr.mpr ⟨g,f⟩,λk hk=>.inr hk,λr d x a=>?_⟩;rcases ak.mp d with z|z
     . rw[z]at a⊢;rcases dc.mp a with y|y
       . exact .inr ⟨_,bv,J,y⟩
       . exact .inl ⟨aa.mp y,e⟩
     . exact .inr ⟨_,br _ z,J,a⟩
   . rw[if_neg e];obtain⟨n,i,m⟩:=tE (b:=b) (h:=h) f;refine⟨cr.mpr ⟨λz=>?_,n⟩,λk hk=>?_,λr d x a=>?_⟩
     . rcases i _ z with y|y
       . exact e y
       . exact g y
     . rcases ak.mp hk with z|z
       . exact .inr (by rw[z];exact bv)
       . exact(i k z).imp id (br _)
     . rcases ak.mp d with z|z
       . rw[z]at a⊢;exact .inr ⟨_,bv,J,a⟩
       . exact(m r z x a).imp id λ⟨y,o,p⟩=>⟨y,br _ o,p⟩
variable(M:lD A D)
inductive Lg(held:A->Nat->Bool)(d0:List (A×Nat))(s0:List Int):List A->List (A×Nat)->List Int->Prop|nil:Lg held d0 s0 [] d0 s0|snoc:∀{s:WS A}{h:A}{x:D},Lg held d0 s0 s.wov s.done s.sums->h∈Wb s.done->xW M s h=true->ly M s h=some x->held h (iF s.done h)=false->Lg held d0 s0 (s.wov++[h]) (zQ M s h) (Ax s.sums (M.ra x))
structure WI(held:A->Nat->Bool)(d0:List (A×Nat))(s0:List Int)(s:WS A):Prop where
 one:(s.ready++(wx s.wait++s.stop)).Nodup
 key:(s.wait.map (·.1)).Nodup
 cov:∀h∈Wb s.done,h∈s.ready\/h∈wx s.wait\/h∈s.stop\/ly M s h=none
 wt:∀r∈s.wait,∀h∈r.2,∃x m,ly M s h=some x/\M.aw x=some (r.1,m)/\¬m<=s.sums.getD r.1 0
 st:∀h∈s.stop,held h (iF s.done h)=true
 lg:Lg M held d0 s0 s.wov s.done s.sums
end
end My
namespace My
variable{s0:List Int}
section
variable{A D:Type}[DecidableEq A]{M:lD A D}{held:A->Nat->Bool}{d0:List (A×Nat)}
end
end My
namespace My
variable{r ws:List Nat}{i:Nat}
structure HW where
 n:Nat
 S:Nat->yg
 cm:Nat->Bool
noncomputable def jl:aF->Bool|.com _=>true|_=>false
noncomputable def Va:aF->Bool|.goo _=>true|_=>false
noncomputable def jd:aF->Bool|.lea _=>true|_=>false
noncomputable def vy(s:yg)(p:Nat):Nat:=(s.take p).countP jl
noncomputable def dC(s:yg)(p:Nat):Nat:=(s.take p).countP Va
noncomputable def Zg(s:yg)(p:Nat):Bool:=(s.take p).any jd
noncomputable def Wz(b:Nat):aF->Int|.rai x k=>if x.toNat=b then k else 0|_=>0
noncomputable def cM(s:yg)(p b:Nat):Int:=((s.take p).map (Wz b)).sum
noncomputable def Ze(s:yg)(p:Nat):aF->Option (Nat×Int)|.awa b m=>some (b.toNat,m)|.goo _=>some (1000,(dC s p:Int)+1)|_=>none
noncomputable def aP(c:Nat->Nat)(i:Nat):Nat->Nat:=λj=>if j=i then c i+1 else c j
variable(h:HW)
noncomputable def jo(c:Nat->Nat)(i:Nat):Bool:=h.cm i && decide (c i<(h.S i).length) && !(Zg (h.S i) (c i))
noncomputable def bP(c:Nat->Nat):List Nat:=(List.range h.n).filter (jo h c)
noncomputable def cJ(c:Nat->Nat):Option Int:=L2.dR none ((bP h c).map λi=>(vy (h.S i) (c i):Int))
noncomputable def dM(c:Nat->Nat)(b:Nat):Int:=((List.range h.n).map λi=>cM (h.S i) (c i) b).sum
noncomputable def Y0(c:Nat->Nat)(g:Nat)(k:Int):Bool:=if g=1000 then(match cJ h c with|none=>true|some l=>decide (l≥k))else decide (dM h c g≥k)
noncomputable def qd(c:Nat->Nat)(i:Nat):Bool:=match(h.S i)[c i]? with|none=>false| some d=>match Ze (h.S i) (c i) d with|none=>true|some g=>Y0 h c g.1 g.2
noncomputable def Wl:aF->List Nat|.rai b _=>[b.toNat]|_=>[]
noncomputable def eV(c:Nat->Nat)(i:Nat)(d:aF):List Nat:=Wl d++if cJ h (aP c i)=cJ h c then[]else[1000]
structure Ws where
 c:Nat->Nat
 rdy:List Nat
 wai:List (Nat×List Nat)
 wov:List Nat
noncomputable def popG:List Nat->List Nat->List (Nat×List Nat)->List Nat×List (Nat×List Nat)|[],r,w=>(r,w)|g::gs,r,w=>popG gs (r++Z5 w g) (j7 w g)
noncomputable def qC(s:Ws)(i:Nat)(d:aF):Ws:=⟨aP s.c i,(popG (eV h s.c i d) s.rdy s.wai).1++[i],(popG (eV h s.c i d) s.rdy s.wai).2,s.wov++[i]⟩
noncomputable def fP(s:Ws)(i:Nat):Ws:=match(h.S i)[s.c i]? with|none=>s| some d=>if qd h s.c i then qC h s i d else match Ze (h.S i) (s.c i) d with|some g=>{s with wai:=j9 s.wai g.1 i}|none=>s
inductive dF:List Nat->(Nat->Nat)->Prop|nil:dF [] (λ_=>0)|snoc:∀{ws c i},dF ws c->i<h.n->qd h c i=true->dF (ws++[i]) (aP c i)
structure Wi(s:Ws):Prop where
 lg:dF h s.wov s.c
 lt:∀i,i∈s.rdy\/i∈wx s.wai->i<h.n
 one:(s.rdy++wx s.wai).Nodup
 key:(s.wai.map (·.1)).Nodup
 cov:∀i,i<h.n->i∈s.rdy\/i∈wx s.wai\/(h.S i)[s.c i]?=none
 wt:∀r∈s.wai,∀i∈r.2,∃d k,(h.S i)[s.c i]?=some d/\Ze (h.S i) (s.c i) d=some (r.1,k)/\Y0 h s.c r.1 k=false
variable{h}
theorem Qh:∀{gs:List Nat}{r:List Nat}{w:List (Nat×List Nat)},((popG gs r w).1++wx (popG gs r w).2).Perm (r++wx w)|[],_,_=>.refl _| g::gs,r,w=>by have q:=Qh (gs:=gs) (r:=r++Z5 w g) (w:=j7 w g);rw[List.append_assoc]at q;exact q.trans ((tH w).symm.append_left r)
theorem uk:∀{gs:List Nat}{r:List Nat}{w:List (Nat×List Nat)},(w.map (·.1)).Nodup->((popG gs r w).2.map (·.1)).Nodup/\∀q∈(popG gs r w).2,q∈w/\q.1 ∉ gs|[],_,w,k=>⟨k,λq a=>⟨a,d7⟩⟩| g::gs,r,w,k=>by obtain⟨j,i⟩:=tF (b:=g) k;obtain⟨h,f⟩:=uk (gs:=gs) (r:=r++Z5 w g) j;refine⟨h,λq a=>?_⟩;obtain⟨e,d⟩:=f q a;obtain⟨c,b⟩:=i q e;exact⟨c,λz=>(ak.mp z).elim b d⟩
theorem dF.low{c:Nat->Nat}(L:dF h ws c):∀i,c i<=(h.S i).length/\(h.n<=i->c i=0):=by
 induction L with|nil=>exact λi=>⟨bo _,λ_=>rfl⟩| snoc L f a b=>
   rename_i ws c i
   intro j;unfold aP;by_cases e:j=i
   . subst e;rw[if_pos J];refine⟨?_,λz=>by omega⟩;unfold qd at a;cases q:(h.S j)[c j]? with|none=>rw[q]at a;cases a|some d=>exact(c9.mp q).1
   . rw[if_neg e];exact b j
theorem dF.cnt{c:Nat->Nat}(L:dF h ws c):∀i,ws.count i=c i:=by
 induction L with|nil=>exact λi=>rfl| snoc L b d a=>
   intro j;rw[Q7,a];unfold aP
   rename_i i
   by_cases e:i=j
   . rw[if_pos e,if_pos e.symm,e]
   . rw[if_neg e,if_neg λz=>e z.symm];rfl
noncomputable def Z6(c:Nat->Nat)(n:Nat):Nat:=((List.range n).map c).sum
theorem uE{c:Nat->Nat}{i:Nat}:∀{n:Nat},Z6 (aP c i) n=Z6 c n+if i<n then 1 else 0
 |0=>rfl
 | n +1=>by
   have a:=uE (c:=c) (i:=i) (n:=n);unfold Z6 at a⊢;rw[List.range_succ,be,be,List.sum_append,List.sum_append,a];simp only[c6,List.map_nil,List.sum_cons,List.sum_nil];unfold aP;by_cases e:n=i
   . subst e;rw[if_pos J,if_neg (cp _),if_pos (dz _)];omega
   . rw[if_neg e];by_cases q:i<n
     . rw[if_pos q,if_pos (by omega)];omega
     . rw[if_neg q,if_neg (by omega)];omega
theorem dF.len{c:Nat->Nat}(L:dF h ws c):ws.length=Z6 c h.n:=by
 induction L with| nil=>
   have e:∀l:List Nat,(l.map λ_=>0).sum=0:=λl=>by induction l with|nil=>rfl|cons a r b=>rw[c6,List.sum_cons,b]
   exact(e _).symm| snoc L d f b=>rw[cn,b,uE,if_pos d];rfl
theorem uD{c f:Nat->Nat}(a:∀i,c i<=f i):∀n,Z6 c n<=Z6 f n|0=>ae _| n+1=>by have:=uD a n;have:=a n;unfold Z6 at *;rw[List.range_succ,be,be,List.sum_append,List.sum_append];simp only[c6,List.map_nil,List.sum_cons,List.sum_nil];omega
variable(h)
noncomputable def Kw:Nat:=Z6 (λi=>(h.S i).length) h.n
noncomputable def mO(s:Ws):Nat:=(Kw h-s.wov.length)*(h.n+1)+s.rdy.length
variable{h}
theorem dF.most{c:Nat->Nat}(L:dF h ws c):ws.length<=Kw h:=by rw[L.len];exact uD (λi=>(L.low i).1) _
theorem pT{c:Nat->Nat}{b:Nat}{d:aF}(a:(h.S i)[c i]?=some d)(f:b ∉ Wl d):dM h (aP c i) b=dM h c b:=by
 unfold dM;congr 1;refine List.map_congr_left λj _=>?_;unfold aP;by_cases e:j=i
 . subst e;rw[if_pos J];unfold cM;rw[cy,a,be,List.sum_append];have:Wz b d=0:=by cases d with|rai x k=>exact if_neg λz=>f (by rw[<-z];exact aa.mpr J)|_=>rfl
   simp[this]
 . rw[if_neg e]
theorem Ka:∀{n:Nat}{l:O Nat},l.Nodup->(∀i∈l,i<n)->l.length<=n:=λ{n l} b f=>by
 have q:=ut (f:=λ_=>1) (all:=List.range n) b λx d=>bp.mpr (f x d);have e:∀l:O Nat,(l.map λ_=>1).sum=l.length:=λl=>by induction l with|nil=>rfl|cons a r c=>rw[c6,List.sum_cons,c,dm];omega
 rw[e,e,c8]at q;exact q
theorem Wi.turn{s:Ws}(W:Wi h s)(l:s.rdy=r++[i]):Wi h (fP h {s with rdy:=r} i)/\mO h (fP h {s with rdy:=r} i)<mO h s:=by
 have o:=W.one;rw[l]at o;have B:(i::(r++wx s.wai)).Nodup:=(List.Perm.nodup_iff (by rw[List.append_assoc];exact List.perm_middle)).mp o;obtain⟨hn,A⟩:=cr.mp B;have X:i ∉ wx s.wai:=λz=>hn (cw _ z);have F:i<h.n:=W.lt i (.inl (by rw[l];simp));have b:∀j,j∈r\/j∈wx s.wai->j<h.n:=λj a=>W.lt j (a.imp (λz=>by rw[l];exact ef _ z) id);have N:s.rdy.length=r.length+1:=by rw[l];simp
 unfold fP;cases e:(h.S i)[s.c i]? with
 | none=>
   simp only[e];refine⟨⟨W.lg,b,A,W.key,λj a=>?_,W.wt⟩,?_⟩
   . rcases W.cov j a with c|c
     . rw[l]at c;rcases dc.mp c with y|y
       . exact .inl y
       . rw[aa.mp y];exact .inr (.inr e)
     . exact .inr c
   . unfold mO;simp only[N];omega
 | some d =>
   simp only[e];by_cases m:qd h s.c i=true
   . simp only[m,if_true];have L:dF h (s.wov++[i]) (aP s.c i):=W.lg.snoc F m;have t:=Qh (gs:=eV h s.c i d) (r:=r) (w:=s.wai);obtain⟨S,R⟩:=uk (gs:=eV h s.c i d) (r:=r) W.key;have f:((popG (eV h s.c i d) r s.wai).1++[i]++wx (popG (eV h s.c i d) r s.wai).2).Nodup:=by refine(List.Perm.nodup_iff ?_).mp B;rw[List.append_assoc];exact(t.symm.cons i).trans List.perm_middle.symm
     have lt':∀j,j∈(popG (eV h s.c i d) r s.wai).1++[i]\/j∈wx (popG (eV h s.c i d) r s.wai).2->j<h.n:=λj a=>by
      have:j=i\/j∈r++wx s.wai:=by
       rcases a with z|z
       . rcases dc.mp z with y|y
         . exact .inr (t.mem_iff.mp (ef _ y))
         . exact .inl (aa.mp y)
       . exact .inr (t.mem_iff.mp (cw _ z))
      rcases this with z|z
      . rw[z];exact F
      . exact b j (dc.mp z)
     refine⟨⟨L,lt',f,S,λj a=>?_,λq D j a=>?_⟩,?_⟩
     . by_cases n:j=i
       . exact .inl (cw _ (by rw[n];exact aa.mpr J))
       . have U:(h.S j)[aP s.c i j]?=(h.S j)[s.c j]?:=by unfold aP;rw[if_neg n]
         have:j∈r++wx s.wai\/(h.S j)[s.c j]?=none:=by
          rcases W.cov j a with c|c|c
          . rw[l]at c;rcases dc.mp c with y|y
            . exact .inl (ef _ y)
            . exact absurd (aa.mp y) n
          . exact .inl (cw _ c)
          . exact .inr c
         rcases this with z|z
         . rcases dc.mp (t.mem_iff.mpr z)with y|y
           . exact .inl (ef _ y)
           . exact .inr (.inl y)
         . exact .inr (.inr (U.trans z))
     . obtain⟨M,K⟩:=R q D;obtain⟨u,k,x,w,v⟩:=W.wt q M j a;have n:j≠i:=λz=>X (by rw[<-z];exact tK.mpr ⟨q,M,a⟩);have P:aP s.c i j=s.c j:=if_neg n;refine⟨u,k,by show(h.S j)[aP s.c i j]?=_;rw[P];exact x,by show Ze (h.S j) (aP s.c i j) u=_;rw[P];exact w,?_⟩;show Y0 h (aP s.c i) q.1 k=false;rw[<-v];unfold Y0;by_cases g:q.1=1000
       . rw[if_pos g,if_pos g];have:cJ h (aP s.c i)=cJ h s.c:=by refine Classical.byContradiction λz=>K ?_;unfold eV;rw[if_neg z,g];exact cw _ (aa.mpr J)
         rw[this]
       . rw[if_neg g,if_neg g,pT e λz=>K (ef _ z)]
     . have C:=L.most;rw[cn]at C;have C:s.wov.length+1<=Kw h:=C;have m2:=Ka (List.nodup_append.mp f).1 λj a=>lt' j (.inl a);show(Kw h-(s.wov++[i]).length)*(h.n+1)+((popG (eV h s.c i d) r s.wai).1++[i]).length<(Kw h-s.wov.length)*(h.n+1)+s.rdy.length;have m3:(s.wov++[i]).length=s.wov.length+1:=by simp
       obtain⟨k,hk⟩:∃k,Kw h-s.wov.length=k+1:=⟨Kw h-s.wov.length-1,by omega⟩
       have E:Kw h-(s.wov.length+1)=k:=by omega
       rw[m3,hk,E,Nat.add_mul];omega
   . simp only[m,if_false,Bool.false_eq_true];obtain⟨g,G⟩:∃g,Ze (h.S i) (s.c i) d=some g:=by
      cases q:Ze (h.S i) (s.c i) d with
      |none=>unfold qd at m;simp[e,q]at m
      |some g=>exact⟨g,J⟩
     have Z:Y0 h s.c g.1 g.2=false:=by unfold qd at m;simpa[e,G]using m
     simp only[G];obtain⟨k1,k2,k3⟩:=tE (b:=g.1) (h:=i) W.key;refine⟨⟨W.lg,λj a=>?_,?_,k1,λj a=>?_,λq D j a=>?_⟩,?_⟩
     . rcases a with z|z
       . exact b j (.inl z)
       . rcases ak.mp ((Vv s.wai).mem_iff.mp z)with y|y
         . rw[y];exact F
         . exact b j (.inr y)
     . refine(List.Perm.nodup_iff ?_).mp B;exact List.perm_middle.symm.trans (List.Perm.append_left r (Vv s.wai).symm)
     . rcases W.cov j a with y|y|y
       . rw[l]at y;rcases dc.mp y with z|z
         . exact .inl z
         . exact .inr (.inl ((Vv s.wai).mem_iff.mpr (by rw[aa.mp z];exact bv)))
       . exact .inr (.inl ((Vv s.wai).mem_iff.mpr (br _ y)))
       . exact .inr (.inr y)
     . rcases k3 q D j a with⟨rfl,z⟩|⟨p,hp,H,Q⟩
       . exact⟨d,g.2,e,by rw[z];exact G,by rw[z];exact Z⟩
       . obtain⟨u,k,x,w,v⟩:=W.wt p hp j Q;exact⟨u,k,x,by rw[<-H];exact w,by rw[<-H];exact v⟩
     . unfold mO;simp only[N];omega
theorem Wi.fin{s:Ws}(W:Wi h s)(e:s.rdy=[])(c:i<h.n):qd h s.c i=false:=by
 rcases W.cov i c with y|y|y
 . rw[e]at y;nomatch y
 . obtain⟨r,b,a⟩:=tK.mp y;obtain⟨d,k,j,g,f⟩:=W.wt r b i a;unfold qd;rw[j];simp only[g];exact f
 . unfold qd;rw[y]
theorem Wi.first:Wi h ⟨λ_=>0,List.range h.n,[],[]⟩:=⟨.nil,λi a=>a.elim bp.mp (λz=>nomatch z),by show(List.range h.n++[]).Nodup;rw[eh];exact List.nodup_range,List.nodup_nil,λi a=>.inl (bp.mpr a),λr b=>nomatch b⟩
end My
namespace L2
open PySem PySem.Spec PyProof.Rows
variable{P:Program}
theorem Ba{w:World}{H:Hp}{h:Heap}(f:bR P w H h){b:T}{a:Addr}{c:dB aI}(i:Is H (.tup [b]) (.ref a))(m:∀v u,Is H b v->yk v u->eN (zy P w) h c u):jg (zy P w) h [c] a:=by
 obtain⟨A,x,e,l,k⟩:=i;cases e;obtain⟨_,g,r,⟨o,s,q,n,p⟩,_⟩:=(f a _ l)
 obtain⟨z,y,rfl,j,t⟩:=k;cases(t);cases r with| cons d r=>cases r;exact⟨o,_,n,s,q,p,by simpa using cF.cons (m _ _ j d) .nil⟩
noncomputable def bA:aQ Nat where
 S := { f:=λi=>[.inr (.inl (i:Int))]
        inj:=λa b e=>by
         injection e with e1 _;injection e1 with e1;injection e1 with e1;exact Int.ofNat.inj e1
        one:=λ_ _=>rfl}
 tr:=λi=>tI [(i:Int)]
 fro:=λi=>X3 [(i:Int)]
 of:=λok _ _ i=>Ba ok i (λ_ _=>pO)
end L2
namespace My
open PySem PySem.Spec PyProof.Rows L2
variable{r:List (Str×V)}{l:List Nat}{i:Nat}{P:Program}{f:Str}{mg:Str->Option Value}{v:V}
noncomputable def kN(i:Nat):List aI:=kI [(i:Int)]
theorem qp{j:Nat}(h:kN i=kN j):i=j:=by have:=sT h;injection this with e _;exact Int.ofNat.inj e
noncomputable def yc{B:Type}(k:Nat->B)(n:Nat)(f:Nat->V):List (B×V):=(List.range n).map λi=>(k i,f i)
section
variable{α:Type}[DecidableEq α]{k:Nat->α}(hk:∀{i j},k i=k j->i=j)
include hk
theorem qy{f:Nat->V}{i:Nat}:∀{l:List Nat},y9 (l.map λj=>(k j,f j)) (k i)=if i∈l then some (f i)else none
 |[]=>rfl
 | j ::l=>by
   rw[c6];by_cases e:j=i
   . rw[wk (by rw[e]),if_pos (by rw[e];exact bv),e]
   . rw[wm (λz=>e (hk z)),qy];by_cases m:i∈l
     . rw[if_pos m,if_pos (br _ m)]
     . rw[if_neg m,if_neg (λz=>(ak.mp z).elim (λy=>e y.symm) m)]
theorem Yo{f:Nat->V}{n:Nat}:y9 (yc k n f) (k i)=if i<n then some (f i)else none:=by unfold yc;rw[qy hk];simp only[bp]
theorem J8{f:Nat->V}(c:l.Nodup)(m:i∈l):wc (l.map λj=>(k j,f j)) (k i) v=l.map λj=>(k j,if j=i then v else f j):=by
 unfold wc;have b:((l.map λj=>(k j,f j)).any λa=>decide (a.1=k i))=true:=List.any_eq_true.mpr ⟨(k i,f i),List.mem_map_of_mem (f:=λj=>(k j,f j)) m,ax J⟩;rw[if_pos b,c7];refine List.map_congr_left λj _=>?_;show(if k j=k i then(k j,v)else(k j,f j))=(k j,if j=i then v else f j);by_cases e:j=i
 . rw[if_pos (by rw[e]),if_pos e]
 . rw[if_neg (λz=>e (hk z)),if_neg e]
theorem J7{f:Nat->V}{n:Nat}(h:i<n):wc (yc k n f) (k i) v=yc k n λj=>if j=i then v else f j:=J8 hk List.nodup_range (bp.mpr h)
theorem Zm{f:Nat->V}{n:Nat}:wc (yc k n f) (k n) v=yc k (n+1) λj=>if j=n then v else f j:=by
 rw[Yc _ (by rw[Yo hk,if_neg (cp _)])];unfold yc;rw[List.range_succ,be];congr 1
 . refine List.map_congr_left λj a=>?_;show(k j,f j)=(k j,if j=n then v else f j);rw[if_neg (az (bp.mp a))]
 . simp
theorem D4{f:Nat->V}:j0 (l.map λj=>(k j,f j)) (k i)=(l.filter λj=>decide (j≠i)).map λj=>(k j,f j):=by unfold j0;rw[List.filter_map];congr 1;refine List.filter_congr λj _=>?_;show decide (k j≠k i)=_;rw[Bool.eq_iff_iff,decide_eq_true_eq,decide_eq_true_eq];exact⟨λz y=>z (by rw[y]),λz y=>z (hk y)⟩
end
theorem Zb{a:Type}{k:Nat->a}{n:Nat}{f g:Nat->V}(h:∀i,i<n->f i=g i):yc k n f=yc k n g:=List.map_congr_left λj b=>by rw[h j (bp.mp b)]
theorem xw{a:Type}{k:Nat->a}{n:Nat}{f:Nat->V}:(yc k n f).length=n:=by unfold yc;rw[ai,c8]
noncomputable def fG(B:List ij):Bool:=B.any λm=>decide (m.2≠"go")
noncomputable def aD(B:aC):HW:=⟨B.fs.length,λi=>B.ss.getD ((B.fs.getD i (0,[])).1) [],λi=>fG (B.fs.getD i (0,[])).2⟩
def mZ(B:aC):aF->Prop|.rai b _=>0<=b/\b<B.b|.awa b _=>0<=b/\b<B.b|.com w=>w=0/\B.w=1|.goo w=>w=0/\B.w=1|.lea w=>w=0/\B.w=1|.wor _=>True|.say _=>False|.beg _ _=>False
def hX(B:List ij):Prop:=B=[]\/∃m,B=[(0,m)]
structure cX(hs:aC):Prop where
 w01:hs.w=0\/hs.w=1
 n1:hs.fs.length<=40
 call:∀c∈hs.fs,c.1<hs.ss.length
 mem:∀c∈hs.fs,hX c.2
 mw:hs.w=0->∀c∈hs.fs,c.2=[]
 len:∀s∈hs.ss,s.length<=80
 kd:∀s∈hs.ss,∀d∈s,mZ hs d
 b0:0<=hs.b
 b9:hs.b<=99
 fit:∀i p x,i<hs.fs.length->((aD hs).S i)[p]?=some (.com x)->(aD hs).cm i=true/\Zg ((aD hs).S i) p=false
theorem mt{a:aC}(W:cX a)(f:i<a.fs.length):∃c,a.fs[i]?=some c/\c∈a.fs/\(aD a).S i∈a.ss/\(aD a).S i=a.ss.getD c.1 []/\a.ss[c.1]?=some ((aD a).S i)/\(aD a).cm i=fG c.2:=by
 have e:=bi f;have b:a.fs.getD i (0,[])=a.fs[i]:=by rw[cz,e];rfl
 have g:=List.getElem_mem f;have d:=W.call _ g;have h:=bi d;have j:(aD a).S i=a.ss[a.fs[i].1]:=by show a.ss.getD ((a.fs.getD i (0,[])).1) []=_;rw[b,cz,h];rfl
 refine⟨_,e,g,?_,?_,?_,?_⟩
 . rw[j];exact List.getElem_mem d
 . show a.ss.getD ((a.fs.getD i (0,[])).1) []=_;rw[b]
 . rw[j];exact h
 . show fG (a.fs.getD i (0,[])).2=_;rw[b]
theorem Jb{a:aC}(W:cX a){p:Nat}{d:aF}(b:i<a.fs.length)(h:((aD a).S i)[p]?=some d):mZ a d:=by obtain⟨c,_,_,m,_⟩:=mt W b;exact W.kd _ m _ (ck h)
theorem rP{a:aC}(W:cX a)(b:i<a.fs.length):((aD a).S i).length<=80:=by obtain⟨c,_,_,m,_⟩:=mt W b;exact W.len _ m
noncomputable def wo:Stmt->List Stmt|.ClassDef _ _ _ b _ _ _ _ _ _ _=>b|_=>[]
noncomputable def eI:Stmt:=.Pass ⟨0,0,0,0⟩
noncomputable def zK:Stmt:=bG 44
noncomputable abbrev Y8:Stmt:=(wo zK).getD 0 eI
noncomputable abbrev Qa:Stmt:=bG 45
noncomputable def aT:List Str:=["calling","script","call","begins","needs","came"]
structure aK(K:W.Frag)(C:Addr)(fs:List Str):Prop where
 cls:fO K C
 no:∀f∈fs,Ym K C f
theorem aK.n{K:W.Frag}{C:Y}{a:O Str}(c:aK K C a)(h:f∈a:=by decide+kernel):Ym K C f:=c.no f h
def iu(P:Program)(w:World)(K:W.Frag)(mg:Str->Option Value)(base:Heap)(x:Str)(C:Addr)(k:Nat)(B:List Str)(sp:Sp):Prop:=∃f fd,cG P w K mg base eT k f fd B sp/\Z4 K fd B []/\Mk K C f/\mg x=some (.ref C)
def bZ(P:Program)(w:World)(K:W.Frag)(mg:Str->Option Value)(base:Heap)(C:Addr)(m:Str)(k:Nat)(B:List Str)(sp:Sp):Prop:=∃f fd,cG P w K mg base eT k f fd B sp/\Z4 K fd B []/\ii K C m f
def lF(K:W.Frag)(mg:Str->Option Value)(x q:Str)(C:Addr)(st:Stmt):Prop:=∃f fd,im K "__init__" q st f fd/\Mk K C f/\mg x=some (.ref C)
def qr(K:W.Frag)(C:Addr)(m q:Str)(st:Stmt):Prop:=∃f fd,im K m q st f fd/\ii K C m f
noncomputable def lx(F vs B:V)(U G ac:Addr):List (Str×V):=[("calling",F),("script",vs),("call",B),("begins",.ref U),("needs",.ref G),("came",.ref ac)]
inductive kQ(cR:Addr)(xs:List V)(H:Hp)(Q:VK)(e0:XK):Prop|mk:∀(x dx:Addr)(vc vs vl:V),xs=[.ref x,vc,vs,vl]->H x=some (.ins cR dx [])->(∀ab an ac H',ab≠ac->H ab=none->H an=none->H ac=none->(∀b o,b≠x->H b=some o->H' b=some o)->H' x=some (.ins cR dx (lx vc vs vl ab an ac))->H' ab=some (.dK [])->H' an=some (.lst [])->H' ac=some (.dK [])->Q .non H')->kQ cR xs H Q e0
theorem yx{g:Str}{x:V}(h:g≠f):vn f v ((g,x)::r)=(g,x)::vn f v r:=if_neg h
section
variable{w:World}{K:W.Frag}{base:Heap}
theorem EO:aA ["self","calling","script","call"] ["self","calling","script","call"] (zi Y8):=.of
theorem EZ{cR:Y}(D:lF K mg "Role" "Role.__init__" cR Y8)(C:aK K cR aT):iu P w K mg base "Role" cR 1 ["self","calling","script","call"] (kQ cR):=by
 obtain⟨f,fd,F,M,hm⟩:=D;refine⟨f,fd,F.ok EO (λc H Q E h=>by cases h;subst_vars;rfl) (λao A ag s H c Q E hr h=>?_),F.binds (λ_ _ _ _ _ _ us hl=>(by obtain⟨_,_,_,_,rfl⟩:=wK hl;rfl)),M,hm⟩;obtain⟨x,d,a,c,i,rfl,hx,kk⟩:=h;refine⟨_,zf (va (pv 0) (pv 1) J) (zf (va (pv 0) (pv 2) J) (zf (va (pv 0) (pv 3) J) (zf (va (pv 0) Xz J) (zf (va (pv 0) (tz zd) J) (zh (va (pv 0) Xz J)))))),?_⟩;have n:=λg hg=>C.no g hg;refine⟨x,cR,d,[],J,hx,C.cls,n _ (by simp[aT]),(by simp),?_⟩;rw[show vn "calling" (a) []=[(("calling":Str),a)] by rfl];have g1:upd H x (.ins cR d [(("calling":Str),a)]) x=some (.ins cR d [(("calling":Str),a)]):=ze;have w1:∀b o,b≠x->H b=some o->upd H x (.ins cR d [(("calling":Str),a)]) b=some o:=λb o z e=>by rw[upd_ne z];exact e
 generalize upd H x (.ins cR d [(("calling":Str),a)])=H1 at g1 w1⊢;refine⟨x,cR,d,[(("calling":Str),a)],J,g1,C.cls,n _ (by simp[aT]),(by simp),?_⟩;rw[show vn "script" (c) [(("calling":Str),a)]=[(("calling":Str),a),("script",c)] by rfl];have g2:upd H1 x (.ins cR d [(("calling":Str),a),("script",c)]) x=some (.ins cR d [(("calling":Str),a),("script",c)]):=ze;have w2:∀b o,b≠x->H1 b=some o->upd H1 x (.ins cR d [(("calling":Str),a),("script",c)]) b=some o:=λb o z e=>by rw[upd_ne z];exact e
 generalize upd H1 x (.ins cR d [(("calling":Str),a),("script",c)])=Z at g2 w2⊢;refine⟨x,cR,d,[(("calling":Str),a),("script",c)],J,g2,C.cls,n _ (by simp[aT]),(by simp),?_⟩;rw[show vn "call" (i) [(("calling":Str),a),("script",c)]=[(("calling":Str),a),("script",c),("call",i)] by rfl];have g3:upd Z x (.ins cR d [(("calling":Str),a),("script",c),("call",i)]) x=some (.ins cR d [(("calling":Str),a),("script",c),("call",i)]):=ze;have w3:∀b o,b≠x->Z b=some o->upd Z x (.ins cR d [(("calling":Str),a),("script",c),("call",i)]) b=some o:=λb o z e=>by rw[upd_ne z];exact e
 generalize upd Z x (.ins cR d [(("calling":Str),a),("script",c),("call",i)])=X at g3 w3⊢;intro j B;have m:j≠x:=λz=>by simp_all
 have t3:∀b o,X b=some o->upd X j (.dK []) b=some o:=λb o e=>by rw[upd_ne (zj e B)];exact e
 have u3:upd X j (.dK []) j=some (.dK []):=ze;generalize upd X j (.dK [])=S at t3 u3⊢;refine⟨x,cR,d,[(("calling":Str),a),("script",c),("call",i)],J,t3 _ _ g3,C.cls,n _ (by simp[aT]),(by simp),?_⟩;rw[show vn "begins" (.ref j) [(("calling":Str),a),("script",c),("call",i)]=[(("calling":Str),a),("script",c),("call",i),("begins",.ref j)] by rfl];have g4:upd S x (.ins cR d [(("calling":Str),a),("script",c),("call",i),("begins",.ref j)]) x=some (.ins cR d [(("calling":Str),a),("script",c),("call",i),("begins",.ref j)]):=ze;have L:∀b o,b≠x->S b=some o->upd S x (.ins cR d [(("calling":Str),a),("script",c),("call",i),("begins",.ref j)]) b=some o:=λb o z e=>by rw[upd_ne z];exact e
 generalize upd S x (.ins cR d [(("calling":Str),a),("script",c),("call",i),("begins",.ref j)])=W at g4 L⊢;refine⟨(by simp),λl y=>?_⟩;have p:l≠x:=λz=>by simp_all
 have t4:∀b o,W b=some o->upd W l (.lst []) b=some o:=λb o e=>by rw[upd_ne (zj e y)];exact e
 have u4:upd W l (.lst []) l=some (.lst []):=ze;generalize upd W l (.lst [])=R at t4 u4⊢;refine⟨x,cR,d,[(("calling":Str),a),("script",c),("call",i),("begins",.ref j)],J,t4 _ _ g4,C.cls,n _ (by simp[aT]),(by simp),?_⟩;rw[show vn "needs" (.ref l) [(("calling":Str),a),("script",c),("call",i),("begins",.ref j)]=[(("calling":Str),a),("script",c),("call",i),("begins",.ref j),("needs",.ref l)] by rfl];have g5:upd R x (.ins cR d [(("calling":Str),a),("script",c),("call",i),("begins",.ref j),("needs",.ref l)]) x=some (.ins cR d [(("calling":Str),a),("script",c),("call",i),("begins",.ref j),("needs",.ref l)]):=ze;have w5:∀b o,b≠x->R b=some o->upd R x (.ins cR d [(("calling":Str),a),("script",c),("call",i),("begins",.ref j),("needs",.ref l)]) b=some o:=λb o z e=>by rw[upd_ne z];exact e
 generalize upd R x (.ins cR d [(("calling":Str),a),("script",c),("call",i),("begins",.ref j),("needs",.ref l)])=U at g5 w5⊢;intro ac r;have t:ac≠x:=λz=>by simp_all
 have t5:∀b o,U b=some o->upd U ac (.dK []) b=some o:=λb o e=>by rw[upd_ne (zj e r)];exact e
 have u5:upd U ac (.dK []) ac=some (.dK []):=ze;generalize upd U ac (.dK [])=N at t5 u5⊢;refine⟨x,cR,d,[(("calling":Str),a),("script",c),("call",i),("begins",.ref j),("needs",.ref l)],J,t5 _ _ g5,C.cls,n _ (by simp[aT]),(by simp),?_⟩;rw[show vn "came" (.ref ac) [(("calling":Str),a),("script",c),("call",i),("begins",.ref j),("needs",.ref l)]=[(("calling":Str),a),("script",c),("call",i),("begins",.ref j),("needs",.ref l),("came",.ref ac)] by rfl];have g6:upd N x (.ins cR d [(("calling":Str),a),("script",c),("call",i),("begins",.ref j),("needs",.ref l),("came",.ref ac)]) x=some (.ins cR d [(("calling":Str),a),("script",c),("call",i),("begins",.ref j),("needs",.ref l),("came",.ref ac)]):=ze;have w6:∀b o,b≠x->N b=some o->upd N x (.ins cR d [(("calling":Str),a),("script",c),("call",i),("begins",.ref j),("needs",.ref l),("came",.ref ac)]) b=some o:=λb o z e=>by rw[upd_ne z];exact e
 generalize upd N x (.ins cR d [(("calling":Str),a),("script",c),("call",i),("begins",.ref j),("needs",.ref l),("came",.ref ac)])=H6 at g6 w6⊢;have k3:=λb o z e=>w3 b o z (w2 b o z (w1 b o z e));have k4:=λb o z e=>L b o z (t3 b o e);have k5:=λb o z e=>w5 b o z (t4 b o e);have k6:=λb o z e=>w6 b o z (t5 b o e);have k:∀{b:Y}{G:Hp},b≠x->(∀b o,b≠x->H b=some o->G b=some o)->G b=none->H b=none:=λ{b G} z h e=>by cases q:H b with|none=>rfl|some o=>simp_all
 have ah:=k3;have v:=λb o z e=>k4 b o z (k3 b o z e);have u:=λb o z e=>k5 b o z (v b o z e);exact kk j l ac H6 (zj (k5 _ _ m (L _ _ m u3)) r) (k m ah B) (k p v y) (k t u r) (λb o z e=>k6 b o z (u b o z e)) g6 (k6 _ _ m (k5 _ _ m (L _ _ m u3))) (k6 _ _ p (w5 _ _ p u4)) (w6 _ _ t u5)
end
end My
namespace L2
open PySem PySem.Spec PyProof.Rows
def Bt(M:List Addr)(H B:Hp):Prop:=∀b o,b ∉ M->H b=some o->B b=some o
section
variable{M N:List Addr}{H H1 H2 H0:Hp}{p:Addr}{o:HO}
theorem Bt.refl:Bt M H H:=λ_ _ _ e=>e
theorem Bt.trans(a:Bt M H H1)(b:Bt M H1 H2):Bt M H H2:=λc u n e=>b c u n (a c u n e)
theorem Bt.mono(a:Bt M H H1)(s:∀x∈M,x∈N):Bt N H H1:=λc u n e=>a c u (λz=>n (s c z)) e
theorem Same.bt(s:Same H H1):Bt M H H1:=λc u _ e=>s c u e
theorem Bt.upd(h:p∈M):Bt M H (upd H p o):=λc u n e=>by rw[upd_ne (λz=>n (by rw[z];exact h))];exact e
theorem Bt.same(a:Bt M H H1)(s:Same H0 H)(n:∀x∈M,H0 x=none):Same H0 H1:=λb u e=>a b u (λz=>by rw[n b z]at e;cases e) (s b u e)
theorem Bt.tups(a:Bt M H H1)(n:∀x∈M,∀xs,H x≠some (.tup xs)):ym H H1:=λb xs e=>a b _ (λz=>n b z xs e) e
end
end L2
namespace My
open PySem PySem.Spec PyProof.Rows L2
variable{C ab ac an ar cP cR r:Addr}{A:Around}{cm:Bool}{base:Heap}{H H':Hp}{es:List Expr}{g:List Int}{N ps:List Str}{p:Nat}{P:Program}{sp:Sp}{st:Stmt}{mg:Str->Option Value}{vc vh vl vs:V}{w:World}
section
variable{X:Cx}{m x:Str}{k:Nat}{p apos aE:Pos}{o e:Expr}{ta:TE}{t:TA}
theorem v0{d:Sem Bool}(h:bZ X.prog X.w X.K X.mg X.base C m k ps sp)(c:fO X.K C)(i:aO k X.A)(he:PE X o ta)(n:PA X (e::es) t)(a:starEach (e::es) X.env=(false,eval e X.env)::starEach es X.env:=by rfl) (b:(backTo aE (starEach es X.env)).any (·.1)=false:=by rfl)
  (g:eval (.Call (.Attribute o m apos) (e::es) [] aE) X.env=(do
   let ov<-eval o X.env
   standAt apos.atName
   let(f,first)<-holding [ov] (getMethod ov m d)
   callWith aE f first (backTo aE (starEach (e::es) X.env)) (backToKw aE (keywordEach [] X.env))):=by rfl):
  PE X (.Call (.Attribute o m apos) (e::es) [] aE) (my C m sp [] E0 ta t):=by obtain⟨f,p,F,l,j⟩:=h;exact Br he c j F i l .nil nB n a b g
theorem Vl{a:Sem Bool}(h:bZ X.prog X.w X.K X.mg X.base C m k ps sp)(c:fO X.K C)(d:aO k X.A)(he:PE X o ta)(b:eval (.Call (.Attribute o m apos) [] [] aE) X.env=(do
   let ov<-eval o X.env
   standAt apos.atName
   let(f,first)<-holding [ov] (getMethod ov m a)
   callWith aE f first (backTo aE (starEach [] X.env)) (backToKw aE (keywordEach [] X.env))):=by rfl):
  PE X (.Call (.Attribute o m apos) [] [] aE) (my C m sp [] E0 ta Wd):=by obtain⟨f,i,F,g,e⟩:=h;exact CB he c e F d g .nil nB b
theorem nC(h:iu X.prog X.w X.K X.mg X.base x C k ps sp)(c:aO (k+1) X.A)(j:PA X (e::es) t)(g:Gl X x:=by rfl)(b:(x==("__debug__":Str))=false:=by decide)
  (he:starEach (e::es) X.env=(false,eval e X.env)::starEach es X.env:=by rfl) (a:(backTo aE (starEach es X.env)).any (·.1)=false:=by rfl):
  PE X (.Call (.Name x p) (e::es) [] aE) (rZ C sp [] E0 t):=by obtain⟨f,l,F,i,M,d⟩:=h;exact Bq M F c g d i .nil nB j b he a
end
section
variable{K:W.Frag}
theorem Zf{m q:Str}{k:Nat}(D:qr K C m q st)(S:aA N ps (zi st))(a:∀(f:Y)(cdv:I)(A:Around)(outer:O Env)(s:Shared)(H:Hp)(vs:O V)(Q:VK)(E:XK),aO k (A.deeper (envOfC q (zi st) s.heap.objs.size f cdv))->sp vs H Q E-> let X:=(Ve eT P w K mg base N q (zi st) f cdv A outer s H E).nox;∃t,dO X (y0 st) t/\t (.of Q) (start N vs) H) (c:autoParam (∀vs H Q E,sp vs H Q E->vs.length=ps.length) qI._auto_1) (j:autoParam (∀(kV d e:I)(o:Option Y)(cdv n:I)(b:O I),b.length=ps.length->bindArgs (W.fnOf m q (qb st) (y0 st) (zi st) .none kV d e o cdv n) ⟨b,[]⟩=pure (ps.zip b)) qH._auto_1):bZ P w K mg base C m (k+1) ps sp:=by obtain⟨f,l,F,i⟩:=D;exact⟨f,l,F.ok S c (λcdv A outer s H vs Q E g h=>a f cdv A outer s H vs Q E g h),F.binds j,i⟩
theorem oB{x q:Str}{k:Nat}(D:lF K mg x q C st)(S:aA N ps (zi st))(a:∀(f:Y)(cdv:I)(A:Around)(outer:O Env)(s:Shared)(H:Hp)(vs:O V)(Q:VK)(E:XK),aO k (A.deeper (envOfC q (zi st) s.heap.objs.size f cdv))->sp vs H Q E-> let X:=(Ve eT P w K mg base N q (zi st) f cdv A outer s H E).nox;∃t,dO X (y0 st) t/\t (.of Q) (start N vs) H) (c:autoParam (∀vs H Q E,sp vs H Q E->vs.length=ps.length) qI._auto_1) (l:autoParam (∀(kV d e:I)(o:Option Y)(cdv n:I)(b:O I),b.length=ps.length->bindArgs (W.fnOf "__init__" q (qb st) (y0 st) (zi st) .none kV d e o cdv n) ⟨b,[]⟩=pure (ps.zip b)) qH._auto_1):iu P w K mg base x C (k+1) ps sp:=by obtain⟨f,m,F,j,g⟩:=D;exact⟨f,m,F.ok S c (λcdv A outer s H vs Q E i h=>a f cdv A outer s H vs Q E i h),F.binds l,j,g⟩
end
noncomputable def Qs(s:yg)(p:Nat)(d:aF):V:=match Ze s p d with|none=>.non|some g=>.int g.2
def eR(P:Program)(w:World)(H:Hp)(a:Addr)(s:yg)(p:Nat):Prop:=∃kvs:List ((Str×Int)×V),aM dH P w H a kvs/\kvs.length<=p/\(y9 kvs ("go",0)).getD (.int 0)=.int (dC s p)/\(y9 kvs ("come",0)).getD (.int 0)=.int (vy s p)
theorem eR.same{P:Program}{w:World}{H c:Hp}{a:Y}{s:yg}{p:Nat}(t:eR P w H a s p)(d:Same H c):eR P w c a s p:=by obtain⟨b,f,e⟩:=t;exact⟨b,f.same d,e⟩
def qK:aF->Prop|.com w=>w=0|.goo w=>w=0|.lea w=>w=0|.say _=>False|.beg _ _=>False|_=>True
theorem mZ.wa{a:aC}{d:aF}(h:mZ a d):qK d:=by cases d<;>first|exact h.1|exact h|trivial
inductive kX(P:Program)(w:World)(vs:List V)(H:Hp)(Q:VK)(e0:XK):Prop|mk:∀(d:aF)(v:V)(a:Addr)(s:yg)(p:Nat),vs=[v,.ref a]->Is H (eD d) v->qK d->eR P w H a s p->Q (Qs s p d) H->kX P w vs H Q e0
section
variable{K:W.Frag}
theorem Xh{k:Nat}(a:aO k A):A.units+4<cLine:=f7 (Nat.add_le_add_left (by decide) _) a.units
theorem sQ{k:Nat}(a:aO k A):A.units+8<cLine:=f7 (Nat.add_le_add_left (by decide) _) a.units
theorem DB:aA ["deed","tally"] ["deed","tally"] (zi Qa):=.of
theorem Dj(D:bU K mg "need_of" Qa):Ok P w K mg base "need_of" 1 ["deed","tally"] (kX P w):=by
 refine vo D DB ?_;rintro f L A n s H M Q E F ⟨d,v,a,S,p,rfl,y,C,⟨h,B,_,x,_⟩,k⟩ X;have t:=Xh F;refine⟨_,zf (yj (zr yz (zm zk (pv 0) zg) zx (zo _)) (zh (zp (zm zk (pv 0) zg))) zn) (zf (yj (zr yz (zm zk (pv 0) zg) zx (zo _)) (zh (zp (yt we (Qn (τ:=dH) t (pv 1) (pv 0) zg ⟨J,J,J,J⟩) zg))) zn) (zh (zp Wn))),?_⟩
 obtain⟨r,u⟩:=Zi d;obtain⟨i,c,R,rfl,e,g,q⟩:=Is.at (i:=0) (u▸y) J;cases(q);refine⟨i,c,_,_,J,J,e,g,J,_,J,?_⟩;cases d with| awa b m=>refine yv ?_;obtain⟨U,j,N,G,l,z,o⟩:=Is.at (i:=2) y J;cases G;cases(o);exact⟨i,j,_,_,J,J,l,z,k⟩| goo w=>cases(show w=0 from C);refine yd ⟨i,c,_,_,J,J,e,g,J,_,J,yv ?_⟩;refine⟨a,h,J,B,i,h,("go",0),J,B,y,?_⟩;rw[x];exact⟨_,_,J,J,k⟩|_=>exact yd ⟨i,c,_,_,J,J,e,g,J,_,J,yd k⟩
end
theorem q0:(lx vc vs vl ab an ac).lookup ("script":Str)=some vs:=rfl
theorem Bz:(lx vc vs vl ab an ac).lookup ("call":Str)=some vl:=rfl
theorem Dw:(lx vc vs vl ab an ac).lookup ("begins":Str)=some (.ref ab):=rfl
theorem vK:(lx vc vs vl ab an ac).lookup ("needs":Str)=some (.ref an):=rfl
theorem Vj:(lx vc vs vl ab an ac).lookup ("came":Str)=some (.ref ac):=rfl
noncomputable def gY(B:V)(F:Addr):List (Str×V):=[(("house":Str),B),("roles",.ref F)]
theorem Xx:(gY vh ar).lookup ("house":Str)=some vh:=rfl
theorem jc:(gY vh ar).lookup ("roles":Str)=some (.ref ar):=rfl
noncomputable def bO:List Str:=["house","roles"]
noncomputable def pj:Stmt:=bG 46
noncomputable abbrev Y9:Stmt:=(wo pj).getD 0 eI
noncomputable abbrev K6:Stmt:=(wo pj).getD 1 eI
noncomputable abbrev Yt:Stmt:=(wo pj).getD 2 eI
theorem km(g:O Int):dS (tI g):=X3 g
theorem q9(a:aF):dS (eD a):=by cases a with| beg j b=>refine⟨trivial,trivial,?_,trivial⟩;show qj (b.map kB);rw[qj.all];intro t c;obtain⟨m,_,rfl⟩:=ci.mp c;exact⟨trivial,trivial,trivial⟩|_=>first|exact⟨trivial,trivial,trivial⟩|exact⟨trivial,trivial,trivial,trivial⟩
theorem Z0(s:yg):dS (eS s):=by show qj (s.map eD);rw[qj.all];intro t a;obtain⟨d,_,rfl⟩:=ci.mp a;exact q9 d
theorem A0(a:O ij):dS (lT a):=by show qj (a.map kB);rw[qj.all];intro t b;obtain⟨m,_,rfl⟩:=ci.mp b;exact⟨trivial,trivial,trivial⟩
theorem pw(c:j6):dS (eC c):=⟨trivial,A0 c.2,trivial⟩
theorem Q3(h:aC):dS (eH h):=by refine⟨trivial,trivial,?_,?_,trivial⟩;show qj (h.fs.map eC);rw[qj.all];intro t a;obtain⟨d,_,rfl⟩:=ci.mp a;exact pw d;show qj (h.ss.map eS);rw[qj.all];intro t a;obtain⟨d,_,rfl⟩:=ci.mp a;exact Z0 d
theorem Yj{v:V}(i:Is H (tI g) v):∃b,v=.ref b/\H b=some (.tup ((kI g).map kV)):=by obtain⟨b,d,rfl,a,c⟩:=i;rw[IsL.ints.mp c,<-Z2]at a;exact⟨b,J,a⟩
noncomputable def fB(s:yg)(n:Nat):List V:=(List.range n).map λp=>Qs s p (s.getD p (.wor 0))
theorem Bb{s:yg}{n:Nat}:(fB s n).length=n:=by unfold fB;rw[ai,c8]
theorem B7{s:yg}{n:Nat}{d:aF}(h:s[n]?=some d):fB s (n+1)=fB s n++[Qs s n d]:=by unfold fB;rw[List.range_succ,be];congr 1;show[Qs s n (s.getD n (.wor 0))]=_;rw[cz,h];rfl
theorem Ag{s:yg}{n:Nat}{d:aF}(a:p<n)(h:s[p]?=some d):(fB s n)[p]?=some (Qs s p d):=by unfold fB;rw[bc,List.getElem?_range a];show some (Qs s p (s.getD p (.wor 0)))=_;rw[cz,h];rfl
noncomputable def xu(b:Bool):List (aI×V):=if b then[((Sum.inl 0:aI),V.int 0)]else[]
inductive aX(N:Addr->Prop)(H:Hp)(cR:Addr)(s:yg)(cm:Bool)(r:Addr):Prop|mk:∀dx vc vs ab an ac,H r=some (.ins cR dx (lx vc vs .non ab an ac))->Is H (eS s) vs->H ab=some (.dK [])->H an=some (.lst (fB s s.length))->H ac=some (.dK (xu cm))->N r->N ab->N an->N ac->aX N H cR s cm r
theorem aX.keep{N h:Y->Prop}{s:yg}(x:aX N H cR s cm r)(c:∀a o,N a->H a=some o->H' a=some o)(t:ym H H')(b:∀a,N a->h a):aX h H' cR s cm r:=by obtain⟨q,j,i,v,u,ac,p,n,m,l,k,g,f,e,d⟩:=x;exact⟨q,j,i,v,u,ac,c _ _ g p,n.tups t (Z0 s),c _ _ f m,c _ _ e l,c _ _ d k,b _ g,b _ f,b _ e,b _ d⟩
theorem aX.same{N:Y->Prop}{s:yg}(x:aX N H cR s cm r)(b:Same H H'):aX N H' cR s cm r:=x.keep (λa o _ e=>b a o e) b.tups λ_ n=>n
inductive lj(P:Program)(w:World)(cP cR:Addr)(vs:List V)(H:Hp)(Q:VK)(e0:XK):Prop| mk:∀(x dx ar av:Addr) (vh vhd vc:V) (hs:aC) (i:Nat) (c:j6) (R:Nat->V),vs=[.ref x,vhd,vc,.non,.ref av]->H x=some (.ins cP dx (gY vh ar))->H ar=some (.dT (yc kN i R))->aM dH P w H av []->Is H (eH hs) vh->Is H (tI [(i:Int)]) vhd->Is H (eC c) vc->hX c.2->c.1<hs.ss.length->(hs.ss.getD c.1 []).length<=80->(∀d∈hs.ss.getD c.1 [],qK d)->i<1000->
   (∀rl H',Bt [ar,av] H H'->H' ar=some (.dT (yc kN (i+1) λj=>if j=i then .ref rl else R j))->aX (λa=>H a=none) H' cR (hs.ss.getD c.1 []) (fG c.2) rl->Q .non H')->lj P w cP cR vs H Q e0
noncomputable def Fo:List Str:=["self","hand","calling","call","tally","role","wall","mode","place","deed","begun"]
theorem vN:aA Fo ["self","hand","calling","call","tally"] (zi K6):=.of
theorem eR.next{a:Y}{s:yg}{d:aF}(t:eR P w H a s p)(h:s[p]?=some d)(e:jl d=false)(c:Va d=false):eR P w H a s (p+1):=by
 obtain⟨b,g,l,i,f⟩:=t;refine⟨b,g,by omega,i.trans ?_,f.trans ?_⟩
 . unfold dC;rw[cy,h,List.countP_append];simp[c]
 . unfold vy;rw[cy,h,List.countP_append];simp[e]
theorem eR.com{P:Program}{w:World}{H:Hp}{a:Y}{s:yg}{p:Nat}{kvs:O ((Str×Int)×V)}{x:Int}(h:s[p]?=some (.com x))(g:aM dH P w H a (wc kvs ("come",0) (.int ((vy s p:Int)+1))))(l:kvs.length<=p)(e:(y9 kvs ("go",0)).getD (.int 0)=.int (dC s p)):eR P w H a s (p+1):=by
 have:=xt kvs (("come",0):Str×Int) (.int ((vy s p:Int)+1));refine⟨_,g,by omega,?_,?_⟩
 . rw[ku,if_neg (by decide),e];unfold dC;rw[cy,h,List.countP_append];simp[Va]
 . rw[ku,if_pos J];unfold vy;rw[cy,h,List.countP_append];simp[jl]
theorem eR.goo{P:Program}{w:World}{H:Hp}{a:Y}{s:yg}{p:Nat}{kvs:O ((Str×Int)×V)}{x:Int}(h:s[p]?=some (.goo x))(g:aM dH P w H a (wc kvs ("go",0) (.int ((dC s p:Int)+1))))(l:kvs.length<=p)(e:(y9 kvs ("come",0)).getD (.int 0)=.int (vy s p)):eR P w H a s (p+1):=by
 have:=xt kvs (("go",0):Str×Int) (.int ((dC s p:Int)+1));refine⟨_,g,by omega,?_,?_⟩
 . rw[ku,if_pos J];unfold dC;rw[cy,h,List.countP_append];simp[Va]
 . rw[ku,if_neg (by decide),e];unfold vy;rw[cy,h,List.countP_append];simp[jl]
section
variable{K:W.Frag}
theorem Cc(D:qr K cP "enter" "Plan.enter" K6)(T:Txt K mg)(CP:aK K cP bO)(CR:aK K cR aT)(oR:iu P w K mg base "Role" cR 1 ["self","calling","script","call"] (kQ cR))(o1:Ok P w K mg base "need_of" 1 ["deed","tally"] (kX P w)):bZ P w K mg base cP "enter" 23 ["self","hand","calling","call","tally"] (lj P w cP cR):=by
 refine Zf (k:=22) D vN ?_;rintro f e8 A d2 s H vs Q E hr ⟨x,dx,ar,g,vh,ez,vc,t,n,c,R,rfl,hx,a8,ce,ih,d3,ic,cc,ek,eq,c0,e7,k⟩ X;have hu:=jy hr;have b0:=Xh hr;have ea:=Nat.lt_of_succ_lt b0;have nd:=vN.nd;refine⟨_,zf (zv (i:=5) nd (nC oR (hr.mono (by decide)) (zc (pv 2) (zc (zm zk (zm zk (zt (pv 0) J) (xi T.SCRIPTS)) (zm zk (pv 2) zg)) (zc (pv 3) zd))))) (zf (vj hu (zt (pv 0) J) (pv 1) (pv 5) J) (zf (wy PassesOwn.never J (jk (zm zk (pv 2) zg)) (ki J (y6 (zu (i:=6) nd) (y6 (zu (i:=7) nd) ja))) (zh (yj (zr Qp (pv 7) zx (zo _)) (zh (vj hu (zt (pv 5) J) (pv 6) (Qn (τ:=dH) b0 (pv 4) (yn (zc zx (zc (pv 6) zd))) zg ⟨J,J,J,J⟩) J)) zn)))
  (zh (wy PassesOwn.never J (pW J T.enumerate (zc (zt (pv 5) J) zd)) (ki J (y6 (zu (i:=8) nd) (y6 (zu (i:=9) nd) ja))) (zf (xn (Zd PySem.F.plainAttrs_list PySem.F.slot_list_append PySem.F.type_list_append wj (zt (pv 5) J) (zc (ye o1 (hr.mono (by decide)) (zc (pv 9) (zc (pv 4) zd))) zd))) (zf (yj (zr yz (zm zk (pv 9) zg) zx (zo _)) xz zn)
   (zh (yj (zr jp (zm zk (pv 9) zg) (Wm (zc zx (zc zx zd))) J) (zh (uw (τ:=dH) ea (pv 4) (pv 9) (yt we (Qn (τ:=dH) b0 (pv 4) (pv 9) zg ⟨J,J,J,J⟩) zg) J)) zn)))))))),?_⟩
 have c4:t.ss[c.1]?=some t.ss[c.1]:=bi ek;have b9:t.ss.getD c.1 []=t.ss[c.1]:=by rw[cz,c4];rfl
 have e3:∀{b:Y}{ys:O V},H b=some (.tup ys)->b≠ar:=λ{b ys} e z=>by rw[z,a8]at e;cases e
 obtain⟨bg,xc,un,rfl,d1,eu,d5⟩:=Is.at (K:=K) (i:=0) (t:=.int (c.1:Int)) ic J;cases(show un=.int (c.1:Int)from d5);obtain⟨ah,xh,us,rfl,dV,et,d4⟩:=Is.at (K:=K) (i:=3) (t:=.tup (t.ss.map eS)) ih J;obtain⟨as,dK,e0,rfl,dT,er,c3⟩:=Is.at (K:=K) (i:=c.1) (t:=eS t.ss[c.1]) d4 (by rw[bc,c4];rfl);refine⟨x,cP,dx,_,_,J,hx,CP.cls,CP.n,Xx,ah,xh,_,_,J,J,dV,et,bg,xc,_,_,J,J,d1,eu,as,dK,_,_,J,J,dT,er,?_⟩;intro q dr ao dh e4;refine⟨q,dr,_,_,_,J,ze,λab B ac H1 en bl aw aS kp da bI bC bD=>⟨J,?_⟩⟩;have s0:∀{b:Y},(upd (upd H dr (.own q)) q (.ins cR dr [])) b=none->H b=none:=λ{b} e=>by by_cases c1:b=q;rw[c1];exact ao;by_cases c2:b=dr;rw[c2];exact dh;rw[upd_ne c1,upd_ne c2]at e;exact e
 have s1:Same H H1:=λb o e=>kp b o (zj e ao) (by rw[upd_ne (zj e ao),upd_ne (zj e dh)];exact e);have bl:=s0 bl;have aw:=s0 aw;have aS:=s0 aS;clear s0 kp;obtain⟨bh,rfl,el⟩:=Yj d3;refine⟨x,cP,dx,_,_,J,s1 _ _ hx,CP.cls,CP.n,jc,ar,_,J,Zl.t (k:=kN n) (s1 _ _ a8) (s1 _ _ el) (by rw[xw];exact yq (by omega)),?_⟩;rw[Zm qp];have k2:∀{b:Y}{o:HO},H1 b=some o->H b=none->upd H1 ar (.dT (yc kN (n+1) λj=>if j=n then .ref q else R j)) b=some o:=λ{b o} e z=>by rw[upd_ne (aj (zj a8 z))];exact e
 have C:=k2 da ao;have bd:=k2 bI bl;have W:=k2 bC aw;have v:=k2 bD aS;have b2:Bt [ar] H (upd H1 ar (.dT (yc kN (n+1) λj=>if j=n then .ref q else R j))):=s1.bt.trans (Bt.upd (aa.mpr J));have L:upd H1 ar (.dT (yc kN (n+1) λj=>if j=n then .ref q else R j)) ar=some (.dT (yc kN (n+1) λj=>if j=n then .ref q else R j)):=ze;clear k2 da bI bC bD s1;generalize upd H1 ar (.dT (yc kN (n+1) λj=>if j=n then .ref q else R j))=H2 at C bd W v b2 L⊢;have co:∀{M:O Y}{G:Hp},Bt M H G->(∀m∈M,m=ar\/H m=none)->ym H G:=λ{M G} b hM=>b.tups λm a xs e=>by rcases hM m a with z|z;rw[z,a8]at e;cases e;rw[z]at e;cases e
 have t2:ym H H2:=co b2 (λm a=>.inl (aa.mp a));have bj:q≠ac:=λz=>by rw[z,v]at C;cases C
 have a2:g≠ar:=λz=>by obtain⟨xs,e,_⟩:=ce;rw[z,a8]at e;cases e
 have dG:∃o,H g=some (.ext o):=let⟨xs,e,_,_,_,_⟩:=ce;⟨_,e⟩;obtain⟨dG,d⟩:=dG;have a3:g≠ac/\g≠B/\g≠q:=⟨(λz=>by rw[z,aS]at d;cases d),(λz=>by rw[z,aw]at d;cases d),(λz=>by rw[z,ao]at d;cases d)⟩
 have bw:aM dH P w H2 g []:=ce.by t2 (by rw[b2 _ _ (λa=>a2 (aa.mp a)) d,d])
 obtain⟨a',dN,um,e',cs,du,d6⟩:=Is.at (K:=K) (i:=1) (t:=lT c.2) (ic.tups t2 (pw c)) J;cases e';obtain⟨am,xm,rfl,dt,dg⟩:=d6;have bN:=dg.length;rw[ai]at bN;have e6:c.2.length<=1:=by rcases cc with z|⟨m,z⟩<;>rw[z]<;>simp
 refine⟨bg,dN,_,_,J,J,cs,du,am,J,⟨xm,aH.of dt⟩,?_⟩;have a1:∀{G:Hp},Bt [ac] H2 G->ym H2 G:=λ{G} b=>b.tups λm a xs e=>by rw[aa.mp a,v]at e;cases e
 let ew:Nat->L2.St->Hp->Prop:=λi σ Z=>∃x6 x7:Option V,σ=[some (.ref x),some (.ref bh),some (.ref bg),some .non,some (.ref g),some (.ref q),x6,x7,none,none,none]/\Bt [ac] H2 Z/\Z ac=some (.dK (if i=0 then[]else xu (fG c.2)));refine X4 (K:=K) (a:=am) (xs:=xm) ew ⟨none,none,J,Bt.refl,v⟩ (λi σ Z _ ⟨_,_,_,b,_⟩=>aH.of (a1 b _ _ dt)) (λi y σ Z hy ⟨x6,x7,e,F,h⟩=>?_) ?_
 . subst e;obtain⟨tt,a6,bM⟩:=dg.get' hy;rw[bc]at a6;obtain⟨m,a,rfl⟩:=cu.mp a6;have hi:i=0:=by have:=(c9.mp a).1;omega
   subst hi;have dq:c.2=[m]/\m.1=0:=by
    rcases cc with z|⟨m',z⟩
    . rw[z]at a;cases a
    . rw[z]at a⊢;cases a;exact⟨J,J⟩
   obtain⟨mw,md⟩:=m;obtain⟨e1,e2⟩:=dq;cases(show mw=0 from e2);obtain⟨ay,ys,rfl,eo,v1,r1,rfl,i1,v2,r2,rfl,i2,i3⟩:=bM.tups (a1 F) (show dS (kB (0,md))from⟨trivial,trivial,trivial⟩);cases(i1);cases(i2);cases(show r2=[]from i3);have ej:fG c.2=decide (md≠"go"):=by rw[e1];simp[fG]
   refine⟨ay,_,J,aH.of eo,J,_,_,J,_,_,J,J,?_⟩;refine⟨J,_,J,?_⟩;rw[show(!decide (V.str md=V.str "go"))=fG c.2 by rw[ej];by_cases z:md="go"<;>simp[z]];cases hb:fG c.2 with|false=>exact yd ⟨_,_,J,F,by rw[h,hb];rfl⟩| true=>
     refine yv ?_;have u:=bw.by (a1 F) (F _ _ (λa=>a3.1 (aa.mp a)) (b2 _ _ (λa=>a2 (aa.mp a)) d) |>.trans (b2 _ _ (λa=>a2 (aa.mp a)) d).symm)
     refine⟨g,[],J,u,aY,λp H4 s4 e5 eg=>⟨p,[],("come",0),J,u.same s4,⟨p,_,J,eg,IsL.two J J⟩,?_⟩⟩;refine⟨q,cR,dr,_,_,J,s4 _ _ (F _ _ (λa=>bj (aa.mp a)) C),CR.cls,CR.n,Vj,ac,_,J,Zl.k (k:=(Sum.inl 0:aI)) (s4 _ _ h) aY,?_⟩;exact⟨_,_,J,(F.trans s4.bt).trans (Bt.upd (by simp)),by rw[ze,hb];rfl⟩
 rintro σ H3 ⟨x6,x7,rfl,F,h⟩;have h:H3 ac=some (.dK (xu (fG c.2))):=by
  rw[h];rcases cc with z|⟨m,z⟩
  . rw[show xm.length=0 by rw[bN,z];rfl,z];rfl
  . rw[show xm.length=1 by rw[bN,z];rfl];rfl
 have bL:∀{b:Y}{o:HO},H2 b=some o->o≠ .dK []->b ∉ [ac]:=λ{b o} e z a=>by rw[aa.mp a,v]at e;exact z (Option.some.inj e).symm
 have bk:=F _ _ (bL C (by simp)) C;have ba:=F _ _ (bL W (by simp)) W;have u:aM dH P w H3 g []:=bw.by (a1 F) (by rw[F _ _ (λa=>a3.1 (aa.mp a)) (b2 _ _ (λa=>a2 (aa.mp a)) d),b2 _ _ (λa=>a2 (aa.mp a)) d])
 have bE:H3 ab=some (.dK []):=F _ _ (λa=>en (aa.mp a)) bd;have bx:=F _ _ (bL L (by simp)) L;have ev:Bt [ar,ac] H H3:=(b2.mono (by simp)).trans (F.mono (by simp));have t3:ym H H3:=λb xs e=>a1 F _ _ (t2 _ _ e);clear C W bd L;obtain⟨ad,xd,rfl,bb,b1⟩:=c3;have dp:=b1.length;rw[ai]at dp;refine⟨q,cR,dr,_,_,J,bk,CR.cls,CR.n,q0,ad,xd,J,aH.of (t3 _ _ bb),?_⟩;rw[b9]at eq c0;have dE:∃o,H3 g=some (.ext o):=let⟨xs,e,_,_,_,_⟩:=u;⟨_,e⟩;obtain⟨dE,bt⟩:=dE;have bK:∀{G:Hp},Bt [B,g] H3 G->ym H3 G:=λ{G} b=>b.tups λm a xs e=>by
  rcases ak.mp a with z|z
  . rw[z,ba]at e;cases e
  . rw[aa.mp z,bt]at e;cases e
 have nx:∀{b:Y}{o:HO},H3 b=some o->(∀ys,o≠ .lst ys)->(∀y,o≠ .ext y)->b ∉ [B,g]:=λ{b o} e z1 z2 a=>by
  rcases ak.mp a with z|z
  . rw[z,ba]at e;exact z1 _ (Option.some.inj e).symm
  . rw[aa.mp z,bt]at e;exact z2 _ (Option.some.inj e).symm
 have bj:=nx bk (by simp) (by simp);refine Q5 (K:=K) (a:=ad) (xs:=xd) (λi σ Z=>∃x8 x9 bJ:Option V,σ=[some (.ref x),some (.ref bh),some (.ref bg),some .non,some (.ref g),some (.ref q),x6,x7,x8,x9,bJ]/\Bt [B,g] H3 Z/\Z B=some (.lst (fB t.ss[c.1] i))/\eR P w Z g t.ss[c.1] i)
  ⟨none,none,none,J,Bt.refl,ba,[],u,bo _,J,J⟩ (λi σ Z _ ⟨_,_,_,_,b,_⟩=>aH.of (bK b _ _ (t3 _ _ bb))) ?_ ?_
 . rintro i y σ Z p hy ⟨x8,x9,bJ,rfl,b4,U,eb⟩ hp;obtain⟨tt,a6,bM⟩:=b1.get' hy;rw[bc]at a6;obtain⟨dd,ap,rfl⟩:=cu.mp a6;have hi:i<t.ss[c.1].length:=(c9.mp ap).1;have ag:=c0 dd (ck ap);have sp:=Same.new hp (.tup [.int i,y]);have db:upd Z p (.tup [.int i,y]) p=some (.tup [.int i,y]):=ze;have b5:=b4.trans (M:=[B,g]) sp.bt;have S:=sp _ _ U;have a7:=eb.same sp;generalize upd Z p (.tup [.int i,y])=H5 at sp db b5 S a7⊢;have i5:Is H5 (eD dd) y:=(bM.tups t3 (q9 _)).tups (bK b5) (q9 _);refine⟨p,_,J,aH.of db,J,_,_,J,_,_,J,J,?_⟩;refine⟨q,cR,dr,_,_,J,b5 _ _ bj bk,CR.cls,CR.n,vK,?_⟩;refine⟨.inl ⟨J,_,aJ.of S⟩,dd,y,g,t.ss[c.1],i,J,i5,ag,a7,B,_,_,J,J,S,(by rw[Bb];exact yq (by omega)),?_⟩;rw[<-B7 ap];have t6:ym H5 (upd H5 B (.lst (fB t.ss[c.1] (i+1)))):=ym.upd S (λ_ z=>by cases z);have b6:Bt [B,g] H3 (upd H5 B (.lst (fB t.ss[c.1] (i+1)))):=b5.trans (Bt.upd (by simp));have bB:upd H5 B (.lst (fB t.ss[c.1] (i+1))) B=_:=ze;have i6:=i5.tups t6 (q9 _);obtain⟨l,g5,gl,bq,bn⟩:=a7;have g6:aM dH P w (upd H5 B (.lst (fB t.ss[c.1] (i+1)))) g l:=g5.by t6 (upd_ne a3.2.1)
   generalize upd H5 B (.lst (fB t.ss[c.1] (i+1)))=H6 at b6 bB i6 g6⊢;have ey:eR P w H6 g t.ss[c.1] i:=⟨l,g6,gl,bq,bn⟩
   obtain⟨r,ec⟩:=Zi dd;obtain⟨a5,cl,u5,rfl,cv,dv,d9⟩:=Is.at (K:=K) (i:=0) (t:=.str (dw dd)) (ec▸i6) J;cases(show u5=.str (dw dd)from d9);refine⟨a5,cl,_,_,J,J,cv,dv,J,_,J,?_⟩;rw[show decide (V.str (dw dd)=V.str "begin")=false by cases dd<;>first|rfl|exact ag.elim];refine yd ⟨a5,cl,_,_,J,J,cv,dv,aY,λp6 ed=>⟨p6,_,J,.inr (aH.of ze),J,J,_,J,?_⟩⟩;have s6:=Same.new ed (.tup [.str "come",.str "go"]);have b7:=b6.trans (M:=[B,g]) s6.bt;have N:=s6 _ _ bB;have g7:=g6.same s6;have i7:=i6.mono s6;generalize upd H6 p6 (.tup [.str "come",.str "go"])=H7 at s6 b7 N g7 i7⊢;have b8:∀o,Bt [B,g] H3 (upd H7 g o):=λo=>b7.trans (Bt.upd (by simp));cases dd with| com w=>cases(show w=0 from ag);refine yv ⟨g,l,J,g7,a5,l,("come",0),J,g7,i7,?_⟩;rw[bn];exact⟨_,_,J,J,g,a5,l,("come",0),J,J,g7,i7,yq (by omega),λo go=>⟨_,_,_,J,b8 o,by rw[upd_ne (aj a3.2.1)];exact N,eR.com ap go gl bq⟩⟩| goo w=>cases(show w=0 from ag);refine yv ⟨g,l,J,g7,a5,l,("go",0),J,g7,i7,?_⟩;rw[bq];exact⟨_,_,J,J,g,a5,l,("go",0),J,J,g7,i7,yq (by omega),λo go=>⟨_,_,_,J,b8 o,by rw[upd_ne (aj a3.2.1)];exact N,eR.goo ap go gl bn⟩⟩|say x=>exact ag.elim|beg s ms=>exact ag.elim|_=>exact yd ⟨_,_,_,J,b7,N,(show eR P w H7 g _ i from⟨l,g7,gl,bq,bn⟩).next ap J J⟩
 . rintro σ Z ⟨x8,x9,bJ,rfl,b4,U,_⟩;rw[dp]at U;refine k q Z (λb o hb e=>?_) (b4 _ _ (nx bx (by simp) (by simp)) bx) ?_
   . have z1:b ∉ [ar,ac]:=λa=>by
      rcases ak.mp a with z|z
      . exact hb (by rw[z];exact bv)
      . rw[aa.mp z,aS]at e;cases e
     refine b4 b o (λa=>?_) (ev b o z1 e);rcases ak.mp a with z|z
     . rw[z,aw]at e;cases e
     . exact hb (br _ z)
   . refine⟨dr,.ref bg,.ref ad,ab,B,ac,b4 _ _ bj bk,?_,b4 _ _ (nx bE (by simp) (by simp)) bE,?_,b4 _ _ (nx h (by simp) (by simp)) h,ao,bl,aw,aS⟩
     . rw[b9];exact((show Is H (eS t.ss[c.1]) (.ref ad)from⟨ad,xd,J,bb,b1⟩).tups t3 (Z0 _)).tups (bK b4) (Z0 _)
     . rw[b9];exact U
end
inductive aV(H:Hp)(cP cR:Addr)(hs:aC)(R:Nat->Addr)(x:Addr):Prop|mk:∀dx vh ar,H x=some (.ins cP dx (gY vh ar))->Is H (eH hs) vh->H ar=some (.dT (yc kN hs.fs.length λi=>.ref (R i)))->(∀i,i<hs.fs.length->aX (λ_=>True) H cR ((aD hs).S i) ((aD hs).cm i) (R i))->aV H cP cR hs R x
theorem aV.same{H b:Hp}{cP cR:Y}{a:aC}{R:Nat->Y}{x:Y}(p:aV H cP cR a R x)(s:Same H b):aV b cP cR a R x:=by obtain⟨j,c,k,h,g,f,e⟩:=p;exact⟨j,c,k,s _ _ h,g.mono s,s _ _ f,λi d=>(e i d).same s⟩
inductive kS(cP cR:Addr)(vs:List V)(H:Hp)(Q:VK)(e0:XK):Prop|mk:∀(x dx:Addr)(vh:V)(hs:aC),vs=[.ref x,vh]->H x=some (.ins cP dx [])->Is H (eH hs) vh->cX hs->(∀R H',Bt [x] H H'->aV H' cP cR hs R x->Q .non H')->kS cP cR vs H Q e0
section
variable{K:W.Frag}
theorem W4:aA ["self","house","number","calling"] ["self","house"] (zi Y9):=.of
theorem EY(D:lF K mg "Plan" "Plan.__init__" cP Y9)(T:Txt K mg)(CP:aK K cP bO)(oE:bZ P w K mg base cP "enter" 23 ["self","hand","calling","call","tally"] (lj P w cP cR)):iu P w K mg base "Plan" cP 24 ["self","house"] (kS cP cR):=by
 refine oB (k:=23) D W4 ?_;rintro f bn A a3 s H vs Q E hr ⟨x,q,r,hs,rfl,hx,ih,W,k⟩ X;have nd:=W4.nd;refine⟨_,zf (va (pv 0) (pv 1) J) (zf (va (pv 0) Zc J) (zh (wy PassesOwn.never J (pW J T.enumerate (zc (zm zk (pv 1) (xi T.FIRSTS)) zd)) (ki J (y6 (zu (i:=2) nd) (y6 (zu (i:=3) nd) ja))) (zh (xn (v0 oE CP.cls hr (pv 0) (zc (yn (zc (pv 2) zd)) (zc (pv 3) (zc Wn (zc (Vm (τ:=dH)) zd)))))))))),?_⟩
 refine⟨x,cP,q,[],J,hx,CP.cls,CP.n,aY,?_⟩;rw[show vn "house" r []=[(("house":Str),r)] by rfl];have g1:upd H x (.ins cP q [(("house":Str),r)]) x=some (.ins cP q [(("house":Str),r)]):=ze;have b1:Bt [x] H (upd H x (.ins cP q [(("house":Str),r)])):=Bt.upd (by simp);generalize upd H x (.ins cP q [(("house":Str),r)])=H1 at g1 b1⊢;intro h u;have nx:h≠x:=λz=>by rw[z,g1]at u;cases u
 have s2:=Same.new u (.dT []);have h2:upd H1 h (.dT []) h=some (.dT []):=ze;generalize upd H1 h (.dT [])=H2 at s2 h2⊢;refine⟨x,cP,q,_,J,s2 _ _ g1,CP.cls,CP.n,aY,?_⟩;rw[show vn "roles" (.ref h) [(("house":Str),r)]=gY r h by rw[yx (by decide)];rfl];have g3:upd H2 x (.ins cP q (gY r h)) x=some (.ins cP q (gY r h)):=ze;have b3:Bt [x] H (upd H2 x (.ins cP q (gY r h))):=(b1.trans s2.bt).trans (Bt.upd (by simp));have h3:upd H2 x (.ins cP q (gY r h)) h=some (.dT []):=by rw[upd_ne nx];exact h2
 generalize upd H2 x (.ins cP q (gY r h))=C at g3 b3 h3⊢;have t3:ym H C:=b3.tups λm l xs e=>by rw[aa.mp l,hx]at e;cases e
 obtain⟨ah,xh,uf,rfl,a2,a8,a6⟩:=Is.at (K:=K) (i:=2) (ih.tups t3 (Q3 _)) J;obtain⟨af,xf,rfl,a1,av⟩:=a6;have aw:=av.length;rw[ai]at aw;refine⟨ah,xh,_,_,J,J,a2,a8,af,xf,J,aH.of a1,?_⟩;have S:x ∉ [h]:=λl=>nx (aa.mp l).symm;have tb:∀{G:Hp},Bt [h] C G->ym C G:=λ{G} b=>b.tups λm l xs e=>by rw[aa.mp l,h3]at e;cases e
 let bb:Nat->L2.St->Hp->Prop:=λi σ F=>∃(R:Nat->Y)(x2 x3:Option V),σ=[some (.ref x),some (.ref ah),x2,x3]/\Bt [h] C F/\F h=some (.dT (yc kN i λj=>.ref (R j)))/\
  ∀j,j<i->aX (λa=>C a=none) F cR ((aD hs).S j) ((aD hs).cm j) (R j)
 refine Q5 (K:=K) (a:=af) (xs:=xf) bb
  ⟨λ_=>0,none,none,J,Bt.refl,h3,λj hj=>absurd hj (fc _)⟩ (λi σ F _ ⟨_,_,_,_,b,_⟩=>aH.of (tb b _ _ a1)) ?_ ?_
 rintro i y σ F p hy ⟨R,x2,x3,rfl,b4,g,B⟩ hp;obtain⟨tt,t,a5⟩:=av.get' hy;rw[bc]at t;obtain⟨c,hc,rfl⟩:∃c,hs.fs[i]?=some c/\eC c=tt:=by cases e:hs.fs[i]? with|none=>rw[e]at t;cases t|some z=>rw[e]at t;exact⟨z,J,Option.some.inj t⟩
 have L:=ck hc;have hi:=(c9.mp hc).1;have M:=Same.new hp (.tup [.int i,y]);have ap:upd F p (.tup [.int i,y]) p=some (.tup [.int i,y]):=ze;generalize upd F p (.tup [.int i,y])=H5 at M ap⊢;have b5:=b4.trans (M:=[h]) M.bt;refine⟨p,_,J,aH.of ap,J,_,_,J,_,_,J,J,?_⟩;refine⟨x,q,_,J,b5 _ _ S g3,J,aY,λp6 H6 s6 bk a7=>(λN o7 n g7=>?_)⟩;have s7:=Same.new n o7;have h7:upd H6 N o7 N=some o7:=ze;generalize upd H6 N o7=H7 at s7 h7 g7⊢;have v:=s6.trans s7;have b7:=b5.trans (M:=[h]) v.bt;have bl:=W.n1;obtain⟨c',ay,bd,sm,se,bj,ce⟩:=mt W hi;have ec:c'=c:=by rw[hc]at ay;exact(Option.some.inj ay).symm
 subst ec;have ao:C N=none:=by
  cases z:C N with|none=>rfl| some o=>
    by_cases l:N∈[h]
    . rw[aa.mp l]at n;rw[s6 _ _ (M _ _ g)]at n;cases n
    . rw[s6 _ _ (b5 _ _ l z)]at n;cases n
 refine⟨x,q,h,N,.ref ah,.ref p6,y,hs,i,c',_,J,b7 _ _ S g3,v _ _ (M _ _ g),g7,(ih.tups t3 (Q3 _)).tups (tb b7) (Q3 _),?_,(a5.tups (tb b7) (pw _)),W.mem c' L,W.call c' L,by rw[<-se];exact rP W hi,λd hd=>(W.kd _ sm d (by rw[se];exact hd)).wa,by omega,λrl H8 b8 aS ag=>?_⟩
 . exact(show Is H6 (tI [(i:Int)]) (.ref p6)from⟨p6,_,J,a7,IsL.ints.mpr J⟩).mono s7
 obtain⟨bg,e7,_,_,_,_⟩:=g7;have t8:ym H7 H8:=b8.tups λm l xs e=>by
  rcases ak.mp l with z|z
  . rw[z,v _ _ (M _ _ g)]at e;cases e
  . rw[aa.mp z,e7]at e;cases e
 have ba:Bt [h] C H8:=λb o Z e=>by
  refine b8 b o (λl=>?_) (b7 b o Z e);rcases ak.mp l with z|z
  . exact Z (by rw[z];exact bv)
  . rw[aa.mp z,ao]at e;cases e
 refine⟨λj=>if j=i then rl else R j,_,_,J,ba,?_,λj hj=>?_⟩
 . rw[aS];congr 2;refine Zb λj _=>?_;by_cases z:j=i
   . simp[z]
   . simp[z]
 by_cases z:j=i
 . subst z;show aX _ H8 cR _ _ (if j=j then rl else R j);rw[if_pos J,se,ce];refine ag.keep (λa o _ z=>z) (ym.refl _) λa U=>?_;cases z:C a with|none=>rfl| some o=>
     by_cases l:a∈[h]
     . rw[aa.mp l,v _ _ (M _ _ g)]at U;cases U
     . rw[b7 a o l z]at U;cases U
 . show aX _ H8 cR _ _ (if j=i then rl else R j);rw[if_neg z];refine((B j (by omega)).same M).same s6 |>.keep (λa o U e=>b8 _ _ (λl=>?_) (s7 _ _ e)) (λb xs e=>t8 _ _ (s7 _ _ e)) λ_ y=>y
   rcases ak.mp l with y|y
   . rw[y,h3]at U;cases U
   . rw[aa.mp y,n]at e;cases e
 rintro σ F ⟨R,x2,x3,rfl,b4,g,B⟩;rw[aw]at g B;refine k R F (λb o Z e=>?_) ⟨q,.ref ah,h,b4 _ _ S g3,(ih.tups t3 (Q3 _)).tups (tb b4) (Q3 _),g,λi hi=>(B i hi).keep (λa o _ z=>z) (ym.refl _) λ_ _=>trivial⟩;refine b4 b o (λl=>?_) (b3 b o Z e);rw[aa.mp l]at e Z;rw[b1 _ _ Z e]at u;cases u
end
theorem px:∀(rows:List (List Int×V))(a:List (List aI×V)),(a.map (·.1)++rows.map λr=>kI r.1).Nodup->iC rows a=a++rows.map λr=>(kI r.1,r.2)
 |[],a,_=>by simp[iC]
 | r::rows,a,h=>by
   have b:y9 a (kI r.1)=none:=by
    cases e:y9 a (kI r.1)with
    |none=>rfl
    | some v=>have c:=BM e;rw[c6]at h;exact absurd J ((List.nodup_append.mp h).2.2 _ c _ bv)
   show iC rows (wc a (kI r.1) r.2)=_;rw[Yc _ b,px rows (a++[(kI r.1,r.2)]) (by simpa using h)];simp
noncomputable def jB(n:Nat):List (List Int×V):=(List.range n).map λ(i:Nat)=>([(i:Int)],V.int 0)
theorem Df(n:Nat):iC (jB n) []=yc kN n λ_=>V.int 0:=by
 rw[px]
 . unfold jB yc;rw[c7];rfl
 . unfold jB;rw[c7];exact List.Pairwise.map _ (λa b c z=>c (qp z)) List.nodup_range
theorem Qf{n i:Nat}{f:Nat->V}{c:O aI×V}(h:(yc kN n f)[i]?=some c):i<n/\c=(kN i,f i):=by unfold yc at h;rw[bc]at h;obtain⟨j,a,rfl⟩:=cu.mp h;have b:=(c9.mp a).1;rw[c8]at b;rw[List.getElem?_range b]at a;cases a;exact⟨b,J⟩
theorem cE.same{b:Y}{r:O Int×V}(p:cE H b r)(s:Same H H'):cE H' b r:=let⟨a,d,c⟩:=p;⟨a,s _ _ d,s _ _ c⟩
theorem Xu{a:O Y}{rows:O (O Int×V)}(p:Paired (cE H) a rows)(s:Same H H'):Paired (cE H') a rows:=Paired.mapP p λ_ _ z=>cE.same z s
inductive ln(cP cR:Addr)(vs:List V)(H:Hp)(Q:VK)(e0:XK):Prop|mk:∀(x:Addr)(hs:aC)(R:Nat->Addr),vs=[.ref x]->cX hs->aV H cP cR hs R x->(∀d H',Same H H'->H d=none->H' d=some (.dT (yc kN hs.fs.length λ_=>V.int 0))->Q (.ref d) H')->ln cP cR vs H Q e0
section
variable{K:W.Frag}
theorem Em:aA ["self"] ["self"] (zi Yt):=.of
theorem Ea(D:qr K cP "at_first" "Plan.at_first" Yt)(T:Txt K mg)(CP:aK K cP bO)(CR:aK K cR aT):bZ P w K mg base cP "at_first" 1 ["self"] (ln cP cR):=by
 refine Zf (k:=0) D Em ?_;rintro f a5 A ag s H vs Q E hr ⟨x,r,R,rfl,W,⟨dx,vh,c,hx,ih,h,ap⟩,k⟩ X;have ao:=sQ hr;refine⟨_,zh (zp (nJ (xk (Q9 J ao) J T.dict Vu (zc (qf (own:=["hand","role"]) (cap:=[]) (g:=fN K 2 (cK (jz 0) (cK (jz 1) mn))) J (xo (zi Yt) J J (by decide+kernel) (by decide+kernel) (by decide+kernel) trivial) (Xw (zt (pv 0) J)) (λ_ _ _ _=>ki J (y6 (zu (i:=0) (by show(["hand","role"]:O Str).Nodup;decide+kernel)) (y6 (zu (i:=1) (by show(["hand","role"]:O Str).Nodup;decide+kernel)) ja)))
  (λ_ _ _ _=>Vk (Zv (t:=rO (lH K (jh 1) "call")) (Wo (zt (pv 1) J)))) (λ_ _ _ _=>yn (zc (pv 0) (zc zg zd)))) zd)))),?_⟩
 refine⟨c,_,h,trivial,λo=>?_⟩;have a:upd H c (.frz o (.dT (yc kN r.fs.length λi=>.ref (R i)))) c=some (.frz o (.dT (yc kN r.fs.length λi=>.ref (R i)))):=ze;have F:∀{b:Y}{u:HO},b≠c->H b=some u->upd H c (.frz o (.dT (yc kN r.fs.length λi=>.ref (R i)))) b=some u:=λ{b u} z e=>by rw[upd_ne z];exact e
 have n:∀{G:Hp},Same (upd H c (.frz o (.dT (yc kN r.fs.length λi=>.ref (R i))))) G->Same H (upd G c (.dT (yc kN r.fs.length λi=>.ref (R i)))):=λ{G} s b u e=>by by_cases z:b=c;rw[z]at e⊢;rw[ze,<-e,h];rw[upd_ne z];exact s _ _ (F z e)
 have fresh:∀{G:Hp},Same (upd H c (.frz o (.dT (yc kN r.fs.length λi=>.ref (R i))))) G->∀{b:Y},G b=none->H b=none:=λ{G} s b e=>by cases z:H b with|none=>rfl| some u=>by_cases zz:b=c;rw[zz,s _ _ a]at e;cases e;rw[s _ _ (F zz z)]at e;cases e
 generalize upd H c (.frz o (.dT (yc kN r.fs.length λi=>.ref (R i))))=Hf at a F n fresh⊢;have ah:=F (λz=>by rw[z,h]at hx;cases hx) hx;refine⟨x,cP,dx,_,_,J,ah,CP.cls,CP.n,jc,c,o,_,J,a,?_⟩;have a3:=W.n1;refine Qx (λi S t=>Same Hf t/\∃m:O Y,S=m.map V.ref/\Paired (cE t) m (jB i)) ⟨Same.refl _,[],J,.nil⟩ (λi S t hi ⟨j,m,e,v⟩=>⟨j _ _ a,?_⟩) ?_ ?_;have q:=Paired.length v;unfold jB at q;rw[xw]at hi;rw[e,ai,q,ai,c8];exact Nat.le_of_lt (yq (by omega));rintro i kv S t a1 ⟨j,m,rfl,v⟩ p b aw hb;obtain⟨hi,rfl⟩:=Qf a1;obtain⟨a2,vc,vs,ab,an,ac,Z,_⟩:=ap i hi;have av:=j _ _ (F (λz=>by rw[z,h]at Z;cases Z) Z);have y:=Same.new aw (.tup [.ref b,.ref (R i)]);have L:upd t p (.tup [.ref b,.ref (R i)]) p=some (.tup [.ref b,.ref (R i)]):=ze;have N:=y _ _ hb;generalize upd t p (.tup [.ref b,.ref (R i)])=H3 at y L N⊢;have ez:jB (i+1)=jB i++[([(i:Int)],V.int 0)]:=by unfold jB;rw[List.range_succ,be];rfl
 rw[ez];refine⟨p,_,J,aH.of L,J,_,_,J,_,_,J,J,?_⟩;refine⟨R i,cR,a2,_,_,J,y _ _ av,CR.cls,CR.n,Bz,_,J,yv ⟨aY,λp4 H4 B g ay=>⟨(j.trans y).trans B,m++[p4],by rw[be];rfl,Paired.snoc (Xu v (y.trans B)) ⟨b,ay,?_⟩⟩⟩⟩;rw[<-Z2];exact B _ _ N;rintro S t ⟨j,m,rfl,v⟩ l hl;rw[xw]at v;have U:=Same.new hl (.lst (m.map V.ref));refine⟨l,m,_,J,ze,Xu v U,λd H4 B g M=>?_⟩;have C:=(j.trans U).trans B;refine⟨C _ _ a,?_⟩;rw[Df]at M;have aS:d≠c:=λz=>by rw[z]at g;rw[(j.trans U) _ _ a]at g;cases g
 exact k d _ (n C) (fresh (j.trans U) g) (by rw[upd_ne aS];exact M)
end
end My
namespace L2
open PySem PySem.Spec PyProof.Rows
variable{b:Addr}{H:Hp}{M:List Addr}
inductive jK(x:V)(lo hi:Option Int)(H:Hp)(Q:VK):Prop|mk:∀ts,Is H (.tup ts) x->(∀v H',Same H H'->Is H' (.tup (Jq ts lo hi)) v->Q v H')->jK x lo hi H Q
theorem oY{X:Cx}:nV X jK:=by intro a s c H x v e d lo p g Q I j o l k h;obtain⟨f,m,q⟩:=h;exact zB a s c H x v e d lo p g Q I j o l k ⟨f,m.off0,λb r=>r.elim,λv t i n=>q v t i n.off⟩
noncomputable def without(M:List Addr)(H:Hp):Hp:=λb=>if b∈M then none else H b
theorem ql:Same (without M H) H:=λb o e=>by
 unfold without at e
 simp_all
theorem yw(h:b∈M):without M H b=none:=if_pos h
theorem xq(h:b ∉ M):without M H b=H b:=if_neg h
theorem Same.without{M:O Y}{H a:Hp}(s:Same H a)(h:∀m∈M,H m=none):Same H (without M a):=λb o e=>by
 have z:b ∉ M:=λz=>by simp_all
 rw[xq z];exact s b o e
theorem A8{a:Y}{o u:HO}(e:H a=some o):upd (upd H a u) a o=H:=by rw[BL];funext b;by_cases z:b=a;rw[z,ze,e];rw[upd_ne z]
end L2
namespace My
open PySem PySem.Spec PyProof.Rows L2
variable{ad al am as bh cP cR cU f k0 x xp:Addr}{A:Around}{base:Heap}{H H0:Hp}{outer:List Env}{l:List Nat}{b i j p:Nat}{P:Program}{s:Shared}{mg:Str->Option Value}{Q:VK}{cdv:Value}{w:World}{E:XK}
noncomputable def Y5:Stmt:=bG 50
noncomputable abbrev Za:Stmt:=(wo Y5).getD 0 eI
noncomputable abbrev oU:Stmt:=(wo Y5).getD 1 eI
noncomputable abbrev K5:Stmt:=(wo Y5).getD 2 eI
noncomputable abbrev K4:Stmt:=(wo Y5).getD 3 eI
noncomputable abbrev pF:Stmt:=(wo Y5).getD 4 eI
noncomputable abbrev oT:Stmt:=(wo Y5).getD 5 eI
noncomputable abbrev Vi:Stmt:=(wo Y5).getD 6 eI
noncomputable abbrev Xq:Stmt:=(wo Y5).getD 8 eI
noncomputable abbrev K7:Stmt:=(wo Y5).getD 9 eI
noncomputable abbrev Wj:Stmt:=(wo Y5).getD 10 eI
noncomputable def bF:List Str:=["plan","done","sums","comers","lifts"]
noncomputable def eU(B ad as F G:Addr):List (Str×V):=[(("plan":Str),.ref B),("done",.ref ad),("sums",.ref as),("comers",.ref F),("lifts",.ref G)]
theorem Xl:(eU xp ad as am al).lookup ("plan":Str)=some (.ref xp):=rfl
theorem v6:(eU xp ad as am al).lookup ("done":Str)=some (.ref ad):=rfl
theorem uu:(eU xp ad as am al).lookup ("sums":Str)=some (.ref as):=rfl
theorem Yp:(eU xp ad as am al).lookup ("comers":Str)=some (.ref am):=rfl
theorem Vx:(eU xp ad as am al).lookup ("lifts":Str)=some (.ref al):=rfl
theorem aV.role{a:aC}{R:Nat->Y}(p:aV H cP cR a R x)(b:i<a.fs.length):∃dx vh ar,H x=some (.ins cP dx (gY vh ar))/\H ar=some (.dT (yc kN a.fs.length λi=>.ref (R i)))/\y9 (yc kN a.fs.length λi=>V.ref (R i)) (kI [(i:Int)])=some (.ref (R i))/\aX (λ_=>True) H cR ((aD a).S i) ((aD a).cm i) (R i):=by obtain⟨dx,vh,ar,e,f,d,c⟩:=p;exact⟨dx,vh,ar,e,d,(Yo qp).trans (if_pos b),c i b⟩
theorem ng{a:aC}(W:cX a)(b:i<a.fs.length)(h:(aD a).cm i=true):a.w=1:=by
 obtain⟨c,_,d,_,_,_,e⟩:=mt W b;rcases W.w01 with z|z
 . rw[e,W.mw z c d]at h;cases h
 . exact z
noncomputable def z0:Nat->Nat:=λ_=>0
noncomputable def qu(l:List Nat):List (Nat×V):=l.map λj=>(j,V.int 0)
inductive gh(P:Program)(w:World)(cU cP cR:Addr)(vs:List V)(H:Hp)(Q:VK)(e0:XK):Prop| mk:∀(H0:Hp) (x dx xp ad am k0:Addr) (fs:List (Str×V)) (hs:aC) (R:Nat->Addr) (i:Nat) (vh:V) (l:List Nat),vs=[.ref x,vh,.int 0]->Same H0 H->H0 ad=none->H0 k0=none->H0 x=some (.ins cU dx fs)->fs.lookup ("plan":Str)=some (.ref xp)->fs.lookup ("done":Str)=some (.ref ad)->fs.lookup ("comers":Str)=some (.ref am)->aV H0 cP cR hs R xp->cX hs->i<hs.fs.length->Is H (tI [(i:Int)]) vh->H ad=some (.dT (yc kN i λ_=>V.int 0))->H0 am=some (.lst (List.replicate hs.w.toNat (.ref k0)))->(hs.w=1->aM bA P w H k0 (qu l))->i ∉ l->l.length<=i->
   (∀H',Bt [ad,k0] H H'->H' ad=some (.dT (yc kN (i+1) λ_=>V.int 0))->(hs.w=1->aM bA P w H' k0 (qu (l++if jo (aD hs) z0 i then[i]else[])))->Q .non H')->gh P w cU cP cR vs H Q e0
section
variable{K:W.Frag}
theorem sZ:aA ["self","hand","done","role","deeds","deed","wall","came"] ["self","hand","done"] (zi oU):=.of
theorem An(D:qr K cU "put" "Run.put" oU)(T:Txt K mg)(CU:aK K cU bF)(CP:aK K cP bO)(CR:aK K cR aT):bZ P w K mg base cU "put" 1 ["self","hand","done"] (gh P w cU cP cR):=by
 refine Zf D sZ ?_;rintro f ce A bC s H vs Q E hr ⟨H0,x,dx,xp,ad,am,c,fs,a,R,i,vh,l,rfl,s0,na,nk,hx,f1,f2,f3,PA,W,hi,bD,ao,a5,hg,bN,cc,k⟩ X;have hu:=jy hr;have bI:=Nat.lt_of_succ_lt (Xh hr);have nd:=sZ.nd;refine⟨_,zf (zv (i:=3) nd (vx hu (zt (zt (pv 0) J) J) (pv 1))) (zf (zv (i:=4) nd (Ql oY (zt (pv 3) J) pX (pY (pv 2)))) (zf (vj hu (zt (pv 0) J) (pv 1) (pv 2) J) (zf (wy PassesOwn.never J (jk (pv 4)) (zu (i:=5) nd) xz) (zh (nK (wy PassesOwn.never J (Dr (zt (pv 3) J)) (ki J (y6 (zu (i:=6) nd) (y6 (zu (i:=7) nd) ja))) (zh (yj (PW.pt (jj (zr nA (pv 2) (yf yh (by rfl) T.len wu (zc (zt (pv 3) J) zd)) (zo _)) (jn (zr Do (yn (zc zx (zc (pv 6) zd))) (pv 4) J)))) (zh (uw (τ:=bA) bI (zm yu (zt (pv 0) J) (pv 6)) (pv 1) (yt we (pv 7) (sP PySem.F.slot_tuple_count PySem.F.type_tuple_count (r:=gX) (DH (by exact hr.units)) (pv 4) (zc (yn (zc zx (zc (pv 6) zd))) zd))) J)) zn)))))))),?_⟩
 obtain⟨dp,vv,ar,hp,b1,bg,a7,vc,vs,ab,an,ac,r1,r2,r4,r5,S,_⟩:=PA.role hi;obtain⟨bh,rfl,a3⟩:=Yj bD;refine⟨x,cU,dx,_,_,J,s0 _ _ hx,CU.cls,CU.n,f1,xp,cP,dp,_,_,J,s0 _ _ hp,CP.cls,CP.n,jc,ar,_,J,bg▸DGet.t (s0 _ _ b1) a3,?_⟩;refine⟨R i,cR,a7,_,_,J,s0 _ _ r1,CR.cls,CR.n,q0,?_⟩;refine⟨0,J,_,(r2.mono s0),λv1 H1 s1 i1=>?_⟩;have e0:Jq (((aD a).S i).map eD) none (some 0)=[]:=by unfold Jq;have h2:HT.bH (((aD a).S i).map eD).length (((aD a).S i).map eD).length (some ((0:Nat):Int))=min 0 (((aD a).S i).map eD).length:=HT.nQ _ _ _;have h3:HT.bH (((aD a).S i).map eD).length (((aD a).S i).map eD).length (some 0)=0:=h2.trans (Nat.zero_min _);rw[h3,Nat.zero_sub,List.take_zero]
 rw[e0]at i1;obtain⟨a1,x1,rfl,a6,bM⟩:=i1;cases(bM);have bB:=s0.trans s1;refine⟨x,cU,dx,_,_,J,bB _ _ hx,CU.cls,CU.n,f2,ad,_,J,Zl.t (k:=kN i) (s1 _ _ ao) (s1 _ _ a3) (by rw[xw];exact yq (by have:=W.n1;omega)),?_⟩;rw[Zm qp,show(λj=>if j=i then V.int 0 else V.int 0)=(λ_=>V.int 0)from funext λj=>by split<;>rfl];have b2:Bt [ad] H (upd H1 ad (.dT (yc kN (i+1) λ_=>V.int 0))):=s1.bt.trans (Bt.upd (by simp));have q:upd H1 ad (.dT (yc kN (i+1) λ_=>V.int 0)) ad=some (.dT (yc kN (i+1) λ_=>V.int 0)):=ze;have ay:ym H (upd H1 ad (.dT (yc kN (i+1) λ_=>V.int 0))):=b2.tups λm d xs e=>by rw[aa.mp d,ao]at e;cases e
 have t:upd H1 ad (.dT (yc kN (i+1) λ_=>V.int 0)) a1=some (.tup []):=by rw[upd_ne (λz=>by rw[z,s1 _ _ ao]at a6;cases a6)];exact a6
 generalize upd H1 ad (.dT (yc kN (i+1) λ_=>V.int 0))=M at b2 q t ay⊢;have N:=b2.same s0 λm d=>by rw[aa.mp d];exact na
 refine⟨a1,J,⟨[],aH.of t⟩,?_⟩;refine X4 (λi' U H'=>M=H'/\U=[some (.ref x),some (.ref bh),some (.int 0),some (.ref (R i)),some (.ref a1),none,none,none]) ⟨J,J⟩ (λi U H' _ ⟨e,_⟩=>by rw[<-e];exact aH.of t) (λi y U H' hy _=>by cases hy) ?_;rintro U H' ⟨rfl,rfl⟩;refine⟨ac,_,N _ _ S,trivial,λo=>?_⟩;have hf:upd M ac (.frz o (.dK (xu ((aD a).cm i)))) ac=some (.frz o (.dK (xu ((aD a).cm i)))):=ze;have v:∀{b:Y}{u:HO},b≠ac->M b=some u->upd M ac (.frz o (.dK (xu ((aD a).cm i)))) b=some u:=λ{b u} z e=>by rw[upd_ne z];exact e
 have fk:∀{b:Y}{u:HO},b≠ac->upd M ac (.frz o (.dK (xu ((aD a).cm i)))) b=some u->M b=some u:=λ{b u} z e=>by rw[upd_ne z]at e;exact e
 have tf:ym M (upd M ac (.frz o (.dK (xu ((aD a).cm i))))):=ym.upd (N _ _ S) (λ_ z=>by cases z);have b6:upd (upd M ac (.frz o (.dK (xu ((aD a).cm i))))) ac (.dK (xu ((aD a).cm i)))=M:=A8 (N _ _ S);generalize upd M ac (.frz o (.dK (xu ((aD a).cm i))))=L at hf v fk tf b6⊢;have ba:R i≠ac:=λz=>by rw[z,S]at r1;cases r1
 refine⟨R i,cR,a7,_,_,J,v ba (N _ _ r1),CR.cls,CR.n,Vj,ac,o,_,J,hf,?_⟩;have Z:c≠ac:=λz=>by rw[z,S]at nk;cases nk
 have ag:ad≠ac:=λz=>by rw[z,S]at na;cases na
 have ah:a.w=1->aM bA P w L c (qu l)/\c≠ad:=λn=>by
  have g:=hg n;have g':=g;obtain⟨xs,e,_,_,_,_⟩:=g';have bb:c≠ad:=λz=>by rw[z,ao]at e;cases e
  refine⟨g.by (λb xs e=>tf _ _ (ay _ _ e)) ?_,bb⟩;rw[v Z (b2 _ _ (λd=>bb (aa.mp d)) e),e]
 have tk:∀{G:Hp},a.w=1->Bt [c] L G->ym L G:=λ{G} n b=>b.tups λm d xs e=>by obtain⟨⟨ys,e2,_,_,_,_⟩,_⟩:=ah n;rw[aa.mp d,e2]at e;cases e
 have B:jo (aD a) z0 i=((aD a).cm i && decide (0<((aD a).S i).length)):=by show((aD a).cm i && decide (0<((aD a).S i).length) && !(([]:yg).any jd))=_;simp
 have a8:∀{G:Hp}{l':O Nat},Bt [c] L G->(a.w=1->aM bA P w G c (qu l'))->l'=(l++if jo (aD a) z0 i then[i]else[])->G ad=L ad->G ac=some (.frz o (.dK (xu ((aD a).cm i))))/\Q .non (upd G ac (.dK (xu ((aD a).cm i)))):=λ{G l'} b g e ea=>by
  have bq:=b _ _ (λd=>Z (aa.mp d).symm) hf;refine⟨bq,k (upd G ac (.dK (xu ((aD a).cm i)))) (λy u hb e1=>?_) ?_ λn=>?_⟩
  . have y1:y≠ad:=λz=>hb (by rw[z];exact bv);have y2:y ∉ [c]:=λz=>hb (br _ z);have e2:=b2 _ _ (λd=>y1 (aa.mp d)) e1;by_cases z:y=ac
    . rw[z,ze,<-e2,z,N _ _ S]
    . rw[upd_ne z];exact b _ _ y2 (v z e2)
  . rw[upd_ne ag,ea];exact v ag q
  . rw[<-e];exact(g n).by (ym.upd bq λ_ z=>by cases z) (upd_ne Z)
 have bd:=v (λz=>by rw[z,S]at hx;cases hx) (N _ _ hx);have av:=v (λz=>by rw[z,S]at a5;cases a5) (N _ _ a5);have bn:=v (λz=>by rw[z,N _ _ S]at t;cases t) t;have bl:L bh=some (.tup ((kI [(i:Int)]).map kV)):=tf _ _ (ay _ _ a3);have bj:=v ba (N _ _ r1);refine D8 (λi' U G=>∃x6 x7,U=[some (.ref x),some (.ref bh),some (.int 0),some (.ref (R i)),some (.ref a1),none,x6,x7]/\Bt [c] L G/\G ad=L ad/\(a.w=1->aM bA P w G c (qu (if i'=0 then l else(l++if jo (aD a) z0 i then[i]else[]))))) ⟨none,none,J,Bt.refl,J,λn=>(ah n).1⟩ (λi' U G _ ⟨_,_,_,b,_⟩=>b _ _ (λd=>Z (aa.mp d).symm) hf) ?_ ?_
 . rintro i' kv U G C ⟨x6,x7,rfl,b,ea,g⟩ p hp;have bk:(aD a).cm i=true:=by cases z:(aD a).cm i with|true=>rfl|false=>rw[z]at C;cases C
   have n:=ng W hi bk;rw[bk]at C B;have b0:i'=0/\kv=((Sum.inl 0:aI),V.int 0):=by cases i' with|zero=>cases C;exact⟨J,J⟩|succ j=>cases C
   obtain⟨rfl,rfl⟩:=b0;have r:∀{y:Y}{o:HO},L y=some o->(∀φ,o≠ .ext φ)->y ∉ [c]:=λ{y o} e z d=>by obtain⟨⟨ys,e2,_,_,_,_⟩,_⟩:=ah n;rw[aa.mp d,e2]at e;exact z _ (Option.some.inj e).symm
   have sp:=Same.new hp (.tup [.int 0,.int 0]);have bK:upd G p (.tup [.int 0,.int 0]) p=some (.tup [.int 0,.int 0]):=ze;have b3:Bt [c] L (upd G p (.tup [.int 0,.int 0])):=b.trans sp.bt;have g3:aM bA P w (upd G p (.tup [.int 0,.int 0])) c (qu l):=(g n).same sp;have ap:upd G p (.tup [.int 0,.int 0]) ad=L ad:=by rw[upd_ne (λz=>by rw[z,hp,<-z,v ag q]at ea;cases ea),ea]
   rw[show upd G p (HO.tup [kV ((Sum.inl 0:aI),V.int 0).1,((Sum.inl 0:aI),V.int 0).2])=upd G p (.tup [.int 0,.int 0])from rfl];refine⟨p,_,J,aH.of bK,J,_,_,J,_,_,J,J,?_⟩;generalize upd G p (.tup [.int 0,.int 0])=G3 at sp b3 g3 ap⊢;have sS:=r2.mono N;obtain⟨aS,xS,rfl,bw,bL⟩:=sS;have bx:=bL.length;rw[ai]at bx;have bt:=b3 _ _ (r (tf _ _ bw) (by simp)) (tf _ _ bw);refine⟨R i,cR,a7,_,_,J,b3 _ _ (r bj (by simp)) bj,CR.cls,CR.n,q0,aS,xS,J,.inr (aH.of bt),_,_,J,J,_,J,?_⟩;rw[bx];have e1:(0+1=0)=False:=by simp
   by_cases c0:0<((aD a).S i).length
   . rw[ax (by omega)];have a2:jo (aD a) z0 i=true:=by rw[B,ax c0];rfl
     have e2:∀{G:Hp},aM bA P w G c (wc (qu l) i (.int (0+0)))->aM bA P w G c (qu (if 0+1=0 then l else(l++if jo (aD a) z0 i then[i]else[]))):=λ{G} g=>by
      have hn:y9 (qu l) i=none:=by unfold qu;rw[qy (k:=λj=>j) (λh=>h),if_neg bN]
      rw[Yc _ hn]at g;rw[a2];have:qu (l++[i])=qu l++[(i,V.int (0+0))]:=by unfold qu;rw[be];rfl
      simpa[this]using g
     refine yv ⟨aY,λp4 H4 s4 b9 b7=>?_⟩;have b4:=b3.trans (M:=[c]) s4.bt;have F:=b4 _ _ (r bn (by simp)) bn;refine⟨a1,J,F,_,J,yv ?_⟩;refine⟨⟨a1,[],J,F⟩,aY,λp5 H5 s5 b8 bJ=>?_⟩;have b5:=b4.trans (M:=[c]) s5.bt;refine⟨[],.tup [.str "come",.int 0],.ref p5,J,⟨a1,[],J,s5 _ _ F,J⟩,⟨p5,_,J,bJ,IsL.two J J⟩,(λ_ z=>nomatch z),(by decide+kernel),(by decide+kernel),_,_,J,J,?_⟩;have bE:List.replicate a.w.toNat (V.ref c)=[.ref c]:=by rw[n];rfl
     have aw:=b5 _ _ (r av (by simp)) av;rw[bE]at aw;have g5:=(g3.same s4).same s5;refine⟨x,cU,dx,_,_,J,b5 _ _ (r bd (by simp)) bd,CU.cls,CU.n,f3,am,_,_,_,J,J,aJ.of aw,J,?_⟩;refine⟨c,bh,qu l,i,J,J,g5,⟨bh,_,J,(by rw[<-Z2];exact b5 _ _ (r bl (by simp)) bl),IsL.ints.mpr J⟩,(by unfold qu;rw[ai];exact yq (by have:=W.n1;omega)),λo go=>?_⟩;refine⟨_,_,J,b5.trans (Bt.upd (by simp)),?_,λ_=>e2 go⟩;rw[upd_ne (aj (ah n).2),<-ap];have:G3 ad=some (.dT (yc kN (i+1) λ_=>V.int 0)):=by rw[ap];exact v ag q
     rw[this];exact s5 _ _ (s4 _ _ this)
   . rw[c5 (by omega)];have a2:jo (aD a) z0 i=false:=by rw[B,c5 c0];rfl
     refine yd (yd ⟨_,_,J,b3,ap,λ_=>?_⟩);rw[a2];simpa using g3
 . rintro U G ⟨x6,x7,rfl,b,ea,g⟩;refine a8 (l':=l++if jo (aD a) z0 i then[i]else[]) b (λn=>?_) J ea;have g:=g n;cases z:(aD a).cm i with|true=>rw[z]at g;exact g| false=>rw[z]at g B;rw[B];simpa[xu]using g
end
inductive gu(P:Program)(w:World)(cU:Addr)(vs:List V)(H:Hp)(Q:VK)(e0:XK):Prop|mk:∀(x dx am k0:Addr)(fs:List (Str×V))(kvs:List (Nat×V))(ns:List Int),vs=[.ref x,.int 0]->H x=some (.ins cU dx fs)->fs.lookup ("comers":Str)=some (.ref am)->H am=some (.lst [.ref k0])->aM bA P w H k0 kvs->kvs.map (·.2)=ns.map V.int->(∀H',Same H H'->Q (oI (dR none ns)) H')->gu P w cU vs H Q e0
section
variable{K:W.Frag}
theorem Cw:aA ["self","wall"] ["self","wall"] (zi K5):=.of
theorem Ce(D:qr K cU "least_come" "Run.least_come" K5)(T:Txt K mg)(m:mg "min"=none)(j:aK K cU bF):bZ P w K mg base cU "least_come" 1 ["self","wall"] (gu P w cU):=by refine Zf (k:=0) D Cw ?_;rintro f z A b s H F Q E G ⟨x,y,B,h,L,a,o,rfl,p,u,e,i,t,k⟩ X;refine⟨_,zh (zp (Bs J m J (zc (xk (D2 (τ:=bA) J) (by rfl) T.list X9 (zc (Bu (τ:=bA) (zm yu (zt (pv 0) J) (pv 1))) zd)) zd))),?_⟩;refine⟨x,cU,y,_,_,J,p,j.cls,j.n,u,B,_,_,_,J,J,aJ.of e,J,h,a,J,i,λv M g r c=>?_⟩;refine⟨v,h,a,J,c,i.same g,λl C n q d=>?_⟩;exact⟨l,o,J,aJ.of (by rw[d,t]),k C (g.trans n)⟩
end
inductive cT(H0:Hp)(cU cP cR:Addr)(hs:aC)(R:Nat->Addr)(x ad as al k0:Addr):Prop|mk:∀xp dx am,aV H0 cP cR hs R xp->H0 x=some (.ins cU dx (eU xp ad as am al))->H0 am=some (.lst (List.replicate hs.w.toNat (.ref k0)))->H0 ad=none->H0 as=none->H0 al=none->H0 k0=none->al≠as->(hs.w=0->k0=al)->cT H0 cU cP cR hs R x ad as al k0
noncomputable def wz(B:aC)(c:Nat->Nat):List (Nat×V):=(bP (aD B) c).map λi=>(i,V.int (vy ((aD B).S i) (c i):Int))
noncomputable def dD(B:aC)(c:Nat->Nat):List V:=(List.range B.b.toNat).map λb=>V.int (dM (aD B) c b)
noncomputable def yp(B:aC)(c:Nat->Nat):List (List aI×V):=yc kN B.fs.length λi=>V.int (c i:Int)
structure bQ(P:Program)(w:World)(H:Hp)(hs:aC)(ad as al k0:Addr)(c:Nat->Nat):Prop where
 d:H ad=some (.dT (yp hs c))
 s:H as=some (.lst (dD hs c))
 l:H al=some (.lst (List.replicate hs.w.toNat (oI (cJ (aD hs) c))))
 k:hs.w=1->aM bA P w H k0 (wz hs c)
theorem xv{a:Hp}{p:Addr}(s:Same H a)(h:a p=none):H p=none:=by cases e:H p with|none=>rfl|some o=>rw[s _ _ e]at h;cases h
theorem B3{h:HW}:dM h z0 b=0:=by
 unfold dM;have e:∀l:O Nat,(l.map λi=>cM (h.S i) (z0 i) b).sum=0:=λl=>by induction l with|nil=>rfl|cons a r c=>rw[c6,List.sum_cons,c];rfl
 exact e _
theorem B0{a:aC}:dD a z0=List.replicate a.b.toNat (V.int 0):=by unfold dD;rw[List.map_congr_left (g:=λ_=>V.int 0) λb _=>by rw[B3],List.map_const',c8]
inductive kH(P:Program)(w:World)(cU cP cR:Addr)(vs:List V)(H:Hp)(Q:VK)(e0:XK):Prop|mk:∀(G:Hp)(x dx xp d:Addr)(hs:aC)(R:Nat->Addr),vs=[.ref x,.ref xp,.ref d]->H x=some (.ins cU dx [])->Same G H->G x=none->G d=none->aV G cP cR hs R xp->cX hs->H d=some (.dT (yc kN hs.fs.length λ_=>V.int 0))->(∀ad as al k0 H0 H',Bt [x] H H0->Same H0 H'->cT H0 cU cP cR hs R x ad as al k0->bQ P w H' hs ad as al k0 z0->Q .non H')->kH P w cU cP cR vs H Q e0
section
variable{K:W.Frag}
theorem V3:aA ["self","plan","stand","hand","done"] ["self","plan","stand"] (zi Za):=.of
theorem Eh(D:lF K mg "Run" "Run.__init__" cU Za)(T:Txt K mg)(CU:aK K cU bF)(CP:aK K cP bO)(o1:bZ P w K mg base cU "put" 1 ["self","hand","done"] (gh P w cU cP cR))(o2:bZ P w K mg base cU "least_come" 1 ["self","wall"] (gu P w cU)):iu P w K mg base "Run" cU 2 ["self","plan","stand"] (kH P w cU cP cR):=by
 refine oB (k:=1) D V3 ?_;rintro f ev A dq s H vs Q E hr ⟨G,x,t,l,d,a,R,rfl,hx,sG,Gx,Gd,PA,W,hd,k⟩ X;have nd:=V3.nd;refine⟨_,zf (va (pv 0) (pv 1) rfl) (zf (va (pv 0) Zc rfl) (zf (va (pv 0) (yt sO (vm (zc zg zd)) (zm zk (zt (pv 1) rfl) (xi T.BOXES))) rfl) (zf (va (pv 0) (qf (own:=["wall"]) (cap:=[]) (te:=rY bA P w) rfl (xo (zi Za) rfl rfl (by decide+kernel) (by decide+kernel) (by decide+kernel) trivial) (wg rfl T.range (zc (zm zk (zt (pv 1) rfl) (xi T.WALLS)) zd)) (λ_ _ _ _=>zu (i:=0) (by show(["wall"]:O Str).Nodup;decide+kernel)) (λ_ _ _ _=>wb) (λ_ _ _ _=>Vm (τ:=bA))) rfl)
  (zf (nK (wy PassesOwn.never rfl (Xw (pv 2)) (ki rfl (y6 (zu (i:=3) nd) (y6 (zu (i:=4) nd) ja))) (zh (xn (v0 o1 CU.cls hr (pv 0) (zc (pv 3) (zc (pv 4) zd))))))) (zh (va (pv 0) (qf (own:=["wall"]) (cap:=[0]) rfl (xo (zi Za) rfl rfl (by decide+kernel) (by decide+kernel) (by decide+kernel) ⟨⟨_,rfl,.inl rfl,qw rfl⟩,trivial⟩) (wg rfl T.range (zc (zm zk (zt (pv 1) rfl) (xi T.WALLS)) zd)) (λ_ _ _ _=>zu (i:=0) (by show(["wall","self"]:O Str).Nodup;decide+kernel)) (λ_ _ _ _=>wb) (λ_ _ _ _=>v0 o2 CU.cls hr (pv 1) (zc (pv 0) zd))) rfl)))))),?_⟩
 obtain⟨dp,vh,ar,hp,ih,eu,eo⟩:=id PA;have et:=W.b0;have er:=W.b9;obtain⟨ah,xh,u0,rfl,ej,e0,en⟩:=Is.at (K:=K) (i:=0) (t:=.int a.b) ih rfl;refine⟨x,cU,t,[],rfl,hx,CU.cls,CU.n,aY,?_⟩;rw[show vn "plan" (.ref l) []=[(("plan":Str),V.ref l)] by rfl];have g1:upd H x (.ins cU t [(("plan":Str),V.ref l)]) x=_:=ze;have b1:Bt [x] H (upd H x (.ins cU t [(("plan":Str),V.ref l)])):=Bt.upd (by simp);generalize upd H x (.ins cU t [(("plan":Str),V.ref l)])=H1 at g1 b1⊢;intro ad C;have ay:ad≠x:=λz=>by rw[z,g1]at C;cases C
 have s2:=Same.new C (.dT []);have h2:upd H1 ad (.dT []) ad=some (.dT []):=ze;generalize upd H1 ad (.dT [])=H2 at s2 h2⊢;refine⟨x,cU,t,_,rfl,s2 _ _ g1,CU.cls,CU.n,aY,?_⟩;rw[show vn "done" (.ref ad) [(("plan":Str),V.ref l)]=[(("plan":Str),V.ref l),("done",.ref ad)] by rw[yx (by decide)];rfl];have g3:upd H2 x (.ins cU t [(("plan":Str),V.ref l),("done",.ref ad)]) x=_:=ze;have b3:Bt [x] H (upd H2 x (.ins cU t [(("plan":Str),V.ref l),("done",.ref ad)])):=(b1.trans s2.bt).trans (Bt.upd (by simp));have h3:upd H2 x (.ins cU t [(("plan":Str),V.ref l),("done",.ref ad)]) ad=_:=(upd_ne ay).trans h2;generalize upd H2 x (.ins cU t [(("plan":Str),V.ref l),("done",.ref ad)])=H3 at g3 b3 h3⊢;have sx:∀{J:Hp},Bt [x] H J->Same G J:=λ{J} b=>b.same sG λm v=>by rw[aa.mp v];exact Gx
 refine⟨aY,λp4 H4 s4 eq d1=>?_⟩;have b4:=b3.trans (M:=[x]) s4.bt;have bC:=sx b4;obtain⟨a',c4,u4,e',dg,e4,dT⟩:=Is.at (K:=K) (i:=0) (t:=.int a.b) (ih.mono bC) rfl;cases e';cases(show u4=.int a.b from dT);refine⟨l,cP,dp,_,_,rfl,bC _ _ hp,CP.cls,CP.n,Xx,ah,c4,_,_,rfl,rfl,dg,e4,p4,a.b,_,rfl,rfl,d1,(by omega),(by omega),(by show 1*a.b.toNat<=sizeLine;exact Nat.le_of_lt (yq (by omega))),λas U=>?_⟩;have c0:(List.replicate a.b.toNat [V.int 0]).flatten=List.replicate a.b.toNat (V.int 0):=by induction a.b.toNat with|zero=>rfl|succ n ih=>rw[List.replicate_succ,List.flatten_cons,ih,List.replicate_succ];rfl
 rw[c0];have s5:=Same.new U (.lst (List.replicate a.b.toNat (V.int 0)));have h5:upd H4 as (.lst (List.replicate a.b.toNat (V.int 0))) as=some (.lst (List.replicate a.b.toNat (V.int 0))):=ze;generalize upd H4 as (.lst (List.replicate a.b.toNat (V.int 0)))=H5 at s5 h5⊢;have a5:as≠x:=λz=>by rw[z,s4 _ _ g3]at U;cases U
 have bI:as≠ad:=λz=>by rw[z,s4 _ _ h3]at U;cases U
 refine⟨x,cU,t,_,rfl,s5 _ _ (s4 _ _ g3),CU.cls,CU.n,aY,?_⟩;rw[show vn "sums" (.ref as) [(("plan":Str),V.ref l),("done",.ref ad)]=[(("plan":Str),V.ref l),("done",.ref ad),("sums",.ref as)] by rw[yx (by decide),yx (by decide)];rfl];have g6:upd H5 x (.ins cU t [(("plan":Str),V.ref l),("done",.ref ad),("sums",.ref as)]) x=_:=ze;have b6:Bt [x] H (upd H5 x (.ins cU t [(("plan":Str),V.ref l),("done",.ref ad),("sums",.ref as)])):=(b4.trans s5.bt).trans (Bt.upd (by simp));have h6:upd H5 x (.ins cU t [(("plan":Str),V.ref l),("done",.ref ad),("sums",.ref as)]) ad=_:=(upd_ne ay).trans (s5 _ _ (s4 _ _ h3));have i6:upd H5 x (.ins cU t [(("plan":Str),V.ref l),("done",.ref ad),("sums",.ref as)]) as=_:=(upd_ne a5).trans h5;generalize upd H5 x (.ins cU t [(("plan":Str),V.ref l),("done",.ref ad),("sums",.ref as)])=H6 at g6 b6 h6 i6⊢;have bk:=sx b6;obtain⟨a',c3,u6,e',db,e6,dN⟩:=Is.at (K:=K) (i:=1) (t:=.int a.w) (ih.mono bk) rfl;cases e';cases(show u6=.int a.w from dN);have ek:a.w.toNat<=1/\(a.w.toNat:Int)=a.w:=by rcases W.w01 with z|z<;>rw[z]<;>decide
 refine⟨l,cP,dp,_,_,rfl,bk _ _ hp,CP.cls,CP.n,Xx,ah,c3,_,_,rfl,rfl,db,e6,?_⟩;refine⟨a.w,rfl,(by omega),(by omega),?_⟩;let ec:Nat->O V->Hp->Prop:=λi Z M=>Same H6 M/\Z.length=i/\∀y∈Z,∃h,y=.ref h/\H6 h=none/\aM bA P w M h [];refine jx (n:=a.w.toNat) ec ⟨Same.refl _,rfl,λ_ hy=>nomatch hy⟩ (λi Z _ hi ⟨_,e,_⟩=>by rw[e];exact vp (by omega)) (λi Z M hi ⟨sH,el,hy⟩=>?_) ?_
 . refine Q2 ?_;intro h o cc gk;have s7:=Same.new cc o;refine⟨sH.trans s7,by rw[cn,el];rfl,λy v=>?_⟩;rcases dc.mp v with z|z
   . obtain⟨k1,e1,e2,e3⟩:=hy y z;exact⟨k1,e1,e2,e3.same s7⟩
   . exact⟨h,aa.mp z,xv sH cc,gk⟩
 rintro Z M ⟨aw,el,hy⟩ r j;have bD:r≠x:=λz=>by rw[z,aw _ _ g6]at j;cases j
 obtain⟨h,dG,N,S⟩:∃h,Z=List.replicate a.w.toNat (.ref h)/\(a.w=0->h=ad)/\(a.w=1->H6 h=none/\aM bA P w M h []):=by
  rcases W.w01 with z|z
  . have:a.w.toNat=0:=by rw[z];rfl
    rw[this]at el⊢;exact⟨ad,List.length_eq_zero_iff.mp el,λ_=>rfl,λy=>by rw[z]at y;cases y⟩
  . have:a.w.toNat=1:=by rw[z];rfl
    rw[this]at el⊢
    match Z,el with| [y],_=>obtain⟨h,rfl,e2,e3⟩:=hy y bv;exact⟨h,rfl,(λy=>by rw[z]at y;cases y),λ_=>⟨e2,e3⟩⟩
 subst dG;have s7:=aw.trans (Same.new j (.lst (List.replicate a.w.toNat (.ref h))));have h7:upd M r (.lst (List.replicate a.w.toNat (.ref h))) r=some (.lst (List.replicate a.w.toNat (.ref h))):=ze;have g7:a.w=1->aM bA P w (upd M r (.lst (List.replicate a.w.toNat (.ref h)))) h []:=λz=>(S z).2.same (Same.new j _);generalize upd M r (.lst (List.replicate a.w.toNat (.ref h)))=H7 at s7 h7 g7⊢;have eg:H6 r=none:=xv aw j;refine⟨x,cU,t,_,rfl,s7 _ _ g6,CU.cls,CU.n,aY,?_⟩;rw[show vn "comers" (.ref r) [(("plan":Str),V.ref l),("done",.ref ad),("sums",.ref as)]=[(("plan":Str),V.ref l),("done",.ref ad),("sums",.ref as),("comers",.ref r)] by rw[yx (by decide),yx (by decide),yx (by decide)];rfl];have ce:=s7 _ _ g6;have g8:upd H7 x (.ins cU t [(("plan":Str),V.ref l),("done",.ref ad),("sums",.ref as),("comers",.ref r)]) x=_:=ze;have b8:Bt [x] H (upd H7 x (.ins cU t [(("plan":Str),V.ref l),("done",.ref ad),("sums",.ref as),("comers",.ref r)])):=(b6.trans s7.bt).trans (Bt.upd (by simp));have h8:upd H7 x (.ins cU t [(("plan":Str),V.ref l),("done",.ref ad),("sums",.ref as),("comers",.ref r)]) ad=_:=(upd_ne ay).trans (s7 _ _ h6);have i8:upd H7 x (.ins cU t [(("plan":Str),V.ref l),("done",.ref ad),("sums",.ref as),("comers",.ref r)]) as=_:=(upd_ne a5).trans (s7 _ _ i6);have j8:upd H7 x (.ins cU t [(("plan":Str),V.ref l),("done",.ref ad),("sums",.ref as),("comers",.ref r)]) r=_:=(upd_ne bD).trans h7;have k8:a.w=1->aM bA P w (upd H7 x (.ins cU t [(("plan":Str),V.ref l),("done",.ref ad),("sums",.ref as),("comers",.ref r)])) h []:=λz=>(g7 z).by (ym.upd ce λ_ y=>by cases y) (upd_ne λy=>by obtain⟨Z,e,_,_,_,_⟩:=g7 z;rw[y,ce]at e;cases e)
 generalize upd H7 x (.ins cU t [(("plan":Str),V.ref l),("done",.ref ad),("sums",.ref as),("comers",.ref r)])=H8 at g8 b8 h8 i8 j8 k8⊢;have a7:d≠x:=λz=>by rw[z,hx]at hd;cases hd
 have a8:=b8 d _ (λv=>a7 (aa.mp v)) hd;refine⟨d,_,a8,trivial,λo=>?_⟩;have a1:upd H8 d (.frz o (.dT (yc kN a.fs.length λ_=>V.int 0))) d=_:=ze;have aS:ad≠d:=λz=>by rw[z,b1 d _ (λv=>a7 (aa.mp v)) hd]at C;cases C
 have a6:a.w=1->h≠d/\h≠ad/\h≠as/\h≠x:=λz=>⟨(λy=>by obtain⟨Z,e,_,_,_,_⟩:=k8 z;rw[y,a8]at e;cases e),(λy=>by obtain⟨Z,e,_,_,_,_⟩:=k8 z;rw[y,h8]at e;cases e),(λy=>by obtain⟨Z,e,_,_,_,_⟩:=k8 z;rw[y,i8]at e;cases e),(λy=>by obtain⟨Z,e,_,_,_,_⟩:=k8 z;rw[y,g8]at e;cases e)⟩
 have nk:h≠d:=by
  rcases W.w01 with z|z
  . rw[N z];exact aS
  . exact(a6 z).1
 have sf:Same G (upd H8 d (.frz o (.dT (yc kN a.fs.length λ_=>V.int 0)))):=λb u e=>by rw[upd_ne (λz=>by rw[z,Gd]at e;cases e)];exact sx b8 b u e
 have gf:upd H8 d (.frz o (.dT (yc kN a.fs.length λ_=>V.int 0))) x=_:=(upd_ne (aj a7)).trans g8;have hf:upd H8 d (.frz o (.dT (yc kN a.fs.length λ_=>V.int 0))) ad=_:=(upd_ne aS).trans h8;have dv:r≠d:=λz=>by rw[z,aw _ _ (b6 d _ (λv=>a7 (aa.mp v)) hd)]at j;cases j
 have jf:upd H8 d (.frz o (.dT (yc kN a.fs.length λ_=>V.int 0))) r=_:=(upd_ne dv).trans j8;have kf:a.w=1->aM bA P w (upd H8 d (.frz o (.dT (yc kN a.fs.length λ_=>V.int 0)))) h []:=λz=>(k8 z).by (ym.upd a8 λ_ y=>by cases y) (upd_ne nk)
 have a2:∀{J:Hp},Bt [ad,h] (upd H8 d (.frz o (.dT (yc kN a.fs.length λ_=>V.int 0)))) J->Bt [ad,h] H8 (upd J d (.dT (yc kN a.fs.length λ_=>V.int 0))):=λ{J} b c u hc e=>by
  by_cases z:c=d
  . rw[z]at e⊢;rw[ze,<-e,a8]
  . rw[upd_ne z];exact b c u hc (by rw[upd_ne z];exact e)
 generalize upd H8 d (.frz o (.dT (yc kN a.fs.length λ_=>V.int 0)))=Hf at a1 sf gf hf jf kf a2⊢;have bg:G ad=none:=xv (sx b1) C;have Gk:G h=none:=by
  rcases W.w01 with z|z
  . rw[N z];exact bg
  . exact xv bk (S z).1
 refine⟨d,o,_,rfl,a1,?_⟩;have B:∀{y:Y},y≠ad->y≠h->y ∉ [ad,h]:=λh1 h2 v=>(ak.mp v).elim h1 λz=>h2 (aa.mp z);have a3:x ∉ [ad,h]:=B (aj ay) λy=>by
  rcases W.w01 with z|z
  . rw[N z]at y;exact ay y.symm
  . exact(a6 z).2.2.2 y.symm
 have ao:r ∉ [ad,h]:=B (λy=>by rw[y,aw _ _ h6]at j;cases j) λy=>by
  rcases W.w01 with z|z
  . rw[N z]at y;rw[y,aw _ _ h6]at j;cases j
  . obtain⟨Z,e,_,_,_,_⟩:=(S z).2;rw[y,e]at j;cases j
 let eb:Nat->L2.St->Hp->Prop:=λi σ M=>∃x3 x4,σ=[some (.ref x),some (.ref l),some (.ref d),x3,x4]/\Bt [ad,h] Hf M/\M ad=some (.dT (yc kN i λ_=>V.int 0))/\(a.w=1->aM bA P w M h (qu ((List.range i).filter (jo (aD a) z0))));refine CY (kvs:=yc kN a.fs.length λ_=>V.int 0) eb ⟨none,none,rfl,Bt.refl,hf,kf⟩ (λi σ M _ ⟨_,_,_,b,_⟩=>b _ _ (B (aj aS) (aj nk)) a1) ?_ ?_
 . rintro i kv σ M d2 ⟨x3,x4,rfl,b9,h9,g9⟩ p b dV hb;obtain⟨hi,rfl⟩:=Qf d2;have sp:=Same.new dV (.tup [.ref b,.int 0]);have b7:upd M p (.tup [.ref b,.int 0]) p=some (.tup [.ref b,.int 0]):=ze;rw[show upd M p (HO.tup [V.ref b,(kN i,V.int 0).2])=upd M p (.tup [.ref b,.int 0])from rfl];generalize upd M p (.tup [.ref b,.int 0])=Ha at sp b7⊢;have ba:=b9.trans (M:=[ad,h]) sp.bt;refine⟨p,_,rfl,aH.of b7,rfl,_,_,rfl,_,_,rfl,rfl,?_⟩;have gx:=ba _ _ a3 gf;have sa:Same G Ha:=ba.same sf λm v=>by
    rcases ak.mp v with z|z
    . rw[z];exact bg
    . rw[aa.mp z];exact Gk
   have wn:∀m∈[ad,h],G m=none:=λm v=>by
    rcases ak.mp v with z|z
    . rw[z];exact bg
    . rw[aa.mp z];exact Gk
   refine⟨x,t,_,rfl,gx,rfl,without [ad,h] Ha,x,t,l,ad,r,h,_,a,R,i,.ref b,(List.range i).filter (jo (aD a) z0),rfl,ql,yw (by simp),yw (by simp),by rw[xq a3];exact gx,rfl,rfl,rfl,PA.same (sa.without wn),W,hi,⟨b,_,rfl,sp _ _ (by rw[<-Z2];exact hb),IsL.ints.mpr rfl⟩,sp _ _ h9,by rw[xq ao];exact ba _ _ ao jf,λz=>(g9 z).same sp,λv=>by have:=bp.mp (d8.mp v).1;omega,cj (f6 ..) (by rw[c8];exact ae _),λHb bb d5 d6=>?_⟩;refine⟨_,_,rfl,ba.trans bb,d5,λz=>?_⟩;have g:=d6 z;rw[List.range_succ,List.filter_append];cases q:jo (aD a) z0 i with|true=>rw[q]at g;simpa[q]using g|false=>rw[q]at g;simpa[q]using g
 rintro σ H9 ⟨x3,x4,rfl,b9,h9,g9⟩;rw[xw]at h9 g9;refine⟨b9 _ _ (B (aj aS) (aj nk)) a1,?_⟩;have d4:=b9 _ _ (B (aj aS) (aj nk)) a1;have ap:=a2 b9;have bt:upd H9 d (.dT (yc kN a.fs.length λ_=>V.int 0)) ad=_:=(upd_ne aS).trans h9;have bx:a.w=1->aM bA P w (upd H9 d (.dT (yc kN a.fs.length λ_=>V.int 0))) h (qu ((List.range a.fs.length).filter (jo (aD a) z0))):=λz=>(g9 z).by (ym.upd d4 λ_ y=>by cases y) (upd_ne nk)
 generalize upd H9 d (.dT (yc kN a.fs.length λ_=>V.int 0))=Ht at ap bt bx⊢;have gt:=ap _ _ a3 g8;have dE:as ∉ [ad,h]:=B bI λy=>by
  rcases W.w01 with z|z
  . rw[N z]at y;exact bI y
  . exact(a6 z).2.2.1 y.symm
 have it:=ap _ _ dE i8;have jt:=ap _ _ ao j8;have bB:Same G Ht:=ap.same (sx b8) λm v=>by
  rcases ak.mp v with z|z
  . rw[z];exact bg
  . rw[aa.mp z];exact Gk
 obtain⟨a',c2,u9,e',da,e9,dK⟩:=Is.at (K:=K) (i:=1) (t:=.int a.w) (ih.mono bB) rfl;cases e';cases(show u9=.int a.w from dK);refine⟨l,cP,dp,_,_,rfl,bB _ _ hp,CP.cls,CP.n,Xx,ah,c2,_,_,rfl,rfl,da,e9,?_⟩;refine⟨a.w,rfl,(by omega),(by omega),?_⟩;let ea:Nat->O V->Hp->Prop:=λi Z M=>Same Ht M/\Z=List.replicate i (oI (cJ (aD a) z0));refine jx (n:=a.w.toNat) ea ⟨Same.refl _,rfl⟩ (λi Z _ hi ⟨_,e⟩=>by rw[e,fb];exact vp (by omega)) (λi Z M hi ⟨sH,ey⟩=>?_) ?_
 . refine Q2 ?_;have hw:a.w=1:=by omega
   have d3:i=0:=by omega
   subst d3;have b0:=sH _ _ jt;rw[show a.w.toNat=1 by rw[hw];rfl]at b0;refine⟨x,t,_,rfl,sH _ _ gt,rfl,x,t,r,h,_,_,(bP (aD a) z0).map λi=>(vy ((aD a).S i) (z0 i):Int),rfl,sH _ _ gt,rfl,b0,(bx hw).same sH,by unfold qu;rw[c7,c7];rfl,λez dh=>⟨sH.trans dh,by rw[ey];rfl⟩⟩
 rintro Z M ⟨sH,rfl⟩ F bj;have ag:=sH.trans (Same.new bj (.lst (List.replicate a.w.toNat (oI (cJ (aD a) z0)))));have co:upd M F (.lst (List.replicate a.w.toNat (oI (cJ (aD a) z0)))) F=some (.lst (List.replicate a.w.toNat (oI (cJ (aD a) z0)))):=ze;generalize upd M F (.lst (List.replicate a.w.toNat (oI (cJ (aD a) z0))))=av at ag co⊢;have L:Ht F=none:=xv sH bj;have bl:F≠x:=λz=>by rw[z,gt]at L;cases L
 have dr:F≠as:=λz=>by rw[z,it]at L;cases L
 have bq:F≠ad:=λz=>by rw[z,bt]at L;cases L
 have bE:F≠r:=λz=>by rw[z,jt]at L;cases L
 refine⟨x,cU,t,_,rfl,ag _ _ gt,CU.cls,CU.n,aY,?_⟩;rw[show vn "lifts" (.ref F) [(("plan":Str),V.ref l),("done",.ref ad),("sums",.ref as),("comers",.ref r)]=eU l ad as r F by rw[yx (by decide),yx (by decide),yx (by decide),yx (by decide)];rfl];have d9:=ag _ _ gt;have cs:upd av x (.ins cU t (eU l ad as r F)) x=_:=ze;have cl:upd av x (.ins cU t (eU l ad as r F)) ad=_:=(upd_ne ay).trans (ag _ _ bt);have b5:upd av x (.ins cU t (eU l ad as r F)) as=_:=(upd_ne a5).trans (ag _ _ it);have b2:upd av x (.ins cU t (eU l ad as r F)) r=_:=(upd_ne bD).trans (ag _ _ jt);have bN:upd av x (.ins cU t (eU l ad as r F)) F=_:=(upd_ne bl).trans co;have bM:a.w=1->aM bA P w (upd av x (.ins cU t (eU l ad as r F))) h (wz a z0):=λz=>((bx z).same ag).by (ym.upd d9 λ_ y=>by cases y) (upd_ne (a6 z).2.2.2)
 have c1:∀b u,b≠x->b ∉ [ad,h]->H8 b=some u->upd av x (.ins cU t (eU l ad as r F)) b=some u:=λb u z1 z2 e=>by rw[upd_ne z1];exact ag _ _ (ap b u z2 e)
 generalize upd av x (.ins cU t (eU l ad as r F))=bd at cs cl b5 b2 bN bM c1⊢;have ew:∀{b:Y},b≠x->H8 b=none->H b=none:=λ{b} z e=>by cases q:H b with|none=>rfl|some u=>rw[b8 b u (λv=>z (aa.mp v)) q]at e;cases e
 have dt:h≠x:=λy=>a3 (by rw[<-y];simp);have du:h≠r:=λy=>ao (by rw[<-y];simp);have bL:r≠ad:=λy=>ao (by rw[y];simp);have bK:r≠as:=λy=>by rw[y,aw _ _ i6]at j;cases j
 have cv:∀k1,k1≠x->k1≠r->(a.w=0->k1=F)->(a.w=1->k1=h)->(∀b u,H b=some u->b≠x->b≠k1)->Q .non bd:=λk1 n1 n2 n3 n4 n5=>by
  have ed:∀b u,H b=some u->b≠x->b ∉ [ad,as,F,k1]/\b≠h:=λb u e z=>by
   have bn:∀{J:Hp},Bt [x] H J->J b=none->False:=λ{J} bb f=>by rw[bb b u (λv=>z (aa.mp v)) e]at f;cases f
   have z2:b≠h:=λy=>by
    rcases W.w01 with q|q
    . rw[N q]at y;rw[y]at e z;rw[b1 _ _ (λv=>z (aa.mp v)) e]at C;cases C
    . rw[y]at e z;rw[b6 _ _ (λv=>z (aa.mp v)) e]at S;cases(S q).1
   refine⟨λv=>?_,z2⟩;simp only[ak,d7,or_false]at v;rcases v with y|y|y|y
   . subst y;exact bn b1 C
   . subst y;exact bn b4 U
   . subst y;have:=b8 b u (λv=>z (aa.mp v)) e;rw[ap b u (B bq z2) this]at L;cases L
   . exact n5 b u e z y
  have bw:Bt [x] H (without [ad,as,F,k1] bd):=λb u hb e=>by have z:b≠x:=λz=>hb (aa.mpr z);obtain⟨z1,z2⟩:=ed b u e z;rw[xq z1];exact c1 b u z (B (λq=>z1 (by rw[q];simp)) z2) (b8 b u hb e)
  refine k ad as F k1 (without [ad,as,F,k1] bd) bd bw ql ⟨l,t,r,PA.same (sx bw),?_,?_,yw (by simp),yw (by simp),yw (by simp),yw (by simp),dr,n3⟩ ⟨cl,by rw[b5,B0],bN,λz=>by rw[n4 z];exact bM z⟩
  . rw[xq (by simp[aj ay,aj a5,aj bl,aj n1])];exact cs
  . rw[xq (by simp[bL,bK,aj bE,aj n2]),b2];rcases W.w01 with z|z
    . rw[z];rfl
    . rw[n4 z]
 rcases W.w01 with z|z
 . refine cv F bl bE (λ_=>rfl) (λy=>by rw[z]at y;cases y) λb u e q y=>?_;have:=b8 b u (λv=>q (aa.mp v)) e;have bJ:b ∉ [ad,h]:=B (by rw[y];exact bq) (by rw[N z,y];exact bq);rw[y]at this bJ;rw[ap F u bJ this]at L;cases L
 . refine cv h dt du (λy=>by rw[z]at y;cases y) (λ_=>rfl) λb u e q y=>?_;have:=b6 b u (λv=>q (aa.mp v)) e;rw[y,(S z).1]at this;cases this
end
noncomputable abbrev Qc:Stmt:=bG 49
noncomputable abbrev Z9:Stmt:=bG 51
noncomputable def rq(l:Option Int)(n:Int):Bool:=match l with|none=>true|some k=>decide (k≥n)
inductive le(vs:List V)(H:Hp)(Q:VK)(e0:XK):Prop|mk:∀(l:Option Int)(n:Int),vs=[oI l,.int n]->Q (.bl (rq l n)) H->le vs H Q e0
inductive iM(P:Program)(w:World)(cU cP cR:Addr)(vs:List V)(H:Hp)(Q:VK)(e0:XK):Prop|mk:∀(xp:Addr)(hs:aC)(R:Nat->Addr),vs=[.ref xp]->aV H cP cR hs R xp->cX hs->(∀x ad as al k0 H0 H',Same H H0->Same H0 H'->H x=none->cT H0 cU cP cR hs R x ad as al k0->bQ P w H' hs ad as al k0 z0->Q (.ref x) H')->iM P w cU cP cR vs H Q e0
structure aU(P:Program)(w:World)(H0 H:Hp)(cU cP cR:Addr)(hs:aC)(R:Nat->Addr)(x ad as al k0:Addr)(c:Nat->Nat):Prop where
 f:cT H0 cU cP cR hs R x ad as al k0
 s:Same H0 H
 m:bQ P w H hs ad as al k0 c
structure cL(H0 H:Hp)(cU cP cR:Addr)(hs:aC)(R:Nat->Addr)(x ad as al k0:Addr)(c:Nat->Nat):Prop where
 f:cT H0 cU cP cR hs R x ad as al k0
 s:Same H0 H
 d:Rd H ad (.dT (yp hs c))
 u:H as=some (.lst (dD hs c))
 l:H al=some (.lst (List.replicate hs.w.toNat (oI (cJ (aD hs) c))))
section
variable{H':Hp}{hs:aC}{R:Nat->Addr}{c c':Nat->Nat}
theorem bQ.same(m:bQ P w H hs ad as al k0 c)(s:Same H H'):bQ P w H' hs ad as al k0 c:=⟨s _ _ m.d,s _ _ m.s,s _ _ m.l,λz=>(m.k z).same s⟩
theorem aU.same(r:aU P w H0 H cU cP cR hs R x ad as al k0 c)(s:Same H H'):aU P w H0 H' cU cP cR hs R x ad as al k0 c:=⟨r.f,r.s.trans s,r.m.same s⟩
theorem aU.bt(r:aU P w H0 H cU cP cR hs R x ad as al k0 c)(b:Bt [ad,as,al,k0] H H')(m:bQ P w H' hs ad as al k0 c'):aU P w H0 H' cU cP cR hs R x ad as al k0 c':=by refine⟨r.f,b.same r.s λa d=>?_,m⟩;obtain⟨e,j,k,_,_,_,i,h,g,f⟩:=r.f;simp only[ak,d7,or_false]at d;rcases d with z|z|z|z<;>rw[z]<;>assumption
theorem cL.same(r:cL H0 H cU cP cR hs R x ad as al k0 c)(s:Same H H'):cL H0 H' cU cP cR hs R x ad as al k0 c:=⟨r.f,r.s.trans s,r.d.elim (λe=>.inl (s _ _ e)) (λ⟨o,e⟩=>.inr ⟨o,s _ _ e⟩),s _ _ r.u,s _ _ r.l⟩
theorem aU.rd(r:aU P w H0 H cU cP cR hs R x ad as al k0 c):cL H0 H cU cP cR hs R x ad as al k0 c:=⟨r.f,r.s,.inl r.m.d,r.m.s,r.m.l⟩
theorem Y6(a:i<hs.fs.length):y9 (yp hs c) (kI [(i:Int)])=some (.int (c i:Int)):=(Yo qp).trans (if_pos a)
theorem _root_.L2.DGet.tr{a b:Y}{kvs:O (O aI×V)}{k:O aI}(e:Rd H a (.dT kvs))(c:H b=some (.tup (k.map kV))):DGet H a (.ref b) (y9 kvs k):=.inr ⟨kvs,k,b,e,J,c,J⟩
end
def jA(H:Hp)(d:Option aF)(v:V):Prop:=match d with|none=>v=.non|some d=>Is H (eD d) v
noncomputable def cZ(g:Nat):Str×Int:=if g=1000 then("go",0)else("await",(g:Int))
noncomputable def lS(B:aC)(c:Nat->Nat)(g:Nat):Option Int:=if g=1000 then cJ (aD B) c else some (dM (aD B) c g)
inductive gm(cU cP cR:Addr)(vs:List V)(H:Hp)(Q:VK)(e0:XK):Prop|mk:∀(H0:Hp)(x ad as al k0:Addr)(hs:aC)(R:Nat->Addr)(c:Nat->Nat)(i:Nat)(vh:V),vs=[.ref x,vh]->cL H0 H cU cP cR hs R x ad as al k0 c->i<hs.fs.length->cX hs->Is H (tI [(i:Int)]) vh->(∀v,jA H (((aD hs).S i)[c i]?) v->Q v H)->gm cU cP cR vs H Q e0
inductive kZ(cU cP cR:Addr)(vs:List V)(H:Hp)(Q:VK)(e0:XK):Prop|mk:∀(H0:Hp)(x ad as al k0:Addr)(hs:aC)(R:Nat->Addr)(c:Nat->Nat)(g:Nat)(v:V),vs=[.ref x,v]->cL H0 H cU cP cR hs R x ad as al k0 c->Is H (dH.tr (cZ g)) v->(g=1000->hs.w=1)->(g≠1000->g<hs.b.toNat)->Q (oI (lS hs c g)) H->kZ cU cP cR vs H Q e0
inductive gp(cU cP cR:Addr)(vs:List V)(H:Hp)(Q:VK)(e0:XK):Prop|mk:∀(H0:Hp)(x ad as al k0:Addr)(hs:aC)(R:Nat->Addr)(c:Nat->Nat)(i:Nat)(vh:V),vs=[.ref x,vh]->cL H0 H cU cP cR hs R x ad as al k0 c->i<hs.fs.length->cX hs->Is H (tI [(i:Int)]) vh->(∀H',Same H H'->Q (.bl (qd (aD hs) c i)) H')->gp cU cP cR vs H Q e0
theorem ox{c:Type}(a b:c)(r:O c):Jq (a::b::r) none (some 2)=[a,b]:=by unfold Jq;have e:HT.bH (a::b::r).length (a::b::r).length (some ((2:Nat):Int))=min 2 (a::b::r).length:=HT.nQ _ _ _;have d:HT.bH (a::b::r).length (a::b::r).length (some 2)=2:=e.trans (by rw[dm,dm];omega);rw[d,HT.mG];rfl
section
variable{K:W.Frag}
theorem Dz:aA ["level","need"] ["level","need"] (zi Qc):=.of
theorem Di(D:bU K mg "is_met" Qc):Ok P w K mg base "is_met" 1 ["level","need"] le:=by refine vo D Dz ?_;rintro f b A a s H c Q E d ⟨l,n,rfl,k⟩ X;refine⟨_,zh (zp (oZ (pB (Wo (pv 0))) (vg (xj oH (pv 0) (pv 1) (zo _))))),?_⟩;cases l with|none=>exact⟨_,J,yv k⟩|some l=>exact⟨_,J,yd ⟨_,_,J,J,k⟩⟩
theorem K2:aA ["plan"] ["plan"] (zi Z9):=⟨J,J,J,by simp,J,by decide+kernel,by decide+kernel⟩
theorem E3(D:bU K mg "first_run" Z9)(CP:aK K cP bO)(z:bZ P w K mg base cP "at_first" 1 ["self"] (ln cP cR))(y:iu P w K mg base "Run" cU 2 ["self","plan","stand"] (kH P w cU cP cR)):Ok P w K mg base "first_run" 4 ["plan"] (iM P w cU cP cR):=by
 refine vo D K2 ?_;rintro f M A i s H vs Q E q ⟨g,p,R,rfl,PA,W,k⟩ X;refine⟨_,zh (zp (nC y q (zc (pv 0) (zc (Vl z CP.cls (q.mono (by decide)) (pv 0)) zd)))),?_⟩;obtain⟨L,vh,ar,C,_⟩:=id PA;refine⟨g,L,_,J,C,J,g,p,R,J,W,PA,λd r a j m=>?_⟩;intro x n c l F;have h:Same r (upd (upd r n (.own x)) x (.ins cU n [])):=λb o e=>by rw[upd_ne (zj e c),upd_ne (zj e l)];exact e
 refine⟨H,x,n,g,d,p,R,J,ze,a.trans h,xv a c,j,PA,W,h _ _ m,λad as S B U Z N t v u=>⟨J,?_⟩⟩;refine k x ad as S B U Z (λb o e=>?_) t (xv a c) v u;refine N b o (λG=>?_) (h _ _ (a _ _ e));rw[aa.mp G,xv a c]at e;cases e
theorem uB:aA ["self","hand","script","place"] ["self","hand"] (zi pF):=.of
theorem Bg(D:qr K cU "next_deed" "Run.next_deed" pF)(T:Txt K mg)(l:aK K cU bF)(F:aK K cP bO)(CR:aK K cR aT):bZ P w K mg base cU "next_deed" 1 ["self","hand"] (gm cU cP cR):=by
 refine Zf D uB ?_;rintro f ag A m s H L Q E U ⟨H0,x,ad,as,al,k0,S,R,c,i,vh,rfl,a,z,W,n,k⟩ X;have y:=jy U;have t:=uB.nd;refine⟨_,zf (zv (i:=2) t (zt (vx y (zt (zt (pv 0) J) J) (pv 1)) J)) (zf (zv (i:=3) t (vx y (zt (pv 0) J) (pv 1))) (zh (zp (Xy (zr nA (pv 3) (yf yh J T.len wu (zc (pv 2) zd)) (zo _)) (zm zk (pv 2) (pv 3)) Wn)))),?_⟩
 obtain⟨G,B,am,PA,v,_⟩:=a.f;obtain⟨dp,vv,ar,Z,o,b,p,vc,L,ab,an,ac,N,M,_⟩:=PA.role z;obtain⟨bh,rfl,g⟩:=Yj n;obtain⟨C,r,rfl,h,d⟩:=M.mono a.s;have j:=d.length;rw[ai]at j;refine⟨x,cU,B,_,_,J,a.s _ _ v,l.cls,l.n,Xl,G,cP,dp,_,_,J,a.s _ _ Z,F.cls,F.n,jc,ar,_,J,b▸DGet.t (a.s _ _ o) g,R i,cR,p,_,_,J,a.s _ _ N,CR.cls,CR.n,q0,?_⟩;refine⟨x,cU,B,_,_,J,a.s _ _ v,l.cls,l.n,v6,ad,_,J,Y6 z▸DGet.tr a.d g,?_⟩;refine⟨C,r,J,.inr (aH.of h),_,_,J,J,_,J,?_⟩;rw[j];by_cases q:c i<((aD S).S i).length
 . rw[ax (by omega)];have e:=bi q;obtain⟨u,e1,e2⟩:=d.get (by rw[bc,e];rfl);refine yv ⟨C,r,_,u,J,J,aH.of h,y4 e1,k u ?_⟩;rw[e];exact e2
 . rw[c5 (by omega)];refine yd (k .non ?_);rw[ff (by omega)];rfl
theorem Cy:aA ["self","ground"] ["self","ground"] (zi K4):=.of
theorem Cf(D:qr K cU "level" "Run.level" K4)(d:aK K cU bF):bZ P w K mg base cU "level" 1 ["self","ground"] (kZ cU cP cR):=by
 refine Zf D Cy ?_;rintro f M A h s H U Q E hr ⟨H0,x,ad,as,N,Z,r,R,c,g,v,rfl,a,C,o,n,k⟩ X;refine⟨_,zh (zp (Xy (zr yz (zm zk (pv 1) zg) zx (zo _)) (zm yu (zt (pv 0) J) (zm zk (pv 1) zg)) (zm yu (zt (pv 0) J) (zm zk (pv 1) zg)))),?_⟩;obtain⟨S,t,am,PA,q,_⟩:=a.f;obtain⟨p,u,rfl,b,m⟩:=C;obtain⟨z,W,rfl,j,y,B,rfl,i,l⟩:=m;cases(show B=[]from l);cases(show z=.str (cZ g).1 from j);cases(show y=.int (cZ g).2 from i);refine⟨p,_,_,_,J,J,aH.of b,J,J,_,J,?_⟩;by_cases e:g=1000
 . subst e;have F:=o J;refine yd ⟨x,cU,t,_,_,J,a.s _ _ q,d.cls,d.n,Vx,p,_,_,_,J,J,aH.of b,J,N,_,_,_,J,J,aJ.of a.l,?_,k⟩;rw[F];rfl
 . have L:cZ g=(("await":Str),(g:Int)):=if_neg e;have G:lS r c g=some (dM (aD r) c g):=if_neg e;rw[L]at b⊢;rw[G]at k;refine yv ⟨x,cU,t,_,_,J,a.s _ _ q,d.cls,d.n,uu,p,_,_,_,J,J,aH.of b,J,as,_,_,_,J,J,aJ.of a.u,y4 ?_,k⟩;unfold dD;rw[bc,List.getElem?_range (n e)];rfl
end
theorem sF{a:aC}{c:Nat->Nat}{g:Nat}{k:Int}:rq (lS a c g) k=Y0 (aD a) c g k:=by
 unfold lS Y0;by_cases e:g=1000
 . rw[if_pos e,if_pos e];rfl
 . rw[if_neg e,if_neg e];rfl
theorem pK{a:aC}{b:Int}(c:0<=b)(e:b<a.b)(d:a.b<=99):cZ b.toNat=(("await":Str),b):=by unfold cZ;rw[if_neg (by omega),Int.toNat_of_nonneg c]
noncomputable def lB(l:List Nat):T:=.lst (l.map λg=>dH.tr (cZ g))
section
variable{K:W.Frag}
theorem sY:aA ["self","hand","deed","need"] ["self","hand"] (zi oT):=.of
theorem Am(D:qr K cU "may_go_on" "Run.may_go_on" oT)(n:aK K cU bF)(CP:aK K cP bO)(CR:aK K cR aT)(o1:bZ P w K mg base cU "next_deed" 1 ["self","hand"] (gm cU cP cR))(o2:bZ P w K mg base cU "level" 1 ["self","ground"] (kZ cU cP cR))(o3:Ok P w K mg base "is_met" 1 ["level","need"] le):bZ P w K mg base cU "may_go_on" 2 ["self","hand"] (gp cU cP cR):=by
 refine Zf D sY ?_;rintro f ap A G s H vs Q E B ⟨H0,x,ad,as,al,L,j,R,c,i,vh,rfl,a,C,W,p,k⟩ X;have hu:=jy B;have nd:=sY.nd;refine⟨_,zf (zv (i:=2) nd (v0 o1 n.cls B (pv 0) (zc (pv 1) zd))) (zf (yj (Zv (Wo (pv 2))) (zh (zp qg)) zn) (zf (zv (i:=3) nd (zm yu (zt (vx hu (zt (zt (pv 0) J) J) (pv 1)) J) (vx hu (zt (pv 0) J) (pv 1)))) (zh (zp (oZ (pB (Wo (pv 3))) (vg (ye o3 B (zc (v0 o2 n.cls B (pv 0) (zc (Ql oY (pv 2) pX (pY zg)) zd)) (zc (pv 3) zd))))))))),?_⟩
 obtain⟨xp,y,am,PA,r,_⟩:=id a.f;refine⟨x,y,_,J,a.s _ _ r,J,H0,x,ad,as,al,L,j,R,c,i,vh,J,a,C,W,p,λv h=>?_⟩;unfold qd at k;cases e:((aD j).S i)[c i]? with
 | none=>rw[e]at h k;cases(show v=.non from h);exact⟨_,J,yv (k H (Same.refl H))⟩
 | some d=>
   rw[e]at h k;have h:Is H (eD d) v:=h;have g:=Jb W C e;obtain⟨rr,M⟩:=Zi d;obtain⟨a5,x5,rfl,ao,ah⟩:=(M▸h)
   refine⟨_,J,yd ?_⟩;obtain⟨dp,vv,ar,hp,U,t,Z,vc,vs,ab,an,ac,r1,r2,r4,r5,_⟩:=PA.role C;obtain⟨bh,rfl,u⟩:=Yj p;have N:=(c9.mp e).1;refine⟨x,cU,y,_,_,J,a.s _ _ r,n.cls,n.n,Xl,xp,cP,dp,_,_,J,a.s _ _ hp,CP.cls,CP.n,jc,ar,_,J,t▸DGet.t (a.s _ _ U) u,R i,cR,Z,_,_,J,a.s _ _ r1,CR.cls,CR.n,vK,?_⟩;refine⟨x,cU,y,_,_,J,a.s _ _ r,n.cls,n.n,v6,ad,_,J,Y6 C▸DGet.tr a.d u,an,_,_,Qs ((aD j).S i) (c i) d,J,J,aJ.of (a.s _ _ r5),y4 (Ag N e),?_⟩;cases d with
   | awa b m=>obtain⟨l,S⟩:=g;refine⟨_,J,yd ?_⟩;refine⟨x,y,_,J,a.s _ _ r,J,2,J,_,h,λF H2 o q=>?_⟩;rw[ox]at q;have e2:=pK l S W.b9;have ag:=W.b9;refine⟨H0,x,ad,as,al,L,j,R,c,b.toNat,F,J,a.same o,by rw[e2];exact q,λz=>by omega,λ_=>by omega,lS j c b.toNat,m,J,?_⟩;rw[sF];exact k H2 o
   | goo b=>obtain⟨l,hw⟩:=g;cases(show b=0 from l);refine⟨_,J,yd ?_⟩;refine⟨x,y,_,J,a.s _ _ r,J,2,J,_,h,λF H2 o q=>?_⟩;rw[ox]at q;refine⟨H0,x,ad,as,al,L,j,R,c,1000,F,J,a.same o,q,λ_=>hw,λz=>absurd J z,lS j c 1000,_,J,?_⟩;rw[sF];exact k H2 o
   |say x=>exact g.elim
   |beg s ms=>exact g.elim
   |_=>exact⟨_,J,yv (k H (Same.refl H))⟩
inductive fJ(P:Program)(w:World)(cU cP cR:Addr)(vs:List V)(H:Hp)(Q:VK)(e0:XK):Prop| mk:∀(H0:Hp) (x ad as al k0 lw:Addr) (vd:V) (d:aF) (hs:aC) (R:Nat->Addr) (lf lf':Option Int) (ws:Bool) (kvs:List (Nat×V)) (ns:List Int),vs=[.ref x,vd,.ref lw]->cT H0 cU cP cR hs R x ad as al k0->cX hs->Same H0 H->Is H (eD d) vd->mZ hs d->H lw=some (.lst (if ws then[.int 0]else[]))->H al=some (.lst (List.replicate hs.w.toNat (oI lf)))->lw≠al->(ws=true->hs.w=1/\aM bA P w H k0 kvs/\kvs.map (·.2)=ns.map V.int/\lf'=dR none ns)->(ws=false->lf'=lf)->
   (∀l H',Bt [al] H H'->H l=none->H' al=some (.lst (List.replicate hs.w.toNat (oI lf')))->Is H' (lB (Wl d++if lf'=lf then[]else[1000])) (.ref l)->Q (.ref l) H')->fJ P w cU cP cR vs H Q e0
theorem V4:aA ["self","deed","walls","grounds","wall","lift"] ["self","deed","walls"] (zi Wj):=.of
theorem Ec (D:qr K cU "changed" "Run.changed" Wj) (CU:aK K cU bF) (o1:bZ P w K mg base cU "least_come" 1 ["self","wall"] (gu P w cU)):bZ P w K mg base cU "changed" 2 ["self","deed","walls"] (fJ P w cU cP cR):=by
 refine Zf (k:=1) D V4 ?_;rintro f c0 A bn s H vs Q E hr ⟨H0,x,ad,as,h,k0,lw,vd,d,hs,R,n,a,ws,a7,ns,rfl,RF,W,s0,hd,b2,S,ap,bB,bI,bb,k⟩ X;have nd:=V4.nd;refine⟨_,zf (zv (i:=3) nd (Xy (zr yz (zm zk (pv 1) zg) zx (zo _)) (vm (zc (yn (zc zx (zc (zm zk (pv 1) zg) zd))) zd)) (vm zd))) (zf (wy PassesOwn.never J (Yu (pv 2)) (zu (i:=4) nd) (zf (zv (i:=5) nd (v0 o1 CU.cls hr (pv 0) (zc (pv 4) zd))) (zh (yj (zr Qp (pv 5) (zm yu (zt (pv 0) J) (pv 4)) (zo _)) (zf (Qg (pv 5) (Qk (zt (pv 0) J) (pv 4) k7)) (zh (xn (Zd PySem.F.plainAttrs_list PySem.F.slot_list_append PySem.F.type_list_append wj (pv 3) (zc (yn (zc zx (zc (pv 4) zd))) zd))))) zn))))
  (zh (zp (pv 3)))),?_⟩
 obtain ⟨xp, dx,am,PA,hx,L,co,cl,a3,nk⟩:=id RF;obtain⟨r,bL⟩:=Zi d;obtain⟨a5,bj,u5,rfl,bl,cc,bK⟩:=Is.at (K:=K) (i:=0) (t:=.str (dw d)) (bL▸hd) J;cases(show u5=.str (dw d)from bK);have av:∀(l:Addr) (v:Hp),Same H v->H l=none->Is v (lB (Wl d)) (.ref l)->cA (jz 4) (oz (nu (my cU "least_come" (gu P w cU) [] E0 (jh 0) (jr (jh 4) Wd)) (jz 5)) (rM (si (kD wH (jh 5) (kD (fK X.K) (lH X.K (jh 0) "lifts") (jh 4)))) (oz (nu (jh 5) (rj (lH X.K (jh 0) "lifts") (jh 4) gQ)) (mx (mF X.K "list" bT (jh 3) (jr (mz (jr (tC (.str "go")) (jr (jh 4) Wd))) Wd)))) r9)) ((Ends.of Q).sq (rL (jh 3))) [some (.ref x),some (.ref a5),some (.ref lw),some (.ref l),none,none] (m8 X.K lw) v:=by
  intro l v u Z il;have ah:=s0.trans u;obtain⟨l',xl,el,F,a8⟩:=il;cases el;have a2:l≠h:=λz=>by rw[z,ap]at Z;cases Z
  have bC:l≠lw:=λz=>by rw[z,S]at Z;cases Z
  have t2:∀{G:Hp},Bt [h,l] v G->ym v G:=λ{G} b=>b.tups λm hm xs e=>by
   rcases ak.mp hm with z|z
   . rw[z,u _ _ ap]at e;cases e
   . rw[aa.mp z,F]at e;cases e
  have cs:xl.length<=1:=by rw[a8.length,ai];cases d<;>first|exact bo _|exact ae _
  have nn:∀{y:Addr}{o:HO},v y=some o->y≠h->y≠l->y ∉ [h,l]:=λ{y o} _ h1 h2 hm=>(ak.mp hm).elim h1 λz=>h2 (aa.mp z);refine Q4 (K:=X.K) (xs:=if ws then[.int 0]else[]) (λi σ H'=>∃x4 x5,σ=[some (.ref x),some (.ref a5),some (.ref lw),some (.ref l),x4,x5]/\Bt [h,l] v H'/\H' h=some (.lst (List.replicate hs.w.toNat (oI (if i=0 then n else a))))/\Is H' (lB (Wl d++if i=0\/a=n then[]else[1000])) (.ref l))
   ⟨none,none,J,Bt.refl,u _ _ ap,by simpa using⟨l,xl,J,F,a8⟩⟩ (λi σ H' _ ⟨_,_,_,b,_⟩=>aJ.of (b _ _ (nn (u _ _ S) bB (aj bC)) (u _ _ S))) ?_ ?_
  . rintro i y σ H' hy ⟨x4,x5,rfl,b,c,C⟩;cases N:ws with|false=>rw[N]at hy;cases hy| true =>
      rw[N]at hy;have hi:i=0/\y=.int 0:=by cases i with|zero=>cases hy;exact⟨J,J⟩|succ j=>cases hy
      obtain⟨rfl,rfl⟩:=hi;obtain⟨hw,hg,hn,b0⟩:=bI N;have b5:=hg;obtain⟨ys,ek,_,_,_,_⟩:=b5;have a1:=u _ _ ek;have bD:k0≠l:=λz=>by rw[z,Z]at ek;cases ek
      have bE:k0≠h:=λz=>by rw[z,ap]at ek;cases ek
      have g2:aM bA P w H' k0 a7:=(hg.same u).by (t2 b) (by rw[b _ _ (nn a1 bE bD) a1,a1])
      have bt:x≠h:=λz=>by rw[z,a3]at hx;cases hx
      have bq:x≠l:=λz=>by rw[<-z,s0 _ _ hx]at Z;cases Z
      have ao:=b _ _ (nn (ah _ _ hx) bt bq) (ah _ _ hx);have bx:am≠h:=λz=>by rw[z,a3]at L;cases L
      have bw:am≠l:=λz=>by rw[z]at L;rw[s0 _ _ L]at Z;cases Z
      have aw:=b _ _ (nn (ah _ _ L) bx bw) (ah _ _ L);have ay:hs.w.toNat=1:=by rw[hw];rfl
      rw[ay]at aw c;refine⟨x,dx,_,J,ao,J,x,dx,am,k0,_,a7,ns,J,ao,Yp,aw,g2,hn,λH3 s3=>?_⟩;rw[<-b0];have B:=s3 _ _ c;have ba:=C.mono s3;have b3:=b.trans (M:=[h,l]) s3.bt;refine⟨x,cU,dx,_,_,J,s3 _ _ ao,CU.cls,CU.n,Vx,h,_,_,oI n,J,J,aJ.of B,J,(by cases a<;>cases n<;>rfl),_,J,?_⟩;have b8:decide (oI a=oI n)=decide (a=n):=by rw[Bool.eq_iff_iff,decide_eq_true_eq,decide_eq_true_eq];cases a<;>cases n<;>simp[oI]
      rw[b8];by_cases q:a=n
      . rw[ax q];refine yd ⟨_,_,J,b3,?_,?_⟩
        . rw[B,ay,q];simp
        . simpa[q]using ba
      . rw [c5 q];refine yv ⟨x,cU,dx,_,_,J,s3 _ _ ao,CU.cls,CU.n,Vx,h,_,0,0,J,J,B,J,?_⟩;obtain⟨l',ag,ce,b1,M⟩:=ba;cases ce;have b4:Bt [h,l] v (upd H3 h (.lst ([oI n].set 0 (oI a)))):=b3.trans (Bt.upd (by simp));have t4:ym H3 (upd H3 h (.lst ([oI n].set 0 (oI a)))):=ym.upd B λ_ z=>by cases z
        have h4:upd H3 h (.lst ([oI n].set 0 (oI a))) h=some (.lst [oI a]):=ze;have U:upd H3 h (.lst ([oI n].set 0 (oI a))) l=some (.lst ag):=by rw[upd_ne a2];exact b1
        rw[show(List.replicate 1 (oI (if 0=0 then n else a))).set 0 (oI a)=[oI n].set 0 (oI a)from rfl];generalize upd H3 h (.lst ([oI n].set 0 (oI a)))=H4 at b4 t4 h4 U⊢;refine⟨.inl ⟨J,_,aJ.of U⟩,aY,λp H5 s5 bd bM=>⟨l,ag,.ref p,J,J,s5 _ _ U,?_,?_⟩⟩
        . have:=M.length;rw[ai]at this;have e:(Wl d++if 0=0\/a=n then([]:List Nat)else[1000]).length<=1:=by simp only[true_or,if_true,eh];cases d<;>first|exact bo _|exact ae _
          exact yq (by omega)
        . have t5:ym H5 (upd H5 l (.lst (ag++[.ref p]))):=ym.upd (s5 _ _ U) λ_ z=>by cases z
          refine⟨_,_,J,(b4.trans s5.bt).trans (Bt.upd (by simp)),?_,⟨l,_,J,ze,?_⟩⟩
          . rw[upd_ne (aj a2),s5 _ _ h4,ay];rfl
          . have h6:upd H5 l (.lst (ag++[.ref p])) p=some (.tup [.str "go",.int 0]):=by rw[upd_ne (λz=>by rw[z,U]at bd;cases bd)];exact bM
            have e1:(Wl d++if 0=0\/a=n then([]:List Nat)else[1000])=Wl d:=by simp
            have e2:(Wl d++if 0+1=0\/a=n then([]:List Nat)else[1000])=Wl d++[1000]:=by simp[q]
            rw[e1]at M;rw[e2,be];have fr:qj ((Wl d).map λg=>dH.tr (cZ g)):=by rw[qj.all];intro t ht;obtain⟨g,_,rfl⟩:=ci.mp ht;exact dH.fro _
            have q1:=(M.tups t4 fr).mono s5;exact(q1.tups t5 fr).append (IsL.one ⟨p,_,J,h6,IsL.two J J⟩)
  . rintro σ H' ⟨x4,x5,rfl,b,c,C⟩;refine k l H' (λy o hy e=>b y o (λhm=>?_) (u _ _ e)) Z ?_ ?_
    . rcases ak.mp hm with z|z
      . exact hy (aa.mpr z)
      . rw[aa.mp z,Z]at e;cases e
    . cases N:ws with|true=>rw[N]at c;exact c|false=>rw[N]at c;rw[c,bb N];rfl
    . cases N:ws with|true=>rw[N]at C;simpa using C|false=>rw[N]at C;simpa[bb N]using C
 refine⟨a5,bj,_,_,J,J,bl,cc,J,_,J,?_⟩;cases d with| rai b m=>
   obtain⟨b7,b6⟩:=b2;obtain⟨a6,bg,u6,e6,bk,b9,bJ⟩:=Is.at (K:=K) (i:=1) (t:=.int b) hd J;cases e6;cases(show u6=.int b from bJ);refine yv ⟨a5,bg,_,_,J,J,bk,b9,aY,λp H1 s1 cv bN=>⟨aY,λl v u aS F=>?_⟩⟩;have e2:=pK b7 b6 W.b9;have iL:Is v (lB (Wl (.rai b m))) (.ref l):=⟨l,_,J,F,IsL.one (by show Is v (.tup [.str (cZ b.toNat).1,.int (cZ b.toNat).2]) _;rw[e2];exact⟨p,_,J,u _ _ bN,IsL.two J J⟩)⟩
   exact⟨lw,J,⟨_,aJ.of ((s1.trans u) _ _ S)⟩,av l v (s1.trans u) (xv s1 aS) iL⟩| _=>exact yd ⟨bo _,λl v u aS F=>⟨lw,J,⟨_,aJ.of (u _ _ S)⟩,av l v u aS ⟨l,_,J,F,J⟩⟩⟩
end
section
variable{h:HW}{c:Nat->Nat}{d:aF}
theorem Zj:aP c i i=c i+1:=if_pos J
theorem Wy(z:j≠i):aP c i j=c j:=if_neg z
theorem Wp{s:yg}(e:s[p]?=some d):vy s (p+1)=vy s p+if jl d then 1 else 0:=by unfold vy;rw[cy,e,List.countP_append];show _+List.countP jl [d]=_;rw[List.countP_cons,List.countP_nil,Nat.zero_add]
theorem C2{s:yg}(e:s[p]?=some d):Zg s (p+1)=(Zg s p ||jd d):=by unfold Zg;rw[cy,e,List.any_append];simp
noncomputable def Jm(h:HW)(c:Nat->Nat)(i:Nat)(d:aF):Bool:=jd d ||decide (c i+1=(h.S i).length)
theorem uq(e:(h.S i)[c i]?=some d):bP h (aP c i)=if Jm h c i d then(bP h c).filter (λj=>decide (j≠i))else bP h c:=by
 have a:=(c9.mp e).1;unfold bP;have m:∀j,jo h (aP c i) j=if j=i then(jo h c i && !(Jm h c i d))else jo h c j:=λj=>by
  by_cases z:j=i
  . subst z;rw[if_pos J];unfold jo Jm;rw[Zj,C2 e];by_cases q:c j+1=(h.S j).length
    . rw[ax q,c5 (by omega:¬c j+1<(h.S j).length)];simp
    . rw[c5 q,ax (by omega:c j+1<(h.S j).length),ax a];cases h.cm j<;>cases Zg (h.S j) (c j)<;>cases jd d<;>rfl
  . rw[if_neg z];unfold jo;rw[Wy z]
 cases q:Jm h c i d with
 | false=>
   rw[if_neg bu];refine List.filter_congr λj _=>?_;rw[m,q];by_cases z:j=i
   . rw[if_pos z,z];simp
   . rw[if_neg z]
 | true=>
   rw[if_pos J,List.filter_filter];refine List.filter_congr λj _=>?_;rw[m,q];by_cases z:j=i
   . rw[if_pos z,z];simp
   . rw[if_neg z,ax z,Bool.true_and]
theorem su(m:j∈bP h c):j<h.n/\jo h c j=true:=⟨bp.mp (d8.mp m).1,(d8.mp m).2⟩
theorem zL:(bP h c).Nodup:=List.nodup_range.sublist List.filter_sublist
theorem BH{x k:Int}(f:i<h.n)(e:(h.S i)[c i]?=some (.rai x k))(g:x.toNat=b):dM h (aP c i) b=dM h c b+k:=by
 unfold dM;have a:∀n,((List.range n).map λj=>cM (h.S j) (aP c i j) b).sum=((List.range n).map λj=>cM (h.S j) (c j) b).sum+if i<n then k else 0:=by
  intro n;induction n with|zero=>rfl| succ n d=>
    rw[List.range_succ,be,be,List.sum_append,List.sum_append,d];simp only[c6,List.map_nil,List.sum_cons,List.sum_nil];by_cases z:n=i
    . subst z;rw[Zj,if_neg (cp _),if_pos (dz _)];have:cM (h.S n) (c n+1) b=cM (h.S n) (c n) b+k:=by unfold cM;rw[cy,e,be,List.sum_append];have:Wz b (.rai x k)=k:=if_pos g;simp[this]
      rw[this];omega
    . rw[Wy z];by_cases q:i<n
      . rw[if_pos q,if_pos (by omega)];omega
      . rw[if_neg q,if_neg (by omega)];omega
 rw[a,if_pos f]
theorem uY(e:(h.S i)[c i]?=some d)(f:jl d=false\/i ∉ bP h c)(b:Jm h c i d=false\/i ∉ bP h c):cJ h (aP c i)=cJ h c:=by
 unfold cJ;have g:bP h (aP c i)=bP h c:=by
  rw[uq e];rcases b with z|z
  . rw[z];rfl
  . split
    . refine List.filter_eq_self.mpr λj a=>ax λy=>z (by rw[<-y];exact a)
    . rfl
 rw[g];congr 1;refine List.map_congr_left λj a=>?_;by_cases z:j=i
 . subst z;rcases f with y|y
   . rw[Zj,Wp e,y];rfl
   . exact absurd a y
 . rw[Wy z]
end
theorem CQ{a:Type}[DecidableEq a]{kvs:O (a×V)}{k:a}(h:y9 kvs k=none):j0 kvs k=kvs:=by unfold j0;refine List.filter_eq_self.mpr λx b=>ax λz=>?_;unfold y9 at h;rw[Option.map_eq_none_iff,List.find?_eq_none]at h;exact h x b (ax z)
section
variable{hs:aC}{c:Nat->Nat}{d:aF}
noncomputable def ju(B:aC)(c:Nat->Nat)(i:Nat)(l:List Nat):List (Nat×V):=l.map λj=>(j,V.int (vy ((aD B).S j) (aP c i j):Int))
theorem Dx(e:((aD hs).S i)[c i]?=some d)(h:jl d=false\/i ∉ bP (aD hs) c):wz hs c=ju hs c i (bP (aD hs) c):=by
 unfold wz ju;refine List.map_congr_left λj a=>?_;by_cases z:j=i
 . subst z;rcases h with y|y
   . rw[Zj,Wp e,y];rfl
   . exact absurd a y
 . rw[Wy z]
theorem Cq(e:((aD hs).S i)[c i]?=some d)(h:jl d=true)(m:i∈bP (aD hs) c):wc (wz hs c) i (.int ((vy ((aD hs).S i) (c i):Int)+1))=ju hs c i (bP (aD hs) c):=by
 unfold wz ju;rw[J8 (k:=λj=>j) (λh=>h) zL m];refine List.map_congr_left λj a=>?_;by_cases z:j=i
 . subst z;rw[if_pos J,Zj,Wp e,h];rfl
 . rw[if_neg z,Wy z]
theorem J6:j0 (ju hs c i l) i=ju hs c i (l.filter λj=>decide (j≠i)):=D4 (k:=λj=>j) (λh=>h)
theorem vL(e:((aD hs).S i)[c i]?=some d)(h:l=if Jm (aD hs) c i d then(bP (aD hs) c).filter (λj=>decide (j≠i))else bP (aD hs) c):ju hs c i l=wz hs (aP c i):=by unfold ju wz;rw[uq e,<-h]
theorem vM:(wz hs c).map (·.2)=((bP (aD hs) c).map λi=>(vy ((aD hs).S i) (c i):Int)).map V.int:=by unfold wz;rw[c7,c7];rfl
theorem BZ(h:Wl d=[])(e:((aD hs).S i)[c i]?=some d):dD hs (aP c i)=dD hs c:=by unfold dD;refine List.map_congr_left λb _=>?_;rw[pT e (by rw[h];exact d7)]
theorem AC{x k:Int}(b:i<hs.fs.length)(e:((aD hs).S i)[c i]?=some (.rai x k))(d:0<=x):(dD hs c).set x.toNat (.int (dM (aD hs) c x.toNat+k))=dD hs (aP c i):=by
 unfold dD;refine List.ext_getElem? λn=>?_;rw[List.getElem?_set,bc,bc];by_cases q:x.toNat=n
 . rw[if_pos q,ai,c8];by_cases z:n<hs.b.toNat
   . rw[if_pos (by omega),List.getElem?_range z];show _=some (V.int (dM (aD hs) (aP c i) n));rw[BH (h:=aD hs) b e q,q]
   . rw[if_neg (by omega),ff (by rw[c8];omega)];rfl
 . rw[if_neg q];by_cases z:n<hs.b.toNat
   . rw[List.getElem?_range z];show some (V.int (dM (aD hs) c n))=some (V.int (dM (aD hs) (aP c i) n));rw[pT e (by intro a;exact q (aa.mp a).symm)]
   . rw[ff (by rw[c8];omega)];rfl
theorem zP(a:i<hs.fs.length):wc (yp hs c) (kN i) (.int ((c i:Int)+1))=yp hs (aP c i):=by
 unfold yp;rw[J7 qp a];refine Zb λj _=>?_;by_cases z:j=i
 . subst z;show(if j=j then _ else _)=V.int ((aP c j j:Nat):Int);rw[if_pos J,Zj];rfl
 . show(if j=i then _ else _)=V.int ((aP c i j:Nat):Int);rw[if_neg z,Wy z]
end
noncomputable def qE:List Str:=["self","hand","role","place","deed","wall"]
theorem nG:aA qE ["self","hand"] (zi K7):=.of
inductive iO(P:Program)(w:World)(cU cP cR:Addr)(vs:List V)(H:Hp)(Q:VK)(e0:XK):Prop|mk:∀(H0:Hp)(x ad as al k0:Addr)(hs:aC)(R:Nat->Addr)(c:Nat->Nat)(i:Nat)(vh:V)(d:aF),vs=[.ref x,vh]->aU P w H0 H cU cP cR hs R x ad as al k0 c->i<hs.fs.length->cX hs->Is H (tI [(i:Int)]) vh->((aD hs).S i)[c i]?=some d->(∀l H',Bt [ad,as,al,k0] H H'->H l=none->bQ P w H' hs ad as al k0 (aP c i)->Is H' (lB (eV (aD hs) c i d)) (.ref l)->Q (.ref l) H')->iO P w cU cP cR vs H Q e0
section
variable{K:W.Frag}
theorem zS{d:aF}:decide (V.str (dw d)=V.str "come")=jl d:=by cases d<;>rfl
theorem sA{d:aF}:decide (V.str (dw d)=V.str "leave")=jd d:=by cases d<;>rfl
theorem zE{d:aF}:jR (.str (dw d)) [.str "come",.str "leave"]=(jl d ||jd d):=by cases d<;>rfl
theorem tD{a:aC}{c:Nat->Nat}(g:aM bA P w H k0 (ju a c i l))(b:Is H (tI [(i:Int)]) (.ref bh))(k:∀v G,Bt [k0] H G->ym H G->aM bA P w G k0 (ju a c i (l.filter λj=>decide (j≠i)))->Q v G):dU bA P w Q k0 (.ref bh) .non H:=by
 refine⟨bh,_,i,J,g,b,λv f o go=>?_,λd=>?_⟩
 . rw[J6]at go;exact k v _ (Bt.upd (by simp)) g.tups go
 . have e:=CQ d;rw[J6]at e;exact k .non H Bt.refl (ym.refl _) (by rw[e];exact g)
theorem AV (T:Txt K mg) (CU:aK K cU bF) (CR:aK K cR aT) (oC:bZ P w K mg base cU "changed" 2 ["self","deed","walls"] (fJ P w cU cP cR))(hr:aO 2 (A.deeper (envOfC "Run.do" (zi K7) s.heap.objs.size f cdv))) {a5:Y} {a:aC} {R:Nat->Y} {c:Nat->Nat} {d:aF} (RF:cT H0 cU cP cR a R x ad as al k0) (W:cX a) (hi:i<a.fs.length) (hd:((aD a).S i)[c i]?=some d):
  ∃ tt,dO (Ve eT P w K mg base qE "Run.do" (zi K7) f cdv A outer s H E).nox ((y0 K7).drop 8) tt/\∀H' l1,Same H0 H'->Is H' (eD d) (.ref a5)->Is H' (tI [(i:Int)]) (.ref bh)->H' al=some (.lst (List.replicate a.w.toNat (oI (cJ (aD a) c))))->
    l1=(if jd d then(bP (aD a) c).filter (λj=>decide (j≠i))else bP (aD a) c)->(a.w=1->aM bA P w H' k0 (ju a c i l1))->
    (∀l p,Bt [al,k0] H' p->H' l=none->p al=some (.lst (List.replicate a.w.toNat (oI (cJ (aD a) (aP c i)))))->(a.w=1->aM bA P w p k0 (wz a (aP c i)))->Is p (lB (eV (aD a) c i d)) (.ref l)->Q (.ref l) p)->
    tt (.of Q) [some (.ref x),some (.ref bh),some (.ref (R i)),some (.int (c i:Int)),some (.ref a5),none] H':=by
 have nd:=nG.nd;have b2:=Xh hr;refine⟨_,(zf (yj (zr yz (yt we (pv 3) zg) (yf yh (by rfl) T.len wu (zc (zt (pv 2) J) zd)) (zo _)) (zf (nK (wy PassesOwn.never J (Bw (zt (pv 2) J)) (zu (i:=5) nd) (zh (xn (Qm (τ:=bA) b2 (zm yu (zt (pv 0) J) (pv 5)) (pv 1) Wn ⟨J,J,J,J⟩))))) (zh (zp (v0 oC CU.cls hr (pv 0) (zc (pv 4) (zc (xk (Q8 J) (by rfl) T.list X9 (zc (zt (pv 2) J) zd)) zd)))))) zn)
  (zh (zp (v0 oC CU.cls hr (pv 0) (zc (pv 4) (zc (Xy (zr jp (zm zk (pv 4) zg) (Wm (zc zx (zc zx zd))) J) (vm (zc (zm zk (pv 4) zg) zd)) (vm zd)) zd)))))),?_⟩
 intro H' l1 S i5 bL N bd hg k;obtain⟨xp,dx,am,PA,hx,ap,c0,cv,bk,nk⟩:=id RF;obtain⟨dp,vv,ar,hp,c1,cs,bj,vc,vs,ab,an,ac,r1,r2,r4,r5,r6,_⟩:=PA.role hi;obtain⟨aS,xS,rfl,cc,b6⟩:=r2.mono S;have bq:=b6.length;rw[ai]at bq;have ao:=Jb W hi hd;have a2:k0≠al\/a.w=0:=by
  rcases W.w01 with z|z
  . exact .inr z
  . exact .inl λy=>by obtain⟨ys,e,_,_,_,_⟩:=hg z;rw[y,N]at e;cases e
 refine⟨_,_,J,J,R i,cR,bj,_,_,J,S _ _ r1,CR.cls,CR.n,q0,aS,xS,J,.inr (aH.of cc),J,_,J,?_⟩;rw[bq];by_cases X:c i+1=((aD a).S i).length
 . rw [show decide (V.int ((c i:Int)+1)=V.int (((aD a).S i).length:Int))=true by rw[<-X];simp];refine yv ⟨ac,_,S _ _ r6,trivial,λo=>?_⟩;have ah:k0≠ac:=λz=>by rw[z,r6]at nk;cases nk
   have a8:al≠ac:=λz=>by rw[z,r6]at bk;cases bk
   have hf:upd H' ac (.frz o (.dK (xu ((aD a).cm i)))) ac=some (.frz o (.dK (xu ((aD a).cm i)))):=ze;have kf:∀{b:Y}{u:HO},b≠ac->H' b=some u->upd H' ac (.frz o (.dK (xu ((aD a).cm i)))) b=some u:=λ{b u} z e=>by rw[upd_ne z];exact e
   have tf:ym H' (upd H' ac (.frz o (.dK (xu ((aD a).cm i))))):=ym.upd (S _ _ r6) (λ_ z=>by cases z);have gf:a.w=1->aM bA P w (upd H' ac (.frz o (.dK (xu ((aD a).cm i))))) k0 (ju a c i l1):=λz=>(hg z).by tf (upd_ne ah)
   have ce:∀{b:Y}{u:HO},b≠ac->upd H' ac (.frz o (.dK (xu ((aD a).cm i)))) b=some u->H' b=some u:=λ{b u} z e=>by rw[upd_ne z]at e;exact e
   generalize upd H' ac (.frz o (.dK (xu ((aD a).cm i))))=Hf at hf kf tf gf ce⊢;have bI:R i≠ac:=λz=>by rw[z,r6]at r1;cases r1
   have b4:=kf bI (S _ _ r1);refine⟨R i,cR,bj,_,_,J,b4,CR.cls,CR.n,Vj,ac,o,_,J,hf,?_⟩;refine CZ (λj σ G=>∃x5,σ=[some (.ref x),some (.ref bh),some (.ref (R i)),some (.int (c i:Int)),some (.ref a5),x5]/\Bt [k0] Hf G/\ym Hf G/\(a.w=0->G=Hf)/\(a.w=1->aM bA P w G k0 (ju a c i (if j=0 then l1 else l1.filter λj=>decide (j≠i))))) ⟨none,J,Bt.refl,ym.refl _,λ_=>rfl,gf⟩ (λj σ G _ ⟨_,_,b,_⟩=>b _ _ (λn=>ah (aa.mp n).symm) hf) ?_ ?_
   . rintro j kv σ G Z ⟨x5,rfl,b,tg,_,g⟩;have bn:(aD a).cm i=true:=by cases z:(aD a).cm i with|true=>rfl|false=>rw[z]at Z;cases Z
     have hw:=ng W hi bn;rw[bn]at Z;have b8:j=0/\kv=((Sum.inl 0:aI),V.int 0):=by cases j with|zero=>cases Z;exact⟨J,J⟩|succ j=>cases Z
     obtain⟨rfl,rfl⟩:=b8;have nx:x≠ac:=λz=>by rw[z,r6]at hx;cases hx
     have bJ:k0≠x:=λz=>by rw[z,hx]at nk;cases nk
     have bM:=b _ _ (λn=>bJ (aa.mp n).symm) (kf nx (S _ _ hx));have nm:am≠ac:=λz=>by rw[z,r6]at ap;cases ap
     have bK:k0≠am:=λz=>by rw[z,ap]at nk;cases nk
     have ay:=b _ _ (λn=>bK (aa.mp n).symm) (kf nm (S _ _ ap));rw[show a.w.toNat=1 by rw[hw];rfl]at ay;refine⟨x,cU,dx,_,_,J,bM,CU.cls,CU.n,Yp,am,_,0,_,J,J,aJ.of ay,J,k0,_,J,g hw,tD (g hw) ((bL.tups tf (km _)).tups tg (km _)) λv G' b' t' g'=>⟨_,J,b.trans b',λy ys e=>t' _ _ (tg _ _ e),(λz=>by rw[hw]at z;cases z),λ_=>g'⟩⟩
   . rintro σ G ⟨x5,rfl,b,tg,g0,g⟩;have ag:=b _ _ (λn=>ah (aa.mp n).symm) hf;refine⟨ag,?_⟩;have bg:upd G ac (.dK (xu ((aD a).cm i))) ac=some (.dK (xu ((aD a).cm i))):=ze;have bt:Bt [k0] H' (upd G ac (.dK (xu ((aD a).cm i)))):=λy u hy e=>by
      by_cases z:y=ac
      . rw[z,S _ _ r6]at e;rw[z,bg];exact e
      . rw[upd_ne z];exact b _ _ hy (kf z e)
     have tG:ym H' (upd G ac (.dK (xu ((aD a).cm i)))):=λy ys e=>ym.upd ag (λ_ z=>by cases z) _ _ (tg _ _ (tf _ _ e));have gt:a.w=1->aM bA P w (upd G ac (.dK (xu ((aD a).cm i)))) k0 (wz a (aP c i)):=λz=>by
      have g1:=(g z).by (ym.upd ag λ_ y=>by cases y) (upd_ne (o:=.dK (xu ((aD a).cm i))) ah)
      have e1:(if(xu ((aD a).cm i)).length=0 then l1 else l1.filter λj=>decide (j≠i))=l1.filter λj=>decide (j≠i):=by
       cases q:(aD a).cm i with|true=>rfl| false=>
         have ni:∀j∈l1,j≠i:=λj hj y=>by
          have n:j∈bP (aD a) c:=by
           rw[bd]at hj;split at hj
           . exact(d8.mp hj).1
           . exact hj
          have:=(su n).2;unfold jo at this;rw[y,q]at this;cases this
         exact(List.filter_eq_self.mpr λj hj=>ax (ni j hj)).symm
      rw[e1,vL hd]at g1
      . exact g1
      . have:Jm (aD a) c i d=true:=by unfold Jm;rw[ax X,Bool.or_true]
        rw[this,if_pos J,bd];split
        . rw[List.filter_filter];exact List.filter_congr λj _=>by simp
        . rfl
     have av:upd G ac (.dK (xu ((aD a).cm i))) al=some (.lst (List.replicate a.w.toNat (oI (cJ (aD a) c)))):=by
      rw[upd_ne a8];rcases a2 with z|z
      . exact b _ _ (λn=>z (aa.mp n).symm) (kf a8 N)
      . rw[g0 z];exact kf a8 N
     have bx:a.w=0->Same H' (upd G ac (.dK (xu ((aD a).cm i)))):=λz y u e=>by
      rw[g0 z];by_cases q:y=ac
      . rw[q,S _ _ r6]at e;rw[q,ze];exact e
      . rw[upd_ne q];exact kf q e
     have sG:=bt.same S λm n=>by rw[aa.mp n];exact nk
     have bl:=i5.tups tG (q9 d);generalize upd G ac (.dK (xu ((aD a).cm i)))=Gt at bg bt tG gt av bx sG bl⊢;refine⟨x,dx,_,J,sG _ _ hx,J,R i,cR,bj,_,_,J,sG _ _ r1,CR.cls,CR.n,Vj,ac,_,J,.inl bg,λC M=>?_⟩;have U:=Same.new M (.lst ((xu ((aD a).cm i)).map λkv=>kV kv.1));have L:upd Gt C (.lst ((xu ((aD a).cm i)).map λkv=>kV kv.1)) C=some (.lst (if(aD a).cm i then[.int 0]else[])):=by rw[ze];cases(aD a).cm i<;>rfl
     generalize upd Gt C (.lst ((xu ((aD a).cm i)).map λkv=>kV kv.1))=Gu at U L⊢;have a1:C≠al:=λz=>by rw[z,av]at M;cases M
     refine⟨H0,x,ad,as,al,k0,C,.ref a5,d,a,R,cJ (aD a) c,cJ (aD a) (aP c i),(aD a).cm i,_,_,J,RF,W,sG.trans U,bl.mono U,ao,L,U _ _ av,a1,λz=>⟨ng W hi z,(gt (ng W hi z)).same U,vM,J⟩,λz=>?_,λl p F B D iL=>?_⟩
     . have ni:i ∉ bP (aD a) c:=λn=>by have:=(su n).2;unfold jo at this;rw[z]at this;cases this
       exact uY hd (.inr ni) (.inr ni)
     . have b7:H' l=none:=by
        cases q:H' l with|none=>rfl| some u=>
          by_cases n:l=k0
          . rcases W.w01 with z|z
            . rw[U _ _ (bx z _ _ q)]at B;cases B
            . obtain⟨ys,e,_,_,_,_⟩:=(gt z).same U;rw[n,e]at B;cases B
          . rw[U _ _ (bt _ _ (λh=>n (aa.mp h)) q)]at B;cases B
       refine k l p (λy u hy e=>?_) b7 D (λz=>?_) iL
       . exact F _ _ (λh=>hy (by rw[aa.mp h];simp)) (U _ _ (bt _ _ (λh=>hy (by rw[aa.mp h];simp)) e))
       . have g1:=(gt z).same U;have a3:k0≠al:=a2.resolve_right λy=>by rw[z]at y;cases y
         obtain⟨ys,e,_,_,_,_⟩:=id g1;exact g1.by (F.tups λm n xs e=>by rw[aa.mp n,U _ _ av]at e;cases e) (by rw[F _ _ (λh=>a3 (aa.mp h)) e,e])
 . rw [show decide (V.int ((c i:Int)+1)=V.int (((aD a).S i).length:Int))=false by rw[decide_eq_false_iff_not];intro z;injection z with z;omega];obtain⟨r,b5⟩:=Zi d;obtain⟨a6,bC,u5,e6,bE,co,b1⟩:=Is.at (K:=K) (i:=0) (t:=.str (dw d)) (b5▸i5) J;cases e6;cases(show u5=.str (dw d)from b1);have aw:Jm (aD a) c i d=jd d:=by unfold Jm;rw[c5 X,Bool.or_false]
   have gt:a.w=1->aM bA P w H' k0 (wz a (aP c i)):=λz=>by have:=hg z;rw[vL hd (by rw[aw];exact bd)]at this;exact this
   refine yd ⟨x,dx,_,J,S _ _ hx,J,a5,bC,_,_,J,J,bE,co,aY,λq hq=>⟨q,_,J,.inr (aH.of ze),J,J,_,J,?_⟩⟩;have s1:=Same.new hq (.tup [.str "come",.str "leave"]);rw[zE];generalize upd H' q (.tup [.str "come",.str "leave"])=H1 at s1⊢;have bw:∀(ws:Bool)(C:Y)(Gu:Hp),Same H1 Gu->H1 C=none->Gu C=some (.lst (if ws then[.int 0]else[]))->(ws=true->a.w=1)->(ws=false->cJ (aD a) (aP c i)=cJ (aD a) c)->fJ P w cU cP cR [.ref x,.ref a5,.ref C] Gu Q E0:=λws C Gu s2 M L h1 h2=>by
    have t:=s1.trans s2;have a1:C≠al:=λz=>by rw[z,s1 _ _ N]at M;cases M
    refine⟨H0,x,ad,as,al,k0,C,.ref a5,d,a,R,cJ (aD a) c,cJ (aD a) (aP c i),ws,_,_,J,RF,W,S.trans t,i5.mono t,ao,L,t _ _ N,a1,λz=>⟨h1 z,(gt (h1 z)).same t,vM,J⟩,h2,λl p F B D iL=>?_⟩;refine k l p (λy u hy e=>F _ _ (λh=>hy (by rw[aa.mp h];simp)) (t _ _ e)) (xv t B) D (λz=>?_) iL;have g1:=(gt z).same t;have a3:k0≠al:=a2.resolve_right λy=>by rw[z]at y;cases y
    obtain⟨ys,e,_,_,_,_⟩:=id g1;exact g1.by (F.tups λm n xs e=>by rw[aa.mp n,t _ _ N]at e;cases e) (by rw[F _ _ (λh=>a3 (aa.mp h)) e,e])
   cases q1:jl d ||jd d with| false=>
     rw[Bool.or_eq_false_iff]at q1;exact yd ⟨bo _,λC Gu s2 ba bb=>bw false C Gu s2 ba bb (λz=>nomatch z) λ_=>uY hd (.inl q1.1) (.inl (by rw[aw];exact q1.2))⟩| true=>
     have bN:a.w=1/\∃dd,eD d=.tup [dd,.int 0]:=by cases d<;>first|(simp[jl,jd]at q1;done)|(cases(show _=(0:Int)from ao.1);exact⟨ao.2,_,J⟩)
     obtain⟨hw,dd,b9⟩:=bN;obtain⟨a7,bB,u7,e7,bD,cl,b0⟩:=Is.at (K:=K) (i:=1) (t:=.int 0) (b9▸i5.mono s1) J;cases e7;cases(show u7=.int 0 from b0);exact yv ⟨a5,bB,_,_,J,J,bD,cl,aY,λC Gu s2 ba bb=>bw true C Gu s2 ba bb (λ_=>hw) λz=>nomatch z⟩
end
section
variable{K:W.Frag}
theorem AW (T:Txt K mg) (CU:aK K cU bF) (CR:aK K cR aT) (oC:bZ P w K mg base cU "changed" 2 ["self","deed","walls"] (fJ P w cU cP cR))(hr:aO 2 (A.deeper (envOfC "Run.do" (zi K7) s.heap.objs.size f cdv))) {a5:Addr} {a:aC} {R:Nat->Addr} {c:Nat->Nat} {d:aF} (RF:cT H0 cU cP cR a R x ad as al k0) (W:cX a) (hi:i<a.fs.length) (hd:((aD a).S i)[c i]?=some d):
  ∃ tt,dO (Ve eT P w K mg base qE "Run.do" (zi K7) f cdv A outer s H E).nox ((y0 K7).drop 6) tt/\∀H',Same H0 H'->Is H' (eD d) (.ref a5)->Is H' (tI [(i:Int)]) (.ref bh)->H' al=some (.lst (List.replicate a.w.toNat (oI (cJ (aD a) c))))->(a.w=1->aM bA P w H' k0 (wz a c))->
    (∀l p,Bt [al,k0] H' p->H' l=none->p al=some (.lst (List.replicate a.w.toNat (oI (cJ (aD a) (aP c i)))))->(a.w=1->aM bA P w p k0 (wz a (aP c i)))->Is p (lB (eV (aD a) c i d)) (.ref l)->Q (.ref l) p)->
    tt (.of Q) [some (.ref x),some (.ref bh),some (.ref (R i)),some (.int (c i:Int)),some (.ref a5),none] H':=by
 have nd:=nG.nd;have ap:=Xh hr;have bg:=Nat.lt_of_succ_lt ap;obtain⟨tt,bj,kt⟩:=AV (P:=P) (w:=w) (mg:=mg) (base:=base) (f:=f) (cdv:=cdv) (A:=A) (outer:=outer) (s:=s) (H:=H) (Q:=Q) (E:=E) (bh:=bh) (a5:=a5) T CU CR oC hr RF W hi hd;refine⟨_,zf (yj (zr yz (zm zk (pv 4) zg) zx (zo _)) (zh (By (τ:=bA) bg (zm yu (zt (pv 0) J) (zm zk (pv 4) zg)) (pv 1) zg AH)) zn) (zf (yj (zr yz (zm zk (pv 4) zg) zx (zo _)) (zh (xn (Qm (τ:=bA) ap (zm yu (zt (pv 0) J) (zm zk (pv 4) zg)) (pv 1) Wn ⟨J,J,J,J⟩))) zn) bj),?_⟩
 intro H' s0 i5 M X hg k;obtain⟨xp,dx,am,PA,hx,S,bC,bx,bB,nk⟩:=id RF;have ay:=Jb W hi hd;obtain⟨r,av⟩:=Zi d;obtain⟨a6,ah,u5,e6,ao,aS,bd⟩:=Is.at (K:=K) (i:=0) (t:=.str (dw d)) (av▸i5) J;cases e6;cases(show u5=.str (dw d)from bd);have gk:a.w=1->k0≠al/\k0≠x/\k0≠am:=λz=>⟨(λy=>by obtain⟨ys,e,_,_,_,_⟩:=hg z;rw[y,X]at e;cases e),(λy=>by rw[y,hx]at nk;cases nk),(λy=>by rw[y,S]at nk;cases nk)⟩
 have ag:∀(G:Hp) (l1:List Nat),(a.w=0->G=H')->Bt [k0] H' G->ym H' G->(a.w=1->aM bA P w G k0 (ju a c i l1))->l1=(if jd d then(bP (aD a) c).filter (λj=>decide (j≠i))else bP (aD a) c)->tt (.of Q) [some (.ref x),some (.ref bh),some (.ref (R i)),some (.int (c i:Int)),some (.ref a5),none] G:=λG l1 g0 b t g e=>by
  have bw:G al=some (.lst (List.replicate a.w.toNat (oI (cJ (aD a) c)))):=by
   rcases W.w01 with z|z
   . rw[g0 z];exact X
   . exact b _ _ (λh=>(gk z).1 (aa.mp h).symm) X
  refine kt G l1 (b.same s0 λm N=>by rw[aa.mp N];exact nk) (i5.tups t (q9 _)) (M.tups t (km _)) bw e g λl p bt B U bn iL=>?_;refine k l p (λy u hy e1=>?_) ?_ U bn iL
  . exact bt _ _ hy (b _ _ (λh=>hy (by rw[aa.mp h];simp)) e1)
  . cases q:H' l with|none=>rfl| some u=>
      by_cases N:l=k0
      . rcases W.w01 with z|z
        . rw[g0 z,q]at B;cases B
        . obtain⟨ys,e,_,_,_,_⟩:=g z;rw[N,e]at B;cases B
      . rw[b _ _ (λh=>N (aa.mp h)) q]at B;cases B
 refine⟨a5,ah,_,_,J,J,ao,aS,J,_,J,?_⟩;rw[zS];have iG:(jl d=true\/jd d=true)->∃(x7:List V),a.w=1/\aH K H' a5 x7/\cN x7 ((1:Nat):Int)=some (.int 0):=λz=>by
  have a8:a.w=1/\∃dd,eD d=.tup [dd,.int 0]:=by cases d<;>first|(simp[jl,jd]at z;done)|(cases(show _=(0:Int)from ay.1);exact⟨ay.2,_,J⟩)
  obtain⟨L,dd,bk⟩:=a8;obtain⟨a7,C,u7,e7,D,F,ba⟩:=Is.at (K:=K) (i:=1) (t:=.int 0) (bk▸i5) J;cases e7;cases(show u7=.int 0 from ba);exact⟨C,L,D,F⟩
 cases hc:jl d with| true=>
   have B:jd d=false:=by cases d<;>first|rfl|cases hc
   obtain⟨C,L,D,F⟩:=iG (.inl hc);have n:=s0 _ _ S;rw[show a.w.toNat=1 by rw[L];rfl]at n;have N:i∈bP (aD a) c:=by
    have bl:∃y,d=.com y:=by cases d<;>first|exact⟨_,J⟩|cases hc
    obtain⟨y,rfl⟩:=bl;obtain⟨f1,f2⟩:=W.fit i (c i) y hi hd;refine d8.mpr ⟨bp.mpr hi,?_⟩;unfold jo;rw[f1,f2,ax (c9.mp hd).1];rfl
   have Z:=hg L;have aw:(wz a c).length<sizeLine:=by unfold wz bP;rw[ai];have:=f6 (jo (aD a) c) (List.range (aD a).n);rw[c8]at this;have bD:=W.n1;exact yq (by show _<=1000;have:(aD a).n=a.fs.length:=rfl;omega)
   refine yv ⟨x,cU,dx,_,_,J,s0 _ _ hx,CU.cls,CU.n,Yp,a5,C,_,_,J,J,D,F,am,_,0,_,J,J,aJ.of n,J,k0,bh,_,i,_,J,J,Z,M,(qy (k:=λj=>j) (λh=>h)).trans (if_pos N),_,_,J,J,_,Z,M,aw,λo go=>?_⟩;rw[Cq hd hc N]at go;have t1:ym H' (upd H' k0 o):=Z.tups;have a3:=i5.tups t1 (q9 d);obtain⟨a6,a1,u6,e6,a2,bq,bb⟩:=Is.at (K:=K) (i:=0) (t:=.str (dw d)) (av▸a3) J;cases e6;cases(show u6=.str (dw d)from bb);refine⟨a5,a1,_,_,J,J,a2,bq,J,_,J,?_⟩;rw[sA,B];exact yd (ag _ (bP (aD a) c) (λz=>by rw[L]at z;cases z) (Bt.upd (by simp)) t1 (λ_=>go) (by rw[B];rfl))| false=>refine yd ⟨a5,ah,_,_,J,J,ao,aS,J,_,J,?_⟩;rw[sA];have Z:a.w=1->aM bA P w H' k0 (ju a c i (bP (aD a) c)):=λz=>Dx hd (.inl hc)▸hg z;cases B:jd d with| true=>obtain⟨C,L,D,F⟩:=iG (.inr B);have n:=s0 _ _ S;rw[show a.w.toNat=1 by rw[L];rfl]at n;refine yv ⟨x,cU,dx,_,_,J,s0 _ _ hx,CU.cls,CU.n,Yp,a5,C,_,_,J,J,D,F,am,_,0,_,J,J,aJ.of n,J,k0,_,J,Z L,tD (Z L) M λv G b t g=>?_⟩;exact ag G _ (λz=>by rw[L]at z;cases z) b t (λ_=>g) (by rw[B];rfl)|false=>exact yd (ag H' (bP (aD a) c) (λ_=>rfl) Bt.refl (ym.refl _) Z (by rw[B];rfl))
end
section
variable{K:W.Frag}
theorem yW (D:qr K cU "do" "Run.do" K7) (T:Txt K mg) (v:aK K cU bF) (CP:aK K cP bO) (CR:aK K cR aT) (oC:bZ P w K mg base cU "changed" 2 ["self","deed","walls"] (fJ P w cU cP cR)):bZ P w K mg base cU "do" 3 ["self","hand"] (iO P w cU cP cR):=by
 refine Zf (k:=2) D nG ?_;rintro f b6 A F s H vs Q E hr ⟨H0,x,ad,as,al,o,a,R,c,i,vh,d,rfl,g,hi,W,ay,hd,k⟩ X;have hu:=jy hr;have nd:=nG.nd;obtain⟨xp,dx,am,PA,hx,ce,bq,bn,b8,nk,n,bE⟩:=id g.f;obtain⟨dp,vv,ar,hp,bK,a1,b5,vc,vs,ab,an,ac,r1,r2,r4,r5,r6,_⟩:=PA.role hi;obtain⟨bh,rfl,S⟩:=Yj ay;have N:=Jb W hi hd;obtain⟨aS,xS,rfl,bL,bD⟩:=id r2;obtain⟨v5,e5,i5⟩:=bD.get (i:=c i) (t:=eD d) (by rw[bc,hd];rfl);obtain⟨rr,a2⟩:=Zi d;obtain⟨C,x5,rfl,cl,b9⟩:=(a2▸i5:Is H0 (.tup (.str (dw d)::rr)) v5)
 obtain⟨tt,bC,kt⟩:=AW (P:=P) (w:=w) (mg:=mg) (base:=base) (f:=f) (cdv:=b6) (A:=A) (outer:=F) (s:=s) (H:=H) (Q:=Q) (E:=E) (bh:=bh) (a5:=C) T v CR oC hr g.f W hi hd;refine⟨_,zf (zv (i:=2) nd (vx hu (zt (zt (pv 0) J) J) (pv 1))) (zf (zv (i:=3) nd (vx hu (zt (pv 0) J) (pv 1))) (zf (zv (i:=4) nd (zm zk (zt (pv 2) J) (pv 3))) (zf (vj hu (zt (pv 0) J) (pv 1) (yt we (pv 3) zg) J) (zf (yj (zr yz (zm zk (pv 4) zg) zx (zo _)) (zh (Bx (zt (pv 0) J) (zm zk (pv 4) zg) Cj (zm zk (pv 4) zg) AI k7)) zn) (zf (yj (zr yz (zm zk (pv 4) zg) zx (zo _)) xz zn) bC))))),?_⟩
 refine⟨x,cU,dx,_,_,J,g.s _ _ hx,v.cls,v.n,Xl,xp,cP,dp,_,_,J,g.s _ _ hp,CP.cls,CP.n,jc,ar,_,J,a1▸DGet.t (g.s _ _ bK) S,?_⟩;refine⟨x,cU,dx,_,_,J,g.s _ _ hx,v.cls,v.n,v6,ad,_,J,Y6 hi▸DGet.t g.m.d S,?_⟩;refine⟨R i,cR,b5,_,_,J,g.s _ _ r1,CR.cls,CR.n,q0,aS,xS,_,_,J,J,aH.of (g.s _ _ bL),y4 e5,?_⟩;refine⟨_,_,J,J,x,cU,dx,_,_,J,g.s _ _ hx,v.cls,v.n,v6,ad,_,J,Zl.t (k:=kN i) g.m.d S (by unfold yp;rw[xw];exact yq (by have:=W.n1;omega)),?_⟩;have ep:wc (yp a c) (kN i) ((λi j=>V.int (i+j)) (c i:Int) 1)=yp a (aP c i):=zP hi;rw[ep];have hD:=g.m.d;have av:as≠ad:=λz=>by have q:=g.m.s;rw[z,hD]at q;cases q
 have M:al≠ad:=λz=>by have q:=g.m.l;rw[z,hD]at q;cases q
 have L:a.w=1->o≠ad/\o≠as:=λz=>⟨(λy=>by obtain⟨ys,e,_,_,_,_⟩:=g.m.k z;rw[y,hD]at e;cases e),(λy=>by obtain⟨ys,e,_,_,_,_⟩:=g.m.k z;rw[y,g.m.s]at e;cases e)⟩
 have b1:Bt [ad,as] H (upd H ad (.dT (yp a (aP c i)))):=Bt.upd (by simp);have t1:ym H (upd H ad (.dT (yp a (aP c i)))):=ym.upd hD λ_ z=>by cases z
 have d1:upd H ad (.dT (yp a (aP c i))) ad=some (.dT (yp a (aP c i))):=ze;have s1:upd H ad (.dT (yp a (aP c i))) as=some (.lst (dD a c)):=by rw[upd_ne av];exact g.m.s
 have l1:upd H ad (.dT (yp a (aP c i))) al=some (.lst (List.replicate a.w.toNat (oI (cJ (aD a) c)))):=by rw[upd_ne M];exact g.m.l
 have g1:a.w=1->aM bA P w (upd H ad (.dT (yp a (aP c i)))) o (wz a c):=λz=>(g.m.k z).by t1 (upd_ne (L z).1)
 generalize upd H ad (.dT (yp a (aP c i)))=r at b1 t1 d1 s1 l1 g1⊢;have wn:∀m∈[ad,as],H0 m=none:=λm B=>by
  rcases ak.mp B with z|z
  . rw[z];exact bq
  . rw[aa.mp z];exact bn
 have ap:=b1.same g.s wn;have p:Is r (eD d) (.ref C):=i5.mono ap;obtain⟨a6,ah,u5,e6,ao,ba,bB⟩:=Is.at (K:=K) (i:=0) (t:=.str (dw d)) (a2▸p) J;cases e6;cases(show u5=.str (dw d)from bB);have a3:∀{G:Hp},Bt [ad,as] H G->ym H G->G ad=some (.dT (yp a (aP c i)))->G as=some (.lst (dD a (aP c i)))->G al=some (.lst (List.replicate a.w.toNat (oI (cJ (aD a) c))))->(a.w=1->aM bA P w G o (wz a c))->tt (.of Q) [some (.ref x),some (.ref bh),some (.ref (R i)),some (.int (c i:Int)),some (.ref C),none] G:=λ{G} b t dG sG lG gG=>by
  refine kt G (b.same g.s wn) (i5.mono (b.same g.s wn)) (ay.tups t (km _)) lG gG λl b7 ag h Z bM iL=>?_;have aw:ad ∉ [al,o]/\as ∉ [al,o]:=by
   have h1:o≠ad/\o≠as:=by
    rcases W.w01 with z|z
    . rw[bE z];exact⟨M,n⟩
    . exact L z
   exact⟨λB=>(ak.mp B).elim (λy=>M y.symm) λy=>h1.1 (aa.mp y).symm,λB=>(ak.mp B).elim (λy=>n y.symm) λy=>h1.2 (aa.mp y).symm⟩
  refine k l b7 (λy u hy e=>?_) ?_ ⟨ag _ _ aw.1 dG,ag _ _ aw.2 sG,Z,bM⟩ iL
  . simp only[ak,d7,or_false,not_or]at hy;exact ag _ _ (by simp[hy.2.2.1,hy.2.2.2]) (b _ _ (by simp[hy.1,hy.2.1]) e)
  . cases q:H l with|none=>rfl| some u=>
      by_cases B:l∈[ad,as]
      . rcases ak.mp B with z|z
        . rw[z,dG]at h;cases h
        . rw[aa.mp z,sG]at h;cases h
      . rw[b _ _ B q]at h;cases h
 refine⟨C,ah,_,_,J,J,ao,ba,J,_,J,?_⟩;cases d with| rai b m=>
   refine yv ?_;obtain⟨U,cc⟩:=N;obtain⟨a6,bg,u6,e6,bl,b4,bx⟩:=Is.at (K:=K) (i:=1) (t:=.int b) p J;cases e6;cases(show u6=.int b from bx);obtain⟨a7,bd,u7,e7,bk,b0,bw⟩:=Is.at (K:=K) (i:=2) (t:=.int m) p J;cases e7;cases(show u7=.int m from bw);have bJ:b.toNat<a.b.toNat:=by omega
   have eg:(dD a c)[b.toNat]?=some (.int (dM (aD a) c b.toNat)):=by unfold dD;rw[bc,List.getElem?_range bJ];rfl
   have bI:iq (dD a c).length b=some b.toNat:=by unfold iq dD;rw[if_pos U,if_pos (by rw[ai,c8];omega)]
   refine⟨x,cU,dx,_,_,J,ap _ _ hx,v.cls,v.n,uu,C,bg,_,_,J,J,bl,b4,as,_,b,_,J,J,U,aJ.of s1,eg,C,bd,_,_,J,J,bk,b0,_,_,J,J,as,_,b,b.toNat,J,J,s1,bI,?_⟩;rw[AC hi hd U];have t2:ym r (upd r as (.lst (dD a (aP c i)))):=ym.upd s1 λ_ z=>by cases z
   have b2:Bt [ad,as] H (upd r as (.lst (dD a (aP c i)))):=b1.trans (Bt.upd (by simp));have d2:upd r as (.lst (dD a (aP c i))) ad=_:=(upd_ne (aj av)).trans d1;have s2:upd r as (.lst (dD a (aP c i))) as=some (.lst (dD a (aP c i))):=ze;have g2:a.w=1->aM bA P w (upd r as (.lst (dD a (aP c i)))) o (wz a c):=λz=>(g1 z).by t2 (upd_ne (L z).2)
   have l2:upd r as (.lst (dD a (aP c i))) al=_:=(upd_ne n).trans l1;generalize upd r as (.lst (dD a (aP c i)))=H2 at t2 b2 d2 s2 g2 l2⊢;obtain⟨a8,bb,u8,e8,bj,bN,bt⟩:=Is.at (K:=K) (i:=0) (t:=.str "raise") (p.tups t2 (q9 (.rai b m))) J;cases e8;cases(show u8=.str "raise" from bt);exact⟨C,bb,_,_,J,J,bj,bN,J,_,J,yd (a3 b2 (λy ys e=>t2 _ _ (t1 _ _ e)) d2 s2 l2 g2)⟩|beg j ms=>exact N.elim|say x=>exact N.elim|_=>exact yd ⟨C,ah,_,_,J,J,ao,ba,J,_,J,yd (a3 b1 t1 d1 (by rw[BZ J hd];exact s1) l1 g1)⟩
end
end My
namespace L2
open PySem PySem.Spec PyProof.Rows PySem.W
variable{M:List Addr}{P:Program}
theorem aM.bt{a:Type}[DecidableEq a]{τ:aQ a}{w:World}{H c:Hp}{d:Y}{kvs:O (a×V)}(g:aM τ P w H d kvs)(b:Bt M H c)(f:d ∉ M)(t:ym H c):aM τ P w c d kvs:=by obtain⟨h,e,r⟩:=id g;exact g.by t ((b d _ f e).trans e.symm)
theorem aM.some{a:Type}[DecidableEq a]{τ:aQ a}{P:Program}{w:World}{H:Hp}{d:Y}{kvs:O (a×V)}(g:aM τ P w H d kvs):∃b,H d=Option.some (.ext b):=let⟨c,e,_,_,_,_⟩:=g;⟨_,e⟩
end L2
namespace My
open PySem PySem.Spec PyProof.Rows L2
variable{a c cP cR cU cW s:Addr}{osl:Array (Option Value)}{b3 dn g:Bool}{D:Ends}{dL wT:FuncData}{o:HO}{base h:Heap}{H H' H0 H1:Hp}{σ:L2.St}{M:List Addr}{es:List Expr}{ns:List Int}{l us ws:List Nat}{vs ys:List V}{A K R b i m p phase q way:Nat}{an od:Option Addr}{P:Program}{st:Stmt}{x:Str}{mg:Str->Option Value}{ta:TA}{v:V}{oc:Value}{w:World}
noncomputable def Ja:Stmt:=bG 52
noncomputable abbrev Zo:Stmt:=(wo Ja).getD 0 eI
noncomputable abbrev pG:Stmt:=(wo Ja).getD 1 eI
noncomputable abbrev K3:Stmt:=(wo Ja).getD 2 eI
noncomputable def cO:List Str:=["run","held","woven","ready","waiting","stopped"]
structure WA where
 x:Addr
 xr:Addr
 ad:Addr
 as:Addr
 al:Addr
 k0:Addr
 ah:Addr
 ao:Addr
 ay:Addr
 aw:Addr
 ap:Addr
noncomputable def lP(a:WA):List (Str×V):=[(("run":Str),.ref a.xr),("held",.ref a.ah),("woven",.ref a.ao),("ready",.ref a.ay),("waiting",.ref a.aw),("stopped",.ref a.ap)]
theorem Wc{a:WA}:(lP a).lookup ("run":Str)=some (.ref a.xr):=rfl
theorem BN{a:WA}:(lP a).lookup ("held":Str)=some (.ref a.ah):=rfl
theorem vZ{a:WA}:(lP a).lookup ("woven":Str)=some (.ref a.ao):=rfl
theorem Xk{a:WA}:(lP a).lookup ("ready":Str)=some (.ref a.ay):=rfl
theorem Vw{a:WA}:(lP a).lookup ("waiting":Str)=some (.ref a.aw):=rfl
noncomputable def hN(i:Nat):L2.T:=tI [(i:Int)]
inductive cC(H:Hp)(a:Addr)(l:List Nat):Prop|mk:∀vs,H a=some (.lst vs)->IsL H (l.map hN) vs->cC H a l
theorem Vs(l:O Nat):qj (l.map hN):=by rw[qj.all];intro t a;obtain⟨d,_,rfl⟩:=ci.mp a;exact km _
theorem cC.keep(x:cC H a l)(e:H' a=H a)(t:ym H H'):cC H' a l:=by obtain⟨b,d,c⟩:=x;exact⟨b,e.trans d,c.tups t (Vs l)⟩
theorem cC.same(x:cC H a l)(s:Same H H'):cC H' a l:=by obtain⟨b,d,c⟩:=x;exact⟨b,s _ _ d,c.mono s⟩
abbrev ir:=List ((Nat×List Nat)×Addr)
theorem uc{a:Nat}(h:cZ a=cZ b):a=b:=by
 unfold cZ at h;by_cases x:a=1000<;>by_cases y:b=1000
 . rw[x,y]
 . rw[if_pos x,if_neg y]at h;cases congrArg Prod.fst h
 . rw[if_neg x,if_pos y]at h;cases congrArg Prod.fst h
 . rw[if_neg x,if_neg y]at h;exact Int.ofNat.inj (congrArg Prod.snd h)
noncomputable def vz(W:ir):List ((Str×Int)×V):=W.map λq=>(cZ q.1.1,.ref q.2)
def qJ(P:Program)(w:World)(B:Hp)(G U cP cR:Addr)(F:aC)(R:Nat->Addr)(a:WA):Prop:=cT B U cP cR F R a.xr a.ad a.as a.al a.k0/\(∃dx,B a.x=some (.ins G dx (lP a)))/\aM lA P w B a.ah []/\B a.ao=none/\B a.ay=none/\B a.aw=none
structure cB(P:Program)(w:World)(hs:aC)(H0 H:Hp)(a:WA)(s:Ws)(W:ir):Prop where
 run:bQ P w H hs a.ad a.as a.al a.k0 s.c
 rdy:cC H a.ay s.rdy
 wov:cC H a.ao s.wov
 wai:aM dH P w H a.aw (vz W)
 wl:W.map (·.1)=s.wai
 lst:∀q∈W,cC H q.2 q.1.2/\H0 q.2=none
 nd:(a.as::a.al::a.ay::a.ao::W.map (·.2)).Nodup
 kd:(W.map (·.1.1)).Nodup
 kn:a.k0 ∉ (a.as::a.aw::a.ay::a.ao::W.map (·.2))/\∃o,H a.k0=some o
 s0:Same H0 H
noncomputable def newW(B:aC)(c:Nat->Nat):Ws:=⟨c,List.range B.fs.length,[],[]⟩
inductive kG(P:Program)(w:World)(cW cU cP cR:Addr)(vs:List V)(H:Hp)(Q:VK)(e0:XK):Prop|mk:∀(G:Hp)(x dx xr ad as al k0 ah:Addr)(hs:aC)(R:Nat->Addr)(c:Nat->Nat),vs=[.ref x,.ref xr,.ref ah]->H x=some (.ins cW dx [])->Same G H->G x=none->cT G cU cP cR hs R xr ad as al k0->bQ P w H hs ad as al k0 c->aM lA P w G ah []->cX hs->(∀ao ay aw ap H0 H',Same G H0->qJ P w H0 cW cU cP cR hs R ⟨x,xr,ad,as,al,k0,ah,ao,ay,aw,ap⟩->cB P w hs H0 H' ⟨x,xr,ad,as,al,k0,ah,ao,ay,aw,ap⟩ (newW hs c) []->Q .non H')->kG P w cW cU cP cR vs H Q e0
section
variable{K:W.Frag}
theorem Jf:aA ["self","run","held"] ["self","run","held"] (zi Zo):=.of
theorem Ji(D:lF K mg "Weaver" "Weaver.__init__" cW Zo)(T:Txt K mg)(S:aK K cW cO)(CU:aK K cU bF):iu P w K mg base "Weaver" cW 1 ["self","run","held"] (kG P w cW cU cP cR):=by
 refine oB (k:=0) D Jf ?_;rintro f cv A bk s H vs Q E hr ⟨G,x,l,g,ad,as,al,Z,n,hs,R,c,rfl,hx,sG,Gx,RF,C,GH,W0,k⟩ X;refine⟨_,zf (va (pv 0) (pv 1) rfl) (zf (va (pv 0) (pv 2) rfl) (zf (va (pv 0) (vm zd) rfl) (zf (va (pv 0) (xk (D1 rfl) rfl T.list X9 (zc (zt (pv 1) rfl) zd)) rfl) (zf (va (pv 0) (Vm (τ:=dH)) rfl) (zh (va (pv 0) (vm zd) rfl)))))),?_⟩
 obtain⟨xp,bj,am,PA,bd,b7,cs,cl,co,nk,W,a2⟩:=id RF;have ag:∀{b:Y}{u:HO},H b=some u->(∀d fs,u≠ .ins cW d fs)->b≠x:=λ{b u} e z y=>by rw[y,hx]at e;exact z _ _ (Option.some.inj e).symm
 have a1:ad≠x:=ag C.d (λ_ _ z=>by cases z);have U:as≠x:=ag C.s (λ_ _ z=>by cases z);have a3:al≠x:=ag C.l (λ_ _ z=>by cases z);have Hk:∃o,H Z=some o/\∀d fs,o≠ .ins cW d fs:=by
  rcases W0.w01 with z|z
  . exact⟨_,by rw[a2 z];exact C.l,λ_ _ z=>by cases z⟩
  . obtain⟨ys,e,_,_,_,_⟩:=C.k z;exact⟨_,e,λ_ _ z=>by cases z⟩
 obtain⟨ok,Hk,bl⟩:=Hk;have aS:Z≠x:=ag Hk bl;have gA:H x=some (.ins cW l []):=hx;refine⟨x,cW,l,_,rfl,gA,S.cls,S.n,aY,?_⟩;rw[show vn "run" (.ref g) []=[(("run":Str),V.ref g)] by rfl];have gB:upd H x (.ins cW l [(("run":Str),V.ref g)]) x=_:=ze;have bB:Bt [x] H (upd H x (.ins cW l [(("run":Str),V.ref g)])):=Bt.upd (by simp);generalize upd H x (.ins cW l [(("run":Str),V.ref g)])=HB at gB bB⊢;refine⟨x,cW,l,_,rfl,gB,S.cls,S.n,aY,?_⟩;rw[show vn "held" (.ref n) [(("run":Str),V.ref g)]=[(("run":Str),V.ref g),("held",.ref n)] by rw[yx (by decide)];rfl];have gC:upd HB x (.ins cW l [(("run":Str),V.ref g),("held",.ref n)]) x=_:=ze;have bC:Bt [x] H (upd HB x (.ins cW l [(("run":Str),V.ref g),("held",.ref n)])):=bB.trans (Bt.upd (by simp));generalize upd HB x (.ins cW l [(("run":Str),V.ref g),("held",.ref n)])=HC at gC bC⊢;refine⟨bo _,λa HD sD t b6=>?_⟩;have L:a≠x:=λz=>by rw[z,gC]at t;cases t
 have gD:=sD _ _ gC;have bD:=bC.trans (M:=[x]) sD.bt;refine⟨x,cW,l,_,rfl,gD,S.cls,S.n,aY,?_⟩;rw[show vn "woven" (.ref a) [(("run":Str),V.ref g),("held",.ref n)]=[(("run":Str),V.ref g),("held",.ref n),("woven",.ref a)] by rw[yx (by decide),yx (by decide)];rfl];have gE:upd HD x (.ins cW l [(("run":Str),V.ref g),("held",.ref n),("woven",.ref a)]) x=_:=ze;have bE:Bt [x] H (upd HD x (.ins cW l [(("run":Str),V.ref g),("held",.ref n),("woven",.ref a)])):=bD.trans (Bt.upd (by simp));have oE:upd HD x (.ins cW l [(("run":Str),V.ref g),("held",.ref n),("woven",.ref a)]) a=_:=(upd_ne L).trans b6;generalize upd HD x (.ins cW l [(("run":Str),V.ref g),("held",.ref n),("woven",.ref a)])=HE at gE bE oE⊢;have sx:∀{J:Hp},Bt [x] H J->Same G J:=λ{J} b=>b.same sG λm F=>by rw[aa.mp F];exact Gx
 have dE:=bE _ _ (λF=>a1 (aa.mp F)) C.d;refine⟨g,cU,bj,_,_,rfl,sx bE _ _ bd,CU.cls,CU.n,v6,ad,(List.range hs.fs.length).map λ(i:Nat)=>[(i:Int)],rfl,⟨_,dE,by unfold yp yc;rw[c7,c7];rfl⟩,λys j HI sI p b4 bb=>?_⟩;have N:j≠x:=λz=>by rw[z,gE]at p;cases p
 have a8:j≠a:=λz=>by rw[z,oE]at p;cases p
 have a6:j≠as:=λz=>by rw[z,bE _ _ (λF=>U (aa.mp F)) C.s]at p;cases p
 have gI:=sI _ _ gE;have bI:=bE.trans (M:=[x]) sI.bt;have lI:cC HI j (List.range hs.fs.length):=⟨ys,b4,by rw[c7]at bb;exact bb⟩
 refine⟨x,cW,l,_,rfl,gI,S.cls,S.n,aY,?_⟩;rw[show vn "ready" (.ref j) [(("run":Str),V.ref g),("held",.ref n),("woven",.ref a)]=[(("run":Str),V.ref g),("held",.ref n),("woven",.ref a),("ready",.ref j)] by rw[yx (by decide),yx (by decide),yx (by decide)];rfl];have gJ:upd HI x (.ins cW l [(("run":Str),V.ref g),("held",.ref n),("woven",.ref a),("ready",.ref j)]) x=_:=ze;have bJ:Bt [x] H (upd HI x (.ins cW l [(("run":Str),V.ref g),("held",.ref n),("woven",.ref a),("ready",.ref j)])):=bI.trans (Bt.upd (by simp));have oJ:upd HI x (.ins cW l [(("run":Str),V.ref g),("held",.ref n),("woven",.ref a),("ready",.ref j)]) a=_:=(upd_ne L).trans (sI _ _ oE);have tJ:ym HI (upd HI x (.ins cW l [(("run":Str),V.ref g),("held",.ref n),("woven",.ref a),("ready",.ref j)])):=ym.upd gI (λ_ z=>by cases z);have lJ:cC (upd HI x (.ins cW l [(("run":Str),V.ref g),("held",.ref n),("woven",.ref a),("ready",.ref j)])) j (List.range hs.fs.length):=lI.keep (upd_ne N) tJ;generalize upd HI x (.ins cW l [(("run":Str),V.ref g),("held",.ref n),("woven",.ref a),("ready",.ref j)])=HJ at gJ bJ oJ lJ⊢;intro v ow B bg;have sK:=Same.new B ow;have av:v≠x:=λz=>by rw[z,gJ]at B;cases B
 have gK:=sK _ _ gJ;have bK:=bJ.trans (M:=[x]) sK.bt;have oK:=sK _ _ oJ;have lK:=lJ.same sK;generalize upd HJ v ow=HK at sK bg gK bK oK lK⊢;refine⟨x,cW,l,_,rfl,gK,S.cls,S.n,aY,?_⟩;rw[show vn "waiting" (.ref v) [(("run":Str),V.ref g),("held",.ref n),("woven",.ref a),("ready",.ref j)]=[(("run":Str),V.ref g),("held",.ref n),("woven",.ref a),("ready",.ref j),("waiting",.ref v)] by rw[yx (by decide),yx (by decide),yx (by decide),yx (by decide)];rfl];have gL:upd HK x (.ins cW l [(("run":Str),V.ref g),("held",.ref n),("woven",.ref a),("ready",.ref j),("waiting",.ref v)]) x=_:=ze;have bL:Bt [x] H (upd HK x (.ins cW l [(("run":Str),V.ref g),("held",.ref n),("woven",.ref a),("ready",.ref j),("waiting",.ref v)])):=bK.trans (Bt.upd (by simp));have oL:upd HK x (.ins cW l [(("run":Str),V.ref g),("held",.ref n),("woven",.ref a),("ready",.ref j),("waiting",.ref v)]) a=_:=(upd_ne L).trans oK;have tL:ym HK (upd HK x (.ins cW l [(("run":Str),V.ref g),("held",.ref n),("woven",.ref a),("ready",.ref j),("waiting",.ref v)])):=ym.upd gK (λ_ z=>by cases z);have lL:=lK.keep (upd_ne N) tL;have wL:=aM.by bg tL (upd_ne av)
 generalize upd HK x (.ins cW l [(("run":Str),V.ref g),("held",.ref n),("woven",.ref a),("ready",.ref j),("waiting",.ref v)])=HL at gL bL oL lL wL⊢;refine⟨bo _,λM HM sM r b5=>?_⟩;have bq:M≠x:=λz=>by rw[z,gL]at r;cases r
 have ce:M≠a:=λz=>by rw[z,oL]at r;cases r
 have cc:M≠j:=λz=>by obtain⟨_,q,_⟩:=lL;rw[z,q]at r;cases r
 have b9:M≠as:=λz=>by rw[z,bL _ _ (λF=>U (aa.mp F)) C.s]at r;cases r
 have ba:a≠as:=λz=>by rw[z,bC _ _ (λF=>U (aa.mp F)) C.s]at t;cases t
 have gM:=sM _ _ gL;have bM:=bL.trans (M:=[x]) sM.bt;have oM:=sM _ _ oL;have lM:=lL.same sM;have wM:=wL.same sM;refine⟨x,cW,l,_,rfl,gM,S.cls,S.n,aY,?_⟩;rw[show vn "stopped" (.ref M) [(("run":Str),V.ref g),("held",.ref n),("woven",.ref a),("ready",.ref j),("waiting",.ref v)]=[(("run":Str),V.ref g),("held",.ref n),("woven",.ref a),("ready",.ref j),("waiting",.ref v),("stopped",.ref M)] by rw[yx (by decide),yx (by decide),yx (by decide),yx (by decide),yx (by decide)];rfl];have gN:upd HM x (.ins cW l [(("run":Str),V.ref g),("held",.ref n),("woven",.ref a),("ready",.ref j),("waiting",.ref v),("stopped",.ref M)]) x=_:=ze;have bN:Bt [x] H (upd HM x (.ins cW l [(("run":Str),V.ref g),("held",.ref n),("woven",.ref a),("ready",.ref j),("waiting",.ref v),("stopped",.ref M)])):=bM.trans (Bt.upd (by simp));have oN:upd HM x (.ins cW l [(("run":Str),V.ref g),("held",.ref n),("woven",.ref a),("ready",.ref j),("waiting",.ref v),("stopped",.ref M)]) a=_:=(upd_ne L).trans oM;have pN:upd HM x (.ins cW l [(("run":Str),V.ref g),("held",.ref n),("woven",.ref a),("ready",.ref j),("waiting",.ref v),("stopped",.ref M)]) M=_:=(upd_ne bq).trans b5;have tN:ym HM (upd HM x (.ins cW l [(("run":Str),V.ref g),("held",.ref n),("woven",.ref a),("ready",.ref j),("waiting",.ref v),("stopped",.ref M)])):=ym.upd gM (λ_ z=>by cases z);have lN:=lM.keep (upd_ne N) tN;have wN:=aM.by wM tN (upd_ne av)
 generalize upd HM x (.ins cW l [(("run":Str),V.ref g),("held",.ref n),("woven",.ref a),("ready",.ref j),("waiting",.ref v),("stopped",.ref M)])=HN at gN bN oN pN lN wN⊢;have nb:∀{y:Y},y≠x->y ∉ [x]:=λz F=>z (aa.mp F);have dN:=bN _ _ (nb a1) C.d;have sN:=bN _ _ (nb U) C.s;have b8:=bN _ _ (nb a3) C.l;have b2:=bN _ _ (nb aS) Hk;have Hn:∀{J:Hp}{b:Y}{o:HO},Bt [x] H J->J b=none->b≠x->H b=some o->False:=λ{J b o} bt e z h=>by rw[bt b o (nb z) h]at e;cases e
 have t0:ym H HN:=bN.tups λm F xs e=>by rw[aa.mp F,hx]at e;cases e
 have rN:bQ P w HN hs ad as al Z c:=⟨dN,sN,b8,λz=>(C.k z).bt bN (nb aS) t0⟩
 have Gn:∀{J:Hp}{b:Y},Bt [x] H J->J b=none->G b=none:=λ{J b} bt e=>by cases z:G b with|none=>rfl|some u=>rw[sx bt _ _ z]at e;cases e
 have c2:=Gn bC t;have c0:=Gn bE p;have c1:=Gn bJ B;have GM:∀m∈[ad,as,al,Z,a,j,v],G m=none:=λm F=>by simp only[ak,d7,or_false]at F;rcases F with z|z|z|z|z|z|z<;>rw[z]<;>assumption
 have sW:Same G (without [ad,as,al,Z,a,j,v] HN):=(sx bN).without GM;have bn:x ∉ [ad,as,al,Z,a,j,v]:=by simp[aj a1,aj U,aj a3,aj aS,aj L,aj N,aj av]
 have a7:a≠al:=λz=>Hn bC t L (z▸C.l);have a5:j≠al:=λz=>Hn bE p N (z▸C.l);have b1:Z≠a:=λz=>Hn bC t L (z▸Hk);have b0:Z≠j:=λz=>Hn bE p N (z▸Hk);have bx:Z≠v:=λz=>Hn bJ B av (z▸Hk);have bw:Z≠as:=by
  rcases W0.w01 with z|z
  . rw[a2 z];exact W
  . intro y;obtain⟨ys,e,_,_,_,_⟩:=C.k z;rw[y,C.s]at e;cases e
 refine k a j v M (without [ad,as,al,Z,a,j,v] HN) HN sW ⟨?_,⟨l,by rw[xq bn];exact gN⟩,GH.same sW,yw (by simp),yw (by simp),yw (by simp)⟩ ⟨rN,lN,⟨[],oN,rfl⟩,wN,rfl,λq hq=>(nomatch hq),?_,List.nodup_nil,⟨by simp[b1,b0,bx,bw],ok,b2⟩,ql⟩
 . exact⟨xp,bj,am,PA.same sW,sW _ _ bd,sW _ _ b7,yw (by simp),yw (by simp),yw (by simp),yw (by simp),W,a2⟩
 . simp[aj W,aj a6,aj ba,aj a5,aj a7,a8]
end
theorem cC.bt(x:cC H a l)(b:Bt M H H')(d:a ∉ M)(t:ym H H'):cC H' a l:=by obtain⟨c,f,e⟩:=x;exact⟨c,b _ _ d f,e.tups t (Vs l)⟩
section
variable{A:Type}[DecidableEq A]
theorem W1{b:Nat}:∀{l:List (Nat×List A)},(l.map (·.1)).Nodup->j7 l b=l.filter λr=>decide (r.1≠b)|[],_=>rfl| (c,g)::r,d=>by have a:=cr.mp d;unfold j7;by_cases e:c=b;rw[if_pos e,List.filter_cons,if_neg (by simp[e])];refine(List.filter_eq_self.mpr λx f=>?_).symm;refine ax λz=>a.1 ?_;show c∈_;rw[e,<-z];exact List.mem_map_of_mem f;rw[if_neg e,List.filter_cons,if_pos (by simp[e]),W1 a.2]
theorem Ks{b:Nat}{d:List A}:∀{l:List (Nat×List A)},(l.map (·.1)).Nodup->(b,d)∈l->Z5 l b=d|[],_,h=>nomatch h| (c,g)::r,f,h=>by have a:=cr.mp f;unfold Z5;rcases ak.mp h with e|e;cases e;rw[if_pos J];rw[if_neg (λz=>a.1 (by show c∈_;rw[z];exact List.mem_map_of_mem e))];exact Ks a.2 e
theorem wC{b:Nat}:∀{l:List (Nat×List A)},b ∉ l.map (·.1)->Z5 l b=[]/\j7 l b=l|[],_=>⟨J,J⟩| (c,f)::r,h=>by have e:c≠b:=λz=>h (by rw[<-z];exact bv);obtain⟨d,a⟩:=wC λz=>h (br _ z);unfold Z5 j7;rw[if_neg e,if_neg e,d,a];exact⟨J,J⟩
theorem vX{b:Nat}{h:A}:∀{l:List (Nat×List A)},b ∉ l.map (·.1)->j9 l b h=l++[(b,[h])]|[],_=>rfl| (c,d)::r,a=>by have e:c≠b:=λz=>a (by rw[<-z];exact bv);unfold j9;rw[if_neg e,vX λz=>a (br _ z)];rfl
theorem uv{b:Nat}{h:A}:∀{l:List (Nat×List A)},(l.map (·.1)).Nodup->j9 l b h=if b∈l.map (·.1)then l.map (λr=>if r.1=b then(r.1,r.2++[h])else r)else l++[(b,[h])]
 |[],_=>rfl
 | (c,d)::r,f=>by
   have a:=cr.mp f;unfold j9;by_cases e:c=b;rw[if_pos e,if_pos (show b∈((c,d)::r).map (·.1) by rw[e];exact bv),c6,if_pos e];congr 1;refine(List.map_id' r).symm.trans (List.map_congr_left λx g=>?_);refine(if_neg λz=>a.1 ?_).symm;show c∈_;rw[e,<-z];exact List.mem_map_of_mem g;rw[if_neg e,uv a.2];by_cases m:b∈r.map (·.1);rw[if_pos m,if_pos (show b∈((c,d)::r).map (·.1)from br _ m),c6,if_neg e];rw[if_neg m,if_neg (λz=>by rcases ak.mp z with y|y;exact e y.symm;exact m y)]
   rfl
end
theorem nF{W:ir}:(∀v,y9 (vz W) (cZ b)=some v->∃q∈W,q.1.1=b/\v=.ref q.2)/\(y9 (vz W) (cZ b)=none->b ∉ W.map (·.1.1)):=by induction W with|nil=>exact⟨λv h=>(by cases h),λ_ h=>nomatch h⟩| cons q r a=>have j:vz (q::r)=(cZ q.1.1,V.ref q.2)::vz r:=rfl;rw[j];by_cases e:q.1.1=b;rw[wk (by rw[e])];exact⟨λv h=>⟨q,bv,e,(Option.some.inj h).symm⟩,λh=>by cases h⟩;have d:=λz=>e (uc z);rw[wm d];refine⟨λv h=>?_,λh f=>?_⟩;obtain⟨c,i,g⟩:=a.1 v h;exact⟨c,br _ i,g⟩;rcases ak.mp f with z|z;exact e z.symm;exact a.2 h z
theorem zR{W:ir}:j0 (vz W) (cZ b)=vz (W.filter λq=>decide (q.1.1≠b)):=by unfold j0 vz;rw[List.filter_map];congr 1;apply List.filter_congr;intro q _;show decide (cZ q.1.1≠cZ b)=decide (q.1.1≠b);by_cases e:q.1.1=b;rw[e];simp;have a:¬cZ q.1.1=cZ b:=λz=>e (uc z);rw[ax a,ax e]
section
variable{hs:aC}{a:WA}{s:Ws}{W:ir}
theorem cB.same(m:cB P w hs H0 H a s W)(b:Same H H'):cB P w hs H0 H' a s W:=⟨m.run.same b,m.rdy.same b,m.wov.same b,m.wai.same b,m.wl,λq c=>⟨(m.lst q c).1.same b,(m.lst q c).2⟩,m.nd,m.kd,⟨m.kn.1,let⟨o,e⟩:=m.kn.2;⟨o,b _ _ e⟩⟩,m.s0.trans b⟩
theorem cB.ne(m:cB P w hs H0 H a s W):a.as≠a.ay/\a.as≠a.ao/\a.al≠a.ay/\a.al≠a.ao/\a.ay≠a.ao/\(∀q∈W,q.2≠a.as/\q.2≠a.al/\q.2≠a.ay/\q.2≠a.ao/\q.2≠a.k0)/\(W.map (·.2)).Nodup/\a.k0≠a.ay/\a.k0≠a.ao/\a.k0≠a.aw:=by have d:=cr.mp m.nd;have c:=cr.mp d.2;have f:=cr.mp c.2;have g:=cr.mp f.2;have b:=m.kn.1;simp only[ak,not_or]at d c f b;refine⟨d.1.2.1,d.1.2.2.1,c.1.1,c.1.2.1,f.1.1,λq h=>?_,g.2,b.2.2.1,b.2.2.2.1,b.2.1⟩;have e:q.2∈W.map (·.2):=List.mem_map_of_mem h;exact⟨λz=>d.1.2.2.2 (z▸e),λz=>c.1.2.2 (z▸e),λz=>f.1.2 (z▸e),λz=>g.1 (z▸e),λz=>b.2.2.2.2 (z▸e)⟩
theorem cB.apart(m:cB P w hs H0 H a s W)(h:H c=some (.lst vs)):a.ad≠c/\a.aw≠c:=by
 refine⟨λz=>?_,λz=>?_⟩
 . rw[<-z,m.run.d]at h;cases h
 . obtain⟨b,e⟩:=m.wai.some;rw[<-z,e]at h;cases h
theorem cC.upd_ne{c b:Y}{l:O Nat}{a vs:O V}(x:cC H b l)(h:H c=some (.lst a))(n:b≠c):cC (upd H c (.lst vs)) b l:=x.keep (L2.upd_ne n) (ym.upd h (λ_ z=>by cases z))
theorem cC.upd_eq{a:O V}(h:H c=some (.lst a))(i:IsL H (l.map hN) vs):cC (upd H c (.lst vs)) c l:=⟨vs,ze,i.tups (ym.upd h (λ_ z=>by cases z)) (Vs l)⟩
theorem Zu(s:Same H0 H)(n:H0 c=none):Same H0 (upd H c o):=λb u e=>by rw[L2.upd_ne (zj e n)];exact s b u e
theorem bQ.upd{ad as b a c:Y}{d:Nat->Nat}{o:HO}(m:bQ P w H hs ad as b a d)(t:ym H (upd H c o))(h:ad≠c/\as≠c/\b≠c/\a≠c):bQ P w (L2.upd H c o) hs ad as b a d:=⟨(L2.upd_ne h.1).trans m.d,(L2.upd_ne h.2.1).trans m.s,(L2.upd_ne h.2.2.1).trans m.l,λz=>(m.k z).by t (L2.upd_ne h.2.2.2)⟩
theorem Wx{b:Y}(h:∃u,H b=some u)(n:b≠c):∃u,upd H c o b=some u:=let⟨u,e⟩:=h;⟨u,(L2.upd_ne n).trans e⟩
theorem cB.setR(m:cB P w hs H0 H a s W)(z:H0 a.ay=none)(i:IsL H (l.map hN) vs):cB P w hs H0 (upd H a.ay (.lst vs)) a {s with rdy:=l} W:=by obtain⟨j,p,g,o,f,e,_,c,u,r⟩:=m.ne;obtain⟨d,h,_⟩:=m.rdy;obtain⟨n,k⟩:=m.apart h;have t:ym H (upd H a.ay (.lst vs)):=ym.upd h (λ_ z=>by cases z);exact⟨m.run.upd t ⟨n,j,g,c⟩,cC.upd_eq h i,m.wov.upd_ne h (aj f),m.wai.by t (upd_ne k),m.wl,λq b=>⟨(m.lst q b).1.upd_ne h (e q b).2.2.1,(m.lst q b).2⟩,m.nd,m.kd,⟨m.kn.1,Wx m.kn.2 c⟩,Zu m.s0 z⟩
theorem cB.setO(m:cB P w hs H0 H a s W)(z:H0 a.ao=none)(i:IsL H (l.map hN) vs):cB P w hs H0 (upd H a.ao (.lst vs)) a {s with wov:=l} W:=by obtain⟨p,j,o,g,f,e,_,u,c,r⟩:=m.ne;obtain⟨d,h,_⟩:=m.wov;obtain⟨n,k⟩:=m.apart h;have t:ym H (upd H a.ao (.lst vs)):=ym.upd h (λ_ z=>by cases z);exact⟨m.run.upd t ⟨n,j,g,c⟩,m.rdy.upd_ne h f,cC.upd_eq h i,m.wai.by t (upd_ne k),m.wl,λq b=>⟨(m.lst q b).1.upd_ne h (e q b).2.2.2.1,(m.lst q b).2⟩,m.nd,m.kd,⟨m.kn.1,Wx m.kn.2 c⟩,Zu m.s0 z⟩
theorem bQ.tups{ad as a d:Y}{c:Nat->Nat}(m:bQ P w H hs ad as a d c)(j:cX hs)(h:hs.w=0->d=a)(b:Bt [ad,as,a,d] H H'):ym H H':=b.tups λy f l e=>by
 simp only[ak,d7,or_false]at f;have g:y=a->False:=λz=>by rw[z,m.l]at e;cases e
 rcases f with z|z|z|z
 . rw[z,m.d]at e;cases e
 . rw[z,m.s]at e;cases e
 . exact g z
 . rcases j.w01 with q|q
   . exact g (z.trans (h q))
   . obtain⟨k,i,_,_,_,_⟩:=m.k q;rw[z,i]at e;cases e
theorem cB.bt(m:cB P w hs H0 H a s W){c:Nat->Nat}(n:cX hs)(k:hs.w=0->a.k0=a.al)(x:∀y∈[a.ad,a.as,a.al,a.k0],H0 y=none)(b:Bt [a.ad,a.as,a.al,a.k0] H H')(r:bQ P w H' hs a.ad a.as a.al a.k0 c):cB P w hs H0 H' a {s with c:=c} W:=by
 obtain⟨C,B,A,z,Q,j,_,G,F,E⟩:=m.ne;have t:=m.run.tups n k b;have d:∀{y:Y}{l:O Nat},cC H y l->y≠a.as->y≠a.al->y≠a.k0->y ∉ [a.ad,a.as,a.al,a.k0]:=λ{y l} D v u p g=>by
  obtain⟨N,h,_⟩:=D;simp only[ak,d7,or_false]at g;rcases g with q|q|q|q
  . exact(m.apart h).1 q.symm
  . exact v q
  . exact u q
  . exact p q
 have i:a.aw ∉ [a.ad,a.as,a.al,a.k0]:=λg=>by
  obtain⟨L,e⟩:=m.wai.some;simp only[ak,d7,or_false]at g;rcases g with q|q|q|q
  . rw[q,m.run.d]at e;cases e
  . rw[q,m.run.s]at e;cases e
  . rw[q,m.run.l]at e;cases e
  . exact E q.symm
 have K:∃o,H' a.k0=some o:=by
  rcases n.w01 with q|q
  . rw[k q];exact⟨_,r.l⟩
  . obtain⟨M,e,_,_,_,_⟩:=r.k q;exact⟨_,e⟩
 exact⟨r,m.rdy.bt b (d m.rdy (aj C) (aj A) (aj G)) t,m.wov.bt b (d m.wov (aj B) (aj z) (aj F)) t,m.wai.bt b i t,m.wl,λq f=>⟨(m.lst q f).1.bt b (d (m.lst q f).1 (j q f).1 (j q f).2.1 (j q f).2.2.2.2) t,(m.lst q f).2⟩,m.nd,m.kd,⟨m.kn.1,K⟩,b.same m.s0 x⟩
theorem cB.setW(m:cB P w hs H0 H a s W)(z:H0 a.aw=none){d:ir}(g:aM dH P w (upd H a.aw o) a.aw (vz d))(b:∀q∈d,q∈W)(i:(a.as::a.al::a.ay::a.ao::d.map (·.2)).Nodup)(k:(d.map (·.1.1)).Nodup):cB P w hs H0 (upd H a.aw o) a {s with wai:=d.map (·.1)} d:=by
 obtain⟨G,F,E,D,C,B,_,L,K,r⟩:=m.ne;have t:ym H (upd H a.aw o):=m.wai.tups;have f:∀{c:Y}{l:O Nat},cC H c l->c≠a.aw:=λ{c l} ⟨A,h,_⟩=>aj (m.apart h).2;obtain⟨x,e⟩:=m.wai.some;have j:a.k0 ∉ (a.as::a.aw::a.ay::a.ao::d.map (·.2)):=λu=>by
  refine m.kn.1 ?_;simp only[ak]at u⊢;rcases u with q|q|q|q|q
  . exact .inl q
  . exact .inr (.inl q)
  . exact .inr (.inr (.inl q))
  . exact .inr (.inr (.inr (.inl q)))
  . obtain⟨p,v,e⟩:=ci.mp q;exact .inr (.inr (.inr (.inr (e▸List.mem_map_of_mem (b p v)))))
 refine⟨m.run.upd t ⟨(λy=>by rw[<-y,m.run.d]at e;cases e),(λy=>by rw[<-y,m.run.s]at e;cases e),(λy=>by rw[<-y,m.run.l]at e;cases e),r⟩,m.rdy.keep (upd_ne (f m.rdy)) t,m.wov.keep (upd_ne (f m.wov)) t,g,J,λq n=>⟨(m.lst q (b q n)).1.keep (upd_ne (f (m.lst q (b q n)).1)) t,(m.lst q (b q n)).2⟩,i,k,⟨j,Wx m.kn.2 r⟩,Zu m.s0 z⟩
end
theorem J9{g:Nat}:∀{gs:List Nat}{r:List Nat}{w:List (Nat×List Nat)},popG (gs++[g]) r w=((popG gs r w).1++Z5 (popG gs r w).2 g,j7 (popG gs r w).2 g)|[],_,_=>rfl|x::gs,r,w=>J9 (gs:=gs)
theorem Yn:∀{l:List (Nat×List Nat)},(wx l).length=ko l|[]=>rfl| (c,l)::r=>by show(l++wx r).length=l.length+ko r;rw[cn,Yn]
theorem vH{gs r:O Nat}{w:O (Nat×O Nat)}:(popG gs r w).1.length+ko (popG gs r w).2=r.length+ko w:=by have:=(Qh (gs:=gs) (r:=r) (w:=w)).length_eq;rw[cn,cn,Yn,Yn]at this;exact this
theorem K0{n:Nat}(h:n<=9000):n<sizeLine:=f7 h (by decide)
theorem wA{l:O (Nat×O Nat)}:(Z5 l b).length<=ko l:=by have:=wE (b:=b) (l:=l);omega
inductive kJ(P:Program)(w:World)(cW cU cP cR:Addr)(vs:List V)(H:Hp)(Q:VK)(e0:XK):Prop|mk:∀(H0:Hp)(a:WA)(hs:aC)(R:Nat->Addr)(s:Ws)(W:ir)(i:Nat)(d:aF)(vh:V),vs=[.ref a.x,vh]->qJ P w H0 cW cU cP cR hs R a->cB P w hs H0 H a s W->cX hs->i<hs.fs.length->Is H (hN i) vh->((aD hs).S i)[s.c i]?=some d->s.rdy.length+ko s.wai<=1000->s.wov.length<=4000->(∀W' H',cB P w hs H0 H' a (qC (aD hs) s i d) W'->Q .non H')->kJ P w cW cU cP cR vs H Q e0
section
variable{K:W.Frag}
theorem uC:aA ["self","hand","begun","ground"] ["self","hand"] (zi pG):=.of
theorem Bh(D:qr K cW "step" "Weaver.step" pG)(p:aK K cW cO)(CU:aK K cU bF)(CP:aK K cP bO)(CR:aK K cR aT)(oD:bZ P w K mg base cU "do" 3 ["self","hand"] (iO P w cU cP cR)):bZ P w K mg base cW "step" 4 ["self","hand"] (kJ P w cW cU cP cR):=by
 refine Zf (k:=3) D uC ?_;rintro f c3 A bC s0 H vs Q E hr ⟨H0,a,hs,R,s,W,i,d,vh,rfl,F,m,W0,hi,ap,hd,cv,cs,k⟩ X;have hu:=jy hr;have b0:=Xh hr;have nd:=uC.nd;refine⟨_,zf (zv (i:=2) nd (Qo hu (zt (vx hu (zt (zt (zt (pv 0) J) J) J) (pv 1)) J) (vx hu (zt (zt (pv 0) J) J) (pv 1)) ⟨J,J,J,J⟩)) (zf (wy PassesOwn.never J (Yu (v0 oD CU.cls hr (zt (pv 0) J) (zc (pv 1) zd))) (zu (i:=3) nd) (zh (xn (Zd PySem.F.plainAttrs_list PySem.F.slot_list_extend PySem.F.type_list_extend DJ (zt (pv 0) J) (zc (Qm (τ:=dH) b0 (zt (pv 0) J) (pv 3) (vm zd) ⟨J,J,J,J⟩) zd)))))
  (zf (xn (Zd PySem.F.plainAttrs_list PySem.F.slot_list_append PySem.F.type_list_append wj (zt (pv 0) J) (zc (pv 1) zd))) (zf (xn (Zd PySem.F.plainAttrs_list PySem.F.slot_list_append PySem.F.type_list_append wj (zt (pv 0) J) (zc (pv 1) zd))) (zh (yj (Zv (pV (pv 2))) xz zn))))),?_⟩
 obtain⟨RF,⟨dx,hx⟩,GH,bJ,ao,bI⟩:=id F;obtain⟨xp,aS,am,PA,av,_,co,ce,cl,nk,b9,bk⟩:=id RF;obtain⟨dp,vv,ar,hp,b7,a7,b8,vc,vs,ab,an,ac,r1,r2,r4,r5,r6,_⟩:=PA.role hi;obtain⟨U,rfl,bl⟩:=Yj ap;have g:=m.s0;refine⟨a.x,cW,dx,_,_,J,g _ _ hx,p.cls,p.n,Wc,a.xr,cU,aS,_,_,J,g _ _ av,CU.cls,CU.n,Xl,xp,cP,dp,_,_,J,g _ _ hp,CP.cls,CP.n,jc,ar,_,J,a7▸DGet.t (g _ _ b7) bl,R i,cR,b8,_,_,J,g _ _ r1,CR.cls,CR.n,Dw,ab,J,.inl ⟨_,.inl (g _ _ r4)⟩,a.x,cW,dx,_,_,J,g _ _ hx,p.cls,p.n,Wc,a.xr,cU,aS,_,_,J,g _ _ av,CU.cls,CU.n,v6,a.ad,_,J,Y6 hi▸DGet.t m.run.d bl,_,DGet.k (k:=(Sum.inl (s.c i:Int):aI)) (g _ _ r4),?_⟩
 refine⟨a.x,cW,dx,_,_,J,g _ _ hx,p.cls,p.n,Wc,a.xr,aS,_,J,g _ _ av,J,H0,a.xr,a.ad,a.as,a.al,a.k0,hs,R,s.c,i,.ref U,d,J,⟨RF,m.s0,m.run⟩,hi,W0,ap,hd,λl H1 b1 M bB i1=>?_⟩;have m1:=m.bt W0 bk (λy hm=>by simp only[ak,d7,or_false]at hm;rcases hm with q|q|q|q<;>rw[q]<;>assumption) b1 bB;obtain⟨l',zs,el,bj,a6⟩:=i1;cases el;have bM:zs.length=(eV (aD hs) s.c i d).length:=by rw[a6.length,ai]
 refine⟨l,J,⟨zs,aJ.of bj⟩,?_⟩;have bD:l≠a.ay:=λz=>by obtain⟨_,q,_⟩:=m.rdy;rw[z,q]at M;cases M
 have bE:l≠a.aw:=λz=>by obtain⟨_,q⟩:=m.wai.some;rw[z,q]at M;cases M
 have a1:∀{G:Hp},Same (without [a.ay,a.aw] H1) G->ym H1 G:=λ{G} L c B e=>by
  refine L _ _ ?_;rw[xq]
  . exact e
  . intro hm;rcases ak.mp hm with y|y
    . obtain⟨_,q,_⟩:=m1.rdy;rw[y,q]at e;cases e
    . obtain⟨_,q⟩:=m1.wai.some;rw[aa.mp y,q]at e;cases e
 let n:=eV (aD hs) s.c i d;let st:Nat->Ws:=λj=>⟨aP s.c i,(popG (n.take j) s.rdy s.wai).1,(popG (n.take j) s.rdy s.wai).2,s.wov⟩
 refine Q4 (K:=K) (a:=l) (xs:=zs) (λj σ G=>∃x3 C,σ=[some (.ref a.x),some (.ref U),some .non,x3]/\cB P w hs H0 G a (st j) C/\Same (without [a.ay,a.aw] H1) G)
  ⟨none,W,J,m1,ql⟩ (λj σ G _ ⟨_,_,_,_,L⟩=>aJ.of (L _ _ (by rw[xq (by simp[bD,bE])];exact bj))) ?_ ?_
 . rintro j v σ G hv ⟨x3,C,rfl,b,L⟩;obtain⟨tt,a8,bK⟩:=a6.get' hv;rw[bc]at a8;obtain⟨x,b6,rfl⟩:=cu.mp a8;have ej:n.take (j+1)=n.take j++[x]:=by rw[cy,b6];rfl
   have bq:st (j+1)=⟨aP s.c i,(st j).rdy++Z5 (st j).wai x,j7 (st j).wai x,s.wov⟩:=by show Ws.mk _ _ _ _=_;rw[ej,J9]
   have bg:(st j).rdy.length+ko (st j).wai<=1000:=by have:=vH (gs:=n.take j) (r:=s.rdy) (w:=s.wai);show(popG (n.take j) s.rdy s.wai).1.length+ko (popG (n.take j) s.rdy s.wai).2<=1000;omega
   have t:=bK.tups (a1 L) (dH.fro _);obtain⟨gv,xg,rfl,c2,c1⟩:=id t;obtain⟨B,u,r⟩:=id b.rdy;have gG:=b.s0;have N:C.map (·.1)=(st j).wai:=b.wl;have bt:((st j).wai.map (·.1)).Nodup:=by rw[<-N,c7];exact b.kd
   have bw:B.length=(st j).rdy.length:=by have:=r.length;rw[ai]at this;exact this
   refine⟨a.x,cW,dx,_,_,J,gG _ _ hx,p.cls,p.n,Xk,.inl ⟨J,_,aJ.of u⟩,a.x,cW,dx,_,_,J,gG _ _ hx,p.cls,p.n,Vw,a.aw,_,J,b.wai,bo _,λe H3 Z c0 he=>⟨gv,vz C,cZ x,J,b.wai.same Z,t.mono Z,λv2 bN o hg=>?_,λb4=>?_⟩⟩
   . obtain⟨q,hq,b2,rfl⟩:=nF.1 _ bN;rw[zR]at hg;have h:=b.same Z;obtain⟨n1,n2,n3,n4,n5,nq,nW,k1,k2,k3⟩:=h.ne;have m4:=h.setW bI hg (λq hq=>(d8.mp hq).1) (h.nd.sublist (((((List.filter_sublist ..).map _).cons_cons _).cons_cons _).cons_cons _ |>.cons_cons _)) (h.kd.sublist ((List.filter_sublist ..).map _));obtain⟨ah,bn,ag⟩:=m4.rdy;have ba:=(h.lst q hq).1;obtain⟨zq,bL,a2⟩:=(ba.keep (upd_ne (by obtain⟨_,y,_⟩:=ba;exact aj (h.apart y).2)) h.wai.tups:cC (upd H3 a.aw o) q.2 q.1.2)
     have l4:ah.length=(st j).rdy.length:=by have:=ag.length;rw[ai]at this;exact this
     have lq:zq.length=q.1.2.length:=by have:=a2.length;rw[ai]at this;exact this
     have bd:(x,q.1.2)∈(st j).wai:=by rw[<-N,<-b2];exact List.mem_map_of_mem (f:=λz:(Nat×O Nat)×Y=>z.1) hq
     have S:Z5 (st j).wai x=q.1.2:=Ks bt bd;have ay:j7 (st j).wai x=(C.filter λq=>decide (q.1.1≠x)).map (·.1):=by rw[W1 bt,<-N,List.filter_map];rfl
     have bx:=wA (b:=x) (l:=(st j).wai);rw[S]at bx;have m5:=m4.setR ao (l:=(st j).rdy++q.1.2) (vs:=ah++zq) (by rw[be];exact IsL.append ag a2);refine⟨a.ay,q.2,ah,zq,J,J,bn,bL,Nat.le_of_lt (K0 (by omega)),_,C.filter λq=>decide (q.1.1≠x),J,?_,Zu (Zu (L.trans Z) (yw (by simp))) (yw (by simp))⟩;rw[bq,S,ay];exact m5
   . have b5:=nF.2 b4;have bb:x ∉ (st j).wai.map (·.1):=by rw[<-N,c7];exact b5
     obtain⟨S,ay⟩:=wC bb;have h:=b.same Z;have m5:=h.setR ao (l:=(st j).rdy++[]) (vs:=B++[]) (by rw[eh,eh];exact r.mono Z);refine⟨a.ay,e,B,[],J,J,Z _ _ u,he,Nat.le_of_lt (K0 (by show B.length+0<=9000;omega)),_,C,J,?_,Zu (L.trans Z) (yw (by simp))⟩;rw[bq,S,ay];exact m5
 rintro σ G ⟨x3,C,rfl,b,L⟩;have m2:cB P w hs H0 G a ⟨aP s.c i,(popG n s.rdy s.wai).1,(popG n s.rdy s.wai).2,s.wov⟩ C:=by
  have:st zs.length=⟨aP s.c i,(popG n s.rdy s.wai).1,(popG n s.rdy s.wai).2,s.wov⟩:=by show Ws.mk _ _ _ _=_;rw[List.take_of_length_le (by rw[bM];exact ae _)]
  rw[this]at b;exact b
 have bg:=vH (gs:=n) (r:=s.rdy) (w:=s.wai);have t:Is G (hN i) (.ref U):=(ap.tups (m.run.tups W0 bk b1) (km _)).tups (a1 L) (km _);obtain⟨os,aw,a5⟩:=id m2.wov;have cc:os.length=s.wov.length:=by have:=a5.length;rw[ai]at this;exact this
 refine⟨a.x,cW,dx,_,_,J,m2.s0 _ _ hx,p.cls,p.n,vZ,.inl ⟨J,_,aJ.of aw⟩,a.ao,os,_,J,J,aw,K0 (by omega),?_⟩;have h:=m2.setO bJ (l:=s.wov++[i]) (vs:=os++[.ref U]) (by rw[be];exact IsL.append a5 (IsL.one t));have a3:Is (upd G a.ao (.lst (os++[.ref U]))) (hN i) (.ref U):=t.tups (ym.upd aw (λ_ z=>by cases z)) (km _);generalize upd G a.ao (.lst (os++[.ref U]))=H3 at h a3⊢;obtain⟨B,u,r⟩:=id h.rdy;have bw:B.length=(popG n s.rdy s.wai).1.length:=by have:=r.length;rw[ai]at this;exact this
 refine⟨a.x,cW,dx,_,_,J,h.s0 _ _ hx,p.cls,p.n,Xk,.inl ⟨J,_,aJ.of u⟩,a.ay,B,_,J,J,u,K0 (by omega),?_⟩;have m4:=h.setR ao (l:=(popG n s.rdy s.wai).1++[i]) (vs:=B++[.ref U]) (by rw[be];exact IsL.append r (IsL.one a3));generalize upd H3 a.ay (.lst (B++[.ref U]))=H4 at m4⊢;exact⟨_,J,yd (k C H4 m4)⟩
end
theorem Ww{a d:Type}{f:a->d}:∀{l:List a},(l.map f).Nodup->∀{x y:a},x∈l->y∈l->f x=f y->x=y
 |[],_,_,_,h,_,_=>nomatch h
 | c::r,g,x,y,j,i,e=>by
   have b:=cr.mp g;rcases ak.mp j with z|z<;>rcases ak.mp i with u|u;rw[z,u]
   grind
   simp_all
   exact Ww b.2 z u e
theorem cB.addW{n:aC}{a:WA}{s:Ws}{W:ir}(m:cB P w n H0 H a s W){q:(Nat×O Nat)×Y}(b:q∈W){h:Nat}(e:H q.2=some (.lst vs))(i:IsL H (q.1.2.map hN) vs)(r:Is H (hN h) v):cB P w n H0 (upd H q.2 (.lst (vs++[v]))) a {s with wai:=j9 s.wai q.1.1 h} (W.map λz=>if z.1.1=q.1.1 then((z.1.1,z.1.2++[h]),z.2)else z):=by
 obtain⟨K,G,F,E,D,d,p,N,M,L⟩:=m.ne;obtain⟨C,B⟩:=m.apart e;have t:ym H (upd H q.2 (.lst (vs++[v]))):=ym.upd e (λ_ z=>by cases z);have k:∀z∈W,z.1.1=q.1.1->z=q:=λz g e=>by exact Ww m.kd g b e
 have f:∀z∈W,z.2=q.2->z=q:=λz g e=>Ww p g b e;have o:(W.map λz=>if z.1.1=q.1.1 then((z.1.1,z.1.2++[h]),z.2)else z).map (·.2)=W.map (·.2):=by
  rw[c7];refine List.map_congr_left λz _=>?_
  grind
 have A:(W.map λz=>if z.1.1=q.1.1 then((z.1.1,z.1.2++[h]),z.2)else z).map (·.1.1)=W.map (·.1.1):=by
  rw[c7];refine List.map_congr_left λz _=>?_
  grind
 have x:vz (W.map λz=>if z.1.1=q.1.1 then((z.1.1,z.1.2++[h]),z.2)else z)=vz W:=by
  unfold vz
  simp_all
 refine⟨m.run.upd t ⟨C,aj (d q b).1,aj (d q b).2.1,aj (d q b).2.2.2.2⟩,m.rdy.upd_ne e (aj (d q b).2.2.1),m.wov.upd_ne e (aj (d q b).2.2.2.1),?_,?_,λz g=>?_,by rw[o];exact m.nd,by rw[A];exact m.kd,⟨by rw[o];exact m.kn.1,Wx m.kn.2 (aj (d q b).2.2.2.2)⟩,Zu m.s0 (m.lst q b).2⟩;rw[x];exact m.wai.by t (upd_ne B)
 have l:(s.wai.map (·.1)).Nodup:=by rw[<-m.wl,c7];exact m.kd
 have u:q.1.1∈s.wai.map (·.1):=by rw[<-m.wl,c7];grind
 rw[uv l,if_pos u,<-m.wl,c7,c7];refine List.map_congr_left λz _=>?_
 grind
 obtain⟨y,j,rfl⟩:=ci.mp g;by_cases c:y.1.1=q.1.1;rw[if_pos c];obtain rfl:=k y j c;exact⟨⟨_,ze,(by rw[be];exact(IsL.append i (IsL.one r)).tups t (by rw[<-be];exact Vs _))⟩,(m.lst y j).2⟩;rw[if_neg c];exact⟨(m.lst y j).1.upd_ne e (λz=>c (by rw[f y j z])),(m.lst y j).2⟩
theorem cB.newW{r:aC}{a:WA}{s:Ws}{W:ir}(m:cB P w r H0 H a s W){e:Y}{h:Nat}(he:H e=some (.lst []))(z:H0 e=none)(E:H0 a.aw=none)(ne:e ∉ a.as::a.al::a.ay::a.ao::W.map (·.2))(p:a.k0≠e)(R:b ∉ W.map (·.1.1))(g:aM dH P w (upd H a.aw o) a.aw (vz (W++[((b,[]),e)]))) (K:Is H (hN h) v):cB P w r H0 (upd (upd H a.aw o) e (.lst [v])) a {s with wai:=j9 s.wai b h} (W++[((b,[h]),e)]):=by
 obtain⟨M,D⟩:=m.apart he;have A:ym H (upd H a.aw o):=m.wai.tups;have u:upd H a.aw o e=some (.lst []):=(upd_ne (aj D)).trans he;have f:ym (upd H a.aw o) (upd (upd H a.aw o) e (.lst [v])):=ym.upd u (λ_ z=>by cases z);have t:=A.trans f;simp only[ak,not_or]at ne;have i:∀{c:Y}{k:O Nat},cC H c k->c≠e->cC (upd (upd H a.aw o) e (.lst [v])) c k:=λ{c k} l n=>l.keep (by obtain⟨Q,y,_⟩:=l;rw[upd_ne n,upd_ne (aj (m.apart y).2)]) t
 obtain⟨N,d⟩:=m.wai.some;have B:=m.ne.2.2.2.2.2.2.2.2.2;have F:bQ P w (upd H a.aw o) r a.ad a.as a.al a.k0 s.c:=m.run.upd A ⟨(λy=>by rw[<-y,m.run.d]at d;cases d),(λy=>by rw[<-y,m.run.s]at d;cases d),(λy=>by rw[<-y,m.run.l]at d;cases d),B⟩;have G:∀q∈W,q.2≠e:=λq C y=>ne.2.2.2.2 (by grind);refine⟨F.upd f ⟨M,aj ne.1,aj ne.2.1,p⟩,i m.rdy (aj ne.2.2.1),i m.wov (aj ne.2.2.2.1),?_,?_,λq C=>?_,?_,?_,⟨?_,Wx (Wx m.kn.2 B) p⟩,Zu (Zu m.s0 E) z⟩;have L:vz (W++[((b,[h]),e)])=vz (W++[((b,[]),e)]):=by unfold vz;simp
 rw[L];exact g.by f (upd_ne D)
 have j:b ∉ s.wai.map (·.1):=by rw[<-m.wl,c7];grind
 rw[vX j,be,m.wl];rfl;rcases dc.mp C with y|y;exact⟨i (m.lst q y).1 (G q y),(m.lst q y).2⟩;rw[aa.mp y];exact⟨⟨_,ze,IsL.one (K.tups t (km _))⟩,z⟩;have q:=m.nd
 grind
 rw[be,List.nodup_append];refine⟨m.kd,by simp,λx U y S z=>?_⟩
 simp_all
 . have q:=m.kn.1;rw[be];simp only[ak,dc,c6,List.map_nil,d7,or_false]at q⊢;rintro(y|y|y|y|y|y)
   . exact q (.inl y)
   . exact q (.inr (.inl y))
   . exact q (.inr (.inr (.inl y)))
   . exact q (.inr (.inr (.inr (.inl y))))
   . exact q (.inr (.inr (.inr (.inr y))))
   . exact p y
def NE(l:List (Nat×List Nat)):Prop:=∀r∈l,r.2≠[]
theorem NE.add{l:List (Nat×List Nat)}{h:Nat}:NE l->NE (j9 l b h):=by
 induction l with|nil=>intro _ r g;rw[aa.mp g];simp| cons c r d=>
   intro n x a;obtain⟨c,i⟩:=c;unfold j9 at a;by_cases e:c=b;rw[if_pos e]at a;rcases ak.mp a with z|z
   simp_all
   exact n x (br _ z);rw[if_neg e]at a;rcases ak.mp a with z|z;rw[z];exact n _ bv;exact d (λy f=>n y (br _ f)) x z
theorem NE.del{l:List (Nat×List Nat)}:NE l->NE (j7 l b):=by induction l with|nil=>exact λn=>n| cons c r d=>intro n x a;obtain⟨c,g⟩:=c;unfold j7 at a;by_cases e:c=b;rw[if_pos e]at a;exact n x (br _ a);rw[if_neg e]at a;rcases ak.mp a with z|z;rw[z];exact n _ bv;exact d (λy f=>n y (br _ f)) x z
theorem NE.len{l:List (Nat×List Nat)}:NE l->l.length<=ko l:=by induction l with|nil=>simp| cons c r a=>intro n;have e:=a λy b=>n y (br _ b);have d:=List.length_pos_iff.mpr (n c bv);show r.length+1<=c.2.length+ko r;omega
theorem NE.popG:∀{gs r:List Nat}{w:List (Nat×List Nat)},NE w->NE (popG gs r w).2|[],_,_,n=>n|_::gs,_,_,n=>NE.popG (gs:=gs) n.del
theorem NE.turn{h:HW}{s:Ws}(n:NE s.wai):NE (fP h s i).wai:=by
 unfold fP;cases(h.S i)[s.c i]? with|none=>exact n| some d=>
   dsimp only;by_cases c:qd h s.c i=true
   . rw[if_pos c];exact NE.popG n
   . rw[if_neg c];cases Ze (h.S i) (s.c i) d with|none=>exact n|some g=>exact n.add
theorem IsL.snoc{H:Hp}:∀{c:List L2.T}{t:L2.T}{b:List V},IsL H (c++[t]) b->∃a v,b=a++[v]/\IsL H c a/\Is H t v| [],t,b,h=>by obtain⟨v,f,rfl,e,d⟩:=h;cases(d);exact⟨[],v,J,J,e⟩| u::c,t,b,h=>by obtain⟨v,f,rfl,e,d⟩:=h;obtain⟨a,w,rfl,i,g⟩:=IsL.snoc d;exact⟨v::a,w,J,⟨v,a,J,e,i⟩,g⟩
inductive kE(P:Program)(w:World)(cW cU cP cR:Addr)(vs:List V)(H:Hp)(Q:VK)(e0:XK):Prop|mk:∀(H0:Hp)(a:WA)(hs:aC)(R:Nat->Addr)(s:Ws)(W:ir),vs=[.ref a.x]->qJ P w H0 cW cU cP cR hs R a->cB P w hs H0 H a s W->cX hs->Wi (aD hs) s->NE s.wai->(∀s' W' H',cB P w hs H0 H' a s' W'->Wi (aD hs) s'->s'.rdy=[]->Q .non H')->kE P w cW cU cP cR vs H Q e0
theorem Kv{a:aC}(W:cX a):Kw (aD a)<=3200:=by
 have b:∀n,n<=a.fs.length->Z6 (λi=>((aD a).S i).length) n<=n*80:=by intro n;induction n with|zero=>exact λ_=>ae _| succ n c=>intro e;have:=c (by omega);have d:=rP W (i:=n) (by omega);unfold Z6 at *;rw[List.range_succ,be,List.sum_append];simp only[c6,List.map_nil,List.sum_cons,List.sum_nil];omega
 have:=b a.fs.length (ae _);have:=W.n1;show Z6 _ a.fs.length<=3200;omega
section
variable{K:W.Frag}
theorem vQ:aA ["self","hand","deed"] ["self"] (zi K3):=.of
theorem Ch (D:qr K cW "weave" "Weaver.weave" K3) (t:aK K cW cO) (CU:aK K cU bF) (CP:aK K cP bO) (CR:aK K cR aT) (oN:bZ P w K mg base cU "next_deed" 1 ["self","hand"] (gm cU cP cR)) (oM:bZ P w K mg base cU "may_go_on" 2 ["self","hand"] (gp cU cP cR)) (oS:bZ P w K mg base cW "step" 4 ["self","hand"] (kJ P w cW cU cP cR)):bZ P w K mg base cW "weave" 5 ["self"] (kE P w cW cU cP cR):=by
 refine Zf (k:=4) D vQ ?_;rintro f c1 A bn s0 H vs Q E hr ⟨H0,a,n,R,s,W,rfl,F,m,W0,WV,bJ,k⟩ X;have hu:=jy hr;have a7:=Xh hr;have bB:=Nat.lt_of_succ_lt a7;have nd:=vQ.nd;refine⟨_,zh (CF PassesOwn.never (CG (zt (pv 0) J) (λ_=>rfl)) (zf (zv (i:=1) nd (Ar PySem.F.plainAttrs_list PySem.F.slot_list_pop PySem.F.type_list_pop Af (zt (pv 0) J))) (zf (zv (i:=2) nd (v0 oN CU.cls (hr.mono (by decide)) (zt (pv 0) J) (zc (pv 1) zd))) (zh (yj (Zv (Aq (τ:=lA) bB (yn (zc (pv 1) (zc (vx hu (zt (zt (pv 0) J) J) (pv 1)) zd))) (zt (pv 0) J))) xz
   (zh (yj (yy (v0 oM CU.cls (hr.mono (by decide)) (zt (pv 0) J) (zc (pv 1) zd))) (zh (xn (v0 oS t.cls hr (pv 0) (zc (pv 1) zd)))) (zh (yj (Zv (pV (pv 2))) (zh (xn (Zd PySem.F.plainAttrs_list PySem.F.slot_list_append PySem.F.type_list_append wj (CA (τ:=dH) a7 (zt (pv 0) J) (Ql oY (pv 2) pX (pY zg)) (vm zd) ⟨J,J,J,J⟩) (zc (pv 1) zd)))) zn))))))))),?_⟩
 obtain⟨RF,⟨dx,hx⟩,GH,b7,bq,bt⟩:=id F;obtain⟨xp,ay,am,PA,av,_,b9,b6,b8,nk,b4,cv⟩:=id RF;refine⟨λmm σ G=>∃x1 x2 st x,σ=[some (.ref a.x),x1,x2]/\cB P w n H0 G a st x/\Wi (aD n) st/\NE st.wai/\mm=mO (aD n) st,⟨_,none,none,s,W,J,m,WV,bJ,J⟩,?_⟩;rintro mm σ G ⟨x1,x2,st,x,rfl,m1,B,ag,rfl⟩;obtain⟨ys,U,L⟩:=id m1.rdy;refine⟨a.x,cW,dx,_,_,J,m1.s0 _ _ hx,t.cls,t.n,Xk, !ys.isEmpty,.inl ⟨ys,aJ.of U,J⟩,?_⟩;by_cases c:st.rdy=[]
 . rw[c]at L;cases(show ys=[]from L);exact yd (k st x G m1 B c)
 obtain⟨r,i,er⟩:∃r i,st.rdy=r++[i]:=⟨st.rdy.dropLast,st.rdy.getLast c,(List.dropLast_concat_getLast c).symm⟩
 rw[er,be]at L;obtain⟨yr,v,rfl,bw,iv⟩:=IsL.snoc L;have bd:(!(yr++[v]).isEmpty)=true:=by cases yr<;>rfl
 rw[bd];obtain⟨WT,bK⟩:=B.turn er;have hi:i<n.fs.length:=B.lt i (.inl (by rw[er];exact cw _ (aa.mpr J)));have cs:st.rdy.length+ko st.wai<=40:=by have q:=Ka B.one λj hj=>B.lt j (dc.mp hj);rw[cn,Yn]at q;have:=W0.n1;have:(aD n).n=n.fs.length:=rfl;omega
 have co:st.wov.length<=3200:=cj B.lg.most (Kv W0);have cc:r.length+1=st.rdy.length:=by rw[er,cn];rfl
 refine yv ⟨λa1 G'=>∃x1 x2 aS,a1=[some (.ref a.x),x1,x2]/\cB P w n H0 G' a (fP (aD n) {st with rdy:=r} i) aS,?_,?_⟩
 . rintro a1 G' ⟨bl,bk,aS,rfl,m'⟩;exact⟨_,bK,bl,bk,_,aS,J,m',WT,NE.turn (s:={st with rdy:=r}) ag,J⟩
 refine⟨a.x,cW,dx,_,_,J,m1.s0 _ _ hx,t.cls,t.n,Xk,.inl ⟨J,_,aJ.of U⟩,a.ay,_,v,J,J,U,by simp,?_⟩;rw[List.dropLast_append_of_ne_nil (by simp),List.dropLast_singleton,eh];have m2:=m1.setR bq (l:=r) (vs:=yr) bw;have M:Is (upd G a.ay (.lst yr)) (hN i) v:=iv.tups (ym.upd U (λ_ z=>by cases z)) (km _);generalize upd G a.ay (.lst yr)=G2 at m2 M⊢;obtain⟨bh,rfl,bN⟩:=Yj M;have rd:∀{G3:Hp},cB P w n H0 G3 a {st with rdy:=r} x->cL H0 G3 cU cP cR n R a.xr a.ad a.as a.al a.k0 st.c:=λ{G3} m=>aU.rd ⟨RF,m.s0,m.run⟩;refine⟨a.x,cW,dx,_,_,J,m2.s0 _ _ hx,t.cls,t.n,Wc,a.xr,ay,_,J,m2.s0 _ _ av,J,H0,a.xr,a.ad,a.as,a.al,a.k0,n,R,st.c,i,.ref bh,J,rd m2,hi,W0,M,λvd p=>?_⟩;refine⟨a.x,cW,dx,_,_,J,m2.s0 _ _ hx,t.cls,t.n,Wc,a.xr,cU,ay,_,_,J,m2.s0 _ _ av,CU.cls,CU.n,v6,a.ad,_,J,Y6 hi▸DGet.t m2.run.d bN,aY,λp3 G3 s3 ce bD=>?_⟩;have m3:=m2.same s3;have ao:=M.mono s3;refine⟨a.x,cW,dx,_,_,J,m3.s0 _ _ hx,t.cls,t.n,BN,a.ah,p3,[],([(i:Int)],(st.c i:Int)),J,J,GH.same m3.s0,⟨p3,_,J,bD,IsL.two ao J⟩,_,J,yd ?_⟩;refine⟨a.x,cW,dx,_,_,J,m3.s0 _ _ hx,t.cls,t.n,Wc,a.xr,ay,_,J,m3.s0 _ _ av,J,H0,a.xr,a.ad,a.as,a.al,a.k0,n,R,st.c,i,.ref bh,J,rd m3,hi,W0,ao,λG4 s4=>⟨_,J,?_⟩⟩;have m4:=m3.same s4;have a5:=ao.mono s4;cases S:((aD n).S i)[st.c i]? with
 | none=>
   rw[S]at p;have e2:qd (aD n) st.c i=false:=by unfold qd;rw[S]
   rw[e2,show vd=.non from p];refine yd ⟨_,J,yd ⟨_,_,x,J,?_⟩⟩;have et:fP (aD n) {st with rdy:=r} i={st with rdy:=r}:=by unfold fP;simp only[S]
   rw[et];exact m4
 | some d =>
   rw[S]at p;have p:Is G2 (eD d) vd:=p;by_cases c2:qd (aD n) st.c i=true
   . rw[c2];have et:fP (aD n) {st with rdy:=r} i=qC (aD n) {st with rdy:=r} i d:=by unfold fP;simp only[S,c2,if_true]
     refine yv ⟨a.x,dx,_,J,m4.s0 _ _ hx,J,H0,a,n,R,{st with rdy:=r},x,i,d,.ref bh,J,F,m4,W0,hi,a5,S,(by show r.length+ko st.wai<=1000;omega),(by show st.wov.length<=4000;omega),λW5 G5 C=>⟨_,_,W5,J,?_⟩⟩;rw[et];exact C
   . have c3:qd (aD n) st.c i=false:=Bool.eq_false_iff.mpr c2;rw[c3];refine yd ?_;obtain⟨g,hg⟩:∃g,Ze ((aD n).S i) (st.c i) d=some g:=by
      cases q:Ze ((aD n).S i) (st.c i) d with
      |none=>unfold qd at c2;simp[S,q]at c2
      |some g=>exact⟨g,J⟩
     have et:fP (aD n) {st with rdy:=r} i={st with rdy:=r,wai:=j9 st.wai g.1 i}:=by unfold fP;simp only[S,c3,Bool.false_eq_true,if_false,hg]
     have aw:=Jb W0 hi S;obtain⟨t2,a8⟩:∃t2,eD d=.tup (.str (cZ g.1).1::.int (cZ g.1).2::t2):=by
      cases d with
      | awa b mm=>cases hg;exact⟨[.int mm],by rw[pK aw.1 aw.2 W0.b9];rfl⟩
      | goo b=>cases hg;cases(show b=0 from aw.1);exact⟨[],J⟩
      |_=>cases hg
     have a6:=(p.mono s3).mono s4;have bE:(!decide (vd=.non))=true:=by rw[a8]at p;obtain⟨c,zs,rfl,_⟩:=p;rfl
     refine⟨_,J,?_⟩;rw[bE];refine yv ?_;have bj:x.length<=60:=by
      have q:=ag.len;have q2:x.length=st.wai.length:=by rw[<-m4.wl,ai]
      omega
     refine⟨a.x,cW,dx,_,_,J,m4.s0 _ _ hx,t.cls,t.n,Vw,a.aw,_,J,m4.wai,2,J,_,a8▸a6,λv5 G5 s5 i5=>⟨bo _,λe G6 s6 h N=>?_⟩⟩;rw[ox]at i5;obtain⟨g5,x5,rfl,c0,cl⟩:=id i5;have Z:=(m4.same s5).same s6;have a3:=(a5.mono s5).mono s6;refine⟨g5,vz x,cZ g.1,J,Z.wai,i5.mono s6,by unfold vz;rw[ai];exact yq (by omega),λv7 bx=>?_,λba o hg=>?_⟩
     . obtain⟨q,hq,bC,rfl⟩:=nF.1 _ bx;obtain⟨zs,ap,a2⟩:=(Z.lst q hq).1;have b5:zs.length<=60:=by
        have e1:=a2.length;rw[ai]at e1;have e2:q.1.2.length<=ko st.wai:=by
         have b1:(st.wai.map (·.1)).Nodup:=by rw[<-Z.wl,c7];exact Z.kd
         have bb:(q.1.1,q.1.2)∈st.wai:=by rw[<-Z.wl];exact List.mem_map_of_mem (f:=λz:(Nat×List Nat)×Addr=>z.1) hq
         rw[<-Ks b1 bb];exact wA
        omega
       refine⟨.inl ⟨J,_,aJ.of ap⟩,q.2,zs,_,J,J,ap,yq (by omega),_,_,x.map λz=>if z.1.1=q.1.1 then((z.1.1,z.1.2++[i]),z.2)else z,J,?_⟩;rw[et,<-bC];exact Z.addW hq ap a2 a3
     . have bI:=nF.2 ba;rw[Yc _ ba]at hg;have b0:vz x++[(cZ g.1,V.ref e)]=vz (x++[((g.1,[]),e)]):=by unfold vz;rw[be];rfl
       rw[b0]at hg;have C:=m4.same s5;have ah:∀{c:Addr}{l:List Nat},cC G5 c l->e≠c:=λ{c l} ⟨vs,y,_⟩ z=>by rw[z,y]at h;cases h
       have bM:e ∉ a.as::a.al::a.ay::a.ao::x.map (·.2):=λhm=>by
        rcases ak.mp hm with z|z
        . rw[z,C.run.s]at h;cases h
        rcases ak.mp z with z|z
        . rw[z,C.run.l]at h;cases h
        rcases ak.mp z with z|z
        . exact ah C.rdy z
        rcases ak.mp z with z|z
        . exact ah C.wov z
        obtain⟨q,hq,y⟩:=ci.mp z;exact ah (C.lst q hq).1 y.symm
       have bL:a.k0≠e:=λz=>by obtain⟨u,y⟩:=C.kn.2;rw[z,h]at y;cases y
       have b2:H0 e=none:=xv C.s0 h;obtain⟨φ,ew⟩:=Z.wai.some;have bg:upd G6 a.aw o e=some (.lst []):=(upd_ne (λz=>by rw[z,ew]at N;cases N)).trans N;refine⟨.inl ⟨J,_,aJ.of bg⟩,e,[],_,J,J,bg,(by decide),_,_,x++[((g.1,[i]),e)],J,?_⟩;rw[et];exact Z.newW N b2 bt bM bL bI hg a3
end
theorem ub:∀(s:yg)(o:Option Str)(p:Nat)(x:Int),eP o s=true->s[p]?=some (.com x)->lQ o "come"=true/\Zg s p=false
 |[],_,_,_,_,h=>by cases h
 | d::r,o,0,x,g,h=>by cases h;have q:(jW o (.com x) && eP (iX o (.com x)) r)=true:=g;rw[ca]at q;exact⟨q.1,J⟩
 | d::r,o,p+1,x,g,h=>by
   have q:(jW o d && eP (iX o d) r)=true:=g;rw[ca]at q;obtain⟨a,c⟩:=ub r (iX o d) p x q.2 (by simpa using h);have b:jd d=false:=by cases d<;>first|rfl|(exact absurd (show lQ none "come"=true from a) (by decide))
   have e:iX o d=o:=by cases d<;>first|rfl|cases b
   rw[e]at a;refine⟨a,?_⟩;unfold Zg at c⊢;rw[List.take_succ_cons,List.any_cons,b,c];rfl
theorem fI.hw{b:aC}(F:fI b):cX b where
 w01:=F.w01
 n1:=by have:=F.f8;omega
 call:=λc a=>(F.call c a).1
 mem:=λc a=>(F.call c a).2.elim .inl λ⟨m,e,_⟩=>.inr ⟨m,e⟩
 mw:=λh c a=>(F.call c a).2.elim id λ⟨m,e,f,_⟩=>absurd (h.symm.trans f) (by decide)
 len:=F.len
 kd:=λs b d n=>by have:=F.pl s b d n;cases d<;>first|exact this.elim|exact⟨this.1,this.2.1⟩|exact this|trivial
 b0:=F.b0
 b9:=F.b99
 fit:=λi p x j h=>by
  have e:=bi j;have k:b.fs.getD i (0,[])=b.fs[i]:=by rw[cz,e];rfl
  have a:=List.getElem_mem j;have g:=F.fit _ a;rw[<-k]at g;obtain⟨f,o⟩:=ub _ _ p x g h;refine⟨?_,o⟩;show fG (b.fs.getD i (0,[])).2=true;rw[k]at f⊢;rcases(F.call _ a).2 with z|⟨m,z,_,l⟩
  . rw[z]at f;exact absurd f (by decide)
  . rw[z]at f⊢;rcases l with rfl|rfl|rfl
    . rfl
    . rfl
    . exact absurd f (by decide)
noncomputable abbrev Zp:Stmt:=bG 41
noncomputable abbrev Wf:Stmt:=bG 47
noncomputable abbrev Y7:Stmt:=bG 53
inductive kT(vs:List V)(H:Hp)(Q:VK)(e0:XK):Prop|mk:∀hs v,vs=[v]->Is H (eH hs) v->fI hs->(∀H',Same H H'->Q .non H')->kT vs H Q e0
inductive gj(cP cR:Addr)(vs:List V)(H:Hp)(Q:VK)(e0:XK):Prop|mk:∀hs v,vs=[v]->Is H (eH hs) v->fI hs->(∀x R H',Same H H'->H x=none->aV H' cP cR hs R x->Q (.ref x) H')->gj cP cR vs H Q e0
def jY(h:HW)(B:List Nat)(c:Nat->Nat):Prop:=dF h B c/\∀i,i<h.n->qd h c i=false
inductive kF(P:Program)(w:World)(cU cP cR:Addr)(vs:List V)(H:Hp)(Q:VK)(e0:XK):Prop|mk:∀(G:Hp)(xr ad as al k0 ah:Addr)(hs:aC)(R:Nat->Addr),vs=[.ref xr,.ref ah]->aU P w G H cU cP cR hs R xr ad as al k0 z0->aM lA P w G ah []->cX hs->(∀c ws ao H',Same G H'->bQ P w H' hs ad as al k0 c->cC H' ao ws->jY (aD hs) ws c->Q (.ref ao) H')->kF P w cU cP cR vs H Q e0
noncomputable def jU(B:aC)(c:Nat->Nat)(i:Nat):Bool:=decide (c i=((aD B).S i).length)
noncomputable def allB(B:aC)(c:Nat->Nat):Bool:=(List.range B.fs.length).all (jU B c)
inductive lh(P:Program)(w:World)(cU cP cR:Addr)(vs:List V)(H:Hp)(Q:VK)(e0:XK):Prop|mk:∀(H0:Hp)(x ad as al k0:Addr)(hs:aC)(R:Nat->Addr)(c:Nat->Nat),vs=[.ref x]->aU P w H0 H cU cP cR hs R x ad as al k0 c->cX hs->(∀H',Same H H'->Q (.bl (allB hs c)) H')->lh P w cU cP cR vs H Q e0
section
variable{K:W.Frag}
theorem Jg:aA ["thing"] ["thing"] (zi Zp):=.of
theorem Jj(D:bU K mg "need_house" Zp)(c:Ok P w K mg base "is_house" 22 ["thing"] (spT jX)):Ok P w K mg base "need_house" 23 ["thing"] kT:=by refine vo D Jg ?_;rintro f j A a s H l Q E g ⟨h,v,rfl,e,i,d⟩ X;refine⟨_,zh (yj (xx (yy (ye c g (zc (pv 0) zd)))) (zh Xt) zn),?_⟩;exact⟨⟨h,v,J,e,i⟩,λk b=>⟨_,J,yd (d k b)⟩⟩
theorem Ep:aA ["house"] ["house"] (zi Wf):=.of
theorem Eg(D:bU K mg "plan_of" Wf)(q:Ok P w K mg base "need_house" 23 ["thing"] kT)(p:iu P w K mg base "Plan" cP 24 ["self","house"] (kS cP cR)):Ok P w K mg base "plan_of" 26 ["house"] (gj cP cR):=by
 refine vo D Ep ?_;rintro f y A d s H C Q E l ⟨k,v,rfl,j,m,r⟩ X;refine⟨_,zf (xn (ye q (l.mono (by decide)) (zc (pv 0) zd))) (zh (zp (nC p l (zc (pv 0) zd)))),?_⟩;refine⟨k,v,J,j,m,λn a=>?_⟩;refine(λx h c g t=>?_);have i:Same n (upd (upd n h (.own x)) x (.ins cP h [])):=λb o e=>by rw[upd_ne (zj e c),upd_ne (zj e g)];exact e
 refine⟨x,h,v,k,J,ze,(j.mono a).mono i,m.hw,λR B z PA=>⟨J,r x R B (λb o e=>?_) (xv a c) PA⟩⟩;refine z b o (λu=>?_) (i _ _ (a _ _ e));rw[aa.mp u]at e;rw[a _ _ e]at c;cases c
theorem W2:aA ["run","held","weaver"] ["run","held"] (zi Y7):=.of
theorem EM(D:bU K mg "woven_on" Y7)(t:aK K cW cO)(oI:iu P w K mg base "Weaver" cW 1 ["self","run","held"] (kG P w cW cU cP cR))(W:bZ P w K mg base cW "weave" 5 ["self"] (kE P w cW cU cP cR)):Ok P w K mg base "woven_on" 6 ["run","held"] (kF P w cU cP cR):=by
 refine vo D W2 ?_;rintro f aS A j s H vs Q E g ⟨G,u,ad,as,L,z,M,l,R,rfl,h,GH,S,k⟩ X;have Z:=W2.nd;refine⟨_,zf (zv (i:=2) Z (nC oI (g.mono (by decide)) (zc (pv 0) (zc (pv 1) zd)))) (zf (xn (Vl W t.cls g (pv 2))) (zh (zp (zt (pv 2) J)))),?_⟩
 refine(λx q B p av=>?_);have v:Same H (upd (upd H q (.own x)) x (.ins cW q [])):=λb o e=>by rw[upd_ne (zj e B),upd_ne (zj e p)];exact e
 refine⟨G,x,q,u,ad,as,L,z,M,l,R,z0,J,ze,h.s.trans v,xv h.s B,h.f,h.m.same v,GH,S,λC ay aw ap G0 H2 U F m=>⟨J,?_⟩⟩;obtain⟨RF,⟨c,a⟩,_,ag,_⟩:=id F;refine⟨x,c,_,J,m.s0 _ _ a,J,G0,⟨x,u,ad,as,L,z,M,C,ay,aw,ap⟩,l,R,newW l z0,[],J,F,m,S,Wi.first,λr g=>(nomatch g),λy W' H3 d N n=>?_⟩;refine⟨x,cW,c,_,_,J,d.s0 _ _ a,t.cls,t.n,vZ,?_⟩;exact k y.c y.wov C H3 (U.trans d.s0) d.run d.wov ⟨N.lg,λi hi=>N.fin n hi⟩
theorem J2:aA ["self","roles"] ["self"] (zi Xq):=.of
theorem DN(D:qr K cU "has_done_all" "Run.has_done_all" Xq)(T:Txt K mg)(CU:aK K cU bF)(CP:aK K cP bO)(CR:aK K cR aT):bZ P w K mg base cU "has_done_all" 1 ["self"] (lh P w cU cP cR):=by
 refine Zf (k:=0) D J2 ?_;rintro f a5 A ah s H vs Q E hr ⟨H0,x,ad,as,al,k0,d,L,c,rfl,R,W,k⟩ X;have hu:=jy hr;have nd:=J2.nd;refine⟨_,zf (zv (i:=1) nd (zt (zt (pv 0) J) J)) (zh (zp (nJ (yf (je J) J T.all Yl (zc (qf (own:=["hand","role"]) (cap:=[0]) (g:=fN K 2 (cK (jz 0) (cK (jz 1) mn))) J (xo (zi Xq) J J (by decide+kernel) (by decide+kernel) (by decide+kernel) ⟨⟨_,J,.inl J,qw J⟩,trivial⟩) (Xw (pv 1)) (λ_ _ _ _=>ki J (y6 (zu (i:=0) (by show(["hand","role","self"]:O Str).Nodup;decide+kernel)) (y6 (zu (i:=1) (by show(["hand","role","self"]:O Str).Nodup;decide+kernel)) ja)))
   (λ_ _ _ _=>wb) (λ_ _ _ _=>xj yz (ta:=tm (lH K (jh 2) "done") (jh 0)) (tb:=mE (λxs H Q=>∃p q,xs=[.ref p]/\(aJ K H p q\/aH K H p q)/\Q (.int q.length) H) (jr (lH K (jh 1) "script") Wd)) (Qo hu (zt (pv 2) J) (pv 0) ⟨J,J,J,J⟩) (yf yh (by rfl) T.len wu (zc (zt (pv 1) J) zd)) (zo _))) zd))))),?_⟩
 obtain⟨xp,dx,am,PA,hx,_,F,a3,_⟩:=id R.f;obtain⟨dp,vh,n,hp,ih,m,ap⟩:=id PA;refine⟨x,cU,dx,_,_,J,R.s _ _ hx,CU.cls,CU.n,Xl,xp,cP,dp,_,_,J,R.s _ _ hp,CP.cls,CP.n,jc,?_⟩;have h:=R.s _ _ m;refine⟨n,_,h,trivial,λo=>?_⟩;generalize M:yc kN d.fs.length (λi=>V.ref (L i))=a at m h⊢;have g:upd H n (.frz o (.dT a)) n=some (.frz o (.dT a)):=ze;have y:∀{b:Y}{u:HO},b≠n->H b=some u->upd H n (.frz o (.dT a)) b=some u:=λ{b u} z e=>by rw[upd_ne z];exact e
 have t:∀{G:Hp},Same (upd H n (.frz o (.dT a))) G->Same H (upd G n (.dT a)):=λ{G} s b u e=>by by_cases z:b=n;rw[z]at e⊢;rw[ze,<-e,h];rw[upd_ne z];exact s _ _ (y z e)
 generalize upd H n (.frz o (.dT a))=Hf at g y t⊢;have ao:=y (λz=>by rw[z,m]at hx;cases hx) (R.s _ _ hx);have r:=y (λz=>by rw[z,m]at F;cases F) R.m.d;have S:a.length=d.fs.length:=by rw[<-M];exact xw
 have hn:=W.n1;refine⟨n,o,_,J,g,?_⟩;refine Qx (λi q B=>Same Hf B/\q=(List.range i).map λj=>V.bl (jU d c j)) ⟨Same.refl _,J⟩ (λi q B hi ⟨v,e⟩=>⟨v _ _ g,?_⟩) ?_ ?_
 . rw[e,ai,c8];exact Nat.le_of_lt (yq (by omega))
 . rintro i kv q B U ⟨v,rfl⟩ p b aw hb;rw[<-M]at U;obtain⟨hi,rfl⟩:=Qf U;obtain⟨a2,vc,vs,ab,an,ac,r1,r2,_⟩:=ap i hi;have av:=v _ _ (y (λz=>by rw[z,m]at r1;cases r1) (R.s _ _ r1));have sp:=Same.new aw (.tup [.ref b,.ref (L i)]);have N:upd B p (.tup [.ref b,.ref (L i)]) p=some (.tup [.ref b,.ref (L i)]):=ze;have Z:=sp _ _ hb;generalize upd B p (.tup [.ref b,.ref (L i)])=H3 at sp N Z⊢;have C:=v.trans sp;have tf:ym H Hf:=λc zs e=>y (λz=>by rw[z,h]at e;cases e) e;obtain⟨aS,xS,rfl,a1,ay⟩:=((r2.mono R.s).tups tf (Z0 _)).mono C;have ag:=ay.length;rw[ai]at ag;refine⟨p,_,J,aH.of N,J,_,_,J,_,_,J,J,?_⟩;refine wQ ?_;refine⟨x,cU,dx,_,_,J,C _ _ ao,CU.cls,CU.n,v6,ad,J,.inr ⟨_,.inl (C _ _ r)⟩,_,DGet.tr (.inl (C _ _ r)) Z,L i,cR,a2,_,_,J,sp _ _ av,CR.cls,CR.n,q0,aS,xS,J,.inr (aH.of a1),?_⟩;rw[ag,show y9 (yp d c) (kN i)=some (.int (c i:Int))from Y6 hi];refine⟨J,C,?_⟩;have e2:decide (V.int (c i:Int)=V.int (((aD d).S i).length:Int))=jU d c i:=by unfold jU;rw[Bool.eq_iff_iff];simp only[decide_eq_true_eq,V.int.injEq];omega
   show _++[V.bl (decide (V.int (c i:Int)=V.int (((aD d).S i).length:Int)))]=_;rw[e2,List.range_succ,be];rfl
 rintro q B ⟨v,rfl⟩ l hl;rw[S];have sl:=Same.new hl (.lst ((List.range d.fs.length).map λj=>V.bl (jU d c j)));refine⟨l,(List.range d.fs.length).map (jU d c),J,aJ.of (by rw[ze,c7];rfl),sl _ _ (v _ _ g),?_⟩;have e:((List.range d.fs.length).map (jU d c)).all id=allB d c:=by rw[List.all_map];rfl
 rw[e];exact k _ (t (v.trans sl))
end
noncomputable abbrev Ys:Stmt:=bG 43
noncomputable abbrev Xn:Stmt:=bG 55
noncomputable def lE(B:List Nat):Nat->Nat:=λi=>B.count i
theorem Qy{K:W.Frag}:W.kitOne K (.type "tuple") (.type "tuple")=some true:=by kernel_rfl
theorem C9{K:W.Frag}:W.kitOne K (.type "list") (.type "list")=some true:=by kernel_rfl
theorem C8{K:W.Frag}:W.kitOne K (.type "dict") (.type "dict")=some true:=by kernel_rfl
section
variable{h:HW}
theorem dF.det{c:Nat->Nat}(L:dF h ws c):c=lE ws:=funext λi=>(L.cnt i).symm
theorem CK:lE (ws++[i])=aP (lE ws) i:=by
 funext j;unfold lE aP;rw[Q7];by_cases e:j=i
 . rw[if_pos e,e,if_pos J]
 . rw[if_neg e,if_neg (λz=>e z.symm)];rfl
theorem dF.at{d:List Nat}{c:Nat->Nat}(L:dF h d c):∀{i a:Nat},d[i]?=some a->a<h.n/\qd h (lE (d.take i)) a=true:=by
 induction L with|nil=>intro i a e;cases e| @snoc d c b L l k g=>
   intro i a e;by_cases f:i<d.length
   . rw[fh f]at e;rw[List.take_append_of_le_length (Nat.le_of_lt f)];exact g e
   . have j:=(c9.mp e).1;rw[cn,List.length_singleton]at j;obtain rfl:i=d.length:=by omega
     rw[List.getElem?_append_right (ae _),Nat.sub_self]at e;cases e;rw[List.take_left',<-L.det]
     . exact⟨l,k⟩
     . rfl
theorem vC{c:Nat->Nat}(e:qd h c i=true):∃d,(h.S i)[c i]?=some d:=by unfold qd at e;cases q:(h.S i)[c i]? with|none=>rw[q]at e;cases e|some d=>exact⟨d,J⟩
end
inductive iJ(vs:List V)(H:Hp)(Q:VK)(e0:XK):Prop|mk:∀v (g:List Int),vs=[v]->Is H (tI g) v->g.length<=1000->(∀H',Same H H'->Q (.bl true) H')->iJ vs H Q e0
inductive iH(P:Program)(w:World)(cU cP cR:Addr)(vs:List V)(H:Hp)(Q:VK)(e0:XK):Prop| mk:∀(xp aw:Addr) (hs:aC) (R:Nat->Addr) (ws:List Nat) (c:Nat->Nat),vs=[.ref xp,.ref aw]->aV H cP cR hs R xp->cX hs->cC H aw ws->dF (aD hs) ws c->
   (∀x ad as al k0 H0 H',Same H H0->H x=none->aU P w H0 H' cU cP cR hs R x ad as al k0 c->Q (.ref x) H')->iH P w cU cP cR vs H Q e0
inductive li(P:Program)(w:World)(cU cP cR:Addr)(vs:List V)(H:Hp)(Q:VK)(e0:XK):Prop| mk:∀(H0:Hp) (x ad as al k0:Addr) (hs:aC) (R:Nat->Addr) (c:Nat->Nat),vs=[.ref x]->aU P w H0 H cU cP cR hs R x ad as al k0 c->cX hs->(∀i,i<hs.fs.length->qd (aD hs) c i=false)->
   (∀l H',Same H H'->H' l=some (.lst [])->Q (.ref l) H')->li P w cU cP cR vs H Q e0
section
variable{K:W.Frag}
theorem Dg:bootBuiltins "sorted"=some (.builtin "sorted"):=by decide+kernel
theorem Eo:aA ["thing"] ["thing"] (zi Ys):=.of
theorem Ee(D:bU K mg "is_name" Ys)(T:Txt K mg)(u:Ok P w K mg base "is_whole" 1 ["thing"] (gw (λ_=>True) Wr)):Ok P w K mg base "is_name" 2 ["thing"] iJ:=by
 refine vo D Eo ?_;rintro f G A k s H M Q E C ⟨v,g,rfl,n,R,y⟩ X;refine⟨_,zh (zp (wr (jw T.isi T.tuple v4 (pv 0)) (vg (yf (je J) J T.all Yl (zc (qf (own:=["part"]) (cap:=[]) J (xo (zi Ys) J J (by decide+kernel) (by decide+kernel) (by decide+kernel) trivial) (jk (pv 0)) (λ_ _ _ _=>zu (i:=0) (by show(["part"]:O Str).Nodup;decide+kernel)) (λ_ _ _ _=>wb) (λ_ _ _ _=>ye u C (zc (pv 0) zd))) zd))))),?_⟩
 have q:=Is.ty (K:=K) n;obtain⟨a,h,rfl,o,z⟩:=n;have c:=IsL.ints.mp z;have B:h.length=g.length:=by rw[c,ai]
 refine⟨_,"tuple",_,_,J,q,Qy,_,J,yv ?_⟩;refine⟨a,J,⟨h,aH.of o⟩,?_⟩;refine pI (λi d L=>Same H L/\d=List.replicate i (V.bl true)) ⟨Same.refl H,J⟩ (λi d p N ⟨b,F⟩=>⟨aH.of (b _ _ o),by rw[F,fb];exact vp (by omega)⟩) ?_ ?_
 . rintro i x d p m ⟨b,rfl⟩;refine Q2 ?_;rw[c,bc]at m;obtain⟨j,_,rfl⟩:=cu.mp m;exact⟨.int j,.int j,J,J,trivial,λS r=>⟨b.trans r,fg.symm⟩⟩
 rintro d p ⟨b,rfl⟩ t l;refine⟨t,List.replicate h.length true,J,aJ.of (by rw[ze,List.map_replicate]),?_⟩;have e:(List.replicate h.length true).all id=true:=by simp
 rw[e];exact y _ (b.trans (Same.new l _))
theorem Jx:aA ["plan","weaving","run","hand"] ["plan","weaving"] (zi Xn):=.of
theorem Dm(D:bU K mg "run_by" Xn)(T:Txt K mg)(CU:aK K cU bF)(oN:Ok P w K mg base "is_name" 2 ["thing"] iJ)(oF:Ok P w K mg base "first_run" 4 ["plan"] (iM P w cU cP cR))(oM:bZ P w K mg base cU "may_go_on" 2 ["self","hand"] (gp cU cP cR))(oD:bZ P w K mg base cU "do" 3 ["self","hand"] (iO P w cU cP cR)):Ok P w K mg base "run_by" 5 ["plan","weaving"] (iH P w cU cP cR):=by
 refine vo D Jx ?_;rintro f a5 A ag s H d Q E u ⟨xp,S,N,L,C,c,rfl,PA,W,LA,o,kk⟩ X;have nd:=Jx.nd;have hu:=jy u;refine⟨_,zf (yj (PW.pt (Yb (xx (yy (jw T.isi T.list X9 (pv 1)))) (jv (xx (yy (yf (je J) J T.all Yl (zc (qf (own:=["hand"]) (cap:=[]) J (xo (zi Xn) J J (by decide+kernel) (by decide+kernel) (by decide+kernel) trivial) (Yu (pv 1)) (λ_ _ _ _=>zu (i:=0) (by show(["hand"]:O Str).Nodup;decide+kernel)) (λ_ _ _ _=>wb) (λ_ _ _ _=>ye oN (u.mono (by decide)) (zc (pv 0) zd))) zd))))))) (zh Xt) zn)
  (zf (zv (i:=2) nd (ye oF u (zc (pv 0) zd))) (zf (wy PassesOwn.never J (Yu (pv 1)) (zu (i:=3) nd) (zf (yj (PW.pt (Yb (Zv (Dq hu (pv 3) (zt (pv 2) J))) (jv (xx (yy (v0 oM CU.cls (u.mono (by decide)) (pv 2) (zc (pv 3) zd))))))) (zh Xt) zn) (zh (xn (v0 oD CU.cls (u.mono (by decide)) (pv 2) (zc (pv 3) zd))))))
  (zh (zp (pv 2))))),?_⟩
 obtain⟨d,a,k⟩:=LA;have q:=k.length;rw[ai]at q;have hw:C.length<=3200:=cj o.most (Kv W);refine⟨_,"list",_,_,J,.lst a,C9,_,J,yd ?_⟩;refine⟨S,J,⟨d,aJ.of a⟩,?_⟩;refine pQ (λi B H'=>Same H H'/\B=List.replicate i (V.bl true)) ⟨Same.refl H,J⟩ (λi B H3 hi ⟨p,e2⟩=>⟨aJ.of (p _ _ a),by rw[e2,fb,sizeLine_eq];omega⟩) ?_ ?_
 . rintro i x B H3 hx ⟨p,rfl⟩;refine Q2 ?_;obtain⟨t,ht,it⟩:=k.get' hx;rw[bc]at ht;obtain⟨h,hh,rfl⟩:=cu.mp ht;refine⟨x,[(h:Int)],J,it.mono p,aY,λH4 F=>⟨p.trans F,fg.symm⟩⟩
 rintro B H3 ⟨p,rfl⟩ p2 ah;have F:=Same.new ah (.lst (List.replicate d.length (V.bl true)));refine⟨p2,List.replicate d.length true,J,aJ.of (by rw[ze,List.map_replicate]),?_⟩;have e:(List.replicate d.length true).all id=true:=by simp
 rw[e];generalize upd H3 p2 (.lst (List.replicate d.length (V.bl true)))=H4 at F⊢;refine⟨_,J,yd ?_⟩;have g:=p.trans F;refine⟨xp,N,L,J,PA.same g,W,λx ad as U M Z H5 s5 s6 hx RF RM=>?_⟩;have b:=g.trans s5;refine⟨S,J,⟨d,aJ.of ((b.trans s6) _ _ a)⟩,?_⟩;refine Q4 (K:=K) (a:=S) (xs:=d) (λi v G=>∃(x3:Option V),v=[some (.ref xp),some (.ref S),some (.ref x),x3]/\aU P w Z G cU cP cR N L x ad as U M (lE (C.take i)))
  ⟨none,J,⟨RF,s6,RM⟩⟩ (λi v G _ ⟨_,_,R⟩=>aJ.of ((b.trans R.s) _ _ a)) ?_ ?_
 . rintro i z v G hz ⟨x3,rfl,R⟩;obtain⟨tt,r,iz⟩:=k.get' hz;rw[bc]at r;obtain⟨h,hh,rfl⟩:=cu.mp r;obtain⟨g1,g2⟩:=o.at hh;obtain⟨y,g3⟩:=vC g2;have j:Is G (tI [(h:Int)]) z:=iz.mono (b.trans R.s);obtain⟨bh,rfl,ao⟩:=Yj j;obtain⟨av,n,am,a6,m,_,a1,ay,aS,nk,ap,a3⟩:=id R.f;have gd:=DGet.tr (.inl R.m.d) ao;rw[Y6 g1]at gd;refine⟨x,cU,n,_,_,J,R.s _ _ m,CU.cls,CU.n,v6,ad,_,J,gd,_,J,yd ?_⟩;refine⟨x,n,_,J,R.s _ _ m,J,Z,x,ad,as,U,M,N,L,_,h,_,J,R.rd,g1,W,j,λG1 s1=>⟨_,J,?_⟩⟩;rw[g2];refine yd ?_;have R1:=R.same s1;refine⟨x,n,_,J,R1.s _ _ m,J,Z,x,ad,as,U,M,N,L,_,h,_,y,J,R1,g1,W,j.mono s1,g3,λl G2 b2 a2 m2 _=>?_⟩;have et:C.take (i+1)=C.take i++[h]:=by rw[cy,hh];rfl
   rw[et,CK];exact⟨_,J,R1.bt b2 m2⟩
 rintro v G ⟨x3,rfl,R⟩;rw[q,fe,<-o.det]at R;exact kk x ad as U M Z G b (xv g hx) R
theorem Cu:aA ["self"] ["self"] (zi Vi):=.of
theorem Cd(D:qr K cU "going" "Run.going" Vi)(T:Txt K mg)(Z:aK K cU bF)(oM:bZ P w K mg base cU "may_go_on" 2 ["self","hand"] (gp cU cP cR)):bZ P w K mg base cU "going" 3 ["self"] (li P w cU cP cR):=by
 refine Zf (k:=2) D Cu ?_;rintro f av A y s H vs Q E hr ⟨H0,x,ad,as,al,k0,d,L,c,rfl,R,W,S,kk⟩ X;refine⟨_,zh (zp (nJ (yf D3 J T.sorted Dg (zc (qf (own:=["hand"]) (cap:=[0]) J (xo (zi Vi) J J (by decide+kernel) (by decide+kernel) (by decide+kernel) ⟨⟨_,J,.inl J,qw J⟩,trivial⟩) (vG (zt (pv 0) J)) (λ_ _ _ _=>zu (i:=0) (by show(["hand","self"]:O Str).Nodup;decide+kernel)) (λ_ _ _ _=>Vk (yy (v0 oM Z.cls hr (pv 1) (zc (pv 0) zd)))) (λ_ _ _ _=>pv 0)) zd)))),?_⟩
 obtain⟨xp,dx,am,PA,hx,_,C,ah,ao,nk,ag,ap⟩:=id R.f;refine⟨ad,_,R.m.d,trivial,λo=>?_⟩;have a:upd H ad (.frz o (.dT (yp d c))) ad=some (.frz o (.dT (yp d c))):=ze;have j:∀{G:Hp},Same (upd H ad (.frz o (.dT (yp d c)))) G->Same H (upd G ad (.dT (yp d c))):=λ{G} s b u e=>by
  by_cases z:b=ad
  . rw[z]at e⊢;rw[ze,<-e,R.m.d]
  . rw[upd_ne z];exact s _ _ (by rw[upd_ne z];exact e)
 have k1:∀{b:Y}{u:HO},H b=some u->(∀z,u≠ .dT z)->upd H ad (.frz o (.dT (yp d c))) b=some u:=λ{b u} e F=>by rw[upd_ne (λz=>by rw[z,R.m.d]at e;exact F _ (Option.some.inj e).symm)];exact e
 have t:cL H0 (upd H ad (.frz o (.dT (yp d c)))) cU cP cR d L x ad as al k0 c:=⟨R.f,λb u e=>by rw[upd_ne (zj e C)];exact R.s _ _ e,.inr ⟨o,a⟩,k1 R.m.s (λ_ z=>by cases z),k1 R.m.l (λ_ z=>by cases z)⟩
 generalize upd H ad (.frz o (.dT (yp d c)))=Hf at a j t⊢;have hn:=W.n1;refine⟨x,cU,dx,_,_,J,t.s _ _ hx,Z.cls,Z.n,v6,ad,o,_,J,a,?_⟩;refine uV (kvs:=yp d c) (λi r H'=>Same Hf H'/\r=[]) ⟨Same.refl _,J⟩ (λi r H' N ⟨h,e⟩=>⟨h _ _ a,by rw[e];exact bo _⟩) ?_ ?_
 . rintro i kv r q b M hb ⟨h,rfl⟩;obtain⟨N,rfl⟩:=Qf M;have ih:Is q (tI [(i:Int)]) (.ref b):=⟨b,_,J,hb,by show IsL q _ ((kI [(i:Int)]).map kV);rw[Z2];exact IsL.ints.mpr J⟩
   refine⟨x,dx,_,J,h _ _ (t.s _ _ hx),J,H0,x,ad,as,al,k0,d,L,c,i,_,J,t.same h,N,W,ih,λU m=>⟨_,J,?_⟩⟩;rw[S i N];exact yd ⟨h.trans m,J⟩
 rintro r q ⟨h,rfl⟩ l hl;have m:=Same.new hl (.lst []);have g7:upd q l (.lst []) l=some (.lst []):=ze;generalize upd q l (.lst [])=U at m g7⊢;refine⟨l,[],[],J,aJ.of g7,J,λg hg=>(nomatch hg),by decide,λv p ix k=>?_⟩;cases(show v=[]from ix);have s8:=Same.new k (.lst []);have g8:upd U p (.lst []) p=some (.lst []):=ze;generalize upd U p (.lst [])=H8 at s8 g8⊢;have n:=h.trans (m.trans s8);refine⟨n _ _ a,?_⟩;have B:p≠ad:=λz=>by rw[z,(h.trans m) _ _ a]at k;cases k
 exact kk p _ (j n) (by rw[upd_ne B];exact g8)
end
noncomputable abbrev Qb:Stmt:=bG 57
noncomputable abbrev Xp:Stmt:=bG 58
noncomputable abbrev Zt:Stmt:=bG 59
noncomputable def ip(B:aC)(c:Nat->Nat)(i:Nat):Bool:=(((aD B).S i)[c i]?).isSome
noncomputable def unf(B:aC)(c:Nat->Nat):List Nat:=(List.range B.fs.length).filter (ip B c)
def rg(H:Hp)(B:aC)(c:Nat->Nat)(d:Addr)(F:Nat->V):Prop:=H d=some (.dT ((unf B c).map λi=>(kN i,F i)))/\∀i∈unf B c,∃dd,((aD B).S i)[c i]?=some dd/\Is H (eD dd) (F i)
inductive iK(P:Program)(w:World)(cU cP cR:Addr)(vs:List V)(H:Hp)(Q:VK)(e0:XK):Prop| mk:∀(H0:Hp) (x ad as al k0:Addr) (hs:aC) (R:Nat->Addr) (c:Nat->Nat),vs=[.ref x]->aU P w H0 H cU cP cR hs R x ad as al k0 c->cX hs->
   (∀d vf H',Same H H'->rg H' hs c d vf->Q (.ref d) H')->iK P w cU cP cR vs H Q e0
def mV(t:L2.T):Prop:=(∃x,t=.str x)\/∃i,t=.int i
inductive ld(vs:List V)(H:Hp)(Q:VK)(e0:XK):Prop|mk:∀(g:List Int)(ts:List L2.T)(vh vd:V),vs=[vh,vd]->Is H (tI g) vh->g.length<=1000->Is H (.tup ts) vd->ts.length<=1000->(∀t∈ts,mV t)->(∀H',Same H H'->Q (.bl true) H')->ld vs H Q e0
inductive lm(vs:List V)(H:Hp)(Q:VK)(e0:XK):Prop|mk:∀(a:Addr)(us:List Nat)(vf:Nat->V),vs=[.ref a]->H a=some (.dT (us.map λi=>(kN i,vf i)))->us.length<=1000->(∀i∈us,∃ts,Is H (.tup ts) (vf i)/\ts.length<=1000/\qj ts/\∀t∈ts,mV t)->(∀H',Same H H'->Q (.bl true) H')->lm vs H Q e0
theorem Cz{a:Nat->V}{b:O aI×V}(h:(us.map λi=>(kN i,a i))[i]?=some b):∃j,j∈us/\b=(kN j,a j):=by rw[bc]at h;obtain⟨j,c,rfl⟩:=cu.mp h;exact⟨j,ck c,J⟩
theorem jA.mono{H a:Hp}{d:Option aF}{v:V}(h:jA H d v)(s:Same H a):jA a d v:=by cases d with|none=>exact h|some d=>exact(show Is H (eD d) v from h).mono s
section
variable{K:W.Frag}
theorem uA:aA ["run","rows"] ["run"] (zi Qb):=.of
theorem Bf(D:bU K mg "left" Qb)(T:Txt K mg)(CU:aK K cU bF)(oN:bZ P w K mg base cU "next_deed" 1 ["self","hand"] (gm cU cP cR)):Ok P w K mg base "left" 2 ["run"] (iK P w cU cP cR):=by
 refine vo (k:=1) D uA ?_;rintro f bl A a1 s H vs Q E hr ⟨H0,x,ad,as,al,k0,g,L,c,rfl,R,W,kk⟩ X;have a3:=sQ hr;refine⟨_,zf (nK (rT (i:=1) (own:=["hand"]) (cap:=[0]) J (xo (zi Qb) J J (by decide+kernel) (by decide+kernel) (by decide+kernel) ⟨⟨_,J,.inl J,qw J⟩,trivial⟩) (vG (zt (pv 0) J)) (λ_ _ _ _=>zu (i:=0) (by show(["hand","run"]:O Str).Nodup;decide+kernel)) (λ_ _ _ _=>wb) (λ_ _ _ _=>yn (zc (pv 0) (zc (v0 oN CU.cls hr (pv 1) (zc (pv 0) zd)) zd))) uA.nd J J J))
  (zh (zp (xk (Q9 J a3) J T.dict Vu (zc (qf (own:=["hand","deed"]) (cap:=[]) (g:=fN K 2 (cK (jz 0) (cK (jz 1) mn))) J (xo (zi Qb) J J (by decide+kernel) (by decide+kernel) (by decide+kernel) trivial) (Yu (pv 1)) (λ_ _ _ _=>ki J (y6 (zu (i:=0) (by show(["hand","deed"]:O Str).Nodup;decide+kernel)) (y6 (zu (i:=1) (by show(["hand","deed"]:O Str).Nodup;decide+kernel)) ja)))
   (λ_ _ _ _=>Vk (Zv (pV (pv 1)))) (λ_ _ _ _=>yn (zc (pv 0) (zc (pv 1) zd)))) zd)))),?_⟩
 obtain⟨xp,dx,am,PA,hx,_,a2,bd,bg,nk,bb,bk⟩:=id R.f;refine⟨ad,_,R.m.d,trivial,λo=>?_⟩;have k:upd H ad (.frz o (.dT (yp g c))) ad=some (.frz o (.dT (yp g c))):=ze;have ag:∀{G:Hp},Same (upd H ad (.frz o (.dT (yp g c)))) G->Same H (upd G ad (.dT (yp g c))):=λ{G} s b u e=>by
  by_cases z:b=ad
  . rw[z]at e⊢;rw[ze,<-e,R.m.d]
  . rw[upd_ne z];exact s _ _ (by rw[upd_ne z];exact e)
 have k1:∀{b:Y}{u:HO},H b=some u->(∀z,u≠ .dT z)->upd H ad (.frz o (.dT (yp g c))) b=some u:=λ{b u} e ao=>by rw[upd_ne (λz=>by rw[z,R.m.d]at e;exact ao _ (Option.some.inj e).symm)];exact e
 have Rf:cL H0 (upd H ad (.frz o (.dT (yp g c)))) cU cP cR g L x ad as al k0 c:=⟨R.f,λb u e=>by rw[upd_ne (zj e a2)];exact R.s _ _ e,.inr ⟨o,k⟩,k1 R.m.s (λ_ z=>by cases z),k1 R.m.l (λ_ z=>by cases z)⟩
 generalize upd H ad (.frz o (.dT (yp g c)))=Hf at k ag Rf⊢;have hn:=W.n1;refine⟨x,cU,dx,_,_,J,Rf.s _ _ hx,CU.cls,CU.n,v6,ad,o,_,J,k,?_⟩;refine uV (kvs:=yp g c) (λi Z H'=>Same Hf H'/\∃(B:O Y)(n:Nat->V),Z=B.map V.ref/\B.length=i/\∀j,j<i->∃b,B[j]?=some b/\cE H' b ([(j:Int)],n j)/\jA H' (((aD g).S j)[c j]?) (n j)) ⟨Same.refl _,[],λ_=>.non,J,J,λj h=>absurd h (fc _)⟩ (λi Z H' U ⟨s6,B,n,e,hb,_⟩=>⟨s6 _ _ k,?_⟩) ?_ ?_
 . rw[e,ai,hb];unfold yp at U;rw[xw]at U;exact Nat.le_of_lt (yq (by omega))
 . rintro i kv Z H6 b a7 hb ⟨s6,B,n,rfl,C,N⟩;obtain⟨U,rfl⟩:=Qf a7;have ay:H6 b=some (.tup (([(i:Int)]:O Int).map V.int)):=by rw[hb];show some (HO.tup ((kI [(i:Int)]).map kV))=_;rw[Z2]
   have ih:Is H6 (tI [(i:Int)]) (.ref b):=⟨b,_,J,ay,IsL.ints.mpr J⟩
   refine⟨x,dx,_,J,s6 _ _ (Rf.s _ _ hx),J,H0,x,ad,as,al,k0,g,L,c,i,_,J,Rf.same s6,U,W,ih,λv hv=>⟨aY,λp S F n7 hp=>?_⟩⟩;refine⟨s6.trans F,B++[p],λj=>if j=i then v else n j,by rw[be];rfl,by rw[cn,C];rfl,λj hj=>?_⟩;by_cases e:j=i
   . subst e;refine⟨p,by rw[<-C];simp,?_,?_⟩
     . show cE S p ([(j:Int)],if j=j then v else n j);rw[if_pos J];exact⟨b,hp,F _ _ ay⟩
     . show jA S _ (if j=j then v else n j);rw[if_pos J];exact hv.mono F
   . obtain⟨b1,h1,h2,y⟩:=N j (by omega);refine⟨b1,by rw[fh (by omega)];exact h1,?_,?_⟩
     . show cE S b1 ([(j:Int)],if j=i then v else n j);rw[if_neg e];exact cE.same h2 F
     . show jA S _ (if j=i then v else n j);rw[if_neg e];exact y.mono F
 rintro Z H6 ⟨s6,B,n,rfl,C,N⟩ l hl;unfold yp at C N;rw[xw]at C N;have F:=Same.new hl (.lst (B.map V.ref));have g7:upd H6 l (.lst (B.map V.ref)) l=some (.lst (B.map V.ref)):=ze;generalize upd H6 l (.lst (B.map V.ref))=S at F g7⊢;have ah:=s6.trans F;refine⟨ah _ _ k,?_⟩;have sb:=ag ah;have nl:l≠ad:=λz=>by rw[z,s6 _ _ k]at hl;cases hl
 have t8:ym S (upd S ad (.dT (yp g c))):=ym.upd (ah _ _ k) (λ_ z=>by cases z);have g8:upd S ad (.dT (yp g c)) l=some (.lst (B.map V.ref)):=by rw[upd_ne nl];exact g7
 have M:∀j,j<g.fs.length->∃b,B[j]?=some b/\cE (upd S ad (.dT (yp g c))) b ([(j:Int)],n j)/\jA (upd S ad (.dT (yp g c))) (((aD g).S j)[c j]?) (n j):=λj hj=>by
  obtain⟨b,h1,h2,y⟩:=N j hj;obtain⟨kb,e1,e2⟩:=h2;refine⟨b,h1,⟨kb,t8 _ _ (F _ _ e1),t8 _ _ (F _ _ e2)⟩,?_⟩;cases hd:((aD g).S j)[c j]? with
  |none=>rw[hd]at y;exact y
  | some dd=>rw[hd]at y;exact Is.tups t8 (q9 dd) ((show Is H6 (eD dd) (n j)from y).mono F)
 generalize upd S ad (.dT (yp g c))=H8 at sb g8 M⊢;refine⟨l,J,⟨_,aJ.of g8⟩,?_⟩;refine pQ (xs:=B.map V.ref) (λi Z H'=>Same H8 H'/\∃m:O Y,Z=m.map V.ref/\Paired (cE H') m (((List.range i).filter (ip g c)).map λ(j:Nat)=>([(j:Int)],n j))) ⟨Same.refl _,[],J,.nil⟩ (λi Z H' U ⟨s2,b2,e,hp⟩=>⟨aJ.of (s2 _ _ g8),?_⟩) ?_ ?_
 . have q:=Paired.length hp;rw[ai]at q;have q2:=f6 (ip g c) (List.range i);rw[c8]at q2;rw[ai]at U;rw[e,ai];exact Nat.le_of_lt (yq (by omega))
 . rintro i z Z H9 hz ⟨s2,m,rfl,hp⟩;rw[bc]at hz;obtain⟨b,hb,rfl⟩:=cu.mp hz;have U:i<g.fs.length:=by have:=(c9.mp hb).1;omega
   obtain⟨b',h1,⟨kb,e1,e2⟩,y⟩:=M i U;cases hb.symm.trans h1;refine⟨b,_,J,aH.of (s2 _ _ e1),J,_,_,J,_,_,J,J,?_⟩;rw[List.range_succ,List.filter_append,be];cases hd:((aD g).S i)[c i]? with
   | none=>
     have hv:n i=.non:=by rw[hd]at y;exact y
     have hu:ip g c i=false:=by unfold ip;rw[hd];rfl
     rw[List.filter_cons,hu];refine⟨_,J,?_⟩;rw[hv];refine yd ⟨s2,m,J,?_⟩;simpa using hp
   | some dd=>
     have hu:ip g c i=true:=by unfold ip;rw[hd];rfl
     rw[List.filter_cons,hu];have ao:(!decide (n i=.non))=true:=by rw[hd]at y;obtain⟨r,a5⟩:=Zi dd;have h4:Is H8 (eD dd) (n i):=y;rw[a5]at h4;obtain⟨a,zs,e,_⟩:=h4;rw[e];rfl
     refine⟨_,J,?_⟩;rw[ao];exact yv ⟨aY,λp ba t bj av=>⟨s2.trans t,m++[p],by rw[be];rfl,Paired.snoc (Xu hp t) ⟨kb,av,t _ _ (s2 _ _ e2)⟩⟩⟩
 rintro Z H9 ⟨s9,m,rfl,hp⟩ l2 a6;rw[ai,C]at hp;have t:=Same.new a6 (.lst (m.map V.ref));have aS:upd H9 l2 (.lst (m.map V.ref)) l2=some (.lst (m.map V.ref)):=ze;generalize upd H9 l2 (.lst (m.map V.ref))=ba at t aS⊢;refine⟨l2,m,_,J,aS,Xu hp t,λd a8 ap nd hd=>kk d n a8 (sb.trans (s9.trans (t.trans ap))) ⟨?_,λi U=>?_⟩⟩
 . rw[hd,px,List.nil_append,c7]
   . rfl
   . rw[List.map_nil,List.nil_append,c7];exact List.pairwise_map.mpr ((show List.Pairwise (· ≠ ·) (unf g c)from List.nodup_range.sublist List.filter_sublist).imp λh z=>h (qp z))
 . obtain⟨h1,h2⟩:=d8.mp U;obtain⟨b,_,_,y⟩:=M i (bp.mp h1);unfold ip at h2;cases aw:((aD g).S i)[c i]? with
   |none=>rw[aw]at h2;cases h2
   | some dd=>rw[aw]at y;exact⟨dd,J,(show Is H8 (eD dd) (n i)from y).mono (s9.trans (t.trans ap))⟩
theorem Dy:aA ["hand","deed"] ["hand","deed"] (zi Xp):=.of
theorem DP(D:bU K mg "is_wait" Xp)(T:Txt K mg)(C:Ok P w K mg base "is_whole" 1 ["thing"] (gw (λ_=>True) Wr))(B:Ok P w K mg base "is_name" 2 ["thing"] iJ):Ok P w K mg base "is_wait" 3 ["hand","deed"] ld:=by
 refine vo (k:=2) D Dy ?_;rintro f W A e s H vs Q E n ⟨g,ts,q,vd,rfl,N,S,U,ht,R,F⟩ X;refine⟨_,zf (yj (PW.pt (Yb (xx (yy (ye B n (zc (pv 0) zd)))) (jv (xx (yy (jw T.isi T.tuple v4 (pv 1))))))) xz zn) (zh (zp (yf (je J) J T.all Yl (zc (qf (own:=["part"]) (cap:=[]) J (xo (zi Xp) J J (by decide+kernel) (by decide+kernel) (by decide+kernel) trivial) (jk (pv 1)) (λ_ _ _ _=>zu (i:=0) (by show(["part"]:O Str).Nodup;decide+kernel)) (λ_ _ _ _=>wb) (λ_ _ _ _=>oZ (ta:=mE (iS K) (jr (jh 0) (jr (tC (.ty "str")) Wd))) (jw T.isi T.str pi (pv 0)) (vg (ye C (n.mono (by decide)) (zc (pv 0) zd))))) zd)))),?_⟩
 refine⟨q,g,J,N,S,λH1 k=>⟨_,J,yd ?_⟩⟩;have c:=U.mono k;have r:=Is.ty (K:=K) c;obtain⟨a,p,rfl,o,m⟩:=c;have L:=m.length;refine⟨_,"tuple",_,_,J,r,Qy,_,J,yd ?_⟩;refine⟨a,J,⟨p,aH.of o⟩,Vp o (by omega) (λi x d Rr M v l=>?_) λd y=>F d (k.trans y)⟩;obtain⟨t,h,G⟩:=m.get' M;have b:=G.mono v;rcases R t (ck h)with⟨z,rfl⟩|⟨j,rfl⟩
 . cases(show x=.str z from b);exact⟨.str z,"str",_,_,J,(show Is d (.str z) (.str z)from rfl).ty,Vq K (.str z),_,J,yv (l _ (Same.refl _))⟩
 . cases(show x=.int j from b);exact⟨.int j,"str",_,_,J,(show Is d (.int j) (.int j)from rfl).ty,Vq K (.int j),_,J,yd ⟨.int j,.int j,J,J,trivial,λZ u=>l Z u⟩⟩
theorem EN:aA ["thing"] ["thing"] (zi Zt):=.of
theorem ES(D:bU K mg "are_waits" Zt)(T:Txt K mg)(oW:Ok P w K mg base "is_wait" 3 ["hand","deed"] ld):Ok P w K mg base "are_waits" 4 ["thing"] lm:=by
 refine vo (k:=3) D EN ?_;rintro f ah A C s H vs Q E hr ⟨a,M,k,rfl,x,ag,hw,kk⟩ X;refine⟨_,zh (zp (wr (jw T.isi T.dict Vu (pv 0)) (vg (nJ (yf (je J) J T.all Yl (zc (qf (own:=["hand","deed"]) (cap:=[]) (g:=fN K 2 (cK (jz 0) (cK (jz 1) mn))) J (xo (zi Zt) J J (by decide+kernel) (by decide+kernel) (by decide+kernel) trivial) (Xw (pv 0)) (λ_ _ _ _=>ki J (y6 (zu (i:=0) (by show(["hand","deed"]:O Str).Nodup;decide+kernel)) (y6 (zu (i:=1) (by show(["hand","deed"]:O Str).Nodup;decide+kernel)) ja)))
  (λ_ _ _ _=>wb) (λ_ _ _ _=>ye oW hr (zc (pv 0) (zc (pv 1) zd)))) zd)))))),?_⟩
 refine⟨_,"dict",_,_,J,.dT x,C8,_,J,yv ?_⟩;generalize q:(M.map λi=>(kN i,k i))=d at x⊢;refine⟨a,_,x,trivial,λo=>?_⟩;have g:upd H a (.frz o (.dT d)) a=some (.frz o (.dT d)):=ze;have h:∀{G:Hp},Same (upd H a (.frz o (.dT d))) G->Same H (upd G a (.dT d)):=λ{G} s b u e=>by by_cases z:b=a;rw[z]at e⊢;rw[ze,<-e,x];rw[upd_ne z];exact s _ _ (by rw[upd_ne z];exact e)
 have R:ym H (upd H a (.frz o (.dT d))):=λc zs e=>by rw[upd_ne (λz=>by rw[z,x]at e;cases e)];exact e
 generalize upd H a (.frz o (.dT d))=Hf at g h R⊢;have W:d.length=M.length:=by rw[<-q,ai]
 refine⟨a,o,_,J,g,?_⟩;refine Qx (λi y n=>Same Hf n/\y=List.replicate i (V.bl true)) ⟨Same.refl _,J⟩ (λi y n hi ⟨m,e⟩=>⟨m _ _ g,?_⟩) ?_ ?_
 . rw[e,fb];exact vp (by omega)
 . rintro i kv y n t ⟨m,rfl⟩ p b F hb;rw[<-q]at t;obtain⟨j,hj,rfl⟩:=Cz t;obtain⟨N,i1,i2,i3,i4⟩:=hw j hj;have B:=Same.new F (.tup [.ref b,k j]);have r:upd n p (.tup [.ref b,k j]) p=some (.tup [.ref b,k j]):=ze;have v:=B _ _ hb;generalize upd n p (.tup [.ref b,k j])=H3 at B r v⊢;have U:=m.trans B;have L:H3 b=some (.tup (([(j:Int)]:O Int).map V.int)):=by rw[v];show some (HO.tup ((kI [(j:Int)]).map kV))=_;rw[Z2]
   refine⟨p,_,J,aH.of r,J,_,_,J,_,_,J,J,?_⟩;refine wQ ?_;exact⟨[(j:Int)],N,.ref b,k j,J,⟨b,_,J,L,IsL.ints.mpr J⟩,aY,(Is.tups R (show dS (.tup N)from i3) i1).mono U,i2,i4,λH4 Z=>⟨U.trans Z,fg.symm⟩⟩
 rintro y n ⟨m,rfl⟩ l hl;have S:=Same.new hl (.lst (List.replicate d.length (V.bl true)));refine⟨l,List.replicate d.length true,J,aJ.of (by rw[ze,List.map_replicate]),S _ _ (m _ _ g),?_⟩;have e:(List.replicate d.length true).all id=true:=by simp
 rw[e];exact kk _ (h (m.trans S))
end
noncomputable abbrev Xa:Stmt:=bG 56
noncomputable abbrev V9:Stmt:=bG 60
noncomputable abbrev oQ:Stmt:=bG 61
noncomputable abbrev Qe:Stmt:=bG 62
theorem cT.same{e G:Hp}{d cP cR:Y}{c:aC}{R:Nat->Y}{x ad as b a:Y}(r:cT e d cP cR c R x ad as b a)(s:Same e G)(n:∀m∈[ad,as,b,a],G m=none):cT G d cP cR c R x ad as b a:=by obtain⟨f,k,l,PA,j,i,_,_,_,_,h,g⟩:=r;exact⟨f,k,l,PA.same s,s _ _ j,s _ _ i,n _ (by simp),n _ (by simp),n _ (by simp),n _ (by simp),h,g⟩
theorem Cr{i:Hp}{k:aC}{R:Nat->Y}{x ad as f a n:Y}{c:Nat->Nat}(W:cX k)(y:cT H0 cU cP cR k R x ad as f a)(B:Same H0 H1)(h:bQ P w H1 k ad as f a c)(j:Same H1 i)(t:H1 n=none)(g:aM lA P w i n []):aU P w (without [ad,as,f,a] i) i cU cP cR k R x ad as f a c/\aM lA P w (without [ad,as,f,a] i) n []/\Same H0 (without [ad,as,f,a] i):=by
 obtain⟨H,S,U,PA,Q,N,E,C,D,L,M,F⟩:=id y;have s:∃o,H1 a=some o/\∀u,o≠ .tup u:=by
  rcases W.w01 with z|z
  . exact⟨_,by rw[F z];exact h.l,λ_ z=>by cases z⟩
  . obtain⟨G,e⟩:=(h.k z).some;exact⟨_,e,λ_ z=>by cases z⟩
 obtain⟨K,hk,r⟩:=s;have p:∀{b:Y},(∀o,H1 b=some o->False)->b ∉ [ad,as,f,a]:=λ{b} l d=>by
  simp only[ak,d7,or_false]at d;rcases d with z|z|z|z
  . exact l _ (z▸h.d)
  . exact l _ (z▸h.s)
  . exact l _ (z▸h.l)
  . exact l _ (z▸hk)
 have v:=(B.trans j).without (M:=[ad,as,f,a]) λm d=>by simp only[ak,d7,or_false]at d;rcases d with z|z|z|z<;>rw[z]<;>assumption
 have A:ym i (without [ad,as,f,a] i):=λb u e=>by
  rw[xq];exact e;intro d;simp only[ak,d7,or_false]at d;rcases d with z|z|z|z
  . rw[z,j _ _ h.d]at e;cases e
  . rw[z,j _ _ h.s]at e;cases e
  . rw[z,j _ _ h.l]at e;cases e
  . rw[z,j _ _ hk]at e;exact r _ (Option.some.inj e)
 have q:n ∉ [ad,as,f,a]:=p λo e=>by rw[t]at e;cases e
 exact⟨⟨y.same v λm d=>yw d,ql,h.same j⟩,g.by A (xq q),v⟩
inductive kY(P:Program)(w:World)(cU cP cR:Addr)(vs:List V)(H:Hp)(Q:VK)(e0:XK):Prop| mk:∀(v:V) (aw:Addr) (hs:aC) (ws:List Nat) (c:Nat->Nat),vs=[v,.ref aw]->Is H (eH hs) v->fI hs->cC H aw ws->dF (aD hs) ws c->
   (∀R x ad as al k0 H0 H',Same H H0->aU P w H0 H' cU cP cR hs R x ad as al k0 c->Q (.ref x) H')->kY P w cU cP cR vs H Q e0
inductive iI(vs:List V)(H:Hp)(Q:VK)(e0:XK):Prop| mk:∀(v:V) (aw:Addr) (hs:aC) (ws:List Nat) (c:Nat->Nat),vs=[v,.ref aw]->Is H (eH hs) v->fI hs->cC H aw ws->dF (aD hs) ws c->
   (∀d H',Same H H'->H' d=some (.dT (yp hs c))->Q (.ref d) H')->iI vs H Q e0
inductive iN(vs:List V)(H:Hp)(Q:VK)(e0:XK):Prop|mk:∀(v:V)(hs:aC),vs=[v]->Is H (eH hs) v->fI hs->(∀a l ws c H',Same H H'->jY (aD hs) ws c->cC H' l ws->(allB hs c=true->H' a=some (.tup [.str "all",.ref l]))->(allB hs c=false->∃d vf,H' a=some (.tup [.str "knot",.ref l,.ref d])/\rg H' hs c d vf)->Q (.ref a) H')->iN vs H Q e0
inductive lc(vs:List V)(H:Hp)(Q:VK)(e0:XK):Prop| mk:∀(v:V) (aw wd:Addr) (hs:aC) (ws:List Nat) (c:Nat->Nat) (us:List Nat) (wf:Nat->V),vs=[v,.ref aw,.ref wd]->Is H (eH hs) v->fI hs->cC H aw ws->jY (aD hs) ws c->H wd=some (.dT (us.map λi=>(kN i,wf i)))->
   (us=[]\/us=unf hs c)->(∀i∈us,∃dd,((aD hs).S i)[c i]?=some dd/\Is H (eD dd) (wf i))->(∀H',Same H H'->Q (.bl (!us.isEmpty)) H')->lc vs H Q e0
theorem X6{b w:Int}{d:aF}(h:fH b w d):∃ts,eD d=.tup ts/\ts.length<=1000/\qj ts/\(∀t∈ts,mV t)/\(aN (eD d)).canLay0=true/\(aN (eD d)).depth<=10:=by
 have a:∀(x:Str)(i:Int),∀t∈[L2.T.str x,L2.T.int i],mV t:=λx i t e=>by
  simp only[ak,d7,or_false]at e;rcases e with z|z
  . exact .inl ⟨_,z⟩
  . exact .inr ⟨_,z⟩
 have c:∀(x:Str)(i j:Int),∀t∈[L2.T.str x,L2.T.int i,L2.T.int j],mV t:=λx i j t e=>by
  simp only[ak,d7,or_false]at e;rcases e with z|z|z
  . exact .inl ⟨_,z⟩
  . exact .inr ⟨_,z⟩
  . exact .inr ⟨_,z⟩
 cases d with|beg x y=>exact h.elim|say x=>exact h.elim|rai x k=>exact⟨_,J,aY,⟨trivial,trivial,trivial,trivial⟩,c _ _ _,by simp only[eD,aN,vb,PyData.canLay0,PyData.canLayAll0];decide+kernel,by simp[eD,aN,vb,PyData.depth,PyData.depthAll]⟩|awa x k=>exact⟨_,J,aY,⟨trivial,trivial,trivial,trivial⟩,c _ _ _,by simp only[eD,aN,vb,PyData.canLay0,PyData.canLayAll0];decide+kernel,by simp[eD,aN,vb,PyData.depth,PyData.depthAll]⟩|com x=>exact⟨_,J,aY,⟨trivial,trivial,trivial⟩,a _ _,by simp only[eD,aN,vb,PyData.canLay0,PyData.canLayAll0];decide+kernel,by simp[eD,aN,vb,PyData.depth,PyData.depthAll]⟩|goo x=>exact⟨_,J,aY,⟨trivial,trivial,trivial⟩,a _ _,by simp only[eD,aN,vb,PyData.canLay0,PyData.canLayAll0];decide+kernel,by simp[eD,aN,vb,PyData.depth,PyData.depthAll]⟩|lea x=>exact⟨_,J,aY,⟨trivial,trivial,trivial⟩,a _ _,by simp only[eD,aN,vb,PyData.canLay0,PyData.canLayAll0];decide+kernel,by simp[eD,aN,vb,PyData.depth,PyData.depthAll]⟩|wor x=>exact⟨_,J,aY,⟨trivial,trivial,trivial⟩,a _ _,by simp only[eD,aN,vb,PyData.canLay0,PyData.canLayAll0];decide+kernel,by simp[eD,aN,vb,PyData.depth,PyData.depthAll]⟩
theorem fI.pd{a:aC}(F:fI a){d:aF}(b:i<a.fs.length)(h:((aD a).S i)[p]?=some d):fH a.b a.w d:=by obtain⟨c,_,_,m,_⟩:=mt F.hw b;exact F.pl _ m _ (ck h)
theorem pJ{a:aC}{c:Nat->Nat}(h:i∈unf a c):i<a.fs.length:=bp.mp (d8.mp h).1
theorem BK{a:aC}{c:Nat->Nat}:(unf a c).length<=a.fs.length:=by have:=f6 (ip a c) (List.range a.fs.length);rw[c8]at this;exact this
section
variable{K:W.Frag}
theorem W6:aA ["house","weaving","run"] ["house","weaving"] (zi Xa):=.of
theorem EX(D:bU K mg "need_run" Xa)(k:Ok P w K mg base "plan_of" 26 ["house"] (gj cP cR))(j:Ok P w K mg base "run_by" 5 ["plan","weaving"] (iH P w cU cP cR)):Ok P w K mg base "need_run" 27 ["house","weaving"] (kY P w cU cP cR):=by
 refine vo (k:=26) D W6 ?_;rintro f q A a s H C Q E e ⟨v,r,d,h,c,rfl,p,F,y,Lg,m⟩ X;have l:=W6.nd;refine⟨_,zf (zv (i:=2) l (ye j (e.mono (by decide)) (zc (ye k e (zc (pv 0) zd)) (zc (pv 1) zd)))) (zf (yj (Zv (Wo (pv 2))) (zh Xt) zn) (zh (zp (pv 2)))),?_⟩
 refine⟨d,v,J,p,F,λg R L b o PA=>⟨g,r,d,R,h,c,J,PA,F.hw,y.same b,Lg,λx ad as t n B z i G u=>?_⟩⟩;exact⟨_,J,yd (m R x ad as t n B z (b.trans i) u)⟩
theorem DC:aA ["house","weaving"] ["house","weaving"] (zi V9):=.of
theorem Dk(D:bU K mg "played" V9)(d:aK K cU bF)(h:Ok P w K mg base "need_run" 27 ["house","weaving"] (kY P w cU cP cR)):Ok P w K mg base "played" 28 ["house","weaving"] iI:=by refine vo (k:=27) D DC ?_;rintro f o A b s H u Q E m ⟨v,p,l,e,c,rfl,k,F,q,Lg,i⟩ X;refine⟨_,zh (zp (zt (ye h m (zc (pv 0) (zc (pv 1) zd))) J)),?_⟩;refine⟨v,p,l,e,c,J,k,F,q,Lg,λR x ad as B y C r g a=>?_⟩;obtain⟨t,n,z,PA,j,_⟩:=id a.f;exact⟨x,cU,n,_,_,J,a.s _ _ j,d.cls,d.n,v6,i ad r (g.trans a.s) a.m.d⟩
theorem sV:aA ["house","run","woven"] ["house"] (zi oQ):=.of
theorem Ak(D:bU K mg "end" oQ)(CU:aK K cU bF)(oP:Ok P w K mg base "plan_of" 26 ["house"] (gj cP cR))(oF:Ok P w K mg base "first_run" 4 ["plan"] (iM P w cU cP cR))(oO:Ok P w K mg base "woven_on" 6 ["run","held"] (kF P w cU cP cR))(oA:bZ P w K mg base cU "has_done_all" 1 ["self"] (lh P w cU cP cR))(oL:Ok P w K mg base "left" 2 ["run"] (iK P w cU cP cR)):Ok P w K mg base "end" 27 ["house"] iN:=by
 refine vo (k:=26) D sV ?_;rintro f aw A B s H vs Q E m ⟨v,a,rfl,hv,F,k⟩ X;have N:=sV.nd;have W:=F.hw;refine⟨_,zf (zv (i:=1) N (ye oF (m.mono (by decide)) (zc (ye oP m (zc (pv 0) zd)) zd))) (zf (zv (i:=2) N (ye oO (m.mono (by decide)) (zc (pv 1) (zc (Vm (τ:=lA)) zd)))) (zf (yj (yy (Vl oA CU.cls (m.mono (by decide)) (pv 1))) (zh (zp (yn (zc zx (zc (pv 2) zd))))) zn) (zh (zp (yn (zc zx (zc (pv 2) (zc (ye oL (m.mono (by decide)) (zc (pv 1) zd)) zd)))))))),?_⟩;refine⟨a,v,J,hv,F,λxp R ay y av PA=>?_⟩;refine⟨xp,a,R,J,PA,W,λb ad as r l H0 H1 s0 s1 ap RF RM=>?_⟩;refine(λah o p Z=>?_);have M:=Same.new p o;generalize upd H1 ah o=H2 at M Z⊢;obtain⟨G,GH,sw⟩:=Cr W RF s1 RM M p Z;refine⟨_,b,ad,as,r,l,ah,a,R,J,G,GH,W,λc L ao H3 x rm U n=>?_⟩;obtain⟨ag,C,am,_,hx,_⟩:=id G.f;have t:aU P w (without [ad,as,r,l] H2) H3 cU cP cR a R b ad as r l c:=⟨G.f,x,rm⟩
 have j:=y.trans (s0.trans (sw.trans x));refine⟨b,C,_,J,x _ _ hx,J,_,b,ad,as,r,l,a,R,c,J,t,W,λH4 h=>⟨_,J,?_⟩⟩;cases e:allB a c with| true=>refine yv ⟨by show 2<=1000;decide,λq H5 g n5 g5=>?_⟩;exact k q ao L c H5 (j.trans (h.trans g)) n (U.same (h.trans g)) (λ_=>g5) (λz=>by rw[e]at z;cases z)| false=>refine yd ⟨_,b,ad,as,r,l,a,R,c,J,t.same h,W,λd vf H5 g S=>⟨by show 3<=1000;decide,λq H6 u n6 g6=>?_⟩⟩;exact k q ao L c H6 (j.trans (h.trans (g.trans u))) n (U.same (h.trans (g.trans u))) (λz=>by rw[e]at z;cases z) (λ_=>⟨d,vf,g6,u _ _ S.1,λi hi=>let⟨dd,h1,h2⟩:=S.2 i hi;⟨dd,h1,h2.mono u⟩⟩)
theorem Jz:aA ["house","weaving","waits","run"] ["house","weaving","waits"] (zi Qe):=.of
theorem DO(D:bU K mg "is_knot" Qe)(T:Txt K mg)(CU:aK K cU bF)(oP:Ok P w K mg base "plan_of" 26 ["house"] (gj cP cR))(oR:Ok P w K mg base "run_by" 5 ["plan","weaving"] (iH P w cU cP cR))(oG:bZ P w K mg base cU "going" 3 ["self"] (li P w cU cP cR))(oA:Ok P w K mg base "are_waits" 4 ["thing"] lm)(oL:Ok P w K mg base "left" 2 ["run"] (iK P w cU cP cR)):Ok P w K mg base "is_knot" 27 ["house","weaving","waits"] lc:=by
 refine vo (k:=26) D Jz ?_;rintro f a5 A U s H vs Q E t ⟨v,aw,L,j,ws,c,e,G,rfl,hv,F,LA,⟨Lg,ao⟩,ag,n,u,k⟩ X;have nd:=Jz.nd;have W:=F.hw;refine⟨_,zf (zv (i:=3) nd (ye oR (t.mono (by decide)) (zc (ye oP t (zc (pv 0) zd)) (zc (pv 1) zd)))) (zf (yj (PW.pt (Yb (Zv (Wo (pv 3))) (jv (zr mv (yf yh (by rfl) T.len wu (zc (Vl oG CU.cls (t.mono (by decide)) (pv 3)) zd)) zg (zo _))))) (zh (zp qg)) zn) (zh (zp (wr (ye oA (t.mono (by decide)) (zc (pv 2) zd)) (wr (xj mv (yf Dh (by rfl) T.len wu (zc (pv 2) zd)) zg (zo _)) (vg (xj (Vn (by exact t.units)) (pv 2) (ye oL (t.mono (by decide)) (zc (pv 3) zd)) (zo _)))))))),?_⟩
 refine⟨j,v,J,hv,F,λxp R H1 s1 a1 PA=>⟨xp,aw,j,R,ws,c,J,PA,W,LA.same s1,Lg,λx ad as al k0 H0 H2 s2 hx B=>?_⟩⟩;obtain⟨aS,ay,am,_,Z,_⟩:=id B.f;have S:=s1.trans (s2.trans B.s);refine⟨_,J,yd ⟨x,ay,_,J,B.s _ _ Z,J,H0,x,ad,as,al,k0,j,R,c,J,B,W,ao,λl H3 s3 hl=>?_⟩⟩;have b:=S.trans s3;refine⟨l,[],J,.inl (aJ.of hl),_,_,J,J,_,J,yd ?_⟩;have a2:e.length<=8:=by
  rcases n with z|z
  . rw[z];exact bo _
  . rw[z];exact cj BK F.f8
 have h:=b _ _ ag;refine⟨L,e,G,J,h,by omega,λi m=>?_,λH4 q=>⟨_,J,yv ?_⟩⟩
 . obtain⟨dd,C,h2⟩:=u i m;have ah:i<j.fs.length:=by
    rcases n with z|z
    . rw[z]at m;cases m
    . rw[z]at m;exact pJ m
   obtain⟨ts,e1,e2,e3,e4,_⟩:=X6 (F.pd ah C);exact⟨ts,e1▸h2.mono b,e2,e3,e4⟩
 have g:=q _ _ h;refine⟨L,e.map λ(i:Nat)=>[(i:Int)],J,⟨_,g,by rw[c7,c7];rfl⟩,_,_,J,J,_,J,?_⟩;rw[ai];rcases n with z|z
 . subst z;exact yd (k H4 (b.trans q))
 . by_cases c0:e=[]
   . rw[c0]at k⊢;exact yd (k H4 (b.trans q))
   have y:decide ((e.length:Int)>0)=true:=by rw[decide_eq_true_eq];have:=List.length_pos_iff.mpr c0;omega
   rw[y];refine yv ⟨H0,x,ad,as,al,k0,j,R,c,J,(B.same s3).same q,W,λd M H5 N lf=>?_⟩;have em:(!e.isEmpty)=true:=by cases e with|nil=>exact absurd J c0|cons a r=>rfl
   rw[em]at k;refine⟨L,d,_,_,J,J,.inl (N _ _ g),.inl lf.1,λ_ p hp=>?_,?_⟩
   . obtain⟨i,m,rfl⟩:=ci.mp hp;obtain⟨dd,C,h2⟩:=u i m;have o:i∈unf j c:=z▸m;obtain⟨a3,av,ap⟩:=lf.2 i o;cases C.symm.trans av;obtain⟨ts,_,_,_,_,e5,e6⟩:=X6 (F.pd (pJ o) C);exact⟨eD dd,M i,h2.mono (b.trans (q.trans N)),(qy qp).trans (if_pos o),ap,e5,e6⟩
   . have el:((e.map λi=>(kN i,G i)).length==((unf j c).map λi=>(kN i,M i)).length)=true:=by rw[ai,ai,z];exact beq_self_eq_true _
     show Q (.bl (((e.map λi=>(kN i,G i)).length==((unf j c).map λi=>(kN i,M i)).length))) H5;rw[el];exact k H5 (b.trans (q.trans N))
end
noncomputable abbrev V7:Stmt:=bG 64
noncomputable abbrev K8:Stmt:=bG 65
inductive kK(vs:List V)(H:Hp)(Q:VK)(e0:XK):Prop|mk:∀c p:Int,vs=[.int c,.int p]->0<=p->(∀r,0<=r->Q (.int r) H)->kK vs H Q e0
def bS(a:Addr)(H B:Hp):Prop:=∀b o,b≠a->H b=some o->B b=some o
theorem bS.refl(a:Y)(H:Hp):bS a H H:=λ_ _ _ e=>e
theorem bS.trans{c:Hp}(x:bS a H H1)(y:bS a H1 c):bS a H c:=λb o n e=>y b o n (x b o n e)
theorem _root_.L2.Same.but(s:Same H H'):bS a H H':=λb o _ e=>s b o e
theorem bS.upd{a:Y}{H:Hp}{o:HO}:bS a H (upd H a o):=λb u n e=>by rw[upd_ne n];exact e
theorem bS.seq{K:W.Frag}{xs:O V}(x:bS a H H')(n:s≠a)(h:aJ K H s xs):aJ K H' s xs:=by
 rcases h with(h|⟨o,h⟩)|h
 . exact .inl (.inl (x _ _ n h))
 . exact .inl (.inr ⟨o,x _ _ n h⟩)
 . exact .inr h
structure dX(K:W.Frag)(H:Hp)(a s:Addr)(ns:List Int):Prop where
 at':∃p r:Int,H a=some (.lst [.ref s,.int p,.int r])/\0<=p/\0<=r
 seq:aJ K H s (ns.map V.int)
 ne:s≠a
 len:ns.length<=63
theorem dX.same{K:W.Frag}(t:dX K H a s ns)(h:Same H H'):dX K H' a s ns:=by obtain⟨⟨p,r,e,c,b⟩,q,n,l⟩:=t;exact⟨⟨p,r,h _ _ e,c,b⟩,h.seq q,n,l⟩
inductive iQ(K:W.Frag)(vs:List V)(H:Hp)(Q:VK)(e0:XK):Prop|mk:∀(a s:Addr)(ns:List Int)(many:Int),vs=[.ref a,.int many]->dX K H a s ns->0<many->many<1000000->(∀d H',0<=d->d<many->bS a H H'->dX K H' a s ns->Q (.int d) H')->iQ K vs H Q e0
section
variable{K:W.Frag}
theorem mh{i j:Int}(h: -(2^64)<j/\j<2^64):lZ i j:=.inr h
theorem me{i j:Int}(h: -(2^64)<i/\i<2^64):lZ i j:=.inl h
theorem Yq:aA ["cell","place","mixed","other"] ["cell","place"] (zi V7):=.of
theorem Dn(D:bU K mg "_law_b_spread" V7):Ok P w K mg base "_law_b_spread" 1 ["cell","place"] kK:=by
 refine vo D Yq λf n A e s H q Q E r h=>?_;intro X;obtain⟨c,p,rfl,t,k⟩:=h;refine⟨_,zf (yj (zr oH (bW 0) (yt sL zg zg) (zo _)) (zh (zp (bW 0))) zn) (zf (zv (i:=2) Yq.nd (yt Yd (yt we (yt we (yt kj (yt Yd (bW 0) zg) zg) (yt kj (bW 1) zg)) zg) zg)) (zf (zv (i:=2) Yq.nd (yt Yd (yt we (yt we (yt kj (bW 2) (bW 2)) (yt kj zg (bW 1))) zg) zg)) (zf (zv (i:=3) Yq.nd (yt Yd (yt we (yt we (yt kj (bW 2) (bW 2)) (yt kj zg (bW 2))) (bW 1)) zg)) (zh (zp (yt we (yt kj (bW 2) zg) (bW 3))))))),?_⟩
 refine⟨_,J,10,18,J,J,⟨by decide,by decide,by decide⟩,_,_,J,J,_,J,?_⟩;refine Zy (λd=>?_) (λ_=>?_)
 . have d:=cb d;refine⟨_,J,k c ?_⟩;have:(0:Int)<=(10:Int)^(18:Int).toNat:=by decide
   omega
 . refine⟨_,J,_,_,J,J,(by show(0:Int)<2147483647;decide),_,_,J,J,mh (by decide),_,J,_,_,J,J,mh (by decide),_,_,J,J,_,_,J,J,_,_,J,J,(by show(0:Int)<2147483629;decide),?_⟩;have m:=ei (c%2147483647*16807+p*62089911+12345) (show(2147483629:Int)≠0 by decide);have l:=f9 (c%2147483647*16807+p*62089911+12345) (show(0:Int)<2147483629 by decide);generalize (c%2147483647*16807+p*62089911+12345)%2147483629=b at m l⊢;refine⟨_,J,_,J,_,_,J,J,me (by omega),_,J,_,_,J,J,me (by decide),_,_,J,J,_,_,J,J,_,_,J,J,(by show(0:Int)<2147483587;decide),?_⟩;have j:=ei (b*b+7919*p+1) (show(2147483587:Int)≠0 by decide);have i:=f9 (b*b+7919*p+1) (show(0:Int)<2147483587 by decide);generalize (b*b+7919*p+1)%2147483587=a at j i⊢;refine⟨_,J,_,J,_,_,J,J,me (by omega),_,J,_,_,J,J,me (by decide),_,_,J,J,_,J,_,_,J,J,_,_,J,J,(by show(0:Int)<2147483563;decide),?_⟩;have g:=ei (a*a+40014*a+p) (show(2147483563:Int)≠0 by decide);generalize (a*a+40014*a+p)%2147483563=o at g⊢;exact⟨_,J,_,_,J,J,mh (by decide),_,J,_,_,J,J,k _ (by omega)⟩
theorem k9:aA ["tape","many","place","cell","found"] ["tape","many"] (zi K8):=.of
theorem Cb (D:bU K mg "_law_b_digit" K8) (T:Txt K mg) (o1:Ok P w K mg base "_law_b_spread" 1 ["cell","place"] kK):Ok P w K mg base "_law_b_digit" 2 ["tape","many"] (iQ K):=by
 refine vo D k9 λf av A G sh H vs Q E hr h=>?_;intro X;obtain⟨a,s,c,ag,rfl,g,d,ah,k⟩:=h;obtain⟨p,r,n,t,L⟩:=g.at';refine⟨_,zf (yj (zr nA (zm yu (bW 0) zg) (bW 1) (zo _)) (zf (zv (i:=2) k9.nd (zm yu (bW 0) zg)) (zf (zv (i:=3) k9.nd (bW 2)) (zf (yj (zr nA (bW 2) (yf yh (by rfl) T.len wu (zc (zm yu (bW 0) zg) zd)) (zo _)) (zh (zv (i:=3) k9.nd (zm yu (zm yu (bW 0) zg) (bW 2))))
    (zh (yj (zr (Bk hr.units0) (zm yu (bW 0) zg) (tz zd) (zo _)) (zh (zv (i:=3) k9.nd (yt we (yt Yd (zm yu (zm yu (bW 0) zg) (yt Yd (yt kj (bW 2) zg) (yf yh (by rfl) T.len wu (zc (zm yu (bW 0) zg) zd)))) (yt sL zg zg)) (yt kj (bW 2) zg)))) zn)))
   (zf (Qg (yt we (bW 2) zg) (Qk (bW 0) zg k7)) (zh (Qg (ye o1 hr (zc (bW 3) (zc (bW 2) zd))) (Qk (bW 0) zg k7))))))) zn)
  (zf (zv (i:=4) k9.nd (yt Yd (zm yu (bW 0) zg) (bW 1))) (zf (Qg (yt Bi (zm yu (bW 0) zg) (bW 1)) (Qk (bW 0) zg k7)) (zh (zp (bW 4))))),?_⟩
 refine⟨_,J,a,_,_,_,J,J,aJ.of n,J,_,J,_,_,J,J,_,J,?_⟩;refine Zy (λ_=>?_) (λ_=>?_)
 . refine⟨_,J,a,_,_,_,J,J,aJ.of n,J,_,J,?_⟩;have N:(c.map V.int).length=c.length:=ai _;refine⟨_,J,_,J,a,_,_,_,J,J,aJ.of n,J,s,_,J,.inl g.seq,_,_,J,J,_,J,?_⟩;refine Zy (λF=>?_) (λF=>?_)
   . have F:=cb F;rw[N]at F;have R:p.toNat<c.length:=by omega
     have S:p=((p.toNat:Nat):Int):=by omega
     have y:cN (c.map V.int) p=some (.int c[p.toNat]):=by have q:cN (c.map V.int) ((p.toNat:Nat):Int)=some (.int c[p.toNat]):=y4 (by rw[bc,bi R];rfl);rw[<-S]at q;exact q
     refine⟨_,J,a,_,_,_,J,J,aJ.of n,J,_,J,s,_,_,_,J,J,g.seq,y,?_⟩;refine⟨_,J,_,_,J,J,_,J,a,_,_,_,J,J,n,J,?_⟩;refine⟨_,J,_,J,_,p,J,t,λv j=>⟨_,J,a,_,_,_,J,J,ze,J,?_⟩⟩;have m:(upd (upd H a (.lst (([.ref s,.int p,.int r]:O V).set 1 (.int (p+1))))) a (.lst ((([.ref s,.int p,.int r]:O V).set 1 (.int (p+1))).set 2 (.int v)))) a=some (.lst [.ref s,.int (p+1),.int v]):=ze;refine⟨_,J,a,_,_,_,J,J,aJ.of m,J,_,J,_,_,J,J,d,?_⟩;refine⟨_,J,a,_,_,_,J,J,aJ.of m,J,_,J,_,_,J,J,⟨d,by omega⟩,_,J,a,_,_,_,J,J,m,J,?_⟩;refine⟨_,J,k _ _ (ei _ (by omega)) (f9 _ d) ((bS.refl a H).trans (bS.upd.trans (bS.upd.trans bS.upd))) ⟨⟨_,_,ze,(by omega),Int.ediv_nonneg j (by omega)⟩,bS.seq ((bS.refl a H).trans (bS.upd.trans (bS.upd.trans bS.upd))) g.ne g.seq,g.ne,g.len⟩⟩
   . refine⟨_,J,a,_,_,_,J,J,aJ.of n,J,aY,λZ B=>⟨s,Z,c.map V.int,J,J,(Same.new B _).seq g.seq,aJ.of ze,_,J,?_⟩⟩;have C:=Same.new B (.lst []);have l:=C _ _ n;have i:=C.seq g.seq;generalize upd H Z (.lst [])=W at C l i⊢;have u:bS a H W:=λb o _ e=>C b o e;refine Zy (λU=>?_) (λU=>?_)
     . have M:c≠[]:=λz=>by rw[z]at U;cases U
       have x:(0:Int)<(c.length:Int):=by have:0<c.length:=List.length_pos_iff.mpr M;omega
       have ap:=ei (p*7) (show(c.length:Int)≠0 by omega);have ao:=f9 (p*7) x;have R:(p*7%(c.length:Int)).toNat<c.length:=by omega
       have S:p*7%(c.length:Int)=(((p*7%(c.length:Int)).toNat:Nat):Int):=by omega
       have y:cN (c.map V.int) (p*7%(c.length:Int))=some (.int c[(p*7%(c.length:Int)).toNat]):=by have q:cN (c.map V.int) (((p*7%(c.length:Int)).toNat:Nat):Int)=some (.int c[(p*7%(c.length:Int)).toNat]):=y4 (by rw[bc,bi R];rfl);rw[<-S]at q;exact q
       refine⟨_,J,a,_,_,_,J,J,aJ.of l,J,_,J,_,_,J,J,mh (by decide),_,J,a,_,_,_,J,J,aJ.of l,J,s,_,J,.inl i,_,_,J,J,?_,s,_,_,_,J,J,i,(by rw[N];exact y),_,_,J,J,⟨by decide,by decide,by decide⟩,_,_,J,J,(by show(0:Int)<10^(6:Int).toNat;decide),_,J,_,_,J,J,mh (by decide),_,_,J,J,?_⟩
       . show(0:Int)<(((c.map V.int).length:Nat):Int);rw[N];exact x
       refine⟨_,J,_,_,J,J,_,J,a,_,_,_,J,J,l,J,?_⟩;refine⟨_,J,_,J,_,p,J,t,λv j=>⟨_,J,a,_,_,_,J,J,ze,J,?_⟩⟩;have m:(upd (upd W a (.lst (([.ref s,.int p,.int r]:O V).set 1 (.int (p+1))))) a (.lst ((([.ref s,.int p,.int r]:O V).set 1 (.int (p+1))).set 2 (.int v)))) a=some (.lst [.ref s,.int (p+1),.int v]):=ze;refine⟨_,J,a,_,_,_,J,J,aJ.of m,J,_,J,_,_,J,J,d,?_⟩;refine⟨_,J,a,_,_,_,J,J,aJ.of m,J,_,J,_,_,J,J,⟨d,by omega⟩,_,J,a,_,_,_,J,J,m,J,?_⟩;refine⟨_,J,k _ _ (ei _ (by omega)) (f9 _ d) (u.trans (bS.upd.trans (bS.upd.trans bS.upd))) ⟨⟨_,_,ze,(by omega),Int.ediv_nonneg j (by omega)⟩,bS.seq (u.trans (bS.upd.trans (bS.upd.trans bS.upd))) g.ne g.seq,g.ne,g.len⟩⟩
     . refine⟨_,J,_,_,J,J,_,J,a,_,_,_,J,J,l,J,?_⟩;refine⟨_,J,_,J,_,p,J,t,λv j=>⟨_,J,a,_,_,_,J,J,ze,J,?_⟩⟩;have m:(upd (upd W a (.lst (([.ref s,.int p,.int r]:O V).set 1 (.int (p+1))))) a (.lst ((([.ref s,.int p,.int r]:O V).set 1 (.int (p+1))).set 2 (.int v)))) a=some (.lst [.ref s,.int (p+1),.int v]):=ze;refine⟨_,J,a,_,_,_,J,J,aJ.of m,J,_,J,_,_,J,J,d,?_⟩;refine⟨_,J,a,_,_,_,J,J,aJ.of m,J,_,J,_,_,J,J,⟨d,by omega⟩,_,J,a,_,_,_,J,J,m,J,?_⟩;refine⟨_,J,k _ _ (ei _ (by omega)) (f9 _ d) (u.trans (bS.upd.trans (bS.upd.trans bS.upd))) ⟨⟨_,_,ze,(by omega),Int.ediv_nonneg j (by omega)⟩,bS.seq (u.trans (bS.upd.trans (bS.upd.trans bS.upd))) g.ne g.seq,g.ne,g.len⟩⟩
 . refine⟨_,J,a,_,_,_,J,J,aJ.of n,J,_,J,_,_,J,J,d,?_⟩;refine⟨_,J,a,_,_,_,J,J,aJ.of n,J,_,J,_,_,J,J,⟨d,by omega⟩,_,J,a,_,_,_,J,J,n,J,?_⟩;refine⟨_,J,k _ _ (ei _ (by omega)) (f9 _ d) bS.upd ⟨⟨_,_,ze,t,Int.ediv_nonneg L (by omega)⟩,bS.seq bS.upd g.ne g.seq,g.ne,g.len⟩⟩
end
theorem Qt:∀(ns:List Int)(m:Int),∃l,dR (some m) ns=some l/\l<=m/\(∀k∈ns,l<=k)/\(l=m\/l∈ns)
 |[],m=>⟨m,J,di _,λk hk=>(nomatch hk),.inl J⟩
 | k::r,m=>by
   by_cases e:k<m
   . obtain⟨l,d,f,c,b⟩:=Qt r k;refine⟨l,?_,by omega,λj a=>(ak.mp a).elim (λz=>by omega) (c j),.inr (b.elim (λz=>z▸bv) (br _))⟩;simp only[dR,if_pos e,d]
   . obtain⟨l,d,f,c,b⟩:=Qt r m;refine⟨l,?_,f,λj a=>(ak.mp a).elim (λz=>by omega) (c j),b.imp id (br _)⟩;simp only[dR,if_neg e,d]
theorem B5(ns:List Int):(ns=[]/\dR none ns=none)\/∃l,dR none ns=some l/\l∈ns/\∀k∈ns,l<=k:=by cases ns with|nil=>exact .inl ⟨J,J⟩| cons m r=>obtain⟨l,c,d,b,a⟩:=Qt r m;refine .inr ⟨l,c,a.elim (λz=>z▸bv) (br _),λk hk=>(ak.mp hk).elim (λz=>by omega) (b k)⟩
section
variable{h:HW}{c:Nat->Nat}
theorem Kb:(bP h c=[]/\cJ h c=none)\/∃j,j∈bP h c/\cJ h c=some (vy (h.S j) (c j):Int)/\∀k∈bP h c,vy (h.S j) (c j)<=vy (h.S k) (c k):=by
 rcases B5 ((bP h c).map λi=>(vy (h.S i) (c i):Int))with⟨b,a⟩|⟨l,b,a,e⟩
 . exact .inl ⟨List.map_eq_nil_iff.mp b,a⟩
 . obtain⟨j,d,rfl⟩:=ci.mp a;refine .inr ⟨j,d,b,λk hk=>?_⟩;have:=e _ (List.mem_map_of_mem (f:=λi=>(vy (h.S i) (c i):Int)) hk);omega
theorem tO:i∈bP h c↔i<h.n/\h.cm i=true/\c i<(h.S i).length/\Zg (h.S i) (c i)=false:=by unfold bP jo;rw[d8,bp,ca,ca,decide_eq_true_eq,Bool.not_eq_true'];exact⟨λ⟨a,⟨b,d⟩,e⟩=>⟨a,b,d,e⟩,λ⟨a,b,d,e⟩=>⟨a,⟨b,d⟩,e⟩⟩
theorem C1{s:yg}(a:p<=q)(e:Zg s q=false):Zg s p=false:=by unfold Zg at *;rw[List.any_eq_false]at *;exact λd b=>e d ((List.take_sublist_take_left a).subset b)
theorem DL{s:yg}(a:p<=q):vy s p<=vy s q:=(List.take_sublist_take_left a).countP_le
theorem B6{s:yg}{d:aF}(e:s[p]?=some d):dC s (p+1)=dC s p+if Va d then 1 else 0:=by unfold dC;rw[cy,e,List.countP_append];simp[List.countP_cons]
end
structure ie(h:HW)(o K A:Nat)(b3:Bool):Prop where
 on:o<h.n
 deed:∀i,i<h.n->∀p d,(h.S i)[p]?=some d->Ze (h.S i) p d=none/\Va d=false/\Wz 0 d=0\/(∃x,d=.goo x/\(h.cm i=true->Zg (h.S i) p=false->vy (h.S i) p=dC (h.S i) p+1))\/(b3=true/\i=o/\p=A/\d=.awa 0 1)
 odd:b3=true->h.cm o=true/\vy (h.S o) A=K/\Zg (h.S o) A=false/\(h.S o)[A]?=some (.awa 0 1)
section
variable{h:HW}{o:Nat}{c:Nat->Nat}
theorem ie.lev0(W:ie h o K A b3):dM h c 0=0:=by
 have j:∀i,i<h.n->cM (h.S i) (c i) 0=0:=λi m=>by
  unfold cM;have:∀d∈h.S i,Wz 0 d=0:=λd f=>by
   obtain⟨p,k⟩:=List.getElem?_of_mem f;rcases W.deed i m p d k with⟨_,_,z⟩|⟨x,z,_⟩|⟨_,_,_,z⟩
   . exact z
   . rw[z];rfl
   . rw[z];rfl
  have a:∀l:O aF,(∀d∈l,Wz 0 d=0)->(l.map (Wz 0)).sum=0:=λl=>by induction l with|nil=>exact λ_=>rfl| cons d r b=>intro g;rw[c6,List.sum_cons,g d bv,b λq e=>g q (br _ e)];rfl
  exact a _ λd f=>this d (List.mem_of_mem_take f)
 unfold dM;have a:∀n,n<=h.n->((List.range n).map λi=>cM (h.S i) (c i) 0).sum=0:=λn=>by induction n with|zero=>exact λ_=>rfl| succ n b=>intro s;rw[List.range_succ,be,List.sum_append,b (by omega)];simp[j n (by omega)]
 exact a _ (ae _)
theorem ie.stuck(W:ie h o K A b3){d:aF}(q:i<h.n)(b:(h.S i)[c i]?=some d)(a:qd h c i=false):(∃j,j∈bP h c/\vy (h.S j) (c j)<=dC (h.S i) (c i)/\∀k∈bP h c,vy (h.S j) (c j)<=vy (h.S k) (c k))/\(∃x,d=.goo x)/\(h.cm i=true->Zg (h.S i) (c i)=false->vy (h.S i) (c i)=dC (h.S i) (c i)+1)\/(b3=true/\i=o/\c i=A):=by
 unfold qd at a;rw[b]at a;rcases W.deed i q _ d b with⟨z,_⟩|⟨x,rfl,z⟩|⟨m,l,f,r⟩
 . have a:(match Ze (h.S i) (c i) d with|none=>true|some g=>Y0 h c g.1 g.2)=false:=a;rw[z]at a;cases a
 . refine .inl ⟨?_,⟨x,J⟩,z⟩;have a:Y0 h c 1000 ((dC (h.S i) (c i):Int)+1)=false:=a;unfold Y0 at a;rw[if_pos J]at a;rcases Kb (h:=h) (c:=c)with⟨_,e⟩|⟨j,p,e,n⟩
   . rw[e]at a;cases a
   . rw[e]at a;refine⟨j,p,?_,n⟩;have:=of_decide_eq_false a;omega
 . exact .inr ⟨m,l,f⟩
theorem ie.least(W:ie h o K A b3)(C:∀i,i<h.n->qd h c i=false)(g:i<h.n)(u:c i<(h.S i).length)(a:¬(b3=true/\i=o/\c i=A)):b3=true/\c o=A/\o∈bP h c/\(∃x,(h.S i)[c i]?=some (.goo x))/\K<=dC (h.S i) (c i):=by
 have l:=bi u;rcases W.stuck g l (C i g)with⟨⟨j,f,m,w⟩,⟨x,t⟩,_⟩|z
 . obtain⟨e,s,r,q⟩:=tO.mp f;rcases W.stuck e (bi r) (C j e)with⟨⟨k,hk,y,_⟩,_,v⟩|⟨d,n,b⟩
   . have:=v s q;have:=w k hk;omega
   . subst n;obtain⟨_,p,_⟩:=W.odd d;refine⟨d,b,f,⟨x,by rw[l,t]⟩,?_⟩;rw[b,p]at m;exact m
 . exact absurd z a
theorem De(W:ie h o K A false)(L:dF h ws c)(C:∀i,i<h.n->qd h c i=false):∀i,i<h.n->c i=(h.S i).length:=λi a=>by
 by_cases e:c i<(h.S i).length
 . have:=(W.least C a e (λz=>by cases z.1)).1;cases this
 . have:=(L.low i).1;omega
theorem ie.inv(W:ie h o K A true)(L:dF h ws c):c o<=A/\∀i,i<h.n->dC (h.S i) (c i)<=K:=by
 obtain⟨u,D,t,l⟩:=W.odd J;have C:=(c9.mp l).1;induction L with|nil=>exact⟨bo _,λi r=>by unfold dC;exact bo _⟩| @snoc ws c i L r a v=>
   obtain⟨b,q⟩:=v;obtain⟨d,f⟩:=vC a;have m:o∈bP h c:=tO.mpr ⟨W.on,u,by omega,C1 b t⟩;have B:¬(i=o/\c i=A):=λ⟨s,p⟩=>by subst s;rw[p,l]at f;cases f;unfold qd at a;rw[p,l]at a;have a:Y0 h c 0 1=true:=a;unfold Y0 at a;rw[if_neg (by decide),W.lev0]at a;exact absurd a (by decide)
   refine⟨?_,λk hk=>?_⟩
   . unfold aP;by_cases e:o=i
     . rw[if_pos e];have:c i≠A:=λz=>B ⟨e.symm,z⟩;rw[e]at b;omega
     . rw[if_neg e];exact b
   . unfold aP;by_cases e:k=i
     . rw[if_pos e,e,B6 f];have n:=q i r;by_cases g:Va d=true
       . rw[if_pos g];have w:∃x,d=.goo x:=by cases d<;>first|exact⟨_,J⟩|cases g
         obtain⟨x,rfl⟩:=w;unfold qd at a;rw[f]at a;have a:Y0 h c 1000 ((dC (h.S i) (c i):Int)+1)=true:=a;unfold Y0 at a;rw[if_pos J]at a;rcases Kb (h:=h) (c:=c)with⟨z,_⟩|⟨j,E,z,y⟩
         . rw[z]at m;cases m
         . rw[z]at a;have H:=cb a;have G:=y o m;have F:=DL (s:=h.S o) b;omega
       . rw[if_neg g];exact n
     . rw[if_neg e];exact q k hk
theorem DW(W:ie h o K A true)(L:dF h ws c)(C:∀i,i<h.n->qd h c i=false):c o=A/\∀i,i<h.n->i≠o->dC (h.S i) (c i)<=K/\(c i=(h.S i).length\/(∃x,(h.S i)[c i]?=some (.goo x))/\dC (h.S i) (c i)=K):=by
 obtain⟨p,n,m,g⟩:=W.odd J;have l:=(c9.mp g).1;obtain⟨q,f⟩:=W.inv L;have d:c o=A:=Classical.byContradiction λe=>e (W.least C W.on (by omega) (λz=>e z.2.2)).2.1;refine⟨d,λi b a=>⟨f i b,?_⟩⟩;by_cases e:c i<(h.S i).length
 . obtain⟨_,_,_,k,j⟩:=W.least C b e (λz=>a z.2.1);exact .inr ⟨k,Nat.le_antisymm (f i b) j⟩
 . have:=(L.low i).1;exact .inl (by omega)
end
noncomputable def gO(i nx f t:Nat):yg:=(if 0<t+f then[.awa (i:Int) ((t:Int)+(f:Int))]else[])++[.rai (nx:Int) 1]
noncomputable def dW(i nx f R:Nat):yg:=(List.range R).flatMap (gO i nx f)
theorem Xr{nx f:Nat}:dW i nx f (R+1)=dW i nx f R++gO i nx f R:=by unfold dW;rw[List.range_succ,List.flatMap_append];simp
theorem uZ{s r:yg}(a:p<=s.length):cM (s++r) p b=cM s p b:=by unfold cM;rw[List.take_append_of_le_length a]
theorem Yv{s r:yg}:cM (s++r) (s.length+q) b=cM s s.length b+cM r q b:=by unfold cM;rw[List.take_length_add_append,be,List.sum_append,fe]
structure nX(s:yg)(i nx f R:Nat):Prop where
 full:cM s s.length nx=(R:Int)
 at':∀p d,s[p]?=some d->(d=.rai (nx:Int) 1\/d=.awa (i:Int) (cM s p nx+(f:Int)))/\cM s p nx<(R:Int)/\0<=cM s p nx
theorem qD(i nx f:Nat):∀R,nX (dW i nx f R) i nx f R
 |0=>⟨J,λp d h=>by cases h⟩
 | R + 1 =>by
   have a:=qD i nx f R;rw[Xr];generalize dW i nx f R=s at a⊢;have l:Wz nx (.rai (nx:Int) 1)=1:=by show(if((nx:Int)).toNat=nx then(1:Int)else 0)=1;rw[if_pos (bz nx)]
   have k:∀r:yg,cM r 0 nx=0:=λr=>rfl;by_cases e:0<R+f
   . have j:gO i nx f R=[.awa (i:Int) ((R:Int)+(f:Int)),.rai (nx:Int) 1]:=by unfold gO;rw[if_pos e];rfl
     rw[j];refine⟨?_,λp d h=>?_⟩
     . rw[cn,Yv,a.full];show(R:Int)+(0+(Wz nx (.rai (nx:Int) 1)+0))=_;rw[l];omega
     . by_cases b:p<s.length
       . rw[fh b]at h;rw[uZ (by omega)];obtain⟨g,m,c⟩:=a.at' p d h;exact⟨g,by omega,c⟩
       . obtain⟨q,rfl⟩:∃q,p=s.length+q:=⟨p-s.length,by omega⟩
         rw[List.getElem?_append_right (by omega),Nat.add_sub_cancel_left]at h;rw[Yv,a.full]
         match q,h with
         | 0,h=>cases h;rw[k];exact⟨.inr (by rw[Int.add_zero]),by omega,by omega⟩
         | 1,h=>cases h;rw[show cM [aF.awa (i:Int) ((R:Int)+(f:Int)),.rai (nx:Int) 1] 1 nx=0 from rfl];exact⟨.inl J,by omega,by omega⟩
   . have j:gO i nx f R=[.rai (nx:Int) 1]:=by unfold gO;rw[if_neg e];rfl
     rw[j];refine⟨?_,λp d h=>?_⟩
     . rw[cn,Yv,a.full];show(R:Int)+(Wz nx (.rai (nx:Int) 1)+0)=_;rw[l];omega
     . by_cases b:p<s.length
       . rw[fh b]at h;rw[uZ (by omega)];obtain⟨g,m,c⟩:=a.at' p d h;exact⟨g,by omega,c⟩
       . obtain⟨q,rfl⟩:∃q,p=s.length+q:=⟨p-s.length,by omega⟩
         rw[List.getElem?_append_right (by omega),Nat.add_sub_cancel_left]at h;rw[Yv,a.full]
         match q,h with
         | 0,h=>cases h;rw[k];exact⟨.inl J,by omega,by omega⟩
theorem Co{s:yg}{nx f:Nat}(x:nX s i nx f R)(k:b≠nx)(p:Nat):cM s p b=0:=by
 have a:∀l:O aF,(∀d∈l,Wz b d=0)->(l.map (Wz b)).sum=0:=λl=>by induction l with|nil=>exact λ_=>rfl| cons d r g=>intro e;rw[c6,List.sum_cons,e d bv,g λm c=>e m (br _ c)];rfl
 refine a _ λd j=>?_;obtain⟨q,h⟩:=List.getElem?_of_mem (List.mem_of_mem_take j);rcases(x.at' q d h).1 with rfl|rfl
 . show(if((nx:Int)).toNat=b then(1:Int)else 0)=0;rw[if_neg (by rw[bz];exact λz=>k z.symm)]
 . rfl
noncomputable def cY(m:Nat)(B:Bool)(i:Nat):Nat:=if B then(i+m-1)%m else(i+1)%m
noncomputable def fR(m:Nat)(B:Bool)(i:Nat):Nat:=if B then(if i+1<m then 1 else 0)else(if 0<i then 1 else 0)
structure xH(h:HW)(m:Nat)(dn:Bool)(R:Nat):Prop where
 n:h.n=m
 m23:m=2\/m=3
 S:∀i,i<m->h.S i=dW i (cY m dn i) (fR m dn i) R
theorem El{h:HW}{c:Nat->Nat}(X:xH h m dn R)(L:dF h ws c)(C:∀i,i<h.n->qd h c i=false):∀i,i<h.n->c i=(h.S i).length:=by
 have t:=X.n;have lo:=L.low;have d:∀i,i<m->(c i=(h.S i).length/\cM (h.S i) (c i) (cY m dn i)=(R:Int))\/(cM (h.S i) (c i) (cY m dn i)<(R:Int)/\dM h c i<cM (h.S i) (c i) (cY m dn i)+(fR m dn i:Int)):=λi k=>by
  have q:nX (h.S i) i (cY m dn i) (fR m dn i) R:=X.S i k▸qD i (cY m dn i) (fR m dn i) R;have A:=(lo i).1;by_cases e:c i<(h.S i).length
  . have u:=bi e;obtain⟨y,x,B⟩:=q.at' _ _ u;refine .inr ⟨x,?_⟩;have f:=C i (by omega);unfold qd at f;rw[u]at f;rcases y with z|z
    . rw[z]at f;cases f
    . rw[z]at f;have f:Y0 h c ((i:Int)).toNat (cM (h.S i) (c i) (cY m dn i)+(fR m dn i:Int))=false:=f;rw[bz]at f;unfold Y0 at f;rw[if_neg (by have:=X.m23;omega)]at f;have:=of_decide_eq_false f;omega
  . have:c i=(h.S i).length:=by omega
    exact .inl ⟨this,by rw[this];exact q.full⟩
 have a:∀i b,i<m->b≠cY m dn i->cM (h.S i) (c i) b=0:=λi b k w=>Co (X.S i k▸qD i (cY m dn i) (fR m dn i) R:nX (h.S i) i (cY m dn i) (fR m dn i) R) w _;have s:∀b,dM h c b=((List.range m).map λi=>cM (h.S i) (c i) b).sum:=λb=>by unfold dM;rw[t]
 intro i k;rw[t]at k;rcases X.m23 with rfl|rfl
 . have j:=d 0 (by decide);have g:=d 1 (by decide);rw[s]at j g;cases dn with
   | false=>
     have z0:=a 0 0 (by decide) (by decide);have p:=a 1 1 (by decide) (by decide);simp only[List.range_succ,List.range_zero,List.nil_append,be,c6,List.map_nil,List.sum_append,List.sum_cons,List.sum_nil,cY,fR]at j g;simp at j g;have:i=0\/i=1:=by omega
     rcases this with rfl|rfl<;>omega
   | true=>
     have z0:=a 0 0 (by decide) (by decide);have p:=a 1 1 (by decide) (by decide);simp only[List.range_succ,List.range_zero,List.nil_append,be,c6,List.map_nil,List.sum_append,List.sum_cons,List.sum_nil,cY,fR]at j g;simp at j g;have:i=0\/i=1:=by omega
     rcases this with rfl|rfl<;>omega
 . have j:=d 0 (by decide);have g:=d 1 (by decide);have l:=d 2 (by decide);rw[s]at j g l;cases dn with
   | false=>
     have z0:=a 0 0 (by decide) (by decide);have r:=a 0 2 (by decide) (by decide);have p:=a 1 1 (by decide) (by decide);have o:=a 1 0 (by decide) (by decide);have v:=a 2 2 (by decide) (by decide);have n:=a 2 1 (by decide) (by decide);simp only[List.range_succ,List.range_zero,List.nil_append,be,c6,List.map_nil,List.sum_append,List.sum_cons,List.sum_nil,cY,fR]at j g l;simp at j g l;have:i=0\/i=1\/i=2:=by omega
     rcases this with rfl|rfl|rfl<;>omega
   | true=>
     have z0:=a 0 0 (by decide) (by decide);have r:=a 0 1 (by decide) (by decide);have p:=a 1 1 (by decide) (by decide);have o:=a 1 2 (by decide) (by decide);have v:=a 2 2 (by decide) (by decide);have n:=a 2 0 (by decide) (by decide);simp only[List.range_succ,List.range_zero,List.nil_append,be,c6,List.map_nil,List.sum_append,List.sum_cons,List.sum_nil,cY,fR]at j g l;simp at j g l;have:i=0\/i=1\/i=2:=by omega
     rcases this with rfl|rfl|rfl<;>omega
noncomputable def eO(b w:Int)(n:Nat)(F:Nat->List ij)(B:Nat->yg):aC:=⟨b,w,(List.range n).map λi=>(i,F i),(List.range n).map B⟩
section
variable{b w:Int}{n:Nat}{mem:Nat->List ij}{scr:Nat->yg}
theorem iB:(aD (eO b w n mem scr)).n=n:=by show((List.range n).map λi=>(i,mem i)).length=n;rw[ai,c8]
theorem rw(a:i<n):(eO b w n mem scr).fs.getD i (0,[])=(i,mem i):=by show((List.range n).map λi=>(i,mem i)).getD i (0,[])=_;rw[cz,bc,List.getElem?_range a];rfl
theorem rA(a:i<n):(eO b w n mem scr).ss.getD i []=scr i:=by show((List.range n).map scr).getD i []=_;rw[cz,bc,List.getElem?_range a];rfl
theorem lO(a:i<n):(aD (eO b w n mem scr)).S i=scr i:=by show(eO b w n mem scr).ss.getD ((eO b w n mem scr).fs.getD i (0,[])).1 []=_;rw[rw a];exact rA a
theorem yU(a:i<n):(aD (eO b w n mem scr)).cm i=fG (mem i):=by show fG ((eO b w n mem scr).fs.getD i (0,[])).2=_;rw[rw a]
theorem rR(p:0<=b)(o:b<=99)(f:w=0\/w=1)(r:1<=n)(q:n<=8)(m:∀i,i<n->mY w (mem i))(g:∀i,i<n->(scr i).length<=80/\(∀d∈scr i,fH b w d)/\eP (Jp (mem i)) (scr i)=true):fI (eO b w n mem scr):=by
 have t:(eO b w n mem scr).fs.length=n:=iB;have l:(eO b w n mem scr).ss.length=n:=by show((List.range n).map scr).length=n;rw[ai,c8]
 have k:∀c∈(eO b w n mem scr).fs,∃i,i<n/\c=(i,mem i):=λc e=>by obtain⟨i,a,rfl⟩:=ci.mp e;exact⟨i,bp.mp a,J⟩
 have j:∀s∈(eO b w n mem scr).ss,∃i,i<n/\s=scr i:=λc e=>by obtain⟨i,a,rfl⟩:=ci.mp e;exact⟨i,bp.mp a,J⟩
 refine⟨p,o,f,by omega,by omega,by omega,by omega,λc e=>?_,λs h=>?_,λs h=>?_,λc e=>?_⟩
 . obtain⟨i,a,rfl⟩:=k c e;exact⟨by rw[l];exact a,m i a⟩
 . obtain⟨i,a,rfl⟩:=j s h;exact(g i a).1
 . obtain⟨i,a,rfl⟩:=j s h;exact(g i a).2.1
 . obtain⟨i,a,rfl⟩:=k c e;show eP (Jp (mem i)) ((eO b w n mem scr).ss.getD i [])=true;rw[rA a];exact(g i a).2.2
end
noncomputable def aZ(a g:Bool):Str:=if a then(if g then "both" else "come")else "go"
noncomputable def Y1(a g:Bool):yg:=(if a then[.com 0]else[])++(if g then[.goo 0]else[])
noncomputable def mB(a g odd:Bool)(way phase B:Nat):yg:=(if odd && decide (way=3) && decide (B=phase)then[.awa 0 1]else[])++((if odd && decide (way=1) && decide (B=phase)then[.lea 0]else[])++ (if odd && decide (phase<=B) && (decide (way=1) ||decide (way=2))then[.wor 1]else Y1 a g))
noncomputable def iD:aF->Bool|.wor _=>false|_=>true
noncomputable def Yz(a g odd:Bool)(way phase P:Nat):yg:=(List.range P).flatMap (mB a g odd way phase)
noncomputable def qc(a g odd:Bool)(way phase P:Nat):yg:=if odd && decide (way=2)then(Yz a g odd way phase P).filter iD else Yz a g odd way phase P
noncomputable def V1(a g:Bool)(P:Nat):yg:=(List.range P).flatMap λ_=>Y1 a g
theorem V0{a:Bool}{P:Nat}:qc a g false way phase P=V1 a g P:=rfl
noncomputable def wJ:aF->Bool|.com x=>decide (x=0)|.goo x=>decide (x=0)|.lea x=>decide (x=0)|.wor x=>decide (0<=x/\x<=999)|.awa b m=>decide (b=0/\m=1)|_=>false
theorem Av{d:aF}(h:wJ d=true):fH 1 1 d:=by cases d with|com x=>exact⟨cb h,J⟩|goo x=>exact⟨cb h,J⟩|lea x=>exact⟨cb h,J⟩|wor x=>exact(cb h:0<=x/\x<=999)|awa b m=>obtain⟨rfl,rfl⟩:=(cb h:b=0/\m=1);exact⟨by decide,by decide,by decide,by decide⟩|rai b m=>cases h|beg b m=>cases h|say b=>cases h
noncomputable def mR(a:Bool)(s:yg)(B:Bool)(A p:Nat):aF->Bool|.goo _=> !a ||Zg s p ||decide (vy s p=dC s p+1)|.awa b m=>B && decide (p=A) && decide (b=0/\m=1)|.rai _ _=>false|_=>true
noncomputable def oy:Option aF->Bool|some (.goo _)=>true|_=>false
noncomputable def rJ:Option aF->Bool|some (.awa b m)=>decide (b=0/\m=1)|_=>false
noncomputable def jO(a g:Bool)(s:yg)(B:Bool)(A:Nat):Bool:=decide (s.length<=80) && s.all wJ && eP (some (aZ a g)) s && (List.range s.length).all λp=>match s[p]? with|some d=>mR a s B A p d|none=>true
noncomputable def eQ(g:Bool)(K:Nat):Nat:=if g then 2*K else K
noncomputable def iA(a g:Bool)(K P:Nat):Nat:=if g then(if a then 2*K+1 else K)else P
noncomputable def nT(a g:Bool)(K P:Nat):Bool:=let s:=V1 a g P
 ((List.range (s.length+1)).all λp=> !(decide (dC s p<=K) && (decide (p=s.length) ||(oy s[p]? && decide (dC s p=K)))) ||decide (p=iA a g K P)) && (if g then oy s[iA a g K P]? else decide (s.length=P))
noncomputable def nz(a g:Bool)(K P:Nat):Bool:=(List.range 4).all λway=>let s:=qc a g true way K P
 jO a g s (decide (way=3)) (eQ g K) && (!decide (way=3) ||(decide (vy s (eQ g K)=K) && !(Zg s (eQ g K)) && rJ s[eQ g K]?))
noncomputable def rK:Bool:=[(true,true),(true,false),(false,true)].all λm=>(List.range 5).all λP=>jO m.1 m.2 (V1 m.1 m.2 P) false 0 && (List.range P).all λK=>nT m.1 m.2 K P && (!m.1 ||nz m.1 m.2 K P)
theorem zW:rK=true:=by decide+kernel
theorem nH{a:Bool}(k:(a ||g)=true){P:Nat}(l:P<=4):jO a g (V1 a g P) false 0=true/\∀K,K<P->nT a g K P=true/\(a=true->nz a g K P=true):=by
 have h:=zW;unfold rK at h;rw[df]at h;have f:(a,g)∈[(true,true),(true,false),(false,true)]:=by cases a<;>cases g<;>first|(cases k;done)|simp
 have e:=h _ f;rw[df]at e;have c:=e P (bp.mpr (by omega));rw[ca,df]at c;refine⟨c.1,λK j=>?_⟩;have b:=c.2 K (bp.mpr j);rw[ca]at b;refine⟨b.1,λi=>?_⟩;have d:=b.2;rw[i]at d⊢;exact d
theorem X2{a:Bool}{s:yg}(h:jO a g s b3 A=true):s.length<=80/\(∀d∈s,fH 1 1 d)/\eP (some (aZ a g)) s=true/\∀p d,s[p]?=some d->mR a s b3 A p d=true:=by unfold jO at h;rw[ca,ca,ca,decide_eq_true_eq,df,df]at h;obtain⟨⟨⟨j,i⟩,f⟩,c⟩:=h;refine⟨j,λd b=>Av (i d b),f,λp d e=>?_⟩;have:=c p (bp.mpr (c9.mp e).1);rw[e]at this;exact this
theorem AU{h:HW}{o K:Nat}{a:Bool}{d:aF}(l:h.cm i=a)(b:fH 1 1 d)(f:b3=true->i=o)(e:mR a (h.S i) b3 A p d=true):Ze (h.S i) p d=none/\Va d=false/\Wz 0 d=0\/(∃x,d=.goo x/\(h.cm i=true->Zg (h.S i) p=false->vy (h.S i) p=dC (h.S i) p+1))\/(b3=true/\i=o/\p=A/\d=.awa 0 1):=by cases d with|com x=>exact .inl ⟨J,J,J⟩|lea x=>exact .inl ⟨J,J,J⟩|wor x=>exact .inl ⟨J,J,J⟩|rai x y=>cases e|beg x y=>exact b.elim|say x=>exact b.elim| goo x=>refine .inr (.inl ⟨x,J,λj g=>?_⟩);have e:(!a ||Zg (h.S i) p ||decide (vy (h.S i) p=dC (h.S i) p+1))=true:=e;rw[<-l,j,g]at e;exact cb e| awa x y=>have e:(b3 && decide (p=A) && decide (x=0/\y=1))=true:=e;rw[ca,ca,decide_eq_true_eq,decide_eq_true_eq]at e;obtain⟨⟨c,k⟩,rfl,rfl⟩:=e;exact .inr (.inr ⟨c,f c,k,J⟩)
structure WD(n P way K o:Nat)(ma mg:Nat->Bool):Prop where
 n1:1<=n
 n8:n<=8
 P4:P<=4
 way4:way<4
 KP:K<P
 on:o<n
 md:∀i,i<n->(ma i ||mg i)=true
 mo:ma o=true
noncomputable def jm(n P way K o:Nat)(B mg:Nat->Bool):aC:=eO 1 1 n (λi=>[(0,aZ (B i) (mg i))]) λi=>qc (B i) (mg i) (decide (i=o)) way K P
noncomputable def qi(P way K o:Nat)(B mg:Nat->Bool)(i:Nat):Nat:=if way=3 then(if i=o then eQ (mg o) K else iA (B i) (mg i) K P)else(qc (B i) (mg i) (decide (i=o)) way K P).length
section
variable{n P o:Nat}{ma mg:Nat->Bool}
theorem zC(a g:Bool)(b:(a ||g)=true):fG [((0:Int),aZ a g)]=a:=by cases a<;>cases g<;>first|(cases b;done)|decide+kernel
theorem WD.scr(D:WD n P way K o ma mg)(g:i<n):jO (ma i) (mg i) (qc (ma i) (mg i) (decide (i=o)) way K P) (decide (i=o) && decide (way=3)) (eQ (mg o) K)=true:=by
 obtain⟨a,j⟩:=nH (D.md i g) D.P4;by_cases e:i=o
 . subst e;rw[ax J];have c:=(j K D.KP).2 D.mo;unfold nz at c;rw[df]at c;have h:=c way (bp.mpr D.way4);exact(Bool.and_eq_true_iff.mp h).1
 . rw [c5 e,V0];have b:∀A,jO (ma i) (mg i) (V1 (ma i) (mg i) P) false A=true:=λA=>by unfold jO at a⊢;rw[ca]at a⊢;refine⟨a.1,?_⟩;rw[df]at *;intro p f;have:=a.2 p f;cases k:(V1 (ma i) (mg i) P)[p]? with|none=>rfl| some d=>rw[k]at this;have this:mR (ma i) (V1 (ma i) (mg i) P) false 0 p d=true:=this;show mR (ma i) (V1 (ma i) (mg i) P) false A p d=true;cases d<;>first|exact this|cases this
   exact b _
theorem WD.fl(D:WD n P way K o ma mg):fI (jm n P way K o ma mg):=by
 refine rR (by decide) (by decide) (.inr J) D.n1 D.n8 (λi a=>.inr ⟨_,J,J,?_⟩) λi a=>?_
 . have:=D.md i a;unfold qU aZ;cases ma i<;>cases mg i<;>simp_all
 . obtain⟨d,c,b,_⟩:=X2 (D.scr a);exact⟨d,c,b⟩
theorem WD.wa(D:WD n P way K o ma mg):ie (aD (jm n P way K o ma mg)) o K (eQ (mg o) K) (decide (way=3)):=by
 have k:(aD (jm n P way K o ma mg)).n=n:=iB;have g:∀i,i<n->(aD (jm n P way K o ma mg)).S i=qc (ma i) (mg i) (decide (i=o)) way K P:=λi a=>lO a;have l:∀i,i<n->(aD (jm n P way K o ma mg)).cm i=ma i:=λi a=>(yU a).trans (zC _ _ (D.md i a));refine⟨by rw[k];exact D.on,λi a p d e=>?_,λj=>?_⟩
 . rw[k]at a;obtain⟨_,c,_,h⟩:=X2 (D.scr a);rw[g i a]at e;have q:=h p d e;rw[<-g i a]at q;have r:=AU (o:=o) (K:=K) (l i a) (c d (ck e)) (λz=>cb (Bool.and_eq_true_iff.mp z).1) q;rcases r with z|z|⟨s,m⟩
   . exact .inl z
   . exact .inr (.inl z)
   . exact .inr (.inr ⟨(Bool.and_eq_true_iff.mp s).2,m⟩)
 . have j:=cb j;rw[g o D.on,l o D.on,ax J];have c:=((nH (D.md o D.on) D.P4).2 K D.KP).2 D.mo;unfold nz at c;rw[df]at c;have h:=c way (bp.mpr D.way4);subst j;have f:=(Bool.and_eq_true_iff.mp h).2;have f:(decide (vy (qc (ma o) (mg o) true 3 K P) (eQ (mg o) K)=K) && !(Zg (qc (ma o) (mg o) true 3 K P) (eQ (mg o) K)) && rJ (qc (ma o) (mg o) true 3 K P)[eQ (mg o) K]?)=true:=f;rw[ca,ca,decide_eq_true_eq,Bool.not_eq_true']at f;obtain⟨⟨u,t⟩,b⟩:=f;refine⟨D.mo,u,t,?_⟩;cases e:(qc (ma o) (mg o) true 3 K P)[eQ (mg o) K]? with|none=>rw[e]at b;cases b| some d=>
     rw[e]at b;cases d<;>first|(cases b;done)|skip
     obtain⟨rfl,rfl⟩:=cb b;rfl
theorem WD.ends(D:WD n P way K o ma mg){c:Nat->Nat}(C:jY (aD (jm n P way K o ma mg)) ws c)(a:i<n):c i=qi P way K o ma mg i:=by
 have g:(aD (jm n P way K o ma mg)).n=n:=iB;have h:∀i,i<n->(aD (jm n P way K o ma mg)).S i=qc (ma i) (mg i) (decide (i=o)) way K P:=λi a=>lO a;have W:=D.wa;unfold qi;by_cases e:way=3
 . rw[if_pos e];rw[ax e]at W;obtain⟨u,t⟩:=DW W C.1 C.2;by_cases b:i=o
   . rw[if_pos b,b];exact u
   . rw[if_neg b];obtain⟨p,m⟩:=t i (by rw[g];exact a) b;have d:=(C.1.low i).1;rw[h i a,c5 b,V0]at p m d;have l:=((nH (D.md i a) D.P4).2 K D.KP).1;unfold nT at l;have k:=(Bool.and_eq_true_iff.mp l).1;rw[df]at k;have j:=k (c i) (bp.mpr (by omega));rw[Bool.or_eq_true,Bool.not_eq_true',decide_eq_true_eq]at j;refine j.resolve_left λz=>?_;rw[ax p,Bool.true_and,Bool.or_eq_false_iff]at z;obtain⟨q,f⟩:=z;rcases m with y|⟨⟨x,s⟩,r⟩
     . exact absurd y (of_decide_eq_false q)
     . rw[s,ax r]at f;cases f
 . rw[if_neg e];rw[c5 e]at W;have:=De W C.1 C.2 i (by rw[g];exact a);rw[this,h i a]
end
noncomputable def Jh(m:Nat)(B:Bool)(R:Nat):aC:=eO (m:Int) 0 m (λ_=>[]) λi=>dW i (cY m B i) (fR m B i) R
theorem uQ:∀(s:yg)(o:Option Str),(∀d∈s,jW o d=true/\iX o d=o)->eP o s=true|[],_,_=>rfl| d::r,o,h=>by obtain⟨c,b⟩:=h d bv;show(jW o d && eP (iX o d) r)=true;rw[c,b,uQ r o λe a=>h e (br _ a)];rfl
theorem uy{nx f:Nat}{d:aF}(h:d∈dW i nx f R):d=.rai (nx:Int) 1\/∃t,t<R/\0<t+f/\d=.awa (i:Int) ((t:Int)+(f:Int)):=by
 unfold dW at h;obtain⟨t,a,b⟩:=List.mem_flatMap.mp h;have a:=bp.mp a;unfold gO at b;rcases dc.mp b with z|z
 . by_cases e:0<t+f
   . rw[if_pos e]at z;exact .inr ⟨t,a,e,aa.mp z⟩
   . rw[if_neg e]at z;cases z
 . exact .inl (aa.mp z)
theorem K9{i nx f:Nat}:∀R,(dW i nx f R).length<=2*R
 |0=>ae _
 | R+1=>by
   rw[Xr,cn];have:=K9 (i:=i) (nx:=nx) (f:=f) R;have a:(gO i nx f R).length<=2:=by
    unfold gO;by_cases e:0<R+f
    . rw[if_pos e];exact ae _
    . rw[if_neg e];exact Nat.le_succ _
   omega
structure RD(m:Nat)(dn:Bool)(R:Nat):Prop where
 m23:m=2\/m=3
 R40:R<=40
section
theorem RD.nx(D:RD m dn R)(i:Nat):cY m dn i<m:=by have:=D.m23;unfold cY;cases dn<;>exact Nat.mod_lt _ (by omega)
theorem RD.fl(D:RD m dn R):fI (Jh m dn R):=by
 have f:=D.m23;refine rR (by omega) (by omega) (.inl J) (by omega) (by omega) (λi b=>.inl J) λi b=>⟨?_,λd a=>?_,uQ _ _ λd a=>?_⟩
 . have:=K9 (i:=i) (nx:=cY m dn i) (f:=fR m dn i) R;have:=D.R40;omega
 . have:=D.nx i;have:=D.R40;have g:fR m dn i<=1:=by unfold fR;cases dn<;>simp <;>split<;>omega
   rcases uy a with rfl|⟨t,e,c,rfl⟩
   . exact⟨by omega,by omega,by decide,by decide⟩
   . exact⟨by omega,by omega,by omega,by omega⟩
 . rcases uy a with rfl|⟨t,e,c,rfl⟩<;>exact⟨J,J⟩
theorem RD.ends(D:RD m dn R){c:Nat->Nat}(C:jY (aD (Jh m dn R)) ws c)(a:i<m):c i=(dW i (cY m dn i) (fR m dn i) R).length:=by have b:(aD (Jh m dn R)).n=m:=iB;have:=El (⟨b,D.m23,λi a=>lO a⟩:xH (aD (Jh m dn R)) m dn R) C.1 C.2 i (by rw[b];exact a);rw[this];exact congrArg List.length (lO a)
end
theorem Zz{H:Hp}:∀{c b:List T}{xs a:List V},IsL H c xs->IsL H b a->IsL H (c++b) (xs++a)|[],b,xs,a,h,g=>by cases(h);exact g| t::c,b,xs,a,h,g=>by obtain⟨v,r,rfl,e,d⟩:=h;exact⟨v,r++a,J,e,Zz d g⟩
theorem Yw{t:T}(h:Is H t v):IsL H [t] [v]:=⟨v,[],J,h,J⟩
theorem dS.deeds(b:O aF):qj (b.map eD):=by rw[qj.all];intro t a;obtain⟨m,_,rfl⟩:=ci.mp a;exact q9 m
structure Gr(H0 H:Hp)(l:Addr)(ds:List aF)(ys:List V):Prop where
 same:Same H0 H
 at':H l=some (.lst ys)
 it:IsL H (ds.map eD) ys
theorem Gr.len{l:Y}{a:O aF}(g:Gr H0 H l a ys):ys.length=a.length:=by have:=g.it.length;rw[ai]at this;exact this
theorem Gr.app{l:Y}{a:O aF}{d:aF}(f:H0 l=none)(g:Gr H0 H l a ys)(s:Same H H1)(i:Is H1 (eD d) v):Gr H0 (upd H1 l (.lst (ys++[v]))) l (a++[d]) (ys++[v]):=by
 have c:ym H1 (upd H1 l (.lst (ys++[v]))):=λb h e=>by rw[upd_ne (λz=>by rw[z,s _ _ g.at']at e;cases e)];exact e
 refine⟨λb o e=>?_,ze,?_⟩
 . rw[upd_ne (λz=>by rw[z,f]at e;cases e)];exact s _ _ (g.same _ _ e)
 . rw[be];exact Zz (IsL.tups c (dS.deeds a) (g.it.mono s)) (IsL.tups c (dS.deeds [d]) (Yw i))
section
variable{K:W.Frag}
theorem Wa{l:Y}{c:O aF}(d:aF)(xs:O V)(o:H0 l=none)(g:Gr H0 H l c ys)(m:∀{G:Hp}{Q:VK},Q (.ref l) G->jh i σ G Q)(n:∀{Q:O V->Hp->Prop},Q xs H->ta σ H Q)(j:xs.length<=1000)(q:∀{G:Hp}{p:Y},G p=some (.tup xs)->Is G (eD d) (.ref p))(u:c.length<1000)(k:∀b H',Gr H0 H' l (c++[d]) b->D.nx σ H'):mx (mF K "list" bT (jh i) (jr (mz ta) Wd)) D σ H:=by show jh i σ H (λx e=>nN K "list" x e/\ta σ e λf a=>f.length<=1000/\∀p H',Same a H'->a p=none->H' p=some (.tup f)->bT x [.ref p] H' λ_ s=>D.nx σ s);refine m ⟨.inl ⟨J,_,aJ.of g.at'⟩,?_⟩;refine n ⟨j,λp e h t r=>⟨l,ys,_,J,J,h _ _ g.at',yq (by rw[g.len];omega),k _ _ (g.app o h (q r))⟩⟩
end
theorem Yi{p:Y}{b:Int}(h:H p=some (.tup [.str x,.int b])):Is H (.tup [.str x,.int b]) (.ref p):=⟨p,_,J,h,_,_,J,J,_,_,J,J,J⟩
theorem Wu{p:Y}{b k:Int}(h:H p=some (.tup [.str x,.int b,.int k])):Is H (.tup [.str x,.int b,.int k]) (.ref p):=⟨p,_,J,h,_,_,J,J,_,_,J,J,_,_,J,J,J⟩
noncomputable abbrev W7:Stmt:=bG 66
noncomputable def nh:Stmt->List Stmt|.For _ _ b _ _=>b|_=>[]
noncomputable def xT:Stmt->List Stmt|.If _ _ b _=>b|_=>[]
inductive kL(vs:List V)(H:Hp)(Q:VK)(e0:XK):Prop|mk:∀(a g odd:Bool)(way phase P:Nat),vs=[.str (aZ a g),.int (P:Int),.bl odd,.int (way:Int),.int (phase:Int)]->(a ||g)=true->P<=4->(∀v H',Same H H'->Is H' (eS (qc a g odd way phase P)) v->Q v H')->kL vs H Q e0
theorem Jw{a odd:Bool}{P:Nat}:Yz a g odd way phase (P+1)=Yz a g odd way phase P++mB a g odd way phase P:=by unfold Yz;rw[List.range_succ,List.flatMap_append];simp
theorem DR{a odd:Bool}{t:Nat}:(mB a g odd way phase t).length<=4:=by
 have b:(Y1 a g).length<=2:=by cases a<;>cases g<;>decide
 unfold mB;rw[cn,cn];split<;>split<;>split<;>simp only[dm,List.length_nil]<;>omega
theorem V2{a g odd:Bool}{way phase:Nat}:∀P,(Yz a g odd way phase P).length<=4*P|0=>ae _| P+1=>by rw[Jw,cn];have:=V2 (a:=a) (g:=g) (odd:=odd) (way:=way) (phase:=phase) P;have:=DR (a:=a) (g:=g) (odd:=odd) (way:=way) (phase:=phase) (t:=P);omega
section
variable{K:W.Frag}
theorem tj:aA ["mode","phases","odd","way","phase","deeds","turn"] ["mode","phases","odd","way","phase"] (zi W7):=.of
theorem Ao (D:bU K mg "_law_b_script" W7) (T:Txt K mg):Ok P w K mg base "_law_b_script" 1 ["mode","phases","odd","way","phase"] kL:=by
 refine vo (k:=0) D tj ?_;rintro f bb A a2 s H vs Q E hr ⟨a,g,m,d,b,v,rfl,ag,hP,kk⟩ X;have nd:=tj.nd;have p1:∃t,PS X ((nh ((y0 W7).getD 1 (.Pass ⟨0,0,0,0⟩))).getD 0 (.Pass ⟨0,0,0,0⟩)) t/\∀(D:Ends) (u:Hp) (l:Y) (B:O aF) (o:O V) (p:Nat),H l=none->Gr H u l B o->B.length<500->(∀n y,Gr H y l (B++if m && decide (d=3) && decide (p=b)then[.awa 0 1]else[]) n->D.nx [some (.str (aZ a g)),some (.int (v:Int)),some (.bl m),some (.int (d:Int)),some (.int (b:Int)),some (.ref l),some (.int (p:Int))] y)->t D [some (.str (aZ a g)),some (.int (v:Int)),some (.bl m),some (.int (d:Int)),some (.int (b:Int)),some (.ref l),some (.int (p:Int))] u:=by
  refine⟨_,yj (PW.pt (jj (yy (pv 2)) (jj (zr yz (pv 3) zg (zo _)) (jn (zr yz (pv 6) (pv 4) (zo _)))))) (zh (xn (Zd PySem.F.plainAttrs_list PySem.F.slot_list_append PySem.F.type_list_append wj (pv 5) (zc (yn (zc zx (zc zg (zc zg zd)))) zd)))) zn,λD u l B o p M G hl k=>?_⟩;cases m with
  |false=>exact⟨_,J,yd (yd (k o u (by simpa using G)))⟩
  | true=>
    refine⟨_,J,yv ⟨J,_,J,Zy (λC=>?_) (λC=>?_)⟩⟩
    . have L:d=3:=by have:=cb C;simp at this;omega
      refine⟨J,_,J,Zy (λN=>?_) (λN=>?_)⟩
      . have W:p=b:=by have:=cb N;simp at this;omega
        refine Wa (.awa 0 1) [.str "await",.int 0,.int 1] M G (λh=>h) (λh=>h) (by decide) (λh=>Wu h) (by omega) λn y g'=>k n y ?_;rw[ax L,ax W];exact g'
      . have W:¬p=b:=λz=>by rw[z]at N;simp at N
        refine k o u ?_;rw[c5 W,Bool.and_false];simpa using G
    . have L:¬d=3:=λz=>by rw[z]at C;simp at C
      refine yd (k o u ?_);rw[c5 L];simpa using G
 have p2:∃t,PS X ((nh ((y0 W7).getD 1 (.Pass ⟨0,0,0,0⟩))).getD 1 (.Pass ⟨0,0,0,0⟩)) t/\∀(D:Ends) (u:Hp) (l:Y) (B:O aF) (o:O V) (p:Nat),H l=none->Gr H u l B o->B.length<500->(∀n y,Gr H y l (B++if m && decide (d=1) && decide (p=b)then[.lea 0]else[]) n->D.nx [some (.str (aZ a g)),some (.int (v:Int)),some (.bl m),some (.int (d:Int)),some (.int (b:Int)),some (.ref l),some (.int (p:Int))] y)->t D [some (.str (aZ a g)),some (.int (v:Int)),some (.bl m),some (.int (d:Int)),some (.int (b:Int)),some (.ref l),some (.int (p:Int))] u:=by
  refine⟨_,yj (PW.pt (jj (yy (pv 2)) (jj (zr yz (pv 3) zg (zo _)) (jn (zr yz (pv 6) (pv 4) (zo _)))))) (zh (xn (Zd PySem.F.plainAttrs_list PySem.F.slot_list_append PySem.F.type_list_append wj (pv 5) (zc (yn (zc zx (zc zg zd))) zd)))) zn,λD u l B o p M G hl k=>?_⟩;cases m with
  |false=>exact⟨_,J,yd (yd (k o u (by simpa using G)))⟩
  | true=>
    refine⟨_,J,yv ⟨J,_,J,Zy (λC=>?_) (λC=>?_)⟩⟩
    . have L:d=1:=by have:=cb C;simp at this;omega
      refine⟨J,_,J,Zy (λN=>?_) (λN=>?_)⟩
      . have W:p=b:=by have:=cb N;simp at this;omega
        refine Wa (.lea 0) [.str "leave",.int 0] M G (λh=>h) (λh=>h) (by decide) (λh=>Yi h) (by omega) λn y g'=>k n y ?_;rw[ax L,ax W];exact g'
      . have W:¬p=b:=λz=>by rw[z]at N;simp at N
        refine k o u ?_;rw[c5 W,Bool.and_false];simpa using G
    . have L:¬d=1:=λz=>by rw[z]at C;simp at C
      refine yd (k o u ?_);rw[c5 L];simpa using G
 have pM:∃t,dO X (xT ((nh ((y0 W7).getD 1 (.Pass ⟨0,0,0,0⟩))).getD 2 (.Pass ⟨0,0,0,0⟩))) t/\∀(D:Ends) (u:Hp) (l:Y) (B:O aF) (o:O V) (p:Nat),H l=none->Gr H u l B o->B.length<500->(∀n y,Gr H y l (B++Y1 a g) n->D.nx [some (.str (aZ a g)),some (.int (v:Int)),some (.bl m),some (.int (d:Int)),some (.int (b:Int)),some (.ref l),some (.int (p:Int))] y)->t D [some (.str (aZ a g)),some (.int (v:Int)),some (.bl m),some (.int (d:Int)),some (.int (b:Int)),some (.ref l),some (.int (p:Int))] u:=by
  refine⟨_,zf (yj (zr Qp (pv 0) zx (zo _)) (zh (xn (Zd PySem.F.plainAttrs_list PySem.F.slot_list_append PySem.F.type_list_append wj (pv 5) (zc (yn (zc zx (zc zg zd))) zd)))) zn) (zh (yj (zr Qp (pv 0) zx (zo _)) (zh (xn (Zd PySem.F.plainAttrs_list PySem.F.slot_list_append PySem.F.type_list_append wj (pv 5) (zc (yn (zc zx (zc zg zd))) zd)))) zn)),λD u l B o p M G hl k=>?_⟩;have q1:∀x:Str,decide (V.str (aZ a g)=V.str x)=decide (aZ a g=x):=λx=>by rw[Bool.eq_iff_iff];simp
  cases a with
  | true=>
    cases g with
    | true=>refine⟨J,_,J,yv (Wa (.com 0) [.str "come",.int 0] M G (λh=>h) (λh=>h) (by decide) (λh=>Yi h) (by omega) λZ H2 g2=>⟨J,_,J,yv (Wa (.goo 0) [.str "go",.int 0] M g2 (λh=>h) (λh=>h) (by decide) (λh=>Yi h) (by simp;omega) λU H3 g3=>k U H3 (by simpa[Y1]using g3))⟩)⟩
    | false=>refine⟨J,_,J,yv (Wa (.com 0) [.str "come",.int 0] M G (λh=>h) (λh=>h) (by decide) (λh=>Yi h) (by omega) λZ H2 g2=>⟨J,_,J,yd (k Z H2 (by simpa[Y1]using g2))⟩)⟩
  | false=>
    cases g with
    | true=>refine⟨J,_,J,yd ⟨J,_,J,yv (Wa (.goo 0) [.str "go",.int 0] M G (λh=>h) (λh=>h) (by decide) (λh=>Yi h) (by omega) λU H3 g3=>k U H3 (by simpa[Y1]using g3))⟩⟩
    |false=>cases ag
 obtain ⟨tM,pM,qM⟩:=pM;have p3:∃t,PS X ((nh ((y0 W7).getD 1 (.Pass ⟨0,0,0,0⟩))).getD 2 (.Pass ⟨0,0,0,0⟩)) t/\∀(D:Ends) (u:Hp) (l:Y) (B:O aF) (o:O V) (p:Nat),H l=none->Gr H u l B o->B.length<500->(∀n y,Gr H y l (B++(if m && decide (b<=p) && (decide (d=1) ||decide (d=2))then[.wor 1]else Y1 a g)) n->D.nx [some (.str (aZ a g)),some (.int (v:Int)),some (.bl m),some (.int (d:Int)),some (.int (b:Int)),some (.ref l),some (.int (p:Int))] y)->t D [some (.str (aZ a g)),some (.int (v:Int)),some (.bl m),some (.int (d:Int)),some (.int (b:Int)),some (.ref l),some (.int (p:Int))] u:=by
  refine⟨_,yj (PW.pt (jj (yy (pv 2)) (jj (zr oH (pv 6) (pv 4) (zo _)) (jn (PW.pt (Yb (zr yz (pv 3) zg (zo _)) (jv (zr yz (pv 3) zg (zo _))))))))) (zh (xn (Zd PySem.F.plainAttrs_list PySem.F.slot_list_append PySem.F.type_list_append wj (pv 5) (zc (yn (zc zx (zc zg zd))) zd)))) pM,λD u l B o p M G hl k=>?_⟩;have ah:∀{c:Bool},c=false->(∀n y,Gr H y l (B++if c then[.wor 1]else Y1 a g) n->D.nx [some (.str (aZ a g)),some (.int (v:Int)),some (.bl m),some (.int (d:Int)),some (.int (b:Int)),some (.ref l),some (.int (p:Int))] y)->tM D [some (.str (aZ a g)),some (.int (v:Int)),some (.bl m),some (.int (d:Int)),some (.int (b:Int)),some (.ref l),some (.int (p:Int))] u:=λ{c} hc k=>by subst hc;exact qM D u l B o p M G hl k
  have ao:∀{c:Bool},c=true->(∀n y,Gr H y l (B++if c then[.wor 1]else Y1 a g) n->D.nx [some (.str (aZ a g)),some (.int (v:Int)),some (.bl m),some (.int (d:Int)),some (.int (b:Int)),some (.ref l),some (.int (p:Int))] y)->mx (mF K "list" bT (jh 5) (jr (mz (jr (tC (.str "work")) (jr (tC (.int 1)) Wd))) Wd)) D [some (.str (aZ a g)),some (.int (v:Int)),some (.bl m),some (.int (d:Int)),some (.int (b:Int)),some (.ref l),some (.int (p:Int))] u:=λ{c} hc k=>by subst hc;exact Wa (.wor 1) [.str "work",.int 1] M G (λh=>h) (λh=>h) (by decide) (λh=>Yi h) (by omega) k
  cases m with
  |false=>exact⟨_,J,yd (yd (ah J k))⟩
  | true=>
    refine⟨_,J,yv ⟨_,_,J,J,_,J,Zy (λC=>?_) (λC=>?_)⟩⟩
    . have L:b<=p:=by have:=cb C;omega
      refine⟨J,_,J,Zy (λN=>?_) (λN=>?_)⟩
      . have W:d=1:=by have:=cb N;simp at this;omega
        exact yv (ao (by rw[ax L,ax W];rfl) k)
      . have W:¬d=1:=λz=>by rw[z]at N;simp at N
        refine⟨J,_,J,Zy (λc3=>?_) (λc3=>?_)⟩
        . have e3:d=2:=by have:=cb c3;simp at this;omega
          exact ao (by rw[ax L,ax e3];simp) k
        . have e3:¬d=2:=λz=>by rw[z]at c3;simp at c3
          exact ah (by rw[c5 W,c5 e3];simp) k
    . have L:¬b<=p:=λz=>by rw[ax (show(p:Int)≥(b:Int) by omega)]at C;exact C J
      exact yd (ah (by rw[c5 L];simp) k)
 obtain⟨t1,p1,q1⟩:=p1;obtain⟨t2,p2,q2⟩:=p2;obtain⟨t3,p3,q3⟩:=p3;refine⟨_,zf (zv (i:=5) nd (vm zd)) (zf (wy PassesOwn.never J (wg J T.range (zc (pv 1) zd)) (zu (i:=6) nd) (zf p1 (zf p2 (zh p3)))) (zf (yj (PW.pt (jj (yy (pv 2)) (jn (zr yz (pv 3) zg (zo _))))) (zh (rT (i:=5) (own:=["deed"]) (cap:=[]) J (xo (zi W7) J J (by decide+kernel) (by decide+kernel) (by decide+kernel) trivial) (Yu (pv 5)) (λ_ _ _ _=>zu (i:=0) (by show(["deed"]:O Str).Nodup;decide+kernel)) (λ_ _ _ _=>Vk (zr Qp (ta:=kD (eL K) (jh 0) (tC (.int 0))) (zm zk (pv 0) zg) zx (zo _))) (λ_ _ _ _=>pv 0) nd J J (by with_unfolding_all rfl))) zn)
  (zh (zp (xk ve J T.tuple v4 (zc (pv 5) zd)))))),?_⟩
 refine⟨by show 0<=1000;decide,λl H0 s0 M g0=>?_⟩;have aw:Gr H H0 l (Yz a g m d b 0) []:=⟨s0,g0,J⟩
 refine⟨_,J,by omega,by omega,?_⟩;refine Zh (lo:=0) (n:=(v:Int).toNat) (λj σ y=>∃o x6,Gr H y l (Yz a g m d b j) o/\σ=[some (.str (aZ a g)),some (.int (v:Int)),some (.bl m),some (.int (d:Int)),some (.int (b:Int)),some (.ref l),x6]) ⟨[],none,aw,J⟩ ?_ ?_
 . rintro j σ u hj ⟨o,x6,R,rfl⟩;have hj:j<v:=by rw[bz]at hj;exact hj
   have hl:=V2 (a:=a) (g:=g) (odd:=m) (way:=d) (phase:=b) j;rw[show(0:Int)+(j:Int)=(j:Int)from ee _];refine q1 _ u l _ o j M R (by omega) λay H2 g1=>q2 _ H2 l _ ay j M g1 (by rw[cn];split<;>simp only[dm,List.length_nil]<;>omega) λZ H3 g2=>q3 _ H3 l _ Z j M g2 (by rw[cn,cn];split<;>split<;>simp only[dm,List.length_nil]<;>omega) λU H4 g3=>⟨U,_,?_,J⟩
   rw[Jw];unfold mB;rw[<-List.append_assoc,<-List.append_assoc];exact g3
 . rintro σ u ⟨o,x6,R,rfl⟩;rw[show((v:Int)).toNat=v from bz v]at R;have hl:=V2 (a:=a) (g:=g) (odd:=m) (way:=d) (phase:=b) v;have plain:qc a g m d b v=Yz a g m d b v->∀{l2:Y},u l2=none->Q (.ref l2) (upd u l2 (.tup o)):=λe l2 F=>by refine kk _ _ (R.same.trans (Same.new F (.tup o))) ⟨l2,o,J,ze,?_⟩;rw[e];exact R.it.mono (Same.new F (.tup o))
   cases m with
   |false=>exact⟨_,J,yd (yd ⟨l,o,J,.inl ⟨aJ.of R.at',λl2 F=>plain J F⟩⟩)⟩
   | true =>
     refine⟨_,J,yv ⟨J,_,J,Zy (λC=>?_) (λC=>?_)⟩⟩
     . have L:d=2:=by have:=cb C;simp at this;omega
       refine⟨l,J,⟨_,aJ.of R.at'⟩,?_⟩;refine pQ (xs:=o) (λi S y=>Same u y/\IsL y ((((Yz a g true d b v).take i).filter iD).map eD) S) ⟨Same.refl _,J⟩ (λi S y hi ⟨s2,iz⟩=>⟨aJ.of (s2 _ _ R.at'),?_⟩) ?_ ?_
       . have q:=iz.length;rw[ai]at q;have q2:=f6 iD ((Yz a g true d b v).take i);have q3:((Yz a g true d b v).take i).length=min i (Yz a g true d b v).length:=List.length_take;exact vp (by omega)
       . rintro i x S H2 hx ⟨s2,iz⟩;obtain⟨tt,av,ix⟩:=R.it.get' hx;rw[bc]at av;obtain⟨dd,a8,rfl⟩:=cu.mp av;have ap:=ix.mono s2;obtain⟨r,a6⟩:=Zi dd;obtain⟨a5,aS,u5,rfl,a1,ba,a3⟩:=Is.at (K:=K) (i:=0) (t:=.str (dw dd)) (a6▸ap) J;cases(show u5=.str (dw dd)from a3);have et:((Yz a g true d b v).take (i+1)).filter iD=((Yz a g true d b v).take i).filter iD++if iD dd then[dd]else[]:=by rw[cy,a8,List.filter_append,Option.toList_some,List.filter_cons,List.filter_nil]
         refine⟨a5,aS,_,_,J,J,a1,ba,J,_,J,?_⟩;have en:(!decide (V.str (dw dd)=V.str "work"))=iD dd:=by cases dd<;>rfl
         rw[en,et];cases c:iD dd with
         |true=>exact yv ⟨s2,by rw[if_pos J,be];exact Zz iz (Yw ap)⟩
         |false=>exact yd ⟨s2,by rw[if_neg (by decide),eh];exact iz⟩
       rintro S H2 ⟨s2,iz⟩ l3 a7;have yl:=R.len;rw[yl,fe]at iz;have s3:=Same.new a7 (.lst S);have g3:upd H2 l3 (.lst S) l3=some (.lst S):=ze;generalize upd H2 l3 (.lst S)=H3 at s3 g3⊢;refine⟨l3,S,J,.inl ⟨aJ.of g3,λl2 F=>?_⟩⟩;have s4:=Same.new F (.tup S);refine kk _ _ (R.same.trans (s2.trans (s3.trans s4))) ⟨l2,S,J,ze,?_⟩;rw[show qc a g true d b v=(Yz a g true d b v).filter iD by unfold qc;rw[ax L];rfl];exact iz.mono (s3.trans s4)
     . have L:¬d=2:=λz=>by rw[z]at C;simp at C
       exact⟨l,o,J,.inl ⟨aJ.of R.at',λl2 F=>plain (by unfold qc;rw[c5 L];rfl) F⟩⟩
end
noncomputable abbrev Yr:Stmt:=bG 67
noncomputable def cI(m:Nat)(B:Bool)(k:Nat):Nat:=if B then m-1-k else k
noncomputable def f0(k:Nat):Nat:=if 0<k then 1 else 0
theorem Ai:([2,3].all λm=>[true,false].all λdn=>(List.range m).all λj=>decide (cI m dn j<m) && decide (cY m dn (cI m dn j)=cI m dn ((j+1)%m)) && decide (fR m dn (cI m dn j)=f0 j) && decide (cI m dn (cI m dn j)=j))=true:=by decide+kernel
theorem ny(h:m=2\/m=3)(a:Bool){j:Nat}(e:j<m):cI m a j<m/\cY m a (cI m a j)=cI m a ((j+1)%m)/\fR m a (cI m a j)=f0 j/\cI m a (cI m a j)=j:=by have q:=Ai;rw[df]at q;have d:=q m (by rcases h with rfl|rfl<;>simp);rw[df]at d;have c:=d a (by cases a<;>simp);rw[df]at c;have b:=c j (bp.mpr e);simp only[ca,decide_eq_true_eq]at b;exact⟨b.1.1.1,b.1.1.2,b.1.2,b.2⟩
noncomputable def ml(m:Nat)(B:Bool):List V:=(List.range m).map λ(k:Nat)=>V.int (cI m B k:Int)
theorem pA{k:Nat}(a:k<m):cN (ml m dn) ((k:Nat):Int)=some (.int (cI m dn k:Int)):=y4 (by unfold ml;rw[bc,List.getElem?_range a];rfl)
theorem Bl(h:m=2\/m=3):(((List.range m).map λ(i:Nat)=>V.int (i:Int)).reverse)=ml m true:=by rcases h with rfl|rfl<;>rfl
inductive kM(vs:List V)(H:Hp)(Q:VK)(e0:XK):Prop|mk:∀(m R:Nat)(dn:Bool),vs=[.int (m:Int),.int (R:Int),.bl dn]->(m=2\/m=3)->R<=40->(∀v H',Same H H'->Is H' (eH (Jh m dn R)) v->Q v H')->kM vs H Q e0
section
variable{K:W.Frag}
theorem so{l:Y}{b:O aF}(d:aF)(xs:O V)(h:H0 l=none)(g:Gr H0 H l b ys)(e:∀{G:Hp}{Q:VK},Q (.ref l) G->jh i σ G Q)(f:∀{Q:O V->Hp->Prop},Q xs H->ta σ H Q)(c:xs.length<=1000)(m:∀{G:Hp}{p:Y},G p=some (.tup xs)->Is G (eD d) (.ref p))(j:b.length<1000)(k:∀a H',Gr H0 H' l (b++[d]) a->D.nx σ H'):(D.sq (mx (mF K "list" bT (jh i) (jr (mz ta) Wd)))).nx σ H:=Wa d xs h g e f c m j k
theorem BQ:bootBuiltins "range"=some (.type "range"):=by decide+kernel
theorem vO:aA ["many","rounds","down","order","rows","place","deeds","turn"] ["many","rounds","down"] (zi Yr):=.of
theorem Cg (D:bU K mg "_law_b_rally" Yr) (T:Txt K mg):Ok P w K mg base "_law_b_rally" 1 ["many","rounds","down"] kM:=by
 refine vo (k:=0) D vO ?_;rintro f bb A ay s H vs Q E hr ⟨m,R,a,rfl,hm,hR,kk⟩ X;have nd:=vO.nd;have hu:=jy hr;have m3:m<=3/\2<=m:=by rcases hm with rfl|rfl<;>decide
 have U:∀k:Nat,(if decide ((k:Int)>0)=true then(1:Int)else 0)=(f0 k:Int):=λk=>by
  unfold f0;by_cases e:0<k
  . rw[if_pos e,if_pos (ax (by omega))];rfl
  . rw[if_neg e,if_neg (by rw[decide_eq_true_eq];omega)];rfl
 have pR:∃t,dO X ((y0 Yr).drop 2) t/\∀(G:Hp) (N:Addr),Same H G->G N=some (.lst (ml m a))->t (.of Q) [some (.int (m:Int)),some (.int (R:Int)),some (.bl a),some (.ref N),none,none,none,none] G:=by
  refine⟨_,zf (zv (i:=4) nd Xz) (zf (wy PassesOwn.never J (wg J T.range (zc (pv 0) zd)) (zu (i:=5) nd) (zf (zv (i:=6) nd (vm zd)) (zf (wy PassesOwn.never J (wg J T.range (zc (pv 1) zd)) (zu (i:=7) nd) (zf (yj (zr mv (yt we (pv 7) (xk Km J T.int pf (zc (xj mv (pv 5) zg (zo _)) zd))) zg (zo _)) (zh (xn (Zd PySem.F.plainAttrs_list PySem.F.slot_list_append PySem.F.type_list_append wj (pv 6) (zc (yn (zc zx (zc (zm yu (pv 3) (pv 5)) (zc (yt we (pv 7) (xk Km J T.int pf (zc (xj mv (pv 5) zg (zo _)) zd))) zd)))) zd)))) zn)
    (zh (xn (Zd PySem.F.plainAttrs_list PySem.F.slot_list_append PySem.F.type_list_append wj (pv 6) (zc (yn (zc zx (zc (zm yu (pv 3) (yt Yd (yt we (pv 5) zg) (pv 0))) (zc zg zd)))) zd))))))
   (zh (vj hu (pv 4) (zm yu (pv 3) (pv 5)) (xk ve J T.tuple v4 (zc (pv 6) zd)) J)))))
  (zh (zp (yn (zc (pv 0) (zc zg (zc (xk ve J T.tuple v4 (zc (qf (own:=["i"]) (cap:=[]) J (xo (zi Yr) J J (by decide+kernel) (by decide+kernel) (by decide+kernel) trivial) (wg J T.range (zc (pv 0) zd)) (λ_ _ _ _=>zu (i:=0) (by show(["i"]:List Str).Nodup;decide+kernel)) (λ_ _ _ _=>wb) (λ_ _ _ _=>yn (zc (pv 0) (zc (yn zd) zd)))) zd)) (zc (xk ve J T.tuple v4 (zc (qf (own:=["i"]) (cap:=[4]) J (xo (zi Yr) J J (by decide+kernel) (by decide+kernel) (by decide+kernel) ⟨⟨_,J,.inl J,qw J⟩,trivial⟩) (wg J T.range (zc (pv 0) zd)) (λ_ _ _ _=>zu (i:=0) (by show(["i","rows"]:List Str).Nodup;decide+kernel)) (λ_ _ _ _=>wb) (λ_ _ _ _=>vx hu (pv 1) (pv 0))) zd)) zd)))))))),λG N sG a6=>?_⟩
  intro d hd;have sd:=Same.new hd (.dK []);have gd:upd G d (.dK []) d=some (.dK []):=ze;generalize upd G d (.dK [])=H0 at sd gd⊢;refine⟨_,J,by omega,by omega,?_⟩;refine Zh (lo:=0) (n:=(m:Int).toNat) (λk W B=>∃x5 x6 x7 y,W=[some (.int (m:Int)),some (.int (R:Int)),some (.bl a),some (.ref N),some (.ref d),x5,x6,x7]/\Same G B/\B d=some (.dK y)/\y.length<=k/\∀j,j<k->∃v,y9 y (Sum.inl (cI m a j:Int):aI)=some v/\Is B (eS (dW (cI m a j) (cI m a ((j+1)%m)) (f0 j) R)) v)
   ⟨none,none,none,[],J,sd,gd,bo _,λj F=>absurd F (fc _)⟩ ?_ ?_
  . rintro k W H1 hk ⟨x5,x6,x7,y,rfl,sH,ah,av,n⟩;have hk:k<m:=by rw[bz]at hk;exact hk
    rw[show(0:Int)+(k:Int)=(k:Int)from ee _];refine⟨by show 0<=1000;decide,λl H2 s2 hl g2=>?_⟩;refine⟨_,J,by omega,by omega,?_⟩;have u:=sH _ _ a6;refine Zh (lo:=0) (n:=(R:Int).toNat) (λt W B=>∃x7 g,W=[some (.int (m:Int)),some (.int (R:Int)),some (.bl a),some (.ref N),some (.ref d),some (.int (k:Int)),some (.ref l),x7]/\Gr H1 B l (dW (cI m a k) (cI m a ((k+1)%m)) (f0 k) t) g) ⟨x7,[],J,⟨s2,g2,J⟩⟩ ?_ ?_
    . rintro t W H3 ht ⟨x7,g,rfl,M⟩;have ht:t<R:=by rw[bz]at ht;exact ht
      rw[show(0:Int)+(t:Int)=(t:Int)from ee _];have a7:=K9 (i:=cI m a k) (nx:=cI m a ((k+1)%m)) (f:=f0 k) t;have ap:((k:Int)+1)%(m:Int)=(((k+1)%m:Nat):Int):=by rw[Int.natCast_emod];rfl
      have ly:cN (ml m a) (((k:Int)+1)%(m:Int))=some (.int (cI m a ((k+1)%m):Int)):=by rw[ap];exact pA (Nat.mod_lt _ (by omega))
      refine⟨_,_,J,J,.inr ⟨_,J,_,_,J,J,_,_,J,J,_,J,?_⟩⟩;rw[U k];refine Zy (λc=>?_) (λc=>?_)
      . have e:0<t+f0 k:=by have:=cb c;omega
        refine Wa (.awa (cI m a k:Int) ((t:Int)+(f0 k:Int))) [.str "await",.int (cI m a k:Int),.int ((t:Int)+(f0 k:Int))] hl M (λh=>h) (λh=>⟨N,_,_,_,J,J,aJ.of (M.same _ _ u),pA hk,_,_,J,J,.inr ⟨_,J,_,_,J,J,by rw[U k];exact h⟩⟩) aY (λh=>Wu h) (by omega) λa8 H4 L=>?_;refine so (.rai (cI m a ((k+1)%m):Int) 1) [.str "raise",.int (cI m a ((k+1)%m):Int),.int 1] hl L (λh=>h) (λh=>⟨_,_,J,J,_,_,J,J,(by show(0:Int)<(m:Int);omega),N,_,_,_,J,J,aJ.of (L.same _ _ u),ly,h⟩) aY (λh=>Wu h) (by rw[cn];simp only[dm,List.length_nil];omega) λZ H5 g5=>⟨_,Z,J,?_⟩
        rw[Xr];unfold gO;rw[if_pos e,<-List.append_assoc];exact g5
      . have e:¬0<t+f0 k:=λz=>by rw[ax (show((t:Int)+(f0 k:Int))>0 by omega)]at c;exact c J
        refine so (.rai (cI m a ((k+1)%m):Int) 1) [.str "raise",.int (cI m a ((k+1)%m):Int),.int 1] hl M (λh=>h) (λh=>⟨_,_,J,J,_,_,J,J,(by show(0:Int)<(m:Int);omega),N,_,_,_,J,J,aJ.of (M.same _ _ u),ly,h⟩) aY (λh=>Wu h) (by omega) λZ H5 g5=>⟨_,Z,J,?_⟩
        rw[Xr];unfold gO;rw[if_neg e,List.nil_append];exact g5
    . rintro W H3 ⟨ba,g,rfl,M⟩;rw[show((R:Int)).toNat=R from bz R]at M;refine⟨l,g,J,.inl ⟨aJ.of M.at',λl2 a5=>?_⟩⟩;have C:=Same.new a5 (.tup g);have L:upd H3 l2 (.tup g) l2=some (.tup g):=ze;generalize upd H3 l2 (.tup g)=H4 at C L⊢;have r:=M.same.trans C;have aw:=r _ _ ah;refine⟨N,_,_,_,J,J,aJ.of (r _ _ u),pA hk,d,_,J,Zl.k (k:=(Sum.inl (cI m a k:Int):aI)) aw (yq (by omega)),?_⟩;have tp:∀{o:HO},ym H4 (upd H4 d o):=λ{o}=>ym.upd aw (λ_ z=>by cases z);refine⟨_,_,_,_,J,λb o e=>by rw[upd_ne (zj e hd)];exact r _ _ (sH _ _ e),ze,?_,λj F=>?_⟩
      . have:=xt y (Sum.inl (cI m a k:Int):aI) (.ref l2);omega
      rw[ku];by_cases ej:j=k
      . subst ej;exact⟨_,if_pos J,Is.tups tp (Z0 _) ⟨l2,g,J,L,M.it.mono C⟩⟩
      . obtain⟨v,h1,h2⟩:=n j (by omega);refine⟨v,?_,Is.tups tp (Z0 _) (h2.mono r)⟩;rw[if_neg ?_]
        . exact h1
        . intro z;have z:=Sum.inl.inj z;have e1:=(ny hm a (show j<m by omega)).2.2.2;have e2:=(ny hm a hk).2.2.2;have:cI m a j=cI m a k:=by omega
          rw[this]at e1;omega
  . rintro W H1 ⟨x5,x6,x7,y,rfl,sH,ah,av,n⟩;rw[show((m:Int)).toNat=m from bz m]at n av;refine⟨_,J,by omega,by omega,?_⟩;refine jx (lo:=0) (n:=(m:Int).toNat) (λj g B=>Same H1 B/\IsL B (((List.range j).map λ(i:Nat)=>((i,[]):j6)).map eC) g) ⟨Same.refl H1,J⟩ (λj g B F ⟨_,S⟩=>?_) ?_ ?_
    . have q:=S.length;rw[ai,ai,c8]at q;exact vp (by omega)
    . rintro j g H2 F ⟨s2,S⟩;rw[show(0:Int)+(j:Int)=(j:Int)from ee _];refine Q2 ⟨by show 0<=1000;decide,λp1 H3 s3 n3 g3=>⟨by show 2<=1000;decide,λp2 H4 C n4 L=>⟨s2.trans (s3.trans C),?_⟩⟩⟩;rw[List.range_succ,be,be];exact Zz (S.mono (s3.trans C)) (Yw ⟨p2,_,J,L,_,_,J,J,_,_,J,⟨p1,[],J,C _ _ g3,J⟩,J⟩)
    rintro g H2 ⟨s2,S⟩ l hl;rw[show((m:Int)).toNat=m from bz m]at S;have s3:=Same.new hl (.lst g);have g3:upd H2 l (.lst g) l=some (.lst g):=ze;generalize upd H2 l (.lst g)=H3 at s3 g3⊢;refine⟨l,g,J,.inl ⟨aJ.of g3,λq1 a1=>?_⟩⟩;have C:=Same.new a1 (.tup g);have L:upd H3 q1 (.tup g) q1=some (.tup g):=ze;generalize upd H3 q1 (.tup g)=H4 at C L⊢;have r:=s2.trans (s3.trans C);refine⟨_,J,by omega,by omega,?_⟩;refine jx (lo:=0) (n:=(m:Int).toNat) (λj x B=>Same H4 B/\IsL B (((List.range j).map λ(i:Nat)=>dW i (cY m a i) (fR m a i) R).map eS) x) ⟨Same.refl H4,J⟩ (λj g B F ⟨_,S⟩=>?_) ?_ ?_
    . have q:=S.length;rw[ai,ai,c8]at q;exact vp (by omega)
    . rintro j x H5 F ⟨s5,iy⟩;have F:j<m:=by rw[bz]at F;exact F
      rw[show(0:Int)+(j:Int)=(j:Int)from ee _];obtain⟨o1,_,_,o4⟩:=ny hm a F;obtain⟨_,o5,o6,_⟩:=ny hm a o1;obtain⟨v,h1,h2⟩:=n _ o1;rw[o4]at h1 h2 o5 o6;have h5:=h2.mono (r.trans s5);refine Q2 ⟨d,_,J,h1▸DGet.k (k:=(Sum.inl (j:Int):aI)) ((r.trans s5) _ _ ah),s5,?_⟩;rw[List.range_succ,be,be];refine Zz iy (Yw ?_);show Is H5 (eS (dW j (cY m a j) (fR m a j) R)) v;rw[o5,o6];exact h5
    rintro x H5 ⟨s5,iy⟩ l5 a3;rw[show((m:Int)).toNat=m from bz m]at iy;have s6:=Same.new a3 (.lst x);have g6:upd H5 l5 (.lst x) l5=some (.lst x):=ze;generalize upd H5 l5 (.lst x)=H6 at s6 g6⊢;refine⟨l5,x,J,.inl ⟨aJ.of g6,λq2 aS=>?_⟩⟩;have s7:=Same.new aS (.tup x);have g7:upd H6 q2 (.tup x) q2=some (.tup x):=ze;generalize upd H6 q2 (.tup x)=H7 at s7 g7⊢;refine⟨by show 4<=1000;decide,λp8 H8 s8 n8 g8=>?_⟩;have ag:=s5.trans (s6.trans (s7.trans s8));refine kk _ _ (sG.trans (sH.trans (r.trans ag))) ⟨p8,_,J,g8,_,_,J,J,_,_,J,J,_,_,J,⟨q1,g,J,ag _ _ L,S.mono ((s3.trans C).trans ag)⟩,_,_,J,⟨q2,x,J,s8 _ _ g7,iy.mono (s6.trans (s7.trans s8))⟩,J⟩
 obtain⟨tR,pR,qR⟩:=pR;refine⟨_,zf (zv (i:=3) nd (xk (Jr J) J T.list X9 (zc (xk CJ J T.range BQ (zc (pv 0) zd)) zd))) (zf (yj (yy (pv 2)) (zh (zv (i:=3) nd (At (pv 3)))) zn) pR),?_⟩
 refine⟨(m:Int),J,λp hp=>⟨p,m,J,ze,by omega,λl hl=>?_⟩⟩;have s1:=(Same.new hp (.rng 0 (m:Int))).trans (Same.new hl (.lst ((List.range m).map λ(i:Nat)=>V.int (i:Int))));have g1:upd (upd H p (.rng 0 (m:Int))) l (.lst ((List.range m).map λ(i:Nat)=>V.int (i:Int))) l=some (.lst ((List.range m).map λ(i:Nat)=>V.int (i:Int))):=ze;generalize upd (upd H p (.rng 0 (m:Int))) l (.lst ((List.range m).map λ(i:Nat)=>V.int (i:Int)))=H1 at s1 g1⊢;cases a with|false=>exact⟨_,J,yd (qR H1 l s1 g1)⟩| true=>refine⟨_,J,yv ⟨l,_,J,aJ.of g1,λp3 a2=>?_⟩⟩;rw[Bl hm];exact qR _ p3 (s1.trans (Same.new a2 _)) ze
end
noncomputable abbrev V8:Stmt:=bG 68
theorem uF(f:Nat->Nat):∀n,((List.range n).map λj=>(f j:Int)).sum=((Z6 f n:Nat):Int)|0=>rfl| n+1=>by unfold Z6;rw[List.range_succ,be,List.sum_append,be,List.sum_append,uF f n];simp[Z6]
theorem EG{f g:Nat->Nat}{n:Nat}(h:∀i,i<n->f i=g i):Z6 f n=Z6 g n:=by unfold Z6;congr 1;exact List.map_congr_left λj a=>h j (bp.mp a)
theorem vI{f:Bool->Bool}{Q:VK}{b:Y}{n:Nat}{c F:Nat->Nat}(j:H a=some (.dT (yc kN n λi=>.int (c i:Int))))(h:H b=some (.dT (yc kN n λi=>.int (F i:Int))))(e:∀i,i<n->c i=F i)(q:Q (.bl (f true)) H):nR f (.ref a) (.ref b) H Q:=by
 refine⟨a,b,_,_,J,J,.inl j,.inl h,λ_ p g=>?_,?_⟩
 . obtain⟨i,d,rfl⟩:=ci.mp g;have d:=bp.mp d;exact⟨.int (c i:Int),.int (F i:Int),J,(Yo qp).trans (if_pos d),by rw[e i d];rfl,by simp[aN,PyData.canLay0],by simp[aN,PyData.depth]⟩
 . rw[xw,xw,beq_self_eq_true];exact q
theorem sk{a:aC}{n:Nat}{c:Nat->Nat}(b:(aD a).n=n)(h:∀i,i<n->c i=((aD a).S i).length):allB a c=true:=by unfold allB;rw[df];intro i d;exact ax (h i (by rw[<-b];exact bp.mp d))
theorem rp{a:aC}{n:Nat}{c F:Nat->Nat}(b:(aD a).n=n)(C:jY (aD a) ws c)(h:∀i,i<n->c i=F i):((ws.length:Nat):Int)=((List.range n).map λj=>(F j:Int)).sum:=by rw[uF,C.1.len,b,EG h]
inductive kO(K:W.Frag)(vs:List V)(H:Hp)(Q:VK)(e0:XK):Prop|mk:∀(a s:Addr)(ns:List Int),vs=[.ref a]->dX K H a s ns->(∀H',bS a H H'->dX K H' a s ns->Q (.bl true) H')->kO K vs H Q e0
section
variable{K:W.Frag}
theorem Jy:aA ["tape","house","full","i","told"] ["tape"] (zi V8):=.of
theorem Dl(D:bU K mg "_law_b_rally_right" V8)(T:Txt K mg)(oD:Ok P w K mg base "_law_b_digit" 2 ["tape","many"] (iQ K))(oR:Ok P w K mg base "_law_b_rally" 1 ["many","rounds","down"] kM)(oE:Ok P w K mg base "end" 27 ["house"] iN)(oP:Ok P w K mg base "played" 28 ["house","weaving"] iI):Ok P w K mg base "_law_b_rally_right" 29 ["tape"] (kO K):=by
 refine vo (k:=28) D Jy ?_;rintro f bC A a1 sh H vs Q E B ⟨a,s,ns,rfl,hT,kk⟩ X;have nd:=Jy.nd;have hu:=jy B;refine⟨_,zf (zv (i:=1) nd (ye oR (B.mono (by decide)) (zc (yt we zg (ye oD (B.mono (by decide)) (zc (pv 0) (zc zg zd)))) (zc (yt we zg (ye oD (B.mono (by decide)) (zc (pv 0) (zc zg zd)))) (zc (xj yz (ye oD (B.mono (by decide)) (zc (pv 0) (zc zg zd))) zg (zo _)) zd))))) (zf (zv (i:=2) nd Zc) (zf (wy PassesOwn.never J (wg J T.range (zc (yf yh (by rfl) T.len wu (zc (zm zk (pv 1) zg) zd)) zd)) (zu (i:=3) nd) (zh (vj hu (pv 2) (yn (zc (pv 3) zd)) (yf yh (by rfl) T.len wu (zc (zm zk (zm zk (pv 1) zg) (pv 3)) zd)) J)))
  (zf (zv (i:=4) nd (ye oE (B.mono (by decide)) (zc (pv 1) zd))) (zh (zp (wr (xj yz (zm zk (pv 4) zg) zx (zo _)) (wr (xj yz (yf yh (by rfl) T.len wu (zc (zm zk (pv 4) zg) zd)) (yf (Kk J) J T.sum nL (zc (vF (pv 2)) zd)) (zo _)) (vg (xj (Vn (by exact B.units)) (ye oP B (zc (pv 1) (zc (zm zk (pv 4) zg) zd))) (pv 2) (zo _)))))))))),?_⟩
 refine⟨a,s,ns,2,J,hT,by decide,by decide,λd1 H1 p1 q1 b1 T1=>?_⟩;obtain⟨g,rfl⟩:=Int.eq_ofNat_of_zero_le p1;refine⟨_,_,J,J,a,s,ns,40,J,T1,by decide,by decide,λd2 H2 p2 q2 b2 T2=>?_⟩;obtain⟨x,rfl⟩:=Int.eq_ofNat_of_zero_le p2;refine⟨_,_,J,J,a,s,ns,2,J,T2,by decide,by decide,λd3 H3 p3 q3 b3 T3=>⟨J,?_⟩⟩;generalize decide (V.int d3=V.int 0)=h;have bt:=b1.trans (b2.trans b3);have D0:RD (2+g) h (1+x):=⟨by omega,by omega⟩
 refine⟨2+g,1+x,h,J,D0.m23,D0.R40,λv H4 s4 Z=>?_⟩;have T4:=T3.same s4;have FL:=D0.fl;have hn:(aD (Jh (2+g) h (1+x))).n=2+g:=iB;have hS:∀i,i<2+g->(aD (Jh (2+g) h (1+x))).S i=dW i (cY (2+g) h i) (fR (2+g) h i) (1+x):=λi t=>lO t;have q:(Jh (2+g) h (1+x)).ss=(List.range (2+g)).map λi=>dW i (cY (2+g) h i) (fR (2+g) h i) (1+x):=rfl;have F:∀{U c},jY (aD (Jh (2+g) h (1+x))) U c->∀i,i<2+g->c i=(dW i (cY (2+g) h i) (fR (2+g) h i) (1+x)).length:=λC i t=>D0.ends C t;have m3:2+g<=3:=by omega
 generalize Jh (2+g) h (1+x)=hs at Z FL hn hS q F;generalize 2+g=m at hn hS q F m3;generalize hF:(λi=>dW i (cY m h i) (fR m h i) (1+x))=Fs at q;have bl:∀i,i<m->(aD hs).S i=Fs i:=λi t=>by rw[hS i t,<-hF]
 have ap:∀{U c},jY (aD hs) U c->∀i,i<m->c i=(Fs i).length:=λC i t=>by rw[F C i t,<-hF]
 intro d hd;have sd:=Same.new hd (.dT []);have gd:upd H4 d (.dT []) d=some (.dT []):=ze;generalize upd H4 d (.dT [])=H5 at sd gd⊢;obtain⟨ah,xs,us,rfl,sq,ea,a5⟩:=Is.at (K:=K) (i:=3) (Z.mono sd) J;obtain⟨as,S,rfl,bj,bb⟩:=a5;have r:=bb.length;rw[ai,q,ai,c8]at r;refine⟨ah,xs,_,_,J,J,sq,ea,as,S,J,.inr (aH.of bj),_,J,by omega,by omega,?_⟩;refine Zh (lo:=0) (n:=((S.length:Nat):Int).toNat) (λk σ H'=>∃x3,σ=[some (.ref a),some (.ref ah),some (.ref d),x3,none]/\Same H4 H'/\H' d=some (.dT (yc kN k λj=>.int ((Fs j).length:Int)))) ⟨none,J,sd,gd⟩ ?_ ?_
 . rintro k σ H6 hk ⟨x3,rfl,N,p⟩;have hk:k<m:=by rw[bz,r]at hk;exact hk
   rw[show(0:Int)+(k:Int)=(k:Int)from ee _];obtain⟨bD,ay,bx,bq,aS,bn,ag⟩:=Is.at (K:=K) (i:=3) (Z.mono N) J;cases bq;obtain⟨bw,R,rfl,av,ao⟩:=ag;obtain⟨u,a7,a6⟩:=ao.get (i:=k) (t:=eS (Fs k)) (by rw[bc,q,bc,List.getElem?_range hk];rfl);obtain⟨a8,x8,rfl,bk,bd⟩:=a6;have l8:=bd.length;rw[ai]at l8;refine⟨ah,ay,_,_,J,J,aS,bn,bw,R,_,_,J,J,aH.of av,y4 a7,a8,x8,J,.inr (aH.of bk),by show 1<=1000;decide,λp7 H7 y n7 g7=>?_⟩;have bg:=y _ _ p;refine⟨d,_,J,Zl.t (k:=kN k) bg (g7.trans (by show _=some (HO.tup ((kI [(k:Int)]).map kV));rw[Z2];rfl)) (by rw[xw];exact yq (by omega)),⟨_,J,λb o e=>by rw[upd_ne (zj e hd)];exact y _ _ (N _ _ e),ze.trans ?_⟩⟩;rw[Zm qp,l8];congr 2;refine Zb λi t=>?_;by_cases e:i=k
   . rw[if_pos e,e]
   . rw[if_neg e]
 . rintro σ H6 ⟨x3,rfl,N,p⟩;rw[bz,r]at p;refine⟨_,hs,J,Z.mono N,FL,λL l U c H7 y C LA aw _=>?_⟩;have hc:=ap C;have ha:=aw (sk hn λi t=>by rw[hc i t,bl i t]);obtain⟨zs,a3,a2⟩:=id LA;have zl:=a2.length;rw[ai]at zl;refine⟨L,_,_,_,J,J,aH.of ha,J,J,_,J,yv ?_⟩;refine⟨L,_,_,_,J,J,aH.of ha,J,l,zs,J,.inl (aJ.of a3),d,_,J,y _ _ p,λv8 H8 M n8 g8=>?_⟩;have z:=rp hn C hc;have bB:=cj C.1.most (Kv FL.hw);refine⟨v8,d,_,(List.range m).map λj=>((Fs j).length:Int),J,g8,M _ _ (y _ _ p),by unfold yc;rw[c7,c7];rfl,λn ba=>?_,?_,J,_,J,?_⟩
   . obtain⟨j,_,rfl⟩:=ci.mp ba;exact Int.natCast_nonneg _
   . rw[<-z];omega
   rw[<-z,zl,ax J];refine yv ⟨L,_,_,_,J,J,aH.of (M _ _ ha),J,_,l,hs,U,c,J,Z.mono (N.trans (y.trans M)),FL,LA.same M,C.1,λd9 H9 s9 G=>?_⟩;unfold yp at G;rw[show hs.fs.length=m from hn]at G;have W:=N.trans (y.trans (M.trans s9));refine vI G (s9 _ _ (M _ _ (y _ _ p))) hc ?_;exact kk H9 (bt.trans ((s4.trans W).but)) (T4.same W)
end
noncomputable def wB(way o:Nat)(mg:Nat->Bool)(i:Nat):Bool:=decide (way=3) && (decide (i=o) ||mg i)
noncomputable def wD(o i:Nat):aF:=if i=o then .awa 0 1 else .goo 0
theorem AY(d:aF)(h:∀b m,d≠ .awa b m)(p:fH 1 1 d)(a:∀b m,d≠ .rai b m):PyData.eqv (aN (eD d)) (aN (eD (.awa 0 1)))=false:=by cases d with|awa b m=>exact absurd J (h b m)|rai b m=>exact absurd J (a b m)|beg b m=>exact p.elim|say b=>exact p.elim|com x=>simp[eD,aN,vb,PyData.eqv,PyData.eqvAll]|goo x=>simp[eD,aN,vb,PyData.eqv,PyData.eqvAll]|lea x=>simp[eD,aN,vb,PyData.eqv,PyData.eqvAll]|wor x=>simp[eD,aN,vb,PyData.eqv,PyData.eqvAll]
section
variable{n P o:Nat}{ma mg:Nat->Bool}
theorem WD.S(D:WD n P way K o ma mg){i:Nat}(a:i<n):(aD (jm n P way K o ma mg)).S i=qc (ma i) (mg i) (decide (i=o)) way K P:=lO a
theorem WD.aw(D:WD n P way K o ma mg)(a:way=3):(qc (ma o) (mg o) (decide (o=o)) way K P)[eQ (mg o) K]?=some (.awa 0 1):=by have W:=D.wa;rw[ax a]at W;have:=(W.odd J).2.2.2;rw[D.S D.on]at this;exact this
theorem WD.idx(D:WD n P way K o ma mg)(g:way=3)(i:p<eQ (mg o) K):∃d,(qc (ma o) (mg o) (decide (o=o)) way K P)[p]?=some d/\PyData.eqv (aN (eD d)) (aN (eD (.awa 0 1)))=false:=by
 obtain⟨j,_⟩:=c9.mp (D.aw g);obtain⟨_,h,_,f⟩:=X2 (D.scr D.on);have a:(qc (ma o) (mg o) (decide (o=o)) way K P)[p]?=some (qc (ma o) (mg o) (decide (o=o)) way K P)[p]:=bi (by omega);have e:=f p _ a;have c:=h _ (ck a);refine⟨_,a,?_⟩;generalize (qc (ma o) (mg o) (decide (o=o)) way K P)[p]=d at e c a;refine AY d (λb m z=>?_) c (λb m z=>?_)
 . subst z;have e:((decide (o=o) && decide (way=3)) && decide (p=eQ (mg o) K) && decide (b=0/\m=1))=true:=e;rw[ca,ca,decide_eq_true_eq (p:=p=eQ (mg o) K)]at e;omega
 . subst z;cases e
theorem WD.at3(D:WD n P way K o ma mg)(l:way=3)(h:i<n)(f:i≠o):(mg i=true->(qc (ma i) (mg i) (decide (i=o)) way K P)[iA (ma i) (mg i) K P]?=some (.goo 0))/\(mg i=false->iA (ma i) (mg i) K P=(qc (ma i) (mg i) (decide (i=o)) way K P).length):=by
 rw[c5 f,V0];obtain⟨k,j⟩:=nH (D.md i h) D.P4;have c:=(j K D.KP).1;unfold nT at c;have a:=(Bool.and_eq_true_iff.mp c).2;obtain⟨_,b,_,_⟩:=X2 k;refine⟨λg=>?_,λg=>?_⟩
 . rw[g]at a b⊢;have a:oy (V1 (ma i) true P)[iA (ma i) true K P]?=true:=a;cases e:(V1 (ma i) true P)[iA (ma i) true K P]? with|none=>rw[e]at a;cases a| some d=>
     rw[e]at a;have:=b d (ck e);cases d<;>first|(cases a;done)|skip
     rw[show _=(0:Int)from this.1]
 . rw[g]at a⊢;have a:decide ((V1 (ma i) false P).length=P)=true:=a;exact(cb a).symm
theorem WD.wait(D:WD n P way K o ma mg)(d:i<n):((aD (jm n P way K o ma mg)).S i)[qi P way K o ma mg i]?=if wB way o mg i then some (wD o i)else none:=by
 rw[D.S d];unfold qi wB wD;by_cases e:way=3
 . rw[if_pos e,ax e,Bool.true_and];by_cases a:i=o
   . rw[if_pos a,if_pos a,ax a,a];have q:=D.aw e;rw[ax (rfl:o=o)]at q;exact q
   . rw[if_neg a,if_neg a,c5 a,Bool.false_or];obtain⟨c,b⟩:=D.at3 e d a;rw[c5 a]at c b;cases g:mg i with|true=>rw[g]at c;rw[if_pos J];exact c J|false=>rw[g]at b;rw[if_neg (by decide),b J];exact ff (ae _)
 . rw[if_neg e,c5 e,Bool.false_and,if_neg (by decide)];exact ff (ae _)
theorem WD.unf(D:WD n P way K o ma mg){c:Nat->Nat}(b:∀i,i<n->c i=qi P way K o ma mg i):unf (jm n P way K o ma mg) c=(List.range n).filter (wB way o mg):=by unfold My.unf;rw[show(jm n P way K o ma mg).fs.length=n from iB];refine List.filter_congr λi a=>?_;have a:=bp.mp a;unfold ip;rw[b i a,D.wait a];cases wB way o mg i<;>rfl
theorem WD.allB(D:WD n P way K o ma mg){c:Nat->Nat}(b:∀i,i<n->c i=qi P way K o ma mg i):(way≠3->My.allB (jm n P way K o ma mg) c=true)/\(way=3->My.allB (jm n P way K o ma mg) c=false):=by
 refine⟨λe=>sk (n:=n) iB λi a=>?_,λe=>?_⟩
 . rw[b i a,D.S a];unfold qi;rw[if_neg e]
 . unfold My.allB;rw[List.all_eq_false];refine⟨o,bp.mpr (by rw[show(jm n P way K o ma mg).fs.length=n from iB];exact D.on),?_⟩;unfold jU;rw[decide_eq_true_eq];intro z;have q:=D.wait D.on;rw[<-b o D.on,z]at q;unfold wB at q;rw[ax e,ax (rfl:o=o)]at q;rw[ff (ae _)]at q;cases q
end
noncomputable abbrev Xo:Stmt:=bG 69
abbrev Ff(i:Nat):Stmt:=(y0 Xo).getD i (.Pass ⟨0,0,0,0⟩)
def Aa(K:W.Frag)(t:TA):TE:=λσ H Q=>t σ H λxs H1=>xs.length<=sizeLine/\∀p,H1 p=none->K.lookup p=none->Q (.ref p) (upd H1 p (.lst xs))
theorem Bp{X:Cx}{t:TA}{f:Pos}(h:PA X es t):PE X (.List es f) (Aa X.K t):=by
 intro c s i H Q I l;refine wpAny_List_spliced (aG (h f c s i H _ I l) λk a ⟨j,g,d,r,z,q⟩=>⟨by rw[<-r.length];exact z,?_⟩);have m:g a.heap.objs.size=none:=d.hok.fresh (ae _);have hk:X.K.lookup a.heap.objs.size=none:=by cases e:X.K.lookup a.heap.objs.size with|none=>rfl|some o=>exact absurd (au (d.kIn _ _ e)) (cp _)
 exact⟨.ref a.heap.objs.size,upd g a.heap.objs.size (.lst j),d.laid (t':=a.toks) (λb u e=>aq _ e) (ae _) ⟨z,k,0,r,bf _ J⟩,J,q _ m hk⟩
noncomputable def fQ:Nat->Bool×Bool|0=>(true,false)|1=>(false,true)|_=>(true,true)
theorem BP(n:Nat):(List.replicate n [V.str "both"]).flatten=(List.range n).map λi=>V.str (aZ ((λ_=>true) i) ((λ_=>true) i)):=by rw[List.flatten_replicate_singleton];refine List.ext_getElem (by simp) λi b a=>?_;rw[List.getElem_replicate,List.getElem_map];rfl
theorem BI:∀a g:Bool,decide (aZ a g="both")=(a && g):=by decide+kernel
theorem yT:∀a g:Bool,decide (aZ a g="go")= !a:=by decide+kernel
theorem jP{b:Bool}{A B:Prop}(c:b=true)(h:A):if b=true then A else B:=by rw[if_pos c];exact h
theorem jQ{b:Bool}{A B:Prop}(c:¬b=true)(h:B):if b=true then A else B:=by rw[if_neg c];exact h
section
variable{K:W.Frag}
theorem sX:aA ["script","tape","many","phases","way","phase","odd","modes","i","scripts","house","told","full","waits"] ["script"] (zi Xo):=.of
inductive eJ(K:W.Frag)(vs:List V)(H:Hp)(Q:VK)(e0:XK):Prop|mk:∀(a:Addr)(ns:List Int),vs=[.ref a]->aJ K H a (ns.map V.int)->ns.length<=63->(∀H',Q (.bl true) H')->eJ K vs H Q e0
theorem Al {f0:Y} (F:im K "law" "law" Xo f0 wT) (T:Txt K mg) (oD:Ok P w K mg base "_law_b_digit" 2 ["tape","many"] (iQ K)) (oR:Ok P w K mg base "_law_b_rally_right" 29 ["tape"] (kO K)) (oS:Ok P w K mg base "_law_b_script" 1 ["mode","phases","odd","way","phase"] kL) (oE:Ok P w K mg base "end" 27 ["house"] iN) (oP:Ok P w K mg base "played" 28 ["house","weaving"] iI) (oK:Ok P w K mg base "is_knot" 27 ["house","weaving","waits"] lc):cG P w K mg base eT 30 f0 wT ["script"] (eJ K):=by
 refine F.ok sX (λvs H Q E h=>by cases h;subst_vars;rfl) λgv A b7 sh H vs Q E hr h=>?_;obtain⟨s,ns,rfl,hS,gn,kk⟩:=h;have nd:=sX.nd;have hu:=jy hr;have b0:=hr.mono (show 27<=29 by decide);have fa:=hr.mono (show 28<=29 by decide);have r2:=hr.mono (show 2<=29 by decide);have r1:=hr.mono (show 1<=29 by decide);let X:=(Ve eT P w K mg base ["script","tape","many","phases","way","phase","odd","modes","i","scripts","house","told","full","waits"] "law" (zi Xo) f0 gv A b7 sh H E).nox;have pL:∃t,PS X (Ff 14) t/\∀(D:Ends) (G:Hp) (a am sa ha ta d e:Y) (n N g M o:Nat) (L B:Nat->Bool) (x8:Option V),WD n N g M o L B->G am=some (.lst ((List.range n).map λi=>V.str (aZ (L i) (B i))))->Is G (.tup (((List.range n).map λi=>qc (L i) (B i) (decide (i=o)) g M N).map eS)) (.ref sa)->d≠e->G d=some (.dT [])->G e=some (.dT [])->
   (∀(a2:Option V)(Z:Nat->V)(G':Hp),(∀b u,b≠d->b≠e->G b=some u->G' b=some u)->G' d=some (.dT (yc kN n λi=>.int (qi N g M o L B i:Int)))->G' e=some (.dT (((List.range n).filter (wB g o B)).map λi=>(kN i,Z i)))->(∀i,i<n->wB g o B i=true->Is G' (eD (wD o i)) (Z i))->D.nx [some (.ref s),some (.ref a),some (.int (n:Int)),some (.int (N:Int)),some (.int (g:Int)),some (.int (M:Int)),some (.int (o:Int)),some (.ref am),a2,some (.ref sa),some (.ref ha),some (.ref ta),some (.ref d),some (.ref e)] G')->t D [some (.ref s),some (.ref a),some (.int (n:Int)),some (.int (N:Int)),some (.int (g:Int)),some (.int (M:Int)),some (.int (o:Int)),some (.ref am),x8,some (.ref sa),some (.ref ha),some (.ref ta),some (.ref d),some (.ref e)] G:=by
  refine⟨_,wy PassesOwn.never J (wg J T.range (zc (pv 2) zd)) (zu (i:=8) nd) (zf (vj hu (pv 12) (yn (zc (pv 8) zd)) (yf yh (by rfl) T.len wu (zc (zm zk (pv 9) (pv 8)) zd)) J) (zh (yj (PW.pt (jj (zr yz (pv 4) zg (zo _)) (jn (zr yz (pv 8) (pv 6) (zo _))))) (zf (vj hu (pv 12) (yn (zc (pv 8) zd)) (sP PySem.F.slot_tuple_index PySem.F.type_tuple_index (r:=gU) (DK (by exact hr.units)) (zm zk (pv 9) (pv 8)) (zc (yn (zc zx (zc zg (zc zg zd)))) zd)) J) (zh (vj hu (pv 13) (yn (zc (pv 8) zd)) (yn (zc zx (zc zg (zc zg zd)))) J))) (zh (yj (PW.pt (jj (zr yz (pv 4) zg (zo _)) (jn (zr yz (zm yu (pv 7) (pv 8)) zx (zo _))))) (zf (vj hu (pv 12) (yn (zc (pv 8) zd)) (yt we (yt kj zg (pv 5)) zg) J) (zh (vj hu (pv 13) (yn (zc (pv 8) zd)) (yn (zc zx (zc zg zd))) J))) (zh (yj (PW.pt (jj (zr yz (pv 4) zg (zo _)) (jn (zr yz (zm yu (pv 7) (pv 8)) zx (zo _))))) (zf (vj hu (pv 12) (yn (zc (pv 8) zd)) (pv 5) J) (zh (vj hu (pv 13) (yn (zc (pv 8) zd)) (yn (zc zx (zc zg zd))) J))) zn))))))),λD G a am sa ha ta d e n N g M o L B x8 R ap cl bg hd he k=>?_⟩
  have n8:=R.n8;have dE:∀{G':Hp},(∀b u,b≠d->b≠e->G b=some u->G' b=some u)->ym G G':=λ{G'} kp b xs z=>kp b _ (λy=>by rw[y,hd]at z;cases z) (λy=>by rw[y,he]at z;cases z) z;have gt:dS (.tup (((List.range n).map λi=>qc (L i) (B i) (decide (i=o)) g M N).map eS)):=qj.all.mpr λt ht=>by obtain⟨q,_,rfl⟩:=ci.mp ht;exact Z0 q
  refine⟨_,J,by omega,by omega,?_⟩;let Pv:Nat->L2.St->Hp->Prop:=λk σ G'=>∃(a2:Option V)(Z:Nat->V),σ=[some (.ref s),some (.ref a),some (.int (n:Int)),some (.int (N:Int)),some (.int (g:Int)),some (.int (M:Int)),some (.int (o:Int)),some (.ref am),a2,some (.ref sa),some (.ref ha),some (.ref ta),some (.ref d),some (.ref e)]/\(∀b u,b≠d->b≠e->G b=some u->G' b=some u)/\G' d=some (.dT (yc kN k λi=>.int (qi N g M o L B i:Int)))/\G' e=some (.dT (((List.range k).filter (wB g o B)).map λi=>(kN i,Z i)))/\∀i,i<k->wB g o B i=true->Is G' (eD (wD o i)) (Z i);refine Zh (lo:=0) (n:=(n:Int).toNat) Pv ⟨x8,λ_=>.non,J,λb u _ _ z=>z,hd,he,λi hi=>absurd hi (fc _)⟩ ?_ ?_
  . rintro k σ G1 hk ⟨a2,Z,rfl,kp,bl,bd,ba⟩;have hk:k<n:=by rw[bz]at hk;exact hk
    rw[show(0:Int)+(k:Int)=(k:Int)from ee _];obtain⟨as,du,e',ey,f4⟩:=cl.tups (dE kp) gt;cases e';obtain⟨u,er,eq⟩:=f4.get (i:=k) (t:=eS (qc (L k) (B k) (decide (k=o)) g M N)) (by rw[bc,bc,List.getElem?_range hk];rfl);have el:=eq;obtain⟨a8,y8,rfl,ez,f8⟩:=eq;have l8:=f8.length;rw[ai]at l8;have ky:∀{H7:Hp}{p7:Y},H7 p7=some (.tup [.int (k:Int)])->H7 p7=some (.tup ((kN k).map kV)):=λ{H7 p7} g7=>g7.trans (by show _=some (HO.tup ((kI [(k:Int)]).map kV));rw[Z2];rfl);have fl:((List.range k).filter (wB g o B)).length<=k:=by have:=f6 (wB g o B) (List.range k);rw[c8]at this;exact this
    refine⟨sa,du,_,_,J,J,aH.of ey,y4 er,a8,y8,J,.inr (aH.of ez),by show 1<=1000;decide,λp7 H7 s7 n7 g7=>⟨d,_,J,Zl.t (k:=kN k) (s7 _ _ bl) (ky g7) (by rw[xw];exact yq (by omega)),?_⟩⟩;have bj:upd H7 d (.dT (wc (yc kN k λi=>.int (qi N g M o L B i:Int)) (kN k) (.int (y8.length:Int)))) d=some (.dT (yc kN (k+1) λj=>if j=k then .int (y8.length:Int)else .int (qi N g M o L B j:Int))):=ze.trans (by rw[Zm qp]);have co:upd H7 d (.dT (wc (yc kN k λi=>.int (qi N g M o L B i:Int)) (kN k) (.int (y8.length:Int)))) e=some (.dT (((List.range k).filter (wB g o B)).map λi=>(kN i,Z i))):=(upd_ne (λz=>bg z.symm)).trans (s7 _ _ bd);have ay:∀b u,b≠d->b≠e->G1 b=some u->upd H7 d (.dT (wc (yc kN k λi=>.int (qi N g M o L B i:Int)) (kN k) (.int (y8.length:Int)))) b=some u:=λb u z1 z2 z=>(upd_ne z1).trans (s7 _ _ z);generalize upd H7 d (.dT (wc (yc kN k λi=>.int (qi N g M o L B i:Int)) (kN k) (.int (y8.length:Int))))=H8 at bj co ay⊢;have tk:∀{H9:Hp},(∀b u,b≠d->b≠e->G1 b=some u->H9 b=some u)->ym G1 H9:=λ{H9} q b xs z=>q b _ (λy=>by rw[y,bl]at z;cases z) (λy=>by rw[y,bd]at z;cases z) z;have e4:∀v:Int,v=(qi N g M o L B k:Int)->(yc kN (k+1) λj=>if j=k then V.int v else .int (qi N g M o L B j:Int))=yc kN (k+1) λj=>.int (qi N g M o L B j:Int):=λv hv=>Zb λj hj=>by
     by_cases z:j=k
     . rw[if_pos z,hv,z]
     . rw[if_neg z]
    have no:wB g o B k=false->(qi N g M o L B k=y8.length)->Pv (k+1) ([some (.ref s),some (.ref a),some (.int (n:Int)),some (.int (N:Int)),some (.int (g:Int)),some (.int (M:Int)),some (.int (o:Int)),some (.ref am),some (.int (k:Int)),some (.ref sa),some (.ref ha),some (.ref ta),some (.ref d),some (.ref e)]) H8:=λz1 z2=>by
     refine⟨_,Z,J,λb u y1 y2 y=>ay b u y1 y2 (kp b u y1 y2 y),?_,?_,λi hi hw=>?_⟩
     . rw[bj,e4 _ (by rw[z2])]
     . rw[co,List.range_succ,List.filter_append,List.filter_cons,z1];simp
     . by_cases y:i=k
       . rw[y,z1]at hw;cases hw
       . exact(ba i (by omega) hw).tups (tk ay) (q9 _)
    have e7:∀{H9:Hp}{v:Int}{q:V},wB g o B k=true->v=(qi N g M o L B k:Int)->(∀b u,b≠d->b≠e->H8 b=some u->H9 b=some u)->H9 d=some (.dT (wc (yc kN (k+1) λj=>if j=k then .int (y8.length:Int)else .int (qi N g M o L B j:Int)) (kN k) (.int v)))->H9 e=some (.dT (wc (((List.range k).filter (wB g o B)).map λi=>(kN i,Z i)) (kN k) q))->Is H9 (eD (wD o k)) q->Pv (k+1) ([some (.ref s),some (.ref a),some (.int (n:Int)),some (.int (N:Int)),some (.int (g:Int)),some (.int (M:Int)),some (.int (o:Int)),some (.ref am),some (.int (k:Int)),some (.ref sa),some (.ref ha),some (.ref ta),some (.ref d),some (.ref e)]) H9:=λ{H9 v q} z1 z2 fn h1 h2 h3=>by
     have bE:∀b u,b≠d->b≠e->G1 b=some u->H9 b=some u:=λb u y1 y2 y=>fn b u y1 y2 (ay b u y1 y2 y);refine⟨_,λj=>if j=k then q else Z j,J,λb u y1 y2 y=>bE b u y1 y2 (kp b u y1 y2 y),?_,?_,λi hi hw=>?_⟩
     . rw[h1,J7 qp (dz k),<-e4 v z2];congr 2;refine Zb λj hj=>?_;by_cases y:j=k
       . rw[if_pos y,if_pos y]
       . rw[if_neg y,if_neg y,if_neg y]
     . have f3:y9 (((List.range k).filter (wB g o B)).map λi=>(kN i,Z i)) (kN k)=none:=(qy qp).trans (if_neg λz=>by have:=bp.mp (d8.mp z).1;omega)
       have hA:(((List.range k).filter (wB g o B)).map λi=>(kN i,Z i))=((List.range k).filter (wB g o B)).map λi=>(kN i,if i=k then q else Z i):=List.map_congr_left λj hj=>by have:=bp.mp (d8.mp hj).1;show(kN j,Z j)=(kN j,if j=k then q else Z j);rw[if_neg (by omega)]
       rw[h2,Yc _ f3,hA,List.range_succ,List.filter_append,be,List.filter_cons,z1,if_pos J,List.filter_nil,c6,List.map_nil];show _=some (HO.dT (_++[(kN k,if k=k then q else Z k)]));rw[if_pos J]
     . by_cases y:i=k
       . subst y;show Is H9 (eD (wD o i)) (if i=i then q else Z i);rw[if_pos J];exact h3
       . show Is H9 (eD (wD o i)) (if i=k then q else Z i);rw[if_neg y];exact(ba i (by omega) hw).tups (tk bE) (q9 _)
    have bx:∀{aw ag:Hp}{v:Int},Same H8 aw->Same (upd aw d (.dT (wc (yc kN (k+1) λj=>if j=k then .int (y8.length:Int)else .int (qi N g M o L B j:Int)) (kN k) (.int v)))) ag->ag e=some (.dT (((List.range k).filter (wB g o B)).map λi=>(kN i,Z i))):=λ{aw ag v} s1 s2=>s2 _ _ ((upd_ne (λz=>bg z.symm)).trans (s1 _ _ co));have db:∀{aw ag:Hp}{v:Int}{q:V},Same H8 aw->Same (upd aw d (.dT (wc (yc kN (k+1) λj=>if j=k then .int (y8.length:Int)else .int (qi N g M o L B j:Int)) (kN k) (.int v)))) ag->wB g o B k=true->v=(qi N g M o L B k:Int)->Is ag (eD (wD o k)) q->Pv (k+1) [some (.ref s),some (.ref a),some (.int (n:Int)),some (.int (N:Int)),some (.int (g:Int)),some (.int (M:Int)),some (.int (o:Int)),some (.ref am),some (.int (k:Int)),some (.ref sa),some (.ref ha),some (.ref ta),some (.ref d),some (.ref e)] (upd ag e (.dT (wc (((List.range k).filter (wB g o B)).map λi=>(kN i,Z i)) (kN k) q))):=λ{aw ag v q} s1 s2 z1 z2 z3=>by refine e7 z1 z2 (λb u y1 y2 y=>(upd_ne y2).trans (s2 _ _ ((upd_ne y1).trans (s1 _ _ y)))) ((upd_ne bg).trans (s2 _ _ ze)) ze ?_;exact z3.tups (ym.upd (bx s1 s2) (λ_ z=>by cases z)) (q9 _)
    have ah:∀m,m<=9->m<sizeLine:=λm hm=>yq (by omega);have lR:(yc kN (k+1) λj=>if j=k then .int (y8.length:Int)else .int (qi N g M o L B j:Int)).length<=9:=by rw[xw];omega
    have lW:(((List.range k).filter (wB g o B)).map λi=>(kN i,Z i)).length<=9:=by rw[ai];omega
    have eg:∀x:Str,decide (V.str (aZ (L k) (B k))=V.str x)=decide (aZ (L k) (B k)=x):=λx=>by rw[Bool.eq_iff_iff];simp
    have bL:H8 am=some (.lst ((List.range n).map λi=>V.str (aZ (L i) (B i)))):=ay _ _ (λz=>by rw[z,hd]at ap;cases ap) (λz=>by rw[z,he]at ap;cases ap) (kp _ _ (λz=>by rw[z,hd]at ap;cases ap) (λz=>by rw[z,he]at ap;cases ap) ap);have bn:cN ((List.range n).map λi=>V.str (aZ (L i) (B i))) (k:Int)=some (.str (aZ (L k) (B k))):=y4 (by rw[bc,List.getElem?_range hk];rfl);have md:=R.md k hk;refine⟨J,_,J,Zy (λc1=>?_) (λc1=>?_)⟩
    . have e3:g=3:=by have:=cb c1;simp at this;omega
      refine⟨J,_,J,Zy (λc2=>?_) (λc2=>?_)⟩
      . have eo:k=o:=by have:=cb c2;simp at this;omega
        have hw:wB g o B k=true:=by unfold wB;rw[ax e3,ax eo];rfl
        refine⟨sa,du,_,_,J,J,aH.of (tk ay _ _ ey),y4 er,⟨a8,y8,J,tk ay _ _ ez⟩,by show 3<=1000;decide,λp9 H9 s9 n9 g9=>?_⟩;have i9:Is H9 (eS (qc (L k) (B k) (decide (k=o)) g M N)) (.ref a8):=(el.tups (tk ay) (Z0 _)).mono s9;refine⟨(qc (L k) (B k) (decide (k=o)) g M N).map eD,eD (.awa 0 1),_,eQ (B o) M,J,i9,Wu g9,λt ht=>?_,by simp only[eD,aN,vb,PyData.canLay0,PyData.canLayAll0];decide+kernel,by simp[eD,aN,vb,PyData.depth,PyData.depthAll],?_,λm hm=>?_,by show 1<=1000;decide,λeb aw U ed aS=>⟨d,_,J,Zl.t (k:=kN k) (U _ _ (s9 _ _ bj)) (ky aS) (ah _ lR),by show 3<=1000;decide,λea dr ao ec bt=>⟨by show 1<=1000;decide,λdV ag S cc a3=>⟨e,_,J,Zl.t (k:=kN k) (bx (s9.trans U) (ao.trans S)) (ky a3) (ah _ lW),db (s9.trans U) (ao.trans S) hw ?_ ?_⟩⟩⟩⟩
        . obtain⟨dd,ew,rfl⟩:=ci.mp ht;obtain⟨q,hq⟩:=List.getElem?_of_mem ew;exact(X6 ((X2 (R.scr hk)).2.1 dd ew)).choose_spec.2.2.2.2.1
        . have q:=R.aw e3;rw[bc];subst eo;rw[q];rfl
        . subst eo;obtain⟨dd,h1,h2⟩:=R.idx e3 hm;exact⟨eD dd,by rw[bc,h1];rfl,h2⟩
        . unfold qi;rw[if_pos e3,if_pos eo]
        . unfold wD;rw[if_pos eo];exact Wu (S _ _ bt)
      . have eo:¬k=o:=λz=>by rw[z]at c2;simp at c2
        have dv:wD o k=.goo 0:=by unfold wD;rw[if_neg eo]
        have dg:qi N g M o L B k=iA (L k) (B k) M N:=by unfold qi;rw[if_pos e3,if_neg eo]
        have bN:wB g o B k=B k:=by unfold wB;rw[ax e3,c5 eo];rfl
        have ek:B k=false->iA (L k) (B k) M N=y8.length:=λz=>by rw[l8];exact(R.at3 e3 hk eo).2 z
        refine⟨J,_,J,jP c1 ⟨am,_,_,_,J,J,aJ.of bL,bn,J,_,J,?_⟩⟩;rw[eg,BI];refine Zy (λc3=>?_) (λc3=>?_)
        . obtain⟨ha,hm⟩:=Bool.and_eq_true_iff.mp c3;have hw:wB g o B k=true:=bN.trans hm;refine⟨_,_,J,J,me (by decide),_,_,J,J,by show 1<=1000;decide,λeb aw U ed aS=>⟨d,_,J,Zl.t (k:=kN k) (U _ _ bj) (ky aS) (ah _ lR),by show 2<=1000;decide,λea dr ao ec bt=>⟨by show 1<=1000;decide,λdV ag S cc a3=>⟨e,_,J,Zl.t (k:=kN k) (bx U (ao.trans S)) (ky a3) (ah _ lW),db U (ao.trans S) hw ?_ ?_⟩⟩⟩⟩
          . rw[dg,ha,hm];show(2:Int)*(M:Int)+1=((2*M+1:Nat):Int);omega
          . rw[dv];exact Yi (S _ _ bt)
        . refine⟨J,_,J,jP c1 ⟨am,_,_,_,J,J,aJ.of bL,bn,J,_,J,?_⟩⟩;rw[eg,yT];refine Zy (λc4=>?_) (λc4=>?_)
          . have ha:L k=false:=by simpa using c4
            have hm:B k=true:=by rw[ha]at md;exact md
            have hw:wB g o B k=true:=bN.trans hm;refine⟨by show 1<=1000;decide,λeb aw U ed aS=>⟨d,_,J,Zl.t (k:=kN k) (U _ _ bj) (ky aS) (ah _ lR),by show 2<=1000;decide,λea dr ao ec bt=>⟨by show 1<=1000;decide,λdV ag S cc a3=>⟨e,_,J,Zl.t (k:=kN k) (bx U (ao.trans S)) (ky a3) (ah _ lW),db U (ao.trans S) hw ?_ ?_⟩⟩⟩⟩
            . rw[dg,ha,hm];rfl
            . rw[dv];exact Yi (S _ _ bt)
          . have ha:L k=true:=by simpa using c4
            have hm:B k=false:=by rw[ha]at c3;simpa using c3
            exact no (bN.trans hm) (dg.trans (ek hm))
    . have e3:¬g=3:=λz=>by rw[z]at c1;simp at c1
      refine yd ⟨J,_,J,jQ c1 (yd ⟨J,_,J,jQ c1 (yd (no ?_ ?_))⟩)⟩
      . unfold wB;rw[c5 e3];rfl
      . unfold qi;rw[if_neg e3,l8]
  . rintro σ G1 ⟨a2,Z,rfl,kp,bl,bd,ba⟩;rw[show((n:Int)).toNat=n from bz n]at bl bd ba;exact k a2 Z G1 kp bl bd ba
 obtain⟨tL,pL,qL⟩:=pL;have pZ:∃t,dO X ((y0 Xo).drop 9) t/\∀(G:Hp)(a am:Y)(n N g M o:Nat)(L B:Nat->Bool)(x8:Option V),WD n N g M o L B->G am=some (.lst ((List.range n).map λi=>V.str (aZ (L i) (B i))))->t (.of Q) [some (.ref s),some (.ref a),some (.int (n:Int)),some (.int (N:Int)),some (.int (g:Int)),some (.int (M:Int)),some (.int (o:Int)),some (.ref am),x8,none,none,none,none,none] G:=by
  refine⟨_,zf (zv (i:=9) nd (xk ve J T.tuple v4 (zc (qf (own:=["i"]) (cap:=[7,3,6,4,5]) J (xo (zi Xo) J J (by decide+kernel) (by decide+kernel) (by decide+kernel) ⟨⟨_,J,.inl J,qw J⟩,⟨_,J,.inl J,qw J⟩,⟨_,J,.inl J,qw J⟩,⟨_,J,.inl J,qw J⟩,⟨_,J,.inl J,qw J⟩,trivial⟩) (wg J T.range (zc (pv 2) zd)) (λ_ _ _ _=>zu (i:=0) (by show(["i","modes","phases","odd","way","phase"]:O Str).Nodup;decide+kernel)) (λ_ _ _ _=>wb) (λ_ _ _ _=>ye oS r1 (zc (zm (r:=fK K) yu (pv 1) (pv 0) (λ_ _=>rfl)) (zc (pv 2) (zc (xj yz (pv 0) (pv 3) (zo _)) (zc (pv 4) (zc (pv 5) zd))))))) zd))) (zf (zv (i:=10) nd (yn (zc zg (zc zg (zc (xk ve J T.tuple v4 (zc (qf (own:=["i"]) (cap:=[7]) J (xo (zi Xo) J J (by decide+kernel) (by decide+kernel) (by decide+kernel) ⟨⟨_,J,.inl J,qw J⟩,trivial⟩) (wg J T.range (zc (pv 2) zd)) (λ_ _ _ _=>zu (i:=0) (by show(["i","modes"]:O Str).Nodup;decide+kernel)) (λ_ _ _ _=>wb) (λ_ _ _ _=>yn (zc (pv 0) (zc (yn (zc (yn (zc zg (zc (zm (r:=fK K) yu (pv 1) (pv 0) (λ_ _=>rfl)) zd))) zd)) zd)))) zd)) (zc (pv 9) zd)))))) (zf (zv (i:=11) nd (ye oE b0 (zc (pv 10) zd))) (zf (zv (i:=12) nd Zc) (zf (zv (i:=13) nd Zc) (zf pL (zf (yj (PW.pt (Yb (zr (Bj (by exact hr.units)) (ye oP fa (zc (pv 10) (zc (zm zk (pv 11) zg) zd))) (pv 12) (zo _)) (jv (zr Qp (yf yh (by rfl) T.len wu (zc (zm zk (pv 11) zg) zd)) (yf (Kk J) J T.sum nL (zc (vF (pv 12)) zd)) (zo _))))) (zh (zp qg)) zn) (zf (yj (zr (Vn (by exact hr.units)) (pv 13) Zc (zo _)) (zh (zp (wr (xj yz (zm zk (pv 11) zg) zx (zo _)) (wr (xj yz (yf yh (by rfl) T.len wu (zc (pv 11) zd)) zg (zo _)) (vg (xj sJ (ye oK b0 (zc (pv 10) (zc (zm zk (pv 11) zg) (zc (pv 13) zd)))) qg (zo _))))))) zn) (zh (zp (wr (xj yz (zm zk (pv 11) zg) zx (zo _)) (wr (xj (Vn (by exact hr.units)) (zm zk (pv 11) zg) (pv 13) (zo _)) (vg (xj sJ (ye oK b0 (zc (pv 10) (zc (zm zk (pv 11) zg) (zc (pv 13) zd)))) qg (zo _)))))))))))))),λG a am n N g M o L B x8 R ap=>?_⟩
  have n8:=R.n8;have bn:∀j,j<n->cN ((List.range n).map λi=>V.str (aZ (L i) (B i))) (j:Int)=some (.str (aZ (L j) (B j))):=λj hj=>y4 (by rw[bc,List.getElem?_range hj];rfl);refine⟨_,J,by omega,by omega,?_⟩;refine jx (lo:=0) (n:=(n:Int).toNat) (λj zs H'=>Same G H'/\IsL H' (((List.range j).map λi=>qc (L i) (B i) (decide (i=o)) g M N).map eS) zs) ⟨Same.refl G,J⟩ (λj ys H' hj ⟨_,iz⟩=>?_) ?_ ?_
  . have q:=iz.length;rw[ai,ai,c8]at q;exact vp (by omega)
  . rintro j zs H5 hj ⟨s5,iy⟩;have hj:j<n:=by rw[bz]at hj;exact hj
    rw[show(0:Int)+(j:Int)=(j:Int)from ee _];have ej:decide (V.int (j:Int)=V.int (o:Int))=decide (j=o):=by rw[Bool.eq_iff_iff];simp;omega
    refine Q2 ⟨am,_,_,_,J,J,aJ.of (s5 _ _ ap),bn j hj,J,L j,B j,decide (j=o),g,M,N,by rw[ej];rfl,R.md j hj,R.P4,λv H6 s6 i6=>⟨s5.trans s6,?_⟩⟩;rw[List.range_succ,be,be];exact Zz (iy.mono s6) (Yw i6)
  rintro zs H1 ⟨s1,iz⟩ l1 gd;rw[show((n:Int)).toNat=n from bz n]at iz;have s2:=Same.new gd (.lst zs);have g2:upd H1 l1 (.lst zs) l1=some (.lst zs):=ze;generalize upd H1 l1 (.lst zs)=H2 at s2 g2⊢;refine⟨l1,zs,J,.inl ⟨aJ.of g2,λsa cl=>?_⟩⟩;have s3:=Same.new cl (.tup zs);have g3:upd H2 sa (.tup zs) sa=some (.tup zs):=ze;generalize upd H2 sa (.tup zs)=H3 at s3 g3⊢;have i3:Is H3 (.tup (((List.range n).map λi=>qc (L i) (B i) (decide (i=o)) g M N).map eS)) (.ref sa):=⟨sa,zs,J,g3,iz.mono (s2.trans s3)⟩
  have dT:=s1.trans (s2.trans s3);refine⟨_,J,by omega,by omega,?_⟩;refine jx (lo:=0) (n:=(n:Int).toNat) (λj zs H'=>Same H3 H'/\IsL H' (((List.range j).map λi=>((i,[((0:Int),aZ (L i) (B i))]):j6)).map eC) zs) ⟨Same.refl H3,J⟩ (λj ys H' hj ⟨_,iz⟩=>?_) ?_ ?_
  . have q:=iz.length;rw[ai,ai,c8]at q;exact vp (by omega)
  . rintro j zs H5 hj ⟨s5,iy⟩;have hj:j<n:=by rw[bz]at hj;exact hj
    rw[show(0:Int)+(j:Int)=(j:Int)from ee _];refine Q2 ⟨am,_,_,_,J,J,aJ.of ((dT.trans s5) _ _ ap),bn j hj,by show 2<=1000;decide,λp1 H6 s6 n6 g6=>⟨by show 1<=1000;decide,λp2 H7 s7 n7 g7=>⟨by show 2<=1000;decide,λp3 H8 s8 n8 g8=>⟨s5.trans (s6.trans (s7.trans s8)),?_⟩⟩⟩⟩;rw[List.range_succ,be,be];exact Zz (iy.mono (s6.trans (s7.trans s8))) (Yw ⟨p3,_,J,g8,_,_,J,J,_,_,J,⟨p2,_,J,s8 _ _ g7,_,_,J,⟨p1,_,J,(s7.trans s8) _ _ g6,_,_,J,J,_,_,J,J,J⟩,J⟩,J⟩)
  rintro ys H4 ⟨s4,iy⟩ l4 ga;rw[show((n:Int)).toNat=n from bz n]at iy;have s5:=Same.new ga (.lst ys);have g5:upd H4 l4 (.lst ys) l4=some (.lst ys):=ze;generalize upd H4 l4 (.lst ys)=H5 at s5 g5⊢;refine⟨l4,ys,J,.inl ⟨aJ.of g5,λq6 f2=>?_⟩⟩;have s6:=Same.new f2 (.tup ys);have g6:upd H5 q6 (.tup ys) q6=some (.tup ys):=ze;generalize upd H5 q6 (.tup ys)=H6 at s6 g6⊢;refine⟨by show 4<=1000;decide,λha H7 s7 n7 g7=>?_⟩;have dN:=s4.trans (s5.trans (s6.trans s7));have ih:Is H7 (eH (jm n N g M o L B)) (.ref ha):=⟨ha,_,J,g7,_,_,J,J,_,_,J,J,_,_,J,⟨q6,ys,J,s7 _ _ g6,iy.mono ((s5.trans s6).trans s7)⟩,_,_,J,i3.mono dN,J⟩
  have FL:=R.fl;have hn:(aD (jm n N g M o L B)).n=n:=iB;refine⟨.ref ha,jm n N g M o L B,J,ih,FL,λta l ws c H8 s8 C LA bM bb=>?_⟩;have hc:∀i,i<n->c i=qi N g M o L B i:=λi hi=>R.ends C hi;intro d hd;have s9:=Same.new hd (.dT []);have g9:upd H8 d (.dT []) d=some (.dT []):=ze;generalize upd H8 d (.dT [])=H9 at s9 g9⊢;intro e he;have U:=Same.new he (.dT []);have aS:upd H9 e (.dT []) e=some (.dT []):=ze;generalize upd H9 e (.dT [])=aw at U aS⊢;have bg:d≠e:=λz=>by rw[<-z,g9]at he;cases he
  have dK:=s8.trans (s9.trans U);have bC:=dN.trans dK;have gk:∀{b:Y}{u:HO},H8 b=some u->b≠d:=λ{b u} y z=>by rw[z,hd]at y;cases y
  have gf:∀{b:Y}{u:HO},H8 b=some u->b≠e:=λ{b u} y z=>by rw[z]at y;rw[s9 _ _ y]at he;cases he
  refine qL _ aw a am sa ha ta d e n N g M o L B x8 R ((dT.trans bC) _ _ ap) (i3.mono bC) bg (U _ _ g9) aS λa2 Z G' kp gl gi fy=>?_;have kq:Same H8 G':=λb u y=>kp b u (gk y) (gf y) ((s9.trans U) _ _ y);have dG:∃x r,H8 ta=some (.tup (x::.ref l::r)):=by cases z:allB (jm n N g M o L B) c with|true=>exact⟨_,_,bM z⟩|false=>obtain⟨dd,vf,y,_⟩:=bb z;exact⟨_,_,y⟩
  obtain⟨x1,fk,ce⟩:=dG;have a1:cN (x1::V.ref l::fk) ((1:Nat):Int)=some (.ref l):=y4 J;obtain⟨zw,fx,fr⟩:=id LA;have dt:=fr.length;rw[ai]at dt;have bI:=rp hn C hc;have gA:=cj C.1.most (Kv FL.hw);have fv:=(ih.mono s8).mono kq;refine⟨ta,_,_,_,J,J,aH.of (kq _ _ ce),a1,.ref ha,l,jm n N g M o L B,ws,c,J,fv,FL,LA.same kq,C.1,λd9 dr ao cs=>?_⟩;unfold yp at cs;rw[show(jm n N g M o L B).fs.length=n from hn]at cs;have bk:=ao _ _ gl;have a7:=kq.trans ao;refine vI cs bk hc ⟨_,J,yd ?_⟩;refine⟨ta,_,_,_,J,J,aH.of (a7 _ _ ce),a1,l,zw,J,.inl (aJ.of (a7 _ _ fx)),d,_,J,bk,λe8 ag S cc a3=>?_⟩;refine⟨e8,d,_,(List.range n).map λj=>(qi N g M o L B j:Int),J,a3,S _ _ bk,by unfold yc;rw[c7,c7];rfl,λm hm=>?_,?_,J,_,J,?_⟩
  . obtain⟨j,_,rfl⟩:=ci.mp hm;exact Int.natCast_nonneg _
  . rw[<-bI];omega
  rw[<-bI,dt,ax J];refine yd ?_;have ev:=(ao.trans S) _ _ gi;have bD:=a7.trans S;have f1:=bD _ _ ce;intro f hf;have a5:=Same.new hf (.dT []);have e0:upd ag f (.dT []) f=some (.dT []):=ze;generalize upd ag f (.dT [])=gx at a5 e0⊢;have av:=bD.trans a5;have a6:=a5 _ _ ev;refine⟨e,f,_,_,J,J,.inl a6,.inl e0,λhl p hp=>?_,?_⟩
  . rw[List.length_nil]at hl;rw[List.eq_nil_of_length_eq_zero hl]at hp;cases hp
  refine⟨_,J,?_⟩;have keep:∀i∈(List.range n).filter (wB g o B),((aD (jm n N g M o L B)).S i)[c i]?=some (wD o i)/\Is gx (eD (wD o i)) (Z i):=λi hi=>by obtain⟨h1,h2⟩:=d8.mp hi;have h1:=bp.mp h1;refine⟨by rw[hc i h1,R.wait h1,h2];rfl,(fy i h1 h2).mono (ao.trans (S.trans a5))⟩
  by_cases e3:g=3
  . have c0:=(R.allB hc).2 e3;obtain⟨dd,vf,fL,lf⟩:=bb c0;have et:(List.range n).filter (wB g o B)≠[]:=λz=>by have:o∈(List.range n).filter (wB g o B):=d8.mpr ⟨bp.mpr R.on,by unfold wB;rw[ax e3,ax (rfl:o=o)];rfl⟩;rw[z]at this;cases this
    have f5:((((List.range n).filter (wB g o B)).map λi=>(kN i,Z i)).length==([]:O (O aI×V)).length)=false:=by rw[ai,List.length_nil,beq_eq_false_iff_ne];exact λz=>et (List.eq_nil_of_length_eq_zero z)
    rw[f5];have W:=av _ _ fL;refine yd ⟨ta,_,_,_,J,J,aH.of W,J,J,_,J,yv ?_⟩;refine⟨ta,_,_,_,J,J,aH.of W,J,dd,e,_,_,J,J,.inl (av _ _ lf.1),.inl a6,λ_ p hp=>?_,?_⟩
    . obtain⟨i,hi,rfl⟩:=ci.mp hp;obtain⟨d2,h1,h2⟩:=lf.2 i hi;have eu:i∈(List.range n).filter (wB g o B):=R.unf hc▸hi;obtain⟨h3,h4⟩:=keep i eu;cases h1.symm.trans h3;obtain⟨ts,_,_,_,_,e5,e6⟩:=X6 (FL.pd (pJ hi) h1);exact⟨eD (wD o i),Z i,h2.mono av,(qy qp).trans (if_pos eu),h4,e5,e6⟩
    refine⟨_,J,?_⟩;rw[R.unf hc,ai,ai,beq_self_eq_true];refine yv ⟨ta,_,_,_,J,J,aH.of W,J,.ref ha,l,e,jm n N g M o L B,ws,c,_,Z,J,(ih.mono s8).mono av,FL,LA.same av,C,a6,.inr (R.unf hc).symm,λi hi=>⟨_,(keep i hi).1,(keep i hi).2⟩,λdp e9=>⟨_,_,J,J,?_⟩⟩;have em:(!((List.range n).filter (wB g o B)).isEmpty)=true:=by cases z:(List.range n).filter (wB g o B)with|nil=>exact absurd z et|cons q r=>rfl
    rw[em];exact kk dp
  . have c0:=(R.allB hc).1 e3;have W:=av _ _ (bM c0);have bJ:(List.range n).filter (wB g o B)=[]:=List.filter_eq_nil_iff.mpr λi hi=>by unfold wB;rw[c5 e3];simp
    have bK:=a6;rw[bJ,List.map_nil]at bK;rw[bJ];refine yv ⟨ta,_,_,_,J,J,aH.of W,J,J,_,J,yv ⟨ta,_,J,.inr (aH.of W),J,_,J,yv ?_⟩⟩;refine⟨ta,_,_,_,J,J,aH.of W,J,.ref ha,l,e,jm n N g M o L B,ws,c,[],Z,J,(ih.mono s8).mono av,FL,LA.same av,C,bK,.inl J,λi hi=>(nomatch hi),λdp e9=>⟨_,_,J,J,kk dp⟩⟩
 obtain⟨tZ,pZ,qZ⟩:=pZ;have dh:∀{q:Nat},q<4->cN [V.str "come",.str "go",.str "both",.str "both"] ((q:Nat):Int)=some (.str (aZ (fQ q).1 (fQ q).2)):=λ{q} hq=>by
  have:q=0\/q=1\/q=2\/q=3:=by omega
  rcases this with rfl|rfl|rfl|rfl<;>rfl
 have bB:∀{q:Nat},q<2->cN [V.str "come",.str "both"] ((q:Nat):Int)=some (.str (aZ true (decide (q=1)))):=λ{q} hq=>by
  have:q=0\/q=1:=by omega
  rcases this with rfl|rfl<;>rfl
 refine⟨_,zf (zv (i:=1) nd (Bp (zc (pv 0) (zc zg (zc zg zd))))) (zf (yj (xx (yy (ye oR hr (zc (pv 1) zd)))) (zh (zp qg)) zn) (zf (zv (i:=2) nd (yt we zg (ye oD r2 (zc (pv 1) (zc zg zd))))) (zf (zv (i:=3) nd (yt we zg (ye oD r2 (zc (pv 1) (zc zg zd))))) (zf (zv (i:=4) nd (ye oD r2 (zc (pv 1) (zc zg zd)))) (zf (zv (i:=5) nd (ye oD r2 (zc (pv 1) (zc (pv 3) zd)))) (zf (zv (i:=6) nd (ye oD r2 (zc (pv 1) (zc (pv 2) zd)))) (zf (zv (i:=7) nd (yt sO (vm (zc zx zd)) (pv 2))) (zf (yj (zr yz (ye oD r2 (zc (pv 1) (zc zg zd))) zg (zo _)) (zf (zv (i:=7) nd (qf (own:=["i"]) (cap:=[1]) J (xo (zi Xo) J J (by decide+kernel) (by decide+kernel) (by decide+kernel) ⟨⟨_,J,.inl J,qw J⟩,trivial⟩) (wg J T.range (zc (pv 2) zd)) (λ_ _ _ _=>zu (i:=0) (by show(["i","tape"]:O Str).Nodup;decide+kernel)) (λ_ _ _ _=>wb) (λ_ _ _ _=>zm (r:=fK K) yu (vm (zc zx (zc zx (zc zx (zc zx zd))))) (ye oD r2 (zc (pv 1) (zc zg zd))) (λ_ _=>rfl))))
    (zh (Qg (zm yu (vm (zc zx (zc zx zd))) (ye oD r2 (zc (pv 1) (zc zg zd)))) (Qk (pv 7) (pv 6) k7)))) zn)
  pZ)))))))),?_⟩
 refine⟨aY,λa ha da=>?_⟩;have sa:=Same.new ha (.lst [.ref s,.int 0,.int 0]);have T0:dX K (upd H a (.lst [.ref s,.int 0,.int 0])) a s ns:=by
  have e:s≠a:=λz=>by
   rcases hS with(q|⟨o,q⟩)|⟨o,gz,n,q,_⟩
   . rw[z,ha]at q;cases q
   . rw[z,ha]at q;cases q
   . have da:K.lookup a=none:=da;rw[z,da]at q;cases q
  exact⟨⟨0,0,ze,di 0,di 0⟩,sa.seq hS,e,gn⟩
 generalize upd H a (.lst [.ref s,.int 0,.int 0])=H0 at T0 sa⊢;refine⟨a,s,ns,J,T0,λH1 b1 T1=>⟨_,J,yd ?_⟩⟩;refine⟨a,s,ns,8,J,T1,by decide,by decide,λd1 H2 p1 q1 b2 T2=>⟨_,_,J,J,?_⟩⟩;obtain⟨e1,rfl⟩:=Int.eq_ofNat_of_zero_le p1;refine⟨a,s,ns,4,J,T2,by decide,by decide,λd2 H3 p2 q2 b3 T3=>⟨_,_,J,J,?_⟩⟩;obtain⟨e2,rfl⟩:=Int.eq_ofNat_of_zero_le p2;refine⟨a,s,ns,4,J,T3,by decide,by decide,λd3 H4 p3 q3 b4 T4=>?_⟩;obtain⟨g,rfl⟩:=Int.eq_ofNat_of_zero_le p3;refine⟨a,s,ns,1+(e2:Int),J,T4,by omega,by omega,λd4 H5 p4 q4 b5 T5=>?_⟩;obtain⟨M,rfl⟩:=Int.eq_ofNat_of_zero_le p4;refine⟨a,s,ns,1+(e1:Int),J,T5,by omega,by omega,λd5 H6 p5 q5 b6 T6=>?_⟩;obtain⟨o,rfl⟩:=Int.eq_ofNat_of_zero_le p5;have en:(1:Int)+(e1:Int)=((1+e1:Nat):Int):=by omega
 have ep:(1:Int)+(e2:Int)=((1+e2:Nat):Int):=by omega
 rw[en,ep];have on:o<1+e1:=by omega
 have n8:1+e1<=8:=by omega
 have wd:∀L B:Nat->Bool,(∀i,i<1+e1->(L i ||B i)=true)->L o=true->WD (1+e1) (1+e2) g M o L B:=λL B h1 h2=>⟨by omega,n8,by omega,by omega,by omega,on,h1,h2⟩
 generalize 1+e1=n at on n8 wd⊢;generalize 1+e2=N at wd⊢;refine⟨by show 1<=1000;decide,λl7 H7 s7 n7 g7=>⟨l7,_,_,J,J,g7,by omega,by omega,?_,λam hm=>?_⟩⟩
 . show 1*((n:Int)).toNat<=sizeLine;rw[bz];exact vp (by omega)
 have s8:=Same.new hm (.lst (List.replicate ((n:Int)).toNat [V.str "both"]).flatten);have g8:upd H7 am (.lst (List.replicate ((n:Int)).toNat [V.str "both"]).flatten) am=some (.lst ((List.range n).map λi=>V.str (aZ ((λ_=>true) i) ((λ_=>true) i)))):=ze.trans (by rw[bz,BP]);generalize upd H7 am (.lst (List.replicate ((n:Int)).toNat [V.str "both"]).flatten)=H8 at s8 g8⊢;have T8:=T6.same (s7.trans s8);refine⟨a,s,ns,2,J,T8,by decide,by decide,λd6 H9 p6 q6 b9 T9=>⟨J,_,J,Zy (λ_=>?_) (λ_=>?_)⟩⟩
 . refine⟨_,J,by omega,by omega,?_⟩;refine jx (lo:=0) (n:=(n:Int).toNat) (λj ys H'=>dX K H' a s ns/\∃L B:Nat->Bool,(∀i,i<j->(L i ||B i)=true)/\ys=(List.range j).map λi=>V.str (aZ (L i) (B i))) ⟨T9,λ_=>true,λ_=>true,λi hi=>absurd hi (fc _),J⟩ (λj ys H' hj ⟨_,_,_,_,e⟩=>?_) ?_ ?_
   . rw[e,ai,c8];rw[bz]at hj;exact vp (by omega)
   . rintro j ys G1 hj ⟨TG,L,B,bw,rfl⟩;refine Q2 ⟨by show 4<=1000;decide,λlq G2 s2 nq gq=>⟨a,s,ns,4,J,TG.same s2,by decide,by decide,λdq G3 pq qq bq Tq=>?_⟩⟩;obtain⟨q,rfl⟩:=Int.eq_ofNat_of_zero_le pq;have hq:q<4:=by omega
     have b8:lq≠a:=λz=>by obtain⟨⟨_,_,y,_⟩,_⟩:=TG;rw[z,y]at nq;cases nq
     refine⟨lq,_,_,_,J,J,aJ.of (bq _ _ b8 gq),dh hq,Tq,λi=>if i=j then(fQ q).1 else L i,λi=>if i=j then(fQ q).2 else B i,λi hi=>?_,?_⟩
     . by_cases y:i=j
       . show((if i=j then(fQ q).1 else L i) ||(if i=j then(fQ q).2 else B i))=true;rw[if_pos y,if_pos y];have:q=0\/q=1\/q=2\/q=3:=by omega
         rcases this with rfl|rfl|rfl|rfl<;>rfl
       . show((if i=j then(fQ q).1 else L i) ||(if i=j then(fQ q).2 else B i))=true;rw[if_neg y,if_neg y];exact bw i (by omega)
     . rw[List.range_succ,be];congr 1
       . refine List.map_congr_left λi hi=>?_;have:=bp.mp hi;show _=V.str (aZ (if i=j then(fQ q).1 else L i) (if i=j then(fQ q).2 else B i));rw[if_neg (by omega),if_neg (by omega)]
       . show _=[V.str (aZ (if j=j then(fQ q).1 else L j) (if j=j then(fQ q).2 else B j))];rw[if_pos J,if_pos J]
   rintro ys G1 ⟨TG,L,B,bw,rfl⟩ bm cv;rw[bz]at bw⊢;have t1:=Same.new cv (.lst ((List.range n).map λi=>V.str (aZ (L i) (B i))));have gb:upd G1 bm (.lst ((List.range n).map λi=>V.str (aZ (L i) (B i)))) bm=some (.lst ((List.range n).map λi=>V.str (aZ (L i) (B i)))):=ze;have fm:bm≠a:=λz=>by obtain⟨⟨_,_,y,_⟩,_⟩:=TG;rw[z,y]at cv;cases cv
   generalize upd G1 bm (.lst ((List.range n).map λi=>V.str (aZ (L i) (B i))))=G2 at t1 gb⊢;refine⟨by show 2<=1000;decide,λlq G3 s3 nq gq=>⟨a,s,ns,2,J,(TG.same t1).same s3,by decide,by decide,λdq G4 pq qq bq Tq=>?_⟩⟩;obtain⟨q,rfl⟩:=Int.eq_ofNat_of_zero_le pq;have hq:q<2:=by omega
   have b8:lq≠a:=λz=>by obtain⟨⟨_,_,y,_⟩,_⟩:=TG.same t1;rw[z,y]at nq;cases nq
   have gr:G4 bm=_:=bq _ _ fm (s3 _ _ gb);refine⟨lq,_,_,_,J,J,aJ.of (bq _ _ b8 gq),bB hq,bm,_,_,o,J,J,gr,?_,?_⟩
   . rw[ai,c8];unfold iq;rw[if_pos (by omega),if_pos (by omega),bz]
   refine qZ _ a bm n N g M o (λi=>if i=o then true else L i) (λi=>if i=o then decide (q=1)else B i) none (wd _ _ (λi hi=>?_) (if_pos J)) (ze.trans ?_)
   . show((if i=o then true else L i) ||(if i=o then decide (q=1)else B i))=true;by_cases y:i=o
     . rw[if_pos y];rfl
     . rw[if_neg y,if_neg y];exact bw i hi
   . congr 2;refine List.ext_getElem (by simp) λi h1 h2=>?_;simp only[List.getElem_set,List.getElem_map,List.getElem_range];by_cases y:o=i
     . subst y;simp
     . have y':¬i=o:=λz=>y z.symm;simp[y,y']
 . exact qZ _ a am n N g M o (λ_=>true) (λ_=>true) none (wd _ _ (λi hi=>rfl) J) (b9 _ _ (λz=>by obtain⟨⟨_,_,y,_⟩,_⟩:=T6.same s7;rw[z,y]at hm;cases hm) g8)
end
abbrev NS(K:W.Frag)(x:Str)(v:Option Value):Prop:=W.nsIn K mainGlobals x=some v
def FD(K:W.Frag)(x:Str)(st:Stmt)(f:Addr)(B:FuncData):Prop:=NS K x (some (.ref f))/\im K x x st f B
def FE(K:W.Frag)(x:Str)(st:Stmt):Prop:=∃f fd,FD K x st f fd
def CI(K:W.Frag)(x:Str)(i:Int):Prop:=∃t,NS K x (some (.int i t))
def KT(K:W.Frag)(a:Addr)(xs:List Str):Prop:=∀H,aH K H a (xs.map V.str)
section
variable{K:W.Frag}{y z:Str}{f C D N M:Addr}{kV doc pm cdv ct:Value}{b:Bool}{i:Int}{t u v:Tok}{n:Nat}
theorem mQ(e:W.nsIn K mainGlobals x=some (some (.ref f)))(l:K.lookup f=some ⟨oc,od,.func (W.fnOf x x (qb st) (y0 st) (zi st) .none kV doc pm an cdv ct),osl⟩)(c:W.codeIn K cdv x=true)(k:W.keepIn K (.ref f)=true):FD K x st f (W.fnOf x x (qb st) (y0 st) (zi st) .none kV doc pm an cdv ct):=⟨e,pH l c k⟩
theorem wS(e:W.nsIn K mainGlobals x=some (some (.ref f)))(l:K.lookup f=some ⟨oc,od,.func (W.fnOf x x (qb st) (y0 st) (zi st) .none kV doc pm an cdv ct),osl⟩)(c:W.codeIn K cdv x=true)(k:W.keepIn K (.ref f)=true):FE K x st:=⟨_,_,mQ e l c k⟩
theorem FE.d(X:K.In h)(G:h.Ns mainGlobals mg)(a:FE K x st):bU K mg x st:=let⟨f,b,e,F⟩:=a;⟨f,b,F,W.mg_of X G e⟩
theorem wW(e:W.nsIn K mainGlobals x=some (some (.int i t))):CI K x i:=⟨_,e⟩
theorem CI.d(X:K.In h)(G:h.Ns mainGlobals mg)(e:CI K x i):∃t,mg x=some (.int i t):=let⟨t,e⟩:=e;⟨t,W.mg_of X G e⟩
theorem Fw(l:K.lookup a=some ⟨.type "tuple",od,.seq #[.str x t,.str y u,.str z v] n,osl⟩):KT K a [x,y,z]:=λH=>.inr ⟨_,_,n,l,J,J,aY,.cons ⟨_,J⟩ (.cons ⟨_,J⟩ (.cons ⟨_,J⟩ .nil))⟩
end
section
variable{K:W.Frag}{m q:Str}{f C:Addr}{fs:List Str}{kV doc pm cdv ct:Value}
def DI(K:W.Frag)(q:Str)(C:Addr)(st:Stmt):Prop:=∃f fd,im K "__init__" q st f fd/\Mk K C f
theorem DI.d(X:K.In h)(G:h.Ns mainGlobals mg)(e:NS K x (some (.ref C)))(a:DI K q C st):lF K mg x q C st:=let⟨f,b,F,M⟩:=a;⟨f,b,F,M,W.mg_of X G e⟩
theorem wV(l:K.lookup f=some ⟨oc,od,.func (W.fnOf "__init__" q (qb st) (y0 st) (zi st) .none kV doc pm an cdv ct),osl⟩)(c:W.codeIn K cdv q=true)(k:W.keepIn K (.ref f)=true)(e:W.makesIn K C=true)(d:W.findIn K (.ref C) "__init__"=some (some (.ref f)))(b:W.isFn K (.ref f)=true)(a:W.keepIn K (.ref C)=true):DI K q C st:=⟨_,_,pH l c k,e,d,b,a⟩
theorem wU(l:K.lookup f=some ⟨oc,od,.func (W.fnOf m q (qb st) (y0 st) (zi st) .none kV doc pm an cdv ct),osl⟩)(c:W.codeIn K cdv q=true)(k:W.keepIn K (.ref f)=true)(b:W.findIn K (.ref C) m=some (some (.ref f)))(a:W.isFn K (.ref f)=true):qr K C m q st:=⟨_,_,pH l c k,b,a,k⟩
theorem wX(a:W.plainGet K C Str.empty=true)(b:W.hasDictIn K C=true)(c:W.plainOver K C=true)(d:W.findIn K (.ref C) "__setattr__"=some (some (.builtin "object.__setattr__")))(e:∀f∈fs,W.findIn K (.ref C) f=some none):aK K C fs:=⟨⟨a,b,c,d⟩,e⟩
end
theorem qF{l:W.OpenLaw}{K:W.Frag}{fa fL f q n c M:Y}(X:K.In h)(G:h.Ns mainGlobals mg)(db:mg "law"=some (.ref fa))(b0:FE K "is_whole" Xb) (b1:FE K "is_within" Z7) (b2:FE K "is_tuple_within" qm) (b3:FE K "is_box" Qd) (b4:FE K "is_wall" Wg) (b5:FE K "is_member" Z8) (b6:FE K "are_members" kh) (b7:FE K "is_calling" Zr) (b8:FE K "is_deed" Wh) (b9:FE K "is_script" j5) (ej:FE K "is_frame" Xc) (eg:FE K "is_well_formed" vt) (ed:FE K "brought_by_scripts" Wk) (ec:FE K "is_small_enough" js) (eb:FE K "is_allowed" Zs) (ea:FE K "fits" pE) (d9:FE K "is_house" Zq) (d6:FE K "need_of" Qa) (d5:FE K "is_met" Qc) (d4:FE K "first_run" Z9) (d3:FE K "woven_on" Y7) (d2:FE K "need_house" Zp) (d1:FE K "plan_of" Wf) (dV:FE K "is_name" Ys) (dT:FE K "run_by" Xn) (dN:FE K "need_run" Xa) (dK:FE K "left" Qb) (dG:FE K "is_wait" Xp) (dE:FE K "are_waits" Zt) (dv:FE K "played" V9) (du:FE K "end" oQ) (dt:FE K "is_knot" Qe) (dr:FE K "_law_b_spread" V7) (dq:FE K "_law_b_digit" K8) (dp:FE K "_law_b_script" W7) (dh:FE K "_law_b_rally" Yr) (dg:FE K "_law_b_rally_right" V8) (bL:FD K "law" Xo fL dL) (n0:CI K "BOXES" 0) (n1:CI K "WALLS" 1) (n2:CI K "FIRSTS" 2) (n3:CI K "SCRIPTS" 3) (n4:CI K "MOST_BOXES" 99) (n5:CI K "MOST_WALLS" 6) (n6:CI K "MOST_FIRSTS" 40) (n7:CI K "MOST_SCRIPTS" 20) (n8:CI K "MOST_DEEDS_OF_SCRIPT" 80) (n9:CI K "MOST_HANDS" 60) (bK:CI K "MOST_DEEDS" 1200) (bJ:CI K "MOST_RAISED" 99) (bI:CI K "MOST_AWAITED" 9999) (bE:CI K "MOST_WORKED" 999) (bD:CI K "MOST_LETTERS" 8) (da:NS K "MODES" (some (.ref f))) (L:KT K f ["both","come","go"]) (z:NS K "isinstance" none/\NS K "int" none/\NS K "bool" none/\NS K "str" none/\NS K "tuple" none/\NS K "dict" none/\NS K "list" none/\NS K "len" none/\NS K "all" none/\NS K "sum" none/\NS K "range" none/\NS K "enumerate" none/\NS K "sorted" none/\NS K "zip" none/\NS K "min" none) (uR:NS K "Role" (some (.ref q))) (g:aK K q aT) (iR:DI K "Role.__init__" q Y8) (uP:NS K "Plan" (some (.ref n))) (b:aK K n bO) (iP:DI K "Plan.__init__" n Y9) (c4:qr K n "enter" "Plan.enter" K6) (c3:qr K n "at_first" "Plan.at_first" Yt) (uU:NS K "Run" (some (.ref c))) (a:aK K c bF) (iU:DI K "Run.__init__" c Za) (c2:qr K c "put" "Run.put" oU) (c1:qr K c "least_come" "Run.least_come" K5) (c0:qr K c "level" "Run.level" K4) (cv:qr K c "next_deed" "Run.next_deed" pF) (cs:qr K c "may_go_on" "Run.may_go_on" oT) (co:qr K c "going" "Run.going" Vi) (cl:qr K c "has_done_all" "Run.has_done_all" Xq) (ce:qr K c "do" "Run.do" K7) (cc:qr K c "changed" "Run.changed" Wj) (uW:NS K "Weaver" (some (.ref M))) (N:aK K M cO) (iW:DI K "Weaver.__init__" M Zo) (bN:qr K M "step" "Weaver.step" pG) (bM:qr K M "weave" "Weaver.weave" K3) (hb:∀(s:Shared)(v:I),BindsTo s dL ⟨[v],[]⟩ [("script",v)]):
  ∃fd:FuncData,(∀(s:Shared)(v:I),BindsTo s fd ⟨[v],[]⟩ [("script",v)])/\∀base:Heap,K.In base->base.Ns mainGlobals mg->cG l.prog w K mg base eT 30 fa fd ["script"] (eJ K):=by
 have e:=db.symm.trans (W.mg_of X G bL.1);cases e;obtain⟨z0,z1,z2,z3,z4,z5,z6,z7,z8,z9,U,S,R,Q,P⟩:=z;have T:Txt K mg:=⟨n0.d X G,n1.d X G,n2.d X G,n3.d X G,n4.d X G,n5.d X G,n6.d X G,n7.d X G,n8.d X G,n9.d X G,bK.d X G,bJ.d X G,bI.d X G,bE.d X G,bD.d X G,⟨f,W.mg_of X G da,L⟩,W.mg_none_of X G z0,W.mg_none_of X G z1,W.mg_none_of X G z2,W.mg_none_of X G z3,W.mg_none_of X G z4,W.mg_none_of X G z5,W.mg_none_of X G z6,W.mg_none_of X G z7,W.mg_none_of X G z8,W.mg_none_of X G z9,W.mg_none_of X G U,W.mg_none_of X G S,W.mg_none_of X G R,W.mg_none_of X G Q⟩
 have zM:mg "min"=none:=W.mg_none_of X G P;refine⟨dL,hb,λbase XB _=>?_⟩;have F:=bL.2;have o1:=EW (P:=l.prog) (w:=w) (base:=base) (mg:=mg) (b0.d X G) T;have H:=E6 (b1.d X G) o1;have E:=Xe (P:=l.prog) (w:=w) (base:=base) (mg:=mg) (b2.d X G) T;have o5:=DQ (b3.d X G) T H;have o6:=Ef (b4.d X G) T H;have o7:=E4 (b5.d X G) T E o6;have o8:=Qr (b6.d X G) T o7;have o9:=Jk (b7.d X G) T E H o8;have bC:=Ed (b8.d X G) T E H o5 o6;have bB:=E5 (b9.d X G) T E bC;have bx:=ET (ej.d X G) T E H;have bw:=X1 (eg.d X G) T bx bB o9;have bt:=Eb (P:=l.prog) (w:=w) (base:=base) (mg:=mg) (ed.d X G) T;have bq:=EV (ec.d X G) T bt;have bn:=Jl (P:=l.prog) (w:=w) (base:=base) (mg:=mg) (eb.d X G);have bl:=Be (ea.d X G) T bn;have bk:=EU (d9.d X G) T bw bq bl;have bj:=Dj (P:=l.prog) (w:=w) (base:=base) (mg:=mg) (d6.d X G);have bg:=Di (P:=l.prog) (w:=w) (base:=base) (mg:=mg) (d5.d X G);have bd:=EZ (P:=l.prog) (w:=w) (base:=base) (mg:=mg) (iR.d X G uR) g;have bb:=Cc c4 T b g bd bj;have ba:=EY (iP.d X G uP) T b bb;have a8:=Ea (P:=l.prog) (w:=w) (base:=base) (mg:=mg) c3 T b g;have a7:=An (P:=l.prog) (w:=w) (base:=base) (mg:=mg) c2 T a b g;have k:=Ce (P:=l.prog) (w:=w) (base:=base) (mg:=mg) c1 T zM a;have a6:=Eh (iU.d X G uU) T a b a7 k;have A:=E3 (d4.d X G) b a8 a6;have p:=Bg (P:=l.prog) (w:=w) (base:=base) (mg:=mg) cv T a b g;have a5:=Cf (P:=l.prog) (w:=w) (base:=base) (mg:=mg) (cP:=n) (cR:=q) c0 a;have d:=Am cs a b g p a5 bg;have D:=Ec (P:=l.prog) (w:=w) (base:=base) (mg:=mg) (cP:=n) (cR:=q) cc a k;have m:=yW ce T a b g D;have C:=DN (P:=l.prog) (w:=w) (base:=base) (mg:=mg) cl T a b g;have B:=Cd co T a d;have a3:=Ji (P:=l.prog) (w:=w) (base:=base) (mg:=mg) (cP:=n) (cR:=q) (iW.d X G uW) T N a;have a2:=Bh bN N a b g m;have a1:=Ch bM N a b g p d a2;have aS:=EM (d3.d X G) N a3 a1;have ay:=Jj (d2.d X G) bk;have o:=Eg (d1.d X G) ay ba;have x:=Ee (dV.d X G) T o1;have u:=Dm (dT.d X G) T a x A d m;have t:=Bf (dK.d X G) T a p;have aw:=DP (dG.d X G) T o1 x;have av:=ES (dE.d X G) T aw;have ap:=EX (dN.d X G) o u;have j:=Dk (dv.d X G) a ap;have i:=Ak (du.d X G) a o A aS C t;have y:=DO (dt.d X G) T a o u B av t;have ao:=Dn (P:=l.prog) (w:=w) (base:=base) (mg:=mg) (dr.d X G);have r:=Cb (dq.d X G) T ao;have ah:=Ao (P:=l.prog) (w:=w) (base:=base) (mg:=mg) (dp.d X G) T;have ag:=Cg (P:=l.prog) (w:=w) (base:=base) (mg:=mg) (dh.d X G) T;have Z:=Dl (dg.d X G) T r ag i j;exact Al F T r Z ah i j y
theorem E8{l:W.OpenLaw}{q:Program}{b:O Str}{o:(Str->Option I)->Heap->Prop}{g:World->Heap->Prop}{d:DefRec}{K:Params->W.Frag}(j:l.most=some 63)(c:d.params.defaults=[])(m:∀(w:World)(h:Heap),g w h->(K w.params).In h)
  (F:∀(w:World) (mg:Str->Option I) (e:Y) (h:Heap),(K w.params).In h->h.Ns mainGlobals mg->mg d.name=some (.ref e)-> ∃fd:FuncData,(∀(s:Shared)(u:I),BindsTo s fd ⟨[u],[]⟩ [("script",u)])/\∀base:Heap,(K w.params).In base->base.Ns mainGlobals mg->cG l.prog w (K w.params) mg base eT 30 e fd ["script"] (eJ (K w.params))):
  W.WalkO q b o g l.row.toRowW d [] (λf vs=>PySem.call f vs):=
 L2.nM (n:=63) (k:=30) (x:="script") (CX:=λ_=>eT) (sp:=λw=>eJ (K w.params)) j (by decide) c ⟨J,by decide,by decide⟩ m F (λ_ _ a i k _ n=>⟨a,i,J,n,k,λ_=>rfl⟩) λ_ _ _ _ _ z=>z
end My

structure PySem.W.Fast:Prop where(tw102824586723311587 tw12547278164588482532 tw3135296172414867078 tw17627767572304675665 tw7887454895848499167 tw2201411528251188909 tw8476190587580406444 tw1657796040968122045 tw18209689239403441874 tw11313589740137348616 tw3265647767478916636 tw17921606446636093002 tw8546679407697347566 tw1232791653162551363 tw16368544391524706037 tw1466972098759842950 tw6412692671521101514 tw13297440316802668836 tw5920989241090403030 tw12256303753787681737 tw13197172084905701701 tw1834437415312010779 tw10937564460969959942 tw12111405921375823077 tw2642936579418203411 tw3068623351907431881 tw5342076362347417372 tw6433744419565975843 tw14944960092212972338 tw4364651152796015609 tw1495072614544305806 tw1499578726798527353 tw12212393338181017720 tw16039381231696827472 tw16281979089447526961 tw7697818897064710451 tw12427066215064837466 tw10346246178529407399 tw1053118848152995983 tw1198856482488497400 tw18342304901020135229 tw16175985193098294468 tw8024821347880582919 tw17153073778565004856 tw2899465728551543633 tw6849273447771782047 tw12432522513428633406 tw154971182557774601 tw6862390111264891280 tw6256705972305573299 tw7111935774057438253 tw13079970531588746024 tw12848936825256388904 tw3688581303953045846 tw12870018569528688505 tw8949063291144045792 tw1010487744515288562 tw15291997465660812535 tw5323150925115285805 tw5312792459562130599 tw6689761196215988685 tw6012910024041115070 tw14306554330489824456 tw17847104479221809991 tw16911807656842034409 tw8035139757833827602 tw1793725170321042404 tw1844479573676826282 tw12941299006944739728 tw2308403357862004839 tw935902872167016625 tw17447267178306131174 tw16372824865580182500 tw3446399771277059253 tw4207010373362593275 tw9208997384937219148 tw4981540984835532021 tw15032964727222910941 tw3030175859987289757 tw13957649035407214654 tw8229693172131430632 tw1489047065567164720 tw5664542230047863908 tw8989096422971223275 tw7647391842751591901 tw13266125542343159880 tw15125371508338696042 tw9551722183599939928 tw1954579874490193268 tw13184846311008853044 tw15051076497563802408 tw1869242730687350362 tw5919720186491574989 tw12456652257725791895 tw9357497699485561151 tw16812064721910526293 tw16886401932406085888 tw4454231696338942136 tw14292481677242154461 tw13938085514107184335 tw8860871364642730208 tw8499230850568430405 tw10583548419474544653 tw18296936478985627666 tw772821595276613771 tw8331172720781627092 tw9825944196852771100 tw13985947835492286970 tw15450323345062828480 tw16047746967408644659 tw10398371993112187696 tw14428123133497293070 tw14882524659512905545 tw13986769635392008360 tw2674906209564874940 tw14617977927252249404 tw5172480117516296157 tw8998311415659320839 tw5699555814959064626 tw3817701095915552295 tw17281748932071852690 tw9057529838443444391 tw16755647793105900897 tw7417764941319688981 tw4548862221128156004 tw15208509457219783627 tw8024605817524534091 tw6694749192161899317 tw15186043302006100036 tw7515902310064086364 tw8800685355197152006 tw3447927601207497320 tw6569625998742094937 tw5073873549361259276 tw9360566434721281245 tw3067611109949975923 tw14986705735700475201 tw440052818026983796 tw2322874233516214717 tw17851659289349357887 tw7733291807387711292 tw15290723964592582684 tw1762316971995474271 tw11609324993233559836 tw15056805183301646300 tw1431730603610172968 tw11039697391584592150 tw9137285740565647893 tw3719645110135434551 tw13507289667114278262 tw13939199934082283713 tw3235192074792169761 tw12616095423568080733 tw14007819809672044453 tw15359751207768334230 tw3051871960879963540 tw1314764302493033666 tw16458408055268633929 tw12995199414380166755 tw6627329057433733942 tw13219773866566928519 tw16974591788985729980 tw16989286215193072529 tw10994913882392404158 tw916963803420509436 tw2984715581494476119 tw7880127951574501267 tw4747366591502837549 tw11419064863761037564 tw2753113161844553740 tw5029969195058472897 tw3400800350844719912 tw15299254924572777107 tw7299973776714140688 tw1815884115524254652 tw18109384135317601073 tw9864252942622032476 tw6516046516276709704 tw18410394787968856504 tw6309940767914102329 tw2428778892356505237 tw6302428992546516078 tw4399953845718333010 tw18347888092908172925 tw4154744276808913108 tw16321652056697397810 tw4940774987677047517 tw3744042571264730492 tw13360534761944004369 tw12303195323650161181 tw16212208658360837924 tw16221822734449281640 tw13656256353193031382 tw4425674707817282795 tw9143951900259101985 tw13830865550147710268 tw2981390854622655371 tw9044558808863327217 tw7333641851758356805 tw413903352123393987 tw7960761089351097045 tw15311645352086127700 tw14192108422852983629 tw12561134544375867602 tw1531889684325033955 tw906203524275402953 tw10008490103198852288 tw9431758506382003409 tw14781618891718110582 tw6539209457195733615 tw6955943643270975869 tw9713353405324195756 tw6245472179287143915 tw12025009864794355690 tw1514740510928060068 tw4767934566741807311 tw15856284006688386233 tw7077870662201007370 tw12498992703530008949 tw16690020576855621281 tw2525369085142401233 tw839958124867239498 tw946838829524690860 tw10780527688429500168 tw16164910550113655732 tw7047070580578395484 tw6033054869311444812 tw11805044883209320850 tw4177910906280039850 tw4948398624328951534 tw8408716071611622998 tw18293642851576180962 tw1615222486763843260 tw847022073931384914 tw9824524741437371302 tw2801522597849970022 tw12077195848645507687 tw1284804219388066475 tw3570043010670446924 tw18384494059921608321 tw6508351214833483415 tw3734816751253677073 tw4668161741255347953 tw9075165125297086205 tw1007760965194088901 tw10876350252684321997 tw132767711384534752 tw15399885928829037726 tw16969468173590515118 tw8710174899418286012 tw9350515082213371693 tw2401301556816402458 tw14413578195282854975 tw1132010458504303765 tw18389150472571145027 tw2322255896498558061 tw6996919381229971618 tw6072600514574120041 tw9582665914692717256 tw1566240063844391549 tw6329624917101504332 tw2260881807315839917 tw6723902843321260597 tw10878120989978882290 tw3144796134985775653 tw12040986252646933310 tw3452353181649845616 tw16410015137028949547 tw5310298857160840162 tw1210158862719064005 tw463430119016657591 tw655199817948739123 tw14894239466140121001 tw9384936305344276889 tw14960237481543663942 tw6273260301124683448 tw9685757614809493470 tw5702249458184397390 tw11451115944934142657 tw14078173984862354233 tw16928730876015277807 tw5280073144565762414 tw453018663395578702 tw5370716504120539075 tw14634331791847236014 tw15963514758753346865 tw15947457777821289030 tw12100444193387593162 tw13050822150919768641 tw3288952368056119156 tw17042539318874312964 tw9438253351528475291 tw11453894893412080020 tw1561159981179971602 tw8944404157818088114 tw6722316198116366859 tw15325519228308525423 tw8159118000078918795 tw8314355284374454028 tw3734454862898232667 tw11424429086240889779 tw8577850532803450554 tw4128079794233553863 tw7589940989020273801 tw14609979215722960610 tw1520055777229281075 tw17543516239424741662 tw12706070697210559060 tw924988146220332361 tw18347917236947621253 tw18200646244517269461 tw8386372594626741222 tw6950321199445178143 tw149689766619396258 tw5407921498778739267 tw9524532881347917055 tw1537817241321291792 tw13178974481280623953 tw10095976901404373002 tw17737989814464456627 tw4162108868751440712 tw5691395284613418877 tw13933440754087784891 tw3579609758662317391 tw9712645413604088161 tw4470169695977925315 tw14181349728728405369 tw12103130915732627861 tw12839924528150128033 tw9237539814078990289 tw13445342400955771444 tw10291352851985229052 tw18237202129171442213 tw14654146521951996770 tw14185530935019130552 tw2534465828537170396 tw5379298628388622306:True)
open PySem PySem.W PyProof.Rows
set_option maxRecDepth 100000 in
set_option maxHeartbeats 0 in
theorem PySem.Challenge.cw_meetwall_k19_whole_hands_that_meet_holds : PySem.Challenge.rw_meetwall_k19_whole_hands_that_meet.Holds := by
 w_on;o_law;k_head;(case hw=>w_witness2)
 k_fill
 refine My.E8 (l:=PySem.Challenge.rw_meetwall_k19_whole_hands_that_meet) rfl rfl (λw h Y=>PySem.W.kIn_of Y) ?F
 case F=>
  intro w mg fa h KX G hmg;refine' My.qF (w:=w) KX G hmg ?_ ?_ ?_ ?_ ?_ ?_ ?_ ?_ ?_ ?_ ?_ ?_ ?_ ?_ ?_ ?_ ?_ ?_ ?_ ?_ ?_ ?_ ?_ ?_ ?_ ?_ ?_ ?_ ?_ ?_ ?_ ?_ ?_ ?_ ?_ ?_ ?_ ?bL ?_ ?_ ?_ ?_ ?_ ?_ ?_ ?_ ?_ ?_ ?_ ?_ ?_ ?_ ?_ ?mo3 ?mm3 ?z ?uR ?vR ?iR ?uP ?vP ?iP ?mP0 ?mP1 ?uU ?vU ?iU ?mU0 ?mU1 ?mU2 ?mU3 ?mU4 ?mU5 ?mU6 ?mU7 ?mU8 ?uW ?vW ?iW ?mW0 ?mW1 ?hb
  (case bL=>refine' My.mQ ?a ?l ?c ?k;(case a=>k_is);(case l=>k_is);(case c=>k_is);(case k=>k_is))
  (case hb=>exact λs v=>.of_eq rfl)
  (case z=>refine⟨?_,?_,?_,?_,?_,?_,?_,?_,?_,?_,?_,?_,?_,?_,?_⟩<;>(unfold My.NS;k_is))
  (case mo3=>unfold My.NS;k_is)
  (case mm3=>refine' My.Fw ?a;(case a=>k_is))
  (case uR=>unfold My.NS;k_is)
  (case vR=>refine' My.wX ?a ?b ?c ?d ?e;(case a=>k_is);(case b=>k_is);(case c=>k_is);(case d=>k_is);(case e=>intro f hf;simp only[My.aT,List.mem_cons,List.not_mem_nil,or_false]at hf;rcases hf with rfl|rfl|rfl|rfl|rfl|rfl<;>k_is))
  (case iR=>refine' My.wV ?l ?c ?k ?m1 ?m2 ?m3 ?m4;(case m2=>k_is);(case l=>k_is);(case c=>k_is);(case k=>k_is);(case m1=>k_is);(case m3=>k_is);(case m4=>k_is))
  (case uP=>unfold My.NS;k_is)
  (case vP=>refine' My.wX ?a ?b ?c ?d ?e;(case a=>k_is);(case b=>k_is);(case c=>k_is);(case d=>k_is);(case e=>intro f hf;simp only[My.bO,List.mem_cons,List.not_mem_nil,or_false]at hf;rcases hf with rfl|rfl<;>k_is))
  (case iP=>refine' My.wV ?l ?c ?k ?m1 ?m2 ?m3 ?m4;(case m2=>k_is);(case l=>k_is);(case c=>k_is);(case k=>k_is);(case m1=>k_is);(case m3=>k_is);(case m4=>k_is))
  (case mP0=>refine' My.wU ?l ?c ?k ?m2 ?m3;(case m2=>k_is);(case l=>k_is);(case c=>k_is);(case k=>k_is);(case m3=>k_is))
  (case mP1=>refine' My.wU ?l ?c ?k ?m2 ?m3;(case m2=>k_is);(case l=>k_is);(case c=>k_is);(case k=>k_is);(case m3=>k_is))
  (case uU=>unfold My.NS;k_is)
  (case vU=>refine' My.wX ?a ?b ?c ?d ?e;(case a=>k_is);(case b=>k_is);(case c=>k_is);(case d=>k_is);(case e=>intro f hf;simp only[My.bF,List.mem_cons,List.not_mem_nil,or_false]at hf;rcases hf with rfl|rfl|rfl|rfl|rfl<;>k_is))
  (case iU=>refine' My.wV ?l ?c ?k ?m1 ?m2 ?m3 ?m4;(case m2=>k_is);(case l=>k_is);(case c=>k_is);(case k=>k_is);(case m1=>k_is);(case m3=>k_is);(case m4=>k_is))
  (case mU0=>refine' My.wU ?l ?c ?k ?m2 ?m3;(case m2=>k_is);(case l=>k_is);(case c=>k_is);(case k=>k_is);(case m3=>k_is))
  (case mU1=>refine' My.wU ?l ?c ?k ?m2 ?m3;(case m2=>k_is);(case l=>k_is);(case c=>k_is);(case k=>k_is);(case m3=>k_is))
  (case mU2=>refine' My.wU ?l ?c ?k ?m2 ?m3;(case m2=>k_is);(case l=>k_is);(case c=>k_is);(case k=>k_is);(case m3=>k_is))
  (case mU3=>refine' My.wU ?l ?c ?k ?m2 ?m3;(case m2=>k_is);(case l=>k_is);(case c=>k_is);(case k=>k_is);(case m3=>k_is))
  (case mU4=>refine' My.wU ?l ?c ?k ?m2 ?m3;(case m2=>k_is);(case l=>k_is);(case c=>k_is);(case k=>k_is);(case m3=>k_is))
  (case mU5=>refine' My.wU ?l ?c ?k ?m2 ?m3;(case m2=>k_is);(case l=>k_is);(case c=>k_is);(case k=>k_is);(case m3=>k_is))
  (case mU6=>refine' My.wU ?l ?c ?k ?m2 ?m3;(case m2=>k_is);(case l=>k_is);(case c=>k_is);(case k=>k_is);(case m3=>k_is))
  (case mU7=>refine' My.wU ?l ?c ?k ?m2 ?m3;(case m2=>k_is);(case l=>k_is);(case c=>k_is);(case k=>k_is);(case m3=>k_is))
  (case mU8=>refine' My.wU ?l ?c ?k ?m2 ?m3;(case m2=>k_is);(case l=>k_is);(case c=>k_is);(case k=>k_is);(case m3=>k_is))
  (case uW=>unfold My.NS;k_is)
  (case vW=>refine' My.wX ?a ?b ?c ?d ?e;(case a=>k_is);(case b=>k_is);(case c=>k_is);(case d=>k_is);(case e=>intro f hf;simp only[My.cO,List.mem_cons,List.not_mem_nil,or_false]at hf;rcases hf with rfl|rfl|rfl|rfl|rfl|rfl<;>k_is))
  (case iW=>refine' My.wV ?l ?c ?k ?m1 ?m2 ?m3 ?m4;(case m2=>k_is);(case l=>k_is);(case c=>k_is);(case k=>k_is);(case m1=>k_is);(case m3=>k_is);(case m4=>k_is))
  (case mW0=>refine' My.wU ?l ?c ?k ?m2 ?m3;(case m2=>k_is);(case l=>k_is);(case c=>k_is);(case k=>k_is);(case m3=>k_is))
  (case mW1=>refine' My.wU ?l ?c ?k ?m2 ?m3;(case m2=>k_is);(case l=>k_is);(case c=>k_is);(case k=>k_is);(case m3=>k_is))
  all_goals first|(refine' My.wS ?a ?l ?c ?k;(case a=>k_is);(case l=>k_is);(case c=>k_is);(case k=>k_is))|(refine' My.wW ?a;(case a=>k_is))

import PyProof.Rows.All
import Wide.All
import OpenK.AllK
import Wide.FinOn
import Lean
import PyProof.EqAt
import PyProof.EqKinds
import PyProof.TupleCall
import PyProof.TupleKey
import PyProof.DictFindH
import PyProof.NeData
import PyProof.ListRange
import PyProof.ZipIter
import PyProof.Rows.CallKwBuiltin
import PyProof.MinMaxWalk
import KE.KSortTup
import PyProof.DictItems
import PySem.Challenge.RW_meetwall_k64_no_loose_ones_and_three_tho
set_option Elab.async false
set_option linter.all false
set_option maxRecDepth 100000
set_option maxHeartbeats 4000000
set_option compiler.extract_closed false
noncomputable section
theorem wR(h:True:=by first|exact Or.inl J|exact Or.inr (Or.inl J)|exact Or.inr (Or.inr J)):True:=h
theorem wQ(h:True:=by intro _ _ _ _ _ _ us a;first|exact GJ a (λ_=>rfl)|exact GI a (λ_ _=>rfl)|exact GG a (λ_ _ _=>rfl)|exact GF a (λ_ _ _ _=>rfl)|(cases us<;>first|rfl|cases a)):True:=h
theorem bF{m n:Nat}(h:Nat.ble m n=true:=by rfl):m<=n:=Nat.le_of_ble_eq_true h
theorem J{a:Sort _}{b:a}:b=b:=rfl
abbrev O:=@List
abbrev I:=PySem.Value
abbrev Y:=PySem.Addr
namespace L2
open PySem PySem.Spec PyProof.Rows
noncomputable def _root_.aa:=@wpAny_bind
noncomputable def _root_.ac:=@wpAny_pure
noncomputable def _root_.ae:=@List.length_map
noncomputable def _root_.ai:=@List.mem_cons
noncomputable def _root_.aj:=@Nat.le_refl
noncomputable def _root_.ak:=@Heap.get?_push_of_some
noncomputable def _root_.al:=@Ne.symm
noncomputable def _root_.ao:=@List.getElem?_eq_getElem
noncomputable def _root_.aq:=@Heap.lt_size
noncomputable def _root_.ar:=@List.getD_eq_getElem?_getD
noncomputable def _root_.aw:=@decide_eq_true
noncomputable def _root_.ay:=@List.length_append
noncomputable def _root_.az:=@List.not_mem_nil
noncomputable def _root_.ba:=@List.getElem?_map
noncomputable def _root_.bc:=@List.mem_singleton
noncomputable def _root_.be:=@List.map_append
noncomputable def _root_.bg:=@List.length_singleton
noncomputable def _root_.bh:=@Nat.ne_of_lt
noncomputable def _root_.bi:=@Heap.get?_push_size
noncomputable def _root_.bj:=@Bool.and_eq_true
noncomputable def _root_.bn:=@Bool.true_and
noncomputable def _root_.bp:=@decide_eq_false
noncomputable def _root_.br:=@List.mem_of_getElem?
noncomputable def _root_.bu:=@List.length_take
noncomputable def _root_.bw:=@of_decide_eq_true
noncomputable def _root_.bz:=@List.mem_map
noncomputable def _root_.c6:=@Nat.le_trans
noncomputable def _root_.c7:=@List.getElem?_eq_some_iff
noncomputable def _root_.c8:=@List.mem_cons_self
noncomputable def _root_.ca:=@Nat.lt_of_lt_of_le
noncomputable def _root_.ce:=@List.mem_cons_of_mem
noncomputable def _root_.cg:=@Int.le_refl
noncomputable def _root_.ck:=@List.mem_append
noncomputable def _root_.cm:=@Nat.zero_le
noncomputable def _root_.cn:=@Bool.false_ne_true
noncomputable def _root_.cp:=@Bool.false_and
noncomputable def _root_.cq:=@List.size_toArray
noncomputable def _root_.cu:=@List.length_cons
noncomputable def _root_.cx:=@Nat.lt_irrefl
noncomputable def _root_.cy:=@wpAny_call_entry
noncomputable def _root_.cz:=@Int.toNat_natCast
noncomputable def _root_.da:=@List.length_range
noncomputable def _root_.de:=@List.mem_range
noncomputable def _root_.df:=@wpAny_mono
noncomputable def _root_.dg:=@wpAny_newObj_type
noncomputable def _root_.dh:=@List.length_replicate
noncomputable def _root_.dl:=@List.take_length
noncomputable def _root_.dm:=@List.take_add_one
noncomputable def _root_.dq:=@List.nodup_cons
noncomputable def _root_.dv:=@List.map_cons
noncomputable def _root_.dw:=@Nat.ne_of_gt
noncomputable def _root_.dy:=@List.mem_append_right
noncomputable def _root_.dz:=@List.all_eq_true
noncomputable def _root_.eq:=@List.map_map
noncomputable def _root_.eu:=@List.getElem?_append_left
noncomputable def _root_.ez:=@List.append_nil
noncomputable def _root_.f8:=@List.mem_append_left
noncomputable def _root_.f9:=@Heap.size_push
noncomputable def _root_.fb:=@wpAny_isInstance
noncomputable def _root_.fe:=@List.getElem?_eq_none
noncomputable def _root_.fg:=@Nat.lt_of_le_of_lt
noncomputable def _root_.fi:=@List.mem_replicate
noncomputable def _root_.fj:=@List.mem_iff_getElem
noncomputable def _root_.fk:=@List.pairwise_iff_getElem
noncomputable def _root_.fm:=@Option.map_eq_some_iff
noncomputable def _root_.fo:=@Option.bind_eq_some_iff
noncomputable def _root_.fq:=@List.mem_filter
noncomputable def _root_.fu:=@List.any_eq_true
noncomputable def _root_.fv:=@Int.emod_nonneg
noncomputable def _root_.fw:=@List.replicate_succ'
noncomputable def _root_.fz:=@Option.isSome_iff_exists
noncomputable def _root_.gb:=@List.length_eq_zero_iff
noncomputable def _root_.gc:=@Int.emod_lt_of_pos
noncomputable def _root_.gd:=@List.length_filter_le
noncomputable def _root_.ge:=@Array.getElem?_eq_getElem
noncomputable def _root_.gg:=@Nat.add_le_add_left
noncomputable def _root_.gl:=@decide_eq_decide
abbrev cC:=Sum Int Str
noncomputable def Ko:cC->Value->Bool|.inl k,v=>Value.isInt k v|.inr x,v=>Value.isStrOf x v
noncomputable def yE(w:World):cC->Int|.inl k=>hashInt k|.inr x=>hashStr w x
theorem wt:∀{k:cC}{v:Value},Ko k v=true->(∃i t,k=Sum.inl i/\v=Value.int i t)\/(∃x t,k=Sum.inr x/\v=Value.str x t)
 | .inl i,v,h=>by
   obtain⟨t,e⟩:=Value.isInt_shape h
   simp_all
 | .inr x,v,h=>by
   obtain⟨t,e⟩:=Value.isStrOf_shape h
   simp_all
theorem D9(i:Int)(t:Tok):Ko (.inl i) (.int i t)=true:=by simp[Ko,Value.isInt]
theorem Ea(x:Str)(t:Tok):Ko (.inr x) (.str x t)=true:=by simp[Ko,Value.isStrOf]
theorem AW(a b:Int):decide ((Sum.inl a:cC)=Sum.inl b)=(a==b):=by grind
theorem Ao(a b:Str):decide ((Sum.inr a:cC)=Sum.inr b)=decide (a=b):=by simp
theorem AX(a:Int)(b:Str):decide ((Sum.inl a:cC)=Sum.inr b)=false:=bp (λq=>nomatch q)
theorem An(a:Str)(b:Int):decide ((Sum.inr a:cC)=Sum.inl b)=false:=bp (λq=>nomatch q)
noncomputable def yp(prog:Program)(w:World):PySem.KeyKind prog w cC where
 is:=Ko
 hash:=yE w
 inj:=λv a b W G=>by
  rcases wt W with⟨i,t,rfl,rfl⟩|⟨x,t,rfl,rfl⟩;rcases wt G with⟨j,u,rfl,e⟩|⟨y,u,rfl,e⟩;injection e with B _;rw[B];exact nomatch e
  rcases wt G with⟨j,u,rfl,e⟩|⟨y,u,rfl,e⟩;exact nomatch e
  injection e with B _;rw[B]
 byValue:=λk v h=>by rcases wt h with⟨i,t,rfl,rfl⟩|⟨x,t,rfl,rfl⟩<;>rfl
 pyHash:=λF h=>by rcases wt F with⟨i,t,rfl,rfl⟩|⟨x,t,rfl,rfl⟩;exact wpAny_pyHash_int h;exact wpAny_pyHash_str h
 eqBool:=λU F h=>by rcases wt U with⟨i,t,rfl,rfl⟩|⟨x,t,rfl,rfl⟩;rcases wt F with⟨j,u,rfl,rfl⟩|⟨y,u,rfl,rfl⟩;rw[AW]at h;exact wpAny_eqBool_int h;rw[AX]at h;exact SeqAt.EqAt.int_str i t y u _ _ _ _ h;rcases wt F with⟨j,u,rfl,rfl⟩|⟨y,u,rfl,rfl⟩;rw[An]at h;exact SeqAt.EqAt.str_int x t j u _ _ _ _ h;rw[Ao]at h;exact wpAny_eqBool_str h
 «strs»:=λk x t v h=>by
  rcases wt h with⟨i,u,rfl,e⟩|⟨y,u,rfl,e⟩;exact nomatch e
  injection e with B _;subst B;cases v<;>rfl
theorem FP(prog:Program)(w:World)(i:Int)(t:Tok):(yp prog w).is (.inl i) (.int i t)=true:=D9 i t
theorem FQ(prog:Program)(w:World)(x:Str)(t:Tok):(yp prog w).is (.inr x) (.str x t)=true:=Ea x t
inductive V where|non|bl (b:Bool)|int (i:Int)|str (x:Str)|byt (b:Array UInt8)|flt (b:UInt64)|ref (a:Addr)|ty (n:String)
 deriving DecidableEq
def yu:V->Value->Prop|.non,u=>u=Value.none|.bl b,u=>u=Value.bool b|.int i,u=>∃t,u=Value.int i t|.str x,u=>∃t,u=Value.str x t|.byt b,u=>∃t,u=Value.bytes b t|.flt b,u=>∃t,u=Value.float b t|.ref a,u=>u=Value.ref a|.ty n,u=>u=Value.type n
abbrev yl:List V->List Value->Prop:=Paired yu
theorem yl.length{xs:O V}{us:O I}(r:yl xs us):xs.length=us.length:=Paired.length r
theorem yl.get:∀{xs:List V}{us:List Value}{i:Nat}{x:V},yl xs us->xs[i]?=some x->∃u,us[i]?=some u/\yu x u
 |_,_,_,_,.nil,e=>by grind
 |_,_,0,_,.cons r _,e=>by simp_all
 | _,_,i+1,x,.cons _ t,e=>by
   obtain⟨u,b,a⟩:=yl.get t (by simpa using e)
   simp_all
theorem yl.set{x:V}{u:Value}(r:yu x u):∀{xs:List V}{us:List Value}(i:Nat),yl xs us->yl (xs.set i x) (us.set i u)|_,_,_,.nil=>.nil|_,_,0,.cons _ t=>.cons r t|_,_,i+1,.cons q t=>.cons q (yl.set r i t)
theorem yl.append:∀{xs a:List V}{us ws:List Value},yl xs us->yl a ws->yl (xs++a) (us++ws)|_,_,_,_,.nil,s=>s|_,_,_,_,.cons r t,s=>.cons r (yl.append t s)
theorem yl.take:∀{xs:List V}{us:List Value}(n:Nat),yl xs us->yl (xs.take n) (us.take n)|_,_,0,_=>.nil|_,_,_+1,.nil=>.nil|_,_,n+1,.cons r t=>.cons r (yl.take n t)
theorem yl.drop:∀{xs:List V}{us:List Value}(n:Nat),yl xs us->yl (xs.drop n) (us.drop n)|_,_,0,r=>r|_,_,_+1,.nil=>.nil|_,_,n+1,.cons _ t=>yl.drop n t
def iw:Option V->Option Value->Prop|some v,some u=>yu v u|none,none=>True|_,_=>False
def KV{B:Type}:List (B×V)->List (B×Value)->Prop:=Paired λ(p:B×V) (q:B×Value)=>p.1=q.1/\yu p.2 q.2
noncomputable def kV:cC->V|.inl i=>.int i|.inr x=>.str x
inductive HO where|lst (xs:List V)|tup (xs:List V)|dK (kvs:List (cC×V))|dT (kvs:List (List cC×V))|set (S:Int->Bool) (n:Nat)|ins (C dx:Addr) (fs:List (Str×V))|own (x:Addr)|xd (fs:List (Str×V))|met (f x:Addr)|rng (lo hi:Int)|frz (o:Obj) (u:HO)|tbl (ps:Array Value)|ext (φ:Heap->Prop)
abbrev Hp:=Addr->Option HO
noncomputable def upd(H:Hp)(a:Addr)(o:HO):Hp:=λb=>if b=a then some o else H b
variable{a b:Addr}{o u:HO}{h h':Heap}{H:Hp}{P:Program}{w:World}
theorem ze:upd H a o a=some o:=by unfold upd;rw[if_pos J]
theorem zi(h:b≠a):upd H a o b=H b:=by unfold upd;rw[if_neg h]
theorem Zl(h:H a=some o)(h':H b=some u)(d:o≠u):a≠b:=by grind
theorem zj(h:H a=some o)(h':H b=none):a≠b:=by grind
def fS(h:Heap)(a:Addr):Prop:=∀o,h.get? a=some o->o.dict=none
theorem fS.of{o:Obj}(n:fS h a)(e:h.get? a=some o)(c:h'.get? a=some o):fS h' a:=λq b=>by rw[c]at b;cases b;exact n o e
theorem fS.push{h:Heap}{c:Value}{d:Data}{a:Array (Option Value)}:fS (h.push {cls:=c,dict:=none,data:=d,slots:=a}) h.objs.size:=λq f=>by
 have e:=f;cases b:({cls:=c,dict:=none,data:=d,slots:=a}:Obj).isFreed with|false=>rw[bi _ b]at e;grind| true=>
   simp[Heap.get?,Heap.push,b]at e
   grind
section
variable(P:Program)(w:World)
def wk(H:Hp)(h:Heap)(a:Addr):HO->Prop
 |.lst xs=>xs.length<=sizeLine/\∃(its:List Value)(n:Nat),yl xs its/\h.get? a=some {cls:=.type "list",data:=.seq its.toArray n}
 |.tup xs=>xs.length<=sizeLine/\∃its:List Value,yl xs its/\IsTup h a its.toArray/\fS h a
 |.dK kvs=>kvs.length<=sizeLine/\(a==sysModules)=false/\∃vs,KV kvs vs/\h.DictOf (yp P w) a vs
 |.dT kvs=>kvs.length<=sizeLine/\(a==sysModules)=false/\∃xs:List (List cC×Addr×Value),
  Paired (λ(p:List cC×V) (q:List cC×Addr×Value)=>p.1=q.1/\H q.2.1=some (.tup (p.1.map kV))/\yu p.2 q.2.2) kvs xs/\
  ∃o es ep,h.get? a=some o/\o.ExactDict/\o.data=.dict es ep/\es.toList=xs.map (entryOfKey (tupleKind (yp P w)))/\(xs.map (·.1)).Nodup
 |.set S n=>h.SetOf (intKind P w) a S n
 |.ins C dx fs=>H dx=some (.own a)/\fs.length<=1000/\dx≠a/\h.get? a=some (W.instObj C dx)/\
  ∃mA,h.Ns1 dx mA/\(∀f,iw (fs.lookup f) (mA f))/\PySem.Within mA (fs.map (·.1))
 |.own _=>∃o,h.get? a=some o
 |.xd fs=>∃mA,h.Ns1 a mA/\∀f,iw (fs.lookup f) (mA f)
 |.rng lo hi=>∃t u v,h.get? a=some {cls:=.type "range",data:=.fields #[.int lo t,.int hi u,.int 1 v]}
 |.frz o u=>h.get? a=some o/\wk H h a u
 |.tbl ps=>h.get? a=some {cls:=.none,data:=.fields ps}
 |.met f x=>h.get? a=some (W.methodObj (.ref f) (.ref x))
 |.ext φ=>φ h/\(∃o,h.get? a=some o)/\∀h1 h2:Heap,φ h1->(∀o,h1.get? a=some o->h2.get? a=some o)->φ h2
def aZ(H:Hp)(h:Heap):Prop:=∀a o,H a=some o->wk P w H h a o
end
section
variable{H':Hp}
theorem wk.lt(x:wk P w H h a o):a<h.objs.size:=by cases o with|lst c=>obtain⟨_,_,_,_,e⟩:=x;exact aq e|tup c=>obtain⟨_,_,_,p,_⟩:=x;exact p.lt|dK b=>obtain⟨_,_,_,_,o,_,_,e,_⟩:=x;exact aq e|dT b=>obtain⟨_,_,_,_,o,_,_,e,_⟩:=x;exact aq e|set S n=>obtain⟨o,_,_,_,e,_⟩:=x;exact aq e|ins C l d=>obtain⟨_,_,_,e,_⟩:=x;exact aq e|own y=>obtain⟨_,e⟩:=x;exact aq e|xd d=>obtain⟨_,⟨_,_,_,e,_⟩,_⟩:=x;exact aq e|rng lo k=>obtain⟨_,_,_,e⟩:=x;exact aq e|frz j u=>obtain⟨e,_⟩:=x;exact aq e|tbl i=>exact aq (x)|met f y=>exact aq (x)|ext g=>obtain⟨_,⟨_,e⟩,_⟩:=x;exact aq e
theorem Paired.mapP{g e:Type}{F G:g->e->Prop}:∀{d:List g}{c:List e},Paired F d c->(∀a b,F a b->G a b)->Paired G d c|_,_,.nil,_=>.nil|_,_,.cons r t,f=>.cons (f _ _ r) (Paired.mapP t f)
theorem wk.stay(x:wk P w H h a o)(k:∀b u,(b=a\/H b=some (.own a))->h.get? b=some u->h'.get? b=some u)(K:∀b,H b=some (.own a)->H' b=some (.own a)) (G:∀b xs,H b=some (.tup xs)->H' b=some (.tup xs)):wk P w H' h' a o:=by induction o with|lst xs=>obtain⟨z,l,n,r,e⟩:=x;exact⟨z,l,n,r,k _ _ (.inl J) e⟩|tup xs=>obtain⟨z,l,r,⟨g,e,c⟩,E⟩:=x;exact⟨z,l,r,⟨g,k _ _ (.inl J) e,c⟩,E.of e (k _ _ (.inl J) e)⟩|dK A=>obtain⟨z,y,B,r,g,i,j,e,c⟩:=x;exact⟨z,y,B,r,g,i,j,k _ _ (.inl J) e,c⟩| dT A=>obtain⟨z,y,xs,r,g,i,j,e,c⟩:=x;exact⟨z,y,xs,Paired.mapP r λp q z=>⟨z.1,G _ _ z.2.1,z.2.2⟩,g,i,j,k _ _ (.inl J) e,c⟩|set S n=>obtain⟨g,i,j,t,e,c⟩:=x;exact⟨g,i,j,t,k _ _ (.inl J) e,c⟩| ins C U L=>obtain⟨d,z,D,e,s,⟨m,i,j,M,c⟩,r⟩:=x;exact⟨K _ d,z,D,k _ _ (.inl J) e,s,⟨m,i,j,k _ _ (.inr d) M,c⟩,r⟩|own y=>obtain⟨g,e⟩:=x;exact⟨g,k _ _ (.inl J) e⟩|xd L=>obtain⟨s,⟨m,i,j,e,c⟩,r⟩:=x;exact⟨s,⟨m,i,j,k _ _ (.inl J) e,c⟩,r⟩|rng lo R=>obtain⟨t,u,v,e⟩:=x;exact⟨t,u,v,k _ _ (.inl J) e⟩|frz g u F=>obtain⟨e,q⟩:=x;exact⟨k _ _ (.inl J) e,F q⟩| tbl Q=>have e:=x;exact k a _ (.inl J) e| met f y=>have e:=x;exact k a _ (.inl J) e|ext N=>obtain⟨p,⟨o,e⟩,st⟩:=x;exact⟨st _ _ p λo q=>k _ _ (.inl J) q,⟨o,k _ _ (.inl J) e⟩,st⟩
theorem aZ.lt(x:aZ P w H h)(e:H a=some o):a<h.objs.size:=(x a o e).lt
theorem aZ.fresh(x:aZ P w H h)(e:h.objs.size<=a):H a=none:=by cases q:H a with|none=>rfl|some u=>exact absurd (ca (x.lt q) e) (cx _)
theorem aZ.kept(x:aZ P w H h)(k:∀b u,h.get? b=some u->h'.get? b=some u):aZ P w H h':=λa o e=>(x a o e).stay (λb u _ q=>k b u q) (λ_ q=>q) λ_ _ q=>q
theorem aZ.laid(x:aZ P w H h)(k:∀b u,h.get? b=some u->h'.get? b=some u)(i:h.objs.size<=a)(g:wk P w (upd H a o) h' a o):aZ P w (upd H a o) h':=λb u e=>by have d:=x.fresh i;by_cases f:b=a;subst f;rw[ze]at e;simp_all;rw[zi f]at e;exact(x b u e).stay (λc v _ q=>k c v q) (λc q=>by rw[zi (zj q d)];exact q) λc j q=>by rw[zi (zj q d)];exact q
end
def Rd(H:Hp)(a:Addr)(u:HO):Prop:=H a=some u\/∃o,H a=some (.frz o u)
theorem Rd.ok(r:Rd H a u)(x:aZ P w H h):wk P w H h a u:=by rcases r with r|⟨o,r⟩;exact x a u r;obtain⟨_,q⟩:=x a _ r;exact q
def mH:Option HO->Prop|some (.lst _)=>True|some (.dK _)=>True|some (.dT _)=>True|some (.set _ _)=>True|some (.ins _ _ _)=>True|some (.ext _)=>True|_=>False
section
variable{x e:Addr}{o':HO}
theorem aZ.write(m:aZ P w H h)(g:mH (H x))(he:e=x\/H e=some (.own x))(k:∀b u,b≠e->h.get? b=some u->h'.get? b=some u)(i:∃u,h'.get? e=some u)(n:wk P w (upd H x o') h' x o'):aZ P w (upd H x o') h':=λb u q=>by
 have d:∀c y,H c=some (.own y)->c≠x:=λc y r z=>by subst z;rw[r]at g;exact g
 have a:∀c f,H c=some (.tup f)->c≠x:=λc f r z=>by subst z;rw[r]at g;exact g
 by_cases l:b=x;subst l;rw[ze]at q;simp_all;rw[zi l]at q;by_cases o:b=e;have j:H b=some (.own x):=by simp_all
 rw[q]at j;cases j;obtain⟨v,p⟩:=i;exact⟨v,by simp_all⟩;refine(m b u q).stay (λc v s r=>k c v ?_ r) (λc r=>by rw[zi (d c b r)];exact r) λc f r=>by rw[zi (a c f r)];exact r
 grind
end
structure Un(fs ex:List Addr)(H H':Hp)(h h':Heap):Prop where
 keep:∀b o,h.get? b=some o->H b=none->b ∉ fs->b ∉ ex->h'.get? b=some o
 slot:∀b o,h.get? b=some o->H b=none->b∈fs->b ∉ ex->∃sl,h'.get? b=some {o with slots:=sl}
 free:∀b o,h.get? b=some o->H b=none->b ∉ ex->H' b=none
 there:∀b o,h.get? b=some o->b ∉ ex->∃o',h'.get? b=some o'
 tups:∀b xs,H b=some (.tup xs)->H' b=some (.tup xs)
 frzs:∀b o u,H b=some (.frz o u)->H' b=some (.frz o u)
 tbls:∀b ps,H b=some (.tbl ps)->∃more,H' b=some (.tbl (ps++more))
section
variable{fs GE ex GM:List Addr}{H1 H2:Hp}{h1 h2:Heap}{x e:Addr}
theorem Un.any(u:Un fs ex H H1 h h1){a:Obj}(q:h.get? b=some a)(n:H b=none)(c:b ∉ ex):∃sl,h1.get? b=some {a with slots:=sl}:=by by_cases d:b∈fs;exact u.slot b a q n d c;exact⟨a.slots,u.keep b a q n d c⟩
theorem Un.kept(k:∀b u,h.get? b=some u->h'.get? b=some u):Un fs ex H H h h':=⟨λb a q _ _ _=>k b a q,λb a q _ _ _=>⟨a.slots,k b a q⟩,λ_ _ _ n _=>n,λb a q _=>⟨a,k b a q⟩,λ_ _ q=>q,λ_ _ _ q=>q,λ_ c q=>⟨#[],by simp_all⟩⟩
theorem Un.refl:Un fs ex H H h h:=Un.kept λ_ _ q=>q
theorem Un.laid(k:∀b u,h.get? b=some u->h'.get? b=some u)(e:h.objs.size<=a)(c:H a=none):Un fs ex H (upd H a o) h h' where
 keep:=λb u q _ _ _=>k b u q
 slot:=λb u q _ _ _=>⟨u.slots,k b u q⟩
 free:=λb u q n _=>by rw[zi (bh (ca (aq q) e))];exact n
 there:=λb u q _=>⟨u,k b u q⟩
 tups:=λb d q=>by rw[zi (zj q c)];exact q
 frzs:=λb u d q=>by rw[zi (zj q c)];exact q
 tbls:=λb f q=>⟨#[],by rw[zi (zj q c),q];simp⟩
theorem Un.write(c:mH (H x))(he:e=x\/H e=some (.own x))(k:∀b u,b≠e->h.get? b=some u->h'.get? b=some u)(i:∃u,h'.get? e=some u):Un fs ex H (upd H x o) h h':=by
 have g:∀b,H b=none->b≠x:=λb n z=>by subst z;rw[n]at c;exact c
 have d:∀b,H b=none->b≠e:=λb n z=>by simp_all
 have a:∀b u,H b=some u->¬mH (some u)->b≠x:=λb u q l z=>by simp_all
 refine⟨λb u q n _ _=>k b u (d b n) q,λb u q n _ _=>⟨u.slots,k b u (d b n) q⟩,λb u q n _=>by rw[zi (g b n)];exact n,λb u q _=>?_,λb f q=>by rw[zi (a b _ q λz=>z)];exact q,λb u f q=>by rw[zi (a b _ q λz=>z)];exact q,λb j q=>⟨#[],by rw[zi (a b _ q λz=>z),q];simp⟩⟩
 grind
end
noncomputable def nH(h:Heap)(H:Hp):List Addr:=(List.range h.objs.size).filter λa=>(H a).isSome
noncomputable def Jt(h:Heap)(H:Hp):Heap:=W.hideAll h (nH h H)
theorem D5(h:Heap)(H:Hp):(Jt h H).objs.size=h.objs.size:=W.hideAll_size _ _
theorem CT{o:Obj}(e:h.get? b=some o)(n:H b=none):(Jt h H).get? b=some o:=
 W.hideAll_get _ e λa=>by
  have q:=(fq.mp a).2
  simp_all
theorem Cu{o:Obj}(e:(Jt h H).get? b=some o):h.get? b=some o/\H b=none:=by
 have a:=W.of_hideAll (nH h H) e;refine⟨a,?_⟩;cases q:H b with|none=>rfl| some x=>
   have c:b∈nH h H:=fq.mpr ⟨de.mpr (aq a),by grind⟩;have z:(Jt h H).get? b=none:=W.hideAll_none (nH h H) c
   simp_all
noncomputable def Bd(g h:Heap)(L:Addr):List (Addr×Obj):=(List.range h.objs.size).filterMap λa=>if a=L\/(g.get? a).isSome=true then none else(h.get? a).map λo=>(a,o)
noncomputable def vx(g h:Heap)(L d:Addr):List (Addr×Obj):=(Bd g h L).filter λp=>decide (p.1≠d)
structure Mod(K:W.Frag)(mg:Str->Option Value)(base:Heap):Prop where
 kin:K.In base
 glob:base.Ns mainGlobals mg
 blt:∃mb,base.Ns builtinsNs mb/\∀x:Str,x≠"__name__"->mb x=bootBuiltins x
 nolimit:base.NoLimit
structure Cx where
 prog:Program
 w:World
 K:W.Frag
 mg:Str->Option Value
 base:Heap
 A:Around
 N:List Str
 s₀:Shared
 H₀:Hp
 env:Env
 outer:List Env
 stack:List Env
 ex:List Addr
 fn:Str->Bool
 calm:Bool
 pn:List (Addr×Obj)
 xe:Value->Shared->Prop
noncomputable def aV(l:List Env):List Addr:=l.filterMap (·.frame)
variable{A:Around}{pins bD:List (Addr×Obj)}{σ:List (Option V)}{ch:List Addr}{N:List Str}{i t':Nat}{x:Str}{Q:Unit->Shared->Prop}{v:V}{u:Value}{E:Value->Shared->Prop}
abbrev Cx.fs(X:Cx):List Addr:=aV X.outer
def jZ(B:Scope)(x:Str):Prop:=B.names.lookup x=some .local\/B.names.lookup x=some .cell\/B.names.lookup x=some .free
def Loc(B:Scope)(x:Str):Prop:=B.names.lookup x=some .local\/B.names.lookup x=some .cell
def qV(B:Env)(h:Heap)(m:Str->Option Value)(x:Str)(u:Value):Prop:=(B.kindOf x=some .local/\m x=some u)\/((B.kindOf x=some .cell\/B.kindOf x=some .free)/\∃c,B.cells.lookup x=some c/\h.IsCell c (some u))
structure Cx.Ok(X:Cx):Prop where
 mod:Mod X.K X.mg X.base
 kind:X.env.scope.kind=.function
 glob:X.env.globals=mainGlobals
 blt:X.env.builtins=builtinsNs
 above:X.s₀.heap.objs.size<=X.env.locals
 inj:∀x y c,X.env.cells.lookup x=some c->X.env.cells.lookup y=some c->x=y
 has:∀x,(X.env.kindOf x=some .cell\/X.env.kindOf x=some .free)->∃c,X.env.cells.lookup x=some c
 cab:∀x c,X.fn x=true->X.env.cells.lookup x=some c->X.s₀.heap.objs.size<=c
 hd:X.calm=true->X.A.handled=none
 frames:X.A.frames=some X.stack
 stk:X.stack=X.outer\/(X.stack=X.env::X.outer/\X.env.frame=some X.env.locals)
 exf:∀b∈X.ex,b≠X.env.locals/\∀x c,X.env.cells.lookup x=some c->c≠b
 bs:∀b o,X.base.get? b=some o->X.s₀.heap.get? b=some o/\X.H₀ b=none
 bsz:X.base.objs.size<=X.s₀.heap.objs.size
 noex:∀b o,X.base.get? b=some o->b ∉ X.ex
 exfs:∀b∈X.ex,b ∉ X.fs
 funs:X.s₀.heap.FunFrames X.base X.outer
 frf:∀b∈X.fs,X.H₀ b=none
structure Inv(X:Cx)(pins:List (Addr×Obj))(σ:List (Option V))(H:Hp)(s:Shared):Prop where
 ok:X.Ok
 os:s.os=X.s₀.os
 bare:AllBare s.gens
 base:Un X.fs X.ex X.H₀ H X.s₀.heap s.heap
 loc:∃m,s.heap.Ns X.env.locals m/\∀(i:Nat)(x:Str)(v:V),X.N[i]?=some x->σ[i]?=some (some v)->jZ X.env.scope x->∃u,yu v u/\qV X.env s.heap m x u
 cell:∀x c,X.env.cells.lookup x=some c->∃v,s.heap.IsCell c v
 free:H X.env.locals=none
 freeC:∀x c,X.env.cells.lookup x=some c->H c=none
 pin:∀p∈X.pn++pins,s.heap.get? p.1=some p.2/\H p.1=none/\p.1≠X.env.locals/\p.1 ∉ X.fs/\∀v,p.2.data≠ .cell v
 hok:aZ X.prog X.w H s.heap
 len:σ.length=X.N.length
section
variable{X:Cx}{H':Hp}{s:Shared}
theorem Cx.Ok.nofr(a:X.Ok){o:Obj}(e:X.base.get? b=some o):b ∉ X.fs:=λc=>by
 have:=(a.funs.mem c).1
 simp_all
theorem Inv.bs(I:Inv X pins σ H s):∀b o,X.base.get? b=some o->s.heap.get? b=some o/\H b=none:=λb o e=>⟨I.base.keep b o (I.ok.bs b o e).1 (I.ok.bs b o e).2 (I.ok.nofr e) (I.ok.noex b o e),I.base.free b o (I.ok.bs b o e).1 (I.ok.bs b o e).2 (I.ok.noex b o e)⟩
theorem Inv.bk(I:Inv X pins σ H s):∀b o,X.base.get? b=some o->s.heap.get? b=some o:=λb o e=>(I.bs b o e).1
theorem Inv.mod(I:Inv X pins σ H s):Mod X.K X.mg X.base:=I.ok.mod
theorem Inv.kIn(I:Inv X pins σ H s):X.K.In s.heap:=I.ok.mod.kin.keeps I.bk
theorem Inv.lt(I:Inv X pins σ H s):X.env.locals<s.heap.objs.size:=let⟨_,a,_⟩:=I.loc;a.lt
theorem Inv.sz(I:Inv X pins σ H s):X.s₀.heap.objs.size<=s.heap.objs.size:=c6 I.ok.above (Nat.le_of_lt I.lt)
theorem Inv.nofs(I:Inv X pins σ H s)(h:s.heap.objs.size<=a):a ∉ X.fs:=λc=>by obtain⟨_,o,b,_⟩:=I.ok.funs.mem c;exact absurd (ca (aq b) (c6 I.sz h)) (cx _)
theorem Inv.cne(I:Inv X pins σ H s):∀x c,X.env.cells.lookup x=some c->c≠X.env.locals:=λx c e z=>by
 obtain⟨v,o,f,g⟩:=I.cell x c e;obtain⟨m,⟨d,h,i,a,b,_⟩,_⟩:=I.loc
 simp_all
theorem Inv.funs(I:Inv X pins σ H s):s.heap.FunFrames X.base X.outer:=by
 have d:∀(l:O Env),(∀b∈aV l,b∈X.fs)->X.s₀.heap.FunFrames X.base l->s.heap.FunFrames X.base l:=by intro l;induction l with|nil=>intro _ _;trivial| cons q r h=>intro f m;obtain⟨n,⟨L,o,g,k,j,p⟩,i⟩:=m;have c:=f L (by unfold aV;simp_all);obtain⟨t,e⟩:=I.base.slot L o j (I.ok.frf L c) c λz=>I.ok.exfs L z c;exact⟨n,⟨L,_,g,k,e,p⟩,h (λb a=>f b (by unfold aV;rw[List.filterMap_cons,g];exact ce _ a)) i⟩
 exact d X.outer (λ_ a=>a) I.ok.funs
theorem Inv.stack(I:Inv X pins σ H s):s.heap.FunFrames X.base X.stack:=by rcases I.ok.stk with e|⟨e,b⟩;rw[e];exact I.funs;rw[e];obtain⟨m,a,_⟩:=I.loc;refine .cons (by rw[I.ok.kind];decide) b a ?_ I.funs;exact Heap.get?_none_of_le (c6 I.ok.bsz I.ok.above)
theorem Inv.stkSub(I:Inv X pins σ H s):∀b∈aV X.stack,b∈X.env.locals::X.fs:=λb a=>by
 rcases I.ok.stk with e|⟨e,c⟩
 simp_all
 rw[e]at a;unfold aV at a;rw[List.filterMap_cons,c]at a;exact a
theorem Inv.stkFree(I:Inv X pins σ H s):∀b∈aV X.stack,H b=none:=λb a=>by rcases ai.mp (I.stkSub b a)with e|a;rw[e];exact I.free;obtain⟨_,o,c,_⟩:=I.ok.funs.mem a;exact I.base.free b o c (I.ok.frf b a) λz=>I.ok.exfs b z a
theorem Inv.step{g':Array GenState}{d':Drawn}(I:Inv X pins σ H s)(g:∀b∈ch,(b∈X.ex\/X.s₀.heap.objs.size<=b)/\b≠X.env.locals/\(∀x c,X.env.cells.lookup x=some c->c≠b)/\∀p∈X.pn++pins,p.1≠b)
  (keep:∀b o,b≠X.env.locals->b ∉ X.fs->b ∉ ch->s.heap.get? b=some o->H b=none->h'.get? b=some o)
  (w:∀b o,b≠X.env.locals->b∈X.fs->b ∉ ch->s.heap.get? b=some o->H b=none->∃sl,h'.get? b=some {o with slots:=sl}) (free:∀b o,b ∉ ch->s.heap.get? b=some o->H b=none->H' b=none)
  (y:∀b o,b ∉ ch->s.heap.get? b=some o->∃o',h'.get? b=some o')
  (C:∀b xs,H b=some (.tup xs)->H' b=some (.tup xs)) (G:∀b o u,H b=some (.frz o u)->H' b=some (.frz o u)) (D:∀b ps,H b=some (.tbl ps)->∃F,H' b=some (.tbl (ps++F)))
  (ns:∀m,s.heap.Ns X.env.locals m->h'.Ns X.env.locals m) (hok:aZ X.prog X.w H' h') (hg:AllBare g'):
  Inv X pins σ H' {s with heap:=h',gens:=g',drawn:=d',toks:=t'}:=by
 have E:∀b o,X.s₀.heap.get? b=some o->b≠X.env.locals:=λb o e=>bh (ca (aq e) I.ok.above);have j:∀b o,X.s₀.heap.get? b=some o->b ∉ X.ex->b ∉ ch:=λb o e a A=>by rcases(g b A).1 with z|z;exact a z;exact absurd (ca (aq e) z) (cx _)
 have h:∀x c,X.env.cells.lookup x=some c->∀v,s.heap.IsCell c v->h'.IsCell c v:=λx c e v ⟨o,B,M⟩=>by have f:c ∉ ch:=λz=>(g c z).2.2.1 x c e J;by_cases R:c∈X.fs;obtain⟨sl,q⟩:=w c o (I.cne x c e) R f B (I.freeC x c e);exact⟨_,q,M⟩;exact⟨o,keep c o (I.cne x c e) R f B (I.freeC x c e),M⟩
 refine⟨I.ok,I.os,hg,⟨λb o e n A a=>?_,λb o e n A a=>?_,λb o e n a=>?_,λb o e a=>?_,λb xs e=>C b xs (I.base.tups b xs e),λb o xs e=>G b o xs (I.base.frzs b o xs e),λb ps e=>?_⟩,?_,λx c e=>?_,?_,λx c e=>?_,λp Q=>?_,hok,I.len⟩;exact keep b o (E b o e) A (j b o e a) (I.base.keep b o e n A a) (I.base.free b o e n a);obtain⟨sl,t⟩:=I.base.slot b o e n A a;obtain⟨L,K⟩:=w b _ (E b o e) A (j b o e a) t (I.base.free b o e n a);exact⟨L,K⟩;obtain⟨o',t⟩:=I.base.there b o e a;exact free b o' (j b o e a) t (I.base.free b o e n a);obtain⟨o',t⟩:=I.base.there b o e a;exact y b o' (j b o e a) t;obtain⟨U,t⟩:=I.base.tbls b ps e;obtain⟨S,K⟩:=D b _ t;exact⟨U++S,by rw[K,Array.append_assoc]⟩;obtain⟨m,W,Z⟩:=I.loc;refine⟨m,ns m W,λi x v t K e3=>?_⟩;obtain⟨u,r,l⟩:=Z i x v t K e3;refine⟨u,r,?_⟩;rcases l with l|⟨k,c,e,z⟩;exact .inl l;exact .inr ⟨k,c,e,h x c e _ z⟩;obtain⟨v,z⟩:=I.cell x c e;exact⟨v,h x c e v z⟩;obtain⟨m,⟨o,_,_,B,_⟩,_⟩:=I.loc;exact free _ o (λz=>(g _ z).2.1 J) B I.free;obtain⟨v,o,B,M⟩:=I.cell x c e;exact free c o (λz=>(g c z).2.2.1 x c e J) B (I.freeC x c e);obtain⟨e,n,P,N,d⟩:=I.pin p Q;have f:p.1 ∉ ch:=λz=>(g p.1 z).2.2.2 p Q J;exact⟨keep p.1 p.2 P N f e n,free p.1 p.2 f e n,P,N,d⟩
theorem Inv.un(I:Inv X pins σ H s)(u:Un X.fs [] H H' s.heap h')(hok:aZ X.prog X.w H' h'):Inv X pins σ H' {s with heap:=h',toks:=t'}:=by obtain⟨m,⟨o,q,t,g,r⟩,_⟩:=id I.loc;obtain⟨k,j⟩:=u.any g I.free (by simp);exact I.step (ch:=[]) (λ_ z=>nomatch z) (λb o _ c _ e n=>u.keep b o e n c (by simp)) (λb o _ c _ e n=>u.slot b o e n c (by simp)) (λb o _ e n=>u.free b o e n (by simp)) (λb o _ e=>u.there b o e (by simp)) u.tups u.frzs u.tbls (λp i=>by obtain⟨l,d,f,a,h⟩:=i;rw[g]at a;cases a;exact⟨_,d,f,j,h⟩) hok I.bare
theorem Inv.call{g':Array GenState}{d':Drawn}(I:Inv X pins σ H s)(u:Un (aV X.stack) ch H H' s.heap h')(hok:aZ X.prog X.w H' h')(q:AllBare g')(f:∀b∈ch,(b∈X.ex\/X.s₀.heap.objs.size<=b)/\b≠X.env.locals/\(∀x c,X.env.cells.lookup x=some c->c≠b)/\∀p∈X.pn++pins,p.1≠b):
  Inv X pins σ H' {s with heap:=h',gens:=g',drawn:=d',toks:=t'}:=by obtain⟨m,⟨o,A,B,j,r⟩,_⟩:=id I.loc;obtain⟨v,g⟩:=u.any j I.free λz=>(f _ z).2.1 J;exact I.step f (λb o g t a e n=>u.keep b o e n (λz=>(ai.mp (I.stkSub b z)).elim g t) a) (λb o _ _ a e n=>u.any e n a) (λb o a e n=>u.free b o e n a) (λb o a e=>u.there b o e a) u.tups u.frzs u.tbls (λy l=>by obtain⟨w,h,i,d,k⟩:=l;rw[j]at d;cases d;exact⟨_,h,i,g,k⟩) hok q
theorem Inv.turned{a:Y}(I:Inv X pins σ H s)(k:∀b o,b≠a->s.heap.get? b=some o->h'.get? b=some o)(w:H a=none)(i:a≠X.env.locals)(C:a∈X.ex\/X.s₀.heap.objs.size<=a) (B:∀x c,X.env.cells.lookup x=some c->c≠a) (A:∀p∈X.pn++pins,p.1≠a):Inv X pins σ H {s with heap:=h',toks:=t'}:=by
 have f:∀b u,H b=some u->b≠a:=λb u e z=>by simp_all
 refine I.step (ch:=[a]) (λb y=>?_) (λb o _ _ d e _=>k b o (λz=>d (by grind)) e) (λb o _ _ d e _=>⟨o.slots,k b o (λz=>d (by grind)) e⟩) (λ_ _ _ _ n=>n)
  (λb o d e=>⟨o,k b o (λz=>d (by grind)) e⟩) (λ_ _ e=>e) (λ_ _ _ e=>e) (λb t e=>⟨#[],by simp_all⟩) (λm h=>?_) (λb u e=>?_) I.bare
 grind
 obtain⟨o,j,l,g,r⟩:=h;exact⟨o,j,l,k _ o (al i) g,r⟩;refine(I.hok b u e).stay (λc v d q=>k c v ?_ q) (λ_ q=>q) λ_ _ q=>q
 grind
theorem Inv.tok(I:Inv X pins σ H s)(t:Nat):Inv X pins σ H {s with toks:=t}:=I.un Un.refl I.hok
theorem Inv.kept{t':Nat}(I:Inv X pins σ H s)(k:∀b u,s.heap.get? b=some u->h'.get? b=some u):Inv X pins σ H {s with heap:=h',toks:=t'}:=I.un (Un.kept k) (I.hok.kept k)
theorem Inv.laid{a:Y}{o:HO}{t':Nat}(I:Inv X pins σ H s)(k:∀b u,s.heap.get? b=some u->h'.get? b=some u)(d:s.heap.objs.size<=a)(c:wk X.prog X.w (upd H a o) h' a o):Inv X pins σ (upd H a o) {s with heap:=h',toks:=t'}:=I.un (Un.laid k d (I.hok.fresh d)) (I.hok.laid k d c)
theorem Inv.write{x e:Y}{o:HO}{t':Nat}(I:Inv X pins σ H s)(d:mH (H x))(he:e=x\/H e=some (.own x))(k:∀b u,b≠e->s.heap.get? b=some u->h'.get? b=some u)(a:∃u,h'.get? e=some u)(c:wk X.prog X.w (upd H x o) h' x o):Inv X pins σ (upd H x o) {s with heap:=h',toks:=t'}:=I.un (Un.write d he k a) (I.hok.write d he k a c)
theorem Inv.pins_of(I:Inv X pins σ H s)(h:∀p∈bD,s.heap.get? p.1=some p.2/\H p.1=none/\p.1≠X.env.locals/\p.1 ∉ X.fs/\∀v,p.2.data≠ .cell v):Inv X bD σ H s:=⟨I.ok,I.os,I.bare,I.base,I.loc,I.cell,I.free,I.freeC,λp a=>(ck.mp a).elim (λz=>I.pin p (f8 _ z)) (h p),I.hok,I.len⟩
theorem Q0(c:N.Nodup){j:Nat}(a:N[i]?=some x)(b:N[j]?=some x):i=j:=by obtain⟨g,e⟩:=c7.mp a;obtain⟨f,d⟩:=c7.mp b;exact(List.getElem_inj c).mp (e.trans d.symm)
theorem J6{M:Model}(I:Inv X pins σ H s)(hN:X.N.Nodup)(S:X.N[i]?=some x)(t:Loc X.env.scope x)(r:yu v u)(h:∀s',Inv X pins (σ.set i (some v)) H s'->(∃a,Heap.SameBut a s.heap s'.heap/\(a=X.env.locals\/X.env.cells.lookup x=some a))->Q () s') (hf:X.fn x=true\/X.env.scope.names.lookup x=some .local:=by first|exact .inl J|exact .inr J|assumption):wpAny M A (storeName X.env x u) Q E s:=by
 obtain⟨m,hn,hl⟩:=id I.loc;have P:(X.env.scope.kind==.class ||(X.env.scope.kind==.module && X.env.locals !=X.env.globals))=false:=by rw[I.ok.kind];rfl
 have C:i<σ.length:=by rw[I.len];grind
 have K:=I.cne;have g:∀{a:Y}{N:Heap},(∃o,s.heap.get? a=some o/\H a=none)->Heap.SameBut a s.heap N->aZ X.prog X.w H N:=λ{a N} ha f b ob e=>by
  obtain⟨_,_,am⟩:=ha;refine(I.hok b ob e).stay (λc W w q=>(f.2 c ?_).trans q) (λ_ q=>q) λ_ _ q=>q
  grind
 rcases t with L|L;refine wpAny_storeName_local L hn (λN ah f=>?_) P;obtain⟨oL,_,_,ag,_⟩:=id hn;refine h _ ⟨I.ok,I.os,I.bare,⟨λb o e n G t=>?_,λb o e n G t=>?_,I.base.free,λb o e t=>?_,I.base.tups,I.base.frzs,I.base.tbls⟩,⟨_,ah,λj y Z l B e3=>?_⟩,λy c e=>?_,I.free,I.freeC,λp hp=>?_,g ⟨oL,ag,I.free⟩ f,by simpa using I.len⟩ ⟨_,f,.inl J⟩;exact(f.2 b (bh (ca (aq e) I.ok.above))).trans (I.base.keep b o e n G t);obtain⟨sl,l⟩:=I.base.slot b o e n G t;exact⟨sl,(f.2 b (bh (ca (aq e) I.ok.above))).trans l⟩;obtain⟨o',l⟩:=I.base.there b o e t;exact⟨o',(f.2 b (bh (ca (aq e) I.ok.above))).trans l⟩;by_cases D:j=i;subst D;rw[S]at l;cases l;rw[List.getElem?_set_self C]at B;cases B;exact⟨u,r,.inl ⟨L,by simp⟩⟩;rw[List.getElem?_set_ne (al D)]at B;obtain⟨u',r',q⟩:=hl j y Z l B e3;refine⟨u',r',?_⟩;rcases q with⟨k,e⟩|⟨k,c,e,z⟩;refine .inl ⟨k,?_⟩;have:y≠x:=λe=>D (Q0 hN l (e▸S))
 simp_all
 exact .inr ⟨k,c,e,z.sameBut f (K y c e)⟩;obtain⟨W,z⟩:=I.cell y c e;exact⟨W,z.sameBut f (K y c e)⟩;obtain⟨e,n,R,nf,d⟩:=I.pin p hp;exact⟨(f.2 p.1 R).trans e,n,R,nf,d⟩;have F:X.fn x=true:=by simp_all
 obtain⟨c,w⟩:=I.ok.has x (.inl L);obtain⟨W,z⟩:=I.cell x c w;refine wpAny_storeName_cell I.ok.kind L w z (λN au f=>?_);obtain⟨oc,af,av⟩:=id z;refine h {s with heap:=N} ⟨I.ok,I.os,I.bare,⟨λb o e n G t=>?_,λb o e n G t=>?_,I.base.free,λb o e t=>?_,I.base.tups,I.base.frzs,I.base.tbls⟩,⟨m,hn.sameBut f (al (K x c w)),λj y Z l B e3=>?_⟩,λy U e=>?_,I.free,I.freeC,λp hp=>?_,g ⟨oc,af,I.freeC x c w⟩ f,by simpa using I.len⟩ ⟨c,f,.inr w⟩;exact(f.2 b (bh (ca (aq e) (I.ok.cab x c F w)))).trans (I.base.keep b o e n G t);obtain⟨sl,l⟩:=I.base.slot b o e n G t;exact⟨sl,(f.2 b (bh (ca (aq e) (I.ok.cab x c F w)))).trans l⟩;obtain⟨o',l⟩:=I.base.there b o e t;exact⟨o',(f.2 b (bh (ca (aq e) (I.ok.cab x c F w)))).trans l⟩;by_cases D:j=i;subst D;rw[S]at l;cases l;rw[List.getElem?_set_self C]at B;cases B;exact⟨u,r,.inr ⟨.inl L,c,w,au⟩⟩;rw[List.getElem?_set_ne (al D)]at B;obtain⟨u',r',q⟩:=hl j y Z l B e3;refine⟨u',r',?_⟩;rcases q with q|⟨k,U,e,z'⟩;exact .inl q;refine .inr ⟨k,U,e,z'.sameBut f ?_⟩;rintro rfl;exact D (Q0 hN l (I.ok.inj _ _ _ e w▸S));by_cases ap:U=c
 grind
 obtain⟨w2,z2⟩:=I.cell y U e;exact⟨w2,z2.sameBut f ap⟩;obtain⟨e,n,R,nf,d⟩:=I.pin p hp;refine⟨(f.2 p.1 ?_).trans e,n,R,nf,d⟩
 grind
theorem Qf{M:Model}(I:Inv X pins σ H s)(d:X.N.Nodup)(b:X.N[i]?=some x)(a:Loc X.env.scope x)(r:yu v u)(h:∀s',Inv X pins (σ.set i (some v)) H s'->Q () s') (c:X.fn x=true\/X.env.scope.names.lookup x=some .local:=by first|exact .inl J|exact .inr J|assumption):wpAny M A (storeName X.env x u) Q E s:=
 J6 I d b a r (λs' e _=>h s' e) c
theorem Inv.call'{a:Shared}(I:Inv X pins σ H s)(f:a.os=s.os)(u:Un (aV X.stack) ch H H' s.heap a.heap)(hok:aZ X.prog X.w H' a.heap)(g:AllBare a.gens)(d:∀b∈ch,(b∈X.ex\/X.s₀.heap.objs.size<=b)/\b≠X.env.locals/\(∀x c,X.env.cells.lookup x=some c->c≠b)/\∀p∈X.pn++pins,p.1≠b):Inv X pins σ H' a:=by obtain⟨j,k,l,h,i⟩:=a;have e:=f;subst e;exact I.call u hok g d
end
abbrev XK:=Value->Option Addr->Hp->Prop
abbrev St:=List (Option V)
abbrev VK:=V->Hp->Prop
abbrev TE:=St->Hp->VK->Prop
abbrev TT:=St->Hp->(Bool->Hp->Prop)->Prop
abbrev TA:=St->Hp->(List V->Hp->Prop)->Prop
structure Ends where
 nx:St->Hp->Prop
 rt:VK
 bk:St->Hp->Prop:=λ_ _=>False
 ct:St->Hp->Prop:=λ_ _=>False
variable{X:Cx}{c e:Expr}{pos:Pos}{σ:St}{Q:Value->Shared->Prop}
abbrev TS:=Ends->St->Hp->Prop
abbrev Ends.sq(D:Ends)(u:TS):Ends:={D with nx:=u D}
abbrev Ends.lp(D:Ends)(N:St->Hp->Prop):Ends:={D with nx:=N,ct:=N,bk:=D.nx}
abbrev Ends.of(Q:VK):Ends:={nx:=λ_ H'=>Q .non H',rt:=Q}
inductive EP(X:Cx)(pins:List (Addr×Obj))(σ:St)(Q:VK)(u:Value)(s':Shared):Prop|mk:∀v H',Inv X pins σ H' s'->yu v u->Q v H'->EP X pins σ Q u s'
inductive TP(X:Cx)(pins:List (Addr×Obj))(σ:St)(Q:Bool->Hp->Prop)(b:Bool)(s':Shared):Prop|mk:∀H',Inv X pins σ H' s'->Q b H'->TP X pins σ Q b s'
inductive AP(X:Cx)(pins:List (Addr×Obj))(σ:St)(Q:List V->Hp->Prop)(us:List Value)(s':Shared):Prop|mk:∀vs H',Inv X pins σ H' s'->yl vs us->Q vs H'->AP X pins σ Q us s'
def SP(X:Cx)(B:List (Addr×Obj))(D:Ends)(f:Flow)(F:Shared):Prop:=match f with|.next=>∃σ' H',Inv X B σ' H' F/\D.nx σ' H'|.brk=>∃σ' H',Inv X B σ' H' F/\D.bk σ' H'|.cont=>∃σ' H',Inv X B σ' H' F/\D.ct σ' H'|.ret u=>∃v σ' H',Inv X B σ' H' F/\yu v u/\D.rt v H'
def PE(X:Cx)(e:Expr)(t:TE):Prop:=∀(pins:List (Addr×Obj))(s:Shared)(σ:St)(H:Hp)(Q:VK),Inv X pins σ H s->t σ H Q->wpAny (model X.prog X.w) X.A (eval e X.env) (EP X pins σ Q) X.xe s
def PT(X:Cx)(e:Expr)(t:TT):Prop:=∀(pins:List (Addr×Obj))(s:Shared)(σ:St)(H:Hp)(Q:Bool->Hp->Prop),Inv X pins σ H s->t σ H Q->wpAny (model X.prog X.w) X.A (isTrue e X.env (eval e X.env)) (TP X pins σ Q) X.xe s
def PW(X:Cx)(e:Expr)(t:TT):Prop:=∀(B:Sem Value)(pins:List (Addr×Obj))(s:Shared)(σ:St)(H:Hp)(Q:Bool->Hp->Prop),Inv X pins σ H s->t σ H Q->wpAny (model X.prog X.w) X.A (isTrue e X.env B) (TP X pins σ Q) X.xe s
theorem PW.pt{t:TT}(h:PW X e t):PT X e t:=h _
def PA(X:Cx)(es:List Expr)(t:TA):Prop:=∀(pos:Pos)(pins:List (Addr×Obj))(s:Shared)(σ:St)(H:Hp)(Q:List V->Hp->Prop),Inv X pins σ H s->t σ H Q->wpAny (model X.prog X.w) X.A (spliced (backTo pos (starEach es X.env))) (AP X pins σ Q) X.xe s
def PS(X:Cx)(st:Stmt)(t:TS):Prop:=∀(pins:List (Addr×Obj))(s:Shared)(σ:St)(H:Hp)(D:Ends),Inv X pins σ H s->t D σ H->wpAny (model X.prog X.w) X.A (exec st X.env) (SP X pins D) X.xe s
def dR(X:Cx)(st:List Stmt)(t:TS):Prop:=∀(pins:List (Addr×Obj))(s:Shared)(σ:St)(H:Hp)(D:Ends),Inv X pins σ H s->t D σ H->wpAny (model X.prog X.w) X.A (execs st X.env) (SP X pins D) X.xe s
theorem aF{b:Type}{t:Sem b}{Q Q':b->Shared->Prop}{M:Model}{s:Shared}(h:wpAny M A t Q E s)(c:∀a s,Q a s->Q' a s):wpAny M A t Q' E s:=df h c λ_ _ x=>x
section
def oV:Option (Option V)->(V->Prop)->Prop|some (some v),f=>f v|_,_=>False
theorem Az{o:Option (Option V)}{f:V->Prop}(h:oV o f):∃v,o=some (some v)/\f v:=by match o,h with|some (some v),h=>exact⟨v,J,h⟩
theorem mW{o:Option (Option V)}{f:V->Prop}(e:o=some (some v))(h:f v):oV o f:=by rw[e];exact h
def rC(i:Nat)(B:St)(H:Hp)(Q:VK):Prop:=oV B[i]? λv=>Q v H
def tC(v:V):TE:=λ_ H Q=>Q v H
theorem nz(w:X.N[i]?=some x)(o:jZ X.env.scope x)(g:(x==("__debug__":Str))=false:=by decide)(j:(x==("__classdict__":Str))=false:=by decide):PE X (.Name x pos) (rC i):=by
 intro f s n H Q I h;replace h:=Az h;obtain⟨v,e,h⟩:=h;obtain⟨m,p,t⟩:=I.loc;obtain⟨u,r,l⟩:=t i x v w e o;have d:EP X f n Q u s:=⟨v,H,I,r,h⟩
 rcases l with⟨b,q⟩|⟨b,c,k,a⟩;exact wpAny_Name (wpAny_loadName_local I.ok.kind b p q d) g;rcases b with b|b;exact wpAny_Name (wpAny_loadName_cell I.ok.kind b k a d) g;exact wpAny_Name (wpAny_loadName_free I.ok.kind b k a d j) g
theorem zc{i j a}:PE X (.Constant (.int i) j a) (tC (.int i)):=λ_ _ _ H _ I h=>wpAny_Constant_int ⟨.int i,H,I.tok _,⟨_,J⟩,h⟩
theorem xg{b j a}:PE X (.Constant (.bool b) j a) (tC (.bl b)):=λ_ _ _ H _ I h=>Constant_bool ⟨.bl b,H,I,J,h⟩
theorem qd{j a}:PE X (.Constant .none j a) (tC .non):=λ_ _ _ H _ I h=>Constant_none ⟨.non,H,I,J,h⟩
theorem zu{x j a}:PE X (.Constant (.str x) j a) (tC (.str x)):=λ_ _ _ H _ I h=>Calls.Constant_str ⟨.str x,H,I.tok _,⟨_,J⟩,h⟩
def Gl(X:Cx)(x:Str):Prop:=X.env.kindOf x=some .globalImplicit
theorem Y8{s:Shared}(I:Inv X pins σ H s)(b:Gl X x)(a:X.mg x=some u)(h:Q u s)(c:(x==("__debug__":Str))=false:=by decide):wpAny (model X.prog X.w) X.A (eval (.Name x pos) X.env) Q E s:=
 Calls.Name_function_global I.ok.kind b (Calls.loadGlobal_global (by rw[I.ok.glob];exact I.mod.glob.keeps I.bk) a h) c
theorem Xn{s:Shared}(I:Inv X pins σ H s)(d:Gl X x)(c:X.mg x=none)(a:bootBuiltins x=some u)(h:Q u s)(b:x≠"__name__":=by decide) (e:(x==("__debug__":Str))=false:=by decide):wpAny (model X.prog X.w) X.A (eval (.Name x pos) X.env) Q E s:=by obtain⟨i,g,f⟩:=I.mod.blt;exact Calls.Name_function_global I.ok.kind d (Calls.loadGlobal_builtin (by rw[I.ok.glob];exact I.mod.glob.keeps I.bk) c (by rw[I.ok.blt];exact g.keeps I.bk) ((f x b).trans a) h) e
theorem uo(b:Gl X x)(a:X.mg x=some u)(r:yu v u)(c:(x==("__debug__":Str))=false:=by decide):PE X (.Name x pos) (tC v):=λ_ _ _ H _ I h=>Y8 I b a ⟨v,H,I,r,h⟩ c
theorem tO(d:Gl X x)(c:X.mg x=none)(a:bootBuiltins x=some u)(r:yu v u)(b:x≠"__name__":=by decide)(e:(x==("__debug__":Str))=false:=by decide):PE X (.Name x pos) (tC v):=λ_ _ _ H _ I h=>Xn I d c a ⟨v,H,I,r,h⟩ b e
variable{a b:Expr}{ta tb:TE}
def PC(X:Cx)(op:CmpOp)(a b:Expr)(t:TE):Prop:=
 ∀ (pins:List (Addr×Obj)) (s:Shared) (σ:St) (H:Hp) (Q:VK),Inv X pins σ H s->t σ H Q->
   wpAny (model X.prog X.w) X.A (eval a X.env) (λv B=>wpAny (model X.prog X.w) X.A (eval b X.env) (λu s₂=>wpAny (model X.prog X.w) X.A (compareOp op v u) (EP X pins σ Q) X.xe s₂) X.xe B) X.xe s
theorem uR(b:Expr){op:CmpOp}(h:op≠ .In)(d:op≠ .NotIn):behindInMarks op b=false:=by
 have c:(op==CmpOp.In)=false:=by simp_all
 have a:(op==CmpOp.NotIn)=false:=by simp_all
 cases b<;>simp[behindInMarks,c,a]
inductive wC(Q:Bool->Hp->Prop)(x:V)(H1:Hp):Prop|mk:∀c,x=.bl c->Q c H1->wC Q x H1
def tB(t:TE):TT:=λσ H Q=>t σ H λx H1=>wC Q x H1
theorem AD{op:CmpOp}{t:TE}(h:PC X op a b t)(f:behindInMarks op b=false:=by first|exact uR _ (by decide) (by decide)|rfl):PE X (.Compare a [op] [b] pos) t:=λc s d H Q I e=>wpAny_Compare1 (h c s d H Q I e) f
theorem nA{op:CmpOp}{t:TE}(h:PC X op a b t)(f:behindInMarks op b=false:=by first|exact uR _ (by decide) (by decide)|rfl):PT X (.Compare a [op] [b] pos) (tB t):=by intro e s g H Q I k;refine wpAny_isTrue_Compare1 (aF (h e s g H _ I k) λv r f=>aF f λu p l=>aF l λc o ⟨x,n,m,i,j⟩=>?_) f;obtain⟨d,rfl,q⟩:=j;cases i;exact wpAny_truthy_bool ⟨n,m,q⟩
theorem yz{t:TE}(h:PE X e t)(he:∀a,isTrue e X.env a=(do let v<-a;standAt e.pos;holding [v] (truthy v)):=by intro _;rfl):PT X e (tB t):=by intro b s c H Q I i;refine isTrue_plain (aF (h b s c H _ I i) λv l ⟨x,k,j,f,g⟩=>?_) (he _);obtain⟨d,rfl,q⟩:=g;cases f;exact wpAny_truthy_bool ⟨k,j,q⟩
variable{tA nJ:TT}{vx:List Expr}
def yN(t u:TT):TT:=λσ H Q=>t σ H λc H1=>if c=true then u σ H1 Q else Q false H1
def Gv(t u:TT):TT:=λσ H Q=>t σ H λc H1=>if c=true then Q true H1 else u σ H1 Q
def xM(t:TT):TT:=λσ H Q=>t σ H λc H1=>Q (!c) H1
theorem Zv(f:PT X a tA):PW X (.BoolOp .And [a] pos) tA:=by intro g b s d H Q I h;refine isTrue_and (aF (f b s d H Q I h) λc i e=>?_);cases c with|true=>exact isTrue_and_nil e|false=>exact e
theorem ww(f:PT X a tA):PW X (.BoolOp .Or [a] pos) tA:=by intro g b s d H Q I h;refine isTrue_or (aF (f b s d H Q I h) λc i e=>?_);cases c with|false=>exact isTrue_or_nil e|true=>exact e
theorem Xk(m:PT X a tA)(l:PW X (.BoolOp .And (b::vx) pos) nJ):PW X (.BoolOp .And (a::b::vx) pos) (yN tA nJ):=by intro j d s e H Q I h;refine isTrue_and (aF (m d s e H _ I h) λc k ⟨i,g,f⟩=>?_);cases c with|true=>exact l j d k e i Q g f|false=>exact⟨i,g,f⟩
theorem w5(m:PT X a tA)(l:PW X (.BoolOp .Or (b::vx) pos) nJ):PW X (.BoolOp .Or (a::b::vx) pos) (Gv tA nJ):=by intro j d s e H Q I h;refine isTrue_or (aF (m d s e H _ I h) λc k ⟨i,g,f⟩=>?_);cases c with|true=>exact⟨i,g,f⟩|false=>exact l j d k e i Q g f
theorem xz(e:PT X a tA):PT X (.UnaryOp .Not a pos) (xM tA):=by intro b s d H Q I h;exact isTrue_not (aF (e b s d H (λc f=>Q (!c) f) I h) λ_ _ ⟨g,i,q⟩=>⟨g,i,q⟩)
inductive gt(tb:TE)(σ:St)(Q:VK)(x:V)(H1:Hp):Prop|mk:∀c,x=.bl c->(if c=true then tb σ H1 Q else Q (.bl false) H1)->gt tb σ Q x H1
def zB(F B:TE):TE:=λσ H Q=>F σ H λx H1=>gt B σ Q x H1
inductive jC(tb:TE)(σ:St)(Q:VK)(x:V)(H1:Hp):Prop|mk:∀c,x=.bl c->(if c=true then Q (.bl true) H1 else tb σ H1 Q)->jC tb σ Q x H1
def xN(F B:TE):TE:=λσ H Q=>F σ H λx H1=>jC B σ Q x H1
inductive fZ(Q:VK)(x:V)(H1:Hp):Prop|mk:∀c,x=.bl c->Q (.bl (!c)) H1->fZ Q x H1
def Ai(B:TE):TE:=λσ H Q=>B σ H λx H1=>fZ Q x H1
theorem qc{op}{t:TE}(h:PE X a t):PE X (.BoolOp op [a] pos) t:=λb s c H Q I d=>BoolOp_one (h b s c H Q I d)
theorem jb(m:PE X a ta)(l:PE X (.BoolOp .And (b::vx) pos) tb):PE X (.BoolOp .And (a::b::vx) pos) (zB ta tb):=by intro d s f H Q I h;refine BoolOp_and (aF (m d s f H _ I h) λv j ⟨x,i,g,k,e⟩=>?_);obtain⟨c,rfl,e⟩:=e;cases k;refine wpAny_truthy_bool ?_;cases c with|true=>exact l d j f i Q g e|false=>exact⟨.bl false,i,g,J,e⟩
theorem rL(m:PE X a ta)(l:PE X (.BoolOp .Or (b::vx) pos) tb):PE X (.BoolOp .Or (a::b::vx) pos) (xN ta tb):=by intro d s f H Q I h;refine BoolOp_or (aF (m d s f H _ I h) λv j ⟨x,i,g,k,e⟩=>?_);obtain⟨c,rfl,e⟩:=e;cases k;refine wpAny_truthy_bool ?_;cases c with|false=>exact l d j f i Q g e|true=>exact⟨.bl true,i,g,J,e⟩
theorem pF(g:PE X a ta):PE X (.UnaryOp .Not a pos) (Ai ta):=by intro b s e H Q I h;refine UnaryOp_ (aF (g b s e H _ I h) λv k ⟨x,j,i,f,d⟩=>?_);obtain⟨c,rfl,d⟩:=d;cases f;exact not_of (wpAny_truthy_bool ⟨.bl (!c),j,i,J,d⟩)
def Gw(t:TT)(F B:TE):TE:=λσ H Q=>t σ H λc H1=>if c=true then F σ H1 Q else B σ H1 Q
theorem DQ(l:PT X c tA)(n:PE X a ta)(m:PE X b tb):PE X (.IfExp c a b pos) (Gw tA ta tb):=by intro e s f H Q I h;refine wpAny_IfExp (aF (l e s f H _ I h) λd g ⟨k,j,i⟩=>?_);cases d with|true=>exact n e g f k Q j i|false=>exact m e g f k Q j i
end
def aE(K:W.Frag)(H:Hp)(a:Addr)(xs:List V):Prop:=
 Rd H a (.lst xs)\/
  ∃(o:Obj)(its:Array Value)(n:Nat),K.lookup a=some o/\o.cls=.type "list"/\o.dict=none/\o.data=.seq its n/\its.size<=sizeLine/\yl xs its.toList
def aD(K:W.Frag)(H:Hp)(a:Addr)(xs:List V):Prop:=
 Rd H a (.tup xs)\/
  ∃(o:Obj)(its:Array Value)(n:Nat),K.lookup a=some o/\o.cls=.type "tuple"/\o.data=.seq its n/\its.size<=sizeLine/\yl xs its.toList
noncomputable def xB:Value->Option V|.none=>some .non|.bool b=>some (.bl b)|.int i _=>some (.int i)|.str x _=>some (.str x)|.bytes b _=>some (.byt b)|.float b _=>some (.flt b)|.ref a=>some (.ref a)|.type n=>some (.ty n)|_=>none
theorem yu.abs{x:V}(r:yu x u):xB u=some x:=by cases x with|non=>cases r;rfl|bl _=>cases r;rfl|int _=>obtain⟨t,rfl⟩:=r;rfl|str _=>obtain⟨t,rfl⟩:=r;rfl|byt _=>obtain⟨t,rfl⟩:=r;rfl|flt _=>obtain⟨t,rfl⟩:=r;rfl|ref _=>cases r;rfl|ty _=>cases r;rfl
theorem yu.inj{x y:V}{u:I}(r:yu x u)(q:yu y u):x=y:=Option.some.inj (r.abs.symm.trans q.abs)
theorem yl.inj:∀{xs a:List V}{us:List Value},yl xs us->yl a us->xs=a|_,_,_,.nil,.nil=>rfl|_,_,_,.cons r t,.cons c b=>by rw[r.inj c,yl.inj t b]
section
variable{s:Shared}{xs ys:List V}
theorem aE.of{K:W.Frag}(h:H a=some (.lst xs)):aE K H a xs:=.inl (.inl h)
theorem aD.of{K:W.Frag}(h:H a=some (.tup xs)):aD K H a xs:=.inl (.inl h)
theorem Inv.list(I:Inv X pins σ H s)(h:aE X.K H a xs):∃its:O Value,yl xs its/\PlainL s.heap a its.toArray/\xs.length<=sizeLine:=by
 rcases h with h|⟨o,its,n,b,d,c,g,f,r⟩;obtain⟨z,its,n,r,e⟩:=h.ok I.hok;exact⟨its,r,⟨_,n,e,J,J,J⟩,z⟩;refine⟨its.toList,r,⟨o,n,I.kIn a o b,d,c,by omega⟩,?_⟩;have e:=r.length
 simp_all
theorem Inv.tuple(I:Inv X pins σ H s)(h:aD X.K H a xs):∃its:O Value,yl xs its/\IsTup s.heap a its.toArray/\xs.length<=sizeLine:=by
 rcases h with h|⟨o,its,n,b,c,f,d,r⟩;obtain⟨z,its,r,p,_⟩:=h.ok I.hok
 grind
 refine⟨its.toList,r,⟨o,I.kIn a o b,c,n,by omega⟩,?_⟩;have e:=r.length
 simp_all
theorem Inv.list_inj(I:Inv X pins σ H s)(h:aE X.K H a xs)(h':aE X.K H a ys):xs=ys:=by
 obtain⟨c,r,⟨o,n,e,_,_,d⟩,_⟩:=I.list h;obtain⟨b,i,⟨j,k,f,_,_,g⟩,_⟩:=I.list h';rw[e]at f;cases f;rw[d]at g;injection g with l _;have:c=b:=by simp_all
 subst this;exact r.inj i
theorem Inv.tuple_inj(I:Inv X pins σ H s)(h:aD X.K H a xs)(h':aD X.K H a ys):xs=ys:=by
 obtain⟨c,r,⟨o,e,_,n,d⟩,_⟩:=I.tuple h;obtain⟨b,i,⟨j,f,_,k,g⟩,_⟩:=I.tuple h';rw[e]at f;cases f;rw[d]at g;injection g with l _;have:c=b:=by simp_all
 subst this;exact r.inj i
end
abbrev Cx.wish(X:Cx)(E:Value->Shared->Prop):Cx:={X with xe:=E}
abbrev Cx.nox(X:Cx):Cx:=X.wish λ_ _=>False
theorem Cx.Ok.wish{X:Cx}(a:X.Ok)(E:I->Shared->Prop):(X.wish E).Ok:=⟨a.mod,a.kind,a.glob,a.blt,a.above,a.inj,a.has,a.cab,a.hd,a.frames,a.stk,a.exf,a.bs,a.bsz,a.noex,a.exfs,a.funs,a.frf⟩
theorem Cx.Ok.unwish(a:(X.wish E).Ok):X.Ok:=⟨a.mod,a.kind,a.glob,a.blt,a.above,a.inj,a.has,a.cab,a.hd,a.frames,a.stk,a.exf,a.bs,a.bsz,a.noex,a.exfs,a.funs,a.frf⟩
section
variable{s:Shared}
theorem Inv.wish(I:Inv X pins σ H s)(E:Value->Shared->Prop):Inv (X.wish E) pins σ H s:=⟨I.ok.wish E,I.os,I.bare,I.base,I.loc,I.cell,I.free,I.freeC,I.pin,I.hok,I.len⟩
theorem Inv.unwish(I:Inv (X.wish E) pins σ H s):Inv X pins σ H s:=⟨I.ok.unwish,I.os,I.bare,I.base,I.loc,I.cell,I.free,I.freeC,I.pin,I.hok,I.len⟩
theorem SP.unwish{D:Ends}{f:Flow}{c:Shared}(h:SP (X.wish E) pins D f c):SP X pins D f c:=by cases f with|next=>obtain⟨a,b,I,q⟩:=h;exact⟨a,b,I.unwish,q⟩|brk=>obtain⟨a,b,I,q⟩:=h;exact⟨a,b,I.unwish,q⟩|cont=>obtain⟨a,b,I,q⟩:=h;exact⟨a,b,I.unwish,q⟩|ret u=>obtain⟨v,a,b,I,r,q⟩:=h;exact⟨v,a,b,I.unwish,r,q⟩
theorem dR.nox{st:O Stmt}{t:TS}(h:dR X.nox st t):dR X st t:=λa s b H D I c=>df (h a s b H D (I.wish _) c) (λ_ _ q=>q.unwish) λ_ _ z=>False.elim z
end
section
variable{st:Stmt}{vx:List Stmt}{t u:TS}{te:TE}
def Yd:TS:=λD σ H=>D.nx σ H
def W2(t u:TS):TS:=λD σ H=>t (D.sq u) σ H
theorem zt:dR X [] Yd:=λ_ _ a H _ I h=>wpAny_execs_nil ⟨a,H,I,h⟩
theorem zd(g:PS X st t)(e:dR X vx u):dR X (st::vx) (W2 t u):=by intro a s c H D I h;refine wpAny_execs_cons (aF (g a s c H (D.sq u) I h) λf d q=>?_);cases f with| next=>obtain⟨b,j,i,q⟩:=q;exact e a d b j D i q|ret v=>exact q|brk=>exact q|cont=>exact q
theorem zf(c:PS X st t):dR X [st] t:=by intro a s b H D I h;refine wpAny_execs_cons (aF (c a s b H D I h) λf d q=>?_);cases f with|next=>exact wpAny_execs_nil q|ret v=>exact q|brk=>exact q|cont=>exact q
theorem Inv.quiet{s:Shared}(I:Inv X pins σ H s):interactive X.env=false:=by simp[interactive,I.ok.kind]
def zD(te:TE):TS:=λD σ H=>te σ H λ_ H1=>D.nx σ H1
theorem we(he:PE X e te)(hs:swapsWith e none pos.line X.env=pure false:=by rfl):PS X (.Expr e pos) (zD te):=by intro a s b H D I h;exact wpAny_Expr_any (aF (he a s b H _ I h) λv g ⟨x,f,d,i,c⟩=>⟨b,f,d,c⟩) I.quiet hs
def rA(te:TE):TS:=λD σ H=>te σ H D.rt
theorem zk(he:PE X e te):PS X (.Return (some e) pos) (rA te):=by intro a s b H D I h;exact wpAny_Return_some (aF (he a s b H _ I h) λv i ⟨x,g,f,c,d⟩=>⟨x,b,g,f,c,d⟩)
def Qd(c:TT)(t u:TS):TS:=λD σ H=>c σ H λb H1=>if b=true then t D σ H1 else u D σ H1
theorem yd{a b:List Stmt}{g:TT}(m:PT X c g)(o:dR X a t)(n:dR X b u):PS X (.If c a b pos) (Qd g t u):=by intro e s f H D I h;refine wpAny_If (aF (m e s f H _ I h) λd i ⟨l,k,j⟩=>?_);cases d with|true=>exact o e i f l D k j|false=>exact n e i f l D k j
def Bo:TS:=λ_ _ _=>False
theorem Dy:PS X st Bo:=λ_ _ _ _ _ _ h=>h.elim
end
abbrev TG:=V->St->Hp->(St->Hp->Prop)->Prop
variable{es:List Expr}{aS:List Stmt}{te:TE}
abbrev lO:=List V->St->Hp->(St->Hp->Prop)->Prop
def PG(X:Cx)(B:Expr)(t:TG):Prop:=
 ∀ (pins:List (Addr×Obj)) (s:Shared) (σ:St) (H:Hp) (v:V) (u:Value) (Q:St->Hp->Prop),Inv X pins σ H s->yu v u->t v σ H Q->
   wpAny (model X.prog X.w) X.A (assign B X.env u) (λ_ s'=>∃σ' H',Inv X pins σ' H' s'/\Q σ' H') X.xe s
def nV(X:Cx)(B:List Expr)(t:lO):Prop:=
 ∀ (pins:List (Addr×Obj)) (s:Shared) (σ:St) (H:Hp) (vs:List V) (us:List Value) (Q:St->Hp->Prop),Inv X pins σ H s->yl vs us->t vs σ H Q->
   wpAny (model X.prog X.w) X.A (assignInOrder ((assignEach B X.env).map (·.2)) us) (λ_ s'=>∃σ' H',Inv X pins σ' H' s'/\Q σ' H') X.xe s
abbrev lV:=V->V->V->Hp->(Hp->Prop)->Prop
def oj(X:Cx)(t:lV):Prop:=
 ∀ (pins:List (Addr×Obj)) (s:Shared) (σ:St) (H:Hp) (o i v:V) (ov B u:Value) (Q:Hp->Prop),Inv X pins σ H s->yu o ov->yu i B->yu v u->t o i v H Q->
   wpAny (model X.prog X.w) X.A (setItem ov B u) (λ_ s'=>∃H',Inv X pins σ H' s'/\Q H') X.xe s
abbrev qO:=V->V->Hp->VK->Prop
def wT(X:Cx)(op:Operator)(t:qO):Prop:=
 ∀ (pins:List (Addr×Obj)) (s:Shared) (σ:St) (H:Hp) (x y:V) (v u:Value) (Q:VK),Inv X pins σ H s->yu x v->yu y u->t x y H Q->
   wpAny (model X.prog X.w) X.A (inplaceOp op v u) (EP X pins σ Q) X.xe s
section
def v9(i:Nat):TG:=λv σ H Q=>Q (σ.set i (some v)) H
theorem zw(e:X.N.Nodup)(c:X.N[i]?=some x:=by rfl)(b:Loc X.env.scope x:=by first|exact Or.inl J|exact Or.inr J|assumption)(d:X.fn x=true\/X.env.scope.names.lookup x=some .local:=by first|exact .inl J|exact .inr J|assumption):PG X (.Name x pos) (v9 i):=by intro a s g H v u Q I r h;exact wpAny_assign_Name (Qf I e c b r (λj f=>⟨_,H,f,h⟩) d)
def lU:lO:=λvs σ H Q=>vs=[]/\Q σ H
inductive bR(t:TG)(u:lO)(vs:List V)(σ:St)(H:Hp)(Q:St->Hp->Prop):Prop|mk:∀v r,vs=v::r->(t v σ H λσ' H'=>u r σ' H' Q)->bR t u vs σ H Q
theorem ql:nV X [] lU:=by intro a s b H c d Q I r h;obtain⟨e,h⟩:=h;subst e;cases r;exact assignInOrder_nil ⟨b,H,I,h⟩
theorem yn{t:TG}{u:lO}(j:PG X e t)(i:nV X es u)(hs:(assignEach (e::es) X.env).map (·.2)=assign e X.env::(assignEach es X.env).map (·.2):=by rfl):nV X (e::es) (bR t u):=by intro a s c H n p Q I r h;obtain⟨v,o,k,h⟩:=h;subst k;cases r with| cons r f=>rw[hs];refine assignInOrder_cons (aF (j a s c H _ _ _ I r h) λ_ d ⟨b,m,l,g⟩=>?_);exact i a d b m _ _ Q l f g
inductive fM(K:W.Frag)(n:Nat)(t:lO)(v:V)(σ:St)(H:Hp)(Q:St->Hp->Prop):Prop|mk:∀a xs,v=.ref a->aD K H a xs->xs.length=n->t xs σ H Q->fM K n t v σ H Q
theorem ju{k:Nat}{t:lO}{n:Nat}(y:X.calm=true)(h:nV X es t)(w:(assignEach es X.env).length=n:=by rfl) (f:(assignEach es X.env).findIdx? (·.1)=none:=by rfl):PG X (.Tuple es k pos) (fM X.K n t):=by intro c s g H v u Q I r d;obtain⟨a,i,z,q,x,d⟩:=d;subst z;cases r;obtain⟨l,j,p,B⟩:=I.tuple q;refine assign_Tuple_tuple (I.ok.hd y) p (by simp[w,<-x,j.length]) f λC m=>?_;have A:=I.kept (t':=s.toks) λb o e=>m b o (bh (aq e)) e;exact h c _ g H i _ Q A (by omega) d
def xH(to B:TE)(t:lV):TG:=λv σ H Q=>to σ H λo H1=>B σ H1 λi H2=>t o i v H2 λF=>Q σ F
theorem Zx{o i:Expr}{to d:TE}{t:lV}(n:PE X o to)(p:PE X i d)(hs:oj X t)(q:∀v,assign (.Subscript o i pos) X.env v=(do
   let ov<-holding [v] (eval o X.env);let b<-holding [v,ov] (eval i X.env)
   standAt pos
   holding [v,ov,b] (setItem ov b v)
   release [v,ov,b] []):=by intro _;rfl):PG X (.Subscript o i pos) (xH to d t):=by intro a s c H v u Q I r h;rw[q];refine aa (wpAny_holding (aF (n a s c H _ I h) λov f ⟨x,D,A,j,m⟩=>?_));refine aa (wpAny_holding (aF (p a f c D _ A m) λb e ⟨y,C,z,g,l⟩=>?_));refine aa (wpAny_standAt (aa (wpAny_holding (aF (hs a e c C x y v ov b u _ z j g r l) λ_ E ⟨B,w,k⟩=>?_))));exact wpAny_release ⟨c,B,w,k⟩
def W3(te:TE)(g:TG):TS:=λD σ H=>te σ H λx H1=>g x σ H1 D.nx
theorem jj{b:Expr}{g:TG}(he:PE X e te)(k:PG X b g)(hs:swapsWithSole [b] e pos.line X.env=pure false:=by rfl)(j:swappedStores [b] e X.env=pure none:=by rfl)
  (l:(assignEach [b] X.env).map (·.2)=[assign b X.env]:=by rfl):PS X (.Assign [b] e pos) (W3 te g):=by intro a s c H D I h;refine wpAny_Assign_stores (aF (he a s c H _ I h) λv d ⟨x,n,m,f,i⟩=>?_) hs j;rw[l];exact aF (k a d c n x v _ m f i) λ_ o q=>q
theorem ya{b:Pos}(l:X.N.Nodup)(he:PE X e te)(j:X.N[i]?=some x:=by rfl)(g:Loc X.env.scope x:=by first|exact Or.inl J|exact Or.inr J|assumption)(hs:swapsWith e (some (.Name x b)) pos.line X.env=pure false:=by rfl)(k:X.fn x=true\/X.env.scope.names.lookup x=some .local:=by first|exact .inl J|exact .inr J|assumption):PS X (.Assign [.Name x b] e pos) (W3 te (v9 i)):=by intro a s c H D I h;refine wpAny_Assign_Name (aF (he a s c H _ I h) λv q ⟨y,o,n,d,f⟩=>?_) hs;exact Qf n l j g d (λp m=>⟨_,o,m,f⟩) k
def zC(to U te:TE)(F:V->V->Hp->VK->Prop)(G:qO)(B:lV):TS:=λD σ H=>to σ H λo H1=>U σ H1 λi H2=>F o i H2 λx H3=>te σ H3 λy H4=>G x y H4 λz H5=>B o i z H5 λW=>D.nx σ W
def qX(X:Cx)(t:V->V->Hp->VK->Prop):Prop:=
 ∀ (pins:List (Addr×Obj)) (s:Shared) (σ:St) (H:Hp) (o i:V) (ov B:Value) (Q:VK),Inv X pins σ H s->yu o ov->yu i B->t o i H Q->
   wpAny (model X.prog X.w) X.A (getItem ov B) (EP X pins σ Q) X.xe s
theorem ut{o i:Expr}{to m:TE}{d:V->V->Hp->VK->Prop}{j:qO}{c:lV}{op:Operator}{U:Pos}(P:PE X o to)(Q:PE X i m)(R:qX X d)(he:PE X e te)(N:wT X op j)(hs:oj X c)(S:∀ov g b,augStore i ov g b=(do holding [b,ov,g] (setItem ov g b);release [b,ov,g] [];pure .next):=by intros;rfl):PS X (.AugAssign (.Subscript o i U) op e pos) (zC to m te d j c):=by intro a s f H D I h;refine wpAny_AugAssign_SubscriptAny (aF (P a s f H _ I h) λov z ⟨l,H1,I1,p,M⟩=>?_) S;refine aF (Q a z f H1 _ I1 M) λg y ⟨k,H2,I2,n,L⟩=>?_;refine aF (R a y f H2 l k ov g _ I2 p n L) λW x ⟨t,H3,I3,C,K⟩=>?_;refine aF (he a x f H3 _ I3 K) λv w ⟨r,H4,I4,B,G⟩=>?_;refine aF (N a w f H4 t r W v _ I4 C B G) λb u ⟨q,H5,I5,A,F⟩=>?_;exact aF (hs a u f H5 l k q ov g b _ I5 p n A F) λ_ s6 ⟨H6,Z,E⟩=>⟨f,H6,Z,E⟩
inductive wK(f:Int->Int->Int)(x y:V)(H:Hp)(Q:VK):Prop|mk:∀i j,x=.int i->y=.int j->Q (.int (f i j)) H->wK f x y H Q
theorem rX:wT X .Add (wK λi j=>i+j):=by intro a s f H x y v u Q I c b h;obtain⟨i,j,e,d,q⟩:=h;subst e;subst d;obtain⟨t,rfl⟩:=c;obtain⟨g,rfl⟩:=b;exact iadd_int ⟨.int _,H,I.tok _,⟨_,J⟩,q⟩
end
section
inductive fV(c:TT)(tb:TS)(D:Ends)(σ:St)(H:Hp):Prop|mk:∀W:Nat->St->Hp->Prop,(∃m,W m σ H)->(∀m σ H,W m σ H-> c σ H λb H1=>if b=true then∃N:St->Hp->Prop,(∀σ' H',N σ' H'->∃m',m'<m/\W m' σ' H')/\tb (D.lp N) σ H1 else D.nx σ H1)->fV c tb D σ H
theorem uV{t:TT}{u:TS}(w:PassesOwn (model X.prog X.w) X.A X.env X.xe)(P:PT X c t)(Q:dR X aS u):PS X (.While c aS [] pos) (fV t u):=by
 intro d s C H D I h;obtain⟨W,⟨M,F⟩,i⟩:=h;refine wpAny_While (codeAny_whileLoop (λn L=>∃g B,Inv X d g B L/\W n g B) ?_ M ⟨C,H,I,F⟩);rintro n K ⟨e,A,R,E⟩;refine wpAny_passesOwn w (aF (P d K e A _ R (i n e A E)) λb G ⟨z,y,l⟩=>?_);cases b with
 | true=>
   obtain⟨N,x,l⟩:=l;rw[if_pos J];refine wpAny_passesOwn w (aF (Q d G e z _ y l) λf S k=>?_);cases f with
   | next=>obtain⟨a,j,r,o⟩:=k;obtain⟨p,q,m⟩:=x a j o;exact⟨p,q,a,j,r,m⟩
   | cont=>obtain⟨a,j,r,o⟩:=k;obtain⟨p,q,m⟩:=x a j o;exact⟨p,q,a,j,r,m⟩
   |brk=>exact k
   |ret v=>exact k
 | false=>rw[if_neg cn];exact wpAny_execs_nil ⟨e,z,y,l⟩
end
structure It where
 go:Nat->Hp->Prop
 yld:Nat->Hp->V->Hp->Prop
 stop:Nat->Hp->Prop
def Vw(X:Cx)(B:List (Addr×Obj))(H:Hp)(b:Addr):Prop:=H b=none/\b≠X.env.locals/\b ∉ X.fs/\(b∈X.ex\/X.s₀.heap.objs.size<=b)/\(∀x c,X.env.cells.lookup x=some c->c≠b)/\∀p∈X.pn++B,p.1≠b
theorem Inv.fpOk{d:Hp}{s:Shared}(I:Inv X pins σ H s)(a:s.heap.objs.size<=b)(g:d b=none):Vw X pins d b:=by refine⟨g,dw (ca I.lt a),I.nofs a,.inr (c6 I.sz a),λx c e z=>?_,λp f z=>?_⟩;obtain⟨v,q⟩:=I.cell x c e;exact absurd (ca q.lt (by simp_all)) (cx _);exact absurd (ca (aq (I.pin p f).1) (by simp_all)) (cx _)
structure dD(P:Program)(w:World)(K:W.Frag)(tg:Expr)(J:It)(fp:List Addr)(it:Addr)(tn:Nat->Heap->Prop):Prop where
 mem:it∈fp
 obj:∀i h,tn i h->∀b∈fp,∃o,h.get? b=some o/\∀v,o.data≠ .cell v
 keep:∀i h h',tn i h->(∀b∈fp,∀o,h.get? b=some o->h'.get? b=some o)->tn i h'
 item:∀(X:Cx),X.prog=P->X.w=w->X.K=K->X.calm=true->∀(i:Nat)(pins:List (Addr×Obj))(s:Shared)(σ:St)(H:Hp)(E:Value->Shared->Prop),Inv X pins σ H s->(∀b∈fp,Vw X pins H b)->tn i s.heap->J.go i H->
  wpAny (model P w) X.A (pyNext (.ref it)) (λr s1=>∃u,r=some u/\ wpAny (model P w) X.A (letOwnedTupleGo tg (.ref it) u) (λ_ s2=>∃x H',Inv X pins σ H' s2/\yu x u/\J.yld i H x H'/\tn (i+1) s2.heap/\∀b∈fp,H' b=none) E s1) E s
 done:∀(X:Cx),X.prog=P->X.w=w->X.K=K->X.calm=true->∀(i:Nat)(pins:List (Addr×Obj))(s:Shared)(σ:St)(H:Hp)(E:Value->Shared->Prop),Inv X pins σ H s->(∀b∈fp,Vw X pins H b)->tn i s.heap->J.stop i H->
  wpAny (model P w) X.A (pyNext (.ref it)) (λr s1=>r=none/\Inv X pins σ H s1) E s
 self:∀(A:Around)(i:Nat)(s:Shared)(Q:Value->Shared->Prop)(E:Value->Shared->Prop),tn i s.heap->Q (.ref it) s->wpAny (model P w) A (pyIter (.ref it)) Q E s
abbrev TI:=St->Hp->(It->Hp->Prop)->Prop
inductive nU(X:Cx)(pins:List (Addr×Obj))(σ:St)(tg:Expr)(R:It->Hp->Prop)(itv:Value)(s2:Shared):Prop|mk:∀(it:Addr)(fp:List Addr)(tn:Nat->Heap->Prop)(J:It)(H':Hp),itv=.ref it->Inv X pins σ H' s2->dD X.prog X.w X.K tg J fp it tn->tn 0 s2.heap->(∀b∈fp,Vw X pins H' b)->R J H'->nU X pins σ tg R itv s2
variable{C dx f:Addr}{osl:Array (Option Value)}{D:Ends}{l o tg aT:Expr}{fd:FuncData}{base:Heap}{lo:Int}{pl:List (Addr×Obj)}{kvs:List (cC×V)}{fp:List Addr}{ks:List cC}{ps:List Str}{vs xs:List V}{ds its us:List Value}{k n:Nat}{dC p:Pos}{prog:Program}{sc scope:Scope}{name qual:Str}{mA mg:Str->Option Value}{id:String}{ta tl:TE}{g:TG}{tb:TS}{y:V}{r:Value}
def PI(X:Cx)(F U:Expr)(B:TI):Prop:=
 ∀ (pins:List (Addr×Obj)) (s:Shared) (σ:St) (H:Hp) (R:It->Hp->Prop),Inv X pins σ H s->B σ H R->
   wpAny (model X.prog X.w) X.A (eval U X.env) (λv G=>wpAny (model X.prog X.w) X.A (pyIter v) (nU X pins σ F R) X.xe G) X.xe s
theorem mS{M:Model}{s:Shared}{b:Y}{o:Obj}{n:String}{vs:Array I}{Q:Unit->Shared->Prop}(c:s.heap.get? b=some o)(f:o.cls=.type n)(e:o.data=.fields vs)
  (d:["enumerate","zip","dict_itemiterator","dict_reverseitemiterator","odict_iterator","itertools.zip_longest","itertools.pairwise"].contains n=false) (a:Q () s):wpAny M A (letOwnedTupleGo tg (.ref b) u) Q E s:=by
 unfold letOwnedTupleGo;cases tg<;>first
  |exact ac a
  |(cases u<;>first
   |exact ac a
   | (refine aa (wpAny_load c ?_)
      rw[f,e];show wpAny M A (if(["enumerate","zip","dict_itemiterator","dict_reverseitemiterator","odict_iterator","itertools.zip_longest","itertools.pairwise"].contains n && vs[0]?==some (rawInt _))=true then _ else _) Q E s;rw[if_neg (by intro h;rw[d,cp]at h;cases h)];exact ac a))
noncomputable def nX(K:W.Frag)(a:Addr):It:=⟨λi H=>∃xs x,aE K H a xs/\xs[i]?=some x,λi H x H'=>H'=H/\∀xs,aE K H a xs->xs[i]?=some x,λi H=>∃xs,aE K H a xs/\xs.length<=i⟩
noncomputable def qR(K:W.Frag)(a:Addr):It:=⟨λi H=>∃xs x,aD K H a xs/\xs[i]?=some x,λi H x H'=>H'=H/\∀xs,aD K H a xs->xs[i]?=some x,λi H=>∃xs,aD K H a xs/\xs.length<=i⟩
noncomputable def mK(lo:Int)(n:Nat):It:=⟨λi _=>i<n,λi H x H'=>H'=H/\x=.int (lo+i),λi _=>n<=i⟩
theorem EL{K:W.Frag}(a f:Y):dD P w K tg (nX K a) [f] f (λi h=>h.IsListIter f a i) where
 mem:=by simp
 obj:=λi h st b g=>by
  have e:b=f:=by simp_all
  subst e;obtain⟨o,e,c,d⟩:=st
  simp_all
 keep:=λi h M st k=>st.at λo e=>k f (by simp) o e
 item:=by intro X y t z L i l s N H E I n st v;subst y t z;obtain⟨Q,x,m,G⟩:=v;obtain⟨r,q,p,U⟩:=I.list m;obtain⟨u,hu,S⟩:=q.get G;obtain⟨F,D,f2,C,B,A⟩:=n f (by simp);refine wpAny_pyNext_list_item st p.isList (by simpa using hu) λM j R=>?_;have I1:=I.turned (t':=s.toks) (λb o g e=>(R.2 b g).trans e) F D C B A;obtain⟨o,e,c,d⟩:=id j;exact⟨u,J,mS e c d (by rfl) ⟨x,H,I1,S,⟨J,λys Z=>by rw[I.list_inj Z m];omega⟩,j,λb g=>(n b g).1⟩⟩
 done:=by intro X y t z L i l s N H E I n st v;subst y t z;obtain⟨Q,m,G⟩:=v;obtain⟨r,q,p,U⟩:=I.list m;obtain⟨F,D,f2,C,B,A⟩:=n f (by simp);have hl:=q.length;exact wpAny_pyNext_list_end (I.ok.hd L) st p.isList (by simp_all) λM eb=>⟨J,I.turned (λb o g e=>eb b o g e) F D C B A⟩
 self:=λ_ _ _ _ _ st h=>wpAny_pyIter_listiter st h
theorem FI{K:W.Frag}(a f:Y):dD P w K tg (qR K a) [f] f (λi h=>h.IsTupleIter f a i) where
 mem:=by simp
 obj:=λi h st b g=>by
  have e:b=f:=by simp_all
  subst e;obtain⟨o,e,c,d⟩:=st
  simp_all
 keep:=λi h M st k=>st.at λo e=>k f (by simp) o e
 item:=by intro X y t z L i l s N H E I n st v;subst y t z;obtain⟨Q,x,m,G⟩:=v;obtain⟨r,q,p,U⟩:=I.tuple m;obtain⟨u,hu,S⟩:=q.get G;obtain⟨F,D,f2,C,B,A⟩:=n f (by simp);refine wpAny_pyNext_tuple_item st (p) (by simpa using hu) λM j R=>?_;have I1:=I.turned (t':=s.toks) (λb o g e=>(R.2 b g).trans e) F D C B A;obtain⟨o,e,c,d⟩:=id j;exact⟨u,J,mS e c d (by rfl) ⟨x,H,I1,S,⟨J,λys Z=>by rw[I.tuple_inj Z m];omega⟩,j,λb g=>(n b g).1⟩⟩
 done:=by intro X y t z L i l s N H E I n st v;subst y t z;obtain⟨Q,m,G⟩:=v;obtain⟨r,q,p,U⟩:=I.tuple m;obtain⟨F,D,f2,C,B,A⟩:=n f (by simp);have hl:=q.length;exact wpAny_pyNext_tuple_end (I.ok.hd L) st (p) (by simp_all) λM eb=>⟨J,I.turned (λb o g e=>eb b o g e) F D C B A⟩
 self:=λ_ _ _ _ _ st h=>wpAny_pyIter_tupleiter st h
theorem FH{K:W.Frag}(c:Y)(lo:Int)(n:Nat):dD P w K tg (mK lo n) [c] c (λi h=>IsRangeIter h c (lo+(i:Nat)*1) ((n:Int)-(i:Nat)) 1) where
 mem:=by simp
 obj:=λi h st b f=>by simp_all
 keep:=λi h r st k=>k c (by simp) _ st
 item:=by intro X p j q m i a s B H E I g st l;subst p j q;obtain⟨A,z,G,y,x,u⟩:=g c (by simp);have W:=Walks.range (prog:=X.prog) (w:=X.w) (I.ok.hd m) c lo 1 n;refine W.item i s _ _ l st λv r C F d D=>?_;obtain⟨t,rfl⟩:=F;have M:Inv X a B H {s with heap:=r,toks:=C}:=I.turned (λb o f e=>D b o (by simp_all) e) A z y x u;refine⟨_,J,mS d J J (by rfl) ⟨.int (lo+i),H,M,⟨t,?_⟩,⟨J,J⟩,d,λb f=>(g b f).1⟩⟩;rw[Int.mul_one]
 done:=by intro X p j q m i a s B H E I g st l;subst p j q;obtain⟨A,z,G,y,x,u⟩:=g c (by simp);exact wpAny_pyNext_range_end (I.ok.hd m) st (by have:n<=i:=l;omega) λr L=>⟨J,I.turned (λb o f e=>L b o f e) A z y x u⟩
 self:=λ_ _ _ _ _ st h=>wpAny_pyIter_rangeiter st h
section
inductive gR(K:W.Frag)(R:It->Hp->Prop)(x:V)(H1:Hp):Prop|mk:∀a,x=.ref a->(∃xs,aE K H1 a xs)->R (nX K a) H1->gR K R x H1
def zJ(K:W.Frag)(B:TE):TI:=λσ H R=>B σ H λx H1=>gR K R x H1
inductive jT(K:W.Frag)(R:It->Hp->Prop)(x:V)(H1:Hp):Prop|mk:∀a,x=.ref a->(∃xs,aD K H1 a xs)->R (qR K a) H1->jT K R x H1
def yC(K:W.Frag)(B:TE):TI:=λσ H R=>B σ H λx H1=>jT K R x H1
theorem w9(n:PE X l tl):PI X tg l (zJ X.K tl):=by
 intro c s g H R I h;refine aF (n c s g H _ I h) λv f ⟨x,r,d,i,j⟩=>?_;obtain⟨a,e,⟨t,m⟩,q⟩:=j;subst e;cases i;obtain⟨k,u,p,w⟩:=d.list m;refine wpAny_pyIter_list p.isList ?_;refine⟨f.heap.objs.size,[f.heap.objs.size],_,_,r,J,d.kept λb o e=>ak _ e,EL a _,⟨_,bi _ J,J,J⟩,λb y=>?_,q⟩;have e:b=f.heap.objs.size:=by simp_all
 subst e;exact d.fpOk (aj _) (d.hok.fresh (aj _))
theorem Zc(n:PE X l tl):PI X tg l (yC X.K tl):=by
 intro c s g H R I h;refine aF (n c s g H _ I h) λv f ⟨x,r,d,i,j⟩=>?_;obtain⟨a,e,⟨t,m⟩,q⟩:=j;subst e;cases i;obtain⟨k,u,p,w⟩:=d.tuple m;refine wpAny_pyIter_tuple (p) ?_;refine⟨f.heap.objs.size,[f.heap.objs.size],_,_,r,J,d.kept λb o e=>ak _ e,FI a _,⟨_,bi _ J,J,J⟩,λb y=>?_,q⟩;have e:b=f.heap.objs.size:=by simp_all
 subst e;exact d.fpOk (aj _) (d.hok.fresh (aj _))
theorem DA{s:Shared}{R:It->Hp->Prop}{a:Int}{t u v:Tok}{d:Nat}(I:Inv X pins σ H s)(i: -(2^62)<=lo)(h:lo<2^62)(g: -(2^62)<=a)(f:a<2^62)(q:R (mK lo (a-lo).toNat) H):wpAny (model X.prog X.w) X.A (pyIter (.ref s.heap.objs.size)) (nU X pins σ tg R) E {s with heap:=s.heap.push {cls:=.type "range",data:=.fields #[.int lo t,.int a u,.int 1 v]},toks:=d}:=by
 refine wpAny_pyIter_range (IsRange.new ..) (small_one i h g f) ?_;have c:Inv X pins σ H {s with heap:=s.heap.push {cls:=.type "range",data:=.fields #[.int lo t,.int a u,.int 1 v]},toks:=d}:=I.kept λb o e=>ak _ e;refine⟨(s.heap.push {cls:=.type "range",data:=.fields #[.int lo t,.int a u,.int 1 v]}).objs.size,[(s.heap.push {cls:=.type "range",data:=.fields #[.int lo t,.int a u,.int 1 v]}).objs.size],_,_,H,J,c.kept λb o e=>ak _ e,FH _ lo (a-lo).toNat,?_,λb l=>?_,q⟩
 have k:lo+((0:Nat))*1=lo:=by simp
 have j:((a-lo).toNat:Int)-((0:Nat))=Builtin.Range.rangeSize lo a 1:=by rw[rangeSize_one];omega
 rw[k,j];exact bi _ J;have e:b=(s.heap.push {cls:=.type "range",data:=.fields #[.int lo t,.int a u,.int 1 v]}).objs.size:=by simp_all
 subst e;exact c.fpOk (aj _) (c.hok.fresh (aj _))
inductive gQ(R:It->Hp->Prop)(vs:List V)(H1:Hp):Prop|mk:∀j:Int,vs=[.int j]-> -(2^62)<=j->j<2^62->R (mK 0 j.toNat) H1->gQ R vs H1
def zK(B:TA):TI:=λσ H R=>B σ H λvs H1=>gQ R vs H1
theorem xk{a:Expr}{d:TA}(m:Gl X "range")(l:X.mg "range"=none)(n:PA X [a] d)(hs:starEach [a] X.env=[(false,eval a X.env)]:=by rfl):PI X tg (.Call (.Name "range" p) [a] [] pos) (zK d):=by intro b s f H R I h;refine Call_ (Xn I m l boot_range (PyProof.Rows.callWith_type1 (aF (n pos b s f H _ I h) λv w ⟨u,x,o,i,c⟩=>?_) hs J));obtain⟨j,e,c,k,q⟩:=c;subst e;cases i with| cons r g=>cases g;obtain⟨t,rfl⟩:=r;exact call_range_1 (DA o (by omega) (by omega) c k (by simp_all))
inductive dE(g:TG)(tb:TS)(D:Ends)(σ:St)(J:It)(H1:Hp):Prop|mk:∀W:Nat->Nat->St->Hp->Prop,(∃m,W 0 m σ H1)->(∀i m σ H,W i m σ H-> (J.stop i H/\D.nx σ H)\/(J.go i H/\∃N:St->Hp->Prop,(∀σ' H',N σ' H'->∃m',m'<m/\W (i+1) m' σ' H')/\∀x H',J.yld i H x H'->g x σ H' λσ2 H2=>tb (D.lp N) σ2 H2))->dE g tb D σ J H1
def xI(B:TI)(g:TG)(F:TS):TS:=λD σ H=>B σ H λJ H1=>dE g F D σ J H1
noncomputable def Qw(B:List Addr)(h:Heap):List (Addr×Obj):=B.filterMap λb=>(h.get? b).map λo=>(b,o)
theorem Zz{o:Obj}(a:b∈fp)(e:h.get? b=some o):(b,o)∈Qw fp h:=List.mem_filterMap.mpr ⟨b,a,by rw[e];rfl⟩
theorem EW{p:Addr×Obj}(a:p∈Qw fp h):p.1∈fp/\h.get? p.1=some p.2:=by obtain⟨b,c,e⟩:=List.mem_filterMap.mp a;cases q:h.get? b with|none=>simp_all| some o=>grind
theorem Inv.pinned{s:Shared}(I:Inv X pins σ H s)(c:∀b∈fp,Vw X pins H b)(f:∀b∈fp,∃o,s.heap.get? b=some o/\∀v,o.data≠ .cell v):Inv X (pins++Qw fp s.heap) σ H s:=
 I.pins_of λp a=>(ck.mp a).elim (λz=>I.pin p (dy _ z)) λz=>by
  obtain⟨d,e⟩:=EW z;obtain⟨i,h,g,_⟩:=c p.1 d
  grind
theorem Inv.unpinned{s:Shared}(I:Inv X (pins++pl) σ H s):Inv X pins σ H s:=I.pins_of λp a=>I.pin p (dy _ (f8 _ a))
theorem vo{U:Expr}{wi:TI}(F:PassesOwn (model X.prog X.w) X.A X.env X.xe)(hc:X.calm=true)(hi:PI X tg U wi)(hg:PG X tg g)(p:dR X aS tb)(hs:∀x,foldedSetIterable U X.env x=pure x:=by intro _;rfl):PS X (.For tg U aS [] pos) (xI wi g tb):=by
 intro c s σ H D I h;refine wpAny_For (aF (hi c s σ H _ I h) λv s1 h1=>aF h1 λaf s2 h2=>?_) hs;obtain⟨it,K,tn,J,H2,e,I2,T,P,f2,W,⟨m0,w0⟩,A⟩:=h2;subst e;have l:∀{w:Hp},(∀b∈K,w b=none)->∀b∈K,Vw X c w b:=λhn b p=>⟨hn b p,(f2 b p).2⟩
 refine codeAny_forLoop_any (λn s'=>∃i k w,Inv X c k w s'/\tn i s'.heap/\(∀b∈K,w b=none)/\W i n k w) ?_ m0 ⟨0,σ,H2,I2,P,λb p=>(f2 b p).1,w0⟩;rintro n s3 ⟨i,j,L,I3,C,G,w3⟩;rcases A i n j L w3 with⟨B,qn⟩|⟨go,N,hN,step⟩;refine wpAny_passesOwn F (aF (T.done X rfl rfl rfl hc i c s3 j L X.xe I3 (l G) C B) λr s4 ⟨R,I4⟩=>?_);subst R;exact wpAny_execs_nil ⟨j,L,I4,qn⟩
 . refine wpAny_passesOwn F (aF (T.item X rfl rfl rfl hc i c s3 j L X.xe I3 (l G) C go) λr s4 ⟨u,R,h4⟩=>?_);subst R;refine wpAny_passesOwn F (aF h4 λ_ s5 ⟨x,H5,I5,r5,y5,z,S⟩=>?_);have Z:=I5.pinned (l S) (T.obj _ _ z);refine wpAny_passesOwn F (aF (hg _ s5 j H5 x u _ Z r5 (step x H5 y5)) λ_ s6 ⟨M,H6,I6,q6⟩=>?_);refine wpAny_passesOwn F (aF (p _ s6 M H6 _ I6 q6) λf Q y=>?_);have again:∀{a:St} {t:Hp},Inv X (c++Qw K s5.heap) a t Q->N a t->∃m,m<n/\∃i k w,Inv X c k w Q/\tn i Q.heap/\(∀b∈K,w b=none)/\W i m k w:=λ{a t} q E=>by obtain⟨m',hm,w7⟩:=hN a t E;refine⟨m',hm,i+1,a,t,q.unpinned,T.keep _ _ _ z λb p o e=>(q.pin (b,o) (dy _ (dy _ (Zz p e)))).1,λb p=>?_,w7⟩;obtain⟨o,e,d⟩:=T.obj _ _ z b p;exact(q.pin (b,o) (dy _ (dy _ (Zz p e)))).2.1
   cases f with|next=>obtain⟨a,t,q,E⟩:=y;exact again q E|cont=>obtain⟨a,t,q,E⟩:=y;exact again q E|brk=>obtain⟨a,t,q,y⟩:=y;exact⟨a,t,q.unpinned,y⟩|ret v=>obtain⟨x7,a,t,q,r7,y⟩:=y;exact⟨x7,a,t,q.unpinned,r7,y⟩
end
theorem ki{K:W.Frag}(Pv:Nat->St->Hp->Prop)(l:Pv 0 σ H)(h:∀i σ H,i<=xs.length->Pv i σ H->aE K H a xs)(hs:∀i x σ H,xs[i]?=some x->Pv i σ H->g x σ H λb H2=>tb (D.lp (Pv (i+1))) b H2) (k:∀σ H,Pv xs.length σ H->D.nx σ H):
  dE g tb D σ (nX K a) H:=by
 refine⟨λi m σ H=>m=xs.length-i/\i<=xs.length/\Pv i σ H,⟨xs.length,by simp,cm _,l⟩,?_⟩;rintro i m σ H ⟨rfl,j,p⟩;have q:=h i σ H j p;by_cases c:i<xs.length;refine .inr ⟨⟨xs,xs[i],q,by simp⟩,Pv (i+1),λd n f=>⟨xs.length-(i+1),by omega,J,c,f⟩,λx n y=>?_⟩;obtain⟨e,y⟩:=y
 grind
 have e:i=xs.length:=by omega
 subst e;exact .inl ⟨⟨xs,q,aj _⟩,k σ H p⟩
theorem qu(Pv:Nat->St->Hp->Prop)(h:Pv 0 σ H)(hs:∀i σ H,i<n->Pv i σ H->g (.int (lo+i)) σ H λb H2=>tb (D.lp (Pv (i+1))) b H2) (f:∀σ H,Pv n σ H->D.nx σ H):
  dE g tb D σ (mK lo n) H:=by
 refine⟨λi m σ H=>m=n-i/\i<=n/\Pv i σ H,⟨n,by simp,cm _,h⟩,?_⟩;rintro i m σ H ⟨rfl,k,p⟩;by_cases a:i<n;refine .inr ⟨a,Pv (i+1),λc j d=>⟨n-(i+1),by omega,J,a,d⟩,λx j y=>?_⟩;obtain⟨e,y⟩:=y
 simp_all
 have e:i=n:=by omega
 subst e;exact .inl ⟨aj _,f σ H p⟩
abbrev R2:=V->V->Hp->VK->Prop
def aY(X:Cx)(f:Value->Value->Sem Value)(r:R2):Prop:=
 ∀ (pins:List (Addr×Obj)) (s:Shared) (σ:St) (H:Hp) (x y:V) (v u:Value) (Q:VK),Inv X pins σ H s->yu x v->yu y u->r x y H Q->
   wpAny (model X.prog X.w) X.A (f v u) (EP X pins σ Q) X.xe s
def qM(X:Cx)(f:Value->Sem Value)(r:V->Hp->VK->Prop):Prop:=
 ∀ (pins:List (Addr×Obj)) (s:Shared) (σ:St) (H:Hp) (x:V) (v:Value) (Q:VK),Inv X pins σ H s->yu x v->r x H Q->
   wpAny (model X.prog X.w) X.A (f v) (EP X pins σ Q) X.xe s
def jt(X:Cx)(f:Value)(r:List V->Hp->VK->Prop):Prop:=
 ∀ (pins:List (Addr×Obj)) (s:Shared) (σ:St) (H:Hp) (xs:List V) (us:List Value) (Q:VK),Inv X pins σ H s->yl xs us->r xs H Q->
   wpAny (model X.prog X.w) X.A (call f us) (EP X pins σ Q) X.xe s
def xA(X:Cx)(r:V->Hp->(Bool->Hp->Prop)->Prop):Prop:=
 ∀ (pins:List (Addr×Obj)) (s:Shared) (σ:St) (H:Hp) (x:V) (v:Value) (Q:Bool->Hp->Prop),Inv X pins σ H s->yu x v->r x H Q->
   wpAny (model X.prog X.w) X.A (truthy v) (TP X pins σ Q) X.xe s
def nI(r:R2)(F B:TE):TE:=λσ H Q=>F σ H λx H1=>B σ H1 λy H2=>r x y H2 Q
def Gs(r:V->Hp->VK->Prop)(B:TE):TE:=λσ H Q=>B σ H λx H1=>r x H1 Q
inductive rI(C:Int->Int->Prop)(g:Int->Int->V)(x y:V)(H:Hp)(Q:VK):Prop|mk:∀i j,x=.int i->y=.int j->C i j->Q (g i j) H->rI C g x y H Q
inductive ii(g:Int->Int->V)(x y:V)(H:Hp)(Q:VK):Prop|mk:∀i j,x=.int i->y=.int j->Q (g i j) H->ii g x y H Q
inductive rU(g:Int->V)(x:V)(H:Hp)(Q:VK):Prop|mk:∀i,x=.int i->Q (g i) H->rU g x H Q
section
variable{a b:Expr}{tb tc:TE}
theorem om(j:PE X a ta)(i:PE X b tb){s:Shared}{R:V->V->Hp->Prop}(I:Inv X pins σ H s)(h:ta σ H λx H1=>tb σ H1 λy H2=>R x y H2) {f:Value->Value->Sem Value}
  (o:∀v u d x y H2,Inv X pins σ H2 d->yu x v->yu y u->R x y H2->wpAny (model X.prog X.w) X.A (f v u) Q X.xe d):
  wpAny (model X.prog X.w) X.A (eval a X.env) (λv c=>wpAny (model X.prog X.w) X.A (eval b X.env) (λu s₂=>wpAny (model X.prog X.w) X.A (f v u) Q X.xe s₂) X.xe c) X.xe s:=by
 refine aF (j pins s σ H _ I h) λv e ⟨x,H1,k,m,g⟩=>?_;refine aF (i pins e σ H1 _ k g) λu d ⟨y,H2,p,l,n⟩=>?_
 grind
theorem zx{op:Operator}{r:R2}(i:aY X (binaryOp op) r)(k:PE X a ta)(j:PE X b tb):PE X (.BinOp a op b pos) (nI r ta tb):=by intro c s d H Q I h;exact wpAny_BinOp (om k j I h λv u e x y m l g f q=>i c e d m x y v u Q l g f q)
theorem Kg{op:UnaryOp}{r:V->Hp->VK->Prop}(g:qM X (unaryOp op) r)(i:PE X a ta):PE X (.UnaryOp op a pos) (Gs r ta):=by intro b s c H Q I h;exact UnaryOp_ (aF (i b s c H _ I h) λv d ⟨x,k,j,e,f⟩=>g b d c k x v Q j e f)
theorem nM{f:Value->Value->Sem Value}{C:Int->Int->Prop}{g:Int->Int->Int}(rule:∀(i j:Int)(t u:Tok)(s:Shared)(Q:Value->Shared->Prop)(E:Value->Shared->Prop),C i j->Q (.int (g i j) s.toks) {s with toks:=s.toks+1}->wpAny (model X.prog X.w) X.A (f (.int i t) (.int j u)) Q E s):
  aY X f (rI C λi j=>.int (g i j)):=by intro a s k H x y v u Q I d c h;obtain⟨i,j,rfl,rfl,e,q⟩:=h;obtain⟨t,rfl⟩:=d;obtain⟨b,rfl⟩:=c;exact rule i j t b s _ _ e ⟨.int (g i j),H,I.tok _,⟨_,J⟩,q⟩
theorem rm{f:Value->Value->Sem Value}{g:Int->Int->Int}(rule:∀(i j:Int)(t u:Tok)(s:Shared)(Q:Value->Shared->Prop)(E:Value->Shared->Prop),Q (.int (g i j) s.toks) {s with toks:=s.toks+1}->wpAny (model X.prog X.w) X.A (f (.int i t) (.int j u)) Q E s):
  aY X f (ii λi j=>.int (g i j)):=by intro a s e H x y v u Q I d c h;obtain⟨i,j,rfl,rfl,q⟩:=h;obtain⟨t,rfl⟩:=d;obtain⟨b,rfl⟩:=c;exact rule i j t b s _ _ ⟨.int (g i j),H,I.tok _,⟨_,J⟩,q⟩
theorem mP{f:Value->Value->Sem Value}{g:Int->Int->Bool}(rule:∀(i j:Int)(t u:Tok)(s:Shared)(Q:Value->Shared->Prop)(E:Value->Shared->Prop),Q (.bool (g i j)) s->wpAny (model X.prog X.w) X.A (f (.int i t) (.int j u)) Q E s):
  aY X f (ii λi j=>.bl (g i j)):=by intro a s e H x y v u Q I d c h;obtain⟨i,j,rfl,rfl,q⟩:=h;obtain⟨t,rfl⟩:=d;obtain⟨b,rfl⟩:=c;exact rule i j t b s _ _ ⟨.bl (g i j),H,I,J,q⟩
def wZ(i j:Int):Prop:=0<=j/\j<=1000000/\i.natAbs<2^64
def lQ(i j:Int):Prop:=(-(2^64)<i/\i<2^64)\/(-(2^64)<j/\j<2^64)
theorem lQ.ok{i j:Int}(h:lQ i j):IntMulOk i j:=by rcases h with⟨b,a⟩|⟨b,a⟩;exact .of_left (intBits_le_64 b a);exact .of_right (intBits_le_64 b a)
theorem yv:aY X (binaryOp .Add) (ii λi j=>.int (i+j)):=rm λ_ _ _ _ _ _ _ q=>add_int q
theorem jw:aY X (binaryOp .Sub) (ii λi j=>.int (i-j)):=rm λ_ _ _ _ _ _ _ q=>sub_int q
theorem qe:aY X (binaryOp .Mult) (rI lQ λi j=>.int (i*j)):=nM λ_ _ _ _ _ _ _ a q=>mul_int q a.ok
theorem ke:aY X (binaryOp .Mod) (rI (λ_ j=>0<j) λi j=>.int (i%j)):=nM λi j _ _ _ _ _ a q=>by exact mod_int' (by omega) (by grind)
theorem pD:aY X (binaryOp .Pow) (rI wZ λi j=>.int (i^j.toNat)):=nM λ_ _ _ _ _ _ _ a q=>pow_int_small a.1 a.2.1 a.2.2 q
theorem Gr{f:Value->Sem Value}{g:Int->Int}(rule:∀(i:Int)(t:Tok)(s:Shared)(Q:Value->Shared->Prop)(E:Value->Shared->Prop),Q (.int (g i) s.toks) {s with toks:=s.toks+1}->wpAny (model X.prog X.w) X.A (f (.int i t)) Q E s):
  qM X f (rU λi=>.int (g i)):=by intro a s c H x v Q I b h;obtain⟨i,rfl,q⟩:=h;obtain⟨t,rfl⟩:=b;exact rule i t s _ _ ⟨.int (g i),H,I.tok _,⟨_,J⟩,q⟩
theorem Wz:qM X (unaryOp .USub) (rU λi=>.int (-i)):=Gr λ_ _ _ _ _ q=>neg_int q
end
noncomputable def rq:V->V->Bool|.non,.non=>true|.non,.int _=>true|.int _,.non=>true|.non,.bl _=>true|.bl _,.non=>true|.non,.str _=>true|.str _,.non=>true|.int _,.int _=>true|.bl _,.bl _=>true|.str _,.str _=>true|.byt _,.byt _=>true|.int _,.str _=>true|.str _,.int _=>true|.bl _,.str _=>true|.str _,.bl _=>true|_,_=>false
def GA:R2:=λx y H Q=>rq x y=true/\Q (.bl (decide (x=y))) H
def Gz:R2:=λx y H Q=>rq x y=true/\Q (.bl (!decide (x=y))) H
theorem pK{i j:Int}:decide (V.int i=V.int j)=(i==j):=by grind
theorem rT{i j:Bool}:decide (V.bl i=V.bl j)=(i==j):=by grind
theorem tY{i j:Str}:decide (V.str i=V.str j)=(i==j):=by grind
theorem tX{i j:Array UInt8}:decide (V.byt i=V.byt j)=(i.toList==j.toList):=by rw[Bool.eq_iff_iff];simp
section
variable{a b:Expr}{tb tc:TE}
theorem yw{s:Shared}{Q:VK}{k a:Bool}(I:Inv X pins σ H s)(q:Q (.bl k) H)(e:k=a):EP X pins σ Q (.bool a) s:=by subst e;exact⟨.bl k,H,I,J,q⟩
theorem y4:aY X (compareOp .Eq) GA:=by
 intro e s f H x y v u Q I d a h;obtain⟨c,q⟩:=h;cases x with
 | non=>
   cases d;cases y with
   |non=>cases a;exact EqNone.eq_none_none (yw I q (by simp))
   |bl j=>cases a;exact EqNone.eq_none_bool (yw I q (by simp))
   |int j=>obtain⟨b,rfl⟩:=a;exact EqNone.eq_none_int (yw I q (by simp))
   |str j=>obtain⟨b,rfl⟩:=a;exact EqNone.eq_none_str (yw I q (by simp))
   |_=>exact absurd (c) cn
 | bl i=>
   cases d;cases y with
   |non=>cases a;exact EqNone.eq_bool_none (yw I q (by simp))
   |bl j=>cases a;exact eq_bool (yw I q rT)
   |str j=>obtain⟨b,rfl⟩:=a;exact EqMixed.eq_bool_str (yw I q (by simp))
   |_=>exact absurd (c) cn
 | int i=>
   obtain⟨t,rfl⟩:=d;cases y with
   |non=>cases a;exact EqNone.eq_int_none (yw I q (by simp))
   |int j=>obtain⟨b,rfl⟩:=a;exact eq_int (yw I q pK)
   |str j=>obtain⟨b,rfl⟩:=a;exact EqMixed.eq_int_str (yw I q (by simp))
   |_=>exact absurd (c) cn
 | str i=>
   obtain⟨t,rfl⟩:=d;cases y with
   |non=>cases a;exact EqNone.eq_str_none (yw I q (by simp))
   |bl j=>cases a;exact EqMixed.eq_str_bool (yw I q (by simp))
   |int j=>obtain⟨b,rfl⟩:=a;exact EqMixed.eq_str_int (yw I q (by simp))
   |str j=>obtain⟨b,rfl⟩:=a;exact eq_str (yw I q tY)
   |_=>exact absurd (c) cn
 | byt i=>
   obtain⟨t,rfl⟩:=d;cases y with
   |byt j=>obtain⟨b,rfl⟩:=a;exact W.eq_bytes (yw I q tX)
   |_=>exact absurd (c) cn
 |_=>cases y<;>exact absurd (c) cn
theorem ji:aY X (compareOp .NotEq) Gz:=by
 intro e s f H x y v u Q I d a h;obtain⟨c,q⟩:=h;cases x with
 | non=>
   cases d;cases y with
   |non=>cases a;exact EqNone.ne_none_none (yw I q (by simp))
   |bl j=>cases a;exact EqNone.ne_none_bool (yw I q (by simp))
   |int j=>obtain⟨b,rfl⟩:=a;exact EqNone.ne_none_int (yw I q (by simp))
   |str j=>obtain⟨b,rfl⟩:=a;exact EqNone.ne_none_str (yw I q (by simp))
   |_=>exact absurd (c) cn
 | bl i=>
   cases d;cases y with
   |non=>cases a;exact EqNone.ne_bool_none (yw I q (by simp))
   |bl j=>cases a;exact ne_bool (yw I q (congrArg not rT))
   |str j=>obtain⟨b,rfl⟩:=a;exact EqMixed.ne_bool_str (yw I q (by simp))
   |_=>exact absurd (c) cn
 | int i=>
   obtain⟨t,rfl⟩:=d;cases y with
   |non=>cases a;exact EqNone.ne_int_none (yw I q (by simp))
   |int j=>obtain⟨b,rfl⟩:=a;exact ne_int (yw I q (congrArg not pK))
   |str j=>obtain⟨b,rfl⟩:=a;exact EqMixed.ne_int_str (yw I q (by simp))
   |_=>exact absurd (c) cn
 | str i=>
   obtain⟨t,rfl⟩:=d;cases y with
   |non=>cases a;exact EqNone.ne_str_none (yw I q (by simp))
   |bl j=>cases a;exact EqMixed.ne_str_bool (yw I q (by simp))
   |int j=>obtain⟨b,rfl⟩:=a;exact EqMixed.ne_str_int (yw I q (by simp))
   |str j=>obtain⟨b,rfl⟩:=a;exact ne_str (yw I q (congrArg not tY))
   |_=>exact absurd (c) cn
 | byt i=>
   obtain⟨t,rfl⟩:=d;cases y with
   |byt j=>obtain⟨b,rfl⟩:=a;exact W.ne_bytes (yw I q (congrArg not tX))
   |_=>exact absurd (c) cn
 |_=>cases y<;>exact absurd (c) cn
theorem Qy:aY X (compareOp .Lt) (ii λi j=>.bl (decide (i<j))):=mP λ_ _ _ _ _ _ _ q=>lt_int q
theorem Qz:aY X (compareOp .LtE) (ii λi j=>.bl (decide (i<=j))):=mP λ_ _ _ _ _ _ _ q=>le_int q
theorem We:aY X (compareOp .Gt) (ii λi j=>.bl (decide (j<i))):=mP λ_ _ _ _ _ _ _ q=>gt_int q
theorem mX:aY X (compareOp .GtE) (ii λi j=>.bl (decide (j<=i))):=mP λ_ _ _ _ _ _ _ q=>ge_int q
theorem pC:aY X (compareOp .Is) (λx y H Q=>y=.non/\Q (.bl (decide (x=.non))) H):=by intro b s d H x y v u Q I a c h;obtain⟨rfl,q⟩:=h;cases c;refine is_none_gen (yw I q ?_);cases x<;>first|(cases a;rfl)|(obtain⟨t,rfl⟩:=a;rfl)
theorem V1:aY X (compareOp .IsNot) (λx y H Q=>y=.non/\Q (.bl (!decide (x=.non))) H):=by intro b s d H x y v u Q I a c h;obtain⟨rfl,q⟩:=h;cases c;refine isnot_none_gen (yw I q ?_);cases x<;>first|(cases a;rfl)|(obtain⟨t,rfl⟩:=a;rfl)
theorem aY.or{f:Value->Value->Sem Value}{r e:R2}(h:aY X f r)(h':aY X f e):aY X f (λx y H Q=>r x y H Q\/e x y H Q):=by intro a s b H x y v u Q I d c q;rcases q with q|q;exact h a s b H x y v u Q I d c q;exact h' a s b H x y v u Q I d c q
theorem zm(b:Expr){op:CmpOp}(h:op≠ .In:=by decide)(d:op≠ .NotIn:=by decide):behindInMarks op b=false:=by
 have c:(op==CmpOp.In)=false:=by simp_all
 have a:(op==CmpOp.NotIn)=false:=by simp_all
 cases b<;>simp[behindInMarks,c,a]
theorem yy{op:CmpOp}{r:R2}(i:aY X (compareOp op) r)(l:PE X a ta)(k:PE X b tb)(j:behindInMarks op b=false):PE X (.Compare a [op] [b] pos) (nI r ta tb):=by intro c s d H Q I h;exact wpAny_Compare1 (om l k I h λv u e x y n m g f q=>i c e d n x y v u Q m g f q) j
inductive fX(Q:Bool->Hp->Prop)(x:V)(H':Hp):Prop|mk:∀k,x=.bl k->Q k H'->fX Q x H'
def rP(t:TE):TT:=λσ H Q=>t σ H λx H'=>fX Q x H'
theorem zp{op:CmpOp}{r:R2}(q:aY X (compareOp op) r)(A:PE X a ta)(w:PE X b tb)(t:behindInMarks op b=false):PT X (.Compare a [op] [b] pos) (rP (nI r ta tb)):=by
 intro d s f H Q I h;refine wpAny_isTrue_Compare1 (aF (A d s f H _ I h) λv i ⟨x,G,D,m,p⟩=>aF (w d i f G _ D p) λu g ⟨y,F,C,l,o⟩=>aF (q d g f F x y v u _ C m l o) λc K ⟨z,E,B,j,k,e,n⟩=>?_) t
 subst e;cases j;exact wpAny_truthy_bool ⟨E,B,n⟩
inductive eT(r':R2)(tc:TE)(σ:St)(Q:VK)(y z:V)(H3:Hp):Prop|mk:∀k,z=.bl k->(if k=true then tc σ H3 λw' H4=>r' y w' H4 Q else Q (.bl false) H3)->eT r' tc σ Q y z H3
def sK(r U:R2)(G F B:TE):TE:=λσ H Q=>G σ H λx H1=>F σ H1 λy H2=>r x y H2 λz W=>eT U B σ Q y z W
theorem Qx{op g:CmpOp}{r m:R2}(M:aY X (compareOp op) r)(j:aY X (compareOp g) m)(S:PE X a ta)(R:PE X b tb)(P:PE X c tc)(N:lastMarks [op,g] [b,c]=false:=by with_unfolding_all rfl):PE X (.Compare a [op,g] [b,c] pos) (sK r m ta tb tc):=by
 intro f s i H Q I h;refine Compare_chain (aF (S f s i H _ I h) λv C ⟨x,H1,Z,F,L⟩=>chain_link (aF (R f C i H1 _ Z L) λu B ⟨y,H2,W,l,K⟩=>aF (M f B i H2 x y v u _ W F l K) λd A ⟨z,p,o,E,k,e,n⟩=>?_)) N
 subst e;cases E;refine wpAny_truthy_bool ?_;cases k with|false=>exact ite_ff ⟨.bl false,p,o,J,n⟩|true=>exact ite_tt (chain_last (aF (P f A i p _ o n) λt w ⟨q,H4,U,D,G⟩=>j f w i H4 y q u t Q U l D G))
theorem Dz{op g:CmpOp}{r m:R2}(R:aY X (compareOp op) r)(j:aY X (compareOp g) m)(Z:PE X a ta)(W:PE X b tb)(U:PE X c tc)(S:lastMarks [op,g] [b,c]=false:=by with_unfolding_all rfl):PT X (.Compare a [op,g] [b,c] pos) (rP (sK r m ta tb tc)):=by
 intro f s i H Q I h;refine isTrue_chain (aF (Z f s i H _ I h) λv C ⟨x,H1,I1,G,N⟩=>test_link (aF (W f C i H1 _ I1 N) λu B ⟨y,H2,I2,l,M⟩=>aF (R f B i H2 x y v u _ I2 G l M) λd A ⟨z,p,o,F,k,e,n⟩=>?_)) S
 subst e;cases F;refine wpAny_truthy_bool ?_;cases k with| false=>obtain⟨k',e',P⟩:=n;cases e';exact ite_ff ⟨p,o,P⟩| true=>refine ite_tt (test_last (aF (U f A i p _ o n) λt w ⟨q,H4,I4,E,L⟩=>aF (j f w i H4 y q u t _ I4 l E L) λd' s5 ⟨z2,H5,I5,D,k2,e2,K⟩=>?_));subst e2;cases D;exact wpAny_truthy_bool ⟨H5,I5,K⟩
def qY(K:W.Frag)(x:V)(H:Hp)(k:Bool):Prop:=match x with|.non=>k=false|.bl b=>k=b|.int i=>k=(i !=0)|.str y=>y.length<=sizeLine/\k=((y.length:Int) !=0)|.byt y=>y.size<=sizeLine/\k=((y.size:Int) !=0)|.ref p=>(∃xs,aE K H p xs/\k= !xs.isEmpty)\/(∃xs,aD K H p xs/\k= !xs.isEmpty)\/∃kvs,H p=some (.dK kvs)/\k= !kvs.isEmpty|_=>False
theorem E7{a:Type}{kvs:O (a×V)}{vs:O (a×I)}(r:KV kvs vs):(!vs.isEmpty)= !kvs.isEmpty:=by cases r<;>rfl
theorem Jd(r:yl xs its):(!its.toArray.isEmpty)= !xs.isEmpty:=by cases r<;>simp
theorem Xm:(sizeLine:Nat)<2^63:=by rw[sizeLine_eq];decide
theorem A5:xA X (λx H Q=>∃k,qY X.K x H k/\Q k H):=by intro o s B H x v Q I d h;obtain⟨k,e,q⟩:=h;have C:=sizeLine_eq;cases x with| non=>cases d;have a:=e;subst a;exact truthy_none ⟨H,I,q⟩| bl b=>cases d;have a:=e;subst a;exact wpAny_truthy_bool ⟨H,I,q⟩| int i=>obtain⟨t,rfl⟩:=d;have a:=e;subst a;exact P.truthy_int ⟨H,I,q⟩| str y=>obtain⟨t,rfl⟩:=d;obtain⟨z,a⟩:y.length<=sizeLine/\k=((y.length:Int) !=0):=e;subst a;exact P.truthy_str (by omega) ⟨H,I.tok _,q⟩| byt y=>obtain⟨t,rfl⟩:=d;obtain⟨z,a⟩:y.size<=sizeLine/\k=((y.size:Int) !=0):=e;subst a;exact W.truthy_bytes (by omega) ⟨H,I.tok _,q⟩| ref p=>cases d;have a:=e;rcases a with⟨w,g,a⟩|⟨w,g,a⟩|⟨f,g,a⟩;subst a;obtain⟨n,r,l,u⟩:=I.list g;have c:=r.length;exact wpAny_truthy_list l.isList (by grind) ⟨H,I.tok _,by rw[Jd r];exact q⟩;subst a;obtain⟨n,r,l,u⟩:=I.tuple g;have c:=r.length;exact truthy_tuple l (by grind) ⟨H,I.tok _,by rw[Jd r];exact q⟩;subst a;obtain⟨u,A,j,r,m⟩:f.length<=sizeLine/\(p==sysModules)=false/\∃j,KV f j/\s.heap.DictOf (yp X.prog X.w) p j:=I.hok p _ g;have c:=Paired.length r;exact wpAny_truthy_dict A m (by omega) ⟨H,I.tok _,by rw[E7 r];exact q⟩|_=>exact(e).elim
theorem Qq(g:PE X a ta)(he:∀b,isTrue a X.env b=(do let v<-b;standAt a.pos;holding [v] (truthy v))):PT X a (λσ H Q=>ta σ H λx H'=>∃k,qY X.K x H' k/\Q k H'):=by intro c s σ H Q I h;exact isTrue_plain (aF (g c s σ H _ I h) λv d ⟨x,j,i,e,f⟩=>A5 c d σ j x v Q i e f) (he _)
theorem jx{x:V}(r:yl [x] us):∃u,us=[u]/\yu x u:=by cases r with|cons b a=>cases a;simp_all
theorem oO{x:V}(r:yl [x,y] us):∃u a,us=[u,a]/\yu x u/\yu y a:=by cases r with| cons e c=>cases c with|cons d b=>cases b;grind
theorem Vi:jt X (.type "int") (λxs H Q=>(∃i,xs=[.int i]/\Q (.int i) H)\/∃k,xs=[.bl k]/\Q (.int (if k then 1 else 0)) H):=by intro a s c H xs d Q I r h;rcases h with⟨i,rfl,q⟩|⟨k,rfl,q⟩;obtain⟨u,rfl,t,rfl⟩:=jx r;exact call_int_int ⟨.int i,H,I,⟨_,J⟩,q⟩;obtain⟨u,rfl,b⟩:=jx r;cases b;exact call_int_bool ⟨.int (if k then 1 else 0),H,I.tok _,⟨_,J⟩,q⟩
end
structure lF(h:Heap)(x dx C:Addr)(mA:Str->Option Value):Prop where
 obj:h.get? x=some (W.instObj C dx)
 ns:h.Ns1 dx mA
 ne:dx≠x
theorem EQ(n:h.Ns1 dx mA):∃od,h.get? dx=some od/\∀name,W.lookIn name od=some (mA name):=by
 obtain⟨o,j,k,d,i,g,_,f⟩:=n;refine⟨o,d,λname=>?_⟩;have e:=f name;unfold nsFind findBy at e;rw[<-Array.find?_toList]at e;unfold W.lookIn;rw[i];dsimp only;split
 simp_all
 rename_i q
 rw[q]at e;have a:j.toList.any (·.refKey)=false:=by rw[List.any_eq_false];intro y c;obtain⟨z,t,b⟩:=g y (Array.mem_toList_iff.mp c);simp[DictEntry.refKey,b]
 simp_all
theorem lF.look{x:Y}(I:lF h x dx C mA):∃od,W.InstAt h x (W.instObj C dx) C (some od)/\∀name,W.lookIn name od=some (mA name):=
 let⟨od,a,b⟩:=EQ I.ns
 ⟨od,⟨I.obj,J,J,a⟩,b⟩
section
variable{s:Shared}{K:W.Frag}{x:Addr}{v:Value}
end
theorem iw.some_of{o:Option Value}(r:iw (some v) o):∃u,o=some u/\yu v u:=by cases o with|none=>exact(r).elim|some u=>exact⟨u,J,r⟩
section
variable{H':Hp}{fs GE:List (Str×V)}
theorem Bz(b:aZ P w H h)(e:H a=some (.ins C dx fs)):∃mA,lF h a dx C mA/\(∀f,iw (fs.lookup f) (mA f))/\PySem.Within mA (fs.map (·.1))/\fs.length<=1000/\H dx=some (.own a):=by
 obtain⟨d,z,g,c,mA,n,r,q⟩:=(b a _ e)
 exact⟨mA,⟨c,n,g⟩,r,q,z,d⟩
end
structure qU(K:W.Frag)(C:Addr):Prop where
 pg:W.plainGet K C Str.empty=true
 hd:W.hasDictIn K C=true
 po:W.plainOver K C=true
 sa:W.findIn K (.ref C) "__setattr__"=some (some (.builtin "object.__setattr__"))
theorem qU.get{K:W.Frag}(c:qU K C)(f:Str):W.plainGet K C f=true:=c.pg
section
variable{s:Shared}{fs:List (Str×V)}{f:Str}
end
section
variable{f:Str}{eO cK:Pos}{tv:TE}
end
section
variable{s:Shared}{c:Value}{b:Bool}
inductive bW(K:W.Frag)(H:Hp):V->Value->Prop where|non:bW K H .non (.type "NoneType")|bl (x:Bool):bW K H (.bl x) (.type "bool")|int (i:Int):bW K H (.int i) (.type "int")|str (x:Str):bW K H (.str x) (.type "str")|flt (x:UInt64):bW K H (.flt x) (.type "float")|lst {a:Addr} {xs:List V} (e:H a=some (.lst xs)):bW K H (.ref a) (.type "list")|frz {a:Addr} {o:Obj} {xs:List V} (e:H a=some (.frz o (.lst xs))):bW K H (.ref a) (.type "list")|tup {a:Addr} {xs:List V} (e:H a=some (.tup xs)):bW K H (.ref a) (.type "tuple")|dK {a:Addr} {kvs:List (cC×V)} (e:H a=some (.dK kvs)):bW K H (.ref a) (.type "dict")|dT {a:Addr} {kvs:List (List cC×V)} (e:H a=some (.dT kvs)):bW K H (.ref a) (.type "dict")|ins {a C dx:Addr} {fs:List (Str×V)} (e:H a=some (.ins C dx fs)) (cl:qU K C) (ha:W.findIn K (.ref C) "__class__"=some (some (.builtin "object.__class__")))
  (hn:W.specialIn K (.builtin "object.__class__") "__get__"=some (some (.builtin "getset_descriptor.__get__"))) (htk:W.takesIn K (.builtin "object.__class__")=some true)
  (hm:W.mroIn K C (.type "object")=some true):bW K H (.ref a) (.ref C)
theorem D8{x:V}{t:Value}(I:Inv X pins σ H s)(d:yu x u)(v:bW X.K H x t)(e:W.kitOne X.K t c=some b)(h:∀tk,Q (.bool b) {s with toks:=tk}):wpAny (model X.prog X.w) A (call (.builtin "isinstance") [u,c]) Q E s:=by
 cases v with|non=>cases(d);exact W.kia_one W.kitx_none I.kIn True.intro e (λz=>nomatch z) h|bl y=>cases(d);exact W.kia_one W.kitx_bool I.kIn True.intro e (λz=>nomatch z) h|int i=>obtain⟨t,q⟩:=(d);cases q;exact W.kia_one W.kitx_int I.kIn True.intro e (λz=>nomatch z) h|str y=>obtain⟨t,q⟩:=(d);cases q;exact W.kia_one W.kitx_str I.kIn True.intro e (λz=>nomatch z) h|flt y=>obtain⟨t,q⟩:=(d);cases q;exact W.kia_one W.kitx_float I.kIn True.intro e (λz=>nomatch z) h| @lst a k f=>
   cases(d);obtain⟨_,_,n,_,g⟩:=(I.hok a _ f)
   exact W.kia_one W.kitx_list I.kIn ⟨_,g,rfl⟩ e (λz=>nomatch z) h| @frz a M k f=>
   cases(d);obtain⟨_,_,_,n,_,g⟩:=(I.hok a _ f)
   exact W.kia_one W.kitx_list I.kIn ⟨_,g,rfl⟩ e (λz=>nomatch z) h| @tup a k f=>
   cases(d);obtain⟨_,_,_,p⟩:=(I.hok a _ f)
   obtain⟨⟨o,g,j,_⟩,_⟩:=p;exact W.kia_one W.kitx_tuple I.kIn ⟨o,g,j⟩ e (λz=>nomatch z) h| @dK a l f=>
   cases(d);obtain⟨_,_,K,_,p⟩:=(I.hok a _ f)
   obtain⟨o,F,G,g,j,_⟩:=p;exact W.kia_one W.kitx_dict I.kIn ⟨o,g,j.1⟩ e (λz=>nomatch z) h| @dT a l f=>
   cases(d);obtain⟨_,_,k,_,o,F,G,g,j,_⟩:=(I.hok a _ f)
   exact W.kia_one W.kitx_dict I.kIn ⟨o,g,j.1⟩ e (λz=>nomatch z) h| @ins a C R P f r D w m B=>cases(d);obtain⟨N,O,_⟩:=Bz I.hok f;obtain⟨L,J,_⟩:=O.look;exact W.kia_one (W.kitx_own (r.get _) r.hd D w m B) I.kIn J e (λz=>nomatch z) h
end
structure aO(k:Nat)(A:Around):Prop where
 hd:A.handled=none
 dp:A.depth+3*k+5<recursionLimit
 un:A.units+16*k+200<cLine
theorem aO.mono{j:Nat}(r:aO k A)(h:j<=k):aO j A:=⟨r.hd,by have:=r.dp;omega,by have:=r.un;omega⟩
theorem aO.deeper{k:Nat}{A:Around}(r:aO (k+1) A)(a:Env):aO k (A.deeper a):=⟨r.hd,by have:=r.dp;show A.depth+1+3*k+5<_;omega,by have:=r.un;show A.units+3+16*k+200<_;omega⟩
theorem aO.depth{k:Nat}{A:Around}(r:aO k A):A.depth<recursionLimit:=by have:=r.dp;omega
theorem aO.units{k:Nat}{A:Around}(r:aO k A):A.units+64<cLine:=by have:=r.un;omega
def iG:TA:=λ_ H Q=>Q [] H
def Ya(F:TE)(B:TA):TA:=λσ H Q=>F σ H λx H1=>B σ H1 λxs H2=>Q (x::xs) H2
section
variable{t:TA}
theorem zb:PA X [] iG:=λ_ _ _ _ H Q I h=>Calls.spliced_nil ⟨[],H,I,.nil,h⟩
theorem za(m:PE X e te)(l:PA X es t)(hs:starEach (e::es) X.env=(false,eval e X.env)::starEach es X.env:=by rfl):PA X (e::es) (Ya te t):=by intro b a s c H Q I h;rw[hs];refine Calls.spliced_cons (aF (m a s c H _ I h) λu f ⟨x,q,o,i,k⟩=>?_);exact aF (l b a f c q _ o k) λr v ⟨d,p,n,g,j⟩=>⟨x::d,p,n,.cons i g,j⟩
def rB(t:TA):TE:=λσ H Q=>t σ H λxs H1=>xs.length<=sizeLine/\∀p,H1 p=none->Q (.ref p) (upd H1 p (.tup xs))
def xL(t:TA):TE:=λσ H Q=>t σ H λxs H1=>xs.length<=sizeLine/\∀p,H1 p=none->Q (.ref p) (upd H1 p (.lst xs))
theorem qo{i}(h:PA X es t):PE X (.Tuple es i pos) (rB t):=by intro a s f H Q I k;refine wpAny_Tuple_spliced (aF (h pos a s f H _ I k) λj c ⟨g,m,d,r,z,q⟩=>⟨by rw[<-r.length];exact z,?_⟩);have l:=d.hok.fresh (aj _);refine⟨.ref c.heap.objs.size,upd m c.heap.objs.size (.tup g),d.laid (λb u e=>ak _ e) (aj _) ?_,J,q _ l⟩;exact⟨z,j,r,⟨_,bi _ J,J,_,J⟩,fS.push⟩
theorem vz(h:PA X es t):PE X (.List es pos) (xL t):=by intro a s f H Q I j;refine wpAny_List_spliced (aF (h pos a s f H _ I j) λi c ⟨g,l,d,r,z,q⟩=>⟨by rw[<-r.length];exact z,?_⟩);have k:=d.hok.fresh (aj _);refine⟨.ref c.heap.objs.size,upd l c.heap.objs.size (.lst g),d.laid (λb u e=>ak _ e) (aj _) ?_,J,q _ k⟩;exact⟨z,i,0,r,bi _ J⟩
end
abbrev Sp:=List V->Hp->VK->XK->Prop
abbrev fU:=List Env->Hp->Shared->XK->Value->Shared->Prop
structure fO(P:Program)(w:World)(K:W.Frag)(mg:Str->Option Value)(base:Heap)(A:Around)(outer:List Env)(s:Shared)(H:Hp):Prop where
 frames:A.frames=some outer
 mod:Mod K mg base
 bs:∀b o,base.get? b=some o->s.heap.get? b=some o/\H b=none
 bsz:base.objs.size<=s.heap.objs.size
 funs:s.heap.FunFrames base outer
 frf:∀b∈aV outer,H b=none
 hok:aZ P w H s.heap
 bare:AllBare s.gens
inductive CE(outer:List Env)(P:Program)(w:World)(H:Hp)(s:Shared)(Q:VK)(u:Value)(s':Shared):Prop|mk:∀v H',s'.os=s.os->AllBare s'.gens->Un (aV outer) [] H H' s.heap s'.heap->aZ P w H' s'.heap->yu v u->Q v H'->CE outer P w H s Q u s'
def CR(CX:fU)(B:List Env)(P:Program)(w:World)(H:Hp)(s:Shared)(Q:VK)(E:XK)(r:Result)(F:Shared):Prop:=match r with|.ok (.ret u)=>CE B P w H s Q u F|.ok _=>False|.error e=>CX B H s E e F
structure cD(P:Program)(w:World)(K:W.Frag)(mg:Str->Option Value)(base:Heap)(CX:fU)(k:Nat)(f:Addr)(fd:FuncData)(ps:List Str)(sp:Sp):Prop where
 len:∀vs H Q E,sp vs H Q E->vs.length=ps.length
 run:∀(A:Around)(outer:List Env)(s:Shared)(H:Hp)(args:Args)(us:List Value)(vs:List V)(Q:VK)(E:XK),aO k A->fO P w K mg base A outer s H->BindsTo s fd args (ps.zip us)->yl vs us->sp vs H Q E->
  codeAny (model P w) A (.call (.ref f) args) (CR CX outer P w H s Q E) s
section
variable{s s':Shared}
theorem Inv.env0(I:Inv X pins σ H s):fO X.prog X.w X.K X.mg X.base X.A X.stack s H:=⟨I.ok.frames,I.ok.mod,I.bs,c6 I.ok.bsz I.sz,I.stack,I.stkFree,I.hok,I.bare⟩
theorem Inv.after{Q:VK}(I:Inv X pins σ H s)(h:CE X.stack X.prog X.w H s Q u s'):EP X pins σ Q u s':=by obtain⟨v,c,os,bare,un,hok,r,q⟩:=h;obtain⟨e,g,d,t,a⟩:=s';obtain rfl:a=s.os:=os;exact⟨v,c,I.call un hok bare (λb z=>absurd z (by simp)),r,q⟩
end
def ma(sp:Sp)(B:List V)(E:XK)(t:TA):TE:=λσ H Q=>t σ H λvs H1=>sp (vs++B) H1 Q E
def Ww(K:W.Frag)(F:FuncData)(ps:List Str)(B:List Value):Prop:=∀(s:Shared)(us:List Value),K.In s.heap->(us++B).length=ps.length->BindsTo s F ⟨us,[]⟩ (ps.zip (us++B))
theorem Ww.all{K:W.Frag}(h:∀us:O I,us.length=ps.length->bindArgs fd ⟨us,[]⟩=pure (ps.zip us)):Ww K fd ps []:=λs us _ a=>by rw[ez]at a⊢;exact .of_eq (h us a)
def Yv(CX:fU)(X:Cx)(E:XK):Prop:=∀(pins:List (Addr×Obj))(σ:St)(H:Hp)(s:Shared)(e:Value)(s':Shared),Inv X pins σ H s->CX X.stack H s E e s'->X.xe e s'
section
variable{CX:fU}{sp:Sp}{iY:List V}{E:XK}{m:Str}{t:TA}
theorem sD{s:Shared}{Q:VK}(F:cD X.prog X.w X.K X.mg X.base CX k f fd ps sp)(g:aO k X.A)(l:Ww X.K fd ps ds)(j:yl iY ds)(d:Yv CX X E)(I:Inv X pins σ H s) (r:yl vs us) (h:sp (vs++iY) H Q E):wpAny (model X.prog X.w) X.A (call (.ref f) us) (EP X pins σ Q) X.xe s:=by
 have b:=r.append j;have i:(us++ds).length=ps.length:=by rw[<-b.length];exact F.len _ _ _ _ h
 refine wpAny_call (codeAny_mono (F.run X.A X.stack s H ⟨us,[]⟩ (us++ds) (vs++iY) Q E g I.env0 (l s us I.kIn i) b h) λr c a=>?_);cases r with|error e=>exact d pins σ H s e c I a| ok m=>cases m with|ret u=>exact I.after a|next=>exact False.elim a|brk=>exact False.elim a|cont=>exact False.elim a
theorem tP(F:cD X.prog X.w X.K X.mg X.base CX k f fd ps sp)(i:aO k X.A)(m:Gl X x)(j:X.mg x=some (.ref f))(l:W.keepIn X.K (.ref f)=true)(o:Ww X.K fd ps ds)(n:yl iY ds)(g:Yv CX X E)(u:PA X (e::es) t) (b:(x==("__debug__":Str))=false:=by decide) (he:starEach (e::es) X.env=(false,eval e X.env)::starEach es X.env:=by rfl) (hpl:(backTo pos (starEach es X.env)).any (·.1)=false:=by rfl):
  PE X (.Call (.Name x p) (e::es) [] pos) (ma sp iY E t):=by intro a s d H Q I h;refine wpAny_Call_Name_kw (Y8 I m j ?_ b);refine W.callWith_K I.ok.mod.kin l (aF (u pos a s d H _ I h) λw y ⟨v,z,c,r,q⟩=>⟨c.kIn,?_⟩) he hpl;exact sD F i o n g c r q
theorem DN(F:cD X.prog X.w X.K X.mg X.base CX k f fd ps sp)(d:aO k X.A)(i:Gl X x)(e:X.mg x=some (.ref f))(g:W.keepIn X.K (.ref f)=true)(l:Ww X.K fd ps ds)(j:yl iY ds)(c:Yv CX X E)(a:(x==("__debug__":Str))=false:=by decide):PE X (.Call (.Name x p) [] [] pos) (ma sp iY E iG):=by intro b s m H Q I h;refine wpAny_Call_Name_kw (Y8 I i e ?_ a);exact W.callWith_K0 I.kIn g (sD (us:=[]) F d l j c I .nil h)
end
section
variable{CX:fU}{ks:List Str}{sp:Sp}{E:XK}{m:Str}{iW:Pos}{GL:List Keyword}{t tk:TA}{nm:Option Str}
variable{g:List Value->List Value->List Value}{gV:List V->List V->List V}
end
structure aB(N P:List Str)(sc:Scope):Prop where
 kind:sc.kind=.function
 co:sc.isCoroutine=false
 gen:sc.isGenerator=false
 nd:N.Nodup
 pre:N.take P.length=P
 par:∀x∈P,sc.names.lookup x=some .local\/sc.names.lookup x=some .cell
 nofree:∀y∈sc.names,y.2≠ .free
theorem aB.of{P:O Str}(g:sc.kind=.function:=by rfl)(f:sc.isCoroutine=false:=by rfl)(e:sc.isGenerator=false:=by rfl)(d:N.Nodup:=by decide+kernel)(c:N.take P.length=P:=by rfl)(b:∀x∈P,sc.names.lookup x=some .local\/sc.names.lookup x=some .cell:=by decide+kernel)(a:∀y∈sc.names,y.2≠ .free:=by decide+kernel):aB N P sc:=⟨g,f,e,d,c,b,a⟩
theorem Kx{kindOf:Str->Option NameKind}{x:Str}:∀{a:List (Str×Value)}{m:Str->Option Value},(∀v,(x,v) ∉ a)->bindL kindOf a m x=m x
 |[],_,_=>rfl
 | (n,v)::r,m,h=>by
   unfold bindL;rw[Kx λw b=>h w (ce _ b)];split
   grind
   rfl
theorem Kz{kindOf:Str->Option NameKind}{x:Str}:∀{a:List (Str×Value)}{m:Str->Option Value},(∀v,(x,v) ∉ a)->bindC kindOf a m x=m x
 |[],_,_=>rfl
 | (n,v)::r,m,h=>by
   unfold bindC;rw[Kz λw b=>h w (ce _ b)];split;rfl
   grind
theorem Ky{kindOf:Str->Option NameKind}{x:Str}{v:Value}:∀{P:List Str}{vs:List Value}{i:Nat}{m:Str->Option Value},P.Nodup->P[i]?=some x->vs[i]?=some v->kindOf x=some .local->
  bindL kindOf (P.zip vs) m x=some v|[],_,_,_,_,h,_,_=>by simp at h|_::_,[],_,_,_,_,h,_=>by simp at h| p::P,w::vs,0,m,c,b,a,d=>by simp at b a;subst b;subst a;show bindL kindOf ((p,w)::P.zip vs) m p=_;unfold bindL;rw[Kx λv e=>(dq.mp c).1 (List.of_mem_zip e).1,if_pos d];simp| p::P,w::vs,i+1,m,c,b,a,d=>by show bindL kindOf ((p,w)::P.zip vs) m x=_;unfold bindL;exact Ky (i:=i) (dq.mp c).2 (by simpa using b) (by simpa using a) d
theorem K0{kindOf:Str->Option NameKind}{x:Str}{v:Value}:∀{P:List Str}{vs:List Value}{i:Nat}{m:Str->Option Value},P.Nodup->P[i]?=some x->vs[i]?=some v->kindOf x≠some .local->
  bindC kindOf (P.zip vs) m x=some v|[],_,_,_,_,h,_,_=>by grind|_::_,[],_,_,_,_,h,_=>by grind| p::P,w::vs,0,m,b,a,d,c=>by simp at a d;subst a;subst d;show bindC kindOf ((p,w)::P.zip vs) m p=_;unfold bindC;rw[Kz λv e=>(dq.mp b).1 (List.of_mem_zip e).1,if_neg c];simp| p::P,w::vs,i+1,m,b,a,d,c=>by unfold bindC;exact K0 (dq.mp b).2 (by simpa using a) (by simp_all) c
noncomputable def start(N:List Str)(vs:List V):St:=vs.map some++List.replicate (N.length-vs.length) none
noncomputable def Yp(CX:fU)(P:Program)(w:World)(K:W.Frag)(mg:Str->Option Value)(base:Heap)(N:List Str)(qual:Str)(B:Scope)(f:Addr)(U:Value)(A:Around)(F:List Env)(s:Shared)(H:Hp)(E:XK):Cx where
 prog:=P
 w:=w
 K:=K
 mg:=mg
 base:=base
 A:=A.deeper (envOfC qual B s.heap.objs.size f U)
 N:=N
 s₀:=s
 H₀:=H
 env:=envOfC qual B s.heap.objs.size f U
 outer:=F
 stack:=envOfC qual B s.heap.objs.size f U::F
 ex:=[]
 calm:=true
 fn:=λ_=>true
 pn:=[]
 xe:=λe s'=>wpAny (model P w) (A.deeper (envOfC qual B s.heap.objs.size f U)) (leaving (envOfC qual B s.heap.objs.size f U) e) (λ_ G=>CX F H s E e G) (λe' G=>CX F H s E e' G) s'
theorem uD(h:sc.names.lookup x=some .cell):∃c,(cellsFrom n sc.names []).lookup x=some c:=by have q:=W.cellsFrom_some sc.names n [] (.inl h);exact fz.mp q
theorem D7{CX:fU}{K:W.Frag}{t:I}{a:O Env}{s B:Shared}{E:XK}(S:aB N ps scope) (L:A.handled=none) (d:fO P w K mg base A a s H) (R:vs.length=ps.length) (r:yl vs us)
  (x:InCallC s s.heap.objs.size (bindL (envOfC qual scope s.heap.objs.size f t).kindOf (ps.zip us) λ_=>none) (cellsFrom (s.heap.objs.size+1) scope.names []) (bindC (envOfC qual scope s.heap.objs.size f t).kindOf (ps.zip us) λ_=>none) B):
  Inv (Yp CX P w K mg base N qual scope f t A a s H E) [] (start N vs) H B:=by
 have G:ps.length<=N.length:=by have:=congrArg List.length S.pre;grind
 obtain⟨o,Q,rfl,D⟩:=x.done;have g:∀b:Y,b ∉ (Yp CX P w K mg base N qual scope f t A a s H E).ex:=λb z=>absurd (show b∈[]from z) (by simp);refine⟨⟨d.mod,S.kind,J,J,aj _,λy z c o n=>?_,λy l=>?_,λy c _ h=>?_,λ_=>L,Around.frames_deeper d.frames,.inr ⟨J,J⟩,λb z=>absurd z (g b),d.bs,d.bsz,λb _ _=>g b,λb z=>absurd z (g b),d.funs,d.frf⟩,J,d.bare,Un.kept D,⟨_,x.toInCall.ns,λi y v o n X=>?_⟩,λy c h=>⟨_,x.cell y c h⟩,d.hok.fresh (aj _),λy c h=>?_,λp m=>absurd (show p∈[]from m) (by simp),d.hok.kept D,?_⟩
 exact name_of_addr x.apart (PySem.mem_of_lookup o) (PySem.mem_of_lookup n);rcases l with l|l;exact uD l;exact absurd J (S.nofree _ (PySem.mem_of_lookup l));exact Nat.le_of_lt (x.above y c (PySem.mem_of_lookup h));have U:i<vs.length:=by
  unfold start at n
  grind
 have M:vs[i]?=some v:=by
  unfold start at n
  grind
 obtain⟨u,C,F⟩:=r.get M;have m:ps[i]?=some y:=by rw[<-S.pre,List.getElem?_take_of_lt (by omega)];exact o
 have j:ps.Nodup:=by rw[<-S.pre];exact S.nd.sublist (List.take_sublist _ _)
 refine⟨u,F,?_⟩;rcases S.par y (br m)with k|k;exact .inl ⟨k,Ky j m C k⟩;obtain⟨c,e⟩:=uD k;refine .inr ⟨.inl k,c,e,?_⟩;have q:=x.cell y c e;rw[K0 j m C (by show scope.names.lookup y≠_;rw[k];decide)]at q;exact q;exact d.hok.fresh (Nat.le_of_lt (x.above y c (PySem.mem_of_lookup h)));unfold start;show _=N.length
 simp_all
theorem oF{CX:fU}{K:W.Frag}{aK:Arguments}{R kV B pm c U oc:Value}{Z od:Option Addr}{sp:Sp} (lk:K.lookup f=some ⟨oc,od,.func (W.fnOf name qual aK aS scope R kV B pm Z c U),osl⟩) (L:W.codeIn K c qual=true) (S:aB N ps scope)
  (l:∀vs H Q E,sp vs H Q E->vs.length=ps.length)
  (h:∀(A:Around) (a:List Env) (s:Shared) (H:Hp) (vs:List V) (Q:VK) (E:XK),aO k (A.deeper (envOfC qual scope s.heap.objs.size f c))->sp vs H Q E-> ∃t,dR (Yp CX P w K mg base N qual scope f c A a s H E) aS t/\t (.of Q) (start N vs) H):
  cD P w K mg base CX (k+1) f (W.fnOf name qual aK aS scope R kV B pm Z c U) ps sp:=by
 refine⟨l,λA a s H X us vs Q E G z hb r m=>?_⟩;have hl:=l _ _ _ _ m;have KX:=z.mod.kin.keeps λb o e=>(z.bs b o e).1;have F:=z.mod.nolimit.keeps λb o e=>(z.bs b o e).1;have g:∀y∈ps.zip us,scope.names.lookup y.1=some .local\/(scope.names.lookup y.1=some .cell/\((cellsFrom (s.heap.objs.size+1) scope.names []).lookup y.1).isSome=true):=λ⟨n,v⟩ hy=>by
  rcases S.par n (List.of_mem_zip hy).1 with q|q
  simp_all
  exact .inr ⟨q,W.cellsFrom_some _ _ _ (.inl q)⟩
 refine codeAny_call_function G.depth (KX _ _ lk) rfl S.co S.gen rfl (W.codeRec_of KX L) (hb _ _ _ _ ?_);refine wpAny_newFunctionEnv_cells S.kind g λaf he M x=>?_;subst he;refine⟨F.keeps x.toInCall.keep,codeAny_func ?_⟩;obtain⟨t,ht,hq⟩:=h A a s H vs Q E (G.deeper _) m;have I:Inv (Yp CX P w K mg base N qual scope f c A a s H E) [] (start N vs) H M:=D7 S G.hd z hl r x;refine df (ht [] M (start N vs) H _ I hq) (λfl C i=>?_) λe C i=>i;have p:∀{d:St}{j:Hp}{v:V}{u:Value},Inv (Yp CX P w K mg base N qual scope f c A a s H E) [] d j C->yu v u->Q v j->CE a P w H s Q u C:=
  λ{d j v u} J D q=>⟨v,j,J.os,J.bare,J.base,J.hok,D,q⟩
 cases fl with
 | ret u=>obtain⟨v,d,j,J,D,q⟩:=i;exact p J D q
 | next=>obtain⟨d,j,J,q⟩:=i;exact p (v:=V.non) J rfl q
 | brk=>
   obtain⟨_,_,_,q⟩:=i
   simp_all
 | cont=>
   obtain⟨_,_,_,q⟩:=i
   simp_all
section
variable{t:TA}{T:String}{r:List V->Hp->VK->Prop}
def lL(r:List V->Hp->VK->Prop)(t:TA):TE:=λσ H Q=>t σ H λvs H1=>r vs H1 Q
theorem zo(o:jt X (.builtin id) r)(n:Gl X x)(m:X.mg x=none)(k:bootBuiltins x=some (.builtin id))(q:PA X (e::es) t)(l:x≠"__name__":=by decide)(b:(x==("__debug__":Str))=false:=by decide)
  (he:starEach (e::es) X.env=(false,eval e X.env)::starEach es X.env:=by rfl) (hpl:(backTo pos (starEach es X.env)).any (·.1)=false:=by rfl):PE X (.Call (.Name x p) (e::es) [] pos) (lL r t):=by intro a s c H Q I h;refine wpAny_Call_Name_kw (Xn I n m k ?_ l b);exact PyProof.Rows.callWith_builtin1 (aF (q pos a s c H _ I h) λf g ⟨d,v,u,i,j⟩=>o a g c v d f Q u i j) he hpl
theorem ym(o:jt X (.type T) r)(n:Gl X x)(m:X.mg x=none)(k:bootBuiltins x=some (.type T))(q:PA X (e::es) t)(l:x≠"__name__":=by decide)(b:(x==("__debug__":Str))=false:=by decide)
  (he:starEach (e::es) X.env=(false,eval e X.env)::starEach es X.env:=by rfl) (hpl:(backTo pos (starEach es X.env)).any (·.1)=false:=by rfl):PE X (.Call (.Name x p) (e::es) [] pos) (lL r t):=by intro a s c H Q I h;refine wpAny_Call_Name_kw (Xn I n m k ?_ l b);exact PyProof.Rows.callWith_type1 (aF (q pos a s c H _ I h) λf g ⟨d,v,u,i,j⟩=>o a g c v d f Q u i j) he hpl
end
section
variable{κ:Type}[DecidableEq κ]
noncomputable def Zi(kvs:List (κ×V))(k:κ):Option V:=(kvs.find? λB=>decide (B.1=k)).map (·.2)
noncomputable def Wc(kvs:List (κ×V))(k:κ)(v:V):List (κ×V):=if(kvs.any λB=>decide (B.1=k))=true then kvs.map (λB=>if B.1=k then(B.1,v)else B)else kvs++[(k,v)]
theorem Qa{p:κ×V}{r:O (κ×V)}{k:κ}(e:p.1=k):Zi (p::r) k=some p.2:=by simp[Zi,List.find?_cons,e]
theorem Qb{p:κ×V}{r:O (κ×V)}{k:κ}(e:¬p.1=k):Zi (p::r) k=Zi r k:=by simp[Zi,List.find?_cons,e]
theorem Xv(k:κ):∀kvs:List (κ×V),(kvs.any λa=>decide (a.1=k))=(Zi kvs k).isSome|[]=>rfl| p::r=>by rw[List.any_cons];by_cases e:p.1=k;simp only[Qa e,aw e,Bool.true_or,Option.isSome_some];rw[Qb e,bp e,Bool.false_or];exact Xv k r
theorem Vn(kvs:O (κ×V))(k:κ)(v:V):(Wc kvs k v).length<=kvs.length+1:=by
 unfold Wc
 grind
theorem uX{kvs:O (κ×V)}{k:κ}(v:V)(h:Zi kvs k=none):Wc kvs k v=kvs++[(k,v)]:=by unfold Wc;rw[Xv,h];rfl
theorem iw.isSome_eq{o:Option V}{u:Option Value}(r:iw o u):o.isSome=u.isSome:=by
 cases o with
 | none=>cases u with
   |none=>rfl
   |some _=>exact(r).elim
 | some _=>cases u with
   |none=>exact(r).elim
   |some _=>rfl
end
theorem yO{k:cC}(r:yu (kV k) u):(yp P w).is k u=true:=by cases k with|inl i=>obtain⟨t,e⟩:=(r);subst e;exact FP P w i t|inr x=>obtain⟨t,e⟩:=(r);subst e;exact FQ P w x t
theorem Kp{P:Program}{w:World}:∀{ks:List cC}{us:List Value},yl (ks.map kV) us->ItemsAre (yp P w) ks us|[],_,r=>by rw[List.map_nil]at r;cases r;exact .nil| k::ks,_,r=>by rw[dv]at r;cases r with|cons h t=>exact .cons (yO h) (Kp t)
abbrev KT(H:Hp):List (List cC×V)->List (List cC×Addr×Value)->Prop:=Paired λp q=>p.1=q.1/\H q.2.1=some (.tup (p.1.map kV))/\yu p.2 q.2.2
section
theorem AY(c:aZ P w H h)(e:H a=some (.tup (ks.map kV))):(tupleKind (yp P w)).is h ks a:=by
 obtain⟨_,b,r,⟨o,g,f,n,d⟩,_⟩:=(c a _ e)
 exact⟨o,b.toArray,n,g,f,d,by simpa using Kp r⟩
end
section
variable{s:Shared}{o:Option V}
theorem Inv.big(I:Inv X pins σ H s):sysModules<s.heap.objs.size:=by have h:=(I.mod.glob.keeps I.bk).lt;exact Nat.lt_trans (by decide) h
theorem tW{c:HO}(I:Inv X pins σ H s)(e:mH (H a))(hs:Heap.SameBut a s.heap h')(he:∃q,h'.get? a=some q)(d:wk X.prog X.w (upd H a c) h' a c):Inv X pins σ (upd H a c) {s with heap:=h',toks:=t'}:=
 I.write e (.inl J) (λb q f z=>(hs.2 b f).trans z) he d
end
section
variable{s:Shared}{k:cC}
end
def qW(i:Expr):Prop:=∀ov B,subscripted i false ov B=operate [ov,B] (getItem ov B)
theorem Cj{s:Shared}{f:Env}{a:Expr}{T:String}(k:typeLookup (.type T) "__getitem__"=pure (some (.builtin id))) (hs:qW a)
  (h:wpAny (model prog w) A (eval aT f) (λo d=>wpAny (model prog w) A (eval a f) (λi s₂=>s₂.TypeIs o T/\wpAny (model prog w) A (getItem o i) Q E s₂) E d) E s):
  wpAny (model prog w) A (eval (.Subscript aT a pos) f) Q E s:=by
 refine Subscript_ (df h (λo d j=>df j (λi s₂ b=>?_) λ_ _ x=>x) λ_ _ x=>x);obtain⟨hT,b⟩:=b;unfold subscriptTail;refine aa ?_;rw[getitemInPython_of_ne hT.not_modules];refine aa (wpAny_specialOf hT k ?_);have e:wpAny (model prog w) A (subscripted a false o i) (λr c=>wpAny (model prog w) A (letTemporaryGo aT o r>>=λ_=>pure r) Q E c) E s₂:=by rw[hs o i];exact wpAny_operating (df b (λr c g=>aa (wpAny_letTemporaryGo (ac g))) λ_ _ x=>x)
 first|exact ac (aa e)|exact aa (ac (aa e))|exact aa e
section
variable{i:Expr}{eO cK:Pos}{td ty tv:TE}
end
section
end
section
variable{s:Shared}{d:V}{o:Option V}
end
section
variable{f:Expr}{aW:Pos}{td ty tx:TE}
end
section
variable{s:Shared}
end
section
variable{s:Shared}
end
end L2
namespace HT
open PySem PyProof.Rows
variable{sl:Addr}{A:Around}{aC:Array Value}{vl vu:Value}{E Q:Value->Shared->Prop}
theorem mq(A:Around)(s:Shared)(a:Int)(t:Tok)(c:Int)(u:Tok)(prog:Program)(w:World)(E:I->Shared->Prop)(Q:I->Shared->Prop)(h:Q (.bool (decide (a<c))) s):wpAny (model prog w) A (richCompare .Lt (.int a t) (.int c u)) Q E s:=
 (PyProof.Rows.lt_int h:wpAny (model prog w) A (compareOp .Lt (.int a t) (.int c u)) Q E s)
section
open PySem.SeqAt
open PySem.AutoSeq1 (wpAny_loadPart')
open PySem.MeetsSeq PySem.MeetsSeq2 PySem.MeetsSeq3
end
section
variable{prog:Program}{w:World}{s:Shared}
theorem nS{t b:Y}{vs ws:O I}(r:IsTup s.heap t vs.toArray)(u:IsTup s.heap b ws.toArray)(y:vs≠[])(v:ws=[]->Q (.ref t) s) (z:ws≠[]->Q (.ref s.heap.objs.size) {s with heap:=s.heap.push {cls:=.type "tuple",data:=.seq (vs++ws).toArray}})
  (hsz:vs.length+ws.length<=sizeLine):wpAny (model prog w) A (binaryOp .Add (.ref t) (.ref b)) Q E s:=by
 obtain⟨⟨x,m,o,i⟩,h,l,n,k⟩:=id r;obtain⟨⟨p,g,data2,c⟩,a,f,j,d⟩:=id u;simp only at l k f d;subst l k f d;have e:vs.toArray++ws.toArray=(vs++ws).toArray:=by simp
 by_cases q:ws=[];exact concat_meets ⟨_,h,J⟩ ⟨_,a,J⟩ noFill_tuple_add seq_tuple_add PySem.F.slot_tuple_add PySem.F.entry_tuple_add (PySem.F.args_tuple_add_2 _ _)
  (tuple_addW1 t b vs.toArray ws.toArray n j m g i c (by simp_all) (by grind)) ⟨h,a,v q⟩
 refine concat_meets ⟨_,h,J⟩ ⟨_,a,J⟩ noFill_tuple_add seq_tuple_add PySem.F.slot_tuple_add PySem.F.entry_tuple_add (PySem.F.args_tuple_add_2 _ _)
  (tuple_addW2 t b vs.toArray ws.toArray n j m g i c (by simp_all) (by simp_all) (by omega)) ⟨h,a,?_⟩
 simp_all
noncomputable def bC(n d:Nat):Option Int->Nat|none=>d|some v=>if v<0 then(v+(n:Int)).toNat else min v.toNat n
theorem mo(n d:Nat):bC n d none=d:=rfl
theorem nL(n d k:Nat):bC n d (some (k:Int))=min k n:=by rfl
theorem Bf(n d:Nat)(a:d<=n)(o:Option Int):bC n d o<=n:=by
 cases o with|none=>exact a| some v=>
   show(if v<0 then(v+n).toNat else min v.toNat n)<=n
   grind
theorem fF(v:Int)(n d:Nat):(if v<0 then max (v+(n:Int)) 0 else min v (n:Int))=((bC n d (some v):Nat):Int):=by
 show(if v<0 then max (v+n) 0 else min v n)=(((if v<0 then(v+n).toNat else min v.toNat n):Nat):Int)
 grind
theorem E2(lo a:Option Int)(n:Nat):Builtin.Slice.sliceAdjust lo a 1 (n:Int)=(((bC n 0 lo:Nat):Int),((bC n n a:Nat):Int)):=by
 have b:¬((1)<0):=by omega
 unfold Builtin.Slice.sliceAdjust;simp only[b,if_false];refine Prod.ext ?_ ?_;cases lo with|none=>rfl|some v=>exact fF v n 0
 cases a with|none=>rfl|some v=>exact fF v n n
theorem FL(i j:Nat):Builtin.Slice.slicePlaces (i:Int) (j:Int) 1=j-i:=by
 unfold Builtin.Slice.slicePlaces;have a:(1:Int)>0:=by omega
 simp only[a,if_true,Int.ediv_one];split<;>omega
theorem Qg{v:Value}{o:Option Int}{Q:Option Int->Shared->Prop}(p:IsPart v o)(h:Q o s):wpAny (model prog w) A (Builtin.Slice.slicePartIndex v) Q E s:=by cases p with|none=>exact slicePart_none h|int i t=>exact slicePart_int h
theorem Zj{lo b:Option Int}{n:Nat}{Q:Int×Int×Nat->Shared->Prop}(hs:s.heap.IsSliceOf sl vl vu .none)(e:IsPart vl lo)(d:IsPart vu b)(h:Q (((bC n 0 lo:Nat):Int),1,bC n n b-bC n 0 lo) s):wpAny (model prog w) A (Builtin.Slice.sliceApplied (.ref sl) (pure (n:Int))) Q E s:=by obtain⟨os,a,f,c⟩:=id hs;unfold Builtin.Slice.sliceApplied Builtin.Slice.sliceFields;refine aa (aa (wpAny_field a c J (aa (wpAny_field a c J (aa (wpAny_field a c J (ac ?_)))))));refine aa (slicePart_none ?_);rw[if_neg (by decide)];refine aa (Qg e (aa (Qg d (aa (ac ?_)))));show wpAny _ _ (match Builtin.Slice.sliceAdjust lo b 1 n with|(lo,b)=>pure (lo,(1:Int),Builtin.Slice.slicePlaces lo b 1)) _ _ s;rw[E2 lo b n];show wpAny _ _ (pure (((bC n 0 lo):Int),(1),Builtin.Slice.slicePlaces ((bC n 0 lo:Nat)) ((bC n n b):Int) 1)) _ _ s;rw[FL];exact ac h
theorem DR(xs:Array I)(i k:Nat):((List.range k).filterMap λ(m:Nat)=>xs[((i:Int)+(m:Int)*1).toNat]?).toArray=((xs.toList.drop i).take k).toArray:=by
 have e:(λ(m:Nat)=>xs[((i:Int)+m*1).toNat]?)=λm=>xs[i+m]?:=by grind
 rw[e];have:=pick_run xs i k;rw[List.filterMap_map]at this;have a:((λx=>xs[x]?)∘λx=>i+x)=λm=>xs[i+m]?:=rfl
 simp_all
theorem fB{t:Y}{lo b:Option Int}(c:IsTup s.heap t aC)(hs:s.heap.IsSliceOf sl vl vu .none)(j:IsPart vl lo)(i:IsPart vu b)(k:¬(bC aC.size 0 lo=0/\bC aC.size aC.size b=aC.size))
  (h:Q (.ref s.heap.objs.size) {s with heap:=s.heap.push {cls:=.type "tuple",data:=.seq ((aC.toList.drop (bC aC.size 0 lo)).take (bC aC.size aC.size b-bC aC.size 0 lo)).toArray}})
  (hsz:aC.size<=sizeLine):wpAny (model prog w) A (getItem (.ref t) (.ref sl)) Q E s:=by
 have a:sizeOk (.seq ((aC.toList.drop (bC aC.size 0 lo)).take (bC aC.size aC.size b-bC aC.size 0 lo)).toArray):=by show((aC.toList.drop (bC aC.size 0 lo)).take (bC aC.size aC.size b-bC aC.size 0 lo)).toArray.size<=sizeLine;rw[cq,bu,List.length_drop,Array.length_toList];omega
 have o:bC aC.size aC.size b<=aC.size:=Bf _ _ (aj _) b;obtain⟨os,d,f,l⟩:=id hs;have g:s.TypeIs (.ref sl) "slice":=⟨os,d,f⟩
 unfold getItem
 try with_reducible refine wpAny_holding ?_
 first|refine aa (ac ?_)|skip
 refine aa (wpAny_sequenceKey c.typeIs (by decide) ?_);refine aa (wpAny_callSpecial?_slot (name:=Str.ofString "__getitem__") c.typeIs PyProof.Rows.slot_tuple_getitem (cy PyProof.Rows.slot_tuple_getitem c.typeIs entry_tuple_getitem ?_ (args_tuple_getitem _ _)))
 show wpAny _ _ (Builtin.Tuple.tupleItemsOf (.ref t)>>=_) _ _ s;refine aa (tupleItemsOf_ c ?_);refine aa (wpAny_typeOf g ?_);rw[if_pos (by decide)];refine aa (Zj hs j i ?_);have e:¬((((bC aC.size 0 lo:Nat):Int)==0 && (1:Int)==1 && (bC aC.size aC.size b-bC aC.size 0 lo)==aC.size)=true):=by intro q;rw[bj,bj]at q;have n:((bC aC.size 0 lo:Nat):Int)=0:=eq_of_beq q.1.1;have m:bC aC.size aC.size b-bC aC.size 0 lo=aC.size:=eq_of_beq q.2;exact k ⟨by omega,by omega⟩
 show wpAny _ _ (if(((bC aC.size 0 lo:Nat):Int)==0 && (1:Int)==1 && (bC aC.size aC.size b-bC aC.size 0 lo)==aC.size)=true then _ else _) _ _ s;rw[if_neg e,DR];first|exact aa (m:=Builtin.Tuple.tupleExact _) (dg (ac ⟨_,J,ac h⟩) a)|exact aa (m:=Builtin.Tuple.tupleExact _) (dg (aa (ac (ac ⟨_,J,ac h⟩))) a)|exact aa (aa (m:=Builtin.Tuple.tupleExact _) (dg (ac (ac ⟨_,J,ac h⟩)) a))|exact aa (aa (m:=Builtin.Tuple.tupleExact _) (dg (ac ⟨_,J,ac h⟩) a))
end
end HT
namespace L2
open PySem PySem.Spec PyProof.Rows
variable{A:Around}{X:Cx}{e:Expr}{H:Hp}{i:Int}{pins:List (Addr×Obj)}{es:List Expr}{ns:List Int}{xs ys:List V}{its its' us:List Value}{j n t':Nat}{pos:Pos}{σ:St}{x:V}{u v:Value}{E:Value->Shared->Prop}
abbrev TO:=St->Hp->(Option Int->Hp->Prop)->Prop
def PO(X:Cx)(e:Option Expr)(t:TO):Prop:=
 ∀ (pins:List (Addr×Obj)) (s:Shared) (σ:St) (H:Hp) (Q:Option Int->Hp->Prop),Inv X pins σ H s->t σ H Q->
   wpAny (model X.prog X.w) X.A (evalPart e X.env) (λu s'=>∃o H',Inv X pins σ H' s'/\IsPart u o/\Q o H') X.xe s
def Cn:TO:=λ_ H Q=>Q none H
inductive fY(Q:Option Int->Hp->Prop)(x:V)(H1:Hp):Prop|mk:∀i,x=.int i->Q (some i) H1->fY Q x H1
def Aj(t:TE):TO:=λσ H Q=>t σ H λx H1=>fY Q x H1
theorem E6:∀{us:List Value},yl (ns.map V.int) us->IntsAre us ns:=by induction ns with|nil=>intro us r;rw[List.map_nil]at r;cases r;exact .nil| cons n ns c=>intro us r;rw[dv]at r;cases r with| cons b a=>obtain⟨t,e⟩:=b;subst e;exact .cons n t (c a)
section
variable{te:TE}{lo hi:Option Expr}{tl th:TO}{p2:Pos}
theorem wm:PO X none Cn:=by intro a s b H Q I h;rw[evalPart_none];exact ac ⟨none,H,I,.none,h⟩
theorem wc(h:PE X e te):PO X (some e) (Aj te):=by intro a s b H Q I f;rw[evalPart_some];refine aF (h a s b H _ I f) λu k ⟨x,j,g,c,d⟩=>?_;obtain⟨i,rfl,q⟩:=d;obtain⟨t,rfl⟩:=c;exact⟨some i,j,g,.int i t,q⟩
inductive mD(X:Cx)(pins:List (Addr×Obj))(s:Shared)(σ:St)(v:Value)(sl:Addr)(Q:VK):Prop|mk:∀T id,typeLookup (.type T) "__getitem__"=pure (some (.builtin id))->s.TypeIs v T->wpAny (model X.prog X.w) X.A (getItem v (.ref sl)) (EP X pins σ Q) X.xe s->mD X pins s σ v sl Q
def mF(X:Cx)(r:V->Option Int->Option Int->Hp->VK->Prop):Prop:=
 ∀ (pins:List (Addr×Obj)) (s:Shared) (σ:St) (H:Hp) (x:V) (v vl vu:Value) (lo hi:Option Int) (sl:Addr) (Q:VK),Inv X pins σ H s->yu x v->s.heap.IsSliceOf sl vl vu .none->IsPart vl lo->IsPart vu hi->r x lo hi H Q->
   mD X pins s σ v sl Q
def Gu(r:V->Option Int->Option Int->Hp->VK->Prop)(te:TE)(B F:TO):TE:=λσ H Q=>te σ H λx H1=>B σ H1 λl H2=>F σ H2 λu G=>r x l u G Q
theorem xi{r:V->Option Int->Option Int->Hp->VK->Prop}(A:mF X r)(he:PE X e te)(B:PO X lo tl)(y:PO X hi th):PE X (.Subscript e (.Slice lo hi none p2) pos) (Gu r te tl th):=by intro a s c H Q I h;refine Subscript_ (aF (he a s c H _ I h) λv k ⟨x,L,G,m,p⟩=>?_);refine wpAny_Slice (aF (B a k c L _ G p) λg j ⟨l,K,F,w,o⟩=>aF (y a j c K _ F o) λf d ⟨u,i,E,t,n⟩=>?_);rw[evalPart_none];refine ac ?_;have D:Inv X a c i {d with heap:=d.heap.push {cls:=.type "slice",data:=.fields #[g,f,.none]}}:=E.kept λb M q=>ak _ q;obtain⟨T,id,hT,z,C⟩:=A a {d with heap:=d.heap.push {cls:=.type "slice",data:=.fields #[g,f,.none]}} c i x v g f l u d.heap.objs.size Q D m (Heap.IsSliceOf.new ..) w t n;exact tail_any z hT C (by rfl)
noncomputable def iD(xs:List V)(lo B:Option Int):List V:=(xs.drop (HT.bC xs.length 0 lo)).take (HT.bC xs.length xs.length B-HT.bC xs.length 0 lo)
theorem Vp(xs:O V)(lo a:Option Int):(iD xs lo a).length<=xs.length:=by unfold iD;rw[bu,List.length_drop];omega
inductive mt(K:W.Frag)(x:V)(lo hi:Option Int)(H:Hp)(Q:VK):Prop|mk:∀a xs,x=.ref a->aD K H a xs->¬(HT.bC xs.length 0 lo=0/\HT.bC xs.length xs.length hi=xs.length)->(∀p,H p=none->Q (.ref p) (upd H p (.tup (iD xs lo hi))))->mt K x lo hi H Q
theorem Bi:mF X (mt X.K):=by
 intro f s p H x v u t lo i w Q I j o l k h;obtain⟨a,c,rfl,n,z,q⟩:=h;cases j;obtain⟨e,r,g,m⟩:=I.tuple n;have d:e.toArray.size=c.length:=by rw[cq];exact r.length.symm
 refine⟨"tuple",_,PyProof.Rows.slot_tuple_getitem.lookup,g.typeIs,?_⟩;refine HT.fB g o l k (by simp_all) ?_ (by omega);rw[d];refine⟨.ref s.heap.objs.size,_,I.laid (λb y q=>ak _ q) (aj _) ?_,J,q _ (I.hok.fresh (aj _))⟩;exact⟨c6 (Vp c lo i) m,_,(r.drop (HT.bC c.length 0 lo)).take (HT.bC c.length c.length i-HT.bC c.length 0 lo),IsTup.new _ _,fS.push⟩
inductive jP(K:W.Frag)(x y:V)(H:Hp)(Q:VK):Prop|mk:∀a b xs ys,x=.ref a->y=.ref b->aD K H a xs->aD K H b ys->xs≠[]->xs.length+ys.length<=sizeLine->(ys=[]->Q (.ref a) H)->(ys≠[]->∀p,H p=none->Q (.ref p) (upd H p (.tup (xs++ys))))->jP K x y H Q
theorem yl.nil_iff(r:yl xs us):us=[]↔xs=[]:=by cases r with|nil=>simp|cons _ _=>simp
theorem CA:aY X (binaryOp .Add) (jP X.K):=by intro e s t H x y v u Q I i g h;obtain⟨a,b,B,A,rfl,rfl,r,p,o,D,k,j⟩:=h;cases i;cases g;obtain⟨n,d,m,_⟩:=I.tuple r;obtain⟨f,c,l,_⟩:=I.tuple p;refine HT.nS m l (λz=>o (d.nil_iff.mp z)) (λz=>⟨.ref a,H,I,J,k (c.nil_iff.mp z)⟩) (λz=>?_) (by rw[<-d.length,<-c.length];omega);refine⟨.ref s.heap.objs.size,_,I.laid (λb C q=>ak _ q) (aj _) ?_,J,j (λw=>z (c.nil_iff.mpr w)) _ (I.hok.fresh (aj _))⟩;exact⟨by simp_all,_,d.append c,IsTup.new _ _,fS.push⟩
end
noncomputable def fQ(n:Nat)(i:Int):Option Nat:=if 0<=i then(if i<n then some i.toNat else none)else if -(n:Int)<=i then some (i+n).toNat else none
noncomputable def bS{B:Type}(xs:List B)(i:Int):Option B:=(fQ xs.length i).bind λj=>xs[j]?
theorem tj(h:fQ n i=some j):seqIndex? i n=some j/\j<n/\ -(n:Int)<=i/\i<n:=by
 unfold fQ at h;by_cases b:0<=i;rw[if_pos b]at h;by_cases a:i<n;rw[if_pos a]at h;have e:=Option.some.inj h;exact⟨by rw[seqIndex_of b a,e],by omega,by omega,a⟩
 simp_all
 rw[if_neg b]at h;by_cases a: -n<=i;rw[if_pos a]at h;have e:=Option.some.inj h;exact⟨by rw[seqIndex_neg (by omega) a,e],by omega,a,by omega⟩
 simp_all
theorem tT{a:Type}{xs:List a}{v:a}(h:bS xs i=some v):∃j,seqIndex? i xs.length=some j/\xs[j]?=some v/\j<xs.length/\ -(xs.length:Int)<=i/\i<xs.length:=by
 unfold bS at h;cases e:fQ xs.length i with|none=>simp_all| some j=>
   rw[e]at h;obtain⟨f,d,c,b⟩:=tj e
   simp_all
theorem yq{a:Type}{xs:O a}{v:a}(h:xs[j]?=some v):bS xs (j:Int)=some v:=by
 have b:=(c7.mp h).1;have e:fQ xs.length j=some j:=by
  unfold fQ
  simp_all
 unfold bS;simp_all
theorem uB{a:Type}(xs:O a)(v:a):bS (xs++[v]) (-1)=some v:=by
 have b:(xs++[v]).length=xs.length+1:=by simp
 have e:fQ (xs++[v]).length (-1)=some xs.length:=by unfold fQ;rw[b,if_neg (by decide),if_pos (by omega)];congr 1;omega
 unfold bS;rw[e];show(xs++[v])[xs.length]?=some v;simp
def tQ(b:Expr):Prop:=∀o i,subscripted b false o i=operate [o,i] (getItem o i)
def mJ(X:Cx)(r:R2):Prop:=
 ∀ (aT B:Expr) (pins:List (Addr×Obj)) (s:Shared) (σ:St) (H:Hp) (x y:V) (v u:Value) (Q:VK),Inv X pins σ H s->yu x v->yu y u->r x y H Q->
   subscripted B false v u=operate [v,u] (getItem v u)->wpAny (model X.prog X.w) X.A (subscriptTail aT B v u) (EP X pins σ Q) X.xe s
def mI(X:Cx)(id:String)(r:V->List V->Hp->VK->Prop):Prop:=
 ∀ (pins:List (Addr×Obj)) (s:Shared) (σ:St) (H:Hp) (x:V) (xs:List V) (v:Value) (us:List Value) (Q:VK),Inv X pins σ H s->yu x v->yl xs us->r x xs H Q->
   wpAny (model X.prog X.w) X.A (call (.builtin id) (v::us)) (EP X pins σ Q) X.xe s
section
variable{a b:Expr}{ta tb:TE}
theorem zl{r:R2}(i:mJ X r)(k:PE X a ta)(j:PE X b tb)(hs:tQ b:=by exact λ_ _=>rfl):PE X (.Subscript a b pos) (nI r ta tb):=by intro c s d H Q I h;exact Subscript_ (om k j I h λv u e x y m l g f q=>i a b c e d m x y v u Q l g f q (hs _ _))
inductive lm(K:W.Frag)(x y:V)(H:Hp)(Q:VK):Prop|mk:∀p xs i v,x=.ref p->y=.int i->aE K H p xs->bS xs i=some v->Q v H->lm K x y H Q
inductive gM(K:W.Frag)(x y:V)(H:Hp)(Q:VK):Prop|mk:∀p xs i v,x=.ref p->y=.int i->aD K H p xs->bS xs i=some v->Q v H->gM K x y H Q
theorem yk:mJ X (lm X.K):=by
 intro R c a s m H x y v u Q I o n h g;obtain⟨p,G,i,z,rfl,rfl,A,C,q⟩:=h;cases o;obtain⟨t,rfl⟩:=n;obtain⟨f,r,e,K⟩:=I.list A;obtain⟨j,k,F,N,E,D⟩:=tT C;obtain⟨w,P,d⟩:=r.get F;have M:=r.length;have L:=Xm;have b:EP X a m Q w s:=⟨z,H,I,d,q⟩
 by_cases l:0<=i;have B:i.toNat=j:=by
  rw[seqIndex_of l D]at k
  simp_all
 exact item_listR e.isList l (by omega) (by simp_all) b g;have B:(i+f.toArray.size).toNat=j:=by
  rw[seqIndex_neg (by omega) E]at k
  simp_all
 exact subscriptTail_builtinR e.isList.typeIs slot_list_getitem.lookup
  (wpAny_getItem_list_neg e.isList (by omega) (by simp_all) (by omega) (by simp_all) ⟨J,b⟩) g
theorem zq:mJ X (gM X.K):=by
 intro N b a s f H x y v u Q I k g h m;obtain⟨p,C,i,z,rfl,rfl,n,A,q⟩:=h;cases k;obtain⟨t,rfl⟩:=g;obtain⟨l,r,e,D⟩:=I.tuple n;obtain⟨j,L,B,K,G,F⟩:=tT A;obtain⟨w,M,c⟩:=r.get B;have o:=r.length;have E:=Xm;have d:EP X a f Q w s:=⟨z,H,I,c,q⟩
 exact subscriptTail_builtinR e.typeIs slot_tuple_getitem.lookup
  (getItem_tuple e (by omega) (by omega) (by rw[cq,<-o];omega) (by simp_all) ⟨J,d⟩) m
theorem Fa(its:O I)(n j:Nat)(u:I):Obj.mapSeq (·.setIfInBounds j u) {cls:=.type "list",data:=.seq its.toArray n}={cls:=.type "list",data:=.seq (its.set j u).toArray n}:=by simp[Obj.mapSeq]
theorem Inv.lst{a:O (Y×Obj)}{b:St}{H:Hp}{s:Shared}{p:Y}{xs:O V}(I:Inv X a b H s)(h:H p=some (.lst xs)):∃(its:O Value)(n:Nat),yl xs its/\s.heap.get? p=some {cls:=.type "list",data:=.seq its.toArray n}/\xs.length<=sizeLine:=by
 obtain⟨z,its,n,r,e⟩:=I.hok p _ h
 simp_all
theorem Inv.lstUpd{s:Shared}{p:Y}{a:Nat}{f:Obj->Obj}(I:Inv X pins σ H s)(h:H p=some (.lst xs))(g:s.heap.get? p=some {cls:=.type "list",data:=.seq its.toArray n}) (c:f {cls:=.type "list",data:=.seq its.toArray n}={cls:=.type "list",data:=.seq its'.toArray a}) (r:yl ys its') (d:ys.length<=sizeLine) (t:Nat):
  Inv X pins σ (upd H p (.lst ys)) {s with heap:=s.heap.update p f,toks:=t}:=by
 have e:(s.heap.update p f).get? p=some {cls:=.type "list",data:=.seq its'.toArray a}:=by rw[Heap.get?_update_self f g (by rw[c]<;>rfl),c]
 refine I.write (by rw[h];trivial) (.inl J) (λb u i q=>(Heap.get?_update_other _ _ (al i)).trans q) ⟨_,e⟩ ?_;exact⟨d,its',a,r,e⟩
inductive jH(o i v:V)(H:Hp)(Q:Hp->Prop):Prop|mk:∀p xs k j,o=.ref p->i=.int k->H p=some (.lst xs)->fQ xs.length k=some j->Q (upd H p (.lst (xs.set j v)))->jH o i v H Q
theorem vy:oj X jH:=by
 intro c s A H o i v C D u Q I l m g h;obtain⟨p,B,k,j,rfl,rfl,d,x,q⟩:=h;cases l;obtain⟨t,rfl⟩:=m;obtain⟨a,n,r,b,E⟩:=I.lst d;obtain⟨e,K,z,y⟩:=tj x;have G:=r.length;have F:=Xm;have L:=
  I.lstUpd d b (Fa a n j u) (r.set g j) (by simp_all) s.toks
 by_cases f:0<=k;have w:k.toNat=j:=by
  rw[seqIndex_of f y]at e
  simp_all
 exact W.ki_setAt b f (by omega) (by simp_all) (by grind);have w:(k+a.toArray.size).toNat=j:=by
  rw[seqIndex_neg (by omega) z]at e
  simp_all
 exact W.ki_setBack b (by omega) (by simp_all) (by omega) (by grind)
theorem Gh(lo a:Option Int)(n:Nat):(sliceBounds lo a none n).1=((HT.bC n 0 lo:Nat):Int)/\(sliceBounds lo a none n).2.1=((HT.bC n n a:Nat):Int)/\(sliceBounds lo a none n).2.2=1:=by
 refine⟨?_,?_,J⟩;cases lo with|none=>rfl| some i=>
   simp only[sliceBounds,HT.bC,Option.getD_none,show(1)>0 by decide,if_true]
   grind
 cases a with|none=>rfl| some i=>
   simp only[sliceBounds,HT.bC,Option.getD_none,show(1)>0 by decide,if_true]
   grind
theorem Jn(its:O I)(lo a:Option Int):slicePick its.toArray lo a none=((its.drop (HT.bC its.length 0 lo)).take (HT.bC its.length its.length a-HT.bC its.length 0 lo)).toArray:=by obtain⟨d,c,b⟩:=Gh lo a its.toArray.size;unfold slicePick;rw[d,c,b];simp only[sliceRange_one,pick_run,cq]<;>rfl
inductive mv(K:W.Frag)(x:V)(lo hi:Option Int)(H:Hp)(Q:VK):Prop|mk:∀a xs,x=.ref a->aE K H a xs->(∀p,H p=none->Q (.ref p) (upd H p (.lst (iD xs lo hi))))->mv K x lo hi H Q
theorem uc:mF X (mv X.K):=by intro e s p H x v u t lo g w Q I i o k j h;obtain⟨a,c,rfl,n,q⟩:=h;cases i;obtain⟨l,r,f,m⟩:=I.list n;have d:=r.length;refine⟨"list",_,slot_list_getitem.lookup,f.isList.typeIs,?_⟩;refine wpAny_getItem_list_slice f.isList o k j .none (by simp) ?_ (by simp_all);rw[Jn,<-d];refine⟨.ref s.heap.objs.size,_,I.laid (λb y q=>ak _ q) (aj _) ?_,J,q _ (I.hok.fresh (aj _))⟩;exact⟨c6 (Vp c lo g) m,_,0,(r.drop (HT.bC c.length 0 lo)).take (HT.bC c.length c.length g-HT.bC c.length 0 lo),bi _ J⟩
noncomputable def Wn:V->Bool|.non=>true|.bl _=>true|.int _=>true|.str _=>true|_=>false
noncomputable def jV:V->V->Bool|.non,.non=>true|.bl a,.bl b=>a==b|.bl a,.int b=>(if a then 1 else 0)==b|.int a,.bl b=>a==(if b then 1 else 0)|.int a,.int b=>a==b|.str a,.str b=>a==b|_,_=>false
theorem Ag{s:Shared}{y:V}(e:yu y u)(c:yu x v)(g:Wn y=true)(f:Wn x=true):SeqAt.EqAt A s u v (jV y x):=by
 cases y with
 | non=>
   cases e;cases x with
   |non=>cases c;exact SeqAt.EqAt.same _
   |bl b=>cases c;exact SeqAt.EqAt.none_bool b
   |int b=>obtain⟨t,rfl⟩:=c;exact SeqAt.EqAt.none_int b t
   |str b=>obtain⟨t,rfl⟩:=c;exact SeqAt.EqAt.none_str b t
   |_=>exact absurd (f) cn
 | bl a=>
   cases e;cases x with
   |non=>cases c;exact SeqAt.EqAt.bool_none a
   |bl b=>cases c;exact SeqAt.EqAt.bool_bool a b
   |int b=>obtain⟨t,rfl⟩:=c;exact SeqAt.EqAt.bool_int a b t
   |str b=>obtain⟨t,rfl⟩:=c;exact SeqAt.EqAt.bool_str a b t
   |_=>exact absurd (f) cn
 | int a=>
   obtain⟨d,rfl⟩:=e;cases x with
   |non=>cases c;exact SeqAt.EqAt.int_none a d
   |bl b=>cases c;exact SeqAt.EqAt.int_bool a d b
   |int b=>obtain⟨t,rfl⟩:=c;exact SeqAt.EqAt.int_int a d b t
   |str b=>obtain⟨t,rfl⟩:=c;exact SeqAt.EqAt.int_str a d b t
   |_=>exact absurd (f) cn
 | str a=>
   obtain⟨d,rfl⟩:=e;cases x with
   |non=>cases c;exact SeqAt.EqAt.str_none a d
   |bl b=>cases c;exact SeqAt.EqAt.str_bool a d b
   |int b=>obtain⟨t,rfl⟩:=c;exact SeqAt.EqAt.str_int a d b t
   |str b=>obtain⟨t,rfl⟩:=c;exact SeqAt.EqAt.str_str a d b t
   |_=>exact absurd (f) cn
 |_=>exact absurd (g) cn
noncomputable def eP(x:V)(u:Value):Bool:=match u with|.none=>jV .non x|.bool b=>jV (.bl b) x|.int i _=>jV (.int i) x|.str z _=>jV (.str z) x|_=>false
theorem pq{y:V}(r:yu y u)(f:Wn y=true):eP x u=jV y x:=by cases y with|non=>cases r;rfl|bl b=>cases r;rfl|int i=>obtain⟨t,rfl⟩:=r;rfl|str z=>obtain⟨t,rfl⟩:=r;rfl|_=>exact absurd (f) cn
theorem pJ{x:V}:∀{xs:List V}{us:List Value},yl xs us->xs.all Wn=true->us.any (eP x)=xs.any λy=>jV y x|_,_,.nil,_=>rfl| y::xs,u::us,.cons r t,f=>by rw[List.all_cons,bj]at f;rw[List.any_cons,List.any_cons,pq r f.1,pJ t f.2]
theorem Yl{A:Around}{s:Shared}{x:V}{v:Value}(b:yu x v)(c:Wn x=true):∀{xs:List V}{us:List Value},yl xs us->xs.all Wn=true->∀u∈us,SeqAt.EqAt A s u v (eP x u)|_,_,.nil,_=>λu a=>by grind| y::xs,u::us,.cons r t,f=>λd a=>by rw[List.all_cons,bj]at f;rcases ai.mp a with rfl|a;rw[pq r f.1];exact Ag r b f.1 c;exact Yl b c t f.2 d a
noncomputable def my(x:V)(xs:List V):Bool:=xs.any λy=>jV y x
inductive wF(K:W.Frag)(neg:Bool)(x y:V)(H:Hp)(Q:VK):Prop|mk:∀p xs,y=.ref p->(aE K H p xs\/aD K H p xs)->Wn x=true->xs.all Wn=true->Q (.bl (if neg then !my x xs else my x xs)) H->wF K neg x y H Q
theorem Eu:aY X (compareOp .In) (wF X.K false):=by intro f s l H x y v u Q I e i h;obtain⟨p,m,rfl,b,g,c,q⟩:=h;cases i;rcases b with b|b;obtain⟨a,r,d,j⟩:=I.list b;refine SeqAt.in_listAt (eP x) d.isList (λw k=>Yl e g r c w (by simp_all)) ⟨.bl _,H,I,J,?_⟩;rw[show a.toArray.any (eP x)=a.any (eP x) by simp,pJ r c];exact q;obtain⟨a,r,d,j⟩:=I.tuple b;refine SeqAt.in_tupleAt (eP x) d (λw k=>Yl e g r c w (by simp_all)) ⟨.bl _,H,I,J,?_⟩;rw[show a.toArray.any (eP x)=a.any (eP x) by simp,pJ r c];exact q
theorem zn:jt X (.builtin "len") (λxs H Q=>∃p ys,xs=[.ref p]/\(aE X.K H p ys\/aD X.K H p ys)/\Q (.int ys.length) H):=by intro f s j H xs k Q I r h;obtain⟨p,ys,rfl,b,q⟩:=h;obtain⟨u,rfl,g⟩:=jx r;cases g;have l:=Xm;rcases b with b|b;obtain⟨e,c,d,i⟩:=I.list b;have a:=c.length;exact Calls.call_len_list d.isList (by grind) ⟨.int ys.length,H,I.tok _,⟨s.toks+1,by rw[cq,a]⟩,q⟩;obtain⟨e,c,d,i⟩:=I.tuple b;have a:=c.length;exact len_tuple d (by grind) ⟨.int ys.length,H,I.tok _,⟨s.toks+1,by rw[cq,a]⟩,q⟩
theorem Wr:jt X (.builtin "len") (λxs H Q=>∃z,xs=[.str z]/\z.length<=sizeLine/\Q (.int z.length) H):=by intro a s b H xs c Q I r h;obtain⟨z,rfl,d,q⟩:=h;obtain⟨u,rfl,t,rfl⟩:=jx r;have e:=Xm;exact len_str (by omega) ⟨.int z.length,H,I.tok _,⟨_,J⟩,q⟩
theorem qa:jt X (.type "list") (λxs H Q=>∃p ys,xs=[.ref p]/\(aE X.K H p ys\/aD X.K H p ys)/\∀l,H l=none->Q (.ref l) (upd H l (.lst ys))):=by
 intro g s A H xs C Q I r h;obtain⟨p,ys,rfl,k,q⟩:=h;obtain⟨u,rfl,B⟩:=jx r;cases B;have t:∀(a:O Value),yl ys a->ys.length<=sizeLine->∀(c:Heap)(f:Nat),(∀b z,s.heap.get? b=some z->c.get? b=some z)->
   c.get? s.heap.objs.size=some {cls:=.type "list",dict:=none,data:=.seq a.toArray f,slots:=#[]}->EP X g A Q (.ref s.heap.objs.size) {s with heap:=c}:=λa d j c f i e=>⟨.ref s.heap.objs.size,_,I.laid i (aj _) (show wk X.prog X.w _ c _ (.lst ys)from⟨j,a,f,d,e⟩),J,q _ (I.hok.fresh (aj _))⟩
 rcases k with k|k;obtain⟨a,d,v,j⟩:=I.list k;have m:=d.length;obtain⟨o,w,y,n,x⟩:=v.isList;exact call_list_seq p (.inl J) w y x (λc f i e=>t a d j c f i e) (by simp_all);obtain⟨a,d,v,j⟩:=I.tuple k;have m:=d.length;obtain⟨o,w,y,n,x⟩:=v;exact call_list_seq p (.inr J) w y x (λc f i e=>t a d j c f i e) (by simp_all)
theorem xa:jt X (.type "tuple") (λxs H Q=>∃p ys,xs=[.ref p]/\((aE X.K H p ys/\∀l,H l=none->Q (.ref l) (upd H l (.tup ys)))\/(aD X.K H p ys/\Q (.ref p) H))):=by
 intro g s w H xs x Q I r h;obtain⟨p,ys,rfl,h⟩:=h;obtain⟨u,rfl,m⟩:=jx r;cases m;rcases h with⟨f,q⟩|⟨f,q⟩;obtain⟨a,c,d,i⟩:=I.list f;have j:=c.length;refine call_tuple_list d.isList (λt n=>?_) (by simp_all);have k:=I.kept (t':=s.toks) n;have v:=
  k.laid (t':=s.toks) (λb o e=>ak _ e) (aj _) (show wk X.prog X.w _ _ _ (.tup ys)from⟨i,a,c,IsTup.new _ _,fS.push⟩)
 exact⟨.ref t.objs.size,_,v,J,q _ (k.hok.fresh (aj _))⟩;obtain⟨a,c,d,i⟩:=I.tuple f;exact call_tuple_same d ⟨.ref p,H,I,J,q⟩
def vZ(K:W.Frag)(T:String)(x:V)(H:Hp):Prop:=match x with|.str _=>T="str"|.int _=>T="int"|.ref p=>(T="list"/\∃xs,aE K H p xs)\/(T="tuple"/\∃o,K.lookup p=some o/\o.cls=.type "tuple"/\o.dict=none)\/
  (T="dict"/\((∃kvs,H p=some (.dK kvs))\/∃kvs,H p=some (.dT kvs)))\/(T="set"/\∃S n,H p=some (.set S n))|_=>False
theorem A6{s:Shared}{T:String}(I:Inv X pins σ H s)(r:yu x v)(f:vZ X.K T x H):s.TypeIs v T/\∀a,v=.ref a->∃k,s.heap.get? a=some k/\k.dict=none:=by
 cases x with| str z=>
   obtain⟨t,rfl⟩:=r;cases(f);exact⟨typeIs_str s z t,λ_ e=>nomatch e⟩| int i=>
   obtain⟨t,rfl⟩:=r;cases(f);exact⟨typeIs_int s i t,λ_ e=>nomatch e⟩| ref p=>
   cases r;rcases f with⟨rfl,w,q⟩|⟨rfl,o,b,u,l⟩|⟨rfl,b⟩|⟨rfl,S,n,b⟩;obtain⟨m,_,j,_⟩:=I.list q;refine⟨j.isList.typeIs,λa e=>?_⟩;cases e;obtain⟨o,n,e,c,l,_⟩:=j
   simp_all
   refine⟨⟨o,I.kIn p o b,u⟩,λa e=>?_⟩;cases e;exact⟨o,I.kIn _ o b,l⟩;have z:∃o,s.heap.get? p=some o/\o.ExactDict:=by
    rcases b with⟨g,b⟩|⟨g,b⟩;obtain⟨_,_,_,_,o,_,_,e,d,_⟩:=I.hok p _ b
    simp_all
    obtain⟨_,_,_,_,o,_,_,e,d,_⟩:=I.hok p _ b
    simp_all
   obtain⟨o,e,d⟩:=z;refine⟨⟨o,e,d.1⟩,λa h=>?_⟩;cases h;exact⟨o,e,d.2.1⟩;obtain⟨o,_,_,_,e,d,_⟩:=I.hok p _ b;refine⟨⟨o,e,d.1⟩,λa h=>?_⟩;cases h;exact⟨o,e,d.2.1⟩|_=>exact False.elim f
def Gx(K:W.Frag)(T:String)(r:V->List V->Hp->VK->Prop)(to:TE)(t:TA):TE:=λσ H Q=>to σ H λx H1=>vZ K T x H1/\t σ H1 λxs H2=>r x xs H2 Q
variable{o:Expr}{to:TE}{t:TA}{name:Str}{dC aW:Pos}{T id:String}{r:V->List V->Hp->VK->Prop}
theorem Zk(B:PlainAttrs T)(d:Slot T name id)(j:typeOf (.builtin id)=pure (.type "method_descriptor"))(D:mI X id r)(C:PE X o to)(E:PA X (e::es) t)(c:attributeBase o name X.env (eval o X.env)=eval o X.env:=by rfl)
  (f:((backTo aW (starEach (e::es) X.env)).all (λx=> !x.1) && (backToKw aW (keywordEach [] X.env)).all (λx=>x.1.isSome) && decide ((e::es).length+([]:O Keyword).length+(if([]:O Keyword).isEmpty then 0 else 1)<30))=true:=by rfl)
  (b:(dC.endLine==aW.line)=true:=by rfl) (hs:starEach (e::es) X.env=(false,eval e X.env)::starEach es X.env:=by rfl) (g:(backTo aW (starEach es X.env)).any (·.1)=false:=by rfl):
  PE X (.Call (.Attribute o name dC) (e::es) [] aW) (Gx X.K T r to t):=by intro a s i H Q I h;refine wpAny_Call_method_late c f b J (aF (C a s i H _ I h) λv w ⟨x,M,m,k,q,A⟩=>?_);obtain⟨G,F⟩:=A6 m k q;refine⟨T,id,B,d,j,G,F,?_⟩;have l:=E aW a w i M _ m A;rw[hs]at l⊢;refine Calls.callWith_builtin (by simp_all) (Calls.evalArgs_plain ?_);exact aF l λp u ⟨n,L,K,y,z⟩=>D a u i L x n v p Q K k y z
/-xs.append(e),list.index on a module's tuple .. are MtR facts of 06m -/
end
def wV(X:Cx)(id:String)(r:V->List V->Hp->VK->Prop):Prop:=
 ∀ (pins:List (Addr×Obj)) (s:Shared) (σ:St) (H:Hp) (x:V) (xs:List V) (v:Value) (us:List Value) (Q:VK),Inv X pins σ H s->yu x v->yl xs us->r x xs H Q->
   wpAny (model X.prog X.w) X.A (call (.builtin id) (v::us)) (EP X pins σ Q) X.xe s
theorem yl.one:∀{x:V}{us:List Value},yl [x] us->∃u,us=[u]/\yu x u|_,_,.cons r .nil=>⟨_,J,r⟩
theorem yl.eraseIdx:∀{xs:List V}{us:List Value}(i:Nat),yl xs us->yl (xs.eraseIdx i) (us.eraseIdx i)|_,_,_,.nil=>.nil|_,_,0,.cons _ t=>t|_,_,i+1,.cons r t=>.cons r (yl.eraseIdx i t)
theorem yl.rep{xs:List V}{us:List Value}(h:yl xs us):∀k:Nat,yl (List.replicate k xs).flatten (List.replicate k us).flatten|0=>.nil| k+1=>by rw[List.replicate_succ,List.replicate_succ,List.flatten_cons,List.flatten_cons];exact yl.append h (yl.rep h k)
theorem Kl{a:Type}:∀(l:List a)(i:Nat),(l.eraseIdx i).length<=l.length|[],_=>aj _|_::_,0=>Nat.le_succ _|_::r,i+1=>Nat.succ_le_succ (Kl r i)
theorem Vg(its:List Value):∀(k:Nat)(a:List Value),List.foldl (λc b=>c++b) a.toArray (List.replicate k its.toArray)=(a++(List.replicate k its).flatten).toArray
 |0,a=>by simp
 | k+1,a=>by
   have e:a.toArray++its.toArray=(a++its).toArray:=by simp
   have d:(a++its)++(List.replicate k its).flatten=a++(List.replicate (k+1) its).flatten:=by rw[List.replicate_succ,List.flatten_cons,List.append_assoc]
   rw[<-d,<-Vg its k (a++its),<-e,List.replicate_succ,List.foldl_cons]
section
variable{s:Shared}{l b:Addr}{zs:List V}
theorem Inv.lset{f:Array Value->Array Value}(I:Inv X pins σ H s)(h:H l=some (.lst xs))(e:s.heap.get? l=some {cls:=.type "list",data:=.seq its.toArray n}) (d:f its.toArray=its'.toArray) (b:yl ys its') (a:ys.length<=sizeLine):
  Inv X pins σ (upd H l (.lst ys)) {s with heap:=s.heap.update l (Obj.mapSeq f),toks:=t'}:=by have q:=PySem.IsL.update e f;rw[d]at q;refine I.write (by rw[h];exact trivial) (.inl J) (λi u g c=>(Heap.get?_update_other s.heap (Obj.mapSeq f) (al g)).trans c) ⟨_,q⟩ ?_;exact⟨a,its',_,b,q⟩
theorem Inv.lnew(I:Inv X pins σ H s)(b:yl ys its)(a:ys.length<=sizeLine):Inv X pins σ (upd H s.heap.objs.size (.lst ys)) {s with heap:=s.heap.push {cls:=.type "list",data:=.seq its.toArray},toks:=t'}:=
 I.laid (λ_ _ q=>ak _ q) (aj _) ⟨a,its,0,b,bi _ J⟩
theorem Inv.fresh(I:Inv X pins σ H s):H s.heap.objs.size=none:=I.hok.fresh (aj _)
theorem Inv.lstM(I:Inv X pins σ H s)(a:H l=some (.lst xs)):xs.length<=sizeLine/\∃(its:O Value)(n:Nat),yl xs its/\xs.length=its.length/\s.heap.get? l=some {cls:=.type "list",data:=.seq its.toArray n}:=by obtain⟨z,its,n,r,e⟩:=I.hok l _ a;exact⟨z,its,n,r,r.length,e⟩
theorem C9(h:n<=sizeLine):Builtin.List.listTooLong n=false:=by
 unfold Builtin.List.listTooLong
 simp_all
end
section
inductive eY(x:V)(vs:List V)(H:Hp)(Q:VK):Prop|mk:∀l xs y,x=.ref l->vs=[y]->H l=some (.lst xs)->xs.length<sizeLine->Q .non (upd H l (.lst (xs++[y])))->eY x vs H Q
theorem vn:wV X "list.append" eY:=by
 intro b s i H x k v m Q I d f h;obtain⟨l,j,y,rfl,rfl,c,o,q⟩:=h;cases d;obtain⟨u,rfl,g⟩:=f.one;obtain⟨z,a,n,r,p,e⟩:=I.lstM c;refine call_meets F.slot_list_append ⟨_,e,J⟩ F.entry_list_append (F.args_list_append_2 _ _) (list_append l a.toArray n u (by simp_all)) ⟨e,?_⟩;refine⟨.non,_,I.lset c e (by simp) (r.append (.cons g .nil)) ?_,J,q⟩
 grind
inductive gJ(x:V)(vs:List V)(H:Hp)(Q:VK):Prop|mk:∀l xs i k y,x=.ref l->vs=[.int i]->H l=some (.lst xs)-> -(2^63)<=i->i<2^63->seqIndex? i xs.length=some k->xs[k]?=some y->Q y (upd H l (.lst (xs.eraseIdx k)))->gJ x vs H Q
theorem C4:wV X "list.pop" gJ:=by
 intro c s E H x G v K Q I g j h;obtain⟨l,f,i,k,y,rfl,rfl,d,D,C,B,o,q⟩:=h;cases g;obtain⟨u,rfl,m⟩:=j.one;obtain⟨t,rfl⟩:=m;obtain⟨z,a,n,r,A,e⟩:=I.lstM d;obtain⟨w,p,b⟩:=r.get o;refine call_meets F.slot_list_pop ⟨_,e,J⟩ F.entry_list_pop (F.args_list_pop_2 _ _)
  (MeetsSeq.list_pop_at l a.toArray n i t k w (fitsIndex_both D C) (by rw[cq,<-A];exact B) (by rw[<-Array.getElem?_toList];exact p) (by rw[cq];omega)) ⟨e,?_⟩
 refine⟨y,_,I.lset (its':=a.eraseIdx k) d e ?_ (r.eraseIdx k) ?_,b,q⟩;show a.toArray.eraseIdxIfInBounds k=(a.eraseIdx k).toArray;rw[List.eraseIdxIfInBounds_toArray];have:=Kl f k;omega
inductive mx(x y:V)(H:Hp)(Q:VK):Prop|mk:∀l b xs zs,x=.ref l->y=.ref b->H l=some (.lst xs)->H b=some (.lst zs)->xs.length+zs.length<=sizeLine->(∀p,H p=none->Q (.ref p) (upd H p (.lst (xs++zs))))->mx x y H Q
theorem Yk:aY X (binaryOp .Add) mx:=by
 intro d s t H x y v u Q I g f h;obtain⟨l,b,A,zs,rfl,rfl,k,m,C,q⟩:=h;cases g;cases f;obtain⟨z,c,n,r,D,e⟩:=I.lstM k;obtain⟨w,a,B,i,j,p⟩:=I.lstM m;refine P.add_list e p ?_ (by simp_all);have o:c.toArray++a.toArray=(c++a).toArray:=by simp
 rw[o];exact⟨.ref _,_,I.lnew (r.append i) (by simp_all),J,q _ I.fresh⟩
inductive mw(x y:V)(H:Hp)(Q:VK):Prop|mk:∀l k xs,x=.ref l->y=.int k->H l=some (.lst xs)-> -(2^63)<=k->k<2^63->xs.length*k.toNat<=sizeLine->(∀p,H p=none->Q (.ref p) (upd H p (.lst (List.replicate k.toNat xs).flatten)))->mw x y H Q
theorem tD{a:Type}(xs:O a)(k:Nat):(List.replicate k xs).flatten.length=k*xs.length:=by simp
theorem pE:aY X (binaryOp .Mult) mw:=by
 intro j s K H x y v u Q I B A h;obtain⟨l,k,L,rfl,rfl,C,E,D,N,q⟩:=h;cases B;obtain⟨t,rfl⟩:=A;obtain⟨z,b,n,r,P,e⟩:=I.lstM C;have f:b.toArray.size*k.toNat<=sizeLine:=by simp_all
 have i:¬b.toArray.size*k.toNat>(2^63-1)/8:=by
  have:sizeLine<=(2^63-1)/8:=by decide
  omega
 have g:¬(!Builtin.List.listFitsIndex k)=true:=by rw[fitsIndex_both E D];simp
 have c:¬Builtin.List.listTooLong (b.toArray.size*k.toNat)=true:=by rw[C9 f];simp
 have d:List.foldl (λp o=>p++o) #[] (List.replicate (if b.toArray.isEmpty=true then 0 else k.toNat) b.toArray)=(List.replicate k.toNat b).flatten.toArray:=by
  have G:=λm=>by have:=Vg b m [];rw[List.nil_append]at this;exact this
  rw[G];cases b with|nil=>simp|cons a M=>rfl
 refine wpAny_binaryOp_repeat_ref (by rfl) ⟨_,e,J⟩ (λw=>typeIs_int w k t) noFill_list_mul F.fills_int_mul F.slot_int_rmul repeat_list F.slot_int_index.lookup
  (call_meets F.slot_int_rmul (typeIs_int s k t) F.entry_int_rmul (F.args_int_rmul_2 _ _) (int___rmul___int_list k t l b.toArray n) ⟨e,J,⟨_,e,J⟩,call_meets F.slot_list_mul ⟨_,e,J⟩ F.entry_list_mul (F.args_list_mul_2 _ _) (AutoListH.list___mul___list_int_3 l b.toArray n k t g i c) ⟨e,?_⟩⟩)
 rw[d];exact⟨.ref _,_,I.lnew (r.rep k.toNat) (by rw[tD,Nat.mul_comm];omega),J,q _ I.fresh⟩
end
section
variable{prog:Program}{w:World}{s:Shared}
end
section
end
end L2
namespace Att
open PySem PySem.W PySem.Calls PyProof.Rows
variable{A:Around}{h:Heap}{kE:List Value}{n:Nat}{E:Value->Shared->Prop}
theorem Vt{P:Params}:∀(ns:List Int)(vs:List Value),WellAll P h vs (ns.map WData.int)->IntsAre vs ns:=by intro ns;induction ns with| nil=>intro vs w;rw[List.map_nil]at w;cases w;exact .nil| cons n ns c=>intro vs w;rw[dv]at w;cases w with| cons a b=>cases a;exact .cons _ _ (c _ b)
theorem EF{l:OpenLaw}(v:l.most=some n){P:Params}{b:List WData}(c:l.row.toRowW.claim.pre b=true) (g:WellAll P h kE b):
  ∃a vs ns,kE=[Value.ref a]/\b=[WData.list (ns.map WData.int)]/\h.get? a=some {cls:=.type "list",data:=.seq vs.toArray}/\IntsAre vs ns/\ns.length<=n:=by
 have i:=(pre_splitW c).1;have j:l.pre.holds [] {args:=b}=true:=(pre_splitW c).2;obtain⟨d,r,rfl,t,s⟩:=hasAllW_cons i;obtain rfl:=hasAllW_nil s;obtain⟨u,rfl,q⟩:=hasW_list t;obtain⟨ns,rfl⟩:=items_int q;have e:ns.length<=n:=by
  unfold OpenLaw.pre at j;have k:(WTm.not (.lt (.lit (.int n)) (.len (.arg 0)))).holds [] {args:=[.list (ns.map .int)]}=true:=by
   have k:=(holds_andW j).1
   simp_all
  have w:=condW_of k (w_not (w_lt w_lit (w_len_list (w_arg J))))
  simp_all
 cases g with| cons o m=>cases m;cases o with|list p f=>exact⟨_,_,ns,J,J,p,Vt ns _ f,e⟩
theorem Ew(l:OpenLaw)(a:O WData):l.row.toRowW.claim.post a (.bool true) a=true:=
 postW_of
  (show WShape.has [] (.bool true) .bool=true by rfl)
  (w_eq_bool (w_res J) w_lit) J
theorem jX{l:OpenLaw}{q:Program}{e:O Str}{C:(Str->Option I)->Heap->Prop}{B:World->Heap->Prop}{d:DefRec}(H:l.most=some n) (v:d.params.defaults=[])
  (call:∀(w:World) (c b:Shared) (mg s:Str->Option I) (m:Addr) (o:Obj) (pm p h:I) (a:Addr) (vs:O I) (ns:O Int),Ground q e [] C w c mg s b.heap->B w b.heap->
   b.heap.get? m=some o->o.data=.func (docDef d.name d.params d.body d.scope pm p h)->b.heap.CodeRec p d.name->mg d.name=some (.ref m)->
   b.heap.get? a=some {cls:=.type "list",data:=.seq vs.toArray}->IntsAre vs ns->ns.length<=n->b.gens=#[]->
   codeAny (model l.prog w) callerA (.call (.ref m) ⟨[.ref a],[]⟩) (λr s'=>r=.ok (.ret (.bool true))/\OldK b.heap s'.heap/\s'.os=b.os/\AllBare s'.gens) b):
  WalkO q e C B l.row.toRowW d [] (λf vs=>PySem.call f vs):=by intro w c b mg s G Y m o pm p h S kV F N x z u M A U as i y D t L;obtain rfl:S=.none:=Dflts.none z v;obtain rfl:kV=.none:=Dflts.noKw z;obtain⟨a,vs,ns,rfl,rfl,j,g,k⟩:=EF H i t;refine enter_call (codeAny_mono (call w c b mg s m o pm p h a vs ns G Y F (fd_plain N) x u j g k M) λr s' E=>?_);obtain⟨rfl,R,Q,P⟩:=E;exact⟨.inl ⟨.bool true,.bool true,[],J,λ_=>rfl,.bool true,Ew l _,λ_=>⟨List.Pairwise.nil,λ_ K=>(nomatch K)⟩⟩,R,Q,P⟩
section
variable{prog:Program}{w:World}{s:Shared}{K:Frag}
end
end Att
namespace L2
open PySem PySem.Spec PyProof.Rows
variable{a c f it:Addr}{A:Around}{osl:Array (Option Value)}{its:Array Value}{X:Cx}{env:Env}{tg:Expr}{fd:FuncData}{h':Heap}{H H' H2:Hp}{pins bD:List (Addr×Obj)}{fp:List Addr}{cQ fR:List Expr}{cap:List Nat}{ps:List Str}{xs:List V}{us:List Value}{i k n:Nat}{v:Option Value}{pos:Pos}{P prog:Program}{R:Result->Shared->Prop}{scope:Scope}{s':Shared}{σ σ':St}{st:Stmt}{qual x:Str}{mg:Str->Option Value}{te:TE}{g:TG}{tc:TT}{bQ:Value}{E Ex Q:Value->Shared->Prop}{w:World}
theorem Jz:∀{vs:List Value}{ns:List Int},IntsAre vs ns->yl (ns.map V.int) vs|_,_,.nil=>.nil|_,_,.cons n t h=>.cons ⟨t,J⟩ (Jz h)
noncomputable def jf(s:Stmt):Arguments:=match s with|.FunctionDef _ a _ _ _ _ _ _ _ _=>a|_=>{posonlyargs:=[],args:=[],vararg:=none,kwonlyargs:=[],kw_defaults:=[],kwarg:=none,defaults:=[]}
noncomputable def yg(s:Stmt):List Stmt:=match s with|.FunctionDef _ _ b _ _ _ _ _ _ _=>b|_=>[]
noncomputable def zh(s:Stmt):Scope:=match s with|.FunctionDef _ _ _ _ _ _ sc _ _ _=>sc|_=>{kind:=.function,names:=[],isGenerator:=false,isCoroutine:=false}
abbrev hJ:fU:=λ_ _ _ _ _ _=>False
abbrev E0:XK:=λ_ _ _=>False
theorem rK:Yv hJ X E0:=λ_ _ _ _ _ _ _ h=>h.elim
structure gY(K:W.Frag)(x qual:Str)(st:Stmt)(f:Addr)(fd:FuncData):Prop where
 ex:∃(oc:Value)(od:Option Addr)(kV doc pm:Value)(an:Option Addr)(cdv ct:Value)(osl:Array (Option Value)),fd=W.fnOf x qual (jf st) (yg st) (zh st) .none kV doc pm an cdv ct/\K.lookup f=some ⟨oc,od,.func fd,osl⟩/\W.codeIn K cdv qual=true
 kp:W.keepIn K (.ref f)=true
section
variable{K:W.Frag}{base:Heap}
theorem gY.ok{N:O Str}{sp:Sp}(F:gY K x qual st f fd)(S:aB N ps (zh st))(d:∀vs H Q E,sp vs H Q E->vs.length=ps.length)(c:∀(b:I) (A:Around) (a:O Env) (s:Shared) (H:Hp) (vs:O V) (Q:VK) (E:XK),aO k (A.deeper (envOfC qual (zh st) s.heap.objs.size f b))->sp vs H Q E-> ∃t,dR (Yp hJ P w K mg base N qual (zh st) f b A a s H E).nox (yg st) t/\t (.of Q) (start N vs) H):cD P w K mg base hJ (k+1) f fd ps sp:=by obtain⟨p,o,kV,m,n,u,b,r,i,rfl,j,g⟩:=F.ex;refine oF j g S d λA a s H vs Q E l e=>?_;obtain⟨t,h,q⟩:=c b A a s H vs Q E l e;exact⟨t,h.nox,q⟩
theorem gY.binds(F:gY K x qual st f fd)(h:∀(kV a pm:I)(d:Option Y)(b c:I)(us:O I),us.length=ps.length->bindArgs (W.fnOf x qual (jf st) (yg st) (zh st) .none kV a pm d b c) ⟨us,[]⟩=pure (ps.zip us)):Ww K fd ps []:=by obtain⟨j,i,kV,a,pm,d,b,c,e,rfl,k,g⟩:=F.ex;exact .all (h kV a pm d b c)
theorem AO{h:I}{g e:Option Y}{kV b pm a d:I}(l:K.lookup f=some ⟨h,g,.func (W.fnOf x qual (jf st) (yg st) (zh st) .none kV b pm e a d),osl⟩)(c:W.codeIn K a qual=true) (k:W.keepIn K (.ref f)=true):gY K x qual st f (W.fnOf x qual (jf st) (yg st) (zh st) .none kV b pm e a d):=⟨⟨h,g,kV,b,pm,e,a,d,osl,J,l,c⟩,k⟩
end
theorem EG(h:n<=1000):n<sizeLine:=fg h (by decide)
section
theorem pv(i:Nat)(d:X.N[i]?=some x:=by rfl)(b:autoParam (jZ X.env.scope x) wR._auto_1)(c:(x==("__debug__":Str))=false:=by decide)
 (a:(x==("__classdict__":Str))=false:=by decide):PE X (.Name x pos) (rC i):=nz d b c a
end
theorem yr{A B:Prop}(h:B):if false=true then A else B:=by simp_all
theorem xu{A B:Prop}(h:A):if true=true then A else B:=by simp_all
theorem ye{c A B:Prop}[Decidable c](b:c->A)(a:¬c->B):if c then A else B:=by simp_all
def Same(H B:Hp):Prop:=∀b o,H b=some o->B b=some o
theorem Same.refl(H:Hp):Same H H:=λ_ _ h=>h
theorem Same.trans{d:Hp}(a:Same H d)(b:Same d H2):Same H H2:=λc o h=>b c o (a c o h)
theorem Same.seq{K:W.Frag}(e:Same H H')(h:aE K H a xs):aE K H' a xs:=by rcases h with(h|⟨o,h⟩)|h;exact .inl (.inl (e _ _ h));exact .inl (.inr ⟨o,e _ _ h⟩);exact .inr h
section
variable{κ:Type}[DecidableEq κ]
end
inductive cU(i:Nat)(σ:St)(H:Hp)(Q:VK):Prop|mk:∀v,σ[i]?=some (some v)->Q v H->cU i σ H Q
theorem aA(i:Nat)(g:X.N[i]?=some x:=by rfl)(d:autoParam (jZ X.env.scope x) wR._auto_1)(f:(x==("__debug__":Str))=false:=by decide)
 (b:(x==("__classdict__":Str))=false:=by decide):PE X (.Name x pos) (cU i):=λa s c H Q I ⟨_,e,q⟩=>pv i g d f b a s c H Q I (mW e q)
section
variable{s:Shared}
theorem F6{B a D:Expr}{y t:Value}(I:Nat->Shared->Prop)(z:∀e s',Ex e s'->notedBy (model prog w) A env (λx u=>R (.error x) u) e s')(l:∀n s,I n s->wpAny (model prog w) A (pyNext y) (λr b=>match r with
   |none=>R (.ok .next) b
   | some v=>wpAny (model prog w) A (letOwnedTupleGo a y v) (λ_ s₂=>wpAny (model prog w) A (assign a env v) (λ_ s₂=> wpAny (model prog w) A (forIn fR true λc r=>if r=true then do let ok<-isTrue c env (eval c env);pure (ForInStep.yield ok)else pure (ForInStep.yield r)) (λok f=> if ok=true then wpAny (model prog w) A (eval B env) (λx j=>wpAny (model prog w) A (call (.builtin "list.append") [t,x]) (λ_ i=>∃m,m<n/\I m i) (λ_ _=>False) j) Ex f
     else∃m,m<n/\I m f) (λ_ _=>False) s₂) (λ_ _=>False) s₂) (λ_ _=>False) b) (λ_ _=>False) s)
  (n:Nat) (h:I n s):
  codeAny (model prog w) A (.compLoop (.ListComp B [⟨a,D,fR,0⟩] scope pos) 0 y t env) R s:=by
 refine codeAny_loop J I (λn s C=>?_) n h;refine wpAny_noted ?_;rw[compTurn_list];refine aa (wpAny_standAt (aa (df (l n s C) (λr b d=>?_) λ_ _ g=>g.elim)));cases r with
 |none=>exact ac d
 | some v=>
   refine aa (df d (λ_ b d=>?_) λ_ _ g=>g.elim);refine aa (df d (λ_ s₂ q=>aa (df q (λok f k=>?_) λ_ _ g=>g.elim)) λ_ _ g=>g.elim);cases ok with
   |false=>exact ac ⟨J,k⟩
   | true=>exact aa (aa (df k (λx j p=>aa (df p (λ_ i o=>ac (ac ⟨J,o⟩)) λ_ _ g=>g.elim)) z))
end
noncomputable def dP(B:Env):List (Str×NameKind)->List (Str×Addr)->List (Str×Addr)|[],cs=>cs|(n,k)::r,cs=>if k==.free then dP B r ((n,(B.cells.lookup n).getD 0)::cs)else dP B r cs
theorem Yr(m:∀x∈scope.names,x.2=.free->∃c,env.cells.lookup x.1=some c):closureFor scope env=pure (dP env scope.names []):=by
 have go:∀(l:O (Str×NameKind))(b:O (Str×Y)),(∀x∈l,x.2=.free->∃c,env.cells.lookup x.1=some c)->
   (forIn (m:=Sem) l b λx r=>(if(x.2==NameKind.free)=true then do let a<-cellOf env x.1;pure (ForInStep.yield ((x.1,a)::r))else pure (ForInStep.yield r)))=pure (dP env l b):=by
  intro l;induction l with|nil=>intro b _;rfl| cons p r f=>
    obtain⟨n,k⟩:=p;intro b h;have g:=λx i=>h x (ce _ i);rw[List.forIn_cons];by_cases j:k=.free;subst j;obtain⟨c,o⟩:=h (n,.free) c8 J;have e:cellOf env n=pure c:=by unfold cellOf;rw[o]
    rw[if_pos (by rfl),e,pure_bind,pure_bind];dsimp only;rw[f _ g];show _=pure (if(NameKind.free==.free)=true then dP env r ((n,(env.cells.lookup n).getD 0)::b)else dP env r b)
    simp_all
    have d:(k==NameKind.free)=false:=by simp_all
    rw[d,if_neg cn,pure_bind];dsimp only;rw[f _ g];show _=pure (if(k==.free)=true then dP env r ((n,(env.cells.lookup n).getD 0)::b)else dP env r b);rw[d,if_neg cn]
 have e:=go scope.names [] m;unfold closureFor
 simp_all
theorem Xr{a:Env}{x:Str}{c:Addr}:∀{l:List (Str×NameKind)}{b:List (Str×Addr)},(∀x∈l,x.2=.free->∃c,a.cells.lookup x.1=some c)->(dP a l b).lookup x=some c->b.lookup x=some c\/a.cells.lookup x=some c
 |[],b,_,h=>.inl h
 | (n,k)::r,b,e,h=>by
   have d:=λx f=>e x (ce _ f);unfold dP at h;split at h
   rename_i i
   obtain⟨j,g⟩:=e (n,k) c8 (by simp_all);rcases Xr d h with q|q
   grind
   simp_all
   exact Xr d h
theorem Wq{d:Env}{x:Str}:∀{l:List (Str×NameKind)}{a:List (Str×Addr)},(x,NameKind.free)∈l\/(∃c,a.lookup x=some c)->∃c,(dP d l a).lookup x=some c
 | [],a,h=>by rcases h with h|h;cases h;exact h
 | (n,k)::r,a,h=>by
   unfold dP;split
   rename_i b
   have b:k=.free:=by simp_all
   subst b;refine Wq ?_;rcases h with h|⟨c,h⟩;rcases ai.mp h with h|h
   simp_all
   simp_all
   grind
   rename_i b
   refine Wq ?_
   grind
theorem Wb(a:∀y∈scope.names,y.2≠ .cell)(h:(relabel scope env).names.lookup x=some .cell\/(relabel scope env).names.lookup x=some .free):(x,NameKind.free)∈scope.names:=by
 have go:∀(l:O (Str×NameKind)),(∀y∈l,y.2≠ .cell)->∀k,(k=NameKind.cell\/k=.free)->
   (l.map λ(n,k)=>if(k==NameKind.free && env.scope.kind==.function && env.kindOf n==some .cell)then(n,NameKind.cell)else(n,k)).lookup x=some k->(x,NameKind.free)∈l:=by intro l;induction l with|nil=>simp| cons p r b=>grind
 rcases h with h|h;exact go scope.names a _ (.inl J) h;exact go scope.names a _ (.inr J) h
abbrev Js(us:List Value):Obj:={cls:=.type "list",data:=.seq us.toArray us.length}
theorem ER(us:O I)(u:I):({cls:=.type "list",data:=.seq (us.toArray.push u) (us.length+1)}:Obj)=Js (us++[u]):=by simp
noncomputable def bG(k:Nat)(cap:List Nat)(B:St):St:=List.replicate k none++cap.map λj=>(B[j]?).getD none
noncomputable def kC(own:List Str)(cap:List Nat)(N:List Str):List Str:=own++cap.map λj=>(N[j]?).getD Str.empty
noncomputable def vt(X:Cx)(own:List Str)(cap:List Nat)(B:Scope)(C:Addr)(U:List Addr)(F:Shared)(G:Hp):Cx:={X with N:=kC own cap X.N,s₀:=F,H₀:=G,env:=compEnvC B (dP X.env B.names []) C X.env,outer:=X.stack,ex:=U,fn:=λ_=>false,pn:=[],xe:=λ_ _=>False}
def K3(X:Cx)(B:Scope):List Nat->Prop|[]=>True|j::r=>(∃x,X.N[j]?=some x/\(X.env.scope.names.lookup x=some .cell\/X.env.scope.names.lookup x=some .free)/\(relabel B X.env).names.lookup x≠some .local)/\K3 X B r
theorem K3.mem{X:Cx}{c:Scope}:∀{cap:List Nat},K3 X c cap->∀j∈cap,∃x,X.N[j]?=some x/\(X.env.scope.names.lookup x=some .cell\/X.env.scope.names.lookup x=some .free)/\(relabel c X.env).names.lookup x≠some .local|[],_,_,h=>nomatch h| _::_,⟨a,b⟩,j,h=>by rcases ai.mp h with rfl|h;exact a;exact K3.mem b j h
structure aN(X:Cx)(own:List Str)(cap:List Nat)(scope:Scope):Prop where
 kind:scope.kind=.function
 free:∀x∈scope.names,x.2=.free->X.env.kindOf x.1=some .cell\/X.env.kindOf x.1=some .free
 cell:∀x∈scope.names,x.2≠ .cell
 names:∀x∈scope.names,x.2=.local->scope.names.lookup x.1=some .local
 cap:K3 X scope cap
section
variable{H₂:Hp}{s s₂:Shared}{own:List Str}{C:Addr}
theorem aN.has(S:aN X own cap scope)(a:X.Ok):∀x∈scope.names,x.2=.free->∃c,X.env.cells.lookup x.1=some c:=λx b d=>a.has _ (S.free x b d)
theorem aN.look(S:aN X own cap scope)(a:X.Ok)(h:(dP X.env scope.names []).lookup x=some c):X.env.cells.lookup x=some c:=by rcases Xr (S.has a) h with q|q;cases q;omega
theorem Un.cellK{g a:O Y}{h:Heap}(u:Un g a H H' h h')(n:H c=none)(b:c ∉ a)(z:h.IsCell c v):h'.IsCell c v:=by obtain⟨o,d,f⟩:=z;obtain⟨i,e⟩:=u.any d n b;exact⟨_,e,f⟩
theorem D0(I:Inv X pins σ H₂ s₂)(S:aN X own cap scope)(f:∀b∈fp,Vw X pins H₂ b)(g:s₂.heap.objs.size<=C)(d:∀b∈fp,b<s₂.heap.objs.size):(vt X own cap scope C fp s₂ H₂).Ok where
 mod:=I.ok.mod
 kind:=S.kind
 glob:=I.ok.glob
 blt:=I.ok.blt
 above:=g
 inj:=λx y c j i=>I.ok.inj x y c (S.look I.ok j) (S.look I.ok i)
 has:=λx h=>Wq (.inl (Wb S.cell h))
 cab:=λx c h=>by cases h
 hd:=I.ok.hd
 frames:=I.ok.frames
 stk:=.inl J
 exf:=λb a=>⟨bh (ca (d b a) g),λx c h=>(f b a).2.2.2.2.1 x c (S.look I.ok h)⟩
 bs:=I.bs
 bsz:=c6 I.ok.bsz I.sz
 noex:=λb o e a=>by rcases(f b a).2.2.2.1 with z|z;exact I.ok.noex b o e z;exact absurd (ca (aq e) (c6 I.ok.bsz z)) (cx _)
 exfs:=λb a z=>by rcases ai.mp (I.stkSub b z)with e|e;exact(f b a).2.1 e;exact(f b a).2.2.1 e
 funs:=I.stack
 frf:=λb a=>I.stkFree b a
theorem uF(I:Inv X pins σ H₂ s₂)(S:aN X own cap scope)(f:∀b∈fp,Vw X pins H₂ b){F:List Addr}(u:Un F fp H₂ H' s₂.heap h')(m:Str->Option Value):∀(i:Nat)(x:Str)(v:V),(kC own cap X.N)[i]?=some x->(bG own.length cap σ)[i]?=some (some v)->jZ (relabel scope X.env) x->∃q,yu v q/\qV (compEnvC scope (dP X.env scope.names []) C X.env) h' m x q:=by
 intro i x v a d E;unfold bG at d;unfold kC at a;by_cases D:i<own.length
 grind
 rw[List.getElem?_append_right (by simpa using D)]at d a;rw[dh]at d;rw[ba]at a d;cases e:cap[i-own.length]? with|none=>simp_all| some j=>
   rw[e]at a d;obtain⟨y,s,B,k⟩:=S.cap.mem j (br e);have a:(X.N[j]?).getD Str.empty=x:=Option.some.inj a;rw[s]at a;have a:y=x:=a;subst a;have d:(σ[j]?).getD none=some v:=Option.some.inj d;have o:σ[j]?=some (some v):=by grind
   obtain⟨G,H,A⟩:=I.loc;obtain⟨q,r,l⟩:=A j y v s o (.inr B);refine⟨q,r,?_⟩;rcases l with⟨p,_⟩|⟨_,c,n,z⟩;have p:X.env.scope.names.lookup y=some .local:=p
   simp_all
   have g:=E.resolve_left k;obtain⟨K,h⟩:=Wq (.inl (Wb S.cell g));have t:=S.look I.ok h;rw[n]at t;cases t;exact .inr ⟨g,c,h,u.cellK (I.freeC y c n) (λw=>(f c w).2.2.2.2.1 y c n J) z⟩
theorem Kt(I:Inv X pins σ H₂ s₂)(S:aN X own cap scope)(f:∀b∈fp,Vw X pins H₂ b)(J:Inv (vt X own cap scope C fp s₂ H₂) bD σ' H' s'):Inv (vt X own cap scope C fp s₂ H₂) bD (bG own.length cap σ) H' s':=by obtain⟨m,a,_⟩:=id J.loc;refine⟨J.ok,J.os,J.bare,J.base,⟨m,a,uF I S f J.base m⟩,J.cell,J.free,J.freeC,J.pin,J.hok,?_⟩;unfold bG;show _=(kC own cap X.N).length;unfold kC;simp
theorem uE{D:Y}{i:O V}(I:Inv X pins σ H₂ s₂)(f:∀b∈fp,Vw X pins H₂ b)(J:Inv (vt X own cap scope C fp s₂ H₂) bD σ' H' s')(hs:Heap.SameBut C s'.heap h') (B:s₂.heap.objs.size<=C) (A:s₂.heap.objs.size<=D) (l:D≠C) (x:s'.heap.get? D=some (Js us)) (h:H' D=none) (y:i.length<=sizeLine) (r:yl i us):
  Inv X pins σ (upd H' D (.lst i)) {s' with heap:=h'}:=by
 have same:∀b o,b≠C->s'.heap.get? b=some o->h'.get? b=some o:=λb o a e=>(hs.2 b a).trans e;have p:∀b o,s₂.heap.get? b=some o->b≠C/\b≠D:=λb o e=>⟨bh (ca (aq e) B),bh (ca (aq e) A)⟩
 have u:=J.base;have Q:H' C=none:=J.free;have k:aZ X.prog X.w (upd H' D (.lst i)) h':=by
  intro b t e;by_cases a:b=D;subst a;rw[ze]at e;cases e;exact⟨y,us,us.length,r,same b _ l x⟩;rw[zi a]at e;have w:∀c m,H' c=some m->c≠C:=λc m z q=>by simp_all
  refine(J.hok b t e).stay (λc v G q=>same c v ?_ q) (λc q=>?_) λc j q=>?_
  grind
  rw[zi (zj q h)];exact q;rw[zi (zj q h)];exact q
 refine I.call' (ch:=fp) J.os ⟨λb o e n a d=>?_,λb o e n a d=>?_,λb o e n d=>?_,λb o e d=>?_,λb j e=>?_,λb o j e=>?_,λb s e=>?_⟩ k J.bare λb a=>?_;exact same b o (p b o e).1 (u.keep b o e n a d);obtain⟨E,q⟩:=u.slot b o e n a d
 simp_all
 rw[zi (p b o e).2];exact u.free b o e n d;obtain⟨F,q⟩:=u.there b o e d
 simp_all
 have q:=u.tups b j e;rw[zi (zj q h)];exact q;have q:=u.frzs b o j e;rw[zi (zj q h)];exact q;obtain⟨g,q⟩:=u.tbls b s e;exact⟨g,by rw[zi (zj q h)];exact q⟩;obtain⟨P,N,M,L,K,H⟩:=f b a
 grind
end
def lR(X:Cx)(B:List Expr)(t:TT):Prop:=
 ∀ (pins:List (Addr×Obj)) (s:Shared) (σ:St) (H:Hp) (Q:Bool->Hp->Prop),Inv X pins σ H s->t σ H Q->
   wpAny (model X.prog X.w) X.A (forIn B true λc r=>if r=true then do let ok<-isTrue c X.env (eval c X.env);pure (ForInStep.yield ok)else pure (ForInStep.yield r)) (TP X pins σ Q) X.xe s
def oB:TT:=λ_ H Q=>Q true H
theorem yx:lR X [] oB:=by intro a s b H Q I h;exact ac ⟨H,I,h⟩
theorem V0{c:Expr}{t:TT}(h:PT X c t):lR X [c] t:=by intro a s d H Q I f;rw[List.forIn_cons];rw[if_pos J];refine aa (aa (aF (h a s d H Q I f) λb j ⟨i,g,e⟩=>?_));refine ac ?_;dsimp only;rw[List.forIn_nil];exact ac ⟨i,g,e⟩
inductive cB(J:It)(g:TG)(tc:TT)(te:TE)(k:Nat)(cap:List Nat)(σ:St)(H:Hp)(Q:VK):Prop| mk:∀W:Nat->Nat->List V->Hp->Prop,(∃m,W 0 m [] H)->(∀i m ys H,W i m ys H-> (J.stop i H/\ys.length<=sizeLine/\∀p,H p=none->Q (.ref p) (upd H p (.lst ys)))\/
   (J.go i H/\ys.length<=sizeLine/\∃N:List V->Hp->Prop,(∀ys' H',N ys' H'->∃m',m'<m/\W (i+1) m' ys' H')/\∀x H',J.yld i H x H'->g x (bG k cap σ) H' λσ2 H2=>tc σ2 H2 λb H3=>if b=true then te σ2 H3 λy H4=>N (ys++[y]) H4 else N ys H3))->cB J g tc te k cap σ H Q
def wB(B:TI)(g:TG)(F:TT)(te:TE)(k:Nat)(cap:List Nat):TE:=λσ H Q=>B σ H λJ H1=>cB J g F te k cap σ H1 Q
section
variable{own:List Str}{bM gU:Expr}{wi:TI}
theorem uP{Zw:Cx->O Str->O Nat->Scope->Y->O Y->Shared->Hp->I->Shared->Prop}{f:Shared}{tn:Nat->Heap->Prop}{J:It}{W:Nat->Nat->O V->Hp->Prop}{m0:Nat}{QQ:O V->Hp->Prop}{RR:I->Y->Result->Shared->Prop}(hc:X.calm=true) (S:aN X own cap scope)
  (hg:∀C fp s₂ H₂,PG (vt X own cap scope C fp s₂ H₂) tg g) (ht:∀C fp s₂ H₂,lR (vt X own cap scope C fp s₂ H₂) fR tc) (he:∀C fp s₂ H₂,PE ((vt X own cap scope C fp s₂ H₂).wish (Zw X own cap scope C fp s₂ H₂)) gU te)
  (A:Inv X pins σ H2 f) (T:dD X.prog X.w X.K tg J fp it tn) (a7:tn 0 f.heap) (f2:∀b∈fp,Vw X pins H2 b) (w0:W 0 m0 [] H2)
  (ax:∀i m k H,W i m k H-> (J.stop i H/\k.length<=sizeLine/\QQ k H)\/
   (J.go i H/\k.length<=sizeLine/\∃N:O V->Hp->Prop,(∀av s,N av s->∃m',m'<m/\W (i+1) m' av s)/\∀x s,J.yld i H x s->g x (bG own.length cap σ) s λau H2=>tc au H2 λb H3=>if b=true then te au H3 λy H4=>N (k++[y]) H4 else N k H3))
  (hZ:∀(D C:Y)(e:I)(K:Shared),Zw X own cap scope C fp f H2 e K->notedBy (model X.prog X.w) X.A (compEnvC scope (dP X.env scope.names []) C X.env) (λx bo=>RR (.ref D) C (.error x) bo) e K)
  (bt:∀(D C:Y) (bD:O (Y×Obj)) (bl:St) (s:Hp) (K:Shared) (us:O I) (k:O V),Inv (vt X own cap scope C fp f H2) bD bl s K->f.heap.objs.size<=C->f.heap.objs.size<=D->D≠C->K.heap.get? D=some (Js us)->s D=none-> k.length<=sizeLine->yl k us->QQ k s->RR (.ref D) C (.ok .next) K):
  wpAny (model X.prog X.w) X.A (newList []) (λbk l=>wpAny (model X.prog X.w) X.A (newFunctionEnv scope X.env.globals (dP X.env scope.names []) [] X.env.qual none .none (some X.env)) (λP a4=>codeAny (model X.prog X.w) X.A (.compStart (.ListComp gU [⟨tg,bM,fR,0⟩] scope pos) 0 (.ref it) bk {P with scope:=relabel scope X.env}) (RR bk P.locals) a4) X.xe l) X.xe f:=by
 refine dg (wpAny_newFunctionEnv S.cell (by intro y hy;simp at hy) (λE t j=>?_) S.kind);generalize af:f.heap.push {cls:=.type "list",dict:=none,data:=.seq [].toArray}=g2 at t j⊢;have ah:g2.objs.size=f.heap.objs.size+1:=by rw[<-af,f9]
 have hC:f.heap.objs.size<=g2.objs.size:=by rw[ah];exact Nat.le_succ _
 have ag:f.heap.objs.size≠g2.objs.size:=by rw[ah];exact bh (Nat.lt_succ_self _)
 have below:∀b,b<f.heap.objs.size->b≠g2.objs.size/\b≠f.heap.objs.size:=λb h=>⟨by rw[ah];exact bh (Nat.lt_succ_of_lt h),bh h⟩
 have bQ:=λb o e=>j.extBut b o (below b (aq e)).1 (ak _ (af▸ak _ e));have bb:=j.extBut _ _ ag (ak _ (af▸bi _ rfl));have Z:∀b∈fp,b<f.heap.objs.size:=λb h=>by obtain⟨o,e,_⟩:=T.obj _ _ a7 b h;exact aq e
 have w:∀a,f.heap.objs.size<=a->H2 a=none:=λa ha=>A.hok.fresh ha;have ok:=D0 A S f2 hC Z;have a8:=T.keep _ _ _ a7 λb h o e=>bQ b o e;let G:=vt X own cap scope g2.objs.size fp f H2;have u1:Un (aV X.stack) fp H2 H2 f.heap E:=Un.kept bQ;have start:Inv G [(f.heap.objs.size,Js [])] (bG own.length cap σ) H2 {f with heap:=E,toks:=f.toks+([]:O (Str×I)).length}:=by
  refine⟨ok,rfl,A.bare,u1,⟨_,t,uF A S f2 u1 _⟩,λx c e=>?_,w _ hC,λx c e=>A.freeC x c (S.look A.ok e),λp L=>?_,A.hok.kept bQ,?_⟩;obtain⟨v,z⟩:=A.cell x c (S.look A.ok e);obtain⟨o,ho,hd⟩:=z;exact⟨v,o,bQ c o ho,hd⟩;have e:p=(f.heap.objs.size,Js []):=by simpa[G,vt]using L
  subst e;refine⟨bb,w _ (aj _),ag,λz=>?_,λv z=>by cases z⟩;obtain⟨_,o,ho,_⟩:=A.stack.mem z;exact absurd (aq ho) (cx _);unfold bG;show _=(kC own cap X.N).length;unfold kC;simp
 have B:∀{D:Y}{o:Obj}{s:Hp},f.heap.objs.size<=D->(∀b∈fp,s b=none)->∀b∈fp,Vw G [(D,o)] s b:=λ{D o s} hD hn b h=>
  ⟨hn b h,(ok.exf b h).1,ok.exfs b h,.inl h,λx c e=>(ok.exf b h).2 x c e,λp L=>by
   have e:p=(D,o):=by simpa[G,vt]using L
   subst e;exact al (bh (ca (Z b h) hD))⟩
 have M:∀l:Shared,l={f with heap:=E,toks:=f.toks+([]:O (Str×I)).length}->
   codeAny (model X.prog X.w) X.A (.compLoop (.ListComp gU [⟨tg,bM,fR,0⟩] scope pos) 0 (.ref it) (.ref f.heap.objs.size) (compEnvC scope (dP X.env scope.names []) g2.objs.size X.env))
    (RR (.ref f.heap.objs.size) g2.objs.size) l:=by
  rintro l rfl;refine F6 (λn K=>∃i s us k,Inv G [(f.heap.objs.size,Js us)] (bG own.length cap σ) s K/\tn i K.heap/\(∀b∈fp,s b=none)/\yl k us/\W i n k s) (hZ _ _) ?_ m0
   ⟨0,H2,[],[],start,a8,λb h=>(f2 b h).1,.nil,w0⟩
  rintro n s3 ⟨i,H3,us,k,I3,a6,bf,rv,w3⟩;rcases ax i n k H3 w3 with⟨a5,hl,qn⟩|⟨go,hl,N,hN,step⟩;refine aF (T.done G rfl rfl rfl hc i _ s3 _ H3 _ I3 (B (aj _) bf) a6 a5) λr s4 ⟨hr,I4⟩=>?_;subst hr;have F:=I4.pin (f.heap.objs.size,Js us) (dy _ c8);exact bt _ _ _ _ H3 s4 us k I4 hC (aj _) ag F.1 F.2.1 hl rv qn;refine aF (T.item G rfl rfl rfl hc i _ s3 _ H3 _ I3 (B (aj _) bf) a6 go) λr s4 ⟨u,hr,h4⟩=>?_;subst hr;refine aF h4 λ_ s5 ⟨x,H5,I5,r5,y5,R,bA⟩=>?_;have bL:=I5.pinned (B (aj _) bA) (T.obj _ _ R);refine aF (hg _ _ _ _ _ s5 _ H5 x u _ bL r5 (step x H5 y5)) λ_ s6 ⟨ap,H6,I6,q6⟩=>?_;refine aF (ht _ _ _ _ _ s6 ap H6 _ I6 q6) λb s7 ⟨H7,I7,q7⟩=>?_;have a3:∀{am:St}{H8:Hp}{U:Shared},Inv G ([(f.heap.objs.size,Js us)]++Qw fp s5.heap) am H8 U->tn (i+1) U.heap/\∀b∈fp,H8 b=none:=λ{am H8 U} Q=>by refine⟨T.keep _ _ _ R λb h o e=>(Q.pin (b,o) (dy _ (dy _ (Zz h e)))).1,λb h=>?_⟩;obtain⟨o,e,d⟩:=T.obj _ _ R b h;exact(Q.pin (b,o) (dy _ (dy _ (Zz h e)))).2.1
  cases b with| false=>
    rw[if_neg cn]at q7;obtain⟨m',hm,w7⟩:=hN _ _ q7;rw[if_neg cn];obtain⟨t7,n7⟩:=a3 I7;exact⟨m',hm,i+1,H7,us,k,Kt A S f2 I7.unpinned,t7,n7,rv,w7⟩| true=>
    rw[if_pos rfl]at q7;rw[if_pos rfl];refine df (he _ _ _ _ _ s7 ap H7 _ (I7.wish _) q7) (λy U h8=>?_) λ_ _ z=>z;obtain⟨z,H8,Q,r8,bq⟩:=h8;have Q:=Q.unwish;obtain⟨m',hm,w8⟩:=hN _ _ bq;obtain⟨t8,n8⟩:=a3 Q;have p8:=Q.pin (f.heap.objs.size,Js us) (dy _ (f8 _ c8));have bT:us.length<=sizeLine:=by rw[<-rv.length];exact hl
    refine append_at p8.1 λh9 a9 bv=>?_;have bd:=bv.trans (congrArg some (ER us y));refine⟨m',hm,i+1,H8,us++[y],k++[z],?_,T.keep _ _ _ t8 λb h o e=>(a9.2 b (λq=>?_)).trans e,n8,yl.append rv (.cons r8 .nil),w8⟩;have J0:Inv G [] (bG own.length cap σ) H8 U:=(Kt A S f2 Q).pins_of λp L=>by cases L
    have J1:Inv G [] (bG own.length cap σ) H8 {U with heap:=h9,toks:=U.toks}:=J0.turned (λb o h e=>(a9.2 b h).trans e) p8.2.1 p8.2.2.1 (.inr (aj _)) (λx c e q=>by
     obtain⟨v,hv⟩:=A.cell x c (S.look A.ok e);exact absurd (ca hv.lt (by rw[q];exact aj _)) (cx _)) (λp L=>by
     have:p∈[]:=by simpa[G,vt]using L
     cases this)
    exact J1.pins_of λp L=>by
     have e:p=(f.heap.objs.size,Js (us++[y])):=by simpa using L
     subst e;exact⟨bd,p8.2.1,p8.2.2.1,p8.2.2.2.1,λv z=>by cases z⟩
    exact absurd (Z b h) (by rw[q];exact cx _)
 exact codeAny_compStart_list (M _ rfl) (T.self _ 0 _ _ _ a8 (M _ rfl))
theorem w6(E:X.calm=true)(S:aN X own cap scope)(A:PI X tg bM wi)(B:∀C fp s₂ H₂,PG (vt X own cap scope C fp s₂ H₂) tg g) (y:∀C fp s₂ H₂,lR (vt X own cap scope C fp s₂ H₂) fR tc) (he:∀C fp s₂ H₂,PE (vt X own cap scope C fp s₂ H₂) gU te)
  (hs:∀x,foldedSetIterable bM X.env x=pure x:=by intro _;rfl):PE X (.ListComp gU [⟨tg,bM,fR,0⟩] scope pos) (wB wi g tc te own.length cap):=by intro b s r H Q I h;rw[eval_ListComp];refine wpAny_comprehension_free rfl hs (Yr (S.has I.ok)) S.kind S.names (aF (A b s r H _ I h) λv U L=>aF L λw R K=>?_);obtain⟨it,fp,P,J,H2,e,o,T,c,l,W,⟨m0,t⟩,a⟩:=K;subst e;refine uP (Zw:=λ_ _ _ _ _ _ _ _ _ _=>False) E S B y he o T c l t a (λ_ _ _ _ h=>h.elim) λD C bD p H' Z N M n G F i j k z u q=>?_;obtain⟨m,f,_⟩:=id n.loc;exact⟨m,f,λh' d=>⟨.ref D,_,uE o l n d G F i j k z u,rfl,q D k⟩⟩
def xK(i:Nat)(te:TE):TS:=λD σ H=>te σ H λx H1=>D.nx (σ.set i (some x)) H1
theorem ni{y:Str}{Q d:Pos}(hc:X.calm=true)(S:aN X own cap scope)(hi:PI X tg bM wi)(hg:∀C fp s₂ H₂,PG (vt X own cap scope C fp s₂ H₂) tg g) (ht:∀C fp s₂ H₂,lR (vt X own cap scope C fp s₂ H₂) fR tc) (he:∀C fp s₂ H₂,PE (vt X own cap scope C fp s₂ H₂) gU te)
  (hN:X.N.Nodup) (hy:X.N[i]?=some y) (U:X.env.scope.names.lookup y=some .local)
  (w:swapsWith (.ListComp gU [⟨tg,bM,fR,0⟩] scope pos) (some (.Name y Q)) d.line X.env=pure true)
  (hs:∀x,foldedSetIterable bM X.env x=pure x:=by intro _;rfl):PS X (.Assign [.Name y Q] (.ListComp gU [⟨tg,bM,fR,0⟩] scope pos) d) (xK i (wB wi g tc te own.length cap)):=by
 intro l s P H D I h;rw[exec_Assign_Name_used _ _ _ _ w];refine aa (wpAny_standAt (aa ?_));refine aa (df (wpAny_comprehension_free rfl hs (Yr (S.has I.ok)) S.kind S.names (aF (hi l s P H _ I h) λv s1 h1=>aF h1 λag s2 h2=>?_)) (λ_ s' hq=>ac (ac hq)) λ_ _ e=>e)
 obtain⟨it,fp,tn,J,H2,e,f,T,r,Z,W,⟨m0,w0⟩,k⟩:=h2;subst e;refine uP (Zw:=λ_ _ _ _ _ _ _ _ _ _=>False) hc S hg ht he f T r Z w0 k (λ_ _ _ _ h=>h.elim) λL C bD af H' s' us ys N j hD n K R E rv q=>?_;obtain⟨m,B,_⟩:=id N.loc;have I3:=uE f Z N ⟨rfl,λ_ _=>rfl⟩ j hD n K R E rv;refine wpAny_assign_Name (J6 I3 hN hy (.inl U) (v:=.ref L) rfl (λs5 I5 F=>?_) (.inr U));have M:(upd H' L (.lst ys)) C=none:=by rw[zi (al n)];exact N.free
 have t:∀a,(a=X.env.locals\/X.env.cells.lookup y=some a)->C≠a:=λa G z=>by rcases G with e|e;exact absurd (ca f.lt (by rw[<-e,<-z];exact j)) (cx _);obtain⟨v,u⟩:=f.cell y a e;exact absurd (ca u.lt (by rw[<-z];exact j)) (cx _)
 obtain⟨a,sb,G⟩:=F;refine⟨m,B.sameBut sb (t a G),λh6 A=>?_⟩;refine⟨P.set i (some (.ref L)),_,?_,q L R⟩;refine I5.turned (λb o hb e=>(A.2 b hb).trans e) M ?_ (.inr (c6 f.sz j)) (λx c e z=>?_) λp hp z=>?_;exact λz=>absurd (ca f.lt (by rw[<-z];exact j)) (cx _);obtain⟨v,u⟩:=f.cell x c e;exact absurd (ca u.lt (by rw[z];exact j)) (cx _);exact absurd (ca (aq (f.pin p hp).1) (by rw[z];exact j)) (cx _)
end
section
inductive iU(K:W.Frag)(xs:List V)(H:Hp)(Q:VK):Prop|mk:∀x n t b,xs=[x,.ty n]->bW K H x t->W.kitOne K t (.type n)=some b->Q (.bl b) H->iU K xs H Q
theorem CZ:jt X (.builtin "isinstance") (iU X.K):=by intro a s i H j k Q I r h;obtain⟨x,n,t,b,rfl,c,e,q⟩:=h;obtain⟨u,l,rfl,g,f⟩:=oO r;cases(f);exact D8 I g c e λd=>⟨.bl b,H,I.tok d,J,q⟩
theorem Kh:aY X (compareOp .LtE) (λx y H Q=>∃i j,x=.str i/\y=.str j/\Q (.bl (!decide (j.cps.toList<i.cps.toList))) H):=by intro a s d H x y v u Q I c b h;obtain⟨i,j,rfl,rfl,q⟩:=h;obtain⟨t,rfl⟩:=c;obtain⟨e,rfl⟩:=b;exact P.le_str (yw I q J)
theorem qi(C:X.calm=true):jt X (.builtin "all") (λxs H Q=>∃(a:Addr)(bs:List Bool),xs=[.ref a]/\aE X.K H a (bs.map V.bl)/\Q (.bl (bs.all id)) H):=by
 intro m s F H xs G Q I r h;obtain⟨a,bs,rfl,n,q⟩:=h;obtain⟨u,rfl,t⟩:=jx r;cases t;obtain⟨c,j,p,M⟩:=I.list n;have k:a<s.heap.objs.size:=by obtain⟨_,e,_⟩:=p.isList;exact aq e
 have l:=j.length;rw[ae]at l;refine call_all_walk (wpAny_pyIter_list p.isList ?_);refine⟨s.heap.objs.size,_,_,_,_,_,λi=>(bs[i]?).getD false,J,Walks.list (A:=X.A.in1) (I.ok.hd C) s.heap.objs.size a (bh k) c.toArray,⟨⟨_,bi _ J,J,J⟩,p.isList.push _⟩,?_,λN K B=>?_⟩;intro i v L P R g f;have g:c[i]?=some v:=by simpa using g
 cases e:bs[i]? with| none=>have:=List.getElem?_eq_none_iff.mp e;have E:c[i]?=none:=List.getElem?_eq_none_iff.mpr (by omega);rw[E]at g;cases g| some b=>obtain⟨u,A,w⟩:=j.get (by rw[ba,e];rfl);rw[A]at g;cases g;cases(w);dsimp only at f;rw[e]at f;exact ac f
 have e:((List.range c.toArray.size).all λi=>(bs[i]?).getD false)=bs.all id:=by rw[cq,<-l];clear q n j l;rw[Bool.eq_iff_iff,dz,dz];constructor;intro h x y;obtain⟨i,d,rfl⟩:=fj.mp y;have:=h i (de.mpr d);simpa[d]using this;intro h i d;have d:=de.mp d;have:=h (bs[i]) (List.getElem_mem d);simpa[d]using this
 rw[e];refine⟨.bl (bs.all id),H,I.kept λb o e=>B b o (λD=>?_) (ak _ e),J,q⟩;have z:b=s.heap.objs.size:=by simpa using D
 exact absurd (aq e) (by rw[z];exact cx _)
end
section
variable{s:Shared}
theorem Q1{t:Y}{v:I}(a:s.heap.IsTupleIter it t i)(e:s.heap.IsTuple t its)(d:its[i]?=some v)(k:∀g,g.IsTupleIter it t (i+1)->Heap.SameBut it s.heap g->Q v {s with heap:=g}):wpAny (model prog w) A (Builtin.SmallTypes.nextOf (.ref it)) Q E s:=by obtain⟨o,c,h,b⟩:=id a;obtain⟨l,f,_,m,j⟩:=e;unfold Builtin.SmallTypes.nextOf;refine aa (wpAny_callSpecial?_slot a.typeIs PySem.F.slot_tuple_iterator_next (cy PySem.F.slot_tuple_iterator_next a.typeIs PySem.F.entry_tuple_iterator_next ?_ (PySem.F.args_tuple_iterator_next_1 _)));show wpAny _ _ (field (.ref it) 0>>=_) _ _ s;refine aa (wpAny_field c b J ?_);rw[if_neg (λz=>by grind)];refine aa (wpAny_field c b J ?_);refine aa (wpAny_seqItems f j ?_);simp only[cz,d];refine aa (wpAny_setField c b (by simp) (ac ⟨v,J,ac (k _ ⟨_,Heap.get?_update_self _ c (Obj.isFreed_of_fields (Obj.data_mapFields b _)),(Obj.cls_mapFields ..).trans h,?_⟩ (Heap.SameBut.update ..))⟩));rw[Obj.data_mapFields b];rfl
theorem Xd{t:Y}(d:A.handled=none)(a:s.heap.IsTupleIter it t i)(f:s.heap.IsTuple t its)(e:its[i]?=none)(k:∀g x,Heap.ExtBut it s.heap g->(∃o,g.get? x=some o/\o.cls=.type "StopIteration")->E (.ref x) {s with heap:=g}):wpAny (model prog w) A (Builtin.SmallTypes.nextOf (.ref it)) Q E s:=by
 obtain⟨o,c,n,b⟩:=id a;obtain⟨l,h,_,m,j⟩:=f;unfold Builtin.SmallTypes.nextOf;refine aa (wpAny_callSpecial?_slot a.typeIs PySem.F.slot_tuple_iterator_next (cy PySem.F.slot_tuple_iterator_next a.typeIs PySem.F.entry_tuple_iterator_next ?_ (PySem.F.args_tuple_iterator_next_1 _)));show wpAny _ _ (field (.ref it) 0>>=_) _ _ s;refine aa (wpAny_field c b J ?_);rw[if_neg (λz=>by grind)];refine aa (wpAny_field c b J ?_);refine aa (wpAny_seqItems h j ?_);simp only[cz,e];refine aa (wpAny_rule (aa (wpAny_setField c b (by simp) ?_)));refine aa ?_;simp only[newExc,newTuple];refine aa (dg ?_ (by size_fits));refine aa (wpAny_of_eq (by rfl) ?_);refine dg ?_ (by size_fits);simp only[raiseNew];refine aa (wpAny_handled ?_);first|rw[(d)]|rw[d]
 exact aa (ac (wpAny_throw (k _ _ (((Heap.SameBut.update ..).extBut.push _).push _) ⟨_,bi _ J,J⟩)))
theorem Fx{e t:Y}{v:I}{Q:Option I->Shared->Prop}(he:IsEnum s.heap e it i bQ)(W:s.heap.IsTupleIter it t i)(ht:s.heap.IsTuple t its)(Z:its[i]?=some v)(m:e≠it)(k:∀g,IsEnumOut g e it ((i:Int)+1) v s.heap.objs.size->g.IsTupleIter it t (i+1)->g.get? s.heap.objs.size=some {cls:=.type "tuple",data:=.seq #[.int i s.toks,v]}->g.objs.size=s.heap.objs.size+1-> (∀b o,b≠e->b≠it->s.heap.get? b=some o->g.get? b=some o)->Q (some (.ref s.heap.objs.size)) {s with heap:=g,toks:=s.toks+1}):wpAny (model prog w) A (pyNext (.ref e)) Q E s:=by
 have hT:s.TypeIs (.ref e) "enumerate":=⟨_,he,J⟩
 unfold pyNext;refine aa (wpAny_attempt (wpAny_callSpecial?_slot hT PySem.F.slot_enumerate_next (cy PySem.F.slot_enumerate_next hT PySem.F.entry_enumerate_next ?_ (PySem.F.args_enumerate_next_1 _))));obtain⟨M,gs,d,L,os⟩:=s;show wpAny _ _ (field (.ref e) 2>>=_) _ _ _;refine aa (wpAny_field he J J ?_);refine aa (Q1 W ht Z λg1 z l=>?_);replace l:=l;have y:=(l.2 e m).trans he;refine aa (wpAny_field y J J ?_);refine aa (wpAny_field y J J ?_);refine aa (wpAny_mkInt ?_);refine aa (wpAny_setField_rec y (by simp) λg2 x j=>?_);replace j:=j;replace x:=x;refine aa (wpAny_setField_rec x (by simp) λN u h=>?_);replace h:=h;replace u:=u;refine aa (wpAny_newTuple ?_);have q:IsEnum (N.push {cls:=.type "tuple",data:=.seq #[.int i L,v]}) e it (i+1) bQ:=ak _ u;generalize n:N.push {cls:=.type "tuple",data:=.seq #[.int i L,v]}=K at q;have p:N.objs.size=M.objs.size:=by rw[h.1,j.1,l.1]
 have C:=aq he;have S:K.get? M.objs.size=some {cls:=.type "tuple",data:=.seq #[.int i L,v]}:=by rw[<-n,<-p];exact bi _ J
 have R:K.objs.size=M.objs.size+1:=by rw[<-n,f9,p]
 have U:∀b o,b≠e->b≠it->M.get? b=some o->K.get? b=some o:=λb o B P X=>by rw[<-n];exact ak _ (h.extBut b o B (j.extBut b o B (l.extBut b o P X)))
 have H:K.IsTupleIter it t (i+1):=by rw[<-n];obtain⟨o,ho,r⟩:=(z.extBut j.extBut (al m)).extBut h.extBut (al m);exact⟨o,ak _ ho,r⟩
 show wpAny _ _ (Builtin.SmallTypes.ownedTupleIsFree (.ref e)>>=_) _ _ ⟨K,gs,d,L+1,os⟩;rw[p];clear n u h x j y l z p N g2 g1;refine aa ?_;unfold Builtin.SmallTypes.ownedTupleIsFree;refine aa (wpAny_field q J J (ac ?_));simp only[if_true];refine aa (wpAny_rule (aa (wpAny_field q J J (aa (wpAny_setField_rec q (by simp) λg5 G f=>?_)))));replace f:=f;replace G:=G;refine aa ?_;unfold Builtin.SmallTypes.ownedTupleHandOut;refine aa (wpAny_setField_rec G (by simp) λg6 F c=>?_);replace c:=c;replace F:=F;refine wpAny_setField_rec F (by simp) λg7 D a=>?_;replace a:=a;replace D:=D;refine aa (wpAny_letGo (ac ⟨_,J,ac (k g7 D ?_ ?_ ?_ ?_)⟩));exact((H.extBut f.extBut (al m)).extBut c.extBut (al m)).extBut a.extBut (al m);exact a.extBut _ _ (dw C) (c.extBut _ _ (dw C) (f.extBut _ _ (dw C) S));rw[a.1,c.1,f.1,R];exact λb o B P X=>a.extBut b o B (c.extBut b o B (f.extBut b o B (U b o B P X)))
theorem D3{e t:Y}{Q:Option I->Shared->Prop}(h:A.handled=none)(he:IsEnum s.heap e it i bQ)(a:s.heap.IsTupleIter it t i)(d:s.heap.IsTuple t its)(c:its[i]?=none)(k:∀g,Heap.ExtBut it s.heap g->Q none {s with heap:=g}):wpAny (model prog w) A (pyNext (.ref e)) Q E s:=by
 have hT:s.TypeIs (.ref e) "enumerate":=⟨_,he,J⟩
 unfold pyNext;refine aa (wpAny_attempt (wpAny_callSpecial?_slot hT PySem.F.slot_enumerate_next (cy PySem.F.slot_enumerate_next hT PySem.F.entry_enumerate_next ?_ (PySem.F.args_enumerate_next_1 _))));show wpAny _ _ (field (.ref e) 2>>=_) _ _ _;refine aa (wpAny_field he J J ?_);refine aa (Xd h a d c λg x b ⟨o,f,j⟩=>?_);exact aa (fb ⟨o,f,j⟩ isSubtype_stop (ac (k _ b)))
theorem C5(t:Y)(its:Array I)(n:Nat)(e:Option Y)(k:Array (Option I)):
  Meets (Builtin.«enumerate.__new__» ⟨[.type "enumerate",.ref t],[]⟩) (λ_ R s=>s.heap.get? t=some {cls:=.type "tuple",dict:=e,data:=.seq its n,slots:=k}/\ R (.ok (.ret (.ref (s.heap.push {cls:=.type "tuple_iterator",data:=.fields #[.ref t,.int 0 0]}).objs.size)))
     {s with heap:=(s.heap.push {cls:=.type "tuple_iterator",data:=.fields #[.ref t,.int 0 0]}).push {cls:=.type "enumerate",data:=.fields #[.none,.bool false,.ref s.heap.objs.size,rawInt 0,.none,.none]}}):=
 .of_wp λf w A R s h=>by
  obtain⟨l,g,d,j,os⟩:=s;obtain⟨a,h⟩:=h;have i:=sub_enumerate;have b:Heap.IsTuple (Shared.heap ⟨l,g,d,j,os⟩) t its:=⟨_,a,J,n,J⟩
  wp_walk using AutoSeq1.wpAny_loadPart' a
  refine wpAny_stack_any λst=>ac ?_;split
  rename_i c _ _ _ _ _
  cases(c==Value.type "enumerate")
  wp_walk using AutoSeq1.wpAny_loadPart' a,wpAny_pyIter_tuple b
  exact⟨_,J,h⟩
  wp_walk using AutoSeq1.wpAny_loadPart' a,wpAny_pyIter_tuple b
  exact⟨_,J,h⟩
  wp_walk using AutoSeq1.wpAny_loadPart' a,wpAny_pyIter_tuple b
  exact⟨_,J,h⟩
theorem E4{t:Y}(m:s.heap.IsTuple t its)(k:∀g,IsEnum g (s.heap.objs.size+1) s.heap.objs.size 0 .none->g.IsTupleIter s.heap.objs.size t 0->g.objs.size=s.heap.objs.size+2->(∀b o,s.heap.get? b=some o->g.get? b=some o)->Q (.ref (s.heap.objs.size+1)) {s with heap:=g}):
  wpAny (model prog w) A (call (.type "enumerate") [.ref t]) Q E s:=by
 obtain⟨⟨c,h,r,l⟩,p,f,n,d⟩:=m;replace f:=f;replace d:=d;subst f d;refine callType_new PySem.F.called_enumerate (by rfl) (PySem.F.typeCall_enumerate_1 _) (PySem.F.newCall_enumerate_1 _) (λa=>PySem.F.args_object_init_2 a _) PySem.F.entry_enumerate_new (C5 t its n h l) ⟨p,?_⟩;have i:(s.heap.push {cls:=.type "tuple_iterator",data:=.fields #[.ref t,.int 0 0]}).objs.size=s.heap.objs.size+1:=f9 ..;rw[i];have j:IsEnum ((s.heap.push {cls:=.type "tuple_iterator",data:=.fields #[.ref t,.int 0 0]}).push {cls:=.type "enumerate",data:=.fields #[.none,.bool false,.ref s.heap.objs.size,rawInt 0,.none,.none]}) (s.heap.objs.size+1) s.heap.objs.size 0 .none:=by
  have q:=bi (s.heap.push {cls:=.type "tuple_iterator",data:=.fields #[.ref t,.int 0 0]}) (o:={cls:=.type "enumerate",data:=.fields #[.none,.bool false,.ref s.heap.objs.size,rawInt 0,.none,.none]}) J
  grind
 refine⟨⟨_,j,J⟩,k _ j ⟨_,ak _ (bi _ J),J,J⟩ (by rw[f9,i]) λb o e=>ak _ (ak _ e)⟩
end
noncomputable def nY(K:W.Frag)(a:Addr):It:=⟨λi H=>∃xs x,aD K H a xs/\xs[i]?=some x,λi H x H'=>∃p y,x=.ref p/\H p=none/\H'=upd H p (.tup [.int i,y])/\∀xs,aD K H a xs->xs[i]?=some y,λi H=>∃xs,aD K H a xs/\xs.length<=i⟩
theorem EK{K:W.Frag}{k1}(a e f:Y)(L:e≠f)(l:sizeLine≥2):dD P w K (.Tuple cQ k1 pos) (nY K a) [e,f] e (λi h=>(∃bQ,IsEnum h e f i bQ)/\h.IsTupleIter f a i) where
 mem:=by simp
 obj:=λi h st b l=>by
  obtain⟨⟨bQ,A⟩,D⟩:=st;rcases ai.mp l with z|z
  simp_all
  have z:b=f:=by simp_all
  rw[z];obtain⟨o,F,c,d⟩:=D
  simp_all
 keep:=λi h h' st k=>by obtain⟨⟨bQ,A⟩,o,F,r⟩:=st;exact⟨⟨bQ,k e (by simp) _ A⟩,o,k f (by simp) o F,r⟩
 item:=by
  intro X hP hw hK hc i B s σ H E I Q st hg;subst hP hw hK;obtain⟨xs,x,G,hx⟩:=hg;obtain⟨Z,S,p,hz⟩:=I.tuple G;obtain⟨u,hu,ru⟩:=S.get hx;obtain⟨⟨bQ,A⟩,D⟩:=st;obtain⟨f0,f1,f2,f3,f4,f5⟩:=Q e (by simp);obtain⟨g0,g1,g2,g3,g4,g5⟩:=Q f (by simp);refine Fx A D (p) (by simpa using hu) L λg ho ag hT au hk=>?_;refine⟨.ref s.heap.objs.size,J,wpAny_letOwnedTupleGo_enum ho λg' av C=>?_⟩;have M:=dw (aq A);have ah:s.heap.objs.size≠f:=by obtain⟨o,F,_⟩:=D;exact dw (aq F)
  have y:=λb o N U z=>(C.2 b N).trans (hk b o N U z);have am:=(C.2 _ M).trans hT;have j:=I.hok.fresh (aj _);have ap:∀b o,H b=some o->b≠e/\b≠f:=λb o z=>⟨(λq=>by simp_all),(λq=>by simp_all)⟩
  have I1:Inv X B σ (upd H s.heap.objs.size (.tup [.int i,x])) {s with heap:=g',toks:=s.toks+1}:=by
   refine I.step (ch:=[e,f]) (λb l=>?_) (λb o N U t z _=>y b o (λq=>t (by grind)) (λq=>t (by grind)) z)
    (λb o N U t z _=>⟨o.slots,y b o (λq=>t (by grind)) (λq=>t (by grind)) z⟩) (λb o t z n=>?_) (λb o t z=>⟨o,y b o (λq=>t (by grind)) (λq=>t (by grind)) z⟩)
    (λb R z=>by rw[zi (zj z j)];exact z) (λb o R z=>by rw[zi (zj z j)];exact z) (λb ps z=>⟨#[],by rw[zi (zj z j),z];simp⟩) (λm hm=>?_) (λb ob z=>?_) I.bare
   grind
   rw[zi (bh (aq z))];exact n;obtain⟨o,es,ep,af,r⟩:=hm;exact⟨o,es,ep,y _ o (al f1) (al g1) af,r⟩;by_cases l:b=s.heap.objs.size;subst l;rw[ze]at z;cases z;exact⟨by omega,[.int i s.toks,u],.cons ⟨_,J⟩ (.cons ru .nil),⟨_,am,J,_,J⟩,λq G=>by simp_all⟩
   rw[zi l]at z;refine(I.hok b ob z).stay (λc v hc q=>?_) (λc q=>by rw[zi (zj q j)];exact q) λc R q=>by rw[zi (zj q j)];exact q
   grind
  refine⟨.ref s.heap.objs.size,_,I1,J,⟨_,x,J,j,J,λR hy=>by rw[I.tuple_inj hy G];omega⟩,⟨⟨u,by grind⟩,?_⟩,λb l=>?_⟩;obtain⟨o,F,r⟩:=ag;exact⟨o,(C.2 f (al L)).trans F,r⟩;rcases ai.mp l with q|q;rw[q,zi (al M)];omega;have q:b=f:=by simp_all
  rw[q,zi (al ah)];omega
 done:=by intro X hP hw hK hc i B s σ H E I Q st hg;subst hP hw hK;obtain⟨xs,G,hx⟩:=hg;obtain⟨Z,S,p,hz⟩:=I.tuple G;obtain⟨⟨bQ,A⟩,D⟩:=st;obtain⟨g0,g1,g2,g3,g4,g5⟩:=Q f (by simp);have hl:=S.length;exact D3 (I.ok.hd hc) A D (p) (by simp_all) λg eb=>⟨J,I.turned (λb o l z=>eb b o l z) g0 g1 g3 g4 g5⟩
 self:=λ_ _ _ _ _ st h=>by obtain⟨⟨bQ,A⟩,_⟩:=st;exact wpAny_pyIter_enum A h
section
inductive gS(K:W.Frag)(R:It->Hp->Prop)(vs:List V)(H1:Hp):Prop|mk:∀a xs,vs=[.ref a]->aD K H1 a xs->R (nY K a) H1->gS K R vs H1
def zI(K:W.Frag)(B:TA):TI:=λσ H R=>B σ H λvs H1=>gS K R vs H1
theorem uq{k1}{E:Pos}{a:Expr}{i:TA}{p:Pos}(B:Gl X "enumerate")(x:X.mg "enumerate"=none)(D:PA X [a] i)(hs:starEach [a] X.env=[(false,eval a X.env)]:=by rfl):PI X (.Tuple cQ k1 E) (.Call (.Name "enumerate" p) [a] [] pos) (zI X.K i):=by
 intro f s k H R I h;refine Call_ (Xn I B x boot_enumerate (PyProof.Rows.callWith_type1 (aF (D pos f s k H _ I h) λL c ⟨K,F,d,m,n⟩=>?_) hs J));obtain⟨t,G,e,w,q⟩:=n;subst e;obtain⟨u,rfl,l⟩:=jx m;cases l;obtain⟨r,M,o,N⟩:=d.tuple w;refine E4 (o) λg j A v y=>?_;refine wpAny_pyIter_enum j ?_;refine⟨c.heap.objs.size+1,[c.heap.objs.size+1,c.heap.objs.size],_,_,F,J,d.kept y,EK t (c.heap.objs.size+1) c.heap.objs.size (Nat.succ_ne_self _) (by rw[sizeLine_eq];omega),⟨⟨_,j⟩,A⟩,λb C=>?_,q⟩;rcases ai.mp C with z|z;rw[z];exact d.fpOk (Nat.le_succ _) (d.hok.fresh (Nat.le_succ _));have z:b=c.heap.objs.size:=by simp_all
 rw[z];exact d.fpOk (aj _) (d.hok.fresh (aj _))
end
theorem CQ{K:W.Frag}{d:TS}{D:Ends}(Pv:Nat->St->Hp->Prop)(n:Pv 0 σ H)(j:∀i σ H,i<=xs.length->Pv i σ H->aD K H a xs)(hs:∀i x σ H p,xs[i]?=some x->Pv i σ H->H p=none->g (.ref p) σ (upd H p (.tup [.int i,x])) λb H2=>d (D.lp (Pv (i+1))) b H2) (l:∀σ H,Pv xs.length σ H->D.nx σ H):
  dE g d D σ (nY K a) H:=by
 refine⟨λi m σ H=>m=xs.length-i/\i<=xs.length/\Pv i σ H,⟨xs.length,by simp,cm _,n⟩,?_⟩;rintro i m σ H ⟨rfl,k,p⟩;have q:=j i σ H k p;by_cases c:i<xs.length;refine .inr ⟨⟨xs,xs[i],q,by simp⟩,Pv (i+1),λh o f=>⟨xs.length-(i+1),by omega,J,c,f⟩,λx o y=>?_⟩;obtain⟨f,r,rfl,t,rfl,s⟩:=y
 grind
 have e:i=xs.length:=by omega
 subst e;exact .inl ⟨⟨xs,q,aj _⟩,l σ H p⟩
section
end
theorem Kq:entryFor table "dict.update.loop"=some Builtin.«dict.update.loop»:=entryFor_of_tree (by kernel_rfl)
theorem Y5:plainId "dict.update.loop"=true:=by decide+kernel
section
variable{s:Shared}
set_option maxRecDepth 8000 in
end
section
end
noncomputable def nW(x:Str):It:=⟨λi _=>i<x.cps.size,λi H v H'=>H'=H/\∃c,x.cps[i]?=some c/\v=.str ⟨#[c]⟩,λi _=>x.cps.size<=i⟩
theorem Ej{K:W.Frag}{q:String}(a:Y)(x:Str)(t:Tok)(n:q="str_ascii_iterator"\/q="str_iterator"):dD P w K tg (nW x) [a] a (λi h=>i<=x.cps.size/\h.IsStrIter a q x t i) where
 mem:=by simp
 obj:=λi h st b C=>by
  have e:b=a:=by simp_all
  subst e;obtain⟨_,o,e,c,d⟩:=st
  simp_all
 keep:=λi h g st k=>by obtain⟨z,o,e,r⟩:=st;exact⟨z,o,k a (by simp) o e,r⟩
 item:=by
  intro X Z S hK B i j s R H E I F st p;subst Z S hK;obtain⟨z,st⟩:=st;obtain⟨Q,N,f2,M,L,G⟩:=F a (by simp);have D:∀(g:Heap)(l:Nat)(v:Value),SignAt x i v->g.IsStrIter a q x t (i+1)->(∀b o,b ∉ [a]->s.heap.get? b=some o->g.get? b=some o)->
    ∃u,some v=some u/\wpAny (model X.prog X.w) X.A (letOwnedTupleGo tg (.ref a) u) (λ_ s2=>∃y H',Inv X j R H' s2/\yu y u/\(nW x).yld i H y H'/\(i+1<=x.cps.size/\s2.heap.IsStrIter a q x t (i+1))/\∀b∈[a],H' b=none) E {s with heap:=g,toks:=l}:=by intro g l v A f m;obtain⟨c,u,U,rfl⟩:=A;have I1:Inv X j R H {s with heap:=g,toks:=l}:=I.turned (λb o C e=>m b o (by simp_all) e) Q N M L G;obtain⟨o,e1,e2,e3⟩:=id f;refine⟨_,J,mS e1 e2 e3 (by grind) ⟨.str ⟨#[c]⟩,H,I1,⟨u,J⟩,⟨J,c,U,J⟩,⟨p,f⟩,λb C=>(F b C).1⟩⟩
  rcases n with rfl|rfl;exact(Walks.strAscii (I.ok.hd B) a x t).item i s _ _ p st λv g l A f m=>D g l v A f m;exact(Walks.strWide (I.ok.hd B) a x t).item i s _ _ p st λv g l A f m=>D g l v A f m
 done:=by
  intro X Z S hK B i j s R H E I F st p;subst Z S hK;obtain⟨z,st⟩:=st;have p:x.cps.size<=i:=p;have e:i=x.cps.size:=by omega
  subst e;obtain⟨Q,N,f2,M,L,G⟩:=F a (by simp);rcases n with rfl|rfl;exact(Walks.strAscii (I.ok.hd B) a x t).done s _ _ st λg l m=>⟨J,I.turned (λb o C e=>m b o (by simp_all) e) Q N M L G⟩
  exact(Walks.strWide (I.ok.hd B) a x t).done s _ _ st λg l m=>⟨J,I.turned (λb o C e=>m b o (by simp_all) e) Q N M L G⟩
 self:=λ_ _ _ _ _ st h=>by rcases n with rfl|rfl;exact wpAny_pyIter_striter_ascii st.2 h;exact wpAny_pyIter_striter_wide st.2 h
section
inductive jU(R:It->Hp->Prop)(v:V)(H1:Hp):Prop|mk:∀x,v=.str x->R (nW x) H1->jU R v H1
def yB(B:TE):TI:=λσ H R=>B σ H λv H1=>jU R v H1
theorem AH{l:Expr}{j:TE}(r:PE X l j):PI X tg l (yB j):=by
 intro a s i H R I h;refine aF (r a s i H _ I h) λv c ⟨x,u,g,n,p⟩=>?_;obtain⟨y,e,q⟩:=p;subst e;obtain⟨t,rfl⟩:=n;have k:∀d,(d="str_ascii_iterator"\/d="str_iterator")->nU X a i tg R (.ref c.heap.objs.size) {c with heap:=c.heap.push {cls:=.type d,data:=.fields #[.str y t,.int 0 0]}}:=λd f=>by
  refine⟨c.heap.objs.size,[c.heap.objs.size],_,_,u,J,g.kept λb o e=>ak _ e,Ej _ y t f,⟨cm _,_,bi _ J,J,J⟩,λb w=>?_,q⟩;have e:b=c.heap.objs.size:=by simp_all
  subst e;exact g.fpOk (aj _) (g.hok.fresh (aj _))
 cases m:y.cps.all (· <128);exact wpAny_pyIter_wide m (k _ (.inr J));exact wpAny_pyIter_ascii m (k _ (.inl J))
end
section
variable{K:W.Frag}{Q:VK}
theorem Zf(Pv:Nat->O V->Hp->Prop)(s:Pv 0 [] H)(n:∀i ys H,i<=xs.length->Pv i ys H->aD K H a xs/\ys.length<=sizeLine)(hs:∀i x ys H,xs[i]?=some x->Pv i ys H->g x (bG k cap σ) H λc H2=>tc c H2 λb h=>if b=true then te c h λy t=>Pv (i+1) (ys++[y]) t else Pv (i+1) ys h)
  (r:∀ys H,Pv xs.length ys H->∀p,H p=none->Q (.ref p) (upd H p (.lst ys))):cB (qR K a) g tc te k cap σ H Q:=by
 refine⟨λi m ys H=>m=xs.length-i/\i<=xs.length/\Pv i ys H,⟨xs.length,by simp,cm _,s⟩,?_⟩;rintro i m ys H ⟨rfl,o,p⟩;obtain⟨q,f⟩:=n i ys H o p;by_cases d:i<xs.length;refine .inr ⟨⟨xs,xs[i],q,by simp⟩,f,Pv (i+1),λj u l=>⟨xs.length-(i+1),by omega,J,d,l⟩,λx u y=>?_⟩;obtain⟨e,y⟩:=y
 grind
 have e:i=xs.length:=by omega
 subst e;exact .inl ⟨⟨xs,q,aj _⟩,f,r ys H p⟩
theorem kz(Pv:Nat->O V->Hp->Prop)(s:Pv 0 [] H)(n:∀i ys H,i<=xs.length->Pv i ys H->aE K H a xs/\ys.length<=sizeLine)(hs:∀i x ys H,xs[i]?=some x->Pv i ys H->g x (bG k cap σ) H λc H2=>tc c H2 λb h=>if b=true then te c h λy t=>Pv (i+1) (ys++[y]) t else Pv (i+1) ys h)
  (r:∀ys H,Pv xs.length ys H->∀p,H p=none->Q (.ref p) (upd H p (.lst ys))):cB (nX K a) g tc te k cap σ H Q:=by
 refine⟨λi m ys H=>m=xs.length-i/\i<=xs.length/\Pv i ys H,⟨xs.length,by simp,cm _,s⟩,?_⟩;rintro i m ys H ⟨rfl,o,p⟩;obtain⟨q,f⟩:=n i ys H o p;by_cases d:i<xs.length;refine .inr ⟨⟨xs,xs[i],q,by simp[d]⟩,f,Pv (i+1),λj u l=>⟨xs.length-(i+1),by omega,J,d,l⟩,λx u y=>?_⟩;obtain⟨e,y⟩:=y;subst e;exact hs i x ys _ (y xs q) p;have e:i=xs.length:=by omega
 subst e;exact .inl ⟨⟨xs,q,aj _⟩,f,r ys H p⟩
theorem jq{lo:Int}(Pv:Nat->O V->Hp->Prop)(r:Pv 0 [] H)(l:∀i ys H,i<=n->Pv i ys H->ys.length<=sizeLine)(hs:∀i ys H,i<n->Pv i ys H->g (.int (lo+i)) (bG k cap σ) H λa H2=>tc a H2 λb f=>if b=true then te a f λy s=>Pv (i+1) (ys++[y]) s else Pv (i+1) ys f)
  (q:∀ys H,Pv n ys H->∀p,H p=none->Q (.ref p) (upd H p (.lst ys))):cB (mK lo n) g tc te k cap σ H Q:=by
 refine⟨λi m ys H=>m=n-i/\i<=n/\Pv i ys H,⟨n,by simp,cm _,r⟩,?_⟩;rintro i m ys H ⟨rfl,o,p⟩;have d:=l i ys H o p;by_cases c:i<n;refine .inr ⟨c,d,Pv (i+1),λh t j=>⟨n-(i+1),by omega,J,c,j⟩,λx t y=>?_⟩;obtain⟨e,y⟩:=y
 simp_all
 have e:i=n:=by omega
 subst e;exact .inl ⟨aj _,d,q ys H p⟩
theorem Ap(Pv:Nat->O V->Hp->Prop)(r:Pv 0 [] H)(n:∀i ys H,i<=x.cps.size->Pv i ys H->ys.length<=sizeLine)(hs:∀i c ys H,x.cps[i]?=some c->Pv i ys H->g (.str ⟨#[c]⟩) (bG k cap σ) H λa H2=>tc a H2 λb h=>if b=true then te a h λy s=>Pv (i+1) (ys++[y]) s else Pv (i+1) ys h)
  (q:∀ys H,Pv x.cps.size ys H->∀p,H p=none->Q (.ref p) (upd H p (.lst ys))):cB (nW x) g tc te k cap σ H Q:=by
 refine⟨λi m ys H=>m=x.cps.size-i/\i<=x.cps.size/\Pv i ys H,⟨x.cps.size,by simp,cm _,r⟩,?_⟩;rintro i m ys H ⟨rfl,o,p⟩;have f:=n i ys H o p;by_cases d:i<x.cps.size;refine .inr ⟨d,f,Pv (i+1),λj t l=>⟨x.cps.size-(i+1),by omega,J,d,l⟩,λv t y=>?_⟩;obtain⟨e,c,u,rfl⟩:=y
 simp_all
 have e:i=x.cps.size:=by omega
 subst e;exact .inl ⟨aj _,f,q ys H p⟩
end
inductive T where|non|bl (b:Bool)|int (i:Int)|str (x:Str)|tup (ts:List T)|lst (ts:List T)|dct
inductive qS(H:Hp)(f:List V->HO)(L:List V->Prop)(v:V):Prop|mk:∀a xs,v=.ref a->H a=some (f xs)->L xs->qS H f L v
inductive wW(A:V->Prop)(L:List V->Prop)(xs:List V):Prop|mk:∀v vs,xs=v::vs->A v->L vs->wW A L xs
mutual
noncomputable def Is(H:Hp):T->V->Prop|.non,v=>v=.non|.bl b,v=>v=.bl b|.int i,v=>v=.int i|.str x,v=>v=.str x|.tup ts,v=>qS H .tup (λxs=>IsL H ts xs) v|.lst ts,v=>qS H .lst (λxs=>IsL H ts xs) v|.dct,v=>∃a,v=.ref a/\H a=some (.dK [])
noncomputable def IsL(H:Hp):List T->List V->Prop|[],xs=>xs=[]|t::ts,xs=>wW (λv=>Is H t v) (λvs=>IsL H ts vs) xs
end
variable{p:Addr}{kvs:List (cC×V)}{ts:List T}{o:Obj}{v:V}
def qj(H B:Hp):Prop:=∀b xs,H b=some (.tup xs)->B b=some (.tup xs)
theorem Same.new(h:H p=none)(o:HO):Same H (upd H p o):=λb u q=>by rw[zi (zj q h)];exact q
theorem qj.upd{H:Hp}{p:Y}{o a:HO}(h:H p=some o)(c:∀xs,o≠ .tup xs):qj H (upd H p a):=λb xs e=>by rw[zi (Zl e h (λz=>c xs z.symm))];exact e
mutual
theorem Is.mono{H H':Hp}(s:Same H H'):∀{t:T}{v:V},Is H t v->Is H' t v|.non,v,h=>h|.bl b,v,h=>h|.int i,v,h=>h|.str x,v,h=>h| .tup ts,v,h=>by obtain⟨a,xs,e,ha,hl⟩:=h;exact⟨a,xs,e,s a _ ha,IsL.mono s hl⟩| .lst ts,v,h=>by obtain⟨a,xs,e,ha,hl⟩:=h;exact⟨a,xs,e,s a _ ha,IsL.mono s hl⟩| .dct,v,h=>by obtain⟨a,e,ha⟩:=h;exact⟨a,e,s a _ ha⟩
theorem IsL.mono{H H':Hp}(s:Same H H'):∀{ts:List T}{xs:List V},IsL H ts xs->IsL H' ts xs|[],xs,h=>h| t::ts,xs,h=>by obtain⟨v,vs,e,h1,h2⟩:=h;exact⟨v,vs,e,Is.mono s h1,IsL.mono s h2⟩
end
mutual
noncomputable def bI:T->Prop|.tup ts=>xn ts|.lst _=>False|.dct=>False|_=>True
noncomputable def xn:List T->Prop|[]=>True|t::ts=>bI t/\xn ts
end
mutual
theorem Is.tups{H H':Hp}(s:qj H H'):∀{t:T}{v:V},bI t->Is H t v->Is H' t v
 |.non,v,_,h=>h
 |.bl b,v,_,h=>h
 |.int i,v,_,h=>h
 |.str x,v,_,h=>h
 | .tup ts,v,f,h=>by
   obtain⟨a,xs,e,ha,hl⟩:=h;have f:xn ts:=by unfold bI at f;exact f
   exact⟨a,xs,e,s a _ ha,IsL.tups s f hl⟩
 |.lst ts,v,f,h=>by unfold bI at f;exact f.elim
 |.dct,v,f,h=>by unfold bI at f;exact f.elim
theorem IsL.tups{H H':Hp}(s:qj H H'):∀{ts:List T}{xs:List V},xn ts->IsL H ts xs->IsL H' ts xs
 |[],xs,_,h=>h
 | t::ts,xs,f,h=>by
   obtain⟨v,vs,e,h1,h2⟩:=h;have f:bI t/\xn ts:=by unfold xn at f;exact f
   exact⟨v,vs,e,Is.tups s f.1 h1,IsL.tups s f.2 h2⟩
end
theorem xn.all:xn ts↔∀t∈ts,bI t:=by induction ts with|nil=>simp[xn]|cons t ts a=>simp[xn,a]
theorem IsL.length{H:Hp}:∀{a:List T}{xs:List V},IsL H a xs->xs.length=a.length|[],xs,h=>by cases h;rfl| t::a,xs,h=>by obtain⟨v,c,rfl,_,b⟩:=h;simp[IsL.length b]
theorem IsL.get{H:Hp}:∀{a:List T}{xs:List V}{i:Nat}{t:T},IsL H a xs->a[i]?=some t->∃v,xs[i]?=some v/\Is H t v|[],_,_,_,_,e=>by simp at e| t ::a,xs,i,j,h,e=>by obtain⟨v,g,rfl,c,b⟩:=h;cases i with|zero=>simp at e;subst e;exact⟨v,J,c⟩| succ i=>obtain⟨w,f,d⟩:=IsL.get b (by simpa using e);exact⟨w,by simpa using f,d⟩
theorem IsL.get'(h:IsL H ts xs)(e:xs[i]?=some v):∃t,ts[i]?=some t/\Is H t v:=by
 have d:=h.length;have a:i<ts.length:=by have:=(c7.mp e).1;omega
 obtain⟨w,b,c⟩:=h.get (ao a);rw[e]at b;cases b;exact⟨_,ao a,c⟩
theorem IsL.append{H:Hp}:∀{b us:List T}{xs a:List V},IsL H b xs->IsL H us a->IsL H (b++us) (xs++a)|[],us,xs,a,h,k=>by cases h;exact k| t::b,us,xs,a,h,k=>by obtain⟨v,c,rfl,e,d⟩:=h;exact⟨v,c++a,J,e,IsL.append d k⟩
theorem IsL.drop{H:Hp}:∀{a:List T}{xs:List V}(n:Nat),IsL H a xs->IsL H (a.drop n) (xs.drop n)|a,xs,0,h=>h|[],xs,n+1,h=>by cases h;exact rfl| t::a,xs,n+1,h=>by obtain⟨v,c,rfl,d,b⟩:=h;exact IsL.drop n b
theorem IsL.take{H:Hp}:∀{a:List T}{xs:List V}(n:Nat),IsL H a xs->IsL H (a.take n) (xs.take n)|a,xs,0,h=>rfl|[],xs,n+1,h=>by cases h;exact rfl| t::a,xs,n+1,h=>by obtain⟨v,b,rfl,d,c⟩:=h;exact⟨v,b.take n,J,d,IsL.take n c⟩
theorem IsL.one{t:T}(h:Is H t v):IsL H [t] [v]:=⟨v,[],J,h,J⟩
theorem IsL.two{t u:T}{w:V}(h:Is H t v)(k:Is H u w):IsL H [t,u] [v,w]:=⟨v,[w],J,h,w,[],J,k,J⟩
theorem IsL.three{t u r:T}{w y:V}(h:Is H t v)(k:Is H u w)(m:Is H r y):IsL H [t,u,r] [v,w,y]:=⟨v,[w,y],J,h,w,[y],J,k,y,[],J,m,J⟩
theorem Is.newTup(a:H p=none)(h:IsL H ts xs):Is (upd H p (.tup xs)) (.tup ts) (.ref p):=⟨p,xs,J,ze,IsL.mono (Same.new a _) h⟩
noncomputable def mj:T->String|.non=>"NoneType"|.bl _=>"bool"|.int _=>"int"|.str _=>"str"|.tup _=>"tuple"|.lst _=>"list"|.dct=>"dict"
theorem Is.ty{K:W.Frag}{t:T}(h:Is H t v):bW K H v (.type (mj t)):=by cases t with|non=>cases(h);exact .non|bl b=>cases(h);exact .bl b|int i=>cases(h);exact .int i|str x=>cases(h);exact .str x|tup e=>obtain⟨a,d,rfl,c,_⟩:=h;exact .tup c|lst e=>obtain⟨a,d,rfl,c,_⟩:=h;exact .lst c|dct=>obtain⟨a,rfl,c⟩:=h;exact .dK c
noncomputable def rw:T->Bool|.int _=>true|.bl _=>true|_=>false
noncomputable def wL:T->Bool|.bl _=>true|_=>false
noncomputable def zM:T->Bool|.tup _=>true|_=>false
noncomputable def zL:T->Bool|.str _=>true|_=>false
theorem BB(K:W.Frag)(t:T):W.kitOne K (.type (mj t)) (.type "int")=some (rw t):=by cases t<;>kernel_rfl
theorem Ds(K:W.Frag)(t:T):W.kitOne K (.type (mj t)) (.type "bool")=some (wL t):=by cases t<;>kernel_rfl
theorem Kn(K:W.Frag)(t:T):W.kitOne K (.type (mj t)) (.type "tuple")=some (zM t):=by cases t<;>kernel_rfl
theorem tw(K:W.Frag)(t:T):W.kitOne K (.type (mj t)) (.type "str")=some (zL t):=by cases t<;>kernel_rfl
section
variable{s:Shared}{d:Addr}{u u':HO}
theorem Inv.retag(I:Inv X pins σ H s)(e:H d=some u)(h:∀xs,u≠ .tup xs)(l:∀x,u≠ .own x)(k:∀ps,u≠ .tbl ps)(B:∀o v,X.H₀ d≠some (.frz o v))(ok:wk X.prog X.w (upd H d u') s.heap d u'):Inv X pins σ (upd H d u') s:=by
 have a:∀{b},H b=none->b≠d:=λz q=>by simp_all
 refine⟨I.ok,I.os,I.bare,⟨I.base.keep,I.base.slot,λb f q n m=>?_,I.base.there,λb xs q=>?_,λb f v q=>?_,λb ps q=>?_⟩,I.loc,I.cell,?_,λx c q=>?_,λp r=>?_,λb f q=>?_,I.len⟩;have z:=I.base.free b f q n m;rw[zi (a z)];exact z;have z:=I.base.tups b xs q;rw[zi (Zl z e (λw=>h xs w.symm))];exact z;have z:=I.base.frzs b f v q;have j:b≠d:=λw=>by simp_all
 rw[zi j];exact z;obtain⟨g,z⟩:=I.base.tbls b ps q;exact⟨g,by rw[zi (Zl z e (λw=>k _ w.symm))];exact z⟩;rw[zi (a I.free)];exact I.free;rw[zi (a (I.freeC x c q))];exact I.freeC x c q;obtain⟨A,y,t⟩:=I.pin p r;exact⟨A,by rw[zi (a y)];omega,t⟩;by_cases i:b=d;subst i;rw[ze]at q;simp_all;rw[zi i]at q;exact(I.hok b f q).stay (λ_ _ _ z=>z) (λc z=>by rw[zi (Zl z e (λw=>l _ w.symm))];exact z) λc xs z=>by rw[zi (Zl z e (λw=>h _ w.symm))];exact z
theorem Inv.thaw(I:Inv X pins σ H s)(e:H d=some (.frz o u))(a:∀o v,X.H₀ d≠some (.frz o v)):Inv X pins σ (upd H d u) s:=by refine I.retag e (λ_ z=>by cases z) (λ_ z=>by cases z) (λ_ z=>by cases z) a ?_;obtain⟨_,ok⟩:=I.hok d _ e;refine ok.stay (λ_ _ _ z=>z) (λc z=>?_) λc b z=>?_;rw[zi (Zl z e (λw=>by cases w))];exact z;rw[zi (Zl z e (λw=>by cases w))];exact z
end
noncomputable def Al(d:Addr)(o:Obj)(u:HO)(D:Ends):Ends where
 nx:=λσ H=>H d=some (.frz o u)/\D.nx σ (upd H d u)
 rt:=λv H=>H d=some (.frz o u)/\D.rt v (upd H d u)
 bk:=λσ H=>H d=some (.frz o u)/\D.bk σ (upd H d u)
 ct:=λσ H=>H d=some (.frz o u)/\D.ct σ (upd H d u)
section
end
section
end
section
variable{d:Addr}{Q:VK}
end
theorem ug:∀{xs:List V}{us:List Value},xs.length=us.length->(∀(j:Nat) x u,xs[j]?=some x->us[j]?=some u->yu x u)->yl xs us|[],[],_,_=>.nil|x::xs,u::us,a,h=>.cons (h 0 x u J J) (ug (by simp_all) λj y v c b=>h (j+1) y v (by simp_all) (by simp_all))|[],_::_,a,_=>by grind|_::_,[],a,_=>by grind
section
theorem pB:aY X (compareOp .Is) (λx y H Q=>∃a b,x=.bl a/\y=.bl b/\Q (.bl (a==b)) H):=by intro c s f H x y v u Q I e d h;obtain⟨a,b,rfl,rfl,q⟩:=h;cases e;cases d;exact PyProof.Rows.is_bool ⟨.bl _,H,I,J,q⟩
end
noncomputable def off(S:Addr->Prop)(H:Hp):Hp:=λb=>@ite _ (S b) (Classical.propDecidable _) none (H b)
theorem jm{S:Y->Prop}{b:Y}{o:HO}:off S H b=some o↔¬S b/\H b=some o:=by unfold off;simp
theorem kf{S:Y->Prop}(s:Same H H'):Same (off S H) (off S H'):=λb o e=>by rw[jm]at e⊢;exact⟨e.1,s _ _ e.2⟩
theorem AA{S:Y->Prop}:Same (off S H) H:=λb o e=>(jm.mp e).2
def Sd(S:Addr->Prop)(H:Hp):Prop:=∀b,S b->H b≠none
theorem Sd.same{S:Addr->Prop}(d:Sd S H)(s:Same H H'):Sd S H':=λb a z=>by cases e:H b with|none=>exact d b a e|some o=>rw[s _ _ e]at z;cases z
theorem tJ{S:Y->Prop}{o:HO}(d:Sd S H)(h:H p=none):off S (upd H p o) p=some o:=jm.mpr ⟨λz=>d p z h,ze⟩
theorem Da(H:Hp):off (λ_=>False) H=H:=by funext b;unfold off;simp
theorem Is.off{S:Y->Prop}{H:Hp}{t:T}{v:V}(h:Is (off S H) t v):Is H t v:=h.mono AA
theorem Is.off0{t:T}(h:Is H t v):Is (L2.off (λ_=>False) H) t v:=by rw[Da];exact h
theorem Is.nt{S:Y->Prop}(d:Sd S H)(a:H p=none)(h:IsL (L2.off S H) ts xs):Is (L2.off S (upd H p (.tup xs))) (.tup ts) (.ref p):=⟨p,xs,J,tJ d a,IsL.mono (kf (Same.new a _)) h⟩
theorem Is.nl{S:Y->Prop}(d:Sd S H)(a:H p=none)(h:IsL (L2.off S H) ts xs):Is (L2.off S (upd H p (.lst xs))) (.lst ts) (.ref p):=⟨p,xs,J,tJ d a,IsL.mono (kf (Same.new a _)) h⟩
theorem IsL.rep{H:Hp}{a:List T}{xs:List V}(h:IsL H a xs):∀n:Nat,IsL H (List.replicate n a).flatten (List.replicate n xs).flatten|0=>rfl| n+1=>by rw[List.replicate_succ,List.replicate_succ,List.flatten_cons,List.flatten_cons];exact IsL.append h (IsL.rep h n)
end L2
namespace HT
open PySem PyProof.Rows
open PySem.SeqAt
open PySem.AutoSeq1 (wpAny_loadPart')
open PySem.MeetsSeq PySem.MeetsSeq2 PySem.MeetsSeq3
variable{A:Around}{aC:Array Value}{E Q:Value->Shared->Prop}
section
variable{prog:Program}{w:World}{s:Shared}
theorem mC{t b:Y}{ws:O I}(p:IsTup s.heap t ([]:O I).toArray)(q:IsTup s.heap b ws.toArray)(h:Q (.ref b) s):wpAny (model prog w) A (binaryOp .Add (.ref t) (.ref b)) Q E s:=by
 obtain⟨⟨u,r,k,m⟩,g,j,n,i⟩:=id p;obtain⟨⟨l,f,data2,e⟩,a,d,o,c⟩:=id q;simp only at j i d c;subst j i d c;exact concat_meets ⟨_,g,J⟩ ⟨_,a,J⟩ noFill_tuple_add seq_tuple_add PySem.F.slot_tuple_add PySem.F.entry_tuple_add (PySem.F.args_tuple_add_2 _ _)
  (tuple_addW0 t b [].toArray ws.toArray n o r f m e J) ⟨g,a,h⟩
theorem fC{t d:Y}{j i:I}{lo c:Option Int}(b:IsTup s.heap t aC)(hs:s.heap.IsSliceOf d j i .none)(l:IsPart j lo)(k:IsPart i c)(n:bC aC.size 0 lo=0/\bC aC.size aC.size c=aC.size) (h:Q (.ref t) s):wpAny (model prog w) A (getItem (.ref t) (.ref d)) Q E s:=by
 obtain⟨os,e,f,m⟩:=id hs;have g:s.TypeIs (.ref d) "slice":=⟨os,e,f⟩
 unfold getItem
 try with_reducible refine wpAny_holding ?_
 first|refine aa (ac ?_)|skip
 refine aa (wpAny_sequenceKey b.typeIs (by rfl) ?_);refine aa (wpAny_callSpecial?_slot b.typeIs PyProof.Rows.slot_tuple_getitem (cy PyProof.Rows.slot_tuple_getitem b.typeIs entry_tuple_getitem ?_ (args_tuple_getitem _ _)))
 show wpAny _ _ (Builtin.Tuple.tupleItemsOf (.ref t)>>=_) _ _ s;refine aa (tupleItemsOf_ b ?_);refine aa (wpAny_typeOf g ?_);rw[if_pos (by rfl)];refine aa (Zj hs l k ?_);have a:(((bC aC.size 0 lo):Int)==0 && (1:Int)==1 && (bC aC.size aC.size c-bC aC.size 0 lo)==aC.size)=true:=by simp_all
 show wpAny _ _ (if(((bC aC.size 0 lo):Int)==0 && (1)==1 && (bC aC.size aC.size c-bC aC.size 0 lo)==aC.size)=true then _ else _) _ _ s;rw[if_pos a];refine aa ?_;unfold Builtin.Tuple.tupleIsExact;refine aa (wpAny_typeOf b.typeIs (ac ?_));rw[if_pos (by rfl)];exact aa (wpAny_rule (ac ⟨_,J,ac h⟩))
theorem fK:fillsNumberSlot (.type "tuple") "mul"=pure false:=PySem.fillsNumberSlot_seq PySem.F.slot_tuple_mul.lookup (by rfl) PySem.F.slot_tuple_rmul.lookup (by rfl)
theorem iS:seqRepeat? (.type "tuple")=pure (some (.builtin "tuple.__mul__")):=by rfl
theorem gF(a:Int)(t:Tok)(l:Y)(g:Array I)(n:Nat)(dd:Option Y)(d:Array (Option I)):Meets (Builtin.«int.__rmul__» ⟨[.int a t,.ref l],[]⟩) (λ_ R s=>s.heap.get? l=some {cls:=.type "tuple",dict:=dd,data:=.seq g n,slots:=d}/\R (.ok (.ret Value.notImplemented)) s):=
 .of_wp λb w A R e f=>by
  obtain⟨i,k,m,h,os⟩:=e;obtain⟨j,c⟩:=f
  wp_walk
  simp_all
theorem im(l:Y)(a:Array I)(n:Nat)(dd:Option Y)(f:Array (Option I))(x:Int)(u:Tok)(e:¬a.isEmpty=true)(C:2<=x)(o:x<=1000)(m:a.size<=1000):Meets (Builtin.«tuple.__mul__» ⟨[.ref l,.int x u],[]⟩) (λ_ R s=>s.heap.get? l=some {cls:=.type "tuple",dict:=dd,data:=.seq a n,slots:=f}/\ R (.ok (.ret (Value.ref s.heap.objs.size))) {s with heap:=s.heap.push {cls:=Value.type "tuple",data:=Data.seq (List.foldl (λc b=>c++b) #[] (List.replicate x.toNat a))},toks:=s.toks}):=
 .of_wp λd w A R s h=>by
  obtain⟨j,D,E,y,os⟩:=s;obtain⟨k,h⟩:=h;have v:¬(decide (x< -(2^63)) ||decide (x≥2^63))=true:=by simp;omega
  have t:¬(a.isEmpty ||x==1)=true:=by intro z;rw[Bool.or_eq_true]at z;rcases z with z|z;exact e z;have:=eq_of_beq z;omega
  have r:¬(decide (x<=0) ||a.isEmpty)=true:=by intro z;rw[Bool.or_eq_true]at z;rcases z with z|z;have:=bw z;omega;exact e z
  have B:a.size*x<=1000*1000:=Int.mul_le_mul (by omega) o (by omega) (by decide);have q:¬a.size*x>(2^63-1)/8:=by omega
  have p:¬Builtin.Tuple.tupleTooMany (a.size*x)=true:=by unfold Builtin.Tuple.tupleTooMany;intro z;have z:=bw z;rw[sizeLine_eq]at z;omega
  have i:IsTup j l a:=⟨_,k,J,n,J⟩
  have g:sizeOk (.seq (List.foldl (λc b=>c++b) #[] (List.replicate x.toNat a))):=by show _<=sizeLine;rw[AutoListH.size_joined,sizeLine_eq];have:=Nat.mul_le_mul (show x.toNat<=1000 by omega) m;simp only[Array.size_empty];omega
  wp_walk
  refine wpAny_ite_split (λz=>absurd z v) (λ_=>?_);refine aa (tupleItemsOf_ i ?_);refine wpAny_ite_split (λz=>absurd z t) (λ_=>?_);refine wpAny_ite_split (λz=>absurd z r) (λ_=>?_);refine wpAny_ite_split (λz=>absurd z q) (λ_=>?_);refine wpAny_ite_split (λz=>absurd z p) (λ_=>?_);exact aa (dg (ac ⟨_,J,h⟩) g)
end
end HT
namespace L2
open PySem PySem.Spec PyProof.Rows
variable{C D L N' a f:Addr}{A:Around}{vs:Array Value}{ab iq hdct cO:Bool}{CX:fU}{X:Cx}{env:Env}{e:Expr}{fd:FuncData}{base h h':Heap}{H H₀:Hp}{pins:List (Addr×Obj)}{outer:List Env}{es:List Expr}{aS:List Stmt}{N ps sn ia:List Str}{args bm jW io sub dA:List Value}{k:Nat}{oe:Obj}{dd fE:Option Addr}{pos:Pos}{P:Program}{sc scope:Scope}{s₀:Shared}{sp:Sp}{σ:St}{qual x:Str}{mg:Str->Option Value}{newId cV:String}{Q:Unit->Shared->Prop}{cd:Value}{E Ex Z:Value->Shared->Prop}{w:World}
section
variable{S:Addr->Prop}
inductive eI(S:Addr->Prop)(x y:V)(H:Hp)(Q:VK):Prop|mk:∀ts us,Is (off S H) (.tup ts) x->Is (off S H) (.tup us) y->Sd S H->ts.length+us.length<=sizeLine->(∀v H',Same H H'->Is (off S H') (.tup (ts++us)) v->Q v H')->eI S x y H Q
theorem uS:aY X (binaryOp .Add) (eI S):=by intro c s A H x y v u Q I m l h;obtain⟨N,M,⟨a,g,rfl,z,j⟩,⟨b,k,rfl,w,i⟩,d,R,q⟩:=h;have f:=(jm.mp z).2;have e:=(jm.mp w).2;have L:=j.length;have K:=i.length;by_cases r:g=[];subst r;have G:=gb.mp (by simpa using L.symm);subst G;cases m;cases l;obtain⟨E,B,D,_⟩:=I.tuple (aD.of f);obtain⟨n,P,C,_⟩:=I.tuple (aD.of e);cases B;exact HT.mC D C ⟨.ref b,H,I,J,q _ H (Same.refl H) ⟨b,k,J,w,i⟩⟩;refine CA c s A H (.ref a) (.ref b) v u Q I m l ⟨a,b,g,k,J,J,aD.of f,aD.of e,r,by omega,λo=>?_,λo p t=>q _ _ (Same.new t _) (Is.nt d t (IsL.append j i))⟩;have F:=gb.mp (by rw[<-K,o];rfl);subst F;refine q _ H (Same.refl H) ?_;rw[ez];exact⟨a,g,J,z,j⟩
inductive eJ(S:Addr->Prop)(x y:V)(H:Hp)(Q:VK):Prop|mk:∀ts us,Is (off S H) (.lst ts) x->Is (off S H) (.lst us) y->Sd S H->ts.length+us.length<=sizeLine->(∀v H',Same H H'->Is (off S H') (.lst (ts++us)) v->Q v H')->eJ S x y H Q
theorem Dq:aY X (binaryOp .Add) (eJ S):=by intro c s i H x y v u Q I m l h;obtain⟨t,r,⟨a,k,rfl,o,g⟩,⟨b,j,rfl,n,f⟩,d,w,q⟩:=h;have A:=g.length;have z:=f.length;exact Yk c s i H (.ref a) (.ref b) v u Q I m l ⟨a,b,k,j,J,J,(jm.mp o).2,(jm.mp n).2,by omega,λp e=>q _ _ (Same.new e _) (Is.nl d e (IsL.append g f))⟩
noncomputable def Xq{B:Type}(xs:List B)(lo F:Option Int):List B:=(xs.drop (HT.bC xs.length 0 lo)).take (HT.bC xs.length xs.length F-HT.bC xs.length 0 lo)
theorem Ad{a:O T}{xs:O V}(h:IsL H a xs)(lo b:Option Int):IsL H (Xq a lo b) (iD xs lo b):=by unfold Xq iD;rw[h.length];exact IsL.take _ (IsL.drop _ h)
inductive jG(S:Addr->Prop)(x:V)(lo hi:Option Int)(H:Hp)(Q:VK):Prop|mk:∀ts,Is (off S H) (.tup ts) x->Sd S H->(∀v H',Same H H'->Is (off S H') (.tup (Xq ts lo hi)) v->Q v H')->jG S x lo hi H Q
theorem oJ:mF X (jG S):=by
 intro c s B H x v D C lo g E Q I m u o n h;obtain⟨l,⟨a,b,rfl,z,k⟩,d,q⟩:=h;have f:=(jm.mp z).2;have A:=k.length;by_cases j:HT.bC b.length 0 lo=0/\HT.bC b.length b.length g=b.length;cases m;obtain⟨i,r,t,F⟩:=I.tuple (aD.of f);have y:i.toArray.size=b.length:=by rw[cq];exact r.length.symm
 refine⟨"tuple",_,PyProof.Rows.slot_tuple_getitem.lookup,t.typeIs,?_⟩;refine HT.fC t u o n (by simp_all) ⟨.ref a,H,I,J,q _ H (Same.refl H) ?_⟩;have e:Xq l lo g=l:=by unfold Xq;rw[<-A,j.1,j.2,A,List.drop_zero,Nat.sub_zero,dl]
 rw[e];exact⟨a,b,J,z,k⟩;exact Bi c s B H (.ref a) v D C lo g E Q I m u o n ⟨a,b,J,aD.of f,j,λp w=>q _ _ (Same.new w _) (Is.nt d w (Ad k lo g))⟩
inductive gI(S:Addr->Prop)(x y:V)(H:Hp)(Q:VK):Prop|mk:∀ts k,Is (off S H) (.tup ts) x->y=.int k->Sd S H->ts≠[]->ts.length<=10->2<=k->k<=1000->(∀v H',Same H H'->Is (off S H') (.tup (List.replicate k.toNat ts).flatten) v->Q v H')->gI S x y H Q
theorem uT:aY X (binaryOp .Mult) (gI S):=by
 intro l s W H x y v u Q I G E h;obtain⟨Z,k,⟨a,A,rfl,N,m⟩,rfl,d,M,hz,R,P,q⟩:=h;cases G;obtain⟨t,rfl⟩:=E;have e1:=m.length;have i:=(jm.mp N).2;obtain⟨c,r,L,K⟩:=I.tuple (aD.of i);have e2:=r.length;obtain⟨⟨U,w,z,j⟩,e,p,n,o⟩:=id L;simp only at p o;subst p o;have g:¬c.toArray.isEmpty=true:=by grind
 have f:List.foldl (λC B=>C++B) #[] (List.replicate k.toNat c.toArray)=(List.replicate k.toNat c).flatten.toArray:=by
  have:=Vg c k.toNat []
  simp_all
 refine wpAny_binaryOp_repeat_ref (by rfl) ⟨_,e,J⟩ (λD=>typeIs_int D k t) HT.fK F.fills_int_mul F.slot_int_rmul HT.iS F.slot_int_index.lookup
  (call_meets F.slot_int_rmul (typeIs_int s k t) F.entry_int_rmul (F.args_int_rmul_2 _ _) (HT.gF k t a c.toArray n w j) ⟨e,J,⟨_,e,J⟩,call_meets F.slot_tuple_mul ⟨_,e,J⟩ F.entry_tuple_mul (F.args_tuple_mul_2 _ _) (HT.im a c.toArray n w j k t g R P (by grind)) ⟨e,?_⟩⟩)
 rw[f];refine⟨.ref _,_,I.laid (λb ob q=>ak _ q) (aj _) ?_,J,q _ _ (Same.new I.fresh _) (Is.nt d I.fresh (IsL.rep m _))⟩;refine⟨?_,_,r.rep k.toNat,IsTup.new _ _,fS.push⟩;rw[tD];exact c6 (Nat.mul_le_mul (show k.toNat<=1000 by omega) (show A.length<=10 by omega)) (by decide)
end
inductive Tm where|var (i:Nat)|con (t:T)|add (a b:Tm)|mul (a b:Tm)|tup (ts:List Tm)|lst (ts:List Tm)|upto (a b:Tm)|frm (a b:Tm)|ix (a b:Tm)
noncomputable def oo:Option T->Option T->Option T|some (.int i),some (.int j)=>some (.int (i+j))|some (.tup ts),some (.tup us)=>if ts.length+us.length<=1000 then some (.tup (ts++us))else none|some (.lst ts),some (.lst us)=>if ts.length+us.length<=1000 then some (.lst (ts++us))else none|_,_=>none
noncomputable def ox:Option T->Option T->Option T|some (.tup ts),some (.int k)=>if 1<=ts.length/\ts.length<=10/\2<=k/\k<=1000 then some (.tup (List.replicate k.toNat ts).flatten)else none|_,_=>none
noncomputable def oE:Option T->Option T->Option T|some (.tup ts),some (.int i)=>some (.tup (Xq ts none (some i)))|_,_=>none
noncomputable def oq:Option T->Option T->Option T|some (.tup ts),some (.int i)=>some (.tup (Xq ts (some i) none))|_,_=>none
noncomputable def qI:Option T->Option T->Option T|some (.tup ts),some (.int i)=>if 0<=i then ts[i.toNat]? else none|_,_=>none
noncomputable def oy:Option (List T)->Option T|some ts=>if ts.length<=1000 then some (.tup ts)else none|none=>none
noncomputable def ou:Option (List T)->Option T|some ts=>if ts.length<=1000 then some (.lst ts)else none|none=>none
noncomputable def rF:Option T->Option (List T)->Option (List T)|some t,some ts=>some (t::ts)|_,_=>none
abbrev lI:=List (Nat×T)
mutual
noncomputable def Tm.den(l:lI):Tm->Option T|.var i=>l.lookup i|.con t=>some t|.add a b=>oo (a.den l) (b.den l)|.mul a b=>ox (a.den l) (b.den l)|.upto a b=>oE (a.den l) (b.den l)|.tup ts=>oy (Tm.denL l ts)|.lst ts=>ou (Tm.denL l ts)|.frm a b=>oq (a.den l) (b.den l)|.ix a b=>qI (a.den l) (b.den l)
noncomputable def Tm.denL(l:lI):List Tm->Option (List T)|[]=>some []|t::r=>rF (t.den l) (Tm.denL l r)
end
def K1(S:Addr->Prop)(l:lI)(B:St)(H:Hp):Prop:=Sd S H/\∀p∈l,∃v,B[p.1]?=some (some v)/\Is (off S H) p.2 v
theorem K1.same{S:Y->Prop}{l:lI}{a:St}{H b:Hp}(e:K1 S l a H)(s:Same H b):K1 S l a b:=⟨e.1.same s,λp c=>by obtain⟨v,f,d⟩:=e.2 p c;exact⟨v,f,d.mono (kf s)⟩⟩
inductive lK(S:Addr->Prop)(tm:Tm)(σ:St)(H:Hp)(Q:VK):Prop|mk:∀l t,K1 S l σ H->tm.den l=some t->(∀v H',Same H H'->Is (off S H') t v->Q v H')->lK S tm σ H Q
inductive mm(S:Addr->Prop)(cF:List Tm)(σ:St)(H:Hp)(Q:List V->Hp->Prop):Prop|mk:∀l ts,K1 S l σ H->Tm.denL l cF=some ts->(∀vs H',Same H H'->IsL (off S H') ts vs->Q vs H')->mm S cF σ H Q
noncomputable def mO(B:Scope)(x:Str):Bool:=match B.names.lookup x with|some .local=>true|some .cell=>true|some .free=>true|_=>false
noncomputable def Jv(g:Expr->Option Tm):List Expr->Option (List Tm)|[]=>some []| e::r=>match g e,Jv g r with|some t,some ts=>some (t::ts)|_,_=>none
noncomputable def kA(f:Tm->Tm->Tm):Option Tm->Option Tm->Option Tm|some a,some b=>some (f a b)|_,_=>none
noncomputable def lM(x:Str):Nat->List Str->Option Nat|_,[]=>none|i,y::r=>if y=x then some i else lM x (i+1) r
theorem ur{x:Str}:∀{r pre:List Str}{i j:Nat},i=pre.length->lM x i r=some j->(pre++r)[j]?=some x
 |[],pre,i,j,a,h=>by cases h
 | y::r,pre,i,j,a,h=>by
   unfold lM at h;split at h
   simp_all
   have:=ur (pre:=pre++[y]) (by simp[a]) h
   simp_all
noncomputable def xE:Const->Option Tm|.int i=>some (.con (.int i))|.bool b=>some (.con (.bl b))|.str x=>some (.con (.str x))|.none=>some (.con .non)|_=>none
noncomputable def cI:Expr->Option Int
 | .Constant c _ _=>match c with
   |.int i=>some i
   |_=>none
 |_=>none
noncomputable def re:Option Int->Option Int->Option Tm|some i,some j=>if 0<=j/\j<=1000/\i.natAbs<2^64 then some (.con (.int (i^j.toNat)))else none|_,_=>none
noncomputable def rd(g:Expr->Option Tm)(a:Expr):Option Expr->Option Expr->Option Expr->Option Tm|none,some b,none=>kA Tm.upto (g a) (g b)|some b,none,none=>kA Tm.frm (g a) (g b)|_,_,_=>none
noncomputable def xD(g:Expr->Option Tm)(a:Expr)(o:Operator)(b:Expr):Option Tm:=match o with|.Add=>kA Tm.add (g a) (g b)|.Mult=>kA Tm.mul (g a) (g b)|.Pow=>re (cI a) (cI b)|_=>none
noncomputable def xF(g:Expr->Option Tm)(a i:Expr):Option Tm:=match i with|.Slice lo hi st _=>rd g a lo hi st|_=>kA Tm.ix (g a) (g i)
noncomputable def cZ(F:Str->Bool)(N:List Str)(B:Scope):Nat->Expr->Option Tm
 |0,_=>none
 | f +1,e=>match e with
   |.Constant c _ _=>xE c
   |.Name x _=>if mO B x && !(x==("__debug__":Str)) && !(x==("__classdict__":Str))then(lM x 0 N).map Tm.var else none
   |.Tuple es _ _=>(Jv (cZ F N B f) es).map Tm.tup
   |.List es _=>(Jv (cZ F N B f) es).map Tm.lst
   | .UnaryOp o a _=>match o with
     |.USub=>(cI a).map λi=>.con (.int (-i))
     |_=>none
   |.BinOp a o b _=>xD (cZ F N B f) a o b
   |.Subscript a b _=>xF (cZ F N B f) a b
   |_=>none
theorem ny{i:Int}(h:cI e=some i):∃k p,e=.Constant (.int i) k p:=by
 cases e with
 |Constant c k p=>cases c<;>first|exact⟨k,p,by cases h;rfl⟩|cases h
 |_=>cases h
section
variable{S:Addr->Prop}{aL:Str->Bool}
theorem PE.weak{t t':TE}(h:PE X e t)(w:∀σ H Q,t' σ H Q->t σ H Q):PE X e t':=λa s σ H Q I q=>h a s σ H Q I (w σ H Q q)
theorem PA.weak{t t':TA}(h:PA X es t)(w:∀σ H Q,t' σ H Q->t σ H Q):PA X es t':=λb a s σ H Q I q=>h b a s σ H Q I (w σ H Q q)
theorem Ys{f:Tm->Tm->Tm}{d c:Option Tm}{e:Tm}(h:kA f d c=some e):∃a b,d=some a/\c=some b/\e=f a b:=by cases d with|none=>cases h| some a=>cases c with|none=>cases h|some b=>cases h;simp
theorem A8(h:mO sc x=true):jZ sc x:=by
 unfold mO at h;unfold jZ
 grind
theorem CW{f:Nat}{a:Tm}(h:cZ aL N sc f e=some a):starEach (e::es) env=(false,eval e env)::starEach es env:=by cases f with|zero=>cases h|succ f=>cases e<;>first|rfl|(exact absurd h (by simp[cZ]))
theorem zZ{f:Nat}{a:Tm}(h:cZ aL N sc f e=some a):tQ e:=by cases f with|zero=>cases h|succ f=>cases e<;>first|(intro _ _;rfl)|(exact absurd h (by simp[cZ]))
theorem Q5{i:Nat}{t:T}:∀{l:lI},l.lookup i=some t->(i,t)∈l
 |[],h=>by cases h
 | (j,u)::r,h=>by
   rw[List.lookup_cons]at h;split at h
   simp_all
   exact ce _ (Q5 h)
theorem W1{Q:VK}{t:T}{v:V}(h:lK S (.con t) σ H Q)(a:∀H,Is H t v):Q v H:=by obtain⟨l,c,e,b,q⟩:=h;cases b;exact q v H (Same.refl H) (a _)
theorem pz{a b:Tm}{l:lI}{d c:T}{R:V->V->Hp->Prop}(e:K1 S l σ H)(i:a.den l=some d)(h:b.den l=some c)(q:∀x y H2,Same H H2->Is (off S H2) d x->Is (off S H2) c y->R x y H2):lK S a σ H λx H1=>lK S b σ H1 λy H2=>R x y H2:=
 ⟨l,d,e,i,λx H1 g k=>⟨l,c,e.same g,h,λy H2 f j=>q x y H2 (g.trans f) (k.mono (kf f)) j⟩⟩
def yV(S:Addr->Prop):R2:=λx y H Q=>ii (λi j=>.int (i+j)) x y H Q\/eI S x y H Q\/eJ S x y H Q
theorem Cz:aY X (binaryOp .Add) (yV S):=yv.or (uS.or Dq)
theorem yb{n:Nat}(h:n<=1000):n<=sizeLine:=c6 h (by decide)
inductive jK(S:Addr->Prop)(x y:V)(H:Hp)(Q:VK):Prop|mk:∀ts i t,Is (off S H) (.tup ts) x->y=.int i->0<=i->ts[i.toNat]?=some t->(∀v,Is (off S H) t v->Q v H)->jK S x y H Q
theorem zO:mJ X (jK S):=by
 intro r b c s f H x y v u Q I k j h n;obtain⟨z,i,t,⟨a,g,rfl,p,o⟩,rfl,A,m,q⟩:=h;obtain⟨w,l,d⟩:=o.get m;have e:i=(i.toNat:Int):=by omega
 exact zq r b c s f H (.ref a) (.int i) v u Q I k j ⟨a,g,i,w,J,J,aD.of (jm.mp p).2,by rw[e];exact yq l,q w d⟩ n
theorem lv (hL:∀x,aL x=true->X.mg x=none/\Gl X x/\X.calm=true):∀(f:Nat) (e:Expr) (E:Tm),cZ aL X.N X.env.scope f e=some E->PE X e (lK S E):=by
 intro f;induction f with
 |zero=>intro e E h;cases h
 | succ f K =>
   have af : ∀(C:List Expr) (cF:List Tm),Jv (cZ aL X.N X.env.scope f) C=some cF->PA X C (mm S cF):=by
    intro C;induction C with
    | nil=>intro cF h;cases h;exact zb.weak λw H Q ⟨l,M,e,d,q⟩=>by cases d;exact q [] H (Same.refl H) J
    | cons e C ag=>
      intro cF h;unfold Jv at h;cases r:cZ aL X.N X.env.scope f e with
      |none=>simp_all
      | some t1=>
        cases B:Jv (cZ aL X.N X.env.scope f) C with
        |none=>simp_all
        | some t2=>
          rw[r,B]at h;cases h;refine(za (K e t1 r) (ag t2 B) (CW r)).weak λw H Q ⟨l,M,e,d,q⟩=>?_;have d:rF (t1.den l) (Tm.denL l t2)=some M:=d;cases g:t1.den l with
          |none=>rw[g]at d;cases d
          | some u1=>
            cases m:Tm.denL l t2 with
            |none=>rw[g,m]at d;cases d
            | some u2=>rw[g,m]at d;cases d;exact⟨l,u1,e,g,λx H1 u i1=>⟨l,u2,e.same u,m,λxs Z n i2=>q _ Z (u.trans n) ⟨x,xs,J,i1.mono (kf n),i2⟩⟩⟩
   intro e E h;cases e with
   | Constant c k p=>
     cases c with
     |int i=>cases h;exact zc.weak λw H Q q=>W1 q λ_=>rfl
     |bool b=>cases h;exact xg.weak λw H Q q=>W1 q λ_=>rfl
     |str x=>cases h;exact zu.weak λw H Q q=>W1 q λ_=>rfl
     |none=>cases h;exact qd.weak λw H Q q=>W1 q λ_=>rfl
     |_=>cases h
   | Name x ah=>
     replace h:(if mO X.env.scope x && !(x==("__debug__":Str)) && !(x==("__classdict__":Str))then(lM x 0 X.N).map Tm.var else none)=some E:=h;split at h
     rename_i hv
     simp only[bj,Bool.not_eq_true']at hv;cases W:lM x 0 X.N with
     |none=>simp_all
     | some i=>
       rw[W]at h;cases h;have hN:X.N[i]?=some x:=by simpa using ur (pre:=[]) J W
       refine(nz hN (A8 hv.1.1) hv.1.2 hv.2).weak λw H Q ⟨l,t,e,d,q⟩=>?_;obtain⟨v,r,B⟩:=e.2 _ (Q5 d);exact mW r (q v H (Same.refl H) B)
     grind
   | Tuple C _ _=>
     replace h:(Jv (cZ aL X.N X.env.scope f) C).map Tm.tup=some E:=h;cases r:Jv (cZ aL X.N X.env.scope f) C with
     |none=>simp_all
     | some M=>
       rw[r]at h;cases h;refine(qo (af C M r)).weak λw H Q ⟨l,t,e,d,q⟩=>?_;have d:oy (Tm.denL l M)=some t:=d;cases g:Tm.denL l M with
       |none=>rw[g]at d;cases d
       | some A=>
         rw[g]at d;unfold oy at d;split at d
         rename_i s
         cases s;split at d
         rename_i L
         cases d;exact⟨l,A,e,g,λxs H1 u i1=>⟨by rw[i1.length];exact yb L,λp W=>q _ _ (u.trans (Same.new W _)) (Is.nt (e.1.same u) W i1)⟩⟩
         simp_all
         simp_all
   | List C _=>
     replace h:(Jv (cZ aL X.N X.env.scope f) C).map Tm.lst=some E:=h;cases r:Jv (cZ aL X.N X.env.scope f) C with
     |none=>simp_all
     | some M=>
       rw[r]at h;cases h;refine(vz (af C M r)).weak λw H Q ⟨l,t,e,d,q⟩=>?_;have d:ou (Tm.denL l M)=some t:=d;cases g:Tm.denL l M with
       |none=>rw[g]at d;cases d
       | some A=>
         rw[g]at d;unfold ou at d;split at d
         rename_i s
         cases s;split at d
         rename_i L
         cases d;exact⟨l,A,e,g,λxs H1 u i1=>⟨by rw[i1.length];exact yb L,λp W=>q _ _ (u.trans (Same.new W _)) (Is.nl (e.1.same u) W i1)⟩⟩
         simp_all
         simp_all
   | UnaryOp o a p=>
     cases o with
     | USub=>
       replace h:(cI a).map (λi=>Tm.con (.int (-i)))=some E:=h;cases hc:cI a with
       |none=>rw[hc]at h;cases h
       | some i=>obtain⟨k,p',rfl⟩:=ny hc;rw[hc]at h;cases h;exact(Kg Wz zc).weak λw H Q q=>⟨_,J,W1 q λ_=>rfl⟩
     |_=>cases h
   | BinOp x o y p=>
     cases o with
     | Add =>
       obtain⟨a,b,r,B,rfl⟩:=Ys h;refine(zx (Cz (S:=S)) (K _ a r) (K _ b B)).weak λw H Q ⟨l,t,e,d,q⟩=>?_;have d:oo (a.den l) (b.den l)=some t:=d;cases g:a.den l with
       |none=>rw[g]at d;cases d
       | some N=>
         cases m:b.den l with
         |none=>rw[g,m]at d;cases N<;>cases d
         | some tb=>
           rw[g,m]at d;refine pz e g m λx y Z n G F=>?_;unfold oo at d;split at d
           rename_i i j s D
           cases s;cases D;cases d;exact .inl ⟨i,j,G,F,q _ Z n J⟩
           rename_i A ws s D
           cases s;cases D;split at d
           rename_i L
           cases d;exact .inr (.inl ⟨A,ws,G,F,e.1.same n,yb L,λv U P R=>q v U (n.trans P) R⟩)
           simp_all
           rename_i A ws s D
           cases s;cases D;split at d
           rename_i L
           cases d;exact .inr (.inr ⟨A,ws,G,F,e.1.same n,yb L,λv U P R=>q v U (n.trans P) R⟩)
           simp_all
           simp_all
     | Mult=>
       obtain⟨a,b,r,B,rfl⟩:=Ys h;refine(zx (uT (S:=S)) (K _ a r) (K _ b B)).weak λw H Q ⟨l,t,e,d,q⟩=>?_;have d:ox (a.den l) (b.den l)=some t:=d;cases g:a.den l with
       |none=>rw[g]at d;cases d
       | some N=>
         cases m:b.den l with
         |none=>rw[g,m]at d;cases N<;>cases d
         | some tb=>
           rw[g,m]at d;refine pz e g m λx y Z n G F=>?_;unfold ox at d;split at d
           rename_i A k s D
           cases s;cases D;split at d
           rename_i L
           cases d;exact⟨A,k,G,F,e.1.same n,(λz=>by simp_all),L.2.1,L.2.2.1,L.2.2.2,λv U P R=>q v U (n.trans P) R⟩
           simp_all
           simp_all
     | Pow =>
       replace h:re (cI x) (cI y)=some E:=h;cases hx:cI x with
       |none=>rw[hx]at h;cases h
       | some i=>
         cases hy:cI y with
         |none=>rw[hx,hy]at h;cases h
         | some j=>
           obtain⟨k,p1,rfl⟩:=ny hx;obtain⟨k2,p2,rfl⟩:=ny hy;rw[hx,hy]at h;replace h:(if 0<=j/\j<=1000/\i.natAbs<2^64 then some (Tm.con (.int (i^j.toNat)))else none)=some E:=h;split at h
           rename_i hc
           cases h;exact(zx pD zc zc).weak λw H Q q=>⟨_,_,J,J,⟨hc.1,by omega,hc.2.2⟩,W1 q λ_=>rfl⟩
           cases h
     |_=>cases h
   | Subscript x i p=>
     by_cases hs:∃lo hi st q,i=.Slice lo hi st q;obtain⟨lo,hi,st,q0,rfl⟩:=hs;replace h:rd (cZ aL X.N X.env.scope f) x lo hi st=some E:=h;cases lo with
     | none=>
       cases hi with
       |none=>cases h
       | some y=>
         cases st with
         |some _=>cases h
         | none=>
           obtain⟨a,b,r,B,rfl⟩:=Ys h;refine(xi (oJ (S:=S)) (K _ a r) wm (wc (K _ b B))).weak λw H Q ⟨l,t,e,d,q⟩=>?_;have d:oE (a.den l) (b.den l)=some t:=d;cases g:a.den l with
           |none=>rw[g]at d;cases d
           | some N=>
             cases m:b.den l with
             |none=>rw[g,m]at d;cases N<;>cases d
             | some tb=>
               rw[g,m]at d;unfold oE at d;split at d
               rename_i A k s D
               cases s;cases D;cases d;refine⟨l,_,e,g,λx H1 u G=>?_⟩;refine⟨l,_,e.same u,m,λy Z n F=>⟨k,F,A,G.mono (kf n),(e.1.same u).same n,λv U P R=>q v U (u.trans (n.trans P)) R⟩⟩
               simp_all
     | some y=>
       cases hi with
       |some _=>cases h
       | none=>
         cases st with
         |some _=>cases h
         | none=>
           obtain⟨a,b,r,B,rfl⟩:=Ys h;refine(xi (oJ (S:=S)) (K _ a r) (wc (K _ b B)) wm).weak λw H Q ⟨l,t,e,d,q⟩=>?_;have d:oq (a.den l) (b.den l)=some t:=d;cases g:a.den l with
           |none=>rw[g]at d;cases d
           | some N=>
             cases m:b.den l with
             |none=>rw[g,m]at d;cases N<;>cases d
             | some tb=>
               rw[g,m]at d;unfold oq at d;split at d
               rename_i A k s D
               cases s;cases D;cases d;refine⟨l,_,e,g,λx H1 u G=>?_⟩;refine⟨l,_,e.same u,m,λy Z n F=>⟨k,F,A,G.mono (kf n),(e.1.same u).same n,λv U P R=>q v U (u.trans (n.trans P)) R⟩⟩
               simp_all
     replace h:kA Tm.ix (cZ aL X.N X.env.scope f x) (cZ aL X.N X.env.scope f i)=some E:=by cases i<;>first|exact h|exact absurd ⟨_,_,_,_,J⟩ hs
     obtain⟨a,b,r,B,rfl⟩:=Ys h;refine(zl (zO (S:=S)) (K _ a r) (K _ b B) (zZ B)).weak λw H Q ⟨l,t,e,d,q⟩=>?_;have d:qI (a.den l) (b.den l)=some t:=d;cases g:a.den l with
     |none=>rw[g]at d;cases d
     | some N=>
       cases m:b.den l with
       |none=>rw[g,m]at d;cases N<;>cases d
       | some tb=>
         rw[g,m]at d;refine pz e g m λx y Z n G F=>?_;unfold qI at d;split at d
         rename_i A k s D
         cases s;cases D;split at d
         rename_i h0
         exact⟨A,k,t,G,F,h0,d,λv iv=>q v Z n iv⟩
         simp_all
         simp_all
   |_=>cases h
noncomputable def qG:Str->Bool:=λ_=>false
inductive mn(tm:Tm)(σ:St)(H:Hp)(Q:VK):Prop|mk:∀S,lK S tm σ H Q->mn tm σ H Q
theorem rN(b:Tm)(d:cZ qG X.N X.env.scope 12 e=some b:=by kernel_rfl):PE X e (mn b):=λa s c H Q I ⟨S,h⟩=>lv (λ_ z=>by cases z) 12 e b d a s c H Q I h
end
theorem wk.at{o:HO}(x:wk P w H h a o):∃b,h.get? a=some b:=by cases o with|lst d=>obtain⟨_,_,_,_,e⟩:=x;exact⟨_,e⟩|tup d=>obtain⟨_,_,_,⟨b,e,_⟩,_⟩:=x;exact⟨_,e⟩|dK c=>obtain⟨_,_,_,_,o,_,_,e,_⟩:=x;exact⟨_,e⟩|dT c=>obtain⟨_,_,_,_,o,_,_,e,_⟩:=x;exact⟨_,e⟩|set S n=>obtain⟨o,_,_,_,e,_⟩:=x;exact⟨_,e⟩|ins C l g=>obtain⟨_,_,_,e,_⟩:=x;exact⟨_,e⟩|own y=>exact x|xd g=>obtain⟨_,⟨_,_,_,e,_⟩,_⟩:=x;exact⟨_,e⟩|rng lo k=>obtain⟨_,_,_,e⟩:=x;exact⟨_,e⟩|frz b u=>obtain⟨e,_⟩:=x;exact⟨_,e⟩|tbl j=>exact⟨_,(x)⟩|met f y=>exact⟨_,(x)⟩|ext i=>obtain⟨_,⟨o,e⟩,_⟩:=x;exact⟨_,e⟩
inductive dM(h:Heap)(a:Addr)(C:Value)(T:Addr):Prop|mk:∀oe vs oT ts a0,h.get? a=some oe->(oe.cls=C/\vs[0]?=some a0)->oe.data=.fields vs->vs[1]?=some (.ref T)->T≠a->h.get? T=some oT->oT.data=.fields ts->ts[3]?=some .none->dM h a C T
theorem Zb{h base a:Heap}:∀{l:List Env},h.FunFrames base l->(∀b∈aV l,a.get? b=none)->h.FunFrames a l
 |[],_,_=>trivial
 | m::r,d,k=>by
   obtain⟨j,⟨L,o,c,n,i,g⟩,f⟩:=d;refine⟨j,⟨L,o,c,k L ?_,i,g⟩,Zb f λb e=>k b ?_⟩;unfold aV
   simp_all
   unfold aV;rw[List.filterMap_cons,c];exact ce _ e
section
variable{M:Model}{s:Shared}{e T0:Addr}{cls a0:Value}
theorem FN(i:A.frames=some (env::outer))(g:s.heap.FunFrames base (env::outer))(v:env.frame=some L)(he:s.heap.get? e=some oe)(w:oe.data=.fields vs)(y:vs[1]?=some .none)(B:vs[0]?=some a0)(h:∀h' T,dM h' e oe.cls T->s.heap.get? T=none->(∀b o,s.heap.get? b=some o->b≠e->b ∉ aV (env::outer)->h'.get? b=some o)-> (∀b∈aV (env::outer),∀o,s.heap.get? b=some o->∃sl,h'.get? b=some {o with slots:=sl})->Q () {s with heap:=h'}):wpAny M A (leaving env (.ref e)) Q E s:=by
 refine wpAny_leaving_firstW i (Zb g λb j=>W.hideAll_none _ (ce _ j)) v he (λb o q=>W.of_hideAll _ q) (W.hideAll_none _ c8) w y B λh' x=>?_;obtain⟨m,R,l,k⟩:=x;obtain⟨c,a,T,p,n,P,N,K,H,S,G,F,D,C⟩:=l;refine h h' T ⟨c,a,p,n,_,P,N,K,H,G,F,D,C⟩ ?_ (λb o q u t=>m b o (W.hideAll_get _ q λz=>(ai.mp z).elim u t)) (λb j o q=>k b o q ?_);cases q:s.heap.get? T with|none=>rfl| some o=>
   exfalso;by_cases hT:T∈e::aV (env::outer);rcases ai.mp hT with z|z
   grind
   obtain⟨_,r,d,f⟩:=g.mem z
   grind
   have:=W.hideAll_get _ q hT
   simp_all
 obtain⟨_,r,d,f⟩:=g.mem j
 simp_all
theorem E8(k:A.frames=some (env::outer))(j:s.heap.FunFrames base (env::outer))(D:env.frame=some L)(C:dM s.heap e cls T0)(h:∀h' T,dM h' e cls T->(s.heap.get? T=none\/T=T0)->(∀b o,s.heap.get? b=some o->b≠e->b≠T0->b ∉ aV (env::outer)->h'.get? b=some o)-> (∀b∈aV (env::outer),∀o,s.heap.get? b=some o->∃sl,h'.get? b=some {o with slots:=sl})->Q () {s with heap:=h'}):wpAny M A (leaving env (.ref e)) Q E s:=by
 obtain⟨u,r,f,c,a0,U,S,R,P,N,K,H,G⟩:=C;refine wpAny_leaving_nextW k (Zb j λb l=>W.hideAll_none _ (ce _ (ce _ l))) D
  ⟨u,r,T0,f,c,U,S,R,P,W.hideAll_none _ (ce _ c8),N,K,H,G⟩ (λb o q=>W.of_hideAll _ q) (W.hideAll_none _ c8) λh' F=>?_
 obtain⟨p,x2,n,m⟩:=F;obtain⟨d,a,T,v,t,a1,a2,a3,a4,a5,a6,a7,Z,X⟩:=n;refine h h' T ⟨d,a,v,t,_,a1,a2,a3,a4,a6,a7,Z,X⟩ ?_ (λb o q B y x=>p b o (W.hideAll_get _ q λz=>(ai.mp z).elim B λz=>(ai.mp z).elim y x)) (λb l o q=>m b o q ?_);cases q:s.heap.get? T with|none=>simp| some o=>
   by_cases hT:T∈e::T0::aV (env::outer);rcases ai.mp hT with z|z
   simp_all
   rcases ai.mp z with z|z
   simp_all
   exfalso;obtain⟨_,w,g,i⟩:=j.mem z
   grind
   have:=W.hideAll_get _ q hT
   simp_all
 obtain⟨_,w,g,i⟩:=j.mem l
 simp_all
end
inductive dN(P:Program)(w:World)(outer:List Env)(H:Hp)(s:Shared)(E:XK)(e:Value)(s':Shared):Prop|mk:∀a C T H',e=.ref a->dM s'.heap a (.ref C) T->s.heap.get? a=none->s.heap.get? T=none->H' a=none->H' T=none->s'.os=s.os->AllBare s'.gens->Un (aV outer) [] H H' s.heap s'.heap->aZ P w H' s'.heap->E (.ref C) none H'->dN P w outer H s E e s'
section
variable{K:W.Frag}{s:Shared}{E:XK}
theorem CK{T:Y}{Z:Y->Prop}(I:Inv (Yp CX P w K mg base N qual scope f cd A outer s₀ H₀ E) pins σ H s)(y:dM h' a (.ref C) T)(m:H a=none)(p:H T=none)(k:s₀.heap.get? a=none) (l:s₀.heap.get? T=none) (r:∀b,Z b->H b=none/\s₀.heap.get? b=none)
  (k1:∀b o,s.heap.get? b=some o->¬Z b->b ∉ aV (envOfC qual scope s₀.heap.objs.size f cd::outer)->h'.get? b=some o)
  (k2:∀b∈aV (envOfC qual scope s₀.heap.objs.size f cd::outer),∀o,s.heap.get? b=some o->∃sl,h'.get? b=some {o with slots:=sl}) (q:E (.ref C) none H):
  dN P w outer H₀ s₀ E (.ref a) {s with heap:=h'}:=by
 have h:∀{b:Y},b∈aV (envOfC qual scope s₀.heap.objs.size f cd::outer)->b=s₀.heap.objs.size\/b∈aV outer:=λ{b} d=>by
  have e:aV (envOfC qual scope s₀.heap.objs.size f cd::outer)=s₀.heap.objs.size::aV outer:=rfl
  simp_all
 have j:∀{b:Y},b∈aV outer->b∈aV (envOfC qual scope s₀.heap.objs.size f cd::outer):=λ{b} d=>ce _ d;have u:=I.base;have D:∀{b:Y}{o:Obj},s₀.heap.get? b=some o->¬Z b/\(b ∉ aV outer->b ∉ aV (envOfC qual scope s₀.heap.objs.size f cd::outer)):=λ{b o} e=>⟨(λz=>by simp_all),λn z=>(h z).elim (λz=>absurd (aq e) (by simp_all)) n⟩
 refine⟨a,C,T,H,J,y,k,l,m,p,I.os,I.bare,⟨λb o e n d g=>?_,λb o e n d g=>?_,u.free,λb o e g=>?_,u.tups,u.frzs,u.tbls⟩,λb o e=>?_,q⟩;obtain⟨x,t⟩:=D e;exact k1 b o (u.keep b o e n d g) x (t d);obtain⟨sl,B⟩:=u.slot b o e n d g
 grind
 obtain⟨G,B⟩:=u.there b o e g
 grind
 refine(I.hok b o e).stay (λc v L z=>?_) (λc z=>z) λc F z=>z;have i:H c≠none:=by grind
 refine k1 c v z (λz=>i (r c z).1) λz=>i (I.stkFree c z)
theorem tV{T c:Y}(I:Inv (Yp CX P w K mg base N qual scope f cd A outer s₀ H₀ E) pins σ H s)(l:dM h' a (.ref C) T)(i:H a=none)(k:H T=none)(j:H c=none)(d:s₀.heap.get? a=none) (h:s₀.heap.get? T=none) (g:s₀.heap.get? c=none)
  (k1:∀b o,s.heap.get? b=some o->b≠a->b≠c->b ∉ aV (envOfC qual scope s₀.heap.objs.size f cd::outer)->h'.get? b=some o)
  (k2:∀b∈aV (envOfC qual scope s₀.heap.objs.size f cd::outer),∀o,s.heap.get? b=some o->∃sl,h'.get? b=some {o with slots:=sl}) (q:E (.ref C) none H):
  dN P w outer H₀ s₀ E (.ref a) {s with heap:=h'}:=
 CK (Z:=λb=>b=a\/b=c) I l i k d h (λb m=>by grind) (λb o e n=>k1 b o e (λz=>n (.inl z)) λz=>n (.inr z)) k2 q
theorem Cs{i:Heap}(I:Inv (Yp (dN P w) P w K mg base N qual scope f cd A outer s₀ H₀ E) pins σ H s)(m:Heap.MadeExcOf s.heap i a (.ref C) args)(q:E (.ref C) none H):(Yp (dN P w) P w K mg base N qual scope f cd A outer s₀ H₀ E).xe (.ref a) {s with heap:=i}:=by
 have g:=I.kept (t':=s.toks) m.keeps;obtain⟨t,u,x,D⟩:=m.there;have d:∀{b:Y},s.heap.get? b=none->s₀.heap.get? b=none:=λ{b} e=>by
  cases z:s₀.heap.get? b with|none=>rfl| some o=>
    obtain⟨v,F⟩:=(show Un (aV outer) [] H₀ H s₀.heap s.heap from I.base).there b o z (by simp)
    simp_all
 have c:∀{b:Y},s.heap.get? b=none->H b=none:=λ{b} e=>by
  cases z:H b with|none=>rfl| some o=>
    exfalso;have p:=I.hok b o z;have y:=wk.at p
    simp_all
 refine FN g.ok.frames g.stack J u J J J λB T r hT n l=>?_;have h:s.heap.get? T=none:=by cases z:s.heap.get? T with|none=>rfl| some o=>rw[m.keeps T o z]at hT;omega
 exact tV g r (c m.new) (c h) (c m.new) (d m.new) (d h) (d m.new) (λb o e k _ j=>n b o e k j) l q
end
section
variable{K:W.Frag}{E:XK}
theorem Yo:Yv (dN P w) (Yp (dN P w) P w K mg base N qual scope f cd A outer s₀ H₀ E) E:=by
 intro B X H s e L I S;obtain⟨a,C,T,x,rfl,W,M,F,r,j,os,l,G,p,q⟩:=S;obtain⟨U,g,d,t,n⟩:=L;obtain rfl:n=s.os:=os;have m:=I.call (d':=d) (t':=t) G p l (λb z=>absurd z (by simp));have c:∀{b:Y},s.heap.get? b=none->s₀.heap.get? b=none:=λ{b} e=>by cases z:s₀.heap.get? b with|none=>rfl| some o=>obtain⟨D,h⟩:=(show Un (aV outer) [] H₀ H s₀.heap s.heap from I.base).there b o z (by simp);rw[e]at h;cases h
 refine E8 m.ok.frames m.stack J W λZ i v u R Q=>?_;have k:x i=none/\s₀.heap.get? i=none:=by
  rcases u with z|z;refine⟨?_,?_⟩;cases y:x i with|none=>rfl| some o=>
    exfalso;obtain⟨D,h⟩:=wk.at (m.hok i o y)
    rw[z]at h;cases h
  cases y:s₀.heap.get? i with|none=>rfl| some o=>exfalso;obtain⟨D,h⟩:=(show Un (aV outer) [] H₀ x s₀.heap U from m.base).there i o y (by simp);rw[z]at h;cases h
  rw[z];exact⟨j,c F⟩
 exact tV m v r k.1 j (c M) k.2 (c F) R Q q
end
structure bO(K:W.Frag)(mg:Str->Option Value)(base:Heap)(x:Str)(C:Addr):Prop where
 cls:OwnCls x C [.type "ValueError",.type "Exception",.type "BaseException",.type "object"] "ValueError.__new__" mg base
 keep:W.keepIn K (.ref C)=true
def AZ(E:XK)(C:Addr):TS:=λ_ _ H=>E (.ref C) none H
theorem Qr{K:W.Frag}{E:XK}{u l p:Pos} {j:Str} (O:bO K mg base x C) (Q:Gl (Yp (dN P w) P w K mg base N qual scope f cd A outer s₀ H₀ E) x) (R:(x==("__debug__":Str))=false:=by decide):
  PS (Yp (dN P w) P w K mg base N qual scope f cd A outer s₀ H₀ E) (.Raise (some (.Call (.Name x u) [.Constant (.str j) k p] [] l)) none pos) (AZ E C):=by
 intro a s o H D I h;obtain⟨tl,Nn,v,q,Z,b,t,sub,ab,g,X,G,F,B,z,y,mN,U,S,d,T⟩:=O.cls.obj;refine wpAny_Raise_call_subU (C:=C) (nm:=v) (q:=q) (N:=Nn) (bs:=Z) (hdct:=b) (sn:=t) (sub:=sub) (ab:=ab) (col:=g) (dd:=X) (k0:=G) (k1:=F) (k2:=B) (k3:=z) (k5:=y)
  PySem.F.excBase_ValueError (by decide+kernel) PySem.F.excBase_ValueError (T.hasType PySem.F.excBase_ValueError.hasBase) (I.ok.hd J) J d ?_
 refine Y8 I Q O.cls.bound ⟨J,?_⟩ R;refine Calls.evalArgs_plain (aF ((za zu zb) l a s o H (λi n=>i=[.str j]/\n=H) I ⟨J,J⟩) λus s1 L=>?_);obtain⟨i,n,c,r,rfl,rfl⟩:=L;have M:=r.length;exact⟨J,by rw[<-M];show 1<=sizeLine;decide,c.bk _ _ U,S.keeps c.bk,T.keeps c.bk,λh' e m=>Cs c m h⟩
section
variable{M:Model}{g:Array GenState}{d:Drawn}{t:Nat}{os:OsState}{e:Addr}{Q:Bool->Shared->Prop}
theorem Jg{nm q:Str}{N:Y}{bs:O I}{col:Option Bool}{k0 k1 k2 k3 k5:Option I}{nm' q':Str} {col':Option Bool} {j0 j1 j2 j3 j5:Option I}
  (l:h.get? C=some (excClassObj nm q C N bs bm hdct sn sub ab col dd k0 k1 k2 k3 k5 newId)) (j:h.get? D=some (excClassObj nm' q' D N' io jW cO ia dA iq col' fE j0 j1 j2 j3 j5 cV))
  (he:h.get? e=some oe) (b:oe.cls=.ref C) (a:jW.contains (.type "BaseException")=true) (c:(Value.ref C::bm).contains (.ref D)=true)
  (k:Q true ⟨h,g,d,t,os⟩):wpAny M A (excMatches (.ref e) (.ref D)) Q E ⟨h,g,d,t,os⟩:=by
 have i:(Value.ref D::jW).contains (.type "BaseException")=true:=by rw[List.contains_cons,a,Bool.or_true]
 have f:=tc_notTuple;unfold excMatches
 repeat(first|(with_reducible refine wpAny_loadPart_at he ?_;rw[b])|with_reducible refine wpAny_loadPart_at j ?_|(with_reducible refine wpAny_isSubtype_exc j ?_;rw[i])|(with_reducible refine wpAny_isSubtype_exc l ?_;rw[c])|wp_step)
 exact k
end
section
variable{E:XK}{s s':Shared}{e:Value}{R:Shared->Prop}
theorem Dw(I:Inv X pins σ H s)(B:X.stack=env::outer)(hf:env.frame=some L)(hP:X.prog=P)(hw:X.w=w)(A:dN P w X.stack H s E e s')(k:∀(a C T:Y) (m:Hp) (D:Shared),e=.ref a->E (.ref C) none m->Inv X pins σ m D->dM D.heap a (.ref C) T->m a=none->s.heap.get? a=none-> (∀(A':Around)(af:Value->Shared->Prop)(R':Shared->Prop),(∀G,Inv X pins σ m G->(∃oe,G.heap.get? a=some oe/\oe.cls=.ref C)->R' G)->wpAny (model P w) A' (setFlight (.ref a) none) (λ_ G=>R' G) af D)->R D):
  wpAny (model P w) X.A (noteFrame e env) (λ_ s2=>wpAny (model P w) X.A (setFlight e none) (λ_ D=>R D) Ex s2) Ex s':=by
 subst hP hw;obtain⟨a,C,T,m,rfl,fl,na,nT,U,a6,os,x,p,Q,q⟩:=A;obtain⟨F,g,d,t,av⟩:=s';obtain rfl:av=s.os:=os;have I':=I.call (d':=d) (t':=t) p Q x (λb z=>absurd z (by simp));obtain⟨oe,vs,a4,am,a0,b1,b2,b3,b4,b5,b6,b7,b8⟩:=id fl;have hl:F.FunFrames X.base (env::outer):=by have:=I'.stack;rw[B]at this;exact this
 have a8:X.A.frames=some (env::outer):=by rw[<-B];exact I'.ok.frames
 have u:aV X.stack=aV (env::outer):=by rw[B]
 have a9:Heap.FlyingW (W.hideAll F (a::T::aV (env::outer))) (env::outer) a (.ref C) a0 F:=⟨λb o z=>W.of_hideAll _ z,W.hideAll_none _ c8,Zb hl λb f=>W.hideAll_none _ (ce _ (ce _ f)),⟨oe,vs,T,a4,am,b1,b2,b3,b4,W.hideAll_none _ (ce _ c8),b5,b6,b7,b8⟩⟩
 refine wpAny_looks_onW a8 hf a9 λh2 Z u2=>?_;refine wpAny_landsW Z λl h u3=>?_;have go:∀l:Heap,Heap.FlyingW (W.hideAll F (a::T::aV (env::outer))) (env::outer) a (.ref C) a0 l->F.UpToSlots l->Inv X pins σ m ⟨l,g,d,t,s.os⟩/\∃T',dM l a (.ref C) T':=λl h up=>by
  obtain⟨c1,c2,c3,a3,ag,T',a5,ap,d1,d2,d3,d4,d5,d6,d7,d8,d9⟩:=h;have j:=λb o z M K n3=>c1 b o (W.hideAll_get _ z λy=>(ai.mp y).elim M λy=>(ai.mp y).elim K n3);have i:∀b∈aV (env::outer),∀o,F.get? b=some o->∃sl,l.get? b=some {o with slots:=sl}:=λb f o z=>by obtain⟨_,o2,S,a7⟩:=hl.mem f;rw[z]at S;cases S;exact up b o z a7
  have ne:∀{b:Y}{o:Obj},s.heap.get? b=some o->b≠a/\b≠T:=λ{b o} z=>⟨(λy=>by rw[y,na]at z;cases z),(λy=>by rw[y,nT]at z;cases z)⟩
  have ah:Un (aV X.stack) [] H m s.heap l:=by rw[u]at p⊢;refine⟨λb o z n f A=>?_,λb o z n f A=>?_,p.free,λb o z A=>?_,p.tups,p.frzs,p.tbls⟩;obtain⟨M,K⟩:=ne z;exact j b o (p.keep b o z n f A) M K f;obtain⟨sl,e1⟩:=p.slot b o z n f A;obtain⟨au,e2⟩:=i b f _ e1;exact⟨au,e2⟩;obtain⟨o1,e1⟩:=p.there b o z A;obtain⟨M,K⟩:=ne z;by_cases f:b∈aV (env::outer);obtain⟨sl,e2⟩:=i b f o1 e1;exact⟨_,e2⟩;exact⟨o1,j b o1 e1 M K f⟩
  have N:aZ X.prog X.w m l:=λb o z=>by
   refine(Q b o z).stay (λc v hc y=>?_) (λc y=>y) λc xs y=>y;have tr:m c≠none:=by rcases hc with rfl|hc;rw[z];intro y;cases y;rw[hc];intro y;cases y
   refine j c v y (λy=>tr (by rw[y];exact U)) (λy=>tr (by rw[y];exact a6)) λy=>tr (I'.stkFree c (by rw[u];exact y))
  have I3:=I.call (d':=d) (t':=t) ah N x (λb z=>absurd z (by simp));exact⟨I3,T',a3,ag,a5,ap,a0,d1,d2,d3,d4,d6,d7,d8,d9⟩
 obtain⟨I3,T',bb⟩:=go l h (u2.trans u3);refine k a C T' m _ J q I3 bb U na λA' af R' r=>?_;obtain⟨f1,f2,f3,f4⟩:=h;refine wpAny_setFlight_noneW f1 f3 f4.at λh4 k1 k2 k3 k4=>?_;obtain⟨I4,T4,ax,bd,_,_,_,e4,⟨e5,_⟩,_⟩:=go h4 ⟨k1,f2,k2,k3⟩ ((u2.trans u3).trans λb o f hn=>⟨o.slots,k4 b o f hn⟩);exact r _ I4 ⟨ax,e4,e5⟩
end
section
variable{s:Shared}
theorem Bx{M:Model}{i:Nat}(I:Inv X pins σ H s)(hN:X.N.Nodup)(L:X.N[i]?=some x)(hk:X.env.scope.names.lookup x=some .local)(h:∀s',Inv X pins (σ.set i none) H s'->Q () s'):wpAny M A (do bindName X.env x .none;unbindBehindTheSuite X.env x pos) Q E s:=by
 obtain⟨m,K,hl⟩:=id I.loc;have r:(X.env.scope.kind==.class ||(X.env.scope.kind==.module && X.env.locals !=X.env.globals))=false:=by rw[I.ok.kind];rfl
 have l:i<σ.length:=by rw[I.len];exact(c7.mp L).1
 have t:=I.cne;refine wpAny_nameGoes_keeps hk K r λh' v B a=>?_;obtain⟨oL,_,_,af,_⟩:=id K;refine h _ ⟨I.ok,I.os,I.bare,⟨λb o e n D g=>?_,λb o e n D g=>?_,I.base.free,λb o e g=>?_,I.base.tups,I.base.frzs,I.base.tbls⟩,⟨_,B,λj y N f w e3=>?_⟩,λy c e=>?_,I.free,I.freeC,λp hp=>?_,λb U e=>?_,by simpa using I.len⟩;exact(a.2 b (bh (ca (aq e) I.ok.above))).trans (I.base.keep b o e n D g);obtain⟨R,f⟩:=I.base.slot b o e n D g;exact⟨R,(a.2 b (bh (ca (aq e) I.ok.above))).trans f⟩;obtain⟨W,f⟩:=I.base.there b o e g;exact⟨W,(a.2 b (bh (ca (aq e) I.ok.above))).trans f⟩;by_cases C:j=i;subst C;rw[List.getElem?_set_self l]at w;cases w;rw[List.getElem?_set_ne (al C)]at w;obtain⟨P,S,q⟩:=hl j y N f w e3;refine⟨P,S,?_⟩;rcases q with⟨k,e⟩|⟨k,c,e,z⟩;refine .inl ⟨k,?_⟩;have:y≠x:=λe=>C (Q0 hN f (e▸L));simp[this,e];exact .inr ⟨k,c,e,z.sameBut a (t y c e)⟩;obtain⟨F,z⟩:=I.cell y c e;exact⟨F,z.sameBut a (t y c e)⟩;obtain⟨e,n,G,Z,d⟩:=I.pin p hp;exact⟨(a.2 p.1 G).trans e,n,G,Z,d⟩;refine(I.hok b U e).stay (λc F u q=>(a.2 c ?_).trans q) (λ_ q=>q) λ_ _ q=>q;rintro rfl;rcases u with rfl|u;rw[I.free]at e;cases e;rw[I.free]at u;cases u
end
abbrev Cx.held(X:Cx)(e:Value):Cx:={X with A:=X.A.mark (some e),calm:=false}
theorem Inv.held{X:Cx}{a:O (Y×Obj)}{b:St}{H:Hp}{s:Shared}{e:Value}(I:Inv X a b H s):Inv (X.held e) a b H s:=⟨⟨I.ok.mod,I.ok.kind,I.ok.glob,I.ok.blt,I.ok.above,I.ok.inj,I.ok.has,I.ok.cab,(λz=>by cases z),I.ok.frames,I.ok.stk,I.ok.exf,I.ok.bs,I.ok.bsz,I.ok.noex,I.ok.exfs,I.ok.funs,I.ok.frf⟩,I.os,I.bare,I.base,I.loc,I.cell,I.free,I.freeC,I.pin,I.hok,I.len⟩
theorem Inv.unheld{s:Shared}{e:Value}(a:X.calm=true->X.A.handled=none)(I:Inv (X.held e) pins σ H s):Inv X pins σ H s:=⟨⟨I.ok.mod,I.ok.kind,I.ok.glob,I.ok.blt,I.ok.above,I.ok.inj,I.ok.has,I.ok.cab,a,I.ok.frames,I.ok.stk,I.ok.exf,I.ok.bs,I.ok.bsz,I.ok.noex,I.ok.exfs,I.ok.funs,I.ok.frf⟩,I.os,I.bare,I.base,I.loc,I.cell,I.free,I.freeC,I.pin,I.hok,I.len⟩
theorem Vu{prog:Program}{s:Shared}{e:Y}{t:Expr}{n:Str}{i:Stmt}{b:O Stmt}{vx:O ExceptHandler}{Q:Flow->Shared->Prop}{nm q:Str} {N:Y} {bs:O I} {col:Option Bool} {k0 k1 k2 k3 k5:Option I}
  {nm' q':Str} {col':Option Bool} {j0 j1 j2 j3 j5:Option I}
  (j:jW.contains (.type "BaseException")=true) (r:(Value.ref C::bm).contains (.ref D)=true)
  (h :wpAny (model prog w) (A.mark (some (.ref e))) (eval t env) (λc a=>c=.ref D/\a.heap.get? C=some (excClassObj nm q C N bs bm hdct sn sub ab col dd k0 k1 k2 k3 k5 newId)/\ a.heap.get? D=some (excClassObj nm' q' D N' io jW cO ia dA iq col' fE j0 j1 j2 j3 j5 cV)/\(∃oe,a.heap.get? e=some oe/\oe.cls=.ref C)/\
   wpAny (model prog w) (A.mark (some (.ref e))) (setFlight (.ref e) none) (λ_ s₂=> wpAny (model prog w) (A.mark (some (.ref e))) (storeName env n (.ref e)) (λ_ m=> wpAny (model prog w) (A.mark (some (.ref e))) (execs (i::b) env)
      (λf l=>wpAny (model prog w) A (do bindName env n .none;unbindBehindTheSuite env n pos) (λ_ k=>Q f k) E l)
      (AsSuiteRaised (model prog w) (A.mark (some (.ref e))) env n pos (notedBy (model prog w) (A.mark (some (.ref e))) env (cameBackBy (model prog w) A env E))) m) (notedBy (model prog w) (A.mark (some (.ref e))) env (cameBackBy (model prog w) A env E)) s₂) (notedBy (model prog w) (A.mark (some (.ref e))) env (cameBackBy (model prog w) A env E)) a) (notedBy (model prog w) (A.mark (some (.ref e))) env (cameBackBy (model prog w) A env E)) s):
  wpAny (model prog w) A (handleBy (.ref e) env (.ExceptHandler (some t) (some n) (i::b) pos::vx)) Q E s:=by refine wpAny_handleBy_cons (codeAny_handlers_test (df h (λc a o=>?_) λ_ _ y=>y)) (by intro q;cases q);obtain⟨rfl,z,x,⟨oe,v,p⟩,u⟩:=o;obtain⟨F,g,d,B,os⟩:=a;exact Jg z x v p j r (codeAny_handlers_suite_as u)
noncomputable def lG(a C:Addr):HO:=.ext λh=>∃o,h.get? a=some o/\o.cls=.ref C
section
variable{s:Shared}
theorem Inv.track(I:Inv X pins σ H s)(D:∃o,s.heap.get? a=some o/\o.cls=.ref C)(f:H a=none)(hs:X.s₀.heap.get? a=none)(A:a≠X.env.locals)(B:∀x c,X.env.cells.lookup x=some c->c≠a)(y:∀p∈X.pn++pins,p.1≠a):Inv X pins σ (upd H a (lG a C)) s:=by have u:=I.base;refine⟨I.ok,I.os,I.bare,⟨u.keep,u.slot,λb o e n w=>?_,u.there,λb h e=>?_,λb o v e=>?_,λb t e=>?_⟩,I.loc,I.cell,?_,λx c e=>?_,λp j=>?_,λb o e=>?_,I.len⟩;rw[zi (λz=>by simp_all)];exact u.free b o e n w;rw[zi (zj (u.tups b h e) f)];exact u.tups b h e;rw[zi (zj (u.frzs b o v e) f)];exact u.frzs b o v e;obtain⟨d,z⟩:=u.tbls b t e;exact⟨d,by rw[zi (zj z f)];exact z⟩;rw[zi (al A)];exact I.free;rw[zi (B x c e)];exact I.freeC x c e;obtain⟨g,m,E⟩:=I.pin p j;exact⟨g,by rw[zi (y p j)];omega,E⟩;by_cases l:b=a;subst l;rw[ze]at e;cases e;obtain⟨i,g,m⟩:=D;exact⟨⟨i,g,m⟩,⟨i,g⟩,λg1 g2 ⟨o,r,q⟩ k=>⟨o,k o r,q⟩⟩;rw[zi l]at e;exact(I.hok b o e).stay (λ_ _ _ z=>z) (λc z=>by rw[zi (zj z f)];exact z) λc h z=>by rw[zi (zj z f)];exact z
end
inductive gZ(X:Cx)(E:XK)(e:Value)(s':Shared):Prop|mk:∀pins σ H s,Inv X pins σ H s->dN X.prog X.w X.stack H s E e s'->gZ X E e s'
theorem Z6{E:XK}{Z:Value->Shared->Prop}:Yv (dN X.prog X.w) (X.wish (gZ X E)) E:=λa b H s e d I c=>⟨a,b,H,s,I.unwish,c⟩
abbrev Cx.pinned(X:Cx)(pn:List (Addr×Obj)):Cx:={X with pn:=pn}
theorem Inv.pinIn{s:Shared}(I:Inv X pins σ H s):Inv (X.pinned (X.pn++pins)) [] σ H s:=⟨⟨I.ok.mod,I.ok.kind,I.ok.glob,I.ok.blt,I.ok.above,I.ok.inj,I.ok.has,I.ok.cab,I.ok.hd,I.ok.frames,I.ok.stk,I.ok.exf,I.ok.bs,I.ok.bsz,I.ok.noex,I.ok.exfs,I.ok.funs,I.ok.frf⟩,I.os,I.bare,I.base,I.loc,I.cell,I.free,I.freeC,(λp a=>I.pin p (by simp_all)),I.hok,I.len⟩
theorem Inv.pinOut{b:O (Y×Obj)}{s:Shared}(I:Inv (X.pinned (X.pn++pins)) b σ H s):Inv X pins σ H s:=⟨⟨I.ok.mod,I.ok.kind,I.ok.glob,I.ok.blt,I.ok.above,I.ok.inj,I.ok.has,I.ok.cab,I.ok.hd,I.ok.frames,I.ok.stk,I.ok.exf,I.ok.bs,I.ok.bsz,I.ok.noex,I.ok.exfs,I.ok.funs,I.ok.frf⟩,I.os,I.bare,I.base,I.loc,I.cell,I.free,I.freeC,(λp a=>I.pin p (f8 _ a)),I.hok,I.len⟩
inductive Under(base:Heap)(C D:Addr):Prop|mk:∀nm q N bs bm hdct sn sub ab col dd k0 k1 k2 k3 k5 newId,base.get? C=some (excClassObj nm q C N bs bm hdct sn sub ab col dd k0 k1 k2 k3 k5 newId)->(Value.ref C::bm).contains (.ref D)=true->Under base C D
inductive fG(base:Heap)(D:Addr):Prop|mk:∀nm q N bs bm hdct sn sub ab col dd k0 k1 k2 k3 k5 newId,base.get? D=some (excClassObj nm q D N bs bm hdct sn sub ab col dd k0 k1 k2 k3 k5 newId)->bm.contains (.type "BaseException")=true->fG base D
def xP(n:Nat)(B:TS)(E:XK)(ie ic:Nat):TS:=λD σ H=>B D σ H/\∀(σ':St)(H':Hp)(a C:Addr),σ'.length=n->E (.ref C) none H'->H' a=none->D.nx ((((σ'.set ie (some (.ref a))).set ic (some (.ref a)))).set ie none) (upd H' a (lG a C))
theorem AK{tb:TS}{E:XK}{ie ic:Nat}{F cv:Str}{np pc pe pa hp:Pos}(W:X.stack=X.env::X.outer)(hf:X.env.frame=some X.env.locals)(hN:X.N.Nodup)(j:X.N[ie]?=some F) (k:X.env.scope.names.lookup F=some .local) (am:X.N[ic]?=some cv) (P:X.env.scope.names.lookup cv=some .local) (hg:Gl X x) (hD:X.mg x=some (.ref D)) (hI:fG X.base D)
  (hU:∀C H,E (.ref C) none H->Under X.base C D) (hb:∀pn,dR ((X.pinned pn).wish (gZ (X.pinned pn) E)) aS tb) (hd:(x==("__debug__":Str))=false) (av:(F==("__debug__":Str))=false) (au:(F==("__classdict__":Str))=false) (ap:∀b∈X.ex,False):
  PS X (.Try aS [.ExceptHandler (some (.Name x np)) (some F) [.Assign [.Name cv pc] (.Name F pe) pa] hp] [] [] pos) (xP X.N.length tb E ie ic):=by
 intro g s σ H D' I h;obtain⟨hq,hk⟩:=h;refine wpAny_Try_except (df (hb (X.pn++g) [] s σ H D' (I.pinIn.wish _) hq) (λf s1 i=>?_) λe s1 B=>?_)
 . have i:SP X g D' f s1:=by have i:=i.unwish;cases f with|next=>obtain⟨d,A,J,q⟩:=i;exact⟨d,A,J.pinOut,q⟩|brk=>obtain⟨d,A,J,q⟩:=i;exact⟨d,A,J.pinOut,q⟩|cont=>obtain⟨d,A,J,q⟩:=i;exact⟨d,A,J.pinOut,q⟩|ret u=>obtain⟨v,d,A,J,r,q⟩:=i;exact⟨v,d,A,J.pinOut,r,q⟩
   cases f with|next=>exact ac i|brk=>exact i|cont=>exact i|ret u=>exact i
 . obtain⟨bD,d,H1,s0,J,B⟩:=B;refine Dw (X:=X.pinned (X.pn++g)) J W hf rfl rfl B λa C T G s3 ea hE I3 fl L l again=>?_;subst ea;obtain⟨U,q',N',io,jW,cO,ia,dA,iq,Q,fE,j0,j1,j2,j3,j5,cV,eD,t⟩:=hI;obtain⟨nm,q,N,bs,bm,M,sn,sub,ab,ax,dd,k0,k1,k2,k3,k5,n,eC,ah⟩:=hU C G hE;have w:Inv X g d G s3:=I3.pinOut;refine Vu (nm:=nm) (q:=q) (N:=N) (bs:=bs) (bm:=bm) (hdct:=M) (sn:=sn) (sub:=sub) (ab:=ab) (col:=ax) (dd:=dd) (k0:=k0) (k1:=k1) (k2:=k2) (k3:=k3) (k5:=k5) (newId:=n) (nm':=U) (q':=q') (N':=N') (io:=io) (jW:=jW) (cO:=cO) (ia:=ia) (dA:=dA) (iq:=iq) (col':=Q) (fE:=fE) (j0:=j0) (j1:=j1) (j2:=j2) (j3:=j3) (j5:=j5) (cV:=cV) t ah ?_;refine Y8 (X:=X.held (.ref a)) w.held hg hD ⟨rfl,w.bk _ _ eC,w.bk _ _ eD,?_,?_⟩ hd;obtain⟨oe,vs,oT,ts,a0,e1,e2,_⟩:=fl;exact⟨oe,e1,e2.1⟩;refine again _ _ _ λs4 I4 R=>?_;have S:Inv X g d G s4:=I4.pinOut;have bQ:∀{b:Y} {o:Obj},s0.heap.get? b=some o->b≠a:=λ{b o} z y=>by rw[y,l]at z;cases z
   have Z:X.s₀.heap.get? a=none:=by cases z:X.s₀.heap.get? a with|none=>rfl| some o=>by_cases B:a∈X.ex;exact(ap a B).elim;obtain⟨o',e'⟩:=(show Un X.fs X.ex X.H₀ H1 X.s₀.heap s0.heap from J.base).there a o z B;rw[l]at e';cases e'
   have K4:Inv X g d (upd G a (lG a C)) s4:=by refine S.track R L Z (λz=>?_) (λy c e z=>?_) λp hp z=>?_;obtain⟨m,⟨oL,_,_,ag,_⟩,_⟩:=J.loc;exact bQ ag z.symm;obtain⟨v,oc,af,_⟩:=J.cell y c e;exact bQ af z;exact bQ (J.pin p (f8 _ hp)).1 z
   refine Qf (X:=X.held (.ref a)) K4.held hN j (.inl k) (show yu (.ref a) (.ref a)from rfl) (λs5 I5=>?_) (.inr k);have li:ie<d.length:=by rw[S.len];exact(c7.mp j).1
   refine df ((zf (ya (X:=(X.held (.ref a)).wish _) (i:=ic) hN (nz (X:=(X.held (.ref a)).wish _) j (.inl k) av au) am (.inl P) rfl (.inr P))) g s5 _ _ {nx:=λK H6=>K=(d.set ie (some (.ref a))).set ic (some (.ref a))/\H6=upd G a (lG a C),rt:=λ_ _=>False} (I5.wish _) (mW (v:=.ref a) (List.getElem?_set_self li) ⟨rfl,rfl⟩)) (λf s6 i=>?_) λ_ _ z=>z;cases f with| next=>obtain⟨K,H6,I6,rfl,rfl⟩:=i;refine Bx (Inv.unheld S.ok.hd I6.unwish) hN j k λs7 I7=>⟨_,_,I7,hk d G a C S.len hE L⟩|brk=>obtain⟨_,_,_,z⟩:=i;exact False.elim z|cont=>obtain⟨_,_,_,z⟩:=i;exact False.elim z|ret u=>obtain⟨_,_,_,_,_,z⟩:=i;exact False.elim z
section
variable{K:W.Frag}
theorem gY.okX{st:Stmt}(F:gY K x qual st f fd)(S:aB N ps (zh st))(d:∀vs H Q E,sp vs H Q E->vs.length=ps.length)(c:∀(b:I) (A:Around) (a:O Env) (s:Shared) (H:Hp) (vs:O V) (Q:VK) (E:XK),aO k (A.deeper (envOfC qual (zh st) s.heap.objs.size f b))->sp vs H Q E-> ∃t,dR (Yp (dN P w) P w K mg base N qual (zh st) f b A a s H E) (yg st) t/\t (.of Q) (start N vs) H):cD P w K mg base (dN P w) (k+1) f fd ps sp:=by obtain⟨o,n,kV,l,m,q,b,p,h,rfl,i,g⟩:=F.ex;exact oF i g S d λA a s H vs Q E j e=>c b A a s H vs Q E j e
inductive cT(P:Program)(w:World)(K:W.Frag)(mg:Str->Option Value)(base:Heap)(x:Str)(k:Nat)(ps:List Str)(sp:Sp):Prop|mk:∀f fd,cD P w K mg base (dN P w) k f fd ps sp->Ww K fd ps []->W.keepIn K (.ref f)=true->mg x=some (.ref f)->cT P w K mg base x k ps sp
theorem ja{E:XK}{p:Pos}{t:TA}(h:cT X.prog X.w X.K X.mg X.base x k ps sp)(b:Yv (dN X.prog X.w) X E)(c:aO k X.A)(l:PA X (e::es) t)(i:Gl X x:=by rfl)
  (a:(x==("__debug__":Str))=false:=by decide) (he:starEach (e::es) X.env=(false,eval e X.env)::starEach es X.env:=by rfl) (hpl:(backTo pos (starEach es X.env)).any (·.1)=false:=by rfl):
  PE X (.Call (.Name x p) (e::es) [] pos) (ma sp [] E t):=by obtain⟨f,m,F,j,g,d⟩:=h;exact tP F c i d g j .nil b l a he hpl
end
end L2
namespace PySem
open Sem (wp)
noncomputable def qn:List Str:=["__class__","__getattribute__","__getattr__","__init__"]
inductive aX(h:Heap)(bmB:List Value):List Value->Prop|base:aX h bmB bmB|own {A:Addr} {c0:Value} {dd:Option Addr} {cd:ClassData} {sl:Array (Option Value)} {mA:Str->Option Value} {tl:List Value}:
  h.get? A=some {cls:=c0,dict:=dd,data:=.cls cd,slots:=sl}->h.Ns cd.ns mA->(∀n∈qn,mA n=none)->aX h bmB tl->aX h bmB (.ref A::tl)
theorem aX.hasType{h:Heap}{a c:List Value}(T:aX h a c){X:String}{b:Bool}(e:a.contains (.type X)=b):c.contains (.type X)=b:=by induction T with|base=>exact e|own _ _ _ _ d=>rw[List.contains_cons,d];rfl
abbrev vE:List Value:=[.type "ValueError",.type "Exception",.type "BaseException",.type "object"]
theorem FO:typeLookup (.type "ValueError") "__class__"=pure (some (.builtin "object.__class__")):=by rw[typeLookup_type,builtinLookup_eq_fast];kernel_rfl
section
variable{M:Model}{prog:Program}{w:World}{A:Around}{E:Value->Shared->Prop}{h:Heap}{g:Array GenState}{d:Drawn}{t:Nat}{os:OsState}{a:Addr}{o:Obj}{nm q:Str} {C N:Addr} {bs bm:List Value} {hdct:Bool} {sn:List Str} {sub:List Value} {ab:Bool} {col:Option Bool} {dd:Option Addr} {k0 k1 k2 k3 k5:Option Value} {newId:String} {mN:Str->Option Value}
theorem Be{c:List Value}{n:Str}{y:Option Value}{Q:Option Value->Shared->Prop}(i:n∈qn)(T:aX h vE c)(a:lookupAlong vE n=pure y)(f:Q y ⟨h,g,d,t,os⟩):wpAny M A (lookupAlong c n) Q E ⟨h,g,d,t,os⟩:=by induction T with|base=>rw[a];exact ac f| own k j b _ e=>rw[lookupAlong_cons];refine aa (wpAny_classOwn_cls k j ?_);rw[b n i];exact e
theorem pi{n:Str}{y:Option I}{Q:Option I->Shared->Prop}(c:n∈qn)(e:h.get? C=some (excClassObj nm q C N bs bm hdct sn sub ab col dd k0 k1 k2 k3 k5 newId)) (j:h.Ns N mN) (b:∀n∈qn,mN n=none) (T:aX h vE bm)
  (f:typeLookup (.type "ValueError") n=pure y) (i:Q y ⟨h,g,d,t,os⟩):wpAny M A (typeLookup (.ref C) n) Q E ⟨h,g,d,t,os⟩:=by
 have a:lookupAlong vE n=pure y:=by rw[typeLookup_eq,F.excBase_ValueError.mroIs]at f;exact f
 rw[typeLookup_eq];refine aa (wpAny_mroOf_exc e ?_);rw[lookupAlong_cons];refine aa (wpAny_classOwn_exc e j ?_);rw[b n c];exact Be c T a i
theorem CF{R:Result->Shared->Prop}(i:h.get? C=some (excClassObj nm q C N bs bm hdct sn sub ab col dd k0 k1 k2 k3 k5 newId))(T:aX h vE bm)(e:h.get? a=some o) (f:o.cls=.ref C) (j:R (.ok (.ret (.ref C))) ⟨h,g,d,t,os⟩):
  codeAny (model prog w) A (.call (.builtin "getset_descriptor.__get__") ⟨[.builtin "object.__class__",.ref a,.ref C],[]⟩) R ⟨h,g,d,t,os⟩:=by
 have c:=F.typeOf_object_class;have b:(Value.ref C::bm).contains (.type (".".intercalate ("object.__class__".cutAt '.').dropLast))=true:=by rw[F.owner_object_class,List.contains_cons,T.hasType (b:=true) (by decide+kernel)];rfl
 refine codeAny_call_builtin F.slot_gs_get.plain F.entry_gs_get (F.slot_gs_get.check _ _ _ _ _ _ _ _ c (F.args_gs_get _ _ _) ?_)
 repeat(any_goals (first|assumption|(with_reducible refine wpAny_loadPart_at e ?_;rw[f])|(with_reducible refine wpAny_isSubtype_exc i ?_;rw[b])|wp_step))
 refine⟨Code.quiet_builtin _ (by decide+kernel),codeAny_builtin F.entry_object_class ?_⟩
 repeat(any_goals (first|assumption|(with_reducible refine wpAny_loadPart_at e ?_;rw[f])|wp_step))
end
section
variable{M:Model}{prog:Program}{w:World}{A:Around}{E:Value->Shared->Prop}{h:Heap}{g:Array GenState}{d:Drawn}{t:Nat}{os:OsState}{a:Addr}{o:Obj}{nm q:Str} {C N:Addr} {bs bm:List Value} {hdct:Bool} {sn:List Str} {sub:List Value} {ab:Bool} {col:Option Bool} {dd:Option Addr} {k0 k1 k2 k3 k5:Option Value} {newId:String} {mN:Str->Option Value}
theorem Ft{j:Tok}{Q:Fin->Shared->Prop}(i:h.get? C=some (excClassObj nm q C N bs bm hdct sn sub ab col dd k0 k1 k2 k3 k5 newId))(l:h.Ns N mN)(b:∀n∈qn,mN n=none)(T:aX h vE bm)(e:h.get? a=some o) (f:o.cls=.ref C) (m:Q (.done (.ret (.ref C))) ⟨h,g,d,t,os⟩):
  wpAny (model prog w) A (Builtin.«object.__getattribute__» ⟨[.ref a,.str "__class__" j],[]⟩) Q E ⟨h,g,d,t,os⟩:=by
 have k:(⟨h,g,d,t,os⟩:Shared).TypeIs (.builtin "object.__class__") "getset_descriptor":=F.typeOf_object_class;have s:=F.typeOf_object_class;have r:=F.slot_gs_get.lookup;have p:=F.slot_gs_set.lookup;have c:("__class__":Str)∈qn:=.head _
 repeat(any_goals (first|assumption|(with_reducible refine wpAny_loadPart_at e ?_;rw[f])|with_reducible refine pi c i l b T FO ?_|wp_step))
 refine CF i T e f ?_
 repeat(any_goals (first|assumption|wp_step))
theorem Fs{b:I}{Q:Unit->Shared->Prop}(l:h.get? C=some (excClassObj nm q C N bs bm hdct sn sub ab col dd k0 k1 k2 k3 k5 newId))(T:aX h vE bm)(f:h.get? a=some o) (k:o.cls=.ref C) (i:Q () ⟨h,g,d,t,os⟩):wpAny M A (checkBuiltinCall "BaseException.__getattribute__" ⟨[.ref a,b],[]⟩) Q E ⟨h,g,d,t,os⟩:=by
 have j:builtinKind "BaseException.__getattribute__"=some .slot:=by decide+kernel
 have c:splitId "BaseException.__getattribute__"=some ("BaseException","__getattribute__"):=by decide+kernel
 have e:(Value.ref C::bm).contains (.type "BaseException")=true:=by rw[List.contains_cons,T.hasType (X:="BaseException") (b:=true) (by decide+kernel)];rfl
 have m:=F.args_bexc_ga (.ref a) b;simp only[checkBuiltinCall,j,c];refine aa ?_
 . unfold isInstance
   repeat(first|(with_reducible refine wpAny_loadPart_at f ?_;rw[k])|(with_reducible refine wpAny_isSubtype_exc l ?_;rw[e])|wp_step)
   exact i
theorem DZ{i:Tok}{R:Result->Shared->Prop}(f:h.get? C=some (excClassObj nm q C N bs bm hdct sn sub ab col dd k0 k1 k2 k3 k5 newId))(k:h.Ns N mN)(b:∀n∈qn,mN n=none)(T:aX h vE bm)(c:h.get? a=some o) (e:o.cls=.ref C) (j:R (.ok (.ret (.ref C))) ⟨h,g,d,t,os⟩):
  codeAny (model prog w) A (.call (.builtin "BaseException.__getattribute__") ⟨[.ref a,.str "__class__" i],[]⟩) R ⟨h,g,d,t,os⟩:=
 codeAny_call_builtin F.attrBase_ValueError.ga.plain F.entry_bexc_ga (Fs f T c e (Ft f k b T c e j))
theorem BU{m:Tok}{Q:I->Shared->Prop}(j:h.get? C=some (excClassObj nm q C N bs bm hdct sn sub ab col dd k0 k1 k2 k3 k5 newId))(i:h.Ns N mN)(b:∀n∈qn,mN n=none)(T:aX h vE bm)(k:h.get? a=some o) (l:o.cls=.ref C) (r:Q (.ref C) ⟨h,g,d,t,os⟩):
  wpAny (model prog w) A (getAttrBy (.ref a) (.str "__class__" m) false) Q E ⟨h,g,d,t,os⟩:=by
 have s:=F.attrBase_ValueError.ga.bind (.ref a);have c:(Value.builtin "BaseException.__getattribute__"==Value.builtin "object.__getattribute__")=false:=by decide+kernel
 have p:(onTheHeap (Value.ref C) && Value.builtin "BaseException.__getattribute__"==Value.builtin "object.__getattribute__")=false:=by rw[c];rfl
 have f:("__getattribute__":Str)∈qn:=.tail _ (.head _);have e:("__getattr__":Str)∈qn:=.tail _ (.tail _ (.head _))
 repeat(any_goals (first|assumption|(with_reducible refine wpAny_loadPart_at k ?_;rw[l])|with_reducible refine pi f j i b T F.attrBase_ValueError.ga.lookup ?_|with_reducible refine pi e j i b T F.attrBase_ValueError.noGetattr ?_|wp_step))
 refine DZ j i b T k l ?_
 repeat(any_goals (first|assumption|wp_step))
theorem DY{Q:Option I->Shared->Prop}(i:h.get? C=some (excClassObj nm q C N bs bm hdct sn sub ab col dd k0 k1 k2 k3 k5 newId))(f:h.Ns N mN)(b:∀n∈qn,mN n=none)(T:aX h vE bm)(c:h.get? a=some o) (e:o.cls=.ref C) (j:Q (some (.ref C)) ⟨h,g,d,t+1,os⟩):wpAny (model prog w) A (getAttr? (.ref a) "__class__") Q E ⟨h,g,d,t,os⟩:=by
 unfold getAttr? getAttrBy?
 repeat(any_goals (first|assumption|with_reducible apply BU i f b T c e|wp_step))
end
end PySem
namespace L2
open PySem PySem.Spec PyProof.Rows
variable{C a it t1 t2 ti to z:Addr}{A:Around}{a1 a2 its:Array Value}{X:Cx}{H:Hp}{pins:List (Addr×Obj)}{cQ es:List Expr}{cap:List Nat}{xs:List V}{i:Nat}{Q:Option Value->Shared->Prop}{pos:Pos}{P prog:Program}{σ:St}{mg:Str->Option Value}{E:Value->Shared->Prop}{w:World}
inductive hG(K:W.Frag)(C:Addr):Prop|mk:∀nm q N bs bm hdct sn sub ab col dd k0 k1 k2 k3 k5 newId,K.lookup C=some (excClassObj nm q C N bs bm hdct sn sub ab col dd k0 k1 k2 k3 k5 newId)->(∀h:Heap,K.In h->(∃mN,h.Ns N mN/\∀n∈qn,mN n=none)/\aX h vE bm)->hG K C
theorem vH{K:W.Frag}(k:hG K C):W.KitX K (.ref a) (.ref C) (λh=>∃o,h.get? a=some o/\o.cls=.ref C):=by obtain⟨U,q,N,bs,bm,u,P,sub,ab,H,G,k0,k1,k2,k3,k5,b,c,r⟩:=k;refine⟨λM h X ⟨o,l,j⟩=>?_,λM h X p=>?_,λh L G B n R X f=>?_,λ{m w A E Q s} X p D=>?_⟩;exact j▸(W.Looks.ld l).andThen .now;intro A' Q' E' S y x;unfold isType loadHead;exact aa (wpAny_loadPart (y _ _ (X _ _ c)) (ac x));refine Bool.eq_false_iff.mpr λz=>?_;have e:=Value.ref.inj (beq_iff_eq.mp z);subst e;have z:=Option.some.inj ((X _ _ c).symm.trans f);have v:Value.type "type"=Value.type "tuple":=congrArg Obj.cls z;exact absurd v (by decide);obtain⟨o,l,j⟩:=p;obtain⟨⟨Z,F,i⟩,T⟩:=r s.heap X;obtain⟨hh,g,d,t,os⟩:=s;exact DY (X _ _ c) F i T l j D
inductive iV(K:W.Frag)(xs:List V)(H:Hp)(Q:VK):Prop|mk:∀a C b,H a=some (lG a C)->hG K C->((∃D,xs=[.ref a,.ref D]/\W.kitOne K (.ref C) (.ref D)=some b)\/(∃n,xs=[.ref a,.ty n]/\W.kitOne K (.ref C) (.type n)=some b))->Q (.bl b) H->iV K xs H Q
theorem Kv:jt X (.builtin "isinstance") (iV X.K):=by
 intro g s l H m o Q I r h;obtain⟨a,C,b,j,k,h,q⟩:=h;obtain⟨p,_,_⟩:=(I.hok a _ j)
 rcases h with⟨D,rfl,e⟩|⟨n,rfl,e⟩;obtain⟨u,i,rfl,f,d⟩:=oO r;cases(f);cases(d);exact W.kia_one (vH k) I.kIn p e (λz=>nomatch z) λc=>⟨.bl b,H,I.tok c,J,q⟩
 obtain⟨u,i,rfl,f,d⟩:=oO r;cases(f);cases(d);exact W.kia_one (vH k) I.kIn p e (λz=>nomatch z) λc=>⟨.bl b,H,I.tok c,J,q⟩
structure aQ(K:W.Frag)(C D:Addr):Prop where
 c:∃nm q N bs hdct sn sub ab col dd k0 k1 k2 k3 k5,K.lookup C=some (excClassObj nm q C N bs (.ref D::vE) hdct sn sub ab col dd k0 k1 k2 k3 k5 "ValueError.__new__")/\W.nsOkIn K N=true/\∀n∈qn,W.nsIn K N n=some none
 d:∃nm q N bs hdct sn sub ab col dd k0 k1 k2 k3 k5,K.lookup D=some (excClassObj nm q D N bs vE hdct sn sub ab col dd k0 k1 k2 k3 k5 "ValueError.__new__")/\W.nsOkIn K N=true/\∀n∈qn,W.nsIn K N n=some none
section
variable{K:W.Frag}{D:Addr}{base:Heap}{x:Str}
theorem aQ.err(t:aQ K C D):hG K C:=by obtain⟨p,q,N,Q,e,m,sub,R,l,L,w,v,u,s,r,k,d,g⟩:=t.c;obtain⟨i,o,S,F,P,G,M,E,f,H,B,A,z,y,x,j,a,b⟩:=t.d;exact⟨_,_,_,_,_,_,_,_,_,_,_,_,_,_,_,_,_,k,λh X=>⟨⟨h.nsMap N,.of_isNs (W.isNs_of_in X d),λn c=>W.nsMap_none_of_in X d (g n c)⟩,.own (X _ _ j) (.of_isNs (W.isNs_of_in X a)) (λn c=>W.nsMap_none_of_in X a (b n c)) .base⟩⟩
theorem aQ.is(t:aQ K C D)(X:K.In base):fG base D:=by obtain⟨b,d,p,k,o,l,n,j,a,m,i,h,g,f,e,c,_⟩:=t.d;exact⟨_,_,_,_,_,_,_,_,_,_,_,_,_,_,_,_,_,X _ _ c,by decide+kernel⟩
theorem aQ.under(t:aQ K C D)(X:K.In base):Under base C D:=by obtain⟨e,q,N,l,a,d,sub,m,c,k,j,i,h,g,f,b,_⟩:=t.c;exact⟨_,_,_,_,_,_,_,_,_,_,_,_,_,_,_,_,_,X _ _ b,by simp⟩
theorem aQ.own(t:aQ K C D)(X:K.In base)(k:mg x=some (.ref C))(l:W.keepIn K (.ref C)=true):bO K mg base x C:=by obtain⟨p,q,N,R,e,n,sub,S,m,M,w,v,u,s,r,j,c,g⟩:=t.c;obtain⟨h,o,U,G,Q,H,P,F,f,L,E,B,A,z,y,i,a,b⟩:=t.d;have d:("__init__":Str)∈qn:=.tail _ (.tail _ (.tail _ (.head _)));exact⟨⟨k,_,_,_,_,_,_,_,_,_,_,_,_,_,_,_,_,_,X _ _ j,.of_isNs (W.isNs_of_in X c),W.nsMap_none_of_in X c (g _ d),.own (X _ _ i) (.of_isNs (W.isNs_of_in X a)) (W.nsMap_none_of_in X a (b _ d)) .base⟩,l⟩
end
mutual
noncomputable def aH:T->PyData|.non=>.none|.bl b=>.bool b|.int i=>.int i|.str x=>.str x|.tup ts=>.tuple (wv ts)|.lst ts=>.list (wv ts)|.dct=>.dict []
noncomputable def wv:List T->List PyData|[]=>[]|t::r=>aH t::wv r
end
section
variable{s:Shared}
mutual
theorem jp(I:Inv X pins σ H s):∀{t:T}{v:V}{u:Value},(aH t).canLay0=true->Is H t v->yu v u->∃as,Reads s.heap u (aH t) as
 | .non,v,u,_,h,r=>by cases(show v=.non from h);cases(show u=Value.none from r);exact⟨_,by unfold aH;exact .none⟩
 | .bl b,v,u,_,h,r=>by cases(show v=.bl b from h);cases(show u=Value.bool b from r);exact⟨_,by unfold aH;exact .bool b⟩
 | .int i,v,u,_,h,r=>by
   cases(show v=.int i from h);obtain⟨t,rfl⟩:=(show∃t,u=Value.int i t from r)
   exact⟨_,by unfold aH;exact .int i t⟩
 | .str x,v,u,_,h,r=>by
   cases(show v=.str x from h);obtain⟨t,rfl⟩:=(show∃t,u=Value.str x t from r)
   exact⟨_,by unfold aH;exact .str x t⟩
 | .tup ts,v,u,l,h,r=>by obtain⟨a,xs,rfl,ha,hl⟩:=h;cases(show u=Value.ref a from r);obtain⟨its,rv,⟨o,e,c,n,d⟩,_⟩:=I.tuple (aD.of ha);obtain⟨as,ra⟩:=ku I (by unfold aH PyData.canLay0 at l;exact l) hl rv;exact⟨_,by unfold aH;exact .tuple e c d (by simpa using ra)⟩
 | .lst ts,v,u,l,h,r=>by obtain⟨a,xs,rfl,ha,hl⟩:=h;cases(show u=Value.ref a from r);obtain⟨its,rv,⟨o,n,e,c,_,d⟩,_⟩:=I.list (aE.of ha);obtain⟨as,ra⟩:=ku I (by unfold aH PyData.canLay0 at l;exact l) hl rv;exact⟨_,by unfold aH;exact .list e c d (by simpa using ra)⟩
 |.dct,v,u,l,h,r=>by unfold aH PyData.canLay0 at l;cases l
theorem ku(I:Inv X pins σ H s):∀{ts:List T}{xs:List V}{us:List Value},PyData.canLayAll0 (wv ts)=true->IsL H ts xs->yl xs us->∃as,ReadsAll s.heap us (wv ts) as| [],xs,us,_,h,r=>by cases(show xs=[]from h);cases r;exact⟨_,by unfold wv;exact .nil⟩| t ::ts,xs,us,l,h,r=>by obtain⟨v,vs,rfl,h1,h2⟩:=h;cases r with| cons r1 r2=>unfold wv PyData.canLayAll0 at l;rw[bj]at l;obtain⟨as,ra⟩:=jp I l.1 h1 r1;obtain⟨bs,rb⟩:=ku I l.2 h2 r2;exact⟨_,by unfold wv;exact .cons ra rb⟩
end
end
inductive qF(f:Bool->Bool)(x y:V)(H:Hp)(Q:VK):Prop|mk:∀t u,Is H t x->Is H u y->(aH t).canLay0=true->(aH u).canLay0=true->(aH t).depth<=20->Q (.bl (f (PyData.eqv (aH t) (aH u)))) H->qF f x y H Q
section
theorem pO(n:X.A.units+64<cLine):aY X (compareOp .NotEq) (qF (!·)):=by intro a s l H x y v u Q I f e h;obtain⟨t,m,k,j,c,b,d,q⟩:=h;obtain⟨as,i⟩:=jp I c k f;obtain⟨o,g⟩:=jp I b j e;exact SeqAt.compareNe_reads i g c b (by omega) ⟨.bl _,H,I,J,q⟩
theorem tK(n:X.A.units+64<cLine):aY X (compareOp .Eq) (qF id):=by intro a s l H x y v u Q I f e h;obtain⟨t,m,k,j,c,b,d,q⟩:=h;obtain⟨as,i⟩:=jp I c k f;obtain⟨o,g⟩:=jp I b j e;exact SeqAt.rcAt_reads i g c b (by omega) X.prog X.w _ _ ⟨.bl _,H,I,J,q⟩
end
noncomputable def iT(ns:List Int):List T:=ns.map T.int
theorem W0:∀ns:List Int,wv (iT ns)=ns.map PyData.int|[]=>by rfl| n::r=>by show wv (T.int n::iT r)=_;unfold wv;rw[W0 r];rfl
theorem uL:∀ns:List Int,PyData.canLayAll0 (wv (iT ns))=true|[]=>rfl| n::r=>by show PyData.canLayAll0 (wv (T.int n::iT r))=true;unfold wv aH PyData.canLayAll0;rw[uL r];rfl
theorem Jj:∀ns:List Int,PyData.depthAll (wv (iT ns))=0|[]=>rfl| n::r=>by show PyData.depthAll (wv (T.int n::iT r))=0;unfold wv aH PyData.depthAll;rw[Jj r];rfl
theorem CO:∀ns ms:List Int,PyData.eqvAll (wv (iT ns)) (wv (iT ms))=decide (ns=ms):=λns ms=>by
 rw[W0,W0];induction ns generalizing ms with|nil=>cases ms<;>rfl| cons a r c=>
   cases ms with|nil=>rfl| cons b q=>
     simp only[dv,PyData.eqvAll,PyData.eqv,c q]
     grind
theorem IsL.ints{H:Hp}:∀{ns:List Int}{xs:List V},IsL H (iT ns) xs↔xs=ns.map V.int|[],xs=>Iff.rfl| n::r,xs=>by constructor;rintro⟨v,c,rfl,b,a⟩;rw[IsL.ints.mp a,(b)];rfl;rintro rfl;exact⟨_,_,J,J,IsL.ints.mpr J⟩
theorem Z2(ns:O Int):(aH (.lst (iT ns))).canLay0=true:=by unfold aH PyData.canLay0;exact uL ns
theorem Vh(ns:O Int):(aH (.lst (iT ns))).depth<=20:=by unfold aH PyData.depth;rw[Jj];decide
theorem sU(ns a:O Int):PyData.eqv (aH (.lst (iT ns))) (aH (.lst (iT a)))=decide (ns=a):=by unfold aH PyData.eqv;exact CO ns a
noncomputable def tt(ps ns:List Int):T:=.tup [.tup (iT ps),.tup (iT ns)]
section
end
section
inductive jN(K:W.Frag)(o i:V)(H:Hp)(Q:VK):Prop|mk:∀p xs k v,o=.ref p->i=.int k->0<=k->aE K H p xs->xs[k.toNat]?=some v->Q v H->jN K o i H Q
theorem vF:qX X (jN X.K):=by intro b s n H o i x y Q I d e h;obtain⟨p,u,k,v,rfl,rfl,m,j,l,q⟩:=h;cases(d);obtain⟨t,rfl⟩:=e;obtain⟨g,r,f,z⟩:=I.list j;obtain⟨w,c,a⟩:=r.get l;have B:=r.length;have A:=Xm;have C:=(c7.mp c).1;exact wpAny_getItem_list f.isList m (by omega) (by simpa using c) ⟨v,H,I,a,q⟩
inductive jO(x:V)(ys:List V)(H:Hp)(Q:VK):Prop|mk:∀(l:Addr)(bs:List Bool),x=.ref l->ys=[.bl true]->H l=some (.lst (bs.map V.bl))->Q (.int ((bs.countP id:Nat):Int)) H->jO x ys H Q
theorem Jf:∀bs:List Bool,(bs.map V.bl).all Wn=true|[]=>rfl|b::r=>by rw[dv,List.all_cons,Jf r];rfl
theorem qA:∀{bs:List Bool}{us:List Value},yl (bs.map V.bl) us->us.map (eP (.bl true))=bs|[],_,.nil=>rfl| b::r,_,.cons h t=>by rw[dv,qA t,pq h J];cases b<;>rfl
theorem ET:mI X "list.count" jO:=by
 intro b s m H x o v p Q I d f h;obtain⟨l,c,rfl,rfl,k,q⟩:=h;cases(d);obtain⟨u,rfl,g⟩:=f.one;cases(g);obtain⟨z,a,n,r,t,e⟩:=I.lstM k;have j:a.toArray.toList.countP (eP (.bl true))=c.countP id:=by
  rw[List.toList_toArray]
  conv=>rhs;rw[<-qA r,List.countP_map]
  rfl
 refine call_meets PySem.F.slot_list_count ⟨_,e,J⟩ PySem.F.entry_list_count (PySem.F.args_list_count_2 _ _) (SeqAt.list_countAt l a.toArray n none #[] (.bool true) (eP (.bl true))) ⟨e,λy i=>Yl (x:=.bl true) J J r (Jf c) y (by simpa using i),?_⟩;rw[j];exact⟨.int _,H,I.tok _,⟨_,J⟩,q⟩
inductive jM(x:V)(ys:List V)(H:Hp)(Q:VK):Prop|mk:∀(l:Addr)(bs:List Bool)(j:Nat),x=.ref l->ys=[.bl true]->H l=some (.lst (bs.map V.bl))->bs[j]?=some true->(∀m,m<j->bs[m]?=some false)->Q (.int ((j:Nat):Int)) H->jM x ys H Q
theorem EV:mI X "list.index" jM:=by
 intro k s F H x G v K Q I p t h;obtain⟨l,i,j,rfl,rfl,D,o,d,q⟩:=h;cases(p);obtain⟨u,rfl,w⟩:=t.one;cases(w);obtain⟨z,a,n,r,B,e⟩:=I.lstM D;rw[ae]at B z;have C:=(c7.mp o).1;have L:=Xm;have b:∀m (c:m<a.toArray.size),i[m]?=some (eP (.bl true) a.toArray[m]):=λm c=>by
  have E:=qA r;have f:m<a.length:=by simpa using c
  have:i[m]?=(a.map (eP (.bl true)))[m]?:=by rw[E]
  rw[this,ba,ao f];simp
 refine call_meets PySem.F.slot_list_index ⟨_,e,J⟩ PySem.F.entry_list_index (PySem.F.args_list_index_2 _ _) (SeqAt.list_indexAt l a.toArray n none #[] (.bool true) (eP (.bl true)) j (by rw[cq];omega) (by omega) ?_ ?_) ⟨e,λy A=>Yl (x:=.bl true) J J r (Jf i) y (by simpa using A),?_⟩;have:=b j (by rw[cq];omega);rw[o]at this;exact(Option.some.inj this).symm;intro m c g;have:=b m c;rw[d m g]at this;exact(Option.some.inj this).symm;exact⟨.int _,H,I.tok _,⟨_,J⟩,q⟩
def GK:XK:=λ_ _ _=>False
theorem ka:Yv (dN X.prog X.w) X GK:=λ_ _ _ _ _ _ _ ⟨_,_,_,_,_,_,_,_,_,_,_,_,_,_,q⟩=>q.elim
end
section
variable{s:Shared}
def xj(h:Heap)(z B to:Addr)(F:Value):Prop:=h.get? z=some {cls:=.type "zip",data:=.fields #[F,.bool false,.bool true,.ref B,.ref to]}
def Yb(h:Heap)(G F B:Addr):Prop:=h.get? G=some {cls:=.type "tuple",data:=.seq #[.ref F,.ref B]}
theorem Ze{t:Y}{v:I}(a:s.heap.IsTupleIter it t i)(c:s.heap.IsTuple t its)(b:its[i]?=some v)(k:∀g,g.IsTupleIter it t (i+1)->Heap.SameBut it s.heap g->Q (some v) {s with heap:=g}):wpAny (model prog w) A (Builtin.SmallTypes.nextOrEnd (.ref it)) Q E s:=by unfold Builtin.SmallTypes.nextOrEnd;exact aa (wpAny_attempt (Q1 a c b λg e d=>ac (k g e d)))
theorem jk{t:Y}(f:A.handled=none)(a:s.heap.IsTupleIter it t i)(d:s.heap.IsTuple t its)(c:its[i]?=none)(k:∀g,Heap.ExtBut it s.heap g->Q none {s with heap:=g}):wpAny (model prog w) A (Builtin.SmallTypes.nextOrEnd (.ref it)) Q E s:=by unfold Builtin.SmallTypes.nextOrEnd;refine aa (wpAny_attempt (Xd f a d c λg x b ⟨o,e,h⟩=>?_));exact aa (fb (T:="StopIteration") (b:=true) ⟨o,e,h⟩ isSubtype_stop (ac (k _ b)))
theorem DU{h f:Y}{v1 v2 a b:I}(R:xj s.heap z ti to .none)(ah:Yb s.heap ti h f)(a7:s.heap.get? to=some {cls:=.type "tuple",data:=.seq #[a,b]})
  (a9:s.heap.IsTupleIter h t1 i) (a8:s.heap.IsTupleIter f t2 i)
  (h1:s.heap.IsTuple t1 a1) (h2:s.heap.IsTuple t2 a2) (e1:a1[i]?=some v1) (e2:a2[i]?=some v2) (nd:[z,ti,to,h,f].Nodup) (nt:t1 ∉ [z,to,h,f]/\t2 ∉ [z,to,h,f])
  (k:∀g,xj g z ti to (rawInt s.heap.objs.size)->Yb g ti h f->g.get? to=some {cls:=.type "tuple",data:=.seq #[v1,v2]}->g.IsTupleIter h t1 (i+1)->g.IsTupleIter f t2 (i+1)-> g.get? s.heap.objs.size=some {cls:=.type "tuple",data:=.seq #[v1,v2]}->g.objs.size=s.heap.objs.size+1->(∀c o,c≠z->c≠to->c≠h->c≠f->s.heap.get? c=some o->g.get? c=some o)->Q (some (.ref s.heap.objs.size)) {s with heap:=g}):
  wpAny (model prog w) A (pyNext (.ref z)) Q E s:=by
 have hT:s.TypeIs (.ref z) "zip":=⟨_,R,J⟩
 simp only[dq,ai,az,or_false,not_or,not_false_eq_true,List.nodup_nil,and_true]at nd;simp only[ai,az,or_false,not_or]at nt;obtain⟨⟨n1,n2,n3,n4⟩,⟨n5,n6,n7⟩,⟨n8,n9⟩,X⟩:=nd;obtain⟨⟨m1,m2,m3,m4⟩,m5,m6,m7,m8⟩:=nt;unfold pyNext;refine aa (wpAny_attempt (wpAny_callSpecial?_slot (name:=Str.ofString "__next__") hT PySem.F.slot_zip_next (cy PySem.F.slot_zip_next hT PySem.F.entry_zip_next ?_ (PySem.F.args_zip_next_1 _))));obtain⟨F,G,d,D,os⟩:=s;show wpAny _ _ (field (.ref z) 2>>=_) _ _ _;refine aa (wpAny_field R J (x:=.bool true) J ?_);show wpAny _ _ (field (.ref z) 3>>=_) _ _ _;refine aa (wpAny_field R J (x:=.ref ti) J ?_);refine aa (wpAny_seqItems ah J ?_);dsimp only;refine aa ?_;unfold Builtin.SmallTypes.ownedTupleIsFree;refine aa (wpAny_field R J (x:=.none) J (ac ?_));simp only[if_true];refine aa (wpAny_rule (aa (wpAny_field R J (x:=.ref to) J ?_)));dsimp only;refine aa (wpAny_setField_rec R (by simp) λg1 P j=>?_);replace j:Heap.SameBut z F g1:=j;replace P:xj g1 z ti to .ellipsis:=P;refine aa ?_;have ag:g1.get? to=some {cls:=.type "tuple",data:=.seq #[a,b]}:=j.extBut _ _ (al n2) a7;have a4:g1.IsTupleIter h t1 i:=a9.extBut j.extBut (al n3);have av:g1.IsTupleIter f t2 i:=a8.extBut j.extBut (al n4);have bf:g1.IsTuple t1 a1:=h1.extBut j.extBut m1;have bd:g1.IsTuple t2 a2:=h2.extBut j.extBut m5;rw[show([Value.ref h,Value.ref f]:O I).zipIdx=[(Value.ref h,0),(Value.ref f,1)]from rfl,List.forIn_cons];refine aa (aa (wpAny_onRaise ?_));show wpAny _ _ (Builtin.SmallTypes.nextOrEnd (.ref h)) _ _ ⟨g1,G,d,D,os⟩;refine Ze a4 bf e1 λg2 a3 m=>?_;replace m:Heap.SameBut h g1 g2:=m;dsimp only;have K:g2.get? to=some {cls:=.type "tuple",data:=.seq #[a,b]}:=m.extBut _ _ n8 ag;refine aa (wpAny_seqItems (s:=⟨g2,G,d,D,os⟩) K J ?_);dsimp only;refine aa (wpAny_updateSeq_pair (s:=⟨g2,G,d,D,os⟩) K λS y l=>?_);replace l:Heap.SameBut to g2 S:=l;replace y:S.get? to=some {cls:=.type "tuple",data:=.seq #[v1,b]}:=y;refine aa (wpAny_letGo (ac ?_));dsimp only;rw[List.forIn_cons];refine aa (aa (wpAny_onRaise ?_));show wpAny _ _ (Builtin.SmallTypes.nextOrEnd (.ref f)) _ _ ⟨S,G,d,D,os⟩;have au:S.IsTupleIter f t2 i:=(av.extBut m.extBut (al X)).extBut l.extBut (al n9);have bb:S.IsTuple t2 a2:=(bd.extBut m.extBut m7).extBut l.extBut m6;refine Ze au bb e2 λg4 ap t=>?_;replace t:Heap.SameBut f S g4:=t;dsimp only;have H:g4.get? to=some {cls:=.type "tuple",data:=.seq #[v1,b]}:=t.extBut _ _ n9 y;refine aa (wpAny_seqItems (s:=⟨g4,G,d,D,os⟩) H J ?_);dsimp only;refine aa (wpAny_updateSeq_pair (s:=⟨g4,G,d,D,os⟩) H λn u p=>?_);replace p:Heap.SameBut to g4 n:=p;replace u:n.get? to=some {cls:=.type "tuple",data:=.seq #[v1,v2]}:=u;refine aa (wpAny_letGo (ac ?_));dsimp only;rw[List.forIn_nil];refine ac ?_;dsimp only;refine aa (wpAny_seqItems (s:=⟨n,G,d,D,os⟩) u J ?_);dsimp only;refine aa (wpAny_newTuple (s:=⟨n,G,d,D,os⟩) ?_);have a6:xj n z ti to .ellipsis:=p.extBut _ _ n2 (t.extBut _ _ n4 (l.extBut _ _ n2 (m.extBut _ _ n3 P)));have L:n.objs.size=F.objs.size:=by rw[p.1,t.1,l.1,m.1,j.1]
 have x:∀c o,c≠z->c≠to->c≠h->c≠f->F.get? c=some o->n.get? c=some o:=λc o q1 q2 q3 q4 e=>p.extBut c o q2 (t.extBut c o q4 (l.extBut c o q2 (m.extBut c o q3 (j.extBut c o q1 e))));have ax:n.IsTupleIter h t1 (i+1):=((a3.extBut l.extBut (al n8)).extBut t.extBut X).extBut p.extBut (al n8);have am:n.IsTupleIter f t2 (i+1):=ap.extBut p.extBut (al n9);have Z:z<F.objs.size:=aq R;dsimp only;rw[L];have af:xj (n.push {cls:=.type "tuple",data:=.seq [v1,v2].toArray}) z ti to .ellipsis:=ak _ a6;have a5:(n.push {cls:=.type "tuple",data:=.seq [v1,v2].toArray}).get? F.objs.size=some {cls:=.type "tuple",data:=.seq #[v1,v2]}:=by rw[<-L];exact bi _ J
 have v:∀c o,n.get? c=some o->(n.push {cls:=.type "tuple",data:=.seq [v1,v2].toArray}).get? c=some o:=λc o e=>ak _ e;have W:(n.push {cls:=.type "tuple",data:=.seq [v1,v2].toArray}).objs.size=F.objs.size+1:=by rw[f9,L]
 show wpAny _ _ (Builtin.SmallTypes.ownedTupleHandOut (.ref z) (.ref F.objs.size)>>=_) _ _ ⟨n.push {cls:=.type "tuple",data:=.seq [v1,v2].toArray},G,d,D,os⟩;generalize n.push {cls:=.type "tuple",data:=.seq [v1,v2].toArray}=g6 at af a5 v W⊢;refine aa ?_;unfold Builtin.SmallTypes.ownedTupleHandOut;refine aa (wpAny_setField_rec af (by simp) λg7 N C=>?_);replace C:Heap.SameBut z g6 g7:=C;replace N:xj g7 z ti to (rawInt F.objs.size):=N;refine wpAny_setField_rec N (by simp) λg8 M B=>?_;replace B:Heap.SameBut z g7 g8:=B;replace M:xj g8 z ti to (rawInt F.objs.size):=M;have U:∀c o,c≠z->n.get? c=some o->g8.get? c=some o:=λc o q e=>B.extBut c o q (C.extBut c o q (v c o e));refine ac ⟨_,J,ac (k g8 M ?_ (U _ _ (al n2) u) ?_ ?_ ?_ ?_ λc o q1 q2 q3 q4 e=>U c o q1 (x c o q1 q2 q3 q4 e))⟩;exact U _ _ (al n1) (x _ _ (al n1) n5 n6 n7 ah);obtain⟨o,e,r⟩:=ax;exact⟨o,U _ _ (al n3) e,r⟩;obtain⟨o,e,r⟩:=am;exact⟨o,U _ _ (al n4) e,r⟩;exact B.extBut _ _ (dw Z) (C.extBut _ _ (dw Z) a5);rw[B.1,C.1,W]
theorem Ct{h f:Y}{a b:I}(y:A.handled=none)(r:xj s.heap z ti to .none)(H:Yb s.heap ti h f)(ag:s.heap.get? to=some {cls:=.type "tuple",data:=.seq #[a,b]})
  (L:s.heap.IsTupleIter h t1 i) (K:s.heap.IsTupleIter f t2 i)
  (h1:s.heap.IsTuple t1 a1) (h2:s.heap.IsTuple t2 a2) (e1:a1[i]?=none) (e2:a2[i]?=none) (U:[z,ti,to,h,f].Nodup) (S:t1 ∉ [z,to,h,f]/\t2 ∉ [z,to,h,f])
  (k:∀g,(∀c o,c≠z->c≠h->c≠f->s.heap.get? c=some o->g.get? c=some o)->Q none {s with heap:=g}):
  wpAny (model prog w) A (pyNext (.ref z)) Q E s:=by
 have hT:s.TypeIs (.ref z) "zip":=⟨_,r,J⟩
 simp only[dq,ai,az,or_false,not_or,not_false_eq_true,List.nodup_nil,and_true]at U;simp only[ai,az,or_false,not_or]at S;obtain⟨⟨n1,n2,X,W⟩,⟨n5,n6,n7⟩,⟨n8,n9⟩,F⟩:=U;obtain⟨⟨m1,m2,m3,m4⟩,Z,m6,m7,m8⟩:=S;unfold pyNext;refine aa (wpAny_attempt (wpAny_callSpecial?_slot (name:=Str.ofString "__next__") hT PySem.F.slot_zip_next (cy PySem.F.slot_zip_next hT PySem.F.entry_zip_next ?_ (PySem.F.args_zip_next_1 _))));obtain⟨hp,gs,d,R,os⟩:=s;show wpAny _ _ (field (.ref z) 2>>=_) _ _ _;refine aa (wpAny_field r J (x:=.bool true) J ?_);show wpAny _ _ (field (.ref z) 3>>=_) _ _ _;refine aa (wpAny_field r J (x:=.ref ti) J ?_);refine aa (wpAny_seqItems H J ?_);dsimp only;refine aa ?_;unfold Builtin.SmallTypes.ownedTupleIsFree;refine aa (wpAny_field r J (x:=.none) J (ac ?_));simp only[if_true];refine aa (wpAny_rule (aa (wpAny_field r J (x:=.ref to) J ?_)));dsimp only;refine aa (wpAny_setField_rec r (by simp) λg1 p j=>?_);replace j:Heap.SameBut z hp g1:=j;replace p:xj g1 z ti to .ellipsis:=p;refine aa ?_;have v:g1.IsTupleIter h t1 i:=L.extBut j.extBut (al X);have u:g1.IsTupleIter f t2 i:=K.extBut j.extBut (al W);have P:g1.IsTuple t1 a1:=h1.extBut j.extBut m1;have N:g1.IsTuple t2 a2:=h2.extBut j.extBut Z;rw[show([Value.ref h,Value.ref f]:O I).zipIdx=[(Value.ref h,0),(Value.ref f,1)]from rfl,List.forIn_cons];refine aa (aa (wpAny_onRaise ?_));show wpAny _ _ (Builtin.SmallTypes.nextOrEnd (.ref h)) _ _ ⟨g1,gs,d,R,os⟩;refine jk y v P e1 λg2 l=>?_;replace l:Heap.ExtBut h g1 g2:=l;dsimp only;have G:xj g2 z ti to .ellipsis:=l _ _ X p;refine aa (wpAny_setField_rec (s:=⟨g2,gs,d,R,os⟩) G (by simp) λB af m=>?_);replace m:Heap.SameBut z g2 B:=m;have t:B.IsTupleIter f t2 i:=(u.extBut l (al F)).extBut m.extBut (al W);have M:B.IsTuple t2 a2:=(N.extBut l m7).extBut m.extBut Z;refine aa ?_;show wpAny _ _ (forIn [(Value.ref f,1)] PUnit.unit _>>=_) _ _ _;refine aa ?_;rw[List.forIn_cons];refine aa ?_;dsimp only;refine aa (jk y t M e2 λg4 q=>?_);replace q:Heap.ExtBut f B g4:=q;simp only[Option.isSome_none,Bool.false_eq_true,if_false];refine ac ?_;dsimp only;rw[List.forIn_nil];refine ac (aa (wpAny_rule ?_));have n:∀c o,c≠z->c≠h->c≠f->hp.get? c=some o->g4.get? c=some o:=λc o x D C e=>q c o C (m.extBut c o x (l c o D (j.extBut c o x e)));unfold Builtin.SmallTypes.stopIteration;show wpAny _ _ (newExc (.type "StopIteration") []>>=_) _ _ _;refine aa ?_;simp only[newExc,newTuple];refine aa (dg ?_ (by size_fits));refine aa (m:=firstArgMember _ _) (wpAny_of_eq (a:=Value.none) (by first|rfl|(simp only[firstArgMember];rfl)) ?_);refine dg ?_ (by size_fits);simp only[raiseNew];refine aa (wpAny_handled ?_);first|rw[show A.in1.handled=none from y]|rw[y]
 refine aa (ac (wpAny_throw ?_));exact aa (fb (T:="StopIteration") (b:=true) ⟨_,bi _ J,J⟩ isSubtype_stop (ac (k _ λc o x D C e=>ak _ (ak _ (n c o x D C e)))))
theorem Wk{b:I}{Q:I->Shared->Prop}(a:xj s.heap z ti to b)(h:Q (.ref z) s):wpAny (model prog w) A (pyIter (.ref z)) Q E s:=
 have hT:s.TypeIs (.ref z) "zip":=⟨_,a,J⟩
 wpAny_pyIter_slot hT PySem.F.slot_zip_iter (cy PySem.F.slot_zip_iter hT PySem.F.entry_zip_iter (show wpAny _ _ (ret (.ref z)) _ _ s from ac ⟨_,J,"zip",_,hT,PySem.F.slot_zip_next.lookup,h⟩) (PySem.F.args_zip_iter_1 _))
theorem Kk{d}{T:Y}{Q:Unit->Shared->Prop}(c:xj s.heap z ti to (rawInt T))(e:∀h',xj h' z ti to .none->Heap.SameBut z s.heap h'->Q () {s with heap:=h'}):wpAny (model prog w) A (letOwnedTupleGo (.Tuple cQ d pos) (.ref z) (.ref T)) Q E s:=by unfold letOwnedTupleGo;refine aa (wpAny_load c ?_);refine(show wpAny _ _ (if(["enumerate","zip","dict_itemiterator","dict_reverseitemiterator","odict_iterator","itertools.zip_longest","itertools.pairwise"].contains "zip" && (#[rawInt T,.bool false,.bool true,.ref ti,.ref to]:Array I)[0]?==some (rawInt T))=true then _ else _) Q E s from ?_);rw[if_pos (by simp)];refine aa (wpAny_rule ?_);exact wpAny_setField_rec c (by simp) λh' a b=>e h' a b
end
noncomputable def qQ(a b:Addr):It:=⟨λi H=>∃xs ys x y,H a=some (.tup xs)/\H b=some (.tup ys)/\xs[i]?=some x/\ys[i]?=some y,λi H v H'=>∃p x y,v=.ref p/\H p=none/\H'=upd H p (.tup [x,y])/\(∀xs,H a=some (.tup xs)->xs[i]?=some x)/\∀ys,H b=some (.tup ys)->ys[i]?=some y,λi H=>∃xs ys,H a=some (.tup xs)/\H b=some (.tup ys)/\xs.length<=i/\ys.length<=i⟩
theorem Xw{h:Heap}(b:aZ P w H h)(e:H a=some (.tup xs)):∃its:O I,yl xs its/\h.IsTuple a its.toArray:=by
 obtain⟨_,its,r,t,_⟩:=(show wk P w H h a (.tup xs)from b a _ e)
 exact⟨its,r,t⟩
theorem Ek{K:W.Frag}{k1}(a b z F to j f:Y)(R:[z,F,to,j,f].Nodup)(hb:sizeLine≥2):dD P w K (.Tuple cQ k1 pos) (qQ a b) [z,F,to,j,f] z (λi h=>xj h z F to .none/\Yb h F j f/\(∃u v,h.get? to=some {cls:=.type "tuple",data:=.seq #[u,v]})/\h.IsTupleIter j a i/\h.IsTupleIter f b i) where
 mem:=by simp
 obj:=λi h st c l=>by
  obtain⟨S,C,⟨u,v,B⟩,h1,h2⟩:=st;simp only[ai,az,or_false]at l;rcases l with rfl|rfl|rfl|rfl|rfl;exact⟨_,S,λv q=>by have q':Data.fields _=Data.cell v:=q;cases q'⟩
  exact⟨_,C,λv q=>by have q':Data.seq _ _=Data.cell v:=q;cases q'⟩
  exact⟨_,B,λv q=>by have q':Data.seq _ _=Data.cell v:=q;cases q'⟩
  obtain⟨o,e1,c,d⟩:=h1;exact⟨o,e1,λv q=>by rw[d]at q;cases q⟩;obtain⟨o,e1,c,d⟩:=h2;exact⟨o,e1,λv q=>by rw[d]at q;cases q⟩
 keep:=λi h h' st k=>by obtain⟨S,C,⟨u,v,B⟩,⟨o1,e1,r1⟩,o2,e2,r2⟩:=st;exact⟨k z (by simp) _ S,k F (by simp) _ C,⟨u,v,k to (by simp) _ B⟩,⟨o1,k j (by simp) o1 e1,r1⟩,o2,k f (by simp) o2 e2,r2⟩
 item:=by
  intro X hP hw hK l i af s σ H E I Q st hg;subst hP hw hK;obtain⟨xs,ys,x,y,L,G,hx,hy⟩:=hg;obtain⟨a3,rv,p⟩:=Xw I.hok L;obtain⟨ax,ag,q⟩:=Xw I.hok G;obtain⟨u,hu,ru⟩:=rv.get hx;obtain⟨v,hv,av⟩:=ag.get hy;obtain⟨S,C,⟨u0,v0,B⟩,Z,U⟩:=st;have ff:∀c∈[z,F,to,j,f],H c=none:=λc l=>(Q c l).1;have ne:∀{c d:Y}{o:HO},H c=some o->d∈[z,F,to,j,f]->c≠d:=λ{c d o} e hd q=>by rw[q,ff d hd]at e;cases e
  refine DU S C B Z U p q (v1:=u) (v2:=v) (by simpa using hu) (by simpa using hv) R ⟨λm=>?_,λm=>?_⟩ λg gz a7 a6 a9 a8 gT bb gk=>?_;simp only[ai,az,or_false]at m;rcases m with m|m|m|m<;>exact ne L (by simp) m;simp only[ai,az,or_false]at m;rcases m with m|m|m|m<;>exact ne G (by simp) m;refine⟨.ref s.heap.objs.size,J,Kk gz λg' a5 D=>?_⟩;replace D:Heap.SameBut z g g':=D;have M:H s.heap.objs.size=none:=I.hok.fresh (aj _);have a4:∀c∈[z,F,to,j,f],c<s.heap.objs.size:=λc l=>by simp only[ai,az,or_false]at l;rcases l with rfl|rfl|rfl|rfl|rfl;exact aq S;exact aq C;exact aq B;obtain⟨o,e,_⟩:=Z;exact aq e;obtain⟨o,e,_⟩:=U;exact aq e
  have ap:∀c∈[z,F,to,j,f],s.heap.objs.size≠c:=λc l=>dw (a4 c l);have t:∀c o,c ∉ [z,to,j,f]->s.heap.get? c=some o->g'.get? c=some o:=λc o n e=>by simp only[ai,az,or_false,not_or]at n;exact D.extBut c o n.1 (gk c o n.1 n.2.1 n.2.2.1 n.2.2.2 e)
  have au:g'.get? s.heap.objs.size=some {cls:=.type "tuple",data:=.seq #[u,v]}:=D.extBut _ _ (ap z (by simp)) gT;have A:∀c o,H c=some o->c ∉ [z,to,j,f]:=λc o e m=>ne e (show c∈[z,F,to,j,f] by simp only[ai,az,or_false]at m⊢;rcases m with m|m|m|m<;>simp[m]) J
  have I1:Inv X af σ (upd H s.heap.objs.size (.tup [x,y])) {s with heap:=g',toks:=s.toks}:=by
   refine I.step (g':=s.gens) (d':=s.drawn) (ch:=[z,to,j,f]) (λc l=>?_) (λc o n1 n2 N e _=>t c o N e)
    (λc o n1 n2 N e _=>⟨o.slots,t c o N e⟩) (λc o N e n=>?_) (λc o N e=>⟨o,t c o N e⟩)
    (λc zs e=>by rw[zi (zj e M)];exact e) (λc o zs e=>by rw[zi (zj e M)];exact e) (λc ps e=>⟨#[],by rw[zi (zj e M),e];simp⟩) (λm hm=>?_) (λc ob e=>?_) I.bare
   obtain⟨f0,f1,f2,f3,f4,f5⟩:=Q c (by simp only[ai,az,or_false]at l⊢;rcases l with l|l|l|l<;>simp[l])
   exact⟨f3,f1,f4,f5⟩;rw[zi (bh (aq e))];exact n;obtain⟨o,es,ep,ah,r⟩:=hm;refine⟨o,es,ep,t _ o (λm=>?_) ah,r⟩;simp only[ai,az,or_false]at m;rcases m with m|m|m|m;exact(Q z (by simp)).2.1 m.symm;exact(Q to (by simp)).2.1 m.symm;exact(Q j (by simp)).2.1 m.symm;exact(Q f (by simp)).2.1 m.symm;by_cases am:c=s.heap.objs.size;subst am;rw[ze]at e;cases e;exact⟨by show 2<=sizeLine;omega,[u,v],.cons ru (.cons av .nil),⟨_,au,J,_,J⟩,λq hq=>by have hq:g'.get? s.heap.objs.size=some q:=hq;rw[au]at hq;cases hq;rfl⟩
   rw[zi am]at e;refine(I.hok c ob e).stay (λd o l q=>?_) (λd q=>by rw[zi (zj q M)];exact q) λd zs q=>by rw[zi (zj q M)];exact q
   rcases l with rfl|l;exact t d o (A d _ e) q;exact t d o (A d _ l) q
  refine⟨.ref s.heap.objs.size,_,I1,J,⟨_,x,y,J,M,J,λzs e=>by rw[L]at e;cases e;exact hx,λzs e=>by rw[G]at e;cases e;exact hy⟩,⟨a5,D.extBut _ _ ?_ a7,⟨u,v,D.extBut _ _ ?_ a6⟩,a9.extBut D.extBut ?_,a8.extBut D.extBut ?_⟩,λc l=>?_⟩;simp only[dq,ai,az,or_false,not_or]at R;exact al R.1.1;simp only[dq,ai,az,or_false,not_or]at R;exact al R.1.2.1;simp only[dq,ai,az,or_false,not_or]at R;exact al R.1.2.2.1;simp only[dq,ai,az,or_false,not_or]at R;exact al R.1.2.2.2;rw[zi (al (ap c l))];exact ff c l
 done:=by
  intro X hP hw hK l i af s σ H E I Q st hg;subst hP hw hK;obtain⟨xs,ys,L,G,hx,hy⟩:=hg;obtain⟨a3,rv,p⟩:=Xw I.hok L;obtain⟨ax,ag,q⟩:=Xw I.hok G;obtain⟨S,C,⟨u0,v0,B⟩,Z,U⟩:=st;have ff:∀c∈[z,F,to,j,f],H c=none:=λc l=>(Q c l).1;have ne:∀{c d:Y}{o:HO},H c=some o->d∈[z,F,to,j,f]->c≠d:=λ{c d o} e hd q=>by rw[q,ff d hd]at e;cases e
  have l1:=rv.length;have l2:=ag.length;refine Ct (I.ok.hd l) S C B Z U p q (by simp;omega) (by simp;omega) R ⟨λm=>?_,λm=>?_⟩ λg gk=>⟨J,?_⟩
  simp only[ai,az,or_false]at m;rcases m with m|m|m|m<;>exact ne L (by simp) m;simp only[ai,az,or_false]at m;rcases m with m|m|m|m<;>exact ne G (by simp) m;have t:∀c o,c ∉ [z,j,f]->s.heap.get? c=some o->g.get? c=some o:=λc o n e=>by simp only[ai,az,or_false,not_or]at n;exact gk c o n.1 n.2.1 n.2.2 e
  have A:∀c o,H c=some o->c ∉ [z,j,f]:=λc o e m=>ne e (show c∈[z,F,to,j,f] by simp only[ai,az,or_false]at m⊢;rcases m with m|m|m<;>simp[m]) J
  refine I.step (g':=s.gens) (t':=s.toks) (d':=s.drawn) (ch:=[z,j,f]) (λc l=>?_) (λc o n1 n2 N e _=>t c o N e)
   (λc o n1 n2 N e _=>⟨o.slots,t c o N e⟩) (λ_ _ _ _ n=>n) (λc o N e=>⟨o,t c o N e⟩)
   (λ_ _ e=>e) (λ_ _ _ e=>e) (λc ps e=>⟨#[],by rw[e];simp⟩) (λm hm=>?_) (λc ob e=>?_) I.bare
  obtain⟨f0,f1,f2,f3,f4,f5⟩:=Q c (by simp only[ai,az,or_false]at l⊢;rcases l with l|l|l<;>simp[l])
  exact⟨f3,f1,f4,f5⟩;obtain⟨o,es,ep,ah,r⟩:=hm;refine⟨o,es,ep,t _ o (λm=>?_) ah,r⟩;simp only[ai,az,or_false]at m;rcases m with m|m|m;exact(Q z (by simp)).2.1 m.symm;exact(Q j (by simp)).2.1 m.symm;exact(Q f (by simp)).2.1 m.symm;refine(I.hok c ob e).stay (λd o l q=>?_) (λd q=>q) λd zs q=>q;rcases l with rfl|l;exact t d o (A d _ e) q;exact t d o (A d _ l) q
 self:=λ_ _ _ _ _ st h=>by obtain⟨S,_⟩:=st;exact Wk S h
noncomputable def zg(h:Heap)(F B:Addr):Heap:=((((h.push {cls:=.type "tuple_iterator",data:=.fields #[.ref F,.int 0 0]}).push {cls:=.type "tuple_iterator",data:=.fields #[.ref B,.int 0 0]}).push {cls:=.type "tuple",data:=.seq #[.ref h.objs.size,.ref (h.objs.size+1)]}).push {cls:=.type "tuple",data:=.seq #[.none,.none]}).push {cls:=.type "zip",data:=.fields #[.none,.bool false,.bool true,.ref (h.objs.size+2),.ref (h.objs.size+3)]}
theorem zX(h:Heap)(i d:Y):xj (zg h i d) (h.objs.size+4) (h.objs.size+2) (h.objs.size+3) .none/\Yb (zg h i d) (h.objs.size+2) h.objs.size (h.objs.size+1)/\(zg h i d).get? (h.objs.size+3)=some {cls:=.type "tuple",data:=.seq #[.none,.none]}/\
  (zg h i d).IsTupleIter h.objs.size i 0/\(zg h i d).IsTupleIter (h.objs.size+1) d 0/\(zg h i d).objs.size=h.objs.size+5/\∀c o,h.get? c=some o->(zg h i d).get? c=some o:=by
 have b:∀(g:Heap)(o:Obj)(n:Nat),g.objs.size=n->o.isFreed=false->(g.push o).get? n=some o:=λg o n e f=>by rw[<-e];exact bi _ f
 have a:∀(g:Heap)(o:Obj)(n:Nat),g.objs.size=n->(g.push o).objs.size=n+1:=λg o n e=>by rw[f9,e]
 refine⟨?_,?_,?_,?_,?_,?_,λc o e=>?_⟩;exact b _ _ _ (a _ _ _ (a _ _ _ (a _ _ _ (a _ _ _ J)))) J;exact ak _ (ak _ (b _ _ _ (a _ _ _ (a _ _ _ J)) J));exact ak _ (b _ _ _ (a _ _ _ (a _ _ _ (a _ _ _ J))) J);exact⟨_,ak _ (ak _ (ak _ (ak _ (b _ _ _ J J)))),J,J⟩;exact⟨_,ak _ (ak _ (ak _ (b _ _ _ (a _ _ _ J) J))),J,J⟩;exact a _ _ _ (a _ _ _ (a _ _ _ (a _ _ _ (a _ _ _ J))));exact ak _ (ak _ (ak _ (ak _ (ak _ e))))
section
variable{s:Shared}
theorem BO(a b:Y)(q p:Array I)(m l:Nat)(v u:Option Y)(t r:Array (Option I)):Meets (Builtin.«zip.__new__» ⟨[.type "zip",.ref a,.ref b],[("strict",.bool true)]⟩) (λ_ R s=>s.heap.get? a=some {cls:=.type "tuple",dict:=v,data:=.seq q m,slots:=t}/\s.heap.get? b=some {cls:=.type "tuple",dict:=u,data:=.seq p l,slots:=r}/\ R (.ok (.ret (.ref (s.heap.objs.size+4)))) {s with heap:=zg s.heap a b}):=
 .of_wp λk w A R s h=>by
  obtain⟨o,g,d,j,os⟩:=s;obtain⟨e,c,h⟩:=h;have n:=sub_zip;have i:Heap.IsTuple (Shared.heap ⟨o,g,d,j,os⟩) a q:=⟨_,e,J,m,J⟩
  have f:Heap.IsTuple (Shared.heap ⟨o.push {cls:=.type "tuple_iterator",data:=.fields #[.ref a,.int 0 0]},g,d,j,os⟩) b p:=⟨_,ak _ c,J,l,J⟩
  wp_walk using wpAny_pyIter_tuple i,wpAny_pyIter_tuple f
  refine⟨_,J,?_⟩;simp only[zg,f9,Nat.add_assoc,Nat.reduceAdd]at h⊢;exact h
theorem rE(a b c:I):argsOk "object.__init__" ⟨[a,b,c],[("strict",.bool true)]⟩:=by unfold argsOk;kernel_rfl
/-- T(a, b, strict=True), T's own __new__ and object's __init__ -/
theorem cZk {T nw : String} {a b : Value} {Q : Value → Shared → Prop} (C : TypeCalled T nw "object.__init__") (ck : checkTypeCall T ⟨[a, b], [("strict", .bool true)]⟩ = pure ()) (ag : ∀ o, argsOk "object.__init__" ⟨[o, a, b], [("strict", .bool true)]⟩) (own : (some nw != some "object.__new__") = true)
    (M : codeAny (model prog w) A.in1 (.call (.builtin nw) ⟨[.type T, a, b], [("strict", .bool true)]⟩) (wants (fun o t => t.TypeIs o T ∧ Q o t) E) s) : wpAny (model prog w) A (call (.type T) [a, b] [("strict", .bool true)]) Q E s := by
  obtain ⟨q, r, m1⟩ := C.mro; have m2 := C.made; have m3 := C.sub; have m4 := C.notType; have m5 := C.canCreate; have m6 := C.init.lookup
  refine wpAny_call (codeAny_of_tree (show wpAny _ _ (callAny (.type T) _) _ _ _ from wpAny_pure ⟨Code.quiet_builtin _ (by decide +kernel), codeAny_builtin PySem.F.entry_type_call ?_⟩)); rw [Around.under_plain (weight_type_call_type T _ _) (units_type_call_type T _ _)]
  repeat any_goals first | assumption | wp_step
  refine codeAny_mono M fun u t z => ?_
  cases u with
  | error e => exact z
  | ok f => cases f with
    | ret o =>
      obtain ⟨ty, z⟩ := (show t.TypeIs o T ∧ Q o t from z); have m7 := C.init.bind o
      repeat any_goals first | assumption | wp_step
      refine codeAny_mono (codeAny_call_builtin (R := wants (fun v x => v = .none ∧ x = t) E) C.init.plain PySem.F.entry_object_init (C.init.check _ _ _ _ _ _ _ _ ty (ag o) ?_)) fun u' t' z' => ?_
      · repeat any_goals first | assumption | wp_step
        exact ⟨rfl, rfl⟩
      cases u' with
      | error e => exact z'
      | ok f' => cases f' with
        | ret v =>
          obtain ⟨rfl, rfl⟩ := (show v = .none ∧ t' = t from z')
          repeat any_goals first | assumption | wp_step
        | _ => exact z'.elim
    | _ => exact z.elim
theorem DX{Q:Value->Shared->Prop}(Z:s.heap.IsTuple t1 a1)(X:s.heap.IsTuple t2 a2)(k:∀g,xj g (s.heap.objs.size+4) (s.heap.objs.size+2) (s.heap.objs.size+3) .none->Yb g (s.heap.objs.size+2) s.heap.objs.size (s.heap.objs.size+1)->g.get? (s.heap.objs.size+3)=some {cls:=.type "tuple",data:=.seq #[.none,.none]}-> g.IsTupleIter s.heap.objs.size t1 0->g.IsTupleIter (s.heap.objs.size+1) t2 0->g.objs.size=s.heap.objs.size+5->(∀c o,s.heap.get? c=some o->g.get? c=some o)->Q (.ref (s.heap.objs.size+4)) {s with heap:=g}):
  wpAny (model prog w) A (call (.type "zip") [.ref t1,.ref t2] [("strict",.bool true)]) Q E s:=by
 have f:=PySem.F.called_zip;obtain⟨c,tl,L⟩:=f.mro;have v:=f.made;have K:=f.sub;have U:checkTypeCall "zip" ⟨[.ref t1,.ref t2],[("strict",.bool true)]⟩=pure ():=by kernel_rfl
 have z:checkBuiltinCall "zip.__new__" ⟨[.type "zip",.ref t1,.ref t2],[("strict",.bool true)]⟩=pure ():=by kernel_rfl
 obtain⟨⟨c1,F,C,t⟩,y,m,H,j⟩:=Z;obtain⟨⟨c2,D,B,q⟩,x,l,G,i⟩:=X;replace m:c1=.type "tuple":=m;replace l:c2=.type "tuple":=l;replace j:C=.seq a1 H:=j;replace i:B=.seq a2 G:=i;subst m l j i
 obtain⟨M,f2,f3,f4,f5,f6,f7⟩:=zX s.heap t1 t2
 exact cZk f U (λ_=>rE _ _ _) (by decide) (codeAny_call_builtin f.plain PySem.F.entry_zip_new (wpAny_of_eq z (BO t1 t2 a1 a2 H G F D t q prog w A.in1 _ s ⟨y,x,⟨⟨_,M,J⟩,k _ M f2 f3 f4 f5 f6 f7⟩⟩)))
end
theorem uC:bootBuiltins "zip"=some (.type "zip"):=by decide+kernel
section
inductive jS(R:It->Hp->Prop)(vs:List V)(H1:Hp):Prop|mk:∀a b xs ys,vs=[.ref a,.ref b]->H1 a=some (.tup xs)->H1 b=some (.tup ys)->R (qQ a b) H1->jS R vs H1
def yD(B:TA):TI:=λσ H R=>B σ H λvs H1=>jS R vs H1
theorem AI{k1 F}{cK D L:Pos}{a b:Expr}{i:TA}{p:Pos}(S:Gl X "zip")(P:X.mg "zip"=none)(U:PA X [a,b] i)(hs:starEach [a,b] X.env=(false,eval a X.env)::starEach [b] X.env:=by rfl)(hpl:((backTo pos (starEach [a,b] X.env)).any (·.1))=false:=by rfl):PI X (.Tuple cQ k1 cK) (.Call (.Name "zip" p) [a,b] [⟨some "strict",.Constant (.bool true) F D,L⟩] pos) (yD i):=by
 intro e s n H R I h;refine wpAny_Call_Name_kw (Xn I S P uC ?_);refine W.callWith_of (P:=λ_=>True) (by rw[hpl];rfl) (λh _=>⟨.machine,.inr (.inl J),?_⟩) ?_;exact λA Q E s _ q=>(show wpAny _ A (pure Keeper.machine) Q E s from ac q)
 have m:backTo pos (starEach [a,b] X.env)=(false,eval a X.env)::backTo pos (starEach [b] X.env):=by rw[hs];rfl
 rw[m];refine evalArgs_kwB J ?_;rw[<-m];refine aF (U pos e s n H _ I h) λus d ⟨vs,H1,f,y,z⟩=>?_;obtain⟨r,o,xs,ys,rfl,N,M,q⟩:=z;refine kws_cons (Constant_bool (kws_nil ⟨trivial,?_⟩));cases y with| cons x u=>
   cases u with| cons w v=>
     cases v;cases x;cases w;obtain⟨K,rv,C⟩:=Xw f.hok N;obtain⟨G,t,B⟩:=Xw f.hok M;refine DX C B λg l f2 f3 f4 f5 f6 Z=>?_;refine Wk l ?_;refine⟨d.heap.objs.size+4,[d.heap.objs.size+4,d.heap.objs.size+2,d.heap.objs.size+3,d.heap.objs.size,d.heap.objs.size+1],_,_,H1,J,f.kept (t':=d.toks) Z,Ek r o _ _ _ _ _ (by simp) (by rw[sizeLine_eq];omega),⟨l,f2,⟨_,_,f3⟩,f4,f5⟩,λc k=>?_,q⟩;have j:d.heap.objs.size<=c:=by simp only[ai,az,or_false]at k;rcases k with rfl|rfl|rfl|rfl|rfl<;>omega
     exact f.fpOk j (f.hok.fresh j)
end
section
variable{b:Addr}{zs:List V}{g:TG}{tc:TT}{te:TE}{k:Nat}{Q:VK}
theorem Aq(F:xs.length=zs.length)(Pv:Nat->O V->Hp->Prop)(C:Pv 0 [] H)(w:∀i ys H,i<=xs.length->Pv i ys H->H a=some (.tup xs)/\H b=some (.tup zs)/\ys.length<=sizeLine)(hs:∀i x z ys H p,xs[i]?=some x->zs[i]?=some z->Pv i ys H->H p=none->g (.ref p) (bG k cap σ) (upd H p (.tup [x,z])) λc H2=>tc c H2 λb q=>if b=true then te c q λy D=>Pv (i+1) (ys++[y]) D else Pv (i+1) ys q)
  (B:∀ys H,Pv xs.length ys H->∀p,H p=none->Q (.ref p) (upd H p (.lst ys))):cB (qQ a b) g tc te k cap σ H Q:=by
 refine⟨λi m ys H=>m=xs.length-i/\i<=xs.length/\Pv i ys H,⟨xs.length,by simp,cm _,C⟩,?_⟩;rintro i m ys H ⟨rfl,A,p⟩;obtain⟨h,f,o⟩:=w i ys H A p;by_cases d:i<xs.length;have n:i<zs.length:=by omega
 refine .inr ⟨⟨xs,zs,xs[i],zs[i],h,f,by simp[d],by simp[n]⟩,o,Pv (i+1),λr E j=>⟨xs.length-(i+1),by omega,J,d,j⟩,λx E y=>?_⟩;obtain⟨j,t,s,rfl,l,rfl,v,u⟩:=y;exact hs i t s ys H j (v xs h) (u zs f) p l;have e:i=xs.length:=by omega
 subst e;exact .inl ⟨⟨xs,zs,h,f,aj _,by omega⟩,o,B ys H p⟩
end
section
theorem Xs(a:Nat->Nat->Bool):∀k,argBest a k<=k|0=>aj 0| k+1=>by have:=Xs a k;show(if a (k+1) (argBest a k)then k+1 else argBest a k)<=k+1;split<;>omega
theorem Xe(f:Nat->Int):∀k i,i<=k->f (argBest (λi j=>decide (f i<f j)) k)<=f i
 | 0,i,h=>by
   have:i=0:=by omega
   subst this;exact cg _
 | k+1,i,h=>by
   have b:=Xe f k;have e:argBest (λi j=>decide (f i<f j)) (k+1)=if decide (f (k+1)<f (argBest (λi j=>decide (f i<f j)) k))=true then k+1 else argBest (λi j=>decide (f i<f j)) k:=rfl
   rw[e];split
   rename_i c
   have c:=bw c;by_cases a:i=k+1;subst a;exact cg _;have:=b i (by omega);omega
   rename_i c
   have c:¬(f (k+1)<f (argBest (λi j=>decide (f i<f j)) k)):=λz=>c (aw z);by_cases a:i=k+1;subst a;omega;exact b i (by omega)
theorem Ku(W:X.calm=true):jt X (.builtin "min") (λxs H Q=>∃(a:Y)(ns:O Int),xs=[.ref a]/\aE X.K H a (ns.map V.int)/\ns≠[]/\∀m,m∈ns->(∀n∈ns,m<=n)->Q (.int m) H):=by
 intro B s σ H xs us Q I r h;obtain⟨a,ns,rfl,L,Z,q⟩:=h;obtain⟨u,rfl,F⟩:=jx r;cases F;obtain⟨c,A,p,hz⟩:=I.list L;have k:a<s.heap.objs.size:=by obtain⟨_,e,_⟩:=p.isList;exact aq e
 have R:=A.length;rw[ae]at R;have M:0<ns.length:=by cases ns with|nil=>exact absurd J Z|cons=>simp
 have f:∀i v,c[i]?=some v->∃t,v=Value.int (ns.getD i 0) t:=λi v d=>by have l:i<c.length:=(c7.mp d).1;obtain⟨u,K,G⟩:=A.get (i:=i) (x:=V.int (ns.getD i 0)) (by rw[ba,ar,ao (by omega)];rfl);rw[K]at d;cases d;exact G
 refine call_min_walk (wpAny_pyIter_list p.isList ?_);refine⟨s.heap.objs.size,_,_,_,_,_,λi j=>decide (ns.getD i 0<ns.getD j 0),J,Walks.list (A:=X.A.in1) (show X.A.in1.handled=none from I.ok.hd W) s.heap.objs.size a (bh k) c.toArray,⟨⟨_,bi _ J,J,J⟩,p.isList.push _⟩,?_,by rw[cq];omega,?_,λv h' tk d S=>?_⟩;intro b w;simp only[ai,az,or_false,Heap.push]at w⊢;rcases w with rfl|rfl;simp;simp only[Array.size_push];exact Nat.lt_succ_of_lt k;intro i j E D s' Q' E' l U y;obtain⟨t,rfl⟩:=f i E (by simpa using l);obtain⟨t',rfl⟩:=f j D (by simpa using U);exact HT.mq _ _ _ _ _ _ _ _ _ _ y;have x:c.toArray.size=ns.length:=by rw[cq];omega
 rw[x]at d;obtain⟨t,rfl⟩:=f (argBest (λi j=>decide (ns.getD i 0<ns.getD j 0)) (ns.length-1)) v (by rw[List.getElem?_toArray]at d;exact d);clear d;generalize C:argBest (λi j=>decide (ns.getD i 0<ns.getD j 0)) (ns.length-1)=m;have P:m<=ns.length-1:=by rw[<-C];exact Xs _ _
 have g:m<ns.length:=by omega
 refine⟨.int (ns.getD m 0),H,I.kept λb o e=>S b o (λw=>?_) (ak _ e),⟨_,J⟩,q _ ?_ λn N=>?_⟩;have z:b=s.heap.objs.size:=by simpa using w
 exact absurd (aq e) (by rw[z];exact cx _);rw[ar,ao g];exact List.getElem_mem g;obtain⟨i,l,rfl⟩:=fj.mp N;have:=Xe (λi=>ns.getD i 0) (ns.length-1) i (by omega);rw[C]at this;have e:ns.getD i 0=ns[i]:=by rw[ar,ao l];rfl
 rw[<-e];exact this
inductive eX(x:V)(ys:List V)(H:Hp)(Q:VK):Prop|mk:∀(ts:List T)(u:T)(y:V),ys=[y]->Is H (.tup ts) x->Is H u y->(∀t∈ts,(aH t).canLay0=true)->(aH u).canLay0=true->(aH u).depth<=20->Q (.int ((ts.countP λt=>PyData.eqv (aH t) (aH u):Nat):Int)) H->eX x ys H Q
theorem tU(A:Around)(s:Shared)(k:A.units+40<cLine){x:Value}{d:PyData}{bs:List Addr}(c:Reads s.heap x d bs)(g:d.canLay0=true)(o:d.depth<=20){e:Value->Bool}(he:∀u t as,Reads s.heap u (aH t) as->(aH t).canLay0=true->e u=PyData.eqv (aH t) d):∀{us:List Value}{a:List T}{as:List Addr},ReadsAll s.heap us (wv a) as->PyData.canLayAll0 (wv a)=true->(∀u∈us,SeqAt.EqAt A s u x (e u))/\us.countP e=a.countP λt=>PyData.eqv (aH t) d
 | us,[],as,r,_=>by unfold wv at r;cases r;exact⟨λu h=>(by simp at h),J⟩
 | us,t::a,as,r,l=>by
   unfold wv at r l;have l:(aH t).canLay0=true/\PyData.canLayAll0 (wv a)=true:=by simpa[PyData.canLayAll0]using l
   cases r with
   | cons f j=>obtain⟨n,m⟩:=tU A s k c g o he j l.2;have i:=he _ _ _ f l.1;refine⟨λu b=>?_,?_⟩;rcases ai.mp b with rfl|b;rw[i];exact SeqAt.eqAt_reads _ _ A s _ _ _ _ f c l.1 g (by omega);exact n u b;rw[List.countP_cons,List.countP_cons,m,i]
open Classical in
theorem EU(hu:X.A.units+64<cLine):mI X "tuple.count" eX:=by
 intro pins s σ H x xs v us Q I rx rv h;obtain⟨ts,u,y,rfl,hx,hy,lts,lu,du,q⟩:=h;obtain⟨a,zs,rfl,ha,hz⟩:=hx;cases(show v=Value.ref a from rx);obtain⟨u',rfl,ru⟩:=rv.one;obtain⟨bs,rb⟩:=jp I lu hy ru;obtain⟨its,r,ht,hzl⟩:=I.tuple (aD.of ha);have la:PyData.canLayAll0 (wv ts)=true:=by clear hz q;induction ts with|nil=>rfl| cons t ts ih=>unfold wv;simp only[PyData.canLayAll0,bj];exact⟨lts t c8,ih λt' h=>lts t' (ce _ h)⟩
 obtain⟨as,ra⟩:=ku I la hz r;let e:Value->Bool:=λz=>decide (∃t as,Reads s.heap z (aH t) as/\(aH t).canLay0=true/\PyData.eqv (aH t) (aH u)=true);have he:∀z t as,Reads s.heap z (aH t) as->(aH t).canLay0=true->e z=PyData.eqv (aH t) (aH u):=λz t as rz lz=>by rw[Bool.eq_iff_iff];refine⟨λh=>?_,λh=>aw ⟨t,as,rz,lz,h⟩⟩;obtain⟨t',as',rz',lz',h'⟩:=bw h;rw[SeqAt.Reads.unique _ _ _ _ _ lz rz rz'];exact h'
 obtain⟨o,eo,hc,n,hd⟩:=ht;have eo':s.heap.get? a=some {cls:=.type "tuple",dict:=o.dict,data:=.seq its.toArray n,slots:=o.slots}:=by rw[eo,<-hc,<-hd]
 have hun:X.A.in1.units=X.A.units+1:=rfl;obtain⟨c1,c2⟩:=tU X.A.in1 s (by omega) rb lu du he ra la;refine call_meets PySem.F.slot_tuple_count ⟨_,eo',rfl⟩ PySem.F.entry_tuple_count (PySem.F.args_tuple_count_2 _ _) (SeqAt.tuple_countAt a its.toArray n o.dict o.slots u' e) ⟨eo',λz hz'=>c1 z (by simpa using hz'),?_⟩;rw[List.toList_toArray,c2];exact⟨.int _,H,I.tok _,⟨_,rfl⟩,q⟩
end
section
variable{o e:Expr}{to:TE}{t:TA}{name:Str}{dC aW:Pos}{id:String}{r:V->List V->Hp->VK->Prop}
def rs(r:V->List V->Hp->VK->Prop)(to:TE)(t:TA):TE:=λσ H Q=>to σ H λx H1=>(∃p xs,x=.ref p/\H1 p=some (.tup xs))/\t σ H1 λxs H2=>r x xs H2 Q
theorem AC(g:Slot "tuple" name id)(l:typeOf (.builtin id)=pure (.type "method_descriptor"))(R:mI X id r)(P:PE X o to)(U:PA X (e::es) t)(f:attributeBase o name X.env (eval o X.env)=eval o X.env:=by rfl)
  (i:((backTo aW (starEach (e::es) X.env)).all (λx=> !x.1) && (backToKw aW (keywordEach [] X.env)).all (λx=>x.1.isSome) && decide ((e::es).length+([]:O Keyword).length+(if([]:O Keyword).isEmpty then 0 else 1)<30))=true:=by rfl)
  (d:(dC.endLine==aW.line)=true:=by rfl) (hs:starEach (e::es) X.env=(false,eval e X.env)::starEach es X.env:=by rfl) (c:(backTo aW (starEach es X.env)).any (·.1)=false:=by rfl):
  PE X (.Call (.Attribute o name dC) (e::es) [] aW) (rs r to t):=by
 intro b s j H Q I h;refine wpAny_Call_method_late f i d J (aF (P b s j H _ I h) λv q ⟨x,y,w,F,C,K⟩=>?_);obtain⟨p,z,rfl,N⟩:=C;cases F;obtain⟨_,M,_,⟨k,m,S,n,hd⟩,L⟩:=(show wk X.prog X.w y q.heap p (.tup z)from w.hok p _ N)
 refine⟨"tuple",id,PySem.F.plainAttrs_tuple,g,l,⟨k,m,S⟩,λa e=>?_,?_⟩;cases e;exact⟨k,m,L k m⟩;have u:=U aW b q j y _ w K;rw[hs]at u⊢;refine Calls.callWith_builtin (by show(false ||(backTo aW (starEach es X.env)).any (·.1))=false;rw[c]<;>rfl) (Calls.evalArgs_plain ?_);exact aF u λB D ⟨A,Z,W,E,G⟩=>R b D j Z (.ref p) A (.ref p) B Q W J E G
end
inductive mr(f:Bool->Bool)(x y:V)(H:Hp)(Q:VK):Prop|mk:∀t u,Is H t x->Is H u y->(aH t).canLay0=true->(aH u).canLay0=true->(aH u).depth<=20->Q (.bl (f (PyData.eqv (aH t) (aH u)))) H->mr f x y H Q
section
theorem DM(n:X.A.units+64<cLine):aY X (compareOp .NotEq) (mr (!·)):=by intro a s l H x y v u Q I f e h;obtain⟨t,m,k,j,c,b,d,q⟩:=h;obtain⟨as,i⟩:=jp I c k f;obtain⟨o,g⟩:=jp I b j e;exact SeqAt.compareNe_reads i g c b (by omega) ⟨.bl _,H,I,J,q⟩
end
end L2
namespace L2
open PySem PySem.Spec PyProof.Rows PySem.W
variable{A:Around}{p:Array Nat}{vs:List Value}{n:Nat}{prog:Program}{E Q:Value->Shared->Prop}{w:World}
noncomputable def zr(lt:Nat->Nat->Bool){B:Type}:KasT B->B|.ret a=>a|.ask i j k=>zr lt (k (lt i j))
def jd(n:Nat)(lt:Nat->Nat->Bool){B:Type}:KasT B->Prop|.ret _=>True|.ask i j k=>i<n/\j<n/\jd n lt (k (lt i j))
section
variable{lt:Nat->Nat->Bool}
theorem wb{a b:Type}{f:a->KasT b}:∀t:KasT a,zr lt (t.bind f)=zr lt (f (zr lt t))|.ret _=>rfl|.ask i j k=>wb (k (lt i j))
theorem jl{a b:Type}{f:a->KasT b}:∀{t:KasT a},jd n lt t->jd n lt (f (zr lt t))->jd n lt (t.bind f)|.ret _,_,h=>h|.ask i j k,h,g=>⟨h.1,h.2.1,jl h.2.2 g⟩
theorem vG{b:Type}{a:Nat->Nat->(Bool->Shared->Prop)->Shared->Prop}{Q:b->Shared->Prop}{s:Shared}(c:∀i j,i<n->j<n->∀C:Bool->Shared->Prop,C (lt i j) s->a i j C s):∀{t:KasT b},jd n lt t->Q (zr lt t) s->t.kasWp a Q s|.ret _,_,q=>q|.ask i j k,h,q=>c i j h.1 h.2.1 _ (vG c h.2.2 q)
def xo(n:Nat)(p:Array Nat):Prop:=p.toList.Perm (List.range n)
theorem xo.bd(h:xo n p)(c:0<n)(k:Nat):p.getD k 0<n:=by
 by_cases a:k<p.size;have e:p.getD k 0=p[k]:=by simp[Array.getD,a]
 rw[e];have b:p[k]∈p.toList:=by simp
 exact de.mp (h.mem_iff.mp b);have e:p.getD k 0=0:=by simp[Array.getD,a]
 rw[e];exact c
theorem xo.rev(h:xo n p)(i j:Nat):xo n (kas_rev p i j):=(mirror_perm p i j _).toList.trans h
theorem xo.bub(h:xo n p)(i j:Nat):xo n (bubble p i j):=(bubble_perm p i j).toList.trans h
theorem oP(a:0<n){p:Array Nat}(h:xo n p):∀f m,jd n lt (kas_asc p f m)|0,_=>trivial| f+1,m=>by refine⟨h.bd a _,h.bd a _,?_⟩;dsimp only;split;trivial;exact oP a h f (m+1)
theorem V3(c:0<n):∀f {p:Array Nat} m q,xo n p->jd n lt (kas_desc f p m q)/\xo n (zr lt (kas_desc f p m q)).1|0,_,_,_,h=>⟨trivial,h⟩| f+1,p,m,q,h=>by unfold kas_desc;show(_/\_/\jd n lt (ite _ _ _))/\xo n (zr lt (ite _ _ _:KasT (Array Nat×Nat×Nat))).1;split;split;obtain⟨a,b⟩:=V3 c f (m+1) 0 (h.rev (m-(q+1)) m);exact⟨⟨h.bd c _,h.bd c _,a⟩,b⟩;obtain⟨a,b⟩:=V3 c f (m+1) 0 h;exact⟨⟨h.bd c _,h.bd c _,a⟩,b⟩;show(_/\_/\(_/\_/\jd n lt (ite _ _ _)))/\xo n (zr lt (ite _ _ _:KasT (Array Nat×Nat×Nat))).1;split;exact⟨⟨h.bd c _,h.bd c _,h.bd c _,h.bd c _,trivial⟩,h⟩;obtain⟨a,b⟩:=V3 c f (m+1) (q+1) h;exact⟨⟨h.bd c _,h.bd c _,h.bd c _,h.bd c _,a⟩,b⟩
theorem vQ(a:0<n)(h:xo n p)(m r:Nat):jd n lt (kas_tail3 m r p)/\xo n (zr lt (kas_tail3 m r p)).2:=by unfold kas_tail3;refine⟨jl (oP a (h.rev 0 m) _ _) trivial,?_⟩;rw[wb];exact h.rev 0 m
theorem Vo(c:0<n)(h:xo n p)(m r:Nat):jd n lt (kas_descPart m r p)/\xo n (zr lt (kas_descPart m r p)).2:=by
 unfold kas_descPart;obtain⟨a,b⟩:=V3 c (r-(m+1)) (m+1) 0 h;generalize kas_desc (r-(m+1)) p (m+1) 0=t at a b;have d:jd n lt (if(zr lt t).2.2>0 then kas_tail3 (zr lt t).2.1 r (kas_rev (zr lt t).1 ((zr lt t).2.1-((zr lt t).2.2+1)) (zr lt t).2.1)else kas_tail3 (zr lt t).2.1 r (zr lt t).1)/\
   xo n (zr lt (if(zr lt t).2.2>0 then kas_tail3 (zr lt t).2.1 r (kas_rev (zr lt t).1 ((zr lt t).2.1-((zr lt t).2.2+1)) (zr lt t).2.1)else kas_tail3 (zr lt t).2.1 r (zr lt t).1)).2:=by split;exact vQ c (b.rev _ _) _ _;exact vQ c b _ _
 refine⟨jl a d.1,?_⟩;rw[wb];exact d.2
theorem uG(b:0<n)(h:xo n p)(r:Nat):jd n lt (kas_count r p)/\xo n (zr lt (kas_count r p)).2:=by
 unfold kas_count;have a:=oP (lt:=lt) b h (r-1) 1;generalize kas_asc p (r-1) 1=t at a;generalize e:zr lt t=m;have d:jd n lt (if(m==r)=true then KasT.ret (m,p)else if m>1 then KasT.ask (p.getD 0 0) (p.getD (m-1) 0) λc=>if c=true then KasT.ret (m,p)else kas_descPart m r (kas_rev p 0 m)else kas_descPart m r p)/\
   xo n (zr lt (if(m==r)=true then KasT.ret (m,p)else if m>1 then KasT.ask (p.getD 0 0) (p.getD (m-1) 0) λc=>if c=true then KasT.ret (m,p)else kas_descPart m r (kas_rev p 0 m)else kas_descPart m r p)).2:=by split;exact⟨trivial,h⟩;split;show(_/\_/\jd n lt (ite _ _ _))/\xo n (zr lt (ite _ _ _:KasT (Nat×Array Nat))).2;split;exact⟨⟨h.bd b _,h.bd b _,trivial⟩,h⟩;obtain⟨x,y⟩:=Vo b (h.rev 0 m) m r;exact⟨⟨h.bd b _,h.bd b _,x⟩,y⟩;exact Vo b h m r
 subst e;refine⟨jl a d.1,?_⟩;rw[wb];exact d.2
theorem Qt(a:0<n){p:Array Nat}(h:xo n p)(k:Nat):∀f l r,jd n lt (kas_place p k f l r)|0,_,_=>trivial| f+1,l,r=>by unfold kas_place;split;trivial;refine⟨h.bd a _,h.bd a _,?_⟩;dsimp only;split;exact Qt a h k f _ _;exact Qt a h k f _ _
theorem se(c:0<n):∀f {p:Array Nat} k,xo n p->jd n lt (kas_bin f p k)/\xo n (zr lt (kas_bin f p k))|0,_,_,h=>⟨trivial,h⟩| f+1,p,k,h=>by unfold kas_bin;obtain⟨a,b⟩:=se c f (k+1) (h.bub k (k-zr lt (kas_place p k k 0 k)));refine⟨jl (Qt c h k k 0 k) a,?_⟩;rw[wb];exact b
theorem pZ(d:0<n):jd n lt (kas_sort n)/\xo n (zr lt (kas_sort n)):=by
 unfold kas_sort;have e:xo n (List.toArray (List.range n)):=List.Perm.refl _;obtain⟨a,b⟩:=uG d e n;generalize kas_count n (List.toArray (List.range n))=t at a b;have c:jd n lt (if(zr lt t).1<n then kas_bin (n-max (zr lt t).1 1) (zr lt t).2 (max (zr lt t).1 1)else KasT.ret (zr lt t).2)/\
   xo n (zr lt (if(zr lt t).1<n then kas_bin (n-max (zr lt t).1 1) (zr lt t).2 (max (zr lt t).1 1)else KasT.ret (zr lt t).2)):=by split;exact se d _ _ b;exact⟨trivial,b⟩
 refine⟨jl a c.1,?_⟩;rw[wb];exact c.2
end
structure lE(R:Around->Prop)(P:Program)(w:World)(h:Heap)(vs:List Value)(κ:SortKind)(lt:Nat->Nat->Bool):Prop where
 kind:∀(A:Around),R A->∀(s:Shared)(E:Value->Shared->Prop)(Q:SortKind->Shared->Prop),(∀b o,h.get? b=some o->s.heap.get? b=some o)->Q κ s->wpAny (model P w) A (keyKind' vs.toArray) Q E s
 ask:∀i j,i<vs.length->j<vs.length->∀(A:Around),R A->∀(s:Shared)(E:Value->Shared->Prop)(Q:Bool->Shared->Prop),(∀b o,h.get? b=some o->s.heap.get? b=some o)->Q (lt i j) s->wpAny (model P w) A (keyLt' κ (vs.getD i Value.none) (vs.getD j Value.none)) Q E s
theorem jc{a:Type}(vs:O a)(d:a):(List.range vs.length).map (λi=>vs.getD i d)=vs:=by refine List.ext_getElem (by simp) λi c b=>?_;have e:=ao b;simp[e]
section
variable{s:Shared}{h0:Heap}{κ:SortKind}{lt:Nat->Nat->Bool}
noncomputable def qk(lt:Nat->Nat->Bool)(vs:List Value):List Value:=if vs.length<2 then vs else(zr lt (kas_sort vs.length)).toList.map λi=>vs.getD i Value.none
theorem Gi:(qk lt vs).Perm vs:=by
 unfold qk;split
 . exact List.Perm.refl _
 . rename_i h
   have p:=(pZ (n:=vs.length) (lt:=lt) (by omega)).2;exact(List.Perm.map (λi=>vs.getD i Value.none) p).trans (List.Perm.of_eq (jc vs Value.none))
theorem Gj{R:Around->Prop}(F:R A){a:Y}{P:PySem.Fin->Shared->Prop}(t:s.heap.get? a=some (seqObj "list" vs.toArray n))(v:vs.length<64)(O:2<=vs.length->lE R prog w h0 vs κ lt)(M:∀b o,h0.get? b=some o->b≠a/\s.heap.get? b=some o) (h:P (.done (.ret .none)) {s with heap:=sortedHeap s.heap a vs (qk lt vs).toArray}):
  wpAny (model prog w) A (Builtin.«list.sort» ⟨[.ref a],[]⟩) P E s:=by
 rw[list_sort_plain];refine aa (listItems_at t J (aa (listUpdate_at t J ?_ (by rw[cq,sizeLine_eq];omega) (cm _))));have r:=get?_update_seq t (λ_=>(#[]));generalize (if(#[]).size==vs.toArray.size then n else n+1)=z at r;refine aa (seqEpoch_at r J (aa (wpAny_newTuple (aa (wpAny_newList (wpAny_holding ?_) (cm _))) (by show vs.length<=_;rw[sizeLine_eq];omega))));have m:(((s.heap.update a (Obj.mapSeq λ_=>(#[]))).push (seqObj "tuple" vs.toArray 0)).push (seqObj "list" #[] 0)).get? a=some (seqObj "list" #[] z):=ak _ (ak _ r);have B:∀b o,h0.get? b=some o->(((s.heap.update a (Obj.mapSeq λ_=>(#[]))).push (seqObj "tuple" vs.toArray 0)).push (seqObj "list" #[] 0)).get? b=some o:=λb o e=>by obtain⟨L,z⟩:=M b o e;exact ak _ (ak _ (by rw[Heap.get?_update_ne _ _ _ _ L];exact z))
 dsimp only;by_cases q:vs.length<2
 . have d:vs.toArray.size<2:=by rw[cq];exact q
   have y:qk lt vs=vs:=by unfold qk;rw[if_pos q]
   rw[if_pos d,if_pos d];refine aa (ac ?_);rw[StateT.run_pure];refine aa (ac ?_);have f:(arrOf (SortSt.mk' general' (vs.toArray.zip vs.toArray) #[] 7 none)).map (·.2)=vs.toArray:=by show(vs.toArray.zip vs.toArray).map (·.2)=vs.toArray;refine Array.ext (by simp) λi h1 H=>by simp
   rw[f];refine aa (seqEpoch_at m J (aa (listUpdate_at m J ?_ (cm _) (by rw[cq,sizeLine_eq];omega))));simp only[bne_self_eq_false,Bool.false_eq_true,if_false];rw[y]at h;exact ac h
 . have d:¬vs.toArray.size<2:=by rw[cq];exact q
   have O:=O (by omega);have y:qk lt vs=(zr lt (kas_sort vs.length)).toList.map λi=>vs.getD i Value.none:=by unfold qk;rw[if_neg q]
   obtain⟨K,Z⟩:=pZ (n:=vs.length) (by omega);rw[if_neg d,if_neg d];refine aa (O.kind _ F _ _ _ B ?_);generalize D:({s with heap:=(((s.heap.update a (Obj.mapSeq λ_=>(#[]))).push (seqObj "tuple" vs.toArray 0)).push (seqObj "list" #[] 0))}:Shared)=S at *;have l:S.heap=(((s.heap.update a (Obj.mapSeq λ_=>(#[]))).push (seqObj "tuple" vs.toArray 0)).push (seqObj "list" #[] 0)):=by rw[<-D]
   have run:=kat_run (A:=A) (E:=E) (G:=λp g=>g=S/\p=zr lt (kas_sort vs.length))
    (Q:=λc g=>g=S/\failedOf c=none/\arrOf c=(zr lt (kas_sort vs.length)).map (kas_item (vs.toArray.zip vs.toArray))) J (by omega) v
    (λp c g _ H X G=>⟨G.1,X,by rw[<-G.2];exact H⟩)
    (vG (λi j Q N C W=>O.ask i j Q N _ F _ _ _ (by rw[l];exact B) W) K ⟨J,J⟩)
   refine aa (df run ?_ λ_ _ x=>x);rintro⟨⟨⟩,c⟩ g ⟨rfl,U,u⟩;have f:(arrOf c).map (·.2)=(qk lt vs).toArray:=by rw[y];exact kat_snds J u
   have k:(qk lt vs).length=vs.length:=Gi.length_eq;rw[f];rw[<-l]at m;refine aa (seqEpoch_at m J (aa (listUpdate_at m J ?_ (cm _) (by rw[cq,k,sizeLine_eq];omega))));rw[U];simp only[bne_self_eq_false,Bool.false_eq_true,if_false];rw[<-D];exact ac h
theorem EH{R:Around->Prop}{l:Y}(f:s.heap.IsList l vs.toArray)(d:vs.length<64)(O:2<=vs.length->lE R prog w s.heap vs κ lt)(h:Q (.ref (s.heap.objs.size+1)) {s with heap:=sortedAll s.heap vs (qk lt vs).toArray}) (g:R A.in1.in1:=by trivial):wpAny (model prog w) A (call (.builtin "sorted") [.ref l]) Q E s:=by
 refine Calls.call_function_entry kind_sorted plain_sorted entry_sorted (args_sorted1 _) ?_;unfold Builtin.«sorted»;refine aa (ac (aa (collect_list f (aa (wpAny_newList ?_ (by rw[sizeLine_eq];omega))) (by rw[sizeLine_eq];omega))));have c:((s.heap.push (seqObj "list" #[] 0)).update s.heap.objs.size (Obj.mapSeq (· ++vs.toArray))).objs.size=s.heap.objs.size+1:=by rw[Heap.size_update,size_push']
 have gL:(((s.heap.push (seqObj "list" #[] 0)).update s.heap.objs.size (Obj.mapSeq (· ++vs.toArray))).push (seqObj "list" vs.toArray 0)).get? (s.heap.objs.size+1)=some (seqObj "list" vs.toArray 0):=by rw[<-c];exact bi _ J
 rw[c];refine aa (wpAny_holding (cy slot_list_sort ⟨_,gL,J⟩ entry_list_sort (Gj g gL d O (λb o e=>?_) ⟨_,J,ac ⟨_,J,h⟩⟩) (args_list_sort _)));have a:=aq e;refine⟨bh (Nat.lt_succ_of_lt a),?_⟩;rw[Heap.get?_push_ne _ _ _ (by rw[c];exact bh (Nat.lt_succ_of_lt a)),Heap.get?_update_ne _ _ _ _ (bh a),Heap.get?_push_ne _ _ _ (bh a)];exact e
end
noncomputable def tI(g:List Int):T:=.tup (iT g)
section
variable{s:Shared}
end
section
variable{X:Cx}
end
end L2
namespace L2
open PySem PySem.Spec PyProof.Rows
variable{A:Around}{X:Cx}{es:List Expr}{pos:Pos}{prog:Program}{E:Value->Shared->Prop}{w:World}
section
open Classical in
end
section
variable{s:Shared}
end
section
end
section
variable{s:Shared}
end
section
end
def zF(t:TA):TE:=λσ H Q=>t σ H λxs H1=>xs.length<=1000/\∀p H',Same H1 H'->H1 p=none->H' p=some (.lst xs)->Q (.ref p) H'
def Ak(t:TA):TE:=λσ H Q=>t σ H λxs H1=>xs.length<=1000/\∀p H',Same H1 H'->H1 p=none->H' p=some (.tup xs)->Q (.ref p) H'
section
theorem va{t:TA}(h:PA X es t):PE X (.List es pos) (zF t):=by intro a s g H Q I k;refine wpAny_List_spliced (aF (h pos a s g H _ I k) λj c ⟨i,l,f,r,z,q⟩=>⟨by rw[<-r.length];exact yb z,?_⟩);have d:=f.hok.fresh (aj _);exact⟨.ref c.heap.objs.size,upd l c.heap.objs.size (.lst i),f.laid (λb u e=>ak _ e) (aj _) ⟨yb z,j,0,r,bi _ J⟩,J,q _ _ (Same.new d _) d ze⟩
theorem yc{t:TA}{j}(h:PA X es t):PE X (.Tuple es j pos) (Ak t):=by intro a s g H Q I l;refine wpAny_Tuple_spliced (aF (h pos a s g H _ I l) λk c ⟨i,m,f,r,z,q⟩=>⟨by rw[<-r.length];exact yb z,?_⟩);have d:=f.hok.fresh (aj _);exact⟨.ref c.heap.objs.size,upd m c.heap.objs.size (.tup i),f.laid (λb u e=>ak _ e) (aj _) ⟨yb z,k,r,IsTup.new _ _,fS.push⟩,J,q _ _ (Same.new d _) d ze⟩
end
end L2
namespace L2
open PySem PySem.Spec PyProof.Rows PySem.W
variable{p:Array Nat}{m:Nat}
structure Ord(n:Nat)(lt:Nat->Nat->Bool):Prop where
 irr:∀i,lt i i=false
 tr:∀i j k,lt i j=true->lt j k=true->lt i k=true
 tot:∀i j,i<n->j<n->i≠j->lt i j=true\/lt j i=true
def Up(lt:Nat->Nat->Bool)(p:Array Nat)(m:Nat):Prop:=∀i j,i<j->j<m->lt (p.getD i 0) (p.getD j 0)=true
def Dn(lt:Nat->Nat->Bool)(p:Array Nat)(m:Nat):Prop:=∀i j,i<j->j<m->lt (p.getD j 0) (p.getD i 0)=true
section
variable{n:Nat}{lt:Nat->Nat->Bool}
theorem xo.size{p:Array Nat}(h:xo n p):p.size=n:=by have:=h.length_eq;rw[da,Array.length_toList]at this;exact this
theorem xo.ne(h:xo n p){i j:Nat}(r:i<n)(q:j<n)(f:i≠j):p.getD i 0≠p.getD j 0:=by
 have o:=h.size;have k:p.toList.Nodup:=h.nodup_iff.mpr List.nodup_range;have e:i<p.size:=by omega
 have b:j<p.size:=by omega
 have m:p.getD i 0=p[i]:=by simp[Array.getD,e]
 have l:p.getD j 0=p[j]:=by simp[Array.getD,b]
 rw[m,l];intro z;have d:i<p.toList.length:=by simpa using e
 have a:j<p.toList.length:=by simpa using b
 have g:p.toList[i]=p.toList[j]:=by simpa using z
 rcases Nat.lt_or_gt_of_ne f with c|c;exact(fk.mp k) i j d a c g;exact(fk.mp k) j i a d c g.symm
theorem vD(a:m<=p.size)(k:Nat):(kas_rev p 0 m).getD k 0=if k<m then p.getD (m-1-k) 0 else p.getD k 0:=by unfold kas_rev;have e:=getElem?_mirror_all (xs:=p) (i:=0) a k;rw[Array.getD_eq_getD_getElem?,e];by_cases c:k<m;rw[if_pos ⟨cm _,c⟩,if_pos c,Array.getD_eq_getD_getElem?,Nat.zero_add];rw[if_neg (λz=>c z.2),if_neg c,Array.getD_eq_getD_getElem?]
theorem uZ{k l:Nat}(a:k<p.size)(b:l<=k)(i:Nat):(bubble p k (k-l)).getD i 0=if i=l then p.getD k 0 else if l<i/\i<=k then p.getD (i-1) 0 else p.getD i 0:=by have e:=getElem?_bubble a (k-l) (by omega) i;rw[show k-(k-l)=l from by omega]at e;rw[Array.getD_eq_getD_getElem?,e];by_cases c:i=l;rw[if_pos c,if_pos c,Array.getD_eq_getD_getElem?];rw[if_neg c,if_neg c];by_cases d:l<i/\i<=k;rw[if_pos d,if_pos d,Array.getD_eq_getD_getElem?];rw[if_neg d,if_neg d,Array.getD_eq_getD_getElem?]
theorem Up.snoc(O:Ord n lt)(h:Up lt p m)(f:1<=m)(b:lt (p.getD (m-1) 0) (p.getD m 0)=true):Up lt p (m+1):=λi j a e=>by by_cases c:j=m;subst c;by_cases d:i=j-1;rw[d];exact b;exact O.tr _ _ _ (h i (j-1) (by omega) (by omega)) b;exact h i j a (by omega)
theorem Dn.snoc(O:Ord n lt)(h:Dn lt p m)(f:1<=m)(b:lt (p.getD m 0) (p.getD (m-1) 0)=true):Dn lt p (m+1):=λi j a e=>by by_cases c:j=m;subst c;by_cases d:i=j-1;rw[d];exact b;exact O.tr _ _ _ b (h i (j-1) (by omega) (by omega));exact h i j a (by omega)
theorem oQ(O:Ord n lt){p:Array Nat}(a:xo n p):∀f m,1<=m->m+f<=n->Up lt p m->Up lt p (zr lt (kas_asc p f m))/\m<=zr lt (kas_asc p f m)/\zr lt (kas_asc p f m)<=m+f/\(zr lt (kas_asc p f m)<m+f->lt (p.getD (zr lt (kas_asc p f m)) 0) (p.getD (zr lt (kas_asc p f m)-1) 0)=true)|0,m,b,g,h=>⟨h,aj m,aj _,λz=>absurd z (cx _)⟩| f+1,m,b,g,h=>by have e:zr lt (kas_asc p (f+1) m)=zr lt (if lt (p.getD m 0) (p.getD (m-1) 0)=true then KasT.ret m else kas_asc p f (m+1)):=rfl;rw[e];by_cases c:lt (p.getD m 0) (p.getD (m-1) 0)=true;rw[if_pos c];exact⟨h,aj m,Nat.le_add_right _ _,λ_=>c⟩;rw[if_neg c];have d:=a.ne (i:=m) (j:=m-1) (by omega) (by omega) (by omega);have i:lt (p.getD (m-1) 0) (p.getD m 0)=true:=(O.tot _ _ (a.bd (by omega) _) (a.bd (by omega) _) d.symm).resolve_right c;obtain⟨k,o,l,j⟩:=oQ O a f (m+1) (by omega) (by omega) (h.snoc O b i);exact⟨k,by omega,by omega,λz=>j (by omega)⟩
theorem tZ(O:Ord n lt){p:Array Nat}(a:xo n p):∀f m,1<=m->m+f<=n->Dn lt p m->∃r,zr lt (kas_desc f p m 0)=(p,r,0)/\Dn lt p r/\m<=r/\r<=m+f
 |0,m,b,i,h=>⟨m,J,h,aj _,aj _⟩
 | f+1,m,b,i,h=>by
   have e:zr lt (kas_desc (f+1) p m 0)=zr lt (if lt (p.getD m 0) (p.getD (m-1) 0)=true then(if 0>0 then kas_desc f (kas_rev p (m-(0+1)) m) (m+1) 0 else kas_desc f p (m+1) 0) else .ask (p.getD (m-1) 0) (p.getD m 0) λd=>if d=true then .ret (p,m,0)else kas_desc f p (m+1) (0+1)):=rfl
   rw[e];by_cases c:lt (p.getD m 0) (p.getD (m-1) 0)=true;rw[if_pos c,if_neg (cx 0)];obtain⟨r,k,j,q,o⟩:=tZ O a f (m+1) (by omega) (by omega) (h.snoc O b c);exact⟨r,k,j,by omega,by omega⟩;rw[if_neg c];have g:=a.ne (i:=m) (j:=m-1) (by omega) (by omega) (by omega);have l:lt (p.getD (m-1) 0) (p.getD m 0)=true:=(O.tot _ _ (a.bd (by omega) _) (a.bd (by omega) _) g.symm).resolve_right c;refine⟨m,?_,h,aj _,Nat.le_add_right _ _⟩;show zr lt (if lt (p.getD (m-1) 0) (p.getD m 0)=true then KasT.ret (p,m,0)else kas_desc f p (m+1) (0+1))=_;rw[if_pos l];rfl
theorem AM(a:m<=p.size)(h:Dn lt p m):Up lt (kas_rev p 0 m) m:=λi j c b=>by rw[vD a,vD a,if_pos (by omega),if_pos b];exact h (m-1-j) (m-1-i) (by omega) (by omega)
theorem CG(O:Ord n lt)(a:xo n p)(y:0<n):Up lt (zr lt (kas_count n p)).2 (zr lt (kas_count n p)).1/\1<=(zr lt (kas_count n p)).1/\(zr lt (kas_count n p)).1<=n:=by
 unfold kas_count;rw[wb];obtain⟨b,h,w,k⟩:=oQ O a (n-1) 1 (aj 1) (by omega) (λi j g o=>by omega);generalize zr lt (kas_asc p (n-1) 1)=m at b h w k;by_cases c:(m==n)=true;rw[if_pos c];exact⟨b,h,by show m<=n;omega⟩;rw[if_neg c];have l:m<n:=by have:m≠n:=λz=>c (by rw[z];exact beq_self_eq_true n);omega
 by_cases d:m>1;rw[if_pos d];have e:zr lt (KasT.ask (p.getD 0 0) (p.getD (m-1) 0) λc=>if c=true then KasT.ret (m,p)else kas_descPart m n (kas_rev p 0 m))=(m,p):=by show zr lt (if lt (p.getD 0 0) (p.getD (m-1) 0)=true then KasT.ret (m,p)else kas_descPart m n (kas_rev p 0 m))=_;rw[if_pos (b 0 (m-1) (by omega) (by omega))];rfl
 rw[e];exact⟨b,h,by show m<=n;omega⟩;rw[if_neg d];have f:m=1:=by omega
 subst f;have u:=k (by omega);unfold kas_descPart;rw[wb];have t:Dn lt p (1+1):=λi j g o=>by
  have:i=0/\j=1:=by omega
  rw[this.1,this.2];exact u
 obtain⟨r,s,q,B,A⟩:=tZ O a (n-(1+1)) (1+1) (by omega) (by omega) t;rw[s];show Up lt (zr lt (if 0>0 then kas_tail3 r n (kas_rev p (r-(0+1)) r)else kas_tail3 r n p)).2 (zr lt (if 0>0 then kas_tail3 r n (kas_rev p (r-(0+1)) r)else kas_tail3 r n p)).1/\1<=(zr lt (if 0>0 then kas_tail3 r n (kas_rev p (r-(0+1)) r)else kas_tail3 r n p)).1/\(zr lt (if 0>0 then kas_tail3 r n (kas_rev p (r-(0+1)) r)else kas_tail3 r n p)).1<=n;rw[if_neg (cx 0)];unfold kas_tail3;rw[wb];have x:=a.size;obtain⟨v,D,C,_⟩:=oQ O (a.rev 0 r) (n-r) r (by omega) (by omega) (AM (by omega) q);exact⟨v,by show 1<=zr lt (kas_asc (kas_rev p 0 r) (n-r) r);omega,by show zr lt (kas_asc (kas_rev p 0 r) (n-r) r)<=n;omega⟩
theorem Qs(O:Ord n lt){p:Array Nat}(b:xo n p){k:Nat}(q:k<n):∀f l r,l<=r->r<=k->r-l<=f->Up lt p k->(∀i,i<l->lt (p.getD i 0) (p.getD k 0)=true)->(∀i,r<=i->i<k->lt (p.getD k 0) (p.getD i 0)=true)->
  zr lt (kas_place p k f l r)<=k/\(∀i,i<zr lt (kas_place p k f l r)->lt (p.getD i 0) (p.getD k 0)=true)/\∀i,zr lt (kas_place p k f l r)<=i->i<k->lt (p.getD k 0) (p.getD i 0)=true
 | 0,l,r,y,j,x,a,h,g=>by
   have:l=r:=by omega
   subst this;exact⟨j,h,g⟩
 | f+1,l,r,y,j,x,a,h,g=>by
   unfold kas_place;by_cases c:l≥r;rw[if_pos c];have:l=r:=by omega
   subst this;exact⟨j,h,g⟩;rw[if_neg c];have e:zr lt (KasT.ask (p.getD k 0) (p.getD ((l+r)/2) 0) λc=>if c=true then kas_place p k f l ((l+r)/2)else kas_place p k f ((l+r)/2+1) r)=zr lt (if lt (p.getD k 0) (p.getD ((l+r)/2) 0)=true then kas_place p k f l ((l+r)/2)else kas_place p k f ((l+r)/2+1) r):=rfl;rw[e];generalize A:(l+r)/2=m;have o:l<=m:=by omega
   have v:m<r:=by omega
   by_cases d:lt (p.getD k 0) (p.getD m 0)=true;rw[if_pos d];exact Qs O b q f l m o (by omega) (by omega) a h λi w s=>by by_cases z:i=m;rw[z];exact d;exact O.tr _ _ _ d (a m i (by omega) s)
   rw[if_neg d];have u:=b.ne (i:=m) (j:=k) (by omega) q (by omega);have t:lt (p.getD m 0) (p.getD k 0)=true:=(O.tot _ _ (b.bd (by omega) _) (b.bd (by omega) _) u).resolve_right d;exact Qs O b q f (m+1) r (by omega) j (by omega) a (λi w=>by by_cases z:i=m;rw[z];exact t;exact O.tr _ _ _ (a i m (by omega) (by omega)) t) g
theorem sf(O:Ord n lt):∀f {p:Array Nat} k,xo n p->k+f=n->Up lt p k->Up lt (zr lt (kas_bin f p k)) n
 | 0,p,k,b,t,a=>by
   have:k=n:=by omega
   subst this;exact a
 | f+1,p,k,b,t,a=>by unfold kas_bin;rw[wb];obtain⟨c,g,e⟩:=Qs O b (k:=k) (by omega) k 0 k (cm _) (aj _) (by omega) a (λi s=>by omega) (λi s r=>by omega);generalize zr lt (kas_place p k k 0 k)=l at c g e;refine sf O f (k+1) (b.bub _ _) (by omega) λi j d v=>?_;have u:=b.size;rw[uZ (by omega) c,uZ (by omega) c];by_cases q:i=l;rw[if_pos q,if_neg (by omega),if_pos (by omega)];exact e (j-1) (by omega) (by omega);rw[if_neg q];by_cases o:j=l;rw[if_pos o,if_neg (by omega)];exact g i (by omega);rw[if_neg o];by_cases m:l<i/\i<=k;rw[if_pos m,if_pos (by omega)];exact a (i-1) (j-1) (by omega) (by omega);rw[if_neg m];by_cases h:l<j/\j<=k;rw[if_pos h];by_cases z:i=j-1;omega;exact a i (j-1) (by omega) (by omega);rw[if_neg h];exact a i j d (by omega)
theorem Cg(O:Ord n lt)(e:0<n):Up lt (zr lt (kas_sort n)) n:=by
 unfold kas_sort;rw[wb];have d:xo n (List.toArray (List.range n)):=List.Perm.refl _;obtain⟨a,g,f⟩:=CG O d e;have b:=(uG (lt:=lt) e d n).2;generalize zr lt (kas_count n (List.toArray (List.range n)))=t at a g f b;by_cases c:t.1<n;rw[if_pos c];have:max t.1 1=t.1:=by omega
 rw[this];exact sf O _ _ b (by omega) a;rw[if_neg c];have:t.1=n:=by omega
 rw[this]at a;exact a
end
section
variable{X:Cx}
theorem FK{b a γ:Type}{R:b->a->Prop}{xs:List b}{us:List a}(h:Paired R xs us){dx:b}{g:a}:∀(l:List Nat),(∀i∈l,i<us.length)->Paired R (l.map λi=>xs.getD i dx) (l.map λi=>us.getD i g):=by
 have e:∀i,i<us.length->R (xs.getD i dx) (us.getD i g):=by induction h with|nil=>intro i d;simp at d| cons r t c=>intro i d;cases i with|zero=>exact r|succ i=>exact c i (by simpa using d)
 intro l;induction l with|nil=>intro _;exact .nil|cons i l c=>intro f;exact .cons (e i (f i c8)) (c λj k=>f j (ce _ k))
theorem sY{H:Hp}{a:List T}{xs:List V}(h:IsL H a xs){dt:T}{dx:V}:∀(l:List Nat),(∀i∈l,i<xs.length)->IsL H (l.map λi=>a.getD i dt) (l.map λi=>xs.getD i dx)|[],_=>rfl| i::l,c=>by have g:=c i c8;have b:=h.length;obtain⟨v,f,e⟩:=h.get (i:=i) (t:=a.getD i dt) (by rw[ar,ao (by omega)];rfl);refine⟨_,_,J,?_,sY h l λj d=>c j (ce _ d)⟩;show Is H (a.getD i dt) (xs.getD i dx);rw[ar (l:=xs),f];exact e
end
end L2
namespace L2
open PySem PySem.Spec PyProof.Rows
theorem vR:∀{us:List Value}{ns:List Int},IntsAre us ns->yl (ns.map V.int) us|_,_,.nil=>.nil|_,_,.cons _ _ r=>.cons ⟨_,J⟩ (vR r)
section
variable{X:Cx}
inductive gH(K:W.Frag)(xs:List V)(H:Hp)(Q:VK):Prop|mk:∀(p:Addr)(ns:List Int),xs=[.ref p]->aE K H p (ns.map V.int)->ns.length<64->(∀(ns':List Int) l,ns'.Perm ns->ns'.Pairwise (· <= ·)->H l=none->Q (.ref l) (upd H l (.lst (ns'.map V.int))))->gH K xs H Q
theorem Fp:jt X (.builtin "sorted") (gH X.K):=by intro i s x H y z Q I r h;obtain⟨p,A,rfl,m,w,q⟩:=h;obtain⟨u,rfl,k⟩:=jx r;cases k;obtain⟨d,g,l,B⟩:=I.list m;have n:=g.length;rw[ae]at n;refine sorted_ints l.isList (E6 g) (by omega) λc a t j f=>?_;obtain⟨e,v⟩:=sortedAll_at s.heap d c;have C:=j.length_eq;refine⟨.ref (s.heap.objs.size+1),upd H (s.heap.objs.size+1) (.lst (a.map V.int)),I.laid (t':=s.toks) (λb o f=>sortedAll_old f) (Nat.le_succ _) (show wk X.prog X.w _ _ _ (.lst (a.map V.int))from⟨?_,c.toList,e,vR t,?_⟩),J,q a _ j f (I.hok.fresh (Nat.le_succ _))⟩;rw[ae];exact yb (by omega);simpa[seqObj]using v
end
end L2
namespace L2
open PySem PySem.Spec PyProof.Rows PySem.W
variable{A:Around}{es:Array DictEntry}{h:Heap}{Q:Option Value->Shared->Prop}{E:Value->Shared->Prop}
def jr(h:Heap)(d:Addr)(es:Array DictEntry)(ep:Nat):Prop:=∃o,h.get? d=some o/\o.ExactDict/\o.data=.dict es ep
section
variable{prog:Program}{w:World}{s:Shared}{d it:Addr}{ep i:Nat}
theorem jr.ty(x:jr s.heap d es ep):s.TypeIs (.ref d) "dict":=let⟨o,a,b,_⟩:=x;⟨o,a,b.1⟩
theorem jr.at{h':Heap}(x:jr h d es ep)(k:∀o,h.get? d=some o->h'.get? d=some o):jr h' d es ep:=let⟨o,a,r⟩:=x;⟨o,k o a,r⟩
theorem jr.lt(x:jr h d es ep):d<h.objs.size:=let⟨_,a,_⟩:=x;aq a
theorem CM{Q:I->Shared->Prop}(c:(d==sysModules)=false)(x:jr s.heap d es ep)(e:Q (.ref s.heap.objs.size) {s with heap:=s.heap.push {cls:=.type "dict_keyiterator",data:=.fields #[.ref d,.int 0 0,.int es.size 0,.int ep 0]}}):wpAny (model prog w) A (pyIter (.ref d)) Q E s:=by have hT:=x.ty;obtain⟨o,b,f,a⟩:=id x;refine wpAny_pyIter_slot hT F.slot_dict_iter (cy F.slot_dict_iter hT F.entry_dict_iter ?_ (F.args_dict_iter_1 _));unfold Builtin.«dict.__iter__»;refine aa ?_;unfold Builtin.Dict.dictSlotNone;refine aa (wpAny_notOrdered_dict hT (ac ?_));show wpAny _ _ (Builtin.Dict.showsAll d>>=_) _ _ s;unfold Builtin.Dict.showsAll;rw[if_neg (by rw[c];exact cn)];refine aa (ac (aa (wpAny_dictEntries b a (aa (wpAny_dictEpoch b a ?_)))));refine aa (dg (ac ⟨_,J,"dict_keyiterator",_,⟨_,bi _ J,J⟩,F.slot_dict_keyiterator_next.lookup,?_⟩));simpa[rawInt]using e
theorem CN(a:s.heap.IsKeyIter it d i es.size ep)(x:jr s.heap d es ep)(h:i<es.size)(l:∀h',h'.IsKeyIter it d (i+1) es.size ep->Heap.SameBut it s.heap h'->Q (some es[i].key) {s with heap:=h'}):wpAny (model prog w) A (pyNext (.ref it)) Q E s:=by
 obtain⟨m,f,k,e⟩:=id a;obtain⟨n,b,j,c⟩:=id x;unfold pyNext;refine aa (wpAny_attempt (wpAny_callSpecial?_slot a.typeIs F.slot_dict_keyiterator_next (cy F.slot_dict_keyiterator_next a.typeIs F.entry_dict_keyiterator_next (aa (ac (aa (aa ?_)))) (F.args_dict_keyiterator_next_1 _))))
 first|refine aa (wpAny_typeNameOfWhole_keyiter a.typeIs (ac ?_))|refine aa (wpAny_typeNameOf_keyiter a.typeIs (ac ?_))
 refine aa (wpAny_fieldsOf f e ?_);simp only[show Builtin.Dict_items.ownsTuple "dict_keyiterator"=false from by decide,Bool.false_eq_true,if_false];show wpAny _ _ (if(Value.ref d==Value.none)=true then _ else _) _ _ s;rw[if_neg (show¬((Value.ref d==Value.none)=true)from cn)];refine aa (ac (aa (wpAny_dictEntries b c ?_)));rw[if_neg (by simp)];refine aa (ac (aa (wpAny_dictEpoch b c ?_)));rw[if_neg (by simp)];refine ac ?_;simp only[(by omega),if_false,cz,ge h];refine aa ?_;first|refine aa (wpAny_typeNameOfWhole_keyiter a.typeIs (ac ?_))|refine aa (wpAny_typeNameOf_keyiter a.typeIs (ac ?_))
 refine aa (wpAny_isOneOf_keyiter a.typeIs ?_);show wpAny _ _ (setField (.ref it) 1 (rawInt (i+1))>>=_) _ _ s;refine aa (wpAny_setField f e (by simp) ?_);have g:(s.heap.update it (Obj.mapFields (·.setIfInBounds 1 (rawInt (i+1))))).IsKeyIter it d (i+1) es.size ep:=
  ⟨_,Heap.get?_update_self _ f (Obj.isFreed_of_fields (Obj.data_mapFields e _)),(Obj.cls_mapFields ..).trans k,by rw[Obj.data_mapFields e];simp[rawInt]⟩
 refine aa (wpAny_holding (aa (wpAny_isOneOf_keyiter g.typeIs ?_)));exact ac (ac ⟨_,J,ac (l _ g (Heap.SameBut.update ..))⟩)
theorem Bs(h:A.handled=none)(a:s.heap.IsKeyIter it d i es.size ep)(x:jr s.heap d es ep)(g:es.size<=i)(k:∀h',Heap.ExtBut it s.heap h'->Q none {s with heap:=h'}):wpAny (model prog w) A (pyNext (.ref it)) Q E s:=by
 obtain⟨l,e,n,f⟩:=id a;obtain⟨m,b,j,c⟩:=id x;unfold pyNext;refine aa (wpAny_attempt (wpAny_callSpecial?_slot a.typeIs F.slot_dict_keyiterator_next (cy F.slot_dict_keyiterator_next a.typeIs F.entry_dict_keyiterator_next (aa (ac (aa (aa ?_)))) (F.args_dict_keyiterator_next_1 _))))
 first|refine aa (wpAny_typeNameOfWhole_keyiter a.typeIs (ac ?_))|refine aa (wpAny_typeNameOf_keyiter a.typeIs (ac ?_))
 refine aa (wpAny_fieldsOf e f ?_);simp only[show Builtin.Dict_items.ownsTuple "dict_keyiterator"=false from by decide,Bool.false_eq_true,if_false];show wpAny _ _ (if(Value.ref d==Value.none)=true then _ else _) _ _ s;rw[if_neg (show¬((Value.ref d==Value.none)=true)from cn)];refine aa (ac (aa (wpAny_dictEntries b c ?_)));rw[if_neg (by simp)];refine aa (ac (aa (wpAny_dictEpoch b c ?_)));rw[if_neg (by simp)];refine ac ?_;simp only[(by omega),if_false,cz,Array.getElem?_eq_none g];refine aa ?_;first|refine aa (wpAny_typeNameOfWhole_keyiter a.typeIs (ac ?_))|refine aa (wpAny_typeNameOf_keyiter a.typeIs (ac ?_))
 show wpAny _ _ (setField (.ref it) 0 .none>>=_) _ _ s;refine aa (wpAny_setField e f (by simp) ?_);refine aa ?_;simp only[newExc,newTuple];refine aa (dg (aa (wpAny_of_eq (by first|rfl|(simp only[firstArgMember];rfl)) (dg ?_ (by size_fits)))) (by size_fits));simp only[raiseNew];refine aa (wpAny_handled ?_);rw[(h)];refine aa (ac (wpAny_throw ?_));refine aa (fb ⟨_,bi _ J,J⟩ isSubtype_stop ?_);exact ac (k _ (((Heap.SameBut.update ..).extBut.push _).push _))
theorem D2(p:A.handled=none)(I:Y)(j:d≠I):Walks prog w A I [I,d] [I] es.size (λi v=>∃e,es[i]?=some e/\v=e.key) (λi h=>h.IsKeyIter I d i es.size ep/\jr h d es ep) where
 sub:=λb a=>by simp at a;simp[a]
 frame:=λ_ _ _ st m=>⟨st.1.at λo e=>m I (by simp) o e,st.2.at λo e=>m d (by simp) o e⟩
 item:=λi s Q E n st g=>CN st.1 st.2 n λl f c=>g _ l s.toks ⟨_,ge n,J⟩ ⟨f,st.2.at λo e=>c.extBut d o j e⟩ λb o a e=>c.extBut b o (λh=>a (by simp[h])) e
 done:=λs Q E st g=>Bs p st.1 st.2 (aj _) λl k=>g l s.toks λb o a e=>k b o (λh=>a (by simp[h])) e
 self:=λ_ _ _ _ st g=>wpAny_pyIter_keyiter st.1 g
theorem Bu(lo:(d==sysModules)=false):KdlSrc prog w "dict" d d es.size (λi v=>∃e,es[i]?=some e/\v=e.key) (λh=>jr h d es ep) where
 type:=λ_ x=>x.ty
 there:=λ_ x=>⟨x.lt,x.lt⟩
 keep:=λ_ _ x b=>x.at λo e=>b d (.inl J) o e
 notList:=by decide
 notTuple:=by decide
 hint:=λ_ _ _ _ x a=>kdl_hint_dict x.ty a
 iter:=λ_ _ c x=>⟨_,_,(λ_ _ a=>CM lo x a),D2 c _ (bh x.lt),⟨⟨_,bi _ J,J,J⟩,x.at λo e=>ak _ e⟩⟩
end
noncomputable def kI(g:List Int):List cC:=g.map Sum.inl
theorem zP(g:O Int):(kI g).map kV=g.map V.int:=by unfold kI;rw[eq];rfl
theorem AV{g g':List Int}(h:kI g=kI g'):g=g':=by unfold kI at h;induction g generalizing g' with|nil=>simp_all| cons a g c=>cases g' with|nil=>cases h| cons b g'=>grind
section
variable{X:Cx}
end
end L2
namespace L2
open PySem PySem.Spec PyProof.Rows
variable{a f:Addr}{A:Around}{sl:Array (Option Value)}{xs:Array Value}{X:Cx}{o:HO}{H:Hp}{k n:Nat}{Q:Option Value->Shared->Prop}{prog:Program}{R:Result->Shared->Prop}{E:Value->Shared->Prop}{w:World}
theorem Fc:typeLookup (.type "list") "keys"=pure none:=am_miss_of_fast (by rfl)
section
variable{s:Shared}
set_option maxRecDepth 8000 in
theorem Gk{u:Tok}{Q:Value->Shared->Prop}(hx:s.heap.get? a=some {cls:=.type "list",dict:=none,data:=.seq xs k,slots:=sl})(hA:A.handled=none)
  (h:∀h' tk e,Heap.NewExcOf s.heap h' e "AttributeError"->E (.ref e) {s with heap:=h',toks:=tk}):wpAny (model prog w) A (getAttrBy (.ref a) (.str "keys" u) false) Q E s:=by
 obtain⟨hp,g,d,tk,os⟩:=s;have hT:∀tk',(⟨hp,g,d,tk',os⟩:Shared).TypeIs (.ref a) "list":=λ_=>⟨_,hx,rfl⟩
 have f1:=sub_AttributeError;have f3:=PySem.F.slot_list_getattribute.lookup;have f4:=PySem.F.slot_list_getattribute.bind (.ref a);have f5:=am_list_getattr_none;unfold getAttrBy
 repeat(any_goals (first|assumption|exact hT _|((with_reducible show wpAny _ _ (call (Value.builtin "list.__getattribute__") _ _) _ _ _);refine call_meets PySem.F.slot_list_getattribute (hT _) am_entry_list_getattribute (PySem.F.args_list_getattribute_2 _ _) (meets_getattribute_miss_list a xs k sl "keys" _ Fc (by decide+kernel) (by size_fits)) ⟨hx,hA,λh' tk' e hx'=>?_⟩)|wp_step))
 obtain⟨t',u',he⟩:=hx'.there;show wpAny _ _ (getattributeRaised _ _ _ _ _ _ _) _ _ _;unfold getattributeRaised
 repeat(any_goals (first|assumption|wp_step))
 exact h _ _ _ hx'.of
theorem E9(d:s.heap.get? a=some {cls:=.type "list",dict:=none,data:=.seq xs k,slots:=sl})(i:A.handled=none)
  (h:∀h' tk,(∀b o,s.heap.get? b=some o->h'.get? b=some o)->Q none {s with heap:=h',toks:=tk}):wpAny (model prog w) A (getAttr? (.ref a) "keys") Q E s:=by unfold getAttr? getAttrBy?;refine aa (wpAny_mkText ?_);refine aa (wpAny_attempt (Gk d i λh' tk e x=>?_));obtain⟨c,r,f,g,_⟩:=x.there;refine aa (fb ⟨_,f,g⟩ sub_AttributeError ?_);exact ac (h _ _ x.keeps)
end
section
end
section
end
theorem oR(h:n<=20000):n<=sizeLine:=c6 h (by decide)
theorem oS(h:n<=20000):n<sizeLine:=fg h (by decide)
section
end
def Zh(d f:Addr)(H B:Hp):Prop:=∀b o,b≠d->b≠f->H b=some o->B b=some o
theorem Zh.refl(d f:Y)(H:Hp):Zh d f H H:=λ_ _ _ _ e=>e
theorem Zh.trans{d:Y}{c a:Hp}(x:Zh d f H c)(y:Zh d f c a):Zh d f H a:=λb o n m e=>y b o n m (x b o n m e)
theorem Same.but2{d:Y}{a:Hp}(s:Same H a):Zh d f H a:=λb o _ _ e=>s b o e
theorem Zh.updD{d:Y}:Zh d f H (upd H d o):=λb u n _ e=>by rw[zi n];exact e
theorem Zh.updF{d:Y}:Zh d f H (upd H f o):=λb u _ m e=>by rw[zi m];exact e
end L2
namespace L2
open PySem PySem.Spec PyProof.Rows PySem.W
variable{a b:Addr}{A:Around}{Q:Bool->Shared->Prop}{P:Fin->Shared->Prop}{E:Value->Shared->Prop}
section
variable{prog:Program}{w:World}{K:Type}[DecidableEq K](knd:KeyKind prog w K)
inductive bH(h:Heap):List (List K)->List Value->Prop|nil:bH h [] []|cons {k:List K} {a:Addr} {ks:List (List K)} {vs:List Value}:IsTupleKey knd h k a->bH h ks vs->bH h (k::ks) (.ref a::vs)
def qr(h:Heap)(ks:List (List K))(a:Addr):Prop:=∃o aC n,h.get? a=some o/\o.cls=.type "tuple"/\o.data=.seq aC n/\bH knd h ks aC.toList
noncomputable def Q2(ks:List (List K)):Int:=reduceHash (Builtin.Tuple.tupleHashOf (ks.map (tupleKeyHash knd)))
noncomputable def Vc(ks:List (List K)):Nat:=(ks.map λk=>k.length+1).sum+1
variable{knd}
theorem bH.inj{h:Heap}{x y:List (List K)}{vs:List Value}(d:bH knd h x vs)(a:bH knd h y vs):x=y:=by induction d generalizing y with|nil=>cases a;rfl| cons f _ c=>cases a with|cons e b=>rw[f.inj e,c b]
theorem qr.typeIs{s:Shared}{ks:O (O K)}(x:qr knd s.heap ks a):s.TypeIs (.ref a) "tuple":=let⟨o,_,_,b,c,_⟩:=x;⟨o,b,c⟩
theorem qr.inj{h:Heap}{a:Y}{x y:O (O K)}(i:qr knd h x a)(g:qr knd h y a):x=y:=by obtain⟨o,q,n,j,_,l,k⟩:=i;obtain⟨f,c,p,d,_,b,e⟩:=g;obtain rfl:o=f:=Option.some.inj (j.symm.trans d);rw[l]at b;injection b with m _;subst m;exact k.inj e
theorem bH.keeps{h h':Heap}{ks:List (List K)}{vs:List Value}{d:Addr}{o:Obj}{es ep}(x:bH knd h ks vs)(b:h.get? d=some o)(c:o.data=.dict es ep)(hs:Heap.SameBut d h h'):bH knd h' ks vs:=by induction x with|nil=>exact .nil|cons e _ a=>exact .cons (e.keeps b c hs) a
theorem qr.keeps{h h':Heap}{ks:O (O K)}{a d:Y}{o:Obj}{es ep}(x:qr knd h ks a)(g:h.get? d=some o)(i:o.data=.dict es ep)(hs:Heap.SameBut d h h'):qr knd h' ks a:=by
 obtain⟨f,l,n,c,k,b,j⟩:=x;have e:a≠d:=by rintro rfl;obtain rfl:f=o:=Option.some.inj (c.symm.trans g);rw[i]at b;exact nomatch b
 exact⟨f,l,n,(hs.2 a e).trans c,k,b,j.keeps g i hs⟩
variable{s:Shared}
theorem FY{ks:O (O K)}{Q:Int->Shared->Prop}(v:A.units+2<cLine)(p:qr knd s.heap ks a)(h:Q (Q2 knd ks) {s with toks:=s.toks+Vc ks}):wpAny (model prog w) A (pyHash (.ref a)) Q E s:=by
 have hT:=p.typeIs;obtain⟨o,y,n,q,_,t,r⟩:=p;unfold pyHash;first|unfold pyHashByItsType|skip
 first|refine aa (wpAny_cRoomFor_or (.inr (show A.units<cLine by omega)) ?_)|skip
 refine aa (wpAny_specialOf hT F.slot_tuple_hash.lookup ?_);show wpAny _ _ (if(some (Value.builtin "tuple.__hash__")==some Value.none)=true then _ else _) Q E s;rw[if_neg (by rw[beq_builtin_none];exact cn)];refine aa (wpAny_specialOf hT F.slot_tuple_hash.lookup ?_);show wpAny _ _ (callSpecialIfBoundUnlessNone? (.ref a) "__hash__" _>>=_) Q E s;refine aa (wpAny_callSpecialIfBoundUnlessNone?_slot hT F.slot_tuple_hash (cy F.slot_tuple_hash hT F.entry_tuple_hash ?_ (F.args_tuple_hash_1 _)));show wpAny _ _ (Builtin.Tuple.tupleItemsOf (.ref a)>>=_) _ _ s;refine aa (wpAny_tupleItemsOf q t ?_);refine aa ?_;rw[<-Array.forIn_toList];refine wpAny_forIn_list _
  (λvx (b:Array Int) l=>∃d e,ks=d++e/\bH knd s.heap e vx/\b.toList=d.map (tupleKeyHash knd)/\l={s with toks:=s.toks+(d.map λk=>k.length+1).sum})
  _ ?_ ?_ _ _ ⟨[],ks,J,r,J,J⟩
 . rintro x vx b l ⟨d,e,rfl,m,j,rfl⟩;cases m with| @cons k c f _ u g=>
     refine aa (wpAny_pyHash_tuple ?room (s:={s with toks:=s.toks+(d.map λk=>k.length+1).sum}) u ?_)
     case room=>show A.in1.units<cLine;have:A.in1.units=A.units+1:=rfl;omega
     first|exact ac ⟨d++[k],f,by simp,g,by simp[j],by simp[Nat.add_assoc]⟩|exact aa (ac (ac ⟨d++[k],f,by simp,g,by simp[j],by simp[Nat.add_assoc]⟩))
 rintro b l ⟨d,e,rfl,m,j,rfl⟩;cases m;rw[ez]at h;show wpAny _ _ (retInt (Builtin.Tuple.tupleHashOf b.toList)) _ _ _;rw[j];refine wpAny_ret_mkInt ?_;show wpAny _ _ (if(decide (-(2:Int)^63<=Builtin.Tuple.tupleHashOf (d.map (tupleKeyHash knd))) && decide (Builtin.Tuple.tupleHashOf (d.map (tupleKeyHash knd))<2^63))=true then _ else _) Q E _;unfold Q2 reduceHash Vc at h;by_cases i:(decide (-(2:Int)^63<=Builtin.Tuple.tupleHashOf (d.map (tupleKeyHash knd))) && decide (Builtin.Tuple.tupleHashOf (d.map (tupleKeyHash knd))<2^63))=true;rw[if_pos i];rw[if_pos i]at h;exact ac (by simpa[Nat.add_assoc]using h);rw[if_neg i];rw[if_neg i]at h;exact aa (wpAny_rule (ac (by simpa[Nat.add_assoc]using h)))
theorem Gm{x y:List (List K)}(hu:A.units<cLine)(hx:qr knd s.heap x a)(Z:qr knd s.heap y b)(h:P (.done (.ret (.bool (decide (x=y))))) s):wpAny (model prog w) A (Builtin.«tuple.__eq__» ⟨[.ref a,.ref b],[]⟩) P E s:=by
 have U:=Z.typeIs;obtain⟨oa,C,na,L,_,S,Q⟩:=hx;obtain⟨ob,z,nb,H,_,R,N⟩:=Z;show wpAny _ _ (isInstance (.ref b) (.type "tuple")>>=_) _ _ s;refine aa (fb U isSubtype_tuple_tuple ?_);simp only[Bool.not_true,Bool.false_eq_true,if_false];refine aa (wpAny_tupleItemsOf L S ?_);refine aa (wpAny_tupleItemsOf H R ?_);refine aa ?_;refine wpAny_forIn_list _
  (λvx r F=>r.1=none/\F=s/\∃D B e d,vx=List.zip e d/\bH knd s.heap D e/\bH knd s.heap B d/\decide (D=B)=decide (x=y)/\(e.length==d.length)=(C.size==z.size))
  _ ?_ ?_ _ _ ⟨J,J,x,y,C.toList,z.toList,J,Q,N,J,by simp⟩
 rintro⟨u,v⟩ vx r F ⟨G,rfl,D,B,e,d,j,i,g,c,f⟩;cases i with
 |nil=>simp at j
 | @cons X u' n m h1 q=>
   cases g with
   |nil=>simp at j
   | @cons W v' l k h2 o=>
     simp only[List.zip_cons_cons,List.cons.injEq,Prod.mk.injEq]at j;obtain⟨⟨rfl,rfl⟩,rfl⟩:=j;refine aa (wpAny_eqBool_tuple (x:=X) (y:=W) hu h1 h2 ?_);by_cases M:X=W;subst M;rw[aw J];simp only[Bool.not_true,Bool.false_eq_true,if_false];refine ac ⟨J,J,n,l,m,k,J,q,o,?_,by simpa using f⟩;rw[<-c];by_cases p:n=l;simp[p];simp[p];rw[bp M];simp only[Bool.not_false,if_true];have hf:decide (x=y)=false:=by rw[<-c];simp[M]
     rw[hf]at h;exact aa (ac (ac (ac h)))
 rintro⟨r1,r2⟩ F ⟨G,rfl,D,B,e,d,j,i,g,c,f⟩;simp only at G;subst G;refine ac ?_;have t:(C.size==z.size)=decide (x=y):=by
  rw[<-c,<-f];cases i with
  | nil=>
    cases g with
    |nil=>simp
    |cons _ _=>simp
  | cons _ _=>
    cases g with
    |nil=>simp
    |cons _ _=>simp at j
 show P (.done (.ret (.bool (C.size==z.size)))) F;rw[t];exact h
theorem FZ{x y:O (O K)}(g:A.units+2<cLine)(d:qr knd s.heap x a)(f:qr knd s.heap y b)(h:Q (decide (x=y)) s):wpAny (model prog w) A (eqBool (.ref a) (.ref b)) Q E s:=by
 unfold eqBool
 try with_reducible refine wpAny_holding ?_
 show wpAny _ _ (if(Value.ref a==Value.ref b)=true then _ else _) Q E s;by_cases c:(Value.ref a==Value.ref b)=true;rw[if_pos c];have e:a=b:=by have:=eq_of_beq c;injection this
 subst e;obtain rfl:=d.inj f;exact aa (wpAny_rule (ac (by simpa using h)))
 . rw[if_neg c];refine aa (wpAny_richCompare_same_room (op:=.Eq) d.typeIs f.typeIs F.slot_tuple_eq (cy F.slot_tuple_eq d.typeIs F.entry_tuple_eq (Gm ?room d f ⟨_,J,(λe=>nomatch e),wpAny_truthy_bool h⟩) (F.args_tuple_eq_2 _ _)) (by omega))
   show A.in1.units<cLine;have:A.in1.units=A.units+1:=rfl;omega
theorem Ez{n:Nat}{ks:O K}(f:IsTupleKey knd s.heap ks a)(h:Q true s):wpAny (model prog w) A (eqIsQuiet (n+1) (.ref a)) Q E s:=by have hT:=f.typeIs;obtain⟨o,p,m,g,_,j,i⟩:=f;unfold eqIsQuiet;refine aa (wpAny_specialOf hT F.slot_tuple_eq.lookup ?_);refine aa (fb hT isSubtype_tuple_tuple ?_);simp only[Bool.not_true,Bool.false_eq_true,if_false];refine aa (wpAny_seqItems g j ?_);refine aa ?_;rw[<-Array.forIn_toList];refine wpAny_forIn_list _ (λvx r c=>r.1=none/\c=s/\∀v∈vx,carriedByValue v=true) _ ?_ ?_ _ _ ⟨J,J,i.byValue⟩;rintro v vx r c ⟨e,rfl,b⟩;rw[eqIsQuiet_byValue _ (b v c8)];refine aa (ac ?_);simp only[Bool.not_true,Bool.false_eq_true,if_false];exact ac ⟨J,J,λu d=>b u (ce _ d)⟩;rintro⟨l,k⟩ c ⟨e,rfl,_⟩;simp only at e;subst e;exact ac h
theorem FM{ks:List (List K)}(e:qr knd s.heap ks a)(h:Q true s):wpAny (model prog w) A (eqIsQuiet 8 (.ref a)) Q E s:=by
 have hT:=e.typeIs;obtain⟨o,l,m,g,_,j,i⟩:=e;unfold eqIsQuiet;refine aa (wpAny_specialOf hT F.slot_tuple_eq.lookup ?_);show wpAny _ _ (isInstance (.ref a) (.type "tuple")>>=_) _ _ s;refine aa (fb hT isSubtype_tuple_tuple ?_);simp only[Bool.not_true,Bool.false_eq_true,if_false];refine aa (wpAny_seqItems g j ?_);refine aa ?_;show wpAny _ _ (forIn l _ _) _ _ s;rw[<-Array.forIn_toList];refine wpAny_forIn_list _ (λvx r c=>r.1=none/\c=s/\∃ks,bH knd s.heap ks vx) _ ?_ ?_ _ _ ⟨J,J,_,i⟩;rintro v vx r c ⟨d,rfl,f,b⟩;cases b with| cons k t=>refine aa (Ez k ?_);simp only[Bool.not_true,Bool.false_eq_true,if_false];exact ac ⟨J,J,_,t⟩
 rintro⟨p,n⟩ c ⟨d,rfl,_⟩;simp only at d;subst d;exact ac h
end
noncomputable def xw{prog:Program}{w:World}{K:Type}[DecidableEq K](knd:KeyKind prog w K):HeapKind prog w (List (List K)) where
 is:=qr knd
 hash:=Q2 knd
 draws:=Vc
 room:=λA=>A.units+2<cLine
 inj:=λF B=>F.inj B
 keeps:=λx ho hd W=>x.keeps ho hd W
 pyHash:=λG U h=>FY G U h
 eqBool:=λG F B h=>FZ G F B h
 quiet:=λU h=>FM U h
noncomputable def tN(k:List (List Int)):T:=.tup (k.map tI)
noncomputable def nK(k:List (List Int)):List (List cC):=k.map kI
abbrev xv:=List (List Int)
variable{h:Heap}{H:Hp}{kvs:List (xv×V)}{P:Program}{y:V}{u:Value}{w:World}
abbrev kj:=List (List cC)×Addr×Value
theorem pj:∀{a b:xv},nK a=nK b->a=b|[],[],_=>rfl|[],_::_,e=>by cases e|_::_,[],e=>by cases e| x::g,y::f,e=>by injection e with d c;rw[AV d,pj c]
def W9(P:Program)(w:World)(d:Addr)(xs:List kj):Heap->Prop:=λh=>∃o es ep,h.get? d=some o/\o.ExactDict/\o.data=.dict es ep/\es.toList=xs.map (entryOfKey (xw (yp P w)))
theorem W9.ok{d:Y}{xs:O kj}(x:W9 P w d xs h):wk P w H h d (.ext (W9 P w d xs)):=by refine⟨x,?_,λf e y k=>?_⟩;obtain⟨o,_,_,a,_⟩:=x;exact⟨o,a⟩;obtain⟨o,b,c,a,r⟩:=y;exact⟨o,b,c,k o a,r⟩
abbrev KN(H:Hp):List (xv×V)->List kj->Prop:=Paired λp q=>nK p.1=q.1/\Is H (tN p.1) (.ref q.2.1)/\yu p.2 q.2.2
theorem KN.val{xs:List kj}(r:KN H kvs xs)(k:xv):iw (Zi kvs k) ((atKey xs (nK k)).map (·.2)):=by
 induction r with|nil=>exact True.intro| @cons p q i a h t f=>
   obtain⟨d,_,g⟩:=h;by_cases e:p.1=k;have c:q.1=nK k:=by rw[<-d,e]
   have b:atKey (q::a) (nK k)=some q.2:=by simp[atKey,List.find?_cons,c]
   rw[Qa e,b];exact g;have c:¬q.1=nK k:=λz=>e (pj (d.trans z));have b:atKey (q::a) (nK k)=atKey a (nK k):=by simp[atKey,List.find?_cons,c]
   rw[Qb e,b];exact f
theorem KN.repl{xs:List kj}(r:KN H kvs xs)(k:xv)(d:yu y u):KN H (kvs.map λb=>if b.1=k then(b.1,y)else b) (xs.map (putAt (nK k) u)):=by induction r with|nil=>exact .nil| @cons p q j i h t f=>rw[dv,dv];refine .cons ?_ f;obtain⟨a,c,g⟩:=h;unfold putAt;by_cases e:p.1=k;rw[if_pos e,if_pos (by rw[<-a,e])];exact⟨a,c,d⟩;rw[if_neg e,if_neg (λz=>e (pj (a.trans z)))];exact⟨a,c,g⟩
theorem KN.put{xs:O kj}(r:KN H kvs xs)(k:xv)(d:Is H (tN k) (.ref b))(a:yu y u):KN H (Wc kvs k y) (storedH xs (nK k) b u):=by
 have e:(kvs.any λc=>decide (c.1=k))=(atKey xs (nK k)).isSome:=by rw[Xv,(r.val k).isSome_eq,Option.isSome_map]
 unfold Wc storedH;rw[e];by_cases q:(atKey xs (nK k)).isSome=true;rw[if_pos q,if_pos q];exact r.repl k a;rw[if_neg q,if_neg q];exact Paired.snoc r ⟨J,d,a⟩
theorem aU:∀(a:List Int),xn (a.map T.int)|[]=>trivial|c::a=>⟨trivial,aU a⟩
theorem AN(k:xv):bI (tN k):=xn.all.mpr λt a=>by obtain⟨g,_,rfl⟩:=bz.mp a;exact aU g
theorem KN.tups{H a:Hp}{kvs:O (xv×V)}{xs:O kj}(r:KN H kvs xs)(t:qj H a):KN a kvs xs:=Paired.mapP r λ_ _ z=>⟨z.1,z.2.1.tups t (AN _),z.2.2⟩
inductive cJ(P:Program)(w:World)(H:Hp)(d:Addr)(kvs:List (xv×V)):Prop|mk:∀xs:List kj,H d=some (.ext (W9 P w d xs))->(d==sysModules)=false->kvs.length<=sizeLine->(xs.map (·.1)).Nodup->KN H kvs xs->cJ P w H d kvs
section
variable{H':Hp}{d:Addr}
theorem cJ.same(n:cJ P w H d kvs)(s:Same H H'):cJ P w H' d kvs:=by obtain⟨f,e,a,b,c,r⟩:=n;exact⟨f,s _ _ e,a,b,c,Paired.mapP r λ_ _ z=>⟨z.1,z.2.1.mono s,z.2.2⟩⟩
theorem cJ.by(n:cJ P w H d kvs)(t:qj H H')(e:H' d=H d):cJ P w H' d kvs:=by obtain⟨f,g,a,b,c,r⟩:=n;exact⟨f,e.trans g,a,b,c,r.tups t⟩
theorem cJ.tups{o:HO}(n:cJ P w H d kvs):qj H (upd H d o):=by obtain⟨a,e,_⟩:=n;exact qj.upd e (λzs z=>by cases z)
theorem cJ.ne{a:O V}(n:cJ P w H d kvs)(h:H b=some (.lst a)):b≠d:=λz=>by obtain⟨c,e,_⟩:=n;rw[z,e]at h;cases h
theorem rY{h:Heap}(a:aZ P w H h):∀{k:xv}{xs:List V}{us:List Value},IsL H (k.map tI) xs->yl xs us->bH (yp P w) h (nK k) us| [],_,_,e,r=>by cases(show _=[]from e);cases r;exact .nil| g ::k,_,_,⟨v,m,e,l,j⟩,r=>by subst e;cases r with| cons f d=>obtain⟨b,zs,rfl,c,i⟩:=l;rw[IsL.ints.mp i,<-zP]at c;cases f;exact .cons (AY a c) (rY a j d)
theorem Zy(c:aZ P w H h){k:xv}(i:Is H (tN k) (.ref a)):(xw (yp P w)).is h (nK k) a:=by
 obtain⟨p,d,e,g,f⟩:=i;cases e;obtain⟨_,b,r,⟨o,m,l,n,j⟩,_⟩:=(show wk P w H h a (.tup d)from c a _ g)
 exact⟨o,b.toArray,n,m,l,j,by simpa using rY c f r⟩
theorem cJ.dict(i:aZ P w H h)(n:cJ P w H d kvs):(d==sysModules)=false/\∃xs,KN H kvs xs/\xs.length<=sizeLine/\h.DictOfH (xw (yp P w)) d xs:=by
 obtain⟨xs,e,a,b,c,r⟩:=n;obtain⟨⟨o,z,A,y,v,u,s⟩,_⟩:=(show wk P w H h d (.ext (W9 P w d xs))from i d _ e)
 have D:=Paired.length r;refine⟨a,xs,r,by omega,o,z,A,y,v,u,s,?_,c⟩;have g:∀{l:O (xv×V)}{m:O kj},KN H l m->∀x∈m,(xw (yp P w)).is h x.1 x.2.1:=by intro l m q;induction q with|nil=>intro x f;exact nomatch f| @cons p q C B j t k=>intro x f;rcases ai.mp f with e|f;subst e;rw[<-j.1];exact Zy i j.2.1;exact k x f
 exact g r
theorem yP{xs:List kj}(r:KN H kvs xs):IsL H (kvs.map λa=>tN a.1) (xs.map λx=>V.ref x.2.1):=by induction r with|nil=>rfl|cons h t b=>exact⟨_,_,J,h.2.1,b⟩
end
inductive jD(P:Program)(w:World)(f:Bool->Bool)(Q:VK)(y x:V)(H2:Hp):Prop|mk:∀d b kvs k,x=.ref d->y=.ref b->cJ P w H2 d kvs->Is H2 (tN k) (.ref b)->Q (.bl (f (Zi kvs k).isSome)) H2->jD P w f Q y x H2
def oC(P:Program)(w:World)(f:Bool->Bool)(B F:TE):TE:=λσ H Q=>B σ H λy H1=>F σ H1 λx H2=>jD P w f Q y x H2
inductive gm(P:Program)(w:World)(Q:VK)(x y:V)(H2:Hp):Prop|mk:∀d b kvs k v,x=.ref d->y=.ref b->cJ P w H2 d kvs->Is H2 (tN k) (.ref b)->Zi kvs k=some v->Q v H2->gm P w Q x y H2
def zG(P:Program)(w:World)(F B:TE):TE:=λσ H Q=>F σ H λx H1=>B σ H1 λy H2=>gm P w Q x y H2
inductive gE(P:Program)(w:World)(D:Ends)(σ:St)(v x y:V)(H3:Hp):Prop|mk:∀d b kvs k,x=.ref d->y=.ref b->cJ P w H3 d kvs->Is H3 (tN k) (.ref b)->kvs.length<sizeLine->(∀o,cJ P w (upd H3 d o) d (Wc kvs k v)->D.nx σ (upd H3 d o))->gE P w D σ v x y H3
def yW(P:Program)(w:World)(G B F:TE):TS:=λD σ H=>F σ H λv H1=>G σ H1 λx H2=>B σ H2 λy U=>gE P w D σ v x y U
def Ah(P:Program)(w:World):TE:=λ_ H Q=>∀p o,H p=none->cJ P w (upd H p o) p []->Q (.ref p) (upd H p o)
inductive jJ(P:Program)(w:World)(xs:List V)(H:Hp)(Q:VK):Prop|mk:∀d kvs,xs=[.ref d]->cJ P w H d kvs->Q (.int ((kvs.length:Nat):Int)) H->jJ P w xs H Q
inductive gK(P:Program)(w:World)(xs:List V)(H:Hp)(Q:VK):Prop|mk:∀d kvs,xs=[.ref d]->cJ P w H d kvs->(∀ys p H',Same H H'->H p=none->H' p=some (.lst ys)->IsL H' (kvs.map λkv=>tN kv.1) ys->Q (.ref p) H')->gK P w xs H Q
def Cm(P:Program)(w:World)(te B:TE):TE:=λσ H Q=>∀p o,H p=none->cJ P w (upd H p o) p []->te σ (upd H p o) λx H1=>B σ H1 λy H2=>∃b k,x=.ref b/\Is H2 (tN k) (.ref b)/\cJ P w H2 p []/\∀o',cJ P w (upd H2 p o') p [(k,y)]->Q (.ref p) (upd H2 p o')
section
variable{X:Cx}{o i e aT:Expr}{pos eO cK:Pos}{td ty tv:TE}
theorem mf(a:A.units+3<cLine):(xw (yp P w)).room A.in1:=by show A.in1.units+2<cLine;have:A.in1.units=A.units+1:=rfl;omega
theorem AB(w:X.A.units+3<cLine)(A:PE X i ty)(z:PE X o td):PC X .In i o (oC X.prog X.w id ty td):=by intro a s g H Q I h;refine aF (A a s g H _ I h) λt j ⟨y,K,F,l,r⟩=>aF (z a j g K _ F r) λu M ⟨x,G,f,m,d,b,e,k,D,C,n,v,p⟩=>?_;subst D C;obtain rfl:u=Value.ref d:=m;obtain rfl:t=Value.ref b:=l;obtain⟨B,L,c,_,E⟩:=n.dict f.hok;refine wpAny_in_heap (mf w) (Zy f.hok v) B E ?_;have q:=(c.val k).isSome_eq;rw[Option.isSome_map]at q;rw[<-q];exact⟨.bl (Zi e k).isSome,G,f.tok _,J,p⟩
theorem Y6(w:X.A.units+3<cLine)(A:PE X i ty)(z:PE X o td):PC X .NotIn i o (oC X.prog X.w (!·) ty td):=by intro a s g H Q I h;refine aF (A a s g H _ I h) λt j ⟨y,K,F,l,r⟩=>aF (z a j g K _ F r) λu M ⟨x,G,f,m,d,b,e,k,D,C,n,v,p⟩=>?_;subst D C;obtain rfl:u=Value.ref d:=m;obtain rfl:t=Value.ref b:=l;obtain⟨B,L,c,_,E⟩:=n.dict f.hok;refine wpAny_notIn_heap (mf w) (Zy f.hok v) B E ?_;have q:=(c.val k).isSome_eq;rw[Option.isSome_map]at q;rw[<-q];exact⟨.bl (!(Zi e k).isSome),G,f.tok _,J,p⟩
theorem B8(F:X.A.units+3<cLine)(K:PE X o td)(L:PE X i ty)(hs:qW i):PE X (.Subscript o i pos) (zG X.prog X.w td ty):=by intro a s j H Q I h;refine Cj PySem.F.slot_dict_getitem.lookup hs (aF (K a s j H _ I h) λu r ⟨x,S,P,w,A⟩=>aF (L a r j S _ P A) λC W ⟨y,R,g,t,d,b,B,k,v,N,M,n,D,l,z⟩=>?_);subst N M;obtain rfl:u=Value.ref d:=w;obtain rfl:C=Value.ref b:=t;obtain⟨Z,q,e,_,m⟩:=n.dict g.hok;obtain⟨U,E,c⟩:=iw.some_of (v:=v) (o:=(atKey q (nK k)).map (·.2)) (by rw[<-l];exact e.val k);obtain⟨p,G,f⟩:=fm.mp E;refine⟨m.typeIs,wpAny_getItem_heap (mf F) (Zy g.hok D) m G ?_⟩;rw[f];exact⟨v,R,g.tok _,c,z⟩
theorem uv(N:X.A.units+3<cLine)(P:PE X o td)(R:PE X i ty)(M:PE X aT tv)(hs:swapsWith aT (some (.Subscript o i eO)) pos.line X.env=pure false):PS X (.Assign [.Subscript o i eO] aT pos) (yW X.prog X.w td ty tv):=by intro a s c H D I h;refine wpAny_Assign_Subscript (aF (M a s c H _ I h) λr z ⟨v,H1,I1,C,G⟩=>aF (P a z c H1 _ I1 G) λu w ⟨x,H2,I2,B,F⟩=>aF (R a w c H2 _ I2 F) λK s3 ⟨y,H3,j,A,d,b,f,k,ex,ey,n,l,hl,E⟩=>?_) hs;subst ex ey;obtain rfl:u=Value.ref d:=B;obtain rfl:K=Value.ref b:=A;obtain⟨S,t,e,L,dd⟩:=n.dict j.hok;refine wpAny_setItem_heap (hsz:=L) (mf N) (Zy j.hok l) dd λh' fE g=>?_;obtain⟨q,es,ep,m,h2,Z,W,_,U⟩:=fE;obtain⟨p,e0,_⟩:=id n;have Q:=Vn f k v;refine⟨c,_,tW j (by rw[e0];exact True.intro) g ⟨q,m⟩ (W9.ok (xs:=storedH t (nK k) b r) ⟨q,es,ep,m,h2,Z,W⟩),E _ ⟨_,ze,S,by omega,U,(e.put k l C).tups n.tups⟩⟩
theorem tG(h:Heap):W9 P w h.objs.size [] (h.push {cls:=.type "dict",data:=.dict #[]}):=⟨_,#[],0,bi _ J,⟨J,J,J⟩,J,J⟩
theorem B9:PE X (.Dict [] [] pos) (Ah X.prog X.w):=λa s b H Q I h=>wpAny_Dict_empty ⟨.ref s.heap.objs.size,_,I.laid (a:=s.heap.objs.size) (o:=.ext (W9 X.prog X.w s.heap.objs.size [])) (t':=s.toks) (λ_ _ q=>ak _ q) (aj _) (tG s.heap).ok,J,h _ _ (I.hok.fresh (aj _)) ⟨[],ze,beq_eq_false_iff_ne.mpr (al (bh I.big)),cm _,List.nodup_nil,.nil⟩⟩
theorem Y9:jt X (.builtin "len") (jJ X.prog X.w):=by
 intro f s w H i x Q I r h;obtain⟨d,a,rfl,n,q⟩:=h;obtain⟨u,rfl,j⟩:=jx r;cases(show u=Value.ref d from j);obtain⟨l,i,b,z,⟨o,t,B,g,m,c,k,_,_⟩⟩:=n.dict I.hok;have e:t.size=a.length:=by have A:=size_of_entries k;have y:=Paired.length b;omega
 have hT:s.TypeIs (.ref d) "dict":=⟨o,g,m.1⟩
 have p:((a.length:Nat):Int)<2^63:=by have:=Paired.length b;rw[sizeLine_eq]at z;omega
 refine Calls.call_function_entry kind_len plain_len entry_len (args_len1 _) ?_;unfold Builtin.«len»;refine aa (m:=oneArg "len" _) (ac ?_);refine aa (m:=callSpecial? (.ref d) (Str.ofString "__len__")) (wpAny_callSpecial?_slot (name:=Str.ofString "__len__") hT PySem.F.slot_dict_len (cy PySem.F.slot_dict_len hT PySem.F.entry_dict_len ?_ (PySem.F.args_dict_len_1 _)));show wpAny _ _ (dictSize d>>=_) _ _ s;unfold dictSize;refine aa (aa (wpAny_dictEntries g c (ac ?_)));show wpAny _ _ (Builtin.Dict.pendingCount d>>=_) _ _ s;refine aa (wpAny_pendingCount_other l (wpAny_ret_mkInt ?_));rw[e];have v:((a.length:Nat):Int)+((0:Nat):Int)=((a.length:Nat):Int):=by simp
 rw[v];refine aa (wpAny_holding (ac (aa (wpAny_letGo ?_))));show wpAny _ _ (if((a.length:Nat):Int)<0 then _ else _) _ _ _;rw[if_neg (by omega)];show wpAny _ _ (if((a.length:Nat):Int)≥2^63 then _ else _) _ _ _;rw[if_neg (by omega)];exact aa (wpAny_mkInt (ac ⟨_,J,.int _,H,(I.tok _).tok _,⟨_,J⟩,q⟩))
theorem E5(M:X.calm=true):jt X (.type "list") (gK X.prog X.w):=by
 intro m s W H c us Q I r h;obtain⟨d,C,rfl,n,q⟩:=h;obtain⟨u,rfl,B⟩:=jx r;cases(show u=Value.ref d from B);obtain⟨L,c,i,z,⟨o,P,R,E,k,e,t,_,_⟩⟩:=n.dict I.hok;have K:=size_of_entries t;refine kdl_call (Bu (es:=P) (ep:=R) L) (I.ok.hd M) ⟨o,E,k,e⟩ (by omega) λh' A a U F N b=>?_;have D:yl (c.map λx=>V.ref x.2.1) a.toList:=ug (by have g:=b.1;have w:a.toList.length=a.size:=Array.length_toList;rw[ae];omega) λj x v f S=>by obtain⟨en,g,w⟩:=b.2 j v (by rw[<-Array.getElem?_toList];exact S);rw[entry_at t j]at g;rw[ba]at f;cases y:c[j]? with|none=>rw[y]at f;cases f| some Z=>rw[y]at f g;cases f;cases g;rw[w];rfl
 have G:=yP i;have p:=I.hok.fresh (aj s.heap.objs.size);have l:=Same.new p (.lst (c.map λx=>V.ref x.2.1));exact⟨.ref s.heap.objs.size,_,I.laid (t':=A) (o:=.lst (c.map λx=>V.ref x.2.1)) F (aj _) ⟨by rw[ae];omega,a.toList,U,D,by simpa using N⟩,J,q _ _ _ l p ze (G.mono l)⟩
theorem Ev{v:Expr}{te:TE}(hu:X.A.units+3<cLine)(he:PE X e te)(E:PE X v tv):PE X (.Dict [some e] [v] pos) (Cm X.prog X.w te tv):=by
 intro a s h H Q I q;have G:=I.hok.fresh (aj s.heap.objs.size);have c:(s.heap.objs.size==sysModules)=false:=beq_eq_false_iff_ne.mpr (al (bh I.big));have I1:=I.laid (a:=s.heap.objs.size) (o:=.ext (W9 X.prog X.w s.heap.objs.size [])) (h':=s.heap.push {cls:=.type "dict",data:=.dict #[]}) (t':=s.toks) (λ_ _ q=>ak _ q) (aj _) (tG s.heap).ok;rw[arm_eval_Dict];refine aa (wpAny_standAt ?_);let r:Sem Value:=do let x<-eval v X.env;standAt pos;pure x
 show wpAny _ _ (dictDisplay ([(eval e X.env,r)].map λp=>(some p.1,p.2))) _ _ _;rw[dictDisplay_pairs _ (by simp) (by simp)];refine aa ?_;unfold subDict;refine aa (wpAny_alloc (aa (wpAny_holding ?_)));rw[if_pos (by simp)];refine aa (evalPairs_cons ?_);refine aF (he a _ h _ _ I1 (q _ _ G ⟨[],ze,c,cm _,List.nodup_nil,.nil⟩)) λu w ⟨x,H1,Z,A,D⟩=>?_;refine aa (aF (E a w h H1 _ Z D) λt s2 ⟨y,H2,g,z,b,k,S,j,n,C⟩=>?_);subst S;obtain rfl:u=Value.ref b:=A;refine aa (wpAny_standAt (ac (evalPairs_nil ?_)));refine wpAny_holding ?_;rw[List.forIn_cons];obtain⟨K,o,B,_,f⟩:=n.dict g.hok;cases B;obtain⟨m,W,_⟩:=id n;refine aa (aa (aa (wpAny_dictSet_heap (k:=nK k) (knd:=xw (yp X.prog X.w)) (show X.A.units+2<cLine by omega) (Zy g.hok j) f (λh' R F=>ac ?_) (by rw[List.length_nil];exact cm _))));dsimp only;rw[List.forIn_nil];refine ac (ac (ac (ac ?_)));obtain⟨i,U,d,l,P,N,M,_,L⟩:=R;refine⟨.ref s.heap.objs.size,_,tW g (by rw[W];exact True.intro) F ⟨i,l⟩ (W9.ok (xs:=storedH [] (nK k) b t) ⟨i,U,d,l,P,N,M⟩),J,C _ ⟨_,ze,K,by show 1<=sizeLine;decide,L,?_⟩⟩;exact(KN.put (kvs:=[]) (xs:=[]) .nil k j z).tups n.tups
end
end L2
namespace L2
open PySem PySem.Spec PyProof.Rows
variable{a b it t1 t2 tb:Addr}{A:Around}{a1 a2 its:Array Value}{X:Cx}{e:Expr}{fd:FuncData}{h:Heap}{H:Hp}{g:xv}{L:List (List Int)}{ks:List (List cC)}{cQ es:List Expr}{ns:List Int}{gs:List xv}{cap:List Nat}{rows:List kj}{xs:List V}{us vs:List Value}{i k:Nat}{Q:Option Value->Shared->Prop}{pos:Pos}{P prog:Program}{R:Result->Shared->Prop}{x:Str}{mb mg:Str->Option Value}{v:Value}{E:Value->Shared->Prop}{w:World}
noncomputable def nF(xs rows:List kj):List kj:=rows.foldl (λB r=>storedH B r.1 r.2.1 r.2.2) xs
theorem F1(xs:O kj)(k:O (O cC))(a:Y)(v:I):(storedH xs k a v).length<=xs.length+1:=by unfold storedH;split;rw[ae];omega;rw[ay,bg];exact aj _
def lJ(h h':Heap):Prop:=∀c o,o.cls=.type "tuple"->h.get? c=some o->h'.get? c=some o
section
variable{h':Heap}
theorem bH.keep(x:bH (yp prog w) h ks us)(k:lJ h h'):bH (yp prog w) h' ks us:=by induction x with|nil=>exact .nil| cons e _ c=>obtain⟨o,a,n,d,b,r⟩:=e;exact .cons ⟨o,a,n,k _ _ b d,b,r⟩ c
theorem Vb(x:(xw (yp prog w)).is h ks a)(k:lJ h h'):(xw (yp prog w)).is h' ks a:=by obtain⟨o,b,n,d,c,f,e⟩:=x;exact⟨o,b,n,k _ _ c d,c,f,e.keep k⟩
def mQ(prog:Program)(w:World)(h:Heap)(v:Value)(r:kj):Prop:=∃b,v=.ref b/\h.IsTuple b #[.ref r.2.1,r.2.2]/\(xw (yp prog w)).is h r.1 r.2.1
theorem mQ.keep{r:kj}(p:mQ prog w h v r)(k:lJ h h'):mQ prog w h' v r:=by obtain⟨b,e,⟨o,d,a,n,f⟩,c⟩:=p;exact⟨b,e,⟨o,k _ _ a d,a,n,f⟩,Vb c k⟩
theorem Wp{d:Y}{xs:O kj}(x:h.DictOfH (xw (yp prog w)) d xs)(kd:∀o,h.get? d=some o->h'.get? d=some o)(k:lJ h h'):h'.DictOfH (xw (yp prog w)) d xs:=by obtain⟨o,j,l,f,i,c,g,b,a⟩:=x;exact⟨o,j,l,kd o f,i,c,g,λy e=>Vb (b y e) k,a⟩
theorem D1{d t:Addr}(hu:A.units+3<cLine)(hh:A.handled=none)(q:d≠it)(S:t≠it)(Q:t≠d)(hl:its.size=rows.length)(U:rows.length<=sizeLine):
  ∀ (k i:Nat) (s:Shared) (xs:List kj),rows.length-i=k->i<=rows.length->xs.length<=i->s.heap.IsListIter it t i->s.heap.IsList t its->s.heap.DictOfH (xw (yp prog w)) d xs->
    (∀(j:Nat) v r,its[j]?=some v->rows[j]?=some r->mQ prog w s.heap v r)->
    (∀h' tk,h'.DictOfH (xw (yp prog w)) d (nF xs (rows.drop i))->(∀b o,b≠d->b≠it->s.heap.get? b=some o->h'.get? b=some o)->R (.ok (.ret .none)) {s with heap:=h',toks:=tk})->
    codeAny (model prog w) A (.builtin "dict.update.loop" ⟨[.ref d,.ref it,rawInt i,.none],[]⟩) R s:=by
 intro k;induction k with| zero=>
   intro i s xs hk hi hz l G K M hR;have e:i=rows.length:=by omega
   have tk:∀h',Heap.ExtBut it s.heap h'->lJ s.heap h':=λh' F c o a z=>F c o (λy=>by obtain⟨oi,h,m,_⟩:=l;rw[y,h]at z;cases z;rw[m]at a;exact absurd a (by decide)) z
   refine codeAny_builtin Kq ?_;rw[Around.under_plainId Y5 _];show wpAny _ A.in1 (pyNext (.ref it)>>=_) _ _ s;refine aa (wpAny_pyNext_list_end (show A.in1.handled=none from hh) l G (Array.getElem?_eq_none (by omega)) λh' F=>?_);show wpAny _ A.in1 (Builtin.Dict.addKeywords d []>>=_) _ _ _;refine aa (ac (ac ?_));refine hR h' s.toks ?_ λb o B u z=>F b o u z;rw[e,List.drop_length];exact Wp K (λo P=>F d o q P) (tk h' F)| succ k ih=>
   intro i s xs hk hi hz l G K M hR;have n:i<rows.length:=by omega
   have hx:its[i]?=some its[i]:=ge (by omega);have hr:rows[i]?=some rows[i]:=ao n;have P0:=M i _ _ hx hr;have f:∀c o,o.cls=.type "tuple"->s.heap.get? c=some o->c≠it:=λc o a z y=>by obtain⟨oi,h,m,_⟩:=l;rw[y,h]at z;cases z;rw[m]at a;exact absurd a (by decide)
   have x:∀c o,o.cls=.type "tuple"->s.heap.get? c=some o->c≠d:=λc o a z y=>by obtain⟨oi,es,ep,h,m,_⟩:=K;rw[y,h]at z;cases z;rw[m.1]at a;exact absurd a (by decide)
   refine codeAny_builtin Kq ?_;rw[Around.under_plainId Y5 _];show wpAny _ A.in1 (pyNext (.ref it)>>=_) _ _ s;refine aa (wpAny_pyNext_list_item l G hx λg D H=>?_);have kg:lJ s.heap g:=λc o a z=>H.extBut c o (f c o a z) z;obtain⟨b,hb,E,C⟩:=P0.keep kg;have af:g.DictOfH (xw (yp prog w)) d xs:=Wp K (λo P=>H.extBut d o q P) kg;rw[hb];show wpAny _ A.in1 (holding [Value.ref b] _>>=_) _ _ _;refine aa (wpAny_holding (aa (wpAny_tryCatch ?_)));unfold Builtin.Dict.pairItems;refine aa (wpAny_typeOf (T:="tuple") (Heap.IsTuple.typeIs (s:={s with heap:=g}) E) ?_);rw[if_pos (by rfl)];obtain⟨ob,N,_,nb,X⟩:=E;refine aa (wpAny_seqItems (s:={s with heap:=g}) N X (ac ?_));show wpAny _ A.in1 (holding [Value.ref rows[i].2.1,rows[i].2.2] (dictSet d (Value.ref rows[i].2.1) rows[i].2.2)) _ _ _;refine wpAny_holding (wpAny_dictSet_heap (knd:=xw (yp prog w)) (mf hu) C af (λg2 Z p=>?_) (c6 (Nat.le_of_lt (fg hz n)) U));refine ac ⟨plainId_quiet Y5 _,?_⟩;have e1:rawInt ((i:Int)+1)=rawInt ((i+1:Nat):Int):=by simp
   have keep:∀c o,c≠d->c≠it->s.heap.get? c=some o->g2.get? c=some o:=λc o B u z=>p.extBut c o B (H.extBut c o u z);show codeAny (model prog w) A (.builtin "dict.update.loop" ⟨[.ref d,.ref it,rawInt ((i:Int)+1),.none],[]⟩) R _;rw[e1];have lz:=F1 xs rows[i].1 rows[i].2.1 rows[i].2.2;refine ih (i+1) _ _ (by omega) n (by omega) (D.extBut p.extBut (al q)) (G.extBut H.extBut S |>.extBut p.extBut Q) Z (λj v r hv L=>(M j v r hv L).keep λc o a z=>keep c o (x c o a z) (f c o a z) z) λh' tk hD W=>?_;refine hR h' tk ?_ λc o B u z=>W c o B u (keep c o B u z);have e2:rows.drop i=rows[i]::rows.drop (i+1):=List.drop_eq_getElem_cons n;rw[e2];exact hD
end
inductive dJ(H:Hp)(b:Addr)(r:xv×V):Prop|mk:∀kb,H b=some (.tup [.ref kb,r.2])->Is H (tN r.1) (.ref kb)->dJ H b r
theorem dJ.same{a:Hp}{r:xv×V}(p:dJ H b r)(s:Same H a):dJ a b r:=let⟨kb,d,c⟩:=p;⟨kb,s _ _ d,c.mono s⟩
noncomputable def Yj(rows:List (xv×V))(kvs:List (xv×V)):List (xv×V):=rows.foldl (λB r=>Wc B r.1 r.2) kvs
inductive gN(P:Program)(w:World)(as:List V)(H:Hp)(Q:VK):Prop|mk:∀(p:Addr)(bs:List Addr)(rows:List (xv×V)),as=[.ref p]->H p=some (.lst (bs.map V.ref))->Paired (dJ H) bs rows->(∀d H',Same H H'->H d=none->cJ P w H' d (Yj rows [])->Q (.ref d) H')->gN P w as H Q
theorem rO{X:Cx}{c:List (Addr×Obj)}{i:St}{H:Hp}{s:Shared}(I:Inv X c i H s):∀{bs:List Addr}{rows:List (xv×V)},Paired (dJ H) bs rows->∃a:List kj,a.length=bs.length/\KN H rows a/\
  ∀(j:Nat) b q,bs[j]?=some b->a[j]?=some q->s.heap.IsTuple b #[.ref q.2.1,q.2.2]/\(xw (yp X.prog X.w)).is s.heap q.1 q.2.1
 |_,_,.nil=>⟨[],J,.nil,λj b q d=>by simp at d⟩
 | b ::bs,r::rows,.cons h t=>by
   obtain⟨a,z,y,x⟩:=rO I t;obtain⟨kb,d,g⟩:=h;obtain⟨_,v,l,w,_⟩:=(show wk X.prog X.w H s.heap b (.tup [.ref kb,r.2])from I.hok b _ d)
   cases l with
   | @cons _ u _ _ p o=>
     cases o with
     | @cons _ k _ _ n m=>
       cases m;cases(show u=Value.ref kb from p);refine⟨(nK r.1,kb,k)::a,by simp[z],.cons ⟨J,g,n⟩ y,λj A q f e=>?_⟩;cases j with
       | zero=>simp at f e;subst f e;exact⟨w,Zy I.hok g⟩
       |succ j=>exact x j A q (by simpa using f) (by simpa using e)
theorem vI{H:Hp}:∀{rows:List (xv×V)}{d:List kj}{kvs:List (xv×V)}{xs:List kj},KN H rows d->KN H kvs xs->KN H (Yj rows kvs) (nF xs d)/\(Yj rows kvs).length<=kvs.length+rows.length|_,_,kvs,_,.nil,r=>⟨r,aj _⟩| r::rows,q::d,kvs,xs,.cons h t,e=>by obtain⟨i,g,f⟩:=h;have c:=e.put r.1 g f;rw[i]at c;obtain⟨a,b⟩:=vI t c;refine⟨a,?_⟩;have:=Vn kvs r.1 r.2;have b:(Yj (r::rows) kvs).length<=(Wc kvs r.1 r.2).length+rows.length:=b;rw[cu];omega
section
theorem E3(hc:X.calm=true)(hu:X.A.units+8<cLine):jt X (.type "dict") (gN X.prog X.w):=by
 intro au s σ H as us Q I r h;obtain⟨p,k,w,rfl,hp,ap,q⟩:=h;obtain⟨u,rfl,rx⟩:=jx r;cases(show u=Value.ref p from rx);obtain⟨hz,a,n,rv,h1⟩:=(show wk X.prog X.w H s.heap p (.lst (k.map V.ref))from I.hok p _ hp)
 have hh:X.A.handled=none:=I.ok.hd hc;obtain⟨G,a4,C,l⟩:=rO I ap;have ah:a.length=k.length:=by have:=rv.length;rw[ae]at this;omega
 have ax:k.length<=sizeLine:=by rw[ae]at hz;exact hz
 refine callType_codes (Q₁:=λy i=>y=.ref s.heap.objs.size/\i={s with heap:=s.heap.push {cls:=.type "dict",data:=.dict #[]}}) PySem.F.kt_called_dict (PySem.F.kt_typeCall_dict_1 _) PySem.F.entry_dict_init (kt_code_dict_new _ ⟨J,J⟩) ?_;rintro y i ⟨rfl,rfl⟩;have f:(s.heap.push {cls:=.type "dict",data:=.dict #[]}).DictOfH (xw (yp X.prog X.w)) s.heap.objs.size []:=Heap.DictOfH.new s.heap;have F:({s with heap:=s.heap.push {cls:=.type "dict",data:=.dict #[]}}:Shared).TypeIs (.ref s.heap.objs.size) "dict":=f.typeIs (s:={s with heap:=s.heap.push {cls:=.type "dict",data:=.dict #[]}});have m:(s.heap.push {cls:=.type "dict",data:=.dict #[]}).get? p=some {cls:=.type "list",dict:=none,data:=.seq a.toArray n,slots:=#[]}:=ak _ h1;have E:p<s.heap.objs.size:=aq h1;refine⟨F,PySem.F.args_dict_init_2 _ _,?_⟩;unfold Builtin.«dict.__init__»;refine aa ?_;unfold Builtin.Dict.selfAndRest;refine aa (wpAny_notOrdered_dict F (show wpAny _ _ (pure (s.heap.objs.size,[Value.ref p])) _ _ _ from ac ?_));show wpAny _ _ (Builtin.Dict.updateFrom "dict.__init__" s.heap.objs.size (.ref p) [] .none) _ _ _;unfold Builtin.Dict.updateFrom;refine aa (wpAny_typeOf (T:="list") ⟨_,m,J⟩ ?_);rw[if_pos (by decide)];refine aa (E9 (s:={s with heap:=s.heap.push {cls:=.type "dict",data:=.dict #[]}}) m hh λg tk K=>?_);simp only[Option.isNone_none,if_true];refine aa (wpAny_rule ?_);have B:g.IsList p a.toArray:=⟨_,K _ _ m,J,n,J⟩
 refine aa (wpAny_pyIter_list (s:={s with heap:=g,toks:=tk}) B (ac ⟨plainId_quiet Y5 _,?_⟩));have t:s.heap.objs.size+1<=g.objs.size:=by obtain⟨o,L,M,D,_⟩:=f;exact aq (K _ _ D)
 have am:(g.push {cls:=.type "list_iterator",data:=.fields #[.ref p,.int 0 0]}).DictOfH (xw (yp X.prog X.w)) s.heap.objs.size []:=by obtain⟨o,L,M,D,a1,a2,P,_,N⟩:=f;exact⟨o,L,M,ak _ (K _ _ D),a1,a2,P,(λx hx=>by cases hx),N⟩
 have R:∀b o,s.heap.get? b=some o->(g.push {cls:=.type "list_iterator",data:=.fields #[.ref p,.int 0 0]}).get? b=some o:=λb o e=>ak _ (K _ _ (ak _ e));refine D1 (A:=X.A.in1) (rows:=G) (its:=a.toArray) (t:=p) (by have:X.A.in1.units=X.A.units+1:=rfl;omega) hh (bh (Nat.lt_of_succ_le t)) (bh (Nat.lt_trans E (Nat.lt_of_succ_le t))) (bh E) (by rw[cq];omega) (by omega) G.length 0 _ [] (by omega) (cm _) (aj _)
  ⟨_,bi _ J,J,J⟩ (B.push _) am (λj v r A hr=>?_) λh' S hD hK=>?_
 have A:a[j]?=some v:=by simpa using A
 have hj:j<k.length:=by have:=(c7.mp A).1;omega
 obtain⟨u,Z,ru⟩:=rv.get (i:=j) (x:=V.ref k[j]) (by rw[ba,ao hj];rfl);rw[Z]at A;cases A;cases(show v=Value.ref k[j]from ru);obtain⟨⟨ob,af,rr⟩,ag⟩:=l j k[j] r (ao hj) hr;exact⟨k[j],J,⟨ob,R _ _ af,rr⟩,Vb ag λc o _ e=>R c o e⟩;refine⟨J,?_⟩;have keep:∀b o,s.heap.get? b=some o->h'.get? b=some o:=λb o e=>hK b o (bh (aq e)) (bh (Nat.lt_trans (aq e) (Nat.lt_of_succ_le t))) (R b o e);obtain⟨U,av⟩:=vI (kvs:=[]) (xs:=[]) C .nil;have a6:=Paired.length C;have d:=I.hok.fresh (aj s.heap.objs.size);have zz:(s.heap.objs.size==sysModules)=false:=beq_eq_false_iff_ne.mpr (al (bh I.big));obtain⟨o,L,M,D,a1,a2,P,_,N⟩:=hD;rw[List.drop_zero]at P N;have sm:=Same.new d (.ext (W9 X.prog X.w s.heap.objs.size (nF [] G)));have W:(Yj w []).length<=sizeLine:=by have:([]:O (xv×V)).length=0:=rfl;omega
 exact⟨.ref s.heap.objs.size,_,I.laid (a:=s.heap.objs.size) (t':=S) keep (aj _) (W9.ok (xs:=nF [] G) ⟨o,L,M,D,a1,a2,P⟩),J,q _ _ sm d ⟨_,ze,zz,W,N,Paired.mapP U λ_ _ z=>⟨z.1,z.2.1.mono sm,z.2.2⟩⟩⟩
end
section
variable{s:Shared}
theorem Jr{t:Y}(a:s.heap.IsListIter it t i)(c:s.heap.IsList t its)(b:its[i]?=some v)(k:∀g,g.IsListIter it t (i+1)->Heap.SameBut it s.heap g->Q (some v) {s with heap:=g}):wpAny (model prog w) A (Builtin.SmallTypes.nextOrEnd (.ref it)) Q E s:=by unfold Builtin.SmallTypes.nextOrEnd;exact aa (wpAny_attempt (wpAny_nextOf_list_item a c b λg e d=>ac (k g e d)))
theorem Va{t:Y}(f:A.handled=none)(a:s.heap.IsListIter it t i)(d:s.heap.IsList t its)(c:its[i]?=none)(k:∀g,Heap.ExtBut it s.heap g->Q none {s with heap:=g}):wpAny (model prog w) A (Builtin.SmallTypes.nextOrEnd (.ref it)) Q E s:=by unfold Builtin.SmallTypes.nextOrEnd;refine aa (wpAny_attempt (wpAny_nextOf_list_end f a d c λg x b ⟨o,e,h⟩=>?_));exact aa (fb (T:="StopIteration") (b:=true) ⟨o,e,h⟩ isSubtype_stop (ac (k _ b)))
theorem EO{z v to h f:Y}{v1 v2 a b:I}(S:xj s.heap z v to .none)(am:Yb s.heap v h f)(a8:s.heap.get? to=some {cls:=.type "tuple",data:=.seq #[a,b]})
  (bb:s.heap.IsTupleIter h t1 i) (a9:s.heap.IsListIter f t2 i)
  (h1:s.heap.IsTuple t1 a1) (h2:s.heap.IsList t2 a2) (e1:a1[i]?=some v1) (e2:a2[i]?=some v2) (nd:[z,v,to,h,f].Nodup) (nt:t1 ∉ [z,to,h,f]/\t2 ∉ [z,to,h,f])
  (k:∀g,xj g z v to (rawInt s.heap.objs.size)->Yb g v h f->g.get? to=some {cls:=.type "tuple",data:=.seq #[v1,v2]}->g.IsTupleIter h t1 (i+1)->g.IsListIter f t2 (i+1)-> g.get? s.heap.objs.size=some {cls:=.type "tuple",data:=.seq #[v1,v2]}->g.objs.size=s.heap.objs.size+1->(∀c o,c≠z->c≠to->c≠h->c≠f->s.heap.get? c=some o->g.get? c=some o)->Q (some (.ref s.heap.objs.size)) {s with heap:=g}):
  wpAny (model prog w) A (pyNext (.ref z)) Q E s:=by
 have hT:s.TypeIs (.ref z) "zip":=⟨_,S,J⟩
 simp only[dq,ai,az,or_false,not_or,not_false_eq_true,List.nodup_nil,and_true]at nd;simp only[ai,az,or_false,not_or]at nt;obtain⟨⟨n1,n2,n3,n4⟩,⟨n5,n6,n7⟩,⟨n8,n9⟩,Z⟩:=nd;obtain⟨⟨m1,m2,m3,m4⟩,m5,m6,m7,m8⟩:=nt;unfold pyNext;refine aa (wpAny_attempt (wpAny_callSpecial?_slot (name:=Str.ofString "__next__") hT PySem.F.slot_zip_next (cy PySem.F.slot_zip_next hT PySem.F.entry_zip_next ?_ (PySem.F.args_zip_next_1 _))));obtain⟨G,H,d,F,os⟩:=s;show wpAny _ _ (field (.ref z) 2>>=_) _ _ _;refine aa (wpAny_field S J (x:=.bool true) J ?_);show wpAny _ _ (field (.ref z) 3>>=_) _ _ _;refine aa (wpAny_field S J (x:=.ref v) J ?_);refine aa (wpAny_seqItems am J ?_);dsimp only;refine aa ?_;unfold Builtin.SmallTypes.ownedTupleIsFree;refine aa (wpAny_field S J (x:=.none) J (ac ?_));simp only[if_true];refine aa (wpAny_rule (aa (wpAny_field S J (x:=.ref to) J ?_)));dsimp only;refine aa (wpAny_setField_rec S (by simp) λg1 R j=>?_);replace j:Heap.SameBut z G g1:=j;replace R:xj g1 z v to .ellipsis:=R;refine aa ?_;have ah:g1.get? to=some {cls:=.type "tuple",data:=.seq #[a,b]}:=j.extBut _ _ (al n2) a8;have a5:g1.IsTupleIter h t1 i:=bb.extBut j.extBut (al n3);have ax:g1.IsListIter f t2 i:=a9.extBut j.extBut (al n4);have bk:g1.IsTuple t1 a1:=h1.extBut j.extBut m1;have bf:g1.IsList t2 a2:=h2.extBut j.extBut m5;rw[show([Value.ref h,Value.ref f]:O I).zipIdx=[(Value.ref h,0),(Value.ref f,1)]from rfl,List.forIn_cons];refine aa (aa (wpAny_onRaise ?_));show wpAny _ _ (Builtin.SmallTypes.nextOrEnd (.ref h)) _ _ ⟨g1,H,d,F,os⟩;refine Ze a5 bk e1 λg2 a4 m=>?_;replace m:Heap.SameBut h g1 g2:=m;dsimp only;have L:g2.get? to=some {cls:=.type "tuple",data:=.seq #[a,b]}:=m.extBut _ _ n8 ah;refine aa (wpAny_seqItems (s:=⟨g2,H,d,F,os⟩) L J ?_);dsimp only;refine aa (wpAny_updateSeq_pair (s:=⟨g2,H,d,F,os⟩) L λU B l=>?_);replace l:Heap.SameBut to g2 U:=l;replace B:U.get? to=some {cls:=.type "tuple",data:=.seq #[v1,b]}:=B;refine aa (wpAny_letGo (ac ?_));dsimp only;rw[List.forIn_cons];refine aa (aa (wpAny_onRaise ?_));show wpAny _ _ (Builtin.SmallTypes.nextOrEnd (.ref f)) _ _ ⟨U,H,d,F,os⟩;have av:U.IsListIter f t2 i:=(ax.extBut m.extBut (al Z)).extBut l.extBut (al n9);have bd:U.IsList t2 a2:=(bf.extBut m.extBut m7).extBut l.extBut m6;refine Jr av bd e2 λg4 au t=>?_;replace t:Heap.SameBut f U g4:=t;dsimp only;have K:g4.get? to=some {cls:=.type "tuple",data:=.seq #[v1,b]}:=t.extBut _ _ n9 B;refine aa (wpAny_seqItems (s:=⟨g4,H,d,F,os⟩) K J ?_);dsimp only;refine aa (wpAny_updateSeq_pair (s:=⟨g4,H,d,F,os⟩) K λn u p=>?_);replace p:Heap.SameBut to g4 n:=p;replace u:n.get? to=some {cls:=.type "tuple",data:=.seq #[v1,v2]}:=u;refine aa (wpAny_letGo (ac ?_));dsimp only;rw[List.forIn_nil];refine ac ?_;dsimp only;refine aa (wpAny_seqItems (s:=⟨n,H,d,F,os⟩) u J ?_);dsimp only;refine aa (wpAny_newTuple (s:=⟨n,H,d,F,os⟩) ?_);have a7:xj n z v to .ellipsis:=p.extBut _ _ n2 (t.extBut _ _ n4 (l.extBut _ _ n2 (m.extBut _ _ n3 R)));have M:n.objs.size=G.objs.size:=by rw[p.1,t.1,l.1,m.1,j.1]
 have y:∀c o,c≠z->c≠to->c≠h->c≠f->G.get? c=some o->n.get? c=some o:=λc o q1 q2 q3 q4 e=>p.extBut c o q2 (t.extBut c o q4 (l.extBut c o q2 (m.extBut c o q3 (j.extBut c o q1 e))));have a3:n.IsTupleIter h t1 (i+1):=((a4.extBut l.extBut (al n8)).extBut t.extBut Z).extBut p.extBut (al n8);have ap:n.IsListIter f t2 (i+1):=au.extBut p.extBut (al n9);have af:z<G.objs.size:=aq S;dsimp only;rw[M];have ag:xj (n.push {cls:=.type "tuple",data:=.seq [v1,v2].toArray}) z v to .ellipsis:=ak _ a7;have a6:(n.push {cls:=.type "tuple",data:=.seq [v1,v2].toArray}).get? G.objs.size=some {cls:=.type "tuple",data:=.seq #[v1,v2]}:=by rw[<-M];exact bi _ J
 have x:∀c o,n.get? c=some o->(n.push {cls:=.type "tuple",data:=.seq [v1,v2].toArray}).get? c=some o:=λc o e=>ak _ e;have X:(n.push {cls:=.type "tuple",data:=.seq [v1,v2].toArray}).objs.size=G.objs.size+1:=by rw[f9,M]
 show wpAny _ _ (Builtin.SmallTypes.ownedTupleHandOut (.ref z) (.ref G.objs.size)>>=_) _ _ ⟨n.push {cls:=.type "tuple",data:=.seq [v1,v2].toArray},H,d,F,os⟩;generalize n.push {cls:=.type "tuple",data:=.seq [v1,v2].toArray}=g6 at ag a6 x X⊢;refine aa ?_;unfold Builtin.SmallTypes.ownedTupleHandOut;refine aa (wpAny_setField_rec ag (by simp) λg7 P D=>?_);replace D:Heap.SameBut z g6 g7:=D;replace P:xj g7 z v to (rawInt G.objs.size):=P;refine wpAny_setField_rec P (by simp) λg8 N C=>?_;replace C:Heap.SameBut z g7 g8:=C;replace N:xj g8 z v to (rawInt G.objs.size):=N;have W:∀c o,c≠z->n.get? c=some o->g8.get? c=some o:=λc o q e=>C.extBut c o q (D.extBut c o q (x c o e));refine ac ⟨_,J,ac (k g8 N ?_ (W _ _ (al n2) u) ?_ ?_ ?_ ?_ λc o q1 q2 q3 q4 e=>W c o q1 (y c o q1 q2 q3 q4 e))⟩;exact W _ _ (al n1) (y _ _ (al n1) n5 n6 n7 am);obtain⟨o,e,r⟩:=a3;exact⟨o,W _ _ (al n3) e,r⟩;obtain⟨o,e,r⟩:=ap;exact⟨o,W _ _ (al n4) e,r⟩;exact C.extBut _ _ (dw af) (D.extBut _ _ (dw af) a6);rw[C.1,D.1,X]
theorem DT{z r to h f:Y}{a b:I}(B:A.handled=none)(t:xj s.heap z r to .none)(K:Yb s.heap r h f)(ag:s.heap.get? to=some {cls:=.type "tuple",data:=.seq #[a,b]})
  (M:s.heap.IsTupleIter h t1 i) (L:s.heap.IsListIter f t2 i)
  (h1:s.heap.IsTuple t1 a1) (h2:s.heap.IsList t2 a2) (e1:a1[i]?=none) (e2:a2[i]?=none) (W:[z,r,to,h,f].Nodup) (U:t1 ∉ [z,to,h,f]/\t2 ∉ [z,to,h,f])
  (k:∀g,(∀c o,c≠z->c≠h->c≠f->s.heap.get? c=some o->g.get? c=some o)->Q none {s with heap:=g}):
  wpAny (model prog w) A (pyNext (.ref z)) Q E s:=by
 have hT:s.TypeIs (.ref z) "zip":=⟨_,t,J⟩
 simp only[dq,ai,az,or_false,not_or,not_false_eq_true,List.nodup_nil,and_true]at W;simp only[ai,az,or_false,not_or]at U;obtain⟨⟨n1,n2,Z,X⟩,⟨n5,n6,n7⟩,⟨n8,n9⟩,G⟩:=W;obtain⟨⟨m1,m2,m3,m4⟩,m5,m6,m7,m8⟩:=U;unfold pyNext;refine aa (wpAny_attempt (wpAny_callSpecial?_slot (name:=Str.ofString "__next__") hT PySem.F.slot_zip_next (cy PySem.F.slot_zip_next hT PySem.F.entry_zip_next ?_ (PySem.F.args_zip_next_1 _))));obtain⟨hp,gs,d,S,os⟩:=s;show wpAny _ _ (field (.ref z) 2>>=_) _ _ _;refine aa (wpAny_field t J (x:=.bool true) J ?_);show wpAny _ _ (field (.ref z) 3>>=_) _ _ _;refine aa (wpAny_field t J (x:=.ref r) J ?_);refine aa (wpAny_seqItems K J ?_);dsimp only;refine aa ?_;unfold Builtin.SmallTypes.ownedTupleIsFree;refine aa (wpAny_field t J (x:=.none) J (ac ?_));simp only[if_true];refine aa (wpAny_rule (aa (wpAny_field t J (x:=.ref to) J ?_)));dsimp only;refine aa (wpAny_setField_rec t (by simp) λg1 p j=>?_);replace j:Heap.SameBut z hp g1:=j;replace p:xj g1 z r to .ellipsis:=p;refine aa ?_;have x:g1.IsTupleIter h t1 i:=M.extBut j.extBut (al Z);have v:g1.IsListIter f t2 i:=L.extBut j.extBut (al X);have R:g1.IsTuple t1 a1:=h1.extBut j.extBut m1;have P:g1.IsList t2 a2:=h2.extBut j.extBut m5;rw[show([Value.ref h,Value.ref f]:O I).zipIdx=[(Value.ref h,0),(Value.ref f,1)]from rfl,List.forIn_cons];refine aa (aa (wpAny_onRaise ?_));show wpAny _ _ (Builtin.SmallTypes.nextOrEnd (.ref h)) _ _ ⟨g1,gs,d,S,os⟩;refine jk B x R e1 λg2 l=>?_;replace l:Heap.ExtBut h g1 g2:=l;dsimp only;have H:xj g2 z r to .ellipsis:=l _ _ Z p;refine aa (wpAny_setField_rec (s:=⟨g2,gs,d,S,os⟩) H (by simp) λC af m=>?_);replace m:Heap.SameBut z g2 C:=m;have u:C.IsListIter f t2 i:=(v.extBut l (al G)).extBut m.extBut (al X);have N:C.IsList t2 a2:=(P.extBut l m7).extBut m.extBut m5;refine aa ?_;show wpAny _ _ (forIn [(Value.ref f,1)] PUnit.unit _>>=_) _ _ _;refine aa ?_;rw[List.forIn_cons];refine aa ?_;dsimp only;refine aa (Va B u N e2 λg4 q=>?_);replace q:Heap.ExtBut f C g4:=q;simp only[Option.isSome_none,Bool.false_eq_true,if_false];refine ac ?_;dsimp only;rw[List.forIn_nil];refine ac (aa (wpAny_rule ?_));have n:∀c o,c≠z->c≠h->c≠f->hp.get? c=some o->g4.get? c=some o:=λc o y F D e=>q c o D (m.extBut c o y (l c o F (j.extBut c o y e)));unfold Builtin.SmallTypes.stopIteration;show wpAny _ _ (newExc (.type "StopIteration") []>>=_) _ _ _;refine aa ?_;simp only[newExc,newTuple];refine aa (dg ?_ (by size_fits));refine aa (m:=firstArgMember _ _) (wpAny_of_eq (a:=Value.none) (by first|rfl|(simp only[firstArgMember];rfl)) ?_);refine dg ?_ (by size_fits);simp only[raiseNew];refine aa (wpAny_handled ?_);first|rw[show A.in1.handled=none from B]|rw[B]
 refine aa (ac (wpAny_throw ?_));exact aa (fb (T:="StopIteration") (b:=true) ⟨_,bi _ J,J⟩ isSubtype_stop (ac (k _ λc o y F D e=>ak _ (ak _ (n c o y F D e)))))
end
theorem oI(b:aZ P w H h)(e:H a=some (.lst xs)):∃its:O I,yl xs its/\h.IsList a its.toArray:=by
 obtain⟨_,its,n,r,t⟩:=(show wk P w H h a (.lst xs)from b a _ e)
 exact⟨its,r,_,t,J,n,J⟩
noncomputable def oh(a b:Addr):It:=⟨λi H=>∃xs ys x y,H a=some (.tup xs)/\H b=some (.lst ys)/\xs[i]?=some x/\ys[i]?=some y,λi H v H'=>∃p x y,v=.ref p/\H p=none/\H'=upd H p (.tup [x,y])/\(∀xs,H a=some (.tup xs)->xs[i]?=some x)/\∀ys,H b=some (.lst ys)->ys[i]?=some y,λi H=>∃xs ys,H a=some (.tup xs)/\H b=some (.lst ys)/\xs.length<=i/\ys.length<=i⟩
theorem EM{K:W.Frag}{k1}(a b z F to j f:Y)(R:[z,F,to,j,f].Nodup)(hb:sizeLine≥2):dD P w K (.Tuple cQ k1 pos) (oh a b) [z,F,to,j,f] z (λi h=>xj h z F to .none/\Yb h F j f/\(∃u v,h.get? to=some {cls:=.type "tuple",data:=.seq #[u,v]})/\h.IsTupleIter j a i/\h.IsListIter f b i) where
 mem:=by simp
 obj:=λi h st c l=>by
  obtain⟨S,C,⟨u,v,B⟩,h1,h2⟩:=st;simp only[ai,az,or_false]at l;rcases l with rfl|rfl|rfl|rfl|rfl;exact⟨_,S,λv q=>by have q':Data.fields _=Data.cell v:=q;cases q'⟩
  exact⟨_,C,λv q=>by have q':Data.seq _ _=Data.cell v:=q;cases q'⟩
  exact⟨_,B,λv q=>by have q':Data.seq _ _=Data.cell v:=q;cases q'⟩
  obtain⟨o,e1,c,d⟩:=h1;exact⟨o,e1,λv q=>by rw[d]at q;cases q⟩;obtain⟨o,e1,c,d⟩:=h2;exact⟨o,e1,λv q=>by rw[d]at q;cases q⟩
 keep:=λi h h' st k=>by obtain⟨S,C,⟨u,v,B⟩,⟨o1,e1,r1⟩,o2,e2,r2⟩:=st;exact⟨k z (by simp) _ S,k F (by simp) _ C,⟨u,v,k to (by simp) _ B⟩,⟨o1,k j (by simp) o1 e1,r1⟩,o2,k f (by simp) o2 e2,r2⟩
 item:=by
  intro X hP hw hK l i af s σ H E I Q st hg;subst hP hw hK;obtain⟨xs,ys,x,y,L,G,hx,hy⟩:=hg;obtain⟨a3,rv,p⟩:=Xw I.hok L;obtain⟨ax,ag,q⟩:=oI I.hok G;obtain⟨u,hu,ru⟩:=rv.get hx;obtain⟨v,hv,av⟩:=ag.get hy;obtain⟨S,C,⟨u0,v0,B⟩,Z,U⟩:=st;have ff:∀c∈[z,F,to,j,f],H c=none:=λc l=>(Q c l).1;have ne:∀{c d:Y}{o:HO},H c=some o->d∈[z,F,to,j,f]->c≠d:=λ{c d o} e hd q=>by rw[q,ff d hd]at e;cases e
  refine EO S C B Z U p q (v1:=u) (v2:=v) (by simpa using hu) (by simpa using hv) R ⟨λm=>?_,λm=>?_⟩ λg gz a7 a6 a9 a8 gT bb gk=>?_;simp only[ai,az,or_false]at m;rcases m with m|m|m|m<;>exact ne L (by simp) m;simp only[ai,az,or_false]at m;rcases m with m|m|m|m<;>exact ne G (by simp) m;refine⟨.ref s.heap.objs.size,J,Kk gz λg' a5 D=>?_⟩;replace D:Heap.SameBut z g g':=D;have M:H s.heap.objs.size=none:=I.hok.fresh (aj _);have a4:∀c∈[z,F,to,j,f],c<s.heap.objs.size:=λc l=>by simp only[ai,az,or_false]at l;rcases l with rfl|rfl|rfl|rfl|rfl;exact aq S;exact aq C;exact aq B;obtain⟨o,e,_⟩:=Z;exact aq e;obtain⟨o,e,_⟩:=U;exact aq e
  have ap:∀c∈[z,F,to,j,f],s.heap.objs.size≠c:=λc l=>dw (a4 c l);have t:∀c o,c ∉ [z,to,j,f]->s.heap.get? c=some o->g'.get? c=some o:=λc o n e=>by simp only[ai,az,or_false,not_or]at n;exact D.extBut c o n.1 (gk c o n.1 n.2.1 n.2.2.1 n.2.2.2 e)
  have au:g'.get? s.heap.objs.size=some {cls:=.type "tuple",data:=.seq #[u,v]}:=D.extBut _ _ (ap z (by simp)) gT;have A:∀c o,H c=some o->c ∉ [z,to,j,f]:=λc o e m=>ne e (show c∈[z,F,to,j,f] by simp only[ai,az,or_false]at m⊢;rcases m with m|m|m|m<;>simp[m]) J
  have I1:Inv X af σ (upd H s.heap.objs.size (.tup [x,y])) {s with heap:=g',toks:=s.toks}:=by
   refine I.step (g':=s.gens) (d':=s.drawn) (ch:=[z,to,j,f]) (λc l=>?_) (λc o n1 n2 N e _=>t c o N e)
    (λc o n1 n2 N e _=>⟨o.slots,t c o N e⟩) (λc o N e n=>?_) (λc o N e=>⟨o,t c o N e⟩)
    (λc zs e=>by rw[zi (zj e M)];exact e) (λc o zs e=>by rw[zi (zj e M)];exact e) (λc ps e=>⟨#[],by rw[zi (zj e M),e];simp⟩) (λm hm=>?_) (λc ob e=>?_) I.bare
   obtain⟨f0,f1,f2,f3,f4,f5⟩:=Q c (by simp only[ai,az,or_false]at l⊢;rcases l with l|l|l|l<;>simp[l])
   exact⟨f3,f1,f4,f5⟩;rw[zi (bh (aq e))];exact n;obtain⟨o,es,ep,ah,r⟩:=hm;refine⟨o,es,ep,t _ o (λm=>?_) ah,r⟩;simp only[ai,az,or_false]at m;rcases m with m|m|m|m;exact(Q z (by simp)).2.1 m.symm;exact(Q to (by simp)).2.1 m.symm;exact(Q j (by simp)).2.1 m.symm;exact(Q f (by simp)).2.1 m.symm;by_cases am:c=s.heap.objs.size;subst am;rw[ze]at e;cases e;exact⟨by show 2<=sizeLine;omega,[u,v],.cons ru (.cons av .nil),⟨_,au,J,_,J⟩,λq hq=>by have hq:g'.get? s.heap.objs.size=some q:=hq;rw[au]at hq;cases hq;rfl⟩
   rw[zi am]at e;refine(I.hok c ob e).stay (λd o l q=>?_) (λd q=>by rw[zi (zj q M)];exact q) λd zs q=>by rw[zi (zj q M)];exact q
   rcases l with rfl|l;exact t d o (A d _ e) q;exact t d o (A d _ l) q
  refine⟨.ref s.heap.objs.size,_,I1,J,⟨_,x,y,J,M,J,λzs e=>by rw[L]at e;cases e;exact hx,λzs e=>by rw[G]at e;cases e;exact hy⟩,⟨a5,D.extBut _ _ ?_ a7,⟨u,v,D.extBut _ _ ?_ a6⟩,a9.extBut D.extBut ?_,a8.extBut D.extBut ?_⟩,λc l=>?_⟩;simp only[dq,ai,az,or_false,not_or]at R;exact al R.1.1;simp only[dq,ai,az,or_false,not_or]at R;exact al R.1.2.1;simp only[dq,ai,az,or_false,not_or]at R;exact al R.1.2.2.1;simp only[dq,ai,az,or_false,not_or]at R;exact al R.1.2.2.2;rw[zi (al (ap c l))];exact ff c l
 done:=by
  intro X hP hw hK l i af s σ H E I Q st hg;subst hP hw hK;obtain⟨xs,ys,L,G,hx,hy⟩:=hg;obtain⟨a3,rv,p⟩:=Xw I.hok L;obtain⟨ax,ag,q⟩:=oI I.hok G;obtain⟨S,C,⟨u0,v0,B⟩,Z,U⟩:=st;have ff:∀c∈[z,F,to,j,f],H c=none:=λc l=>(Q c l).1;have ne:∀{c d:Y}{o:HO},H c=some o->d∈[z,F,to,j,f]->c≠d:=λ{c d o} e hd q=>by rw[q,ff d hd]at e;cases e
  have l1:=rv.length;have l2:=ag.length;refine DT (I.ok.hd l) S C B Z U p q (by simp;omega) (by simp;omega) R ⟨λm=>?_,λm=>?_⟩ λg gk=>⟨J,?_⟩
  simp only[ai,az,or_false]at m;rcases m with m|m|m|m<;>exact ne L (by simp) m;simp only[ai,az,or_false]at m;rcases m with m|m|m|m<;>exact ne G (by simp) m;have t:∀c o,c ∉ [z,j,f]->s.heap.get? c=some o->g.get? c=some o:=λc o n e=>by simp only[ai,az,or_false,not_or]at n;exact gk c o n.1 n.2.1 n.2.2 e
  have A:∀c o,H c=some o->c ∉ [z,j,f]:=λc o e m=>ne e (show c∈[z,F,to,j,f] by simp only[ai,az,or_false]at m⊢;rcases m with m|m|m<;>simp[m]) J
  refine I.step (g':=s.gens) (t':=s.toks) (d':=s.drawn) (ch:=[z,j,f]) (λc l=>?_) (λc o n1 n2 N e _=>t c o N e)
   (λc o n1 n2 N e _=>⟨o.slots,t c o N e⟩) (λ_ _ _ _ n=>n) (λc o N e=>⟨o,t c o N e⟩)
   (λ_ _ e=>e) (λ_ _ _ e=>e) (λc ps e=>⟨#[],by rw[e];simp⟩) (λm hm=>?_) (λc ob e=>?_) I.bare
  obtain⟨f0,f1,f2,f3,f4,f5⟩:=Q c (by simp only[ai,az,or_false]at l⊢;rcases l with l|l|l<;>simp[l])
  exact⟨f3,f1,f4,f5⟩;obtain⟨o,es,ep,ah,r⟩:=hm;refine⟨o,es,ep,t _ o (λm=>?_) ah,r⟩;simp only[ai,az,or_false]at m;rcases m with m|m|m;exact(Q z (by simp)).2.1 m.symm;exact(Q j (by simp)).2.1 m.symm;exact(Q f (by simp)).2.1 m.symm;refine(I.hok c ob e).stay (λd o l q=>?_) (λd q=>q) λd zs q=>q;rcases l with rfl|l;exact t d o (A d _ e) q;exact t d o (A d _ l) q
 self:=λ_ _ _ _ _ st h=>by obtain⟨S,_⟩:=st;exact Wk S h
noncomputable def fI(h:Heap)(F B:Addr):Heap:=((((h.push {cls:=.type "tuple_iterator",data:=.fields #[.ref F,.int 0 0]}).push {cls:=.type "list_iterator",data:=.fields #[.ref B,.int 0 0]}).push {cls:=.type "tuple",data:=.seq #[.ref h.objs.size,.ref (h.objs.size+1)]}).push {cls:=.type "tuple",data:=.seq #[.none,.none]}).push {cls:=.type "zip",data:=.fields #[.none,.bool false,.bool true,.ref (h.objs.size+2),.ref (h.objs.size+3)]}
theorem Bb(h:Heap)(i d:Y):xj (fI h i d) (h.objs.size+4) (h.objs.size+2) (h.objs.size+3) .none/\Yb (fI h i d) (h.objs.size+2) h.objs.size (h.objs.size+1)/\(fI h i d).get? (h.objs.size+3)=some {cls:=.type "tuple",data:=.seq #[.none,.none]}/\
  (fI h i d).IsTupleIter h.objs.size i 0/\(fI h i d).IsListIter (h.objs.size+1) d 0/\(fI h i d).objs.size=h.objs.size+5/\∀c o,h.get? c=some o->(fI h i d).get? c=some o:=by
 have b:∀(g:Heap)(o:Obj)(n:Nat),g.objs.size=n->o.isFreed=false->(g.push o).get? n=some o:=λg o n e f=>by rw[<-e];exact bi _ f
 have a:∀(g:Heap)(o:Obj)(n:Nat),g.objs.size=n->(g.push o).objs.size=n+1:=λg o n e=>by rw[f9,e]
 refine⟨?_,?_,?_,?_,?_,?_,λc o e=>?_⟩;exact b _ _ _ (a _ _ _ (a _ _ _ (a _ _ _ (a _ _ _ J)))) J;exact ak _ (ak _ (b _ _ _ (a _ _ _ (a _ _ _ J)) J));exact ak _ (b _ _ _ (a _ _ _ (a _ _ _ (a _ _ _ J))) J);exact⟨_,ak _ (ak _ (ak _ (ak _ (b _ _ _ J J)))),J,J⟩;exact⟨_,ak _ (ak _ (ak _ (b _ _ _ (a _ _ _ J) J))),J,J⟩;exact a _ _ _ (a _ _ _ (a _ _ _ (a _ _ _ (a _ _ _ J))));exact ak _ (ak _ (ak _ (ak _ (ak _ e))))
section
variable{s:Shared}
theorem C6(a b:Y)(q p:Array I)(m l:Nat)(v u:Option Y)(t r:Array (Option I)):Meets (Builtin.«zip.__new__» ⟨[.type "zip",.ref a,.ref b],[("strict",.bool true)]⟩) (λ_ R s=>s.heap.get? a=some {cls:=.type "tuple",dict:=v,data:=.seq q m,slots:=t}/\s.heap.get? b=some {cls:=.type "list",dict:=u,data:=.seq p l,slots:=r}/\ R (.ok (.ret (.ref (s.heap.objs.size+4)))) {s with heap:=fI s.heap a b}):=
 .of_wp λk w A R s h=>by
  obtain⟨o,g,d,j,os⟩:=s;obtain⟨e,c,h⟩:=h;have n:=sub_zip;have i:Heap.IsTuple (Shared.heap ⟨o,g,d,j,os⟩) a q:=⟨_,e,J,m,J⟩
  have f:Heap.IsList (Shared.heap ⟨o.push {cls:=.type "tuple_iterator",data:=.fields #[.ref a,.int 0 0]},g,d,j,os⟩) b p:=⟨_,ak _ c,J,l,J⟩
  wp_walk using wpAny_pyIter_tuple i,wpAny_pyIter_list f
  refine⟨_,J,?_⟩;simp only[fI,f9,Nat.add_assoc,Nat.reduceAdd]at h⊢;exact h
theorem Fr{Q:Value->Shared->Prop}(Z:s.heap.IsTuple t1 a1)(X:s.heap.IsList t2 a2)(k:∀g,xj g (s.heap.objs.size+4) (s.heap.objs.size+2) (s.heap.objs.size+3) .none->Yb g (s.heap.objs.size+2) s.heap.objs.size (s.heap.objs.size+1)->g.get? (s.heap.objs.size+3)=some {cls:=.type "tuple",data:=.seq #[.none,.none]}-> g.IsTupleIter s.heap.objs.size t1 0->g.IsListIter (s.heap.objs.size+1) t2 0->g.objs.size=s.heap.objs.size+5->(∀c o,s.heap.get? c=some o->g.get? c=some o)->Q (.ref (s.heap.objs.size+4)) {s with heap:=g}):
  wpAny (model prog w) A (call (.type "zip") [.ref t1,.ref t2] [("strict",.bool true)]) Q E s:=by
 have f:=PySem.F.called_zip;obtain⟨c,tl,L⟩:=f.mro;have v:=f.made;have K:=f.sub;have U:checkTypeCall "zip" ⟨[.ref t1,.ref t2],[("strict",.bool true)]⟩=pure ():=by kernel_rfl
 have z:checkBuiltinCall "zip.__new__" ⟨[.type "zip",.ref t1,.ref t2],[("strict",.bool true)]⟩=pure ():=by kernel_rfl
 obtain⟨⟨c1,F,C,t⟩,y,m,H,j⟩:=Z;obtain⟨⟨c2,D,B,q⟩,x,l,G,i⟩:=X;replace m:c1=.type "tuple":=m;replace l:c2=.type "list":=l;replace j:C=.seq a1 H:=j;replace i:B=.seq a2 G:=i;subst m l j i
 obtain⟨M,f2,f3,f4,f5,f6,f7⟩:=Bb s.heap t1 t2
 exact cZk f U (λ_=>rE _ _ _) (by decide) (codeAny_call_builtin f.plain PySem.F.entry_zip_new (wpAny_of_eq z (C6 t1 t2 a1 a2 H G F D t q prog w A.in1 _ s ⟨y,x,⟨⟨_,M,J⟩,k _ M f2 f3 f4 f5 f6 f7⟩⟩)))
end
section
inductive gP(R:It->Hp->Prop)(vs:List V)(H1:Hp):Prop|mk:∀a b xs ys,vs=[.ref a,.ref b]->H1 a=some (.tup xs)->H1 b=some (.lst ys)->R (oh a b) H1->gP R vs H1
def zN(B:TA):TI:=λσ H R=>B σ H λvs H1=>gP R vs H1
theorem Ca{k1 F}{cK D L:Pos}{a b:Expr}{i:TA}{p:Pos}(S:Gl X "zip")(P:X.mg "zip"=none)(U:PA X [a,b] i)(hs:starEach [a,b] X.env=(false,eval a X.env)::starEach [b] X.env:=by rfl)(hpl:((backTo pos (starEach [a,b] X.env)).any (·.1))=false:=by rfl):PI X (.Tuple cQ k1 cK) (.Call (.Name "zip" p) [a,b] [⟨some "strict",.Constant (.bool true) F D,L⟩] pos) (zN i):=by
 intro e s n H R I h;refine wpAny_Call_Name_kw (Xn I S P uC ?_);refine W.callWith_of (P:=λ_=>True) (by rw[hpl];rfl) (λh _=>⟨.machine,.inr (.inl J),?_⟩) ?_;exact λA Q E s _ q=>(show wpAny _ A (pure Keeper.machine) Q E s from ac q)
 have m:backTo pos (starEach [a,b] X.env)=(false,eval a X.env)::backTo pos (starEach [b] X.env):=by rw[hs];rfl
 rw[m];refine evalArgs_kwB J ?_;rw[<-m];refine aF (U pos e s n H _ I h) λus d ⟨vs,H1,f,y,z⟩=>?_;obtain⟨r,o,xs,ys,rfl,N,M,q⟩:=z;refine kws_cons (Constant_bool (kws_nil ⟨trivial,?_⟩));cases y with| cons x u=>
   cases u with| cons w v=>
     cases v;cases x;cases w;obtain⟨K,rv,C⟩:=Xw f.hok N;obtain⟨G,t,B⟩:=oI f.hok M;refine Fr C B λg l f2 f3 f4 f5 f6 Z=>?_;refine Wk l ?_;refine⟨d.heap.objs.size+4,[d.heap.objs.size+4,d.heap.objs.size+2,d.heap.objs.size+3,d.heap.objs.size,d.heap.objs.size+1],_,_,H1,J,f.kept (t':=d.toks) Z,EM r o _ _ _ _ _ (by simp) (by rw[sizeLine_eq];omega),⟨l,f2,⟨_,_,f3⟩,f4,f5⟩,λc k=>?_,q⟩;have j:d.heap.objs.size<=c:=by simp only[ai,az,or_false]at k;rcases k with rfl|rfl|rfl|rfl|rfl<;>omega
     exact f.fpOk j (f.hok.fresh j)
end
section
variable{zs:List V}{g:TG}{tc:TT}{te:TE}{σ:St}{Q:VK}
theorem BH(F:xs.length=zs.length)(Pv:Nat->O V->Hp->Prop)(C:Pv 0 [] H)(w:∀i ys H,i<=xs.length->Pv i ys H->H a=some (.tup xs)/\H b=some (.lst zs)/\ys.length<=sizeLine)(hs:∀i x z ys H p,xs[i]?=some x->zs[i]?=some z->Pv i ys H->H p=none->g (.ref p) (bG k cap σ) (upd H p (.tup [x,z])) λc H2=>tc c H2 λb q=>if b=true then te c q λy D=>Pv (i+1) (ys++[y]) D else Pv (i+1) ys q)
  (B:∀ys H,Pv xs.length ys H->∀p,H p=none->Q (.ref p) (upd H p (.lst ys))):cB (oh a b) g tc te k cap σ H Q:=by
 refine⟨λi m ys H=>m=xs.length-i/\i<=xs.length/\Pv i ys H,⟨xs.length,by simp,cm _,C⟩,?_⟩;rintro i m ys H ⟨rfl,A,p⟩;obtain⟨h,f,o⟩:=w i ys H A p;by_cases d:i<xs.length;have n:i<zs.length:=by omega
 refine .inr ⟨⟨xs,zs,xs[i],zs[i],h,f,by simp[d],by simp[n]⟩,o,Pv (i+1),λr E j=>⟨xs.length-(i+1),by omega,J,d,j⟩,λx E y=>?_⟩;obtain⟨j,t,s,rfl,l,rfl,v,u⟩:=y;exact hs i t s ys H j (v xs h) (u zs f) p l;have e:i=xs.length:=by omega
 subst e;exact .inl ⟨⟨xs,zs,h,f,aj _,by omega⟩,o,B ys H p⟩
end
theorem DB(A:Around)(s:Shared)(a:Int)(t:Tok)(c:Int)(u:Tok)(prog:Program)(w:World)(E:I->Shared->Prop)(Q:I->Shared->Prop)(h:Q (.bool (decide (a>c))) s):wpAny (model prog w) A (richCompare .Gt (.int a t) (.int c u)) Q E s:=
 (PyProof.Rows.gt_int h:wpAny (model prog w) A (compareOp .Gt (.int a t) (.int c u)) Q E s)
section
theorem Wt(f:Nat->Int):∀k i,i<=k->f (argBest (λi j=>decide (f i>f j)) k)≥f i
 | 0,i,h=>by
   have:i=0:=by omega
   subst this;exact cg _
 | k +1,i,h=>by
   have b:=Wt f k;have e:argBest (λi j=>decide (f i>f j)) (k+1)=if decide (f (k+1)>f (argBest (λi j=>decide (f i>f j)) k))=true then k+1 else argBest (λi j=>decide (f i>f j)) k:=rfl
   rw[e];split
   . rename_i c
     have c:=bw c;by_cases a:i=k+1
     . subst a;exact cg _
     . have:=b i (by omega);omega
   . rename_i c
     have c:¬(f (k+1)>f (argBest (λi j=>decide (f i>f j)) k)):=λz=>c (aw z);by_cases a:i=k+1
     . subst a;omega
     . exact b i (by omega)
theorem DW(W:X.calm=true):jt X (.builtin "max") (λxs H Q=>∃(a:Y)(ns:O Int),xs=[.ref a]/\aE X.K H a (ns.map V.int)/\ns≠[]/\∀m,m∈ns->(∀n∈ns,n<=m)->Q (.int m) H):=by
 intro B s σ H xs us Q I r h;obtain⟨a,ns,rfl,L,Z,q⟩:=h;obtain⟨u,rfl,F⟩:=jx r;cases F;obtain⟨c,A,p,hz⟩:=I.list L;have k:a<s.heap.objs.size:=by obtain⟨_,e,_⟩:=p.isList;exact aq e
 have R:=A.length;rw[ae]at R;have M:0<ns.length:=by cases ns with|nil=>exact absurd J Z|cons=>simp
 have f:∀i v,c[i]?=some v->∃t,v=Value.int (ns.getD i 0) t:=λi v d=>by have l:i<c.length:=(c7.mp d).1;obtain⟨u,K,G⟩:=A.get (i:=i) (x:=V.int (ns.getD i 0)) (by rw[ba,ar,ao (by omega)];rfl);rw[K]at d;cases d;exact G
 refine call_max_walk (wpAny_pyIter_list p.isList ?_);refine⟨s.heap.objs.size,_,_,_,_,_,λi j=>decide (ns.getD i 0>ns.getD j 0),J,Walks.list (A:=X.A.in1) (show X.A.in1.handled=none from I.ok.hd W) s.heap.objs.size a (bh k) c.toArray,⟨⟨_,bi _ J,J,J⟩,p.isList.push _⟩,?_,by rw[cq];omega,?_,λv h' tk d S=>?_⟩
 . intro b w;simp only[ai,az,or_false,Heap.push]at w⊢;rcases w with rfl|rfl
   . simp
   . simp only[Array.size_push];exact Nat.lt_succ_of_lt k
 . intro i j E D s' Q' E' l U y;obtain⟨t,rfl⟩:=f i E (by simpa using l);obtain⟨t',rfl⟩:=f j D (by simpa using U);exact DB _ _ _ _ _ _ _ _ _ _ y
 . have x:c.toArray.size=ns.length:=by rw[cq];omega
   rw[x]at d;obtain⟨t,rfl⟩:=f (argBest (λi j=>decide (ns.getD i 0>ns.getD j 0)) (ns.length-1)) v (by rw[List.getElem?_toArray]at d;exact d);clear d;generalize C:argBest (λi j=>decide (ns.getD i 0>ns.getD j 0)) (ns.length-1)=m;have P:m<=ns.length-1:=by rw[<-C];exact Xs _ _
   have g:m<ns.length:=by omega
   refine⟨.int (ns.getD m 0),H,I.kept λb o e=>S b o (λw=>?_) (ak _ e),⟨_,J⟩,q _ ?_ λn N=>?_⟩
   . have z:b=s.heap.objs.size:=by simpa using w
     exact absurd (aq e) (by rw[z];exact cx _)
   . rw[ar,ao g];exact List.getElem_mem g
   . obtain⟨i,l,rfl⟩:=fj.mp N;have:=Wt (λi=>ns.getD i 0) (ns.length-1) i (by omega);rw[C]at this;have e:ns.getD i 0=ns[i]:=by rw[ar,ao l];rfl
     rw[<-e];exact this
open Classical in
end
noncomputable def Yc(ks:List xv)(g:xv):List xv:=if g∈ks then ks else ks++[g]
noncomputable def Xp(gs:List xv):List xv:=gs.foldl Yc []
theorem C2{ks:O xv}{x:xv}:x∈Yc ks g↔x∈ks\/x=g:=by
 unfold Yc;split
 . rename_i h
   constructor
   . exact .inl
   . rintro(z|rfl)
     . exact z
     . exact h
 . rw[ck,bc]
theorem E1{ks:O xv}(h:ks.Nodup):(Yc ks g).Nodup:=by
 unfold Yc;split
 . exact h
 . rename_i c
   rw[List.nodup_append];exact⟨h,by simp,λa e b d=>by rw[bc.mp d];exact λz=>c (z▸e)⟩
theorem CV(ks:O xv)(g:xv):(Yc ks g).length<=ks.length+1:=by
 unfold Yc;split
 . omega
 . rw[ay,bg];exact aj _
theorem ES:∀{ks:List xv}{x:xv},x∈gs.foldl Yc ks↔x∈ks\/x∈gs:=by induction gs with|nil=>intro ks x;simp| cons g gs a=>intro ks x;rw[List.foldl_cons,a,C2,ai,or_assoc]
theorem D4:∀(ks:List xv),(gs.foldl Yc ks).length<=ks.length+gs.length:=by induction gs with|nil=>intro ks;exact aj _| cons g gs a=>intro ks;have c:=a (Yc ks g);have b:=CV ks g;rw[List.foldl_cons,cu];omega
theorem F0:∀{ks:List xv},ks.Nodup->((gs.foldl Yc ks).length=ks.length+gs.length↔(ks++gs).Nodup):=by
 induction gs with|nil=>intro ks h;simp[h]| cons g gs a=>
   intro ks h;rw[List.foldl_cons];by_cases c:g∈ks
   . have e:Yc ks g=ks:=by unfold Yc;rw[if_pos c]
     rw[e];constructor
     . intro z;have:=D4 (gs:=gs) ks;rw[cu]at z;omega
     . intro z;rw[List.nodup_append]at z;exact absurd J (z.2.2 g c g c8)
   . have e:Yc ks g=ks++[g]:=by unfold Yc;rw[if_neg c]
     have:=a (E1 (g:=g) h);rw[e,List.append_assoc,ay,bg]at this;rw[e,cu,show ks.length+(gs.length+1)=ks.length+1+gs.length from by omega];exact this
theorem Fu(gs:O xv):(Xp gs).length=gs.length↔gs.Nodup:=by have:=F0 (gs:=gs) (ks:=[]) List.nodup_nil;simpa[Xp]using this
theorem Fb{x:xv}:x∈Xp gs↔x∈gs:=by unfold Xp;rw[ES];simp
theorem uA(kvs:O (xv×V))(k:xv):(kvs.any λa=>decide (a.1=k))=decide (k∈kvs.map (·.1)):=by
 rw[Bool.eq_iff_iff,fu,decide_eq_true_eq,bz];constructor
 . rintro⟨a,h,e⟩;exact⟨a,h,bw e⟩
 . rintro⟨a,h,e⟩;exact⟨a,h,aw e⟩
theorem Vx(kvs:O (xv×V))(k:xv):(Zi kvs k).isSome=decide (k∈kvs.map (·.1)):=by rw[<-Xv,uA]
theorem Ey(kvs:O (xv×V))(k:xv)(v:V):(Wc kvs k v).map (·.1)=Yc (kvs.map (·.1)) k:=by
 unfold Wc Yc;rw[uA];by_cases c:k∈kvs.map (·.1)
 . rw[if_pos (aw c),if_pos c,eq];refine List.map_congr_left λa _=>?_;show(if a.1=k then(a.1,v)else a).1=a.1;split<;>rfl
 . rw[if_neg (by rw[bp c];decide),if_neg c,be];rfl
theorem FX(rows:List (xv×V)):∀kvs:List (xv×V),(Yj rows kvs).map (·.1)=(rows.map (·.1)).foldl Yc (kvs.map (·.1)):=by induction rows with|nil=>intro kvs;rfl| cons r rows a=>intro kvs;show(Yj rows (Wc kvs r.1 r.2)).map (·.1)=_;rw[a,Ey];rfl
noncomputable def nQ:List Expr->Option (List Int)|[]=>some []|e::r=>(cI e).bind λi=>(nQ r).map (i:: ·)
noncomputable def oA:Expr->Option (List Expr)|.Tuple es _ _=>some es|_=>none
noncomputable def nG:List Expr->Option (List (List Int))|[]=>some []|e::r=>((oA e).bind nQ).bind λg=>(nG r).map (g:: ·)
noncomputable def oK:Expr->Option (List (List Int))|.List es _=>nG es|_=>none
def xO(L:List (List Int)):TE:=λ_ H Q=>∀l xs H',Same H H'->H l=none->H' l=some (.lst xs)->IsL H' (L.map tI) xs->Q (.ref l) H'
theorem Ei(h:oA e=some es):∃a p,e=.Tuple es a p:=by
 unfold oA at h;split at h
 . cases h;exact⟨_,_,J⟩
 . cases h
section
theorem sM:∀{es:List Expr}{ns:List Int},nQ es=some ns->PA X es (λ_ H Q=>Q (ns.map V.int) H)| [],_,h=>by cases h;exact zb| e::r,ns,h=>by unfold nQ at h;obtain⟨i,c,b⟩:=fo.mp h;obtain⟨d,a,rfl⟩:=fm.mp b;obtain⟨j,p,rfl⟩:=ny c;exact za zc (sM a)
theorem sN:∀{es:List Expr}{L:List (List Int)},nG es=some L->(∀g∈L,g.length<=1000)->PA X es (λ_ H Q=>∀xs H',Same H H'->IsL H' (L.map tI) xs->Q xs H')| [],_,h,_=>by cases h;exact λc b s d H Q I q=>zb c b s d H Q I (q [] H (Same.refl H) J)| e::r,L,h,i=>by unfold nG at h;obtain⟨g,v,u⟩:=fo.mp h;obtain⟨es,n,m⟩:=fo.mp v;obtain⟨M,o,rfl⟩:=fm.mp u;obtain⟨a,p,rfl⟩:=Ei n;refine λc b s d H Q I q=>za (yc (sM m)) (sN o λg l=>i g (ce _ l)) J c b s d H Q I ?_;refine⟨by rw[ae];exact i g c8,λt x j _ g1 xs w f k=>q _ w (j.trans f) ⟨_,_,J,⟨t,_,J,f _ _ g1,IsL.ints.mpr J⟩,k⟩⟩
theorem AG(h:oK e=some L)(m:∀g∈L,g.length<=1000)(k:L.length<=1000):PE X e (xO L):=by
 unfold oK at h;split at h
 . refine λa s i H Q I q=>va (sN h m) a s i H Q I λj p c f=>⟨?_,λl n b d g2=>q l j n (c.trans b) ?_ g2 (f.mono b)⟩
   . rw[f.length,ae];exact k
   . cases z:H l with|none=>rfl|some o=>rw[c _ _ z]at d;cases d
 . cases h
end
def Wx(mg:Str->Option Value)(base:Heap):Prop:=∃bm B,mg "__builtins__"=some (.ref bm)/\bm≠builtinsNs/\base.get? bm=some B/\B.cls=.type "module"/\B.dict=some builtinsNs/\B.data=.plain
theorem Ec{K:W.Frag}{CX:fU}{fa c:Addr}{sp:Sp}{f:Shared}(KX:K.In f.heap) (N:f.heap.Ns mainGlobals mg) (i:f.heap.Ns builtinsNs mb) (ap:∀x:Str,x≠"__name__"->mb x=bootBuiltins x) (Q:f.heap.NoLimit) (hg:f.gens=#[]) (am:Wx mg f.heap)
  (hT:f.heap.get? tb=some (W.tabObj #[])) (hC:W.CodeHd f.heap c tb) (au:K.lookup tb=none)
  (C:f.heap.get? a=some {cls:=.type "list",data:=.seq vs.toArray}) (hi:IntsAre vs ns) (hl:ns.length<=sizeLine) (hr:aO k callerA)
  (F:∀base:Heap,K.In base->base.Ns mainGlobals mg->Wx mg base->cD P w K mg base CX k fa fd [x] sp) (B:∀(s:Shared)(u:Value),BindsTo s fd ⟨[u],[]⟩ [(x,u)])
  (ah:∀H:Hp,H tb=some (.tbl #[])->aE K H a (ns.map V.int)->sp [.ref a] H (λv _=>v=.bl true) λ_ _ _=>False)
  (av:∀H e s',CX [] H f (λ_ _ _=>False) e s'->False):
  codeAny (model P w) callerA (.call (.ref fa) ⟨[.ref a],[]⟩) (λr s'=>r=.ok (.ret (.bool true))/\OldK f.heap s'.heap/\s'.os=f.os/\AllBare s'.gens) f:=by
 have rv:=Jz hi;have L:=hi.length;have A:∀H:Hp,H tb=some (.tbl #[])->(∀b,H b=none\/(b=a/\K.lookup a=none/\∃o xs,H b=some (.frz o (.lst xs)))\/b=tb)->aE K H a (ns.map V.int)->aZ P w H f.heap->
   codeAny (model P w) callerA (.call (.ref fa) ⟨[.ref a],[]⟩) (λr s'=>r=.ok (.ret (.bool true))/\OldK f.heap s'.heap/\s'.os=f.os/\AllBare s'.gens) f:=by
  intro H S hO hS M;have g:∀{b:Addr}{o:Obj},f.heap.get? b=some o->H b=none->(Jt f.heap H).get? b=some o:=λe n=>CT e n;have af:∀{b:Addr}{o:Obj}{D:Array DictEntry}{E:Nat},f.heap.get? b=some o->o.data=.dict D E->H b=none:=λ{b o D E} e d=>by
   rcases hO b with z|⟨z,_⟩|z
   . exact z
   . rw[z,C]at e;cases e;have d':Data.seq vs.toArray _=Data.dict D E:=d;cases d'
   . rw[z,hT]at e;cases e;have d':Data.fields _=Data.dict D E:=d;cases d'
  have p:∀{b:Addr}{m:Str->Option Value},f.heap.Ns b m->(Jt f.heap H).Ns b m:=λ{b m} ⟨o,D,E,e,d,r⟩=>⟨o,D,E,g e (af e d),d,r⟩
  have R:K.In (Jt f.heap H):=λb o e=>g (KX b o e) (by
   rcases hO b with z|⟨z,G,_⟩|z
   . exact z
   . rw[z,G]at e;cases e
   . rw[z,au]at e;cases e)
  have ax:Wx mg (Jt f.heap H):=by
   obtain⟨bm,ob,b1,b2,X,b4,b5,b6⟩:=am;refine⟨bm,ob,b1,b2,g X ?_,b4,b5,b6⟩;rcases hO bm with z|⟨z,_⟩|z
   . exact z
   . rw[z,C]at X;cases X;simp at b4
   . rw[z,hT]at X;cases X;cases b4
  have hM:Mod K mg (Jt f.heap H):=⟨R,p N,⟨mb,p i,ap⟩,let⟨mc,h1,h2⟩:=Q;⟨mc,p h1,h2⟩⟩
  have e0:fO P w K mg (Jt f.heap H) callerA [] f H:=⟨J,hM,λb o e=>Cu e,Nat.le_of_eq (D5 _ _),trivial,λb i=>absurd (show b∈([]:List Addr)from i) (by simp),M,.of_eq hg⟩
  refine codeAny_mono ((F _ R (p N) ax).run callerA [] f H ⟨[.ref a],[]⟩ [.ref a] [.ref a] _ _ hr e0 (B f (.ref a)) (.cons J .nil) (ah H S hS)) λr s' h=>?_;cases r with|error e=>exact(av H e s' h).elim| ok fl=>
    cases fl with|next=>exact False.elim h|brk=>exact False.elim h|cont=>exact False.elim h| ret u=>
      obtain⟨v,H',os,U,Z,y,r',q⟩:=h;have q':v=.bl true:=q;subst q';obtain rfl:u=Value.bool true:=r';refine⟨J,⟨λb o e=>?_,λb o e=>Z.there b o e (by simp)⟩,os,U⟩;rcases hO b with z|⟨_,_,ob,xs,z⟩|z
      . exact .inl (Z.keep b o e z (by intro z;exact absurd (show b∈([]:List Addr)from z) (by simp)) (by simp))
      . have G:=Z.frzs b ob _ z;obtain⟨e1,_⟩:=M b _ z;obtain⟨e2,_⟩:=y b _ G;rw[e]at e1;cases e1;exact .inl e2
      . subst z;obtain⟨t,G⟩:=Z.tbls b _ S;have e2:s'.heap.get? b=some {cls:=.none,data:=.fields (#[]++t)}:=y b _ G;rw[e]at hT;cases hT;exact .inr (.inl ⟨(hC.tab e).isCodeTable,J,#[],t,J,e2⟩)
 have ag:a≠tb:=λz=>by rw[z,hT]at C;cases C
 cases hk:K.lookup a with| some o=>
   have e:=KX a o hk;rw[C]at e;cases e;refine A (λb=>if b=tb then some (.tbl #[])else none) (if_pos J) (λb=>?_) (.inr ⟨_,vs.toArray,_,hk,J,J,J,by rw[cq,L];exact hl,by simpa using rv⟩) (λb u z=>?_)
   . by_cases i:b=tb
     . exact .inr (.inr i)
     . exact .inl (if_neg i)
   . by_cases i:b=tb
     . have l:=(if_pos i).symm.trans z;cases l;subst i;exact hT
     . have l:=(if_neg i).symm.trans z;cases l| none=>
   refine A (λb=>if b=tb then some (.tbl #[])else if b=a then some (.frz {cls:=.type "list",data:=.seq vs.toArray} (.lst (ns.map V.int)))else none) (if_pos J) (λb=>?_) (.inl (.inr ⟨{cls:=.type "list",data:=.seq vs.toArray},(if_neg ag).trans (if_pos J)⟩)) (λb u z=>?_)
   . by_cases i:b=tb
     . exact .inr (.inr i)
     . by_cases j:b=a
       . exact .inr (.inl ⟨j,hk,_,_,(if_neg i).trans (if_pos j)⟩)
       . exact .inl ((if_neg i).trans (if_neg j))
   . by_cases i:b=tb
     . have l:=(if_pos i).symm.trans z;cases l;subst i;exact hT
     . have z1:=(if_neg i).symm.trans z;by_cases j:b=a
       . have l:=(if_pos j).symm.trans z1;cases l;subst j;exact⟨C,by rw[ae];exact hl,vs,_,rv,C⟩
       . have l:=(if_neg j).symm.trans z1;cases l
theorem mi{l:W.OpenLaw}{n:Nat}{q:Program}{g:O Str}{XP:(Str->Option I)->Heap->Prop}{L:World->Heap->Prop}{d:DefRec}{K:Params->W.Frag}{CX:World->fU}{sp:World->Sp}(N:l.most=some n) (y:n<=sizeLine) (A:d.params.defaults=[]) (M:aO k callerA)
  (S:∀(w:World)(h:Heap),L w h->(K w.params).In h/\h.get? tb=some (W.tabObj #[])) (B:∀w:World,(K w.params).lookup tb=none)
  (F:∀(w:World) (mg:Str->Option I) (p:Addr) (h:Heap),(K w.params).In h->h.Ns mainGlobals mg->mg d.name=some (.ref p)-> (∃c,W.codeHdIn (K w.params) c tb=true)/\∃fd:FuncData,(∀(s:Shared) (u:I),BindsTo s fd ⟨[u],[]⟩ [(x,u)])/\
    ∀base:Heap,(K w.params).In base->base.Ns mainGlobals mg->Wx mg base->cD l.prog w (K w.params) mg base (CX w) k p fd [x] (sp w))
  (t:∀(w:World)(H:Hp)(a:Addr)(ns:O Int),ns.length<=n->H tb=some (.tbl #[])->aE (K w.params) H a (ns.map V.int)->sp w [.ref a] H (λv _=>v=.bl true) λ_ _ _=>False)
  (C:∀(w:World)(H:Hp)(s:Shared)(e:I)(r:Shared),CX w [] H s (λ_ _ _=>False) e r->False):
  W.WalkO q g XP L l.row.toRowW d [] (λf vs=>PySem.call f vs):=by refine Att.jX N A λw E j mg mb p o pm cd af a vs ns G Y ho hd Q z m i b P=>?_;obtain⟨D,hT⟩:=S w _ Y;obtain⟨⟨c,hC⟩,fd,R,Z⟩:=F w mg p _ D G.T.g z;exact Ec D G.T.g G.T.b G.T.builtins G.T.nolimit P G.T.bmain hT (W.codeHd_of_K D hC) (B w) m i (c6 b y) M Z R (λH X U=>t w H a ns b X U) λH e r=>C w H j e r
end L2
namespace L2
open PySem PySem.Spec PyProof.Rows PySem.W
variable{a b c tb:Addr}{aK:Arguments}{A:Around}{es:Array DictEntry}{ps:Array Value}{X:Cx}{aS e:Expr}{fd:FuncData}{base h:Heap}{φ:Heap->Prop}{H:Hp}{pins:List (Addr×Obj)}{kvs:List (xv×V)}{fN:List (Str×Addr)}{cQ:List Expr}{gs js:List Int}{vs:List Value}{i k:Nat}{o:Obj}{pos:Pos}{P prog:Program}{scope:Scope}{σ:St}{qual x y:Str}{mg:Str->Option Value}{tE:TE}{pm:Value}{E Q:Value->Shared->Prop}{w:World}
abbrev aP(o:Obj):HO:=.frz o (.own 0)
theorem nD(e:h.get? a=some o):wk P w H h a (aP o):=⟨e,⟨o,e⟩⟩
theorem Ja(b:aZ P w H h)(e:H a=some (aP o)):h.get? a=some o:=(b a _ e).1
inductive cN(o:Obj)(qual:Str):Prop|mk:∀vs t,o.data=.fields vs->vs[1]?=some (.str qual t)->cN o qual
inductive aM(tb:Addr)(pos:Pos)(qual:Str)(H:Hp):Prop|mk:∀ps,H tb=some (.tbl ps)->TriplesOk ps.toList->(codeAmong pos ps.toList=none\/∃c oc,codeAmong pos ps.toList=some (.ref c)/\H c=some (aP oc)/\cN oc qual)->aM tb pos qual H
theorem aM.first(h:H tb=some (.tbl #[])):aM tb pos qual H:=⟨#[],h,trivial,.inl J⟩
theorem aM.same{e:Hp}(h:aM tb pos qual H)(s:∀b o,H b=some o->e b=some o):aM tb pos qual e:=by obtain⟨f,k,j,i⟩:=h;exact⟨f,s _ _ k,j,i.imp id λ⟨c,g,a,b,d⟩=>⟨c,g,a,s _ _ b,d⟩⟩
section
theorem A0(B:Wx mg base)(k:∀b o,base.get? b=some o->h.get? b=some o)(G:h.Ns mainGlobals mg)(f:h.get? tb=some (tabObj ps)):mainGlobals≠tb/\h.BuiltinsAt mg tb:=by
 obtain⟨j,i,p,n,m,g,l,c⟩:=B;obtain⟨o,s,t,e,d,r⟩:=id G;have a:=k _ _ m;refine⟨λq=>?_,j,i,p,n,λq=>?_,λq=>?_,a,g,l,c⟩
 . rw[q,f]at e;cases e;cases d
 . rw[q,e]at a;cases a;rw[d]at c;cases c
 . rw[q,f]at a;cases a;cases g
def xJ(F:Addr)(B:Pos)(qual:Str)(O:Addr->Value->Obj):TE:=λ_ H Q=>aM F B qual H/\∀f U oc G H',(∀b o,b≠F->H b=some o->H' b=some o)->aM F B qual H'->H' U=some (aP oc)->cN oc qual->H f=none->H' f=some (aP (O U G))->Q (.ref f) H'
theorem AF(B:Wx X.mg X.base)(C:CodeHd X.base c tb)(v:X.env.code=.ref c)(U:defaultsOf aK X.env=([],[]))(W:closureFor scope X.env=pure fN):PE X (.Lambda aK aS scope pos) (xJ tb pos (X.env.qual++"<lambda>") λa i=>kla_obj "<lambda>" (X.env.qual++"<lambda>") aK aS scope fN ((X.mg "__name__").getD .none) a i):=by
 intro L s σ H Q I ⟨⟨ps,hP,ht,af⟩,q⟩;have w:s.heap.get? tb=some (tabObj ps):=I.hok tb _ hP;have G:=I.mod.glob.keeps I.bk;obtain⟨ag,hb⟩:=A0 B I.bk G w;refine kla_eval U ?_;rcases af with S|⟨a,l,hf,Z,x⟩
 . refine kla_makeFunction (mg:=X.mg) W I.ok.glob G v (C.keeps I.bk) w ht S ag hb λa i f tk hx m y P N=>?_;obtain⟨ah,l,vs,t,e2,x,hd,hv⟩:=P;cases e2;generalize hO:kla_obj "<lambda>" (X.env.qual++"<lambda>") aK aS scope fN ((X.mg "__name__").getD .none) a i=h;have q2:=q f.objs.size a l i (upd (upd (upd H tb (.tbl (ps++#[rawInt pos.line,rawInt pos.col,.ref a]))) a (aP l)) f.objs.size (aP h));have p:∀b o,s.heap.get? b=some o->b<s.heap.objs.size:=λb o e=>aq e;have M:=p _ _ w;have n1:a≠tb:=dw (ca M m);have n2:f.objs.size≠a:=dw y;have n3:f.objs.size≠tb:=dw (Nat.lt_trans (ca M m) y);have ff:H f.objs.size=none:=I.hok.fresh (Nat.le_of_lt (fg m y));have fc:H a=none:=I.hok.fresh m;have F:h.isFreed=false:=by rw[<-hO];rfl
   have k:∀b o,f.get? b=some o->(f.push h).get? b=some o:=λb o e=>ak _ e;have g:∀b o,b≠tb->s.heap.get? b=some o->(f.push h).get? b=some o:=λb o n e=>k b o (hx b o n e);have jY:∀b,b≠tb->b≠a->b≠f.objs.size->upd (upd (upd H tb (.tbl (ps++#[rawInt pos.line,rawInt pos.col,.ref a]))) a (aP l)) f.objs.size (aP h) b=H b:=λb a1 a2 a3=>by rw[zi a3,zi a2,zi a1]
   have j:∀b o,b≠tb->H b=some o->upd (upd (upd H tb (.tbl (ps++#[rawInt pos.line,rawInt pos.col,.ref a]))) a (aP l)) f.objs.size (aP h) b=some o:=λb o n e=>by rw[jY b n (zj e fc) (zj e ff)];exact e
   have atT:upd (upd (upd H tb (.tbl (ps++#[rawInt pos.line,rawInt pos.col,.ref a]))) a (aP l)) f.objs.size (aP h) tb=some (.tbl (ps++#[rawInt pos.line,rawInt pos.col,.ref a])):=by rw[zi n3.symm,zi n1.symm,ze]
   have D:upd (upd (upd H tb (.tbl (ps++#[rawInt pos.line,rawInt pos.col,.ref a]))) a (aP l)) f.objs.size (aP h) a=some (aP l):=by rw[zi n2.symm,ze]
   have K:upd (upd (upd H tb (.tbl (ps++#[rawInt pos.line,rawInt pos.col,.ref a]))) a (aP l)) f.objs.size (aP h) f.objs.size=some (aP h):=ze;have E:((ps++#[rawInt pos.line,rawInt pos.col,Value.ref a]):Array Value).toList=ps.toList++[rawInt pos.line,rawInt pos.col,.ref a]:=by simp
   have q3:=q2 j ⟨_,atT,by rw[E];exact TriplesOk_snoc _ _ _ _ ht,.inr ⟨a,l,by rw[E];exact codeAmong_snoc _ ht S,D,vs,t,hd,hv⟩⟩ D ⟨vs,t,hd,hv⟩ ff (K.trans (by rw[<-hO]));generalize upd (upd (upd H tb (.tbl (ps++#[rawInt pos.line,rawInt pos.col,.ref a]))) a (aP l)) f.objs.size (aP h)=H' at jY j atT D K q3;have R:aZ X.prog X.w H' (f.push h):=λb u e=>by
    by_cases A:b=tb
    . subst A;rw[atT]at e;cases e;exact k _ _ N
    by_cases b2:b=a
    . subst b2;rw[D]at e;cases e;exact nD (k _ _ x)
    by_cases b3:b=f.objs.size
    . subst b3;rw[K]at e;cases e;exact nD (bi _ F)
    rw[jY b A b2 b3]at e;refine(I.hok b u e).stay (λd o hc r=>g d o (λz=>?_) r) (λd r=>j d _ (λz=>?_) r) λd xs r=>j d _ (λz=>?_) r
    . subst z;rcases hc with z|z
      . exact A z.symm
      . rw[hP]at z;cases z
    . rw[z,hP]at r;cases r
    . rw[z,hP]at r;cases r
   refine⟨.ref f.objs.size,H',I.un (h':=f.push h) (t':=tk) ⟨λb o e n _ _=>g b o (λz=>?_) e,λb o e n _ _=>⟨o.slots,g b o (λz=>?_) e⟩,λb o e n _=>?_,λb o e _=>?_,λb xs e=>j b _ (λz=>?_) e,λb o u e=>j b _ (λz=>?_) e,λb am e=>?_⟩ R,J,q3⟩
   . rw[z,hP]at n;cases n
   . rw[z,hP]at n;cases n
   . have hb:=p b o e;rw[jY b (λz=>by rw[z,hP]at n;cases n) (bh (ca hb m)) (bh (Nat.lt_trans (ca hb m) y))];exact n
   . by_cases A:b=tb
     . subst A;exact⟨_,k _ _ N⟩
     . exact⟨o,g b o A e⟩
   . rw[z,hP]at e;cases e
   . rw[z,hP]at e;cases e
   . by_cases A:b=tb
     . subst A;rw[hP]at e;cases e;exact⟨_,atT⟩
     . exact⟨#[],by rw[j b _ A e];simp⟩
 . refine kla_makeFunctionHit (mg:=X.mg) W I.ok.glob G v (C.keeps I.bk) w ht hf hb λi f tk hk p=>?_;show EP X L σ Q (.ref f.objs.size) {s with heap:=f.push (kla_obj "<lambda>" (X.env.qual++"<lambda>") aK aS scope fN ((X.mg "__name__").getD .none) a i),toks:=tk};generalize hO:kla_obj "<lambda>" (X.env.qual++"<lambda>") aK aS scope fN ((X.mg "__name__").getD .none) a i=h;have ff:H f.objs.size=none:=I.hok.fresh p;have F:h.isFreed=false:=by rw[<-hO];rfl
   have sm:∀b o,H b=some o->upd H f.objs.size (aP h) b=some o:=λb o e=>by rw[zi (zj e ff)];exact e
   refine⟨.ref f.objs.size,upd H f.objs.size (aP h),I.laid (h':=f.push h) (t':=tk) (λb u e=>ak _ (hk b u e)) p (nD (bi _ F)),J,?_⟩;exact q _ a l i _ (λb o _ e=>sm b o e) (aM.same ⟨ps,hP,ht,.inr ⟨a,l,hf,Z,x⟩⟩ sm) (sm _ _ Z) x ff (ze.trans (by rw[<-hO]))
end
noncomputable def del(H:Hp)(c:Addr):Hp:=λb=>if b=c then none else H b
theorem Zm:del H c c=none:=if_pos J
theorem qp(h:b≠c):del H c b=H b:=if_neg h
theorem aZ.del{P:Program}{w:World}{H:Hp}{h:Heap}{c:Y}{o:Obj}(f:aZ P w H h)(e:H c=some (aP o)):aZ P w (L2.del H c) h:=λb u q=>by
 by_cases a:b=c
 . rw[a,Zm]at q;cases q
 . rw[qp a]at q;exact(f b u q).stay (λ_ _ _ r=>r) (λd r=>by rw[qp (λz=>by rw[z,e]at r;cases r)];exact r) λd g r=>by rw[qp (λz=>by rw[z,e]at r;cases r)];exact r
theorem aZ.put(f:aZ P w H h)(n:H c=none)(e:h.get? c=some o):aZ P w (upd H c (aP o)) h:=λb u q=>by
 by_cases a:b=c
 . subst a;rw[ze]at q;cases q;exact nD e
 . rw[zi a]at q;exact(f b u q).stay (λ_ _ _ r=>r) (λd r=>by rw[zi (zj r n)];exact r) λd g r=>by rw[zi (zj r n)];exact r
section
end
noncomputable def oD(P:Program)(w:World)(K:Frag)(mg:Str->Option Value)(base:Heap)(N:List Str)(qual:Str)(B:Scope)(f:Addr)(U:Value)(G:List (Str×Addr))(A:Around)(F:List Env)(s:Shared)(H:Hp):Cx where
 prog:=P
 w:=w
 K:=K
 mg:=mg
 base:=base
 A:=A.deeper (envX qual B s.heap.objs.size f U G)
 N:=N
 s₀:=s
 H₀:=H
 env:=envX qual B s.heap.objs.size f U G
 outer:=F
 stack:=envX qual B s.heap.objs.size f U G::F
 ex:=[]
 calm:=true
 fn:=λ_=>false
 pn:=[]
 xe:=λ_ _=>False
theorem mT{z:Str}{d:Y}(h:[(y,c)].lookup z=some d):z=y/\d=c:=by
 rw[List.lookup_cons]at h;split at h
 . rename_i e
   cases h;exact⟨beq_iff_eq.mp e,J⟩
 . cases h
structure cY(scope:Scope)(x y:Str):Prop where
 kind:scope.kind=.function
 co:scope.isCoroutine=false
 gen:scope.isGenerator=false
 cell:∀z∈scope.names,z.2≠ .cell
 lx:scope.names.lookup x=some .local
 ly:scope.names.lookup y=some .free
 one:∀z∈scope.names,z.2=.free->z.1=y
section
end
section
inductive eU(c:Addr)(i:Nat)(sp:Sp)(σ:St)(Q:VK)(vs:List V)(H1:Hp):Prop|mk:∀vk,σ[i]?=some (some vk)->(∀oc u,oc.data=.cell (some u)->yu vk u->H1 c=none->sp vs (upd H1 c (aP oc)) (λv H'=>H' c=some (aP oc)->Q v (del H' c)) E0)->eU c i sp σ Q vs H1
def Bm(c:Addr)(i:Nat)(sp:Sp)(t:TA):TE:=λσ H Q=>t σ H λvs H1=>eU c i sp σ Q vs H1
theorem DO{f:Addr}{ps:List Str}{sp:Sp}{t:TA}{es:List Expr}{p:Pos}(F:cD X.prog X.w X.K X.mg X.base hJ k f fd ps sp)(hr:aO k X.A)(hm:X.mg x=some (.ref f))(hk:keepIn X.K (.ref f)=true)(l:Ww X.K fd ps [])(hi:X.N[i]?=some y) (hy:X.env.kindOf y=some .cell) (U:X.env.cells.lookup y=some c) (ah:X.fn y=true) (ha:PA X (e::es) t) (hg:Gl X x:=by rfl)
  (am:(x==("__debug__":Str))=false:=by decide) (he:starEach (e::es) X.env=(false,eval e X.env)::starEach es X.env:=by rfl) (hpl:(backTo pos (starEach es X.env)).any (·.1)=false:=by rfl):
  PE X (.Call (.Name x p) (e::es) [] pos) (Bm c i sp t):=by
 intro D s σ H Q I h;refine wpAny_Call_Name_kw (Y8 I hg hm ?_ am);refine callWith_K (h₀:=X.base) I.ok.mod.kin hk (aF (ha pos D s σ H _ I h) λS C ⟨vs,R,d,r,q⟩=>⟨d.kIn,?_⟩) he hpl;obtain⟨n,Z,q⟩:=q;obtain⟨m,hn,hl⟩:=id d.loc;obtain⟨u,ru,lk⟩:=hl i y _ hi Z (.inr (.inl hy));obtain⟨B,L,af⟩:C.heap.IsCell c (some u):=by
  rcases lk with⟨z,_⟩|⟨_,c',z,w⟩
  . rw[hy]at z;cases z
  . rw[U]at z;cases z;exact w
 have E:R c=none:=d.freeC y c U;have h2:=q B u af ru E;have ag:S.length=ps.length:=by rw[<-r.length];exact F.len _ _ _ _ h2
 have M:X.s₀.heap.objs.size<=c:=d.ok.cab y c ah U;have a:∀{b:Addr},R b=none->b≠c->upd R c (aP B) b=none:=λn z=>by rw[zi z];exact n
 have e0:fO X.prog X.w X.K X.mg X.base X.A X.stack C (upd R c (aP B)):=by
  have z:=d.env0;refine⟨z.frames,z.mod,λb o e=>⟨(z.bs b o e).1,a (z.bs b o e).2 (bh (ca (aq e) (c6 d.ok.bsz M)))⟩,z.bsz,z.funs,λb l=>a (z.frf b l) λy=>?_,z.hok.put E L,z.bare⟩;rcases ai.mp (d.stkSub b l)with W|W
  . exact d.cne _ c U (y.symm.trans W)
  . obtain⟨_,o,ho,_⟩:=d.ok.funs.mem W;rw[y]at ho;exact absurd (ca (aq ho) M) (cx _)
 have N:=l C S d.kIn (by rw[ez];exact ag);rw[ez]at N;refine wpAny_call (codeAny_mono (F.run X.A X.stack C (upd R c (aP B)) ⟨S,[]⟩ S vs _ E0 hr e0 N r h2) λr s' G=>?_);cases r with|error e=>exact False.elim G| ok fl=>
   cases fl with|next=>exact False.elim G|brk=>exact False.elim G|cont=>exact False.elim G| ret u=>
     obtain⟨v,H',os,P,g,K,rv,qq⟩:=G;have A:H' c=some (aP B):=g.frzs c _ _ ze;have ap:s'.heap.get? c=some B:=Ja K A;have j:∀{o:Obj},C.heap.get? c=some o->s'.heap.get? c=some o:=λe=>by rw[L]at e;cases e;exact ap
     refine⟨v,del H' c,d.call' (ch:=[]) os ⟨λb o e n l _=>?_,λb o e n l _=>?_,λb o e n _=>?_,λb o e _=>g.there b o e (by simp),λb xs e=>?_,λb o u e=>?_,λb ps e=>?_⟩ (K.del A) P (λb z=>absurd z (by simp)),rv,qq A⟩
     . by_cases z:b=c
       . subst z;exact j e
       . exact g.keep b o e (a n z) l (by simp)
     . by_cases z:b=c
       . subst z;exact⟨o.slots,j e⟩
       . exact g.slot b o e (a n z) l (by simp)
     . by_cases z:b=c
       . subst z;exact Zm
       . rw[qp z];exact g.free b o e (a n z) (by simp)
     . have z:=zj e E;rw[qp z];exact g.tups b xs (by rw[zi z];exact e)
     . have z:=zj e E;rw[qp z];exact g.frzs b o u (by rw[zi z];exact e)
     . have z:=zj e E;rw[qp z];exact g.tbls b ps (by rw[zi z];exact e)
end
theorem Dv{K:Frag}{g:O Env}{s:Shared}{f X:Y}{ah F:Value}{uk:Value}{vk v1:V}{D M:Obj}{Q:VK}(S:cY scope x y) (hr:aO k A) (l:fO P w K mg base A g s H) (hf:H f=some (aP (kla_obj "<lambda>" qual aK aS scope [(y,c)] pm X ah))) (a3:H X=some (aP M)) (ho:cN M qual) (L:H c=some (aP D)) (af:D.data=.cell (some uk)) (rk:yu vk uk) (r:yu v1 F)
  (U:bindArgs (kla_fn "<lambda>" qual aK aS scope [(y,c)] pm (.ref X) ah) ⟨[F],[]⟩=pure [(x,F)])
  (R:PE (oD P w K mg base [x,y] qual scope f (.ref X) [(y,c)] A g s (del H c)) aS tE)
  (q:tE [some v1,some vk] (del H c) (λv H'=>H' c=none->Q v (upd H' c (aP D)))):codeAny (model P w) A (.call (.ref f) ⟨[F],[]⟩) (CR hJ g P w H s Q E0) s:=by
 obtain⟨vs,t,hd,hv⟩:=ho;have KX:K.In s.heap:=l.mod.kin.keeps λb o e=>(l.bs b o e).1;have ap:s.heap.NoLimit:=l.mod.nolimit.keeps λb o e=>(l.bs b o e).1;have m:=Ja l.hok L;have am:c ∉ aV g:=λz=>by rw[l.frf c z]at L;cases L
 have a4:c<s.heap.objs.size:=aq m;refine kla_callFunE hr.depth (Ja l.hok hf) J S.co S.gen J ⟨X,M,vs,t,J,Ja l.hok a3,hd,hv⟩ ?_;rw[U];refine ac (wpAny_newFunctionEnv S.cell (λz E=>by rw[bc.mp E];exact S.lx) (λG av au=>?_) S.kind);have j:∀b o,s.heap.get? b=some o->G.get? b=some o:=λb o e=>au.extBut b o (bh (aq e)) (ak _ e);refine⟨ap.keeps j,?_⟩;show codeAny _ _ (.expr aS (envX qual scope s.heap.objs.size f (.ref X) [(y,c)])) _ _;have N:∀b:Y,b ∉ ([]:O Y):=λb z=>absurd z (by simp);have Z:∀{b:Y},H b=none->del H c b=none:=λ{b} n=>by
  by_cases z:b=c
  . rw[z];exact Zm
  . rw[qp z];exact n
 have I:Inv (oD P w K mg base [x,y] qual scope f (.ref X) [(y,c)] A g s (del H c)) [] [some v1,some vk] (del H c) {s with heap:=G,toks:=s.toks+[(x,F)].length}:=by
  refine⟨⟨l.mod,S.kind,J,J,aj _,λa b d B W=>?_,λz E=>?_,λz d hf _=>(cn hf).elim,λ_=>hr.hd,Around.frames_deeper l.frames,.inr ⟨J,J⟩,λb z=>absurd z (N b),λb o e=>⟨(l.bs b o e).1,Z (l.bs b o e).2⟩,l.bsz,λb _ _=>N b,λb z=>absurd z (N b),l.funs,λb hb=>Z (l.frf b hb)⟩,J,l.bare,Un.kept j,⟨_,av,λi z v B W h3=>?_⟩,λz d h=>?_,Z (l.hok.fresh (aj _)),λz d h=>?_,λp hp=>absurd (show p∈([]:O (Y×Obj))from hp) (by simp),(l.hok.del L).kept j,J⟩
  . rw[(mT B).1,(mT W).1]
  . have E:scope.names.lookup z=some .cell\/scope.names.lookup z=some .free:=E;rcases E with E|E
    . exact absurd J (S.cell _ (PySem.mem_of_lookup E))
    . have e:z=y:=S.one _ (PySem.mem_of_lookup E) J;exact⟨c,by rw[e];show[(y,c)].lookup y=some c;rw[List.lookup_cons];simp⟩
  . have B:([x,y]:O Str)[i]?=some z:=B
    match i,B,W with| 0,B,W=>cases B;cases W;exact⟨F,r,.inl ⟨S.lx,by show List.lookup x [(x,F)]=some F;rw[List.lookup_cons];simp⟩⟩| 1,B,W=>cases B;cases W;exact⟨uk,rk,.inr ⟨.inr S.ly,c,(by show[(y,c)].lookup y=some c;rw[List.lookup_cons];simp),D,j _ _ m,af⟩⟩|n+2,B,_=>cases B
  . rw[(mT h).2];exact⟨_,D,j _ _ m,af⟩
  . rw[(mT h).2];exact Zm
 refine kla_codeExpr (df (R [] _ _ (del H c) _ I q) (λv s' ⟨x,H',I',rv,qq⟩=>?_) λe s' z=>(show False from z).elim);have C:Un (aV g) [] (del H c) H' s.heap s'.heap:=I'.base;have ax:s'.heap.get? c=some D:=C.keep c D m Zm am (by simp);have ag:H' c=none:=C.free c D m Zm (by simp);have dk:∀{b:Y}{o:HO},H b=some o->b≠c->del H c b=some o:=λe z=>by rw[qp z];exact e
 refine⟨x,upd H' c (aP D),I'.os,I'.bare,⟨λb o e n hb _=>C.keep b o e (Z n) hb (by simp),λb o e n hb _=>C.slot b o e (Z n) hb (by simp),λb o e n _=>?_,λb o e _=>C.there b o e (by simp),λb xs e=>?_,λb o u e=>?_,λb ps e=>?_⟩,I'.hok.put ag ax,rv,qq ag⟩
 . have z:b≠c:=λz=>by rw[z,L]at n;cases n
   rw[zi z];exact C.free b o e (Z n) (by simp)
 . have z:b≠c:=λz=>by rw[z,L]at e;cases e
   rw[zi z];exact C.tups b xs (dk e z)
 . by_cases z:b=c
   . rw[z,L]at e;cases e;rw[z];exact ze
   . rw[zi z];exact C.frzs b o u (dk e z)
 . have z:b≠c:=λz=>by rw[z,L]at e;cases e
   rw[zi z];exact C.tbls b ps (dk e z)
section
def Bn(i:Nat)(qual:Str)(O:Addr->Addr->Value->Obj)(tE:TE)(t:TA):TE:=λσ H Q=>∃f,σ[i]?=some (some (.ref f))/\t σ H λvs H1=>∃U c c' F oc B G W,vs=[U]/\H1 f=some (aP (O c c' F))/\H1 c'=some (aP B)/\cN B qual/\H1 c=some (aP oc)/\oc.data=.cell (some W)/\yu G W/\
 tE [some U,some G] (del H1 c) λv H'=>H' c=none->Q v (upd H' c (aP oc))
theorem DP{z:Str}{t:TA}{p:Pos}(S:cY scope x y)(Z:aO k X.A)(hi:X.N[i]?=some z)(W:jZ X.env.scope z)(l:∀c g b o,bindArgs (kla_fn "<lambda>" qual aK aS scope [(y,c)] pm (.ref g) b) ⟨[o],[]⟩=pure [(x,o)])
  (j:∀f c g s H,PE (oD X.prog X.w X.K X.mg X.base [x,y] qual scope f (.ref g) [(y,c)] X.A X.stack s H) aS tE) (ha:PA X [e] t)
  (hd:(z==("__debug__":Str))=false:=by decide) (C:(z==("__classdict__":Str))=false:=by decide) (he:starEach [e] X.env=(false,eval e X.env)::starEach [] X.env:=by rfl) (hpl:(backTo pos (starEach [] X.env)).any (·.1)=false:=by rfl):
  PE X (.Call (.Name z p) [e] [] pos) (Bn i qual (λc g b=>kla_obj "<lambda>" qual aK aS scope [(y,c)] pm g b) tE t):=by
 intro a s w H Q I h;obtain⟨f,A,h⟩:=h;refine wpAny_Call_Name_kw (aF (nz hi W hd C a s w H (λv F=>v=.ref f/\F=H) I (mW A ⟨J,J⟩)) λu M ⟨v,F,I0,N,e1,e2⟩=>?_);subst e1 e2;obtain rfl:u=Value.ref f:=N;have m:=aF (ha pos a M w F _ I0 h) (Q':=λG d=>FnAt f d.heap/\wpAny (model X.prog X.w) X.A (call (.ref f) ([]++G)) (EP X a w Q) X.xe d) λus L ⟨G,H1,E,r,q⟩=>by obtain⟨v1,c,g,b,oc,U,vk,uk,rfl,K,D,ho,hc,B,R,q⟩:=q;obtain⟨o,rfl,P⟩:=jx r;refine⟨⟨_,_,_,_,Ja E.hok K⟩,?_⟩;refine wpAny_call (codeAny_mono (Dv S Z E.env0 K D ho hc B R P (l c g b o) (j f c g L _) q) λr s' n=>?_);cases r with|error e=>exact False.elim n| ok fl=>cases fl with|next=>exact False.elim n|brk=>exact False.elim n|cont=>exact False.elim n|ret u=>exact E.after n
 rw[he]at m⊢;exact callWith_of (by show((false ||(backTo pos (starEach [] X.env)).any (·.1)) ||false)=false;rw[hpl];rfl) keeps_F (Calls.evalArgs_plain m)
end
section
variable{s:Shared}{d it v:Addr}{ep:Nat}{ok ov:Value}
theorem Br(b:(d==sysModules)=false)(x:jr s.heap d es ep)(a:Q (.ref s.heap.objs.size) {s with heap:=s.heap.push {cls:=.type "dict_items",data:=.fields #[.ref d]}}):wpAny (model prog w) A (call (.builtin "dict.items") [.ref d]) Q E s:=by have hT:=x.ty;refine cy F.slot_dict_items hT F.entry_dict_items ?_ (F.args_dict_items_1 _);unfold Builtin.«dict.items»;refine aa ?_;unfold Builtin.Dict.noArgs;refine aa (wpAny_notOrdered_dict hT (ac ?_));unfold Builtin.Dict.showsAll;rw[if_neg (by simp_all)];exact aa (ac (aa (dg (ac ⟨_,J,a⟩))))
theorem Bp(b:s.heap.IsItemsView v d)(x:jr s.heap d es ep)(h:Q (.ref s.heap.objs.size) {s with heap:=s.heap.push {cls:=.type "dict_itemiterator",data:=.fields #[.none,.bool false,.ref d,.int 0 0,.int es.size 0,.int ep 0,.none,.none]}}):wpAny (model prog w) A (pyIter (.ref v)) Q E s:=by
 obtain⟨i,c,g,e⟩:=id b;obtain⟨o,f,j,a⟩:=id x;refine wpAny_pyIter_slot b.typeIs F.slot_dict_items_iter (cy F.slot_dict_items_iter b.typeIs F.entry_dict_items_iter ?_ (F.args_dict_items_iter_1 _));unfold Builtin.«dict_items.__iter__»;refine aa (ac (aa ?_));unfold Builtin.Dict_items.dictOf;refine aa (wpAny_field c e J (ac (aa ?_)));unfold Builtin.Dict_items.newIterator;refine aa (wpAny_dictEntries f a (aa (wpAny_dictEpoch f a ?_)));simp only[show Builtin.Dict_items.ownsTuple "dict_itemiterator"=true by rfl,if_true];refine dg (ac ⟨_,J,"dict_itemiterator",_,⟨_,bi _ J,J⟩,F.slot_dict_itemiterator_next.lookup,?_⟩)
  (by simp only[sizeOk,Builtin.Dict_items.ownedTupleFields,cq,ay,cu,List.length_nil,sizeLine_eq];omega)
 simpa[rawInt,Builtin.Dict_items.ownedTupleFields]using h
theorem BZ{Q:Option I->Shared->Prop}(z:IsItemIter s.heap it d i es.size ep ok ov)(x:jr s.heap d es ep)(Z:i<es.size)(hQ:∀h',IsItemIterOut h' it d (i+1) es.size ep es[i].key es[i].val s.heap.objs.size->h'.get? s.heap.objs.size=some {cls:=.type "tuple",data:=.seq #[es[i].key,es[i].val]}->h'.objs.size=s.heap.objs.size+1-> (∀b o,b≠it->s.heap.get? b=some o->h'.get? b=some o)->Q (some (.ref s.heap.objs.size)) {s with heap:=h'}):wpAny (model prog w) A (pyNext (.ref it)) Q E s:=by
 obtain⟨K,g,P,N,os⟩:=s;obtain⟨od,L,af,M⟩:=id x;have hT:Shared.TypeIs ⟨K,g,P,N,os⟩ (.ref it) "dict_itemiterator":=⟨_,z,J⟩
 unfold pyNext;refine aa (wpAny_attempt (wpAny_callSpecial?_slot hT F.slot_dict_itemiterator_next (cy F.slot_dict_itemiterator_next hT F.entry_dict_itemiterator_next (aa (ac (aa (aa ?_)))) (F.args_dict_itemiterator_next_1 _))));first|refine aa (wpAny_typeNameOfWhole_itemiter hT (ac ?_))|refine aa (wpAny_typeNameOf_itemiter hT (ac ?_))
 refine aa (wpAny_fieldsOf z J ?_);simp only[show Builtin.Dict_items.ownsTuple "dict_itemiterator"=true by rfl,if_true];show wpAny _ _ (if(Value.ref d==Value.none)=true then _ else _) _ _ _;rw[if_neg (show¬((Value.ref d==Value.none)=true)from cn)];refine aa (ac (aa (wpAny_dictEntries L M ?_)));rw[if_neg (by simp)];refine aa (ac (aa (wpAny_dictEpoch L M ?_)));rw[if_neg (by simp)];refine ac ?_;simp only[(by omega),if_false,cz,ge Z];refine aa ?_;first|refine aa (wpAny_typeNameOfWhole_itemiter hT (ac ?_))|refine aa (wpAny_typeNameOf_itemiter hT (ac ?_))
 refine aa (wpAny_isOneOf_itemiter hT ?_);show wpAny _ _ (setField (.ref it) 3 (rawInt (i+1))>>=_) _ _ ⟨K,g,P,N,os⟩;refine aa (wpAny_setField_rec z (by simp) λp f a=>?_);replace a:=a;replace f:IsItemIter p it d (i+1) es.size ep ok ov:=by
  have e:((i+1:Nat))=i+1:=by omega
  unfold IsItemIter;rw[e];simpa[rawInt]using f
 have v:Shared.TypeIs ⟨p,g,P,N,os⟩ (.ref it) "dict_itemiterator":=⟨_,f,J⟩
 refine aa (wpAny_holding (aa (wpAny_isOneOf_itemiter v (aa (wpAny_isOneOf_itemiter v ?_)))));unfold Builtin.Dict_items.pairFromOwner;refine aa (wpAny_newTuple ?_);have c:IsItemIter (p.push {cls:=.type "tuple",data:=.seq #[es[i].key,es[i].val]}) it d (i+1) es.size ep ok ov:=ak _ f;generalize n:p.push {cls:=.type "tuple",data:=.seq #[es[i].key,es[i].val]}=y at c;have h:=a.1;have R:=dw (aq (z));have D:y.get? K.objs.size=some {cls:=.type "tuple",data:=.seq #[es[i].key,es[i].val]}:=by rw[<-n,<-h];exact bi _ J
 have C:y.objs.size=K.objs.size+1:=by rw[<-n,f9,h]
 have G:∀b o,b≠it->K.get? b=some o->y.get? b=some o:=λb o B e=>by rw[<-n];exact ak _ (a.extBut b o B e)
 show wpAny _ _ (Builtin.Dict_items.ownedTupleIsFree (.ref it)>>=_) _ _ ⟨y,g,P,N,os⟩;rw[h];clear n f a v h p;refine aa ?_;unfold Builtin.Dict_items.ownedTupleIsFree;refine aa (wpAny_field c J J (ac ?_));simp only[if_true];refine aa (wpAny_field c J J (aa (wpAny_field c J J ?_)));refine aa (wpAny_setField_rec c (by simp) λX u m=>?_);replace u:=u;refine aa (wpAny_setField_rec u (by simp) λW t l=>?_);replace t:=t;refine aa (wpAny_setField_rec t (by simp) λU r k=>?_);replace r:=r;refine aa (wpAny_setField_rec r (by simp) λH q j=>?_);replace q:=q;replace m:=m;replace l:=l;replace k:=k;replace j:=j;have S:=λb o B e=>j.extBut b o B (k.extBut b o B (l.extBut b o B (m.extBut b o B e)));refine aa (wpAny_letGo (ac (ac ⟨_,J,ac (hQ H q (S _ _ R D) ?_ λb o B e=>S b o B (G b o B e))⟩)));rw[j.1,k.1,l.1,m.1,C]
theorem Af{Q:Option I->Shared->Prop}(f:A.handled=none)(a:IsItemIter s.heap it d i es.size ep ok ov)(x:jr s.heap d es ep)(e:es.size<=i)(h:∀h',Heap.ExtBut it s.heap h'->Q none {s with heap:=h'}):wpAny (model prog w) A (pyNext (.ref it)) Q E s:=by
 obtain⟨j,b,g,c⟩:=id x;have hT:s.TypeIs (.ref it) "dict_itemiterator":=⟨_,a,J⟩
 unfold pyNext;refine aa (wpAny_attempt (wpAny_callSpecial?_slot hT F.slot_dict_itemiterator_next (cy F.slot_dict_itemiterator_next hT F.entry_dict_itemiterator_next (aa (ac (aa (aa ?_)))) (F.args_dict_itemiterator_next_1 _))));first|refine aa (wpAny_typeNameOfWhole_itemiter hT (ac ?_))|refine aa (wpAny_typeNameOf_itemiter hT (ac ?_))
 refine aa (wpAny_fieldsOf a J ?_);simp only[show Builtin.Dict_items.ownsTuple "dict_itemiterator"=true by rfl,if_true];show wpAny _ _ (if(Value.ref d==Value.none)=true then _ else _) _ _ s;rw[if_neg (show¬((Value.ref d==Value.none)=true)from cn)];refine aa (ac (aa (wpAny_dictEntries b c ?_)));rw[if_neg (by simp)];refine aa (ac (aa (wpAny_dictEpoch b c ?_)));rw[if_neg (by simp)];refine ac ?_;simp only[(by omega),if_false,cz,Array.getElem?_eq_none e];refine aa ?_;first|refine aa (wpAny_typeNameOfWhole_itemiter hT (ac ?_))|refine aa (wpAny_typeNameOf_itemiter hT (ac ?_))
 show wpAny _ _ (setField (.ref it) 2 .none>>=_) _ _ s;refine aa (wpAny_setField a J (by simp) ?_);refine aa ?_;simp only[newExc,newTuple];refine aa (dg (aa (wpAny_of_eq (by rfl) (dg ?_ (by size_fits)))) (by size_fits));simp only[raiseNew];refine aa (wpAny_handled ?_);rw[(f)];refine aa (ac (wpAny_throw ?_));refine aa (fb ⟨_,bi _ J,J⟩ isSubtype_stop ?_);exact ac (h _ (((Heap.SameBut.update ..).extBut.push _).push _))
theorem Bq(a:IsItemIter s.heap it d i es.size ep ok ov)(h:Q (.ref it) s):wpAny (model prog w) A (pyIter (.ref it)) Q E s:=kcp_self a h
end
section
variable{o:Expr}{dC aW cK:Pos}{k1:_}
end
inductive ir(P:Program)(w:World)(H:Hp)(d:Addr)(o:Obj)(kvs:List (xv×V)):Prop|mk:∀xs:List kj,H d=some (.frz o (.ext (W9 P w d xs)))->(d==sysModules)=false->kvs.length<=sizeLine->(xs.map (·.1)).Nodup->KN H kvs xs->ir P w H d o kvs
theorem ir.same{f:Hp}{d:Y}(n:ir P w H d o kvs)(s:Same H f):ir P w f d o kvs:=by obtain⟨g,e,a,b,c,r⟩:=n;exact⟨g,s _ _ e,a,b,c,Paired.mapP r λ_ _ z=>⟨z.1,z.2.1.mono s,z.2.2⟩⟩
section
variable{s:Shared}{d:Addr}
theorem Inv.nofrzE(I:Inv X pins σ H s)(e:H d=some (.ext φ)):∀o v,X.H₀ d≠some (.frz o v):=λo v q=>by have z:=I.base.frzs d o v q;rw[e]at z;cases z
theorem Inv.freezeE(I:Inv X pins σ H s)(e:H d=some (.ext φ)):∃o,Inv X pins σ (upd H d (.frz o (.ext φ))) s:=by have ok:=I.hok d _ e;obtain⟨o,a⟩:=ok.2.1;exact⟨o,I.retag e (λ_ z=>by cases z) (λ_ z=>by cases z) (λ_ z=>by cases z) (I.nofrzE e) ⟨a,ok⟩⟩
end
inductive jE(P:Program)(w:World)(ts:TS)(D:Ends)(σ:St)(H:Hp):Prop|mk:∀d kvs,cJ P w H d kvs->(∀o u,H d=some u->ir P w (upd H d (.frz o u)) d o kvs->ts (Al d o u D) σ (upd H d (.frz o u)))->jE P w ts D σ H
theorem uu{st:Stmt}{t:TS}(h:PS X st t):PS X st (jE X.prog X.w t):=by intro j s u H D I B;obtain⟨d,A,n,q⟩:=B;obtain⟨w,e,a,b,c,r⟩:=n;obtain⟨o,C⟩:=I.freezeE e;have l:=I.nofrzE e;have y:=q o _ e ⟨w,ze,a,b,c,r.tups (qj.upd e (λzs z=>by cases z))⟩;refine aF (h j s u _ _ C y) λf E m=>?_;cases f with|next=>obtain⟨g,p,J,i,k⟩:=m;exact⟨g,_,J.thaw i l,k⟩|brk=>obtain⟨g,p,J,i,k⟩:=m;exact⟨g,_,J.thaw i l,k⟩|cont=>obtain⟨g,p,J,i,k⟩:=m;exact⟨g,_,J.thaw i l,k⟩|ret v=>obtain⟨x,g,p,J,r,i,k⟩:=m;exact⟨x,g,_,J.thaw i l,r,k⟩
noncomputable def og(P:Program)(w:World)(d:Addr)(o:Obj)(kvs:List (xv×V)):It:=⟨λi H=>ir P w H d o kvs/\i<kvs.length,λi H v H'=>∃p b B,v=.ref p/\H p=none/\kvs[i]?=some B/\Is H (tN B.1) (.ref b)/\H'=upd H p (.tup [.ref b,B.2]),λi H=>ir P w H d o kvs/\kvs.length<=i⟩
theorem pN{d:Y}(E:aZ P w H h)(n:ir P w H d o kvs):(d==sysModules)=false/\h.get? d=some o/\o.ExactDict/\∃es ep,o.data=.dict es ep/\es.size=kvs.length/\∀i t,kvs[i]?=some t->∃(hi:i<es.size)(b:Y),es[i].key=.ref b/\Is H (tN t.1) (.ref b)/\yu t.2 es[i].val:=by
 obtain⟨u,e,L,_,_,f⟩:=n;obtain⟨D,⟨M,es,ep,A,x,k,C⟩,_⟩:=E d _ e;rw[D]at A;cases A;have G:=Paired.length f;have K:=size_of_entries C;refine⟨L,D,x,es,ep,k,by omega,λi t B=>?_⟩;have hi:i<kvs.length:=(c7.mp B).1;have j:i<es.size:=by omega
 have g:u[i]?=some u[i]:=ao (by omega);have v:∀{l:O (xv×V)}{m:O kj},KN H l m->∀{i:Nat}{p q},l[i]?=some p->m[i]?=some q->Is H (tN p.1) (.ref q.2.1)/\yu p.2 q.2.2:=by intro l m r;induction r with|nil=>intro i p q s _;simp at s| cons a _ F=>intro i p q s y;cases i with|zero=>simp at s y;subst s y;exact a.2|succ i=>exact F (by simpa using s) (by simpa using y)
 have z:=v f B g;have c:=entry_at C i;rw[g,ge j]at c;have c:=Option.some.inj c;exact⟨j,u[i].2.1,by rw[c];rfl,z.1,by rw[c];exact z.2⟩
theorem F4 {K:Frag} {k1} (d l:Y) (o:Obj) (kvs:O (xv×V)) (es:Array DictEntry) (ep:Nat) (t:o.data=.dict es ep):dD P w K (.Tuple cQ k1 pos) (og P w d o kvs) [l] l (λi h=>∃ok ov,IsItemIter h l d i es.size ep ok ov) where
 mem:=by simp
 obj:=λi h st b L=>by obtain⟨ok,ov,st⟩:=st;rw[bc.mp L];exact⟨_,st,λv q=>by have q':Data.fields _=Data.cell v:=q;cases q'⟩
 keep:=λi h h' ⟨ok,ov,st⟩ k=>⟨ok,ov,k l (by simp) _ st⟩
 item:=by
  intro X hP U hK p i x s σ H E I hf st hg;subst hP U hK;obtain⟨hH,hi⟩:=hg;obtain⟨ok,ov,st⟩:=st;obtain⟨hd,h0,A,ah,am,a,W,D⟩:=pN I.hok hH;rw[t]at a;cases a;obtain⟨af,b,F,L,rv⟩:=D i kvs[i] (ao hi);obtain⟨S,R,f2,f3,f4,f5⟩:=hf l (by simp);refine BZ st ⟨o,h0,A,t⟩ af λg gi gT gz gk=>?_;refine⟨.ref s.heap.objs.size,J,wpAny_letOwnedTupleGo_items (s:={s with heap:=g}) gi λN ag u=>?_⟩;replace u:Heap.SameBut l g N:=u;have j:H s.heap.objs.size=none:=I.hok.fresh (aj _);have C:s.heap.objs.size≠l:=dw (aq st);have f:∀c o,c≠l->s.heap.get? c=some o->N.get? c=some o:=λc o n e=>u.extBut c o n (gk c o n e);have M:N.get? s.heap.objs.size=some {cls:=.type "tuple",data:=.seq #[es[i].key,es[i].val]}:=u.extBut _ _ C gT;have y:∀c o,H c=some o->c≠l:=λc o e z=>by rw[z,S]at e;cases e
  have I1:Inv X x σ (upd H s.heap.objs.size (.tup [.ref b,kvs[i].2])) {s with heap:=N,toks:=s.toks}:=by
   refine I.step (g':=s.gens) (d':=s.drawn) (ch:=[l]) (λc p=>by rw[bc.mp p];exact⟨f3,R,f4,f5⟩) (λc o n1 n2 B e _=>f c o (λz=>B (by simp[z])) e)
    (λc o n1 n2 B e _=>⟨o.slots,f c o (λz=>B (by simp[z])) e⟩) (λc o B e n=>by rw[zi (bh (aq e))];exact n) (λc o B e=>⟨o,f c o (λz=>B (by simp[z])) e⟩)
    (λc zs e=>by rw[zi (zj e j)];exact e) (λc o zs e=>by rw[zi (zj e j)];exact e) (λc ps e=>⟨#[],by rw[zi (zj e j),e];simp⟩) (λm hm=>?_) (λc ob e=>?_) I.bare
   . obtain⟨o,es,ep,Z,r⟩:=hm;exact⟨o,es,ep,f _ o (al R) Z,r⟩
   . by_cases G:c=s.heap.objs.size
     . subst G;rw[ze]at e;cases e;exact⟨by show 2<=sizeLine;rw[sizeLine_eq];omega,[es[i].key,es[i].val],.cons F (.cons rv .nil),⟨_,M,J,_,J⟩,λq Q=>by have Q:N.get? s.heap.objs.size=some q:=Q;rw[M]at Q;cases Q;rfl⟩
     . rw[zi G]at e;refine(I.hok c ob e).stay (λd o p q=>?_) (λd q=>by rw[zi (zj q j)];exact q) λd zs q=>by rw[zi (zj q j)];exact q
       rcases p with rfl|p
       . exact f d o (y d _ e) q
       . exact f d o (y d _ p) q
  exact⟨.ref s.heap.objs.size,_,I1,J,⟨_,b,_,J,j,ao hi,L,J⟩,⟨_,_,ag⟩,λc p=>by rw[bc.mp p,zi (al C)];exact S⟩
 done:=by intro X hP U hK p i x s σ H E I hf st hg;subst hP U hK;obtain⟨hH,hi⟩:=hg;obtain⟨ok,ov,st⟩:=st;obtain⟨hd,h0,A,ah,am,a,W,_⟩:=pN I.hok hH;rw[t]at a;cases a;obtain⟨S,R,f2,f3,f4,f5⟩:=hf l (by simp);exact Af (I.ok.hd p) st ⟨o,h0,A,t⟩ (by omega) λh' eb=>⟨J,I.turned (t':=s.toks) (λb o L e=>eb b o L e) S R f3 f4 f5⟩
 self:=λ_ _ _ _ _ ⟨ok,ov,st⟩ h=>Bq st h
section
variable{o:Expr}{dC aW cK:Pos}{k1:_}
inductive eB(P:Program)(w:World)(R:It->Hp->Prop)(x:V)(H1:Hp):Prop|mk:∀d ob kvs,x=.ref d->ir P w H1 d ob kvs->R (og P w d ob kvs) H1->eB P w R x H1
def By(P:Program)(w:World)(to:TE):TI:=λσ H R=>to σ H λx H1=>eB P w R x H1
theorem Kf{to:TE}(C:PE X o to)(i:attributeBase o "items" X.env (eval o X.env)=eval o X.env:=by rfl)(g:(dC.endLine==aW.line)=true:=by rfl):PI X (.Tuple cQ k1 cK) (.Call (.Attribute o "items" dC) [] [] aW) (By X.prog X.w to):=by
 intro j s y H R I h;refine wpAny_Call_method0_late i g (aF (C j s y H _ I h) λv c ⟨x,K,m,z,d,n,p,F,D,q⟩=>?_);subst F;cases z;obtain⟨B,w,l,r,t,f,A,_⟩:=pN m.hok D;have u:jr c.heap d r t:=⟨n,w,l,f⟩
 refine⟨"dict","dict.items",PySem.F.plainAttrs_dict,PySem.F.slot_dict_items,PySem.F.type_dict_items,u.ty,λa e=>?_,Calls.callWith_builtin J (PySem.evalArgs_none (Br B u ?_))⟩
 . cases e;exact⟨n,w,l.2.1⟩
 refine Bp (s:={c with heap:=c.heap.push {cls:=.type "dict_items",data:=.fields #[.ref d]}}) ⟨_,bi _ J,J,J⟩ (u.at λo e=>ak _ e) ?_;have G:=m.kept (t':=c.toks) (h':=(c.heap.push {cls:=.type "dict_items",data:=.fields #[.ref d]}).push {cls:=.type "dict_itemiterator",data:=.fields #[.none,.bool false,.ref d,.int 0 0,.int r.size 0,.int t 0,.none,.none]}) λb o e=>ak _ (ak _ e);have k:c.heap.objs.size<=(c.heap.push {cls:=.type "dict_items",data:=.fields #[.ref d]}).objs.size:=by rw[f9];omega
 refine⟨_,[(c.heap.push {cls:=.type "dict_items",data:=.fields #[.ref d]}).objs.size],_,_,K,J,G,F4 d _ n p r t f,⟨_,_,bi _ J⟩,λb E=>?_,q⟩;rw[bc.mp E];exact m.fpOk k (m.hok.fresh k)
end
theorem Je{d:Y}{g:TG}{j:TS}{D:Ends}(Pv:Nat->St->Hp->Prop)(z:Pv 0 σ H)(r:∀i σ H,i<=kvs.length->Pv i σ H->ir P w H d o kvs)(hs:∀i a σ H,kvs[i]?=some a->Pv i σ H->∀p b,H p=none->Is H (tN a.1) (.ref b)->g (.ref p) σ (upd H p (.tup [.ref b,a.2])) λf H2=>j (D.lp (Pv (i+1))) f H2) (u:∀σ H,Pv kvs.length σ H->D.nx σ H):
  dE g j D σ (og P w d o kvs) H:=by
 refine⟨λi m σ H=>m=kvs.length-i/\i<=kvs.length/\Pv i σ H,⟨kvs.length,by simp,cm _,z⟩,?_⟩;rintro i m σ H ⟨rfl,t,p⟩;have q:=r i σ H t p;by_cases c:i<kvs.length
 . refine .inr ⟨⟨q,c⟩,Pv (i+1),λk A n=>⟨kvs.length-(i+1),by omega,J,c,n⟩,λx A y=>?_⟩;obtain⟨l,b,a,rfl,h,s,v,rfl⟩:=y;exact hs i a σ _ s p l b h v
 . have e:i=kvs.length:=by omega
   subst e;exact .inl ⟨⟨q,aj _⟩,u σ H p⟩
section
variable{s:Shared}
theorem EJ{m e:Obj}{o nb:Nat}{x y:Int}{t u:Tok}{P:PySem.Fin->Shared->Prop}(g:s.heap.get? a=some m)(j:m.data=.seq #[.int x t] o)(c:s.heap.get? b=some e)(k:e.cls=.type "tuple")(i:e.data=.seq #[.int y u] nb)(n:x≠y) (h:P (.done (.ret (.bool (decide (x<y))))) s):wpAny (model prog w) A (Builtin.«tuple.__lt__» ⟨[.ref a,.ref b],[]⟩) P E s:=by
 have l:s.TypeIs (.ref b) "tuple":=⟨_,c,k⟩
 show wpAny _ _ (isInstance (.ref b) (.type "tuple")>>=_) _ _ s;refine aa (fb l isSubtype_tuple_tuple ?_);simp only[Bool.not_true,Bool.false_eq_true,if_false];refine aa (wpAny_tupleItemsOf g j ?_);refine aa (wpAny_tupleItemsOf c i ?_);refine aa ?_;refine wpAny_forIn_list _ (λvx r d=>vx=[(Value.int x t,Value.int y u)]/\r.1=none/\d=s) _ ?_ ?_ _ _ ⟨J,J,J⟩
 . rintro⟨p,q⟩ vx r d ⟨f,v,rfl⟩;cases f;refine aa (wpAny_eqBool_int ?_);rw[show(x==y)=false from by simp[n]];simp only[Bool.not_false,if_true];refine aa (wpAny_rule (aa (lt_int ?_)));exact aa (ac (ac (ac h)))
 . rintro r d ⟨f,_⟩;cases f
theorem BM{j i:Obj}{n nb:Nat}{x y:Int}{t u:Tok}(o:A.units<cLine)(c:s.heap.get? a=some j)(g:j.cls=.type "tuple")(l:j.data=.seq #[.int x t] n)(d:s.heap.get? b=some i)(f:i.cls=.type "tuple")(k:i.data=.seq #[.int y u] nb)(m:x≠y) (h:Q (.bool (decide (x<y))) s):wpAny (model prog w) A (compareOp .Lt (.ref a) (.ref b)) Q E s:=
 show wpAny (model prog w) A (richCompare .Lt (.ref a) (.ref b)) Q E s from
 wpAny_richCompare_same_room (op:=.Lt) (⟨_,c,g⟩:s.TypeIs (.ref a) "tuple") (⟨_,d,f⟩:s.TypeIs (.ref b) "tuple") F.slot_tuple_lt (cy F.slot_tuple_lt (⟨_,c,g⟩:s.TypeIs (.ref a) "tuple") F.entry_tuple_lt (EJ c l d f k m ⟨_,J,(λe=>nomatch e),h⟩) (F.args_tuple_lt_2 _ _)) o
inductive jA(h:Heap)(v:Value)(j:Int):Prop|mk:∀a o n b c ob oc nb nc t,v=.ref a->h.get? a=some o->o.cls=.type "tuple"->o.data=.seq #[.ref b,.ref c] n->h.get? b=some ob->ob.cls=.type "tuple"->ob.data=.seq #[.int j t] nb->h.get? c=some oc->oc.cls=.type "tuple"->oc.data=.seq #[] nc->jA h v j
theorem jA.keep{h':Heap}{v:I}{j:Int}(t:jA h v j)(k:∀b o,h.get? b=some o->h'.get? b=some o):jA h' v j:=by obtain⟨a,o,n,b,c,f,d,i,g,t,e,x,w,u,s,r,q,p,m,l⟩:=t;exact⟨a,o,n,b,c,f,d,i,g,t,e,k _ _ x,w,u,k _ _ s,r,q,k _ _ p,m,l⟩
theorem Jb{h:Heap}:∀{js:List Int}{vs:List Value},Paired (λj v=>jA h v j) js vs->∃fs,KatTups h vs fs/\fs.length=vs.length/\∀f∈fs,∃b d,f=Value.ref b/\h.get? b=some d/\d.cls=.type "tuple"
 |_,_,.nil=>⟨[],trivial,J,λf g=>by cases g⟩
 | _,_,.cons r t=>by
   obtain⟨fs,k,l,g⟩:=Jb t;obtain⟨a,o,n,b,c,d,w,y,x,u,rfl,s,q,p,m,i,_⟩:=r;refine⟨.ref b::fs,KatTups.cons s q p J k,by rw[cu,cu,l],λf e=>?_⟩;rcases ai.mp e with rfl|e
   . exact⟨b,d,J,m,i⟩
   . exact g f e
theorem CB(P:Paired (λj v=>jA h v j) js vs)(M:2<=vs.length):lE (λA=>A.units<cLine) prog w h vs (tuples' false) (λi j=>decide (js.getD i 0<js.getD j 0)):=by
 have g:∀i,i<vs.length->jA h (vs.getD i Value.none) (js.getD i 0):=by clear M;induction P with|nil=>intro i f;simp at f| cons r t ih=>intro i f;cases i with|zero=>exact r|succ i=>exact ih i (by simpa using f)
 constructor
 . intro A _ s E Q k q;have P':Paired (λj v=>jA s.heap v j) js vs:=Paired.mapP P λj v r=>r.keep k;obtain⟨fs,kt,l,f⟩:=Jb P';refine kat_kind (T:=.type "tuple") kt (by omega) (λv hv=>?_) (by rfl) q;obtain⟨b,u,rfl,ho,hc⟩:=f v hv;have:=(show Looks (model prog w) s.heap (typeOf (.ref b)) u.cls from(Looks.ld ho).andThen .now)
   rw[hc]at this;exact this
 . intro i j f hj A F s E Q k q;obtain⟨a,o,n,b,c,u,S,W,U,t,e,h1,M,h3,L,K,G,h7,h8,h9⟩:=(g i f).keep k;obtain⟨a',o',n',b',c',p,m,C,B,t',e',g1,g2,g3,R,N,H,g7,g8,g9⟩:=(g j hj).keep k;rw[e,e'];refine kat_lt h1 h3 g1 g3 ?_;generalize js.getD i 0=x at G q;generalize js.getD j 0=y at H q;have Z:IsTupleKey (intKind prog w) s.heap [x] b:=⟨u,_,W,L,K,G,.cons (by show((_:Int)==_)=true;simp) .nil⟩
   have X:IsTupleKey (intKind prog w) s.heap [y] b':=⟨p,_,C,R,N,H,.cons (by show((_:Int)==_)=true;simp) .nil⟩
   have kc:IsTupleKey (intKind prog w) s.heap [] c:=⟨S,_,U,h7,h8,h9,.nil⟩
   have D:IsTupleKey (intKind prog w) s.heap [] c':=⟨m,_,B,g7,g8,g9,.nil⟩
   refine kat_cons (wpAny_eqBool_tuple F Z X ?_);by_cases d:x=y
   . subst d;rw[aw J];refine kat_yes (kat_cons (wpAny_eqBool_tuple F kc D ?_));rw[aw J];refine kat_yes (kat_nil ?_);rw[bp (Int.lt_irrefl x)]at q;exact q
   . rw[bp (λz=>d (List.cons.inj z).1)];exact kat_no (kat_one _ _ (BM F L K G R N H d q))
end
theorem CC(e:gs.Nodup):Ord gs.length (λi j=>decide (gs.getD i 0<gs.getD j 0)) where
 irr:=λi=>bp (Int.lt_irrefl _)
 tr:=λi j k g f=>aw (Int.lt_trans (bw g) (bw f))
 tot:=λi j d a b=>by
  have:gs.getD i 0≠gs.getD j 0:=λz=>by
   rw[ar,ar,ao d,ao a]at z;have z:gs[i]=gs[j]:=z;rcases Nat.lt_or_gt_of_ne b with c|c
   . exact(fk.mp e) i j d a c z
   . exact(fk.mp e) j i a d c z.symm
  rcases Int.lt_or_gt_of_ne this with c|c
  . exact .inl (aw c)
  . exact .inr (aw c)
noncomputable def eV(j:Int):T:=.tup [.tup [.int j],.tup []]
inductive gG(K:W.Frag)(as:List V)(H:Hp)(Q:VK):Prop|mk:∀(p:Addr)(js:List Int)(xs:List V),as=[.ref p]->aE K H p xs->IsL H (js.map eV) xs->js.length<64->js.Nodup->(∀(js':List Int)(xs':List V)(l:Addr),js'.Perm js->js'.Pairwise (λg g'=>g<g')->IsL H (js'.map eV) xs'->H l=none->Q (.ref l) (upd H l (.lst xs')))->gG K as H Q
section
theorem IsL.stI{f:List (Addr×Obj)}{p:St}{H:Hp}{s:Shared}(I:Inv X f p H s):∀{gs:List Int}{xs:List V}{us:List Value},IsL H (gs.map eV) xs->yl xs us->Paired (λj v=>jA s.heap v j) gs us| [],xs,us,h,r=>by cases(h);cases r;exact .nil| g ::gs,xs,us,h,r=>by obtain⟨v,vs,rfl,h1,h2⟩:=h;cases r with| cons A z=>refine .cons ?_ (IsL.stI I h2 z);obtain⟨a,zs,rfl,ha,vb,rb,rfl,W,vc,y,rfl,U,Z⟩:=h1;cases(show y=[]from Z);cases(A);obtain⟨b,xb,rfl,hb,u,x,rfl,S,m⟩:=W;cases(show x=[]from m);cases(show u=.int g from S);obtain⟨c,q,rfl,hc,l⟩:=U;cases(show q=[]from l);obtain⟨P,w,⟨o,e,c1,n,d⟩,_⟩:=I.tuple (aD.of ha);obtain⟨R,k,⟨L,eb,cb,N,db⟩,_⟩:=I.tuple (aD.of hb);obtain⟨Q,i,⟨K,ec,cc,M,dc⟩,_⟩:=I.tuple (aD.of hc);cases w with| cons G F=>cases F with| cons E D=>cases D;cases G;cases E;cases k with|cons C B=>cases B;obtain⟨t,rfl⟩:=C;cases i;exact⟨a,o,n,b,c,L,K,N,M,t,J,e,c1,d,eb,cb,db,ec,cc,dc⟩
theorem Fq(z:X.A.units+2<cLine):jt X (.builtin "sorted") (gG X.K):=by
 intro G s σ H as us Q I r h;obtain⟨p,a,y,rfl,P,m,U,N,q⟩:=h;obtain⟨u,rfl,K⟩:=jx r;cases(show u=Value.ref p from K);obtain⟨d,B,L,hz⟩:=I.list P;have hl:=B.length;have D:=m.length;rw[ae]at D;have PP:=IsL.stI I m B;have O:=CC N;refine EH L.isList (by omega) (λW=>CB (prog:=X.prog) (w:=X.w) PP W) ?_ z;obtain⟨f,l,w,v⟩:∃f:List Nat,f.Perm (List.range a.length)/\qk (λi j=>decide (a.getD i 0<a.getD j 0)) d=f.map (λi=>d.getD i Value.none)/\(f.map λi=>a.getD i 0).Pairwise (λg Z=>g<Z):=by
  unfold qk;by_cases c:d.length<2
  . rw[if_pos c];refine⟨List.range a.length,List.Perm.refl _,?_,?_⟩
    . have e:a.length=d.length:=by omega
      rw[e];exact(jc d Value.none).symm
    . rw[jc];have e:a.length<2:=by omega
      match a,e with|[],_=>exact List.Pairwise.nil|[_],_=>exact List.pairwise_singleton _ _
  . rw[if_neg c];have e:d.length=a.length:=by omega
    rw[e];have C:=(pZ (n:=a.length) (lt:=λi j=>decide (a.getD i 0<a.getD j 0)) (by omega)).2;have z:=Cg O (by omega);generalize zr (λi j=>decide (a.getD i 0<a.getD j 0)) (kas_sort a.length)=n at C z;refine⟨n.toList,C,J,?_⟩;rw[List.pairwise_map,fk];intro i j m E F;have hs:=C.size;have:=z i j F (by rw[Array.length_toList]at E;omega);have e1:n.getD i 0=n.toList[i]:=by
     have:i<n.size:=by rw[Array.length_toList]at m;exact m
     simp[Array.getD,this]
    have e2:n.getD j 0=n.toList[j]:=by
     have:j<n.size:=by rw[Array.length_toList]at E;exact E
     simp[Array.getD,this]
    rw[e1,e2]at this;exact bw this
 rw[w];have k:∀i∈f,i<a.length:=λi h=>de.mp (l.mem_iff.mp h);have A:yl (f.map λi=>y.getD i .non) (f.map λi=>d.getD i Value.none):=FK (γ:=Unit) B f λi h=>by have:=k i h;omega
 have x:=sY m (dt:=T.non) (dx:=V.non) f λi h=>by have:=k i h;omega
 have et:(f.map λi=>(a.map eV).getD i T.non)=(f.map λi=>a.getD i 0).map eV:=by rw[eq];refine List.map_congr_left λi m=>?_;have:=k i m;show(a.map eV).getD i T.non=eV (a.getD i 0);rw[ar,ar,ba,ao this];rfl
 rw[et]at x;obtain⟨e,S⟩:=sortedAll_at s.heap d (f.map λi=>d.getD i Value.none).toArray;have t:(f.map λi=>y.getD i V.non).length=a.length:=by rw[ae,l.length_eq,da]
 have M:(f.map λi=>a.getD i 0).Perm a:=(List.Perm.map (λi=>a.getD i 0) l).trans (List.Perm.of_eq (jc a 0));exact⟨.ref (s.heap.objs.size+1),upd H (s.heap.objs.size+1) (.lst (f.map λi=>y.getD i V.non)),I.laid (t':=s.toks) (λb o R=>sortedAll_old R) (Nat.le_succ _) (show wk X.prog X.w _ _ _ (.lst (f.map λi=>y.getD i V.non))from⟨by rw[t];exact yb (by omega),_,e,A,S⟩),J,q _ _ _ M v x (I.hok.fresh (Nat.le_succ _))⟩
end
end L2
namespace My
open PySem PySem.Spec PyProof.Rows L2
variable{a:Addr}{X:Cx}{e:Expr}{base:Heap}{H H':Hp}{i j:Int}{σ:L2.St}{es:List Expr}{ns:List Int}{cap:List Nat}{ps:List Str}{ts:List T}{us:List Value}{k:Nat}{pos:Pos}{P:Program}{sp:Sp}{x:Str}{mg:Str->Option Value}{v:V}{w:World}
noncomputable def top(i:Nat):Stmt:=Challenge.pw_meetwall_k64_no_loose_ones_and_three_tho.main.body.getD i (.Pass ⟨0,0,0,0⟩)
noncomputable abbrev Xg:Stmt:=top 14
noncomputable abbrev Yi:Stmt:=top 15
noncomputable abbrev qz:Stmt:=top 16
theorem oX:bootBuiltins "isinstance"=some (.builtin "isinstance"):=by decide+kernel
theorem yi:bootBuiltins "len"=some (.builtin "len"):=by decide+kernel
theorem Zg:bootBuiltins "all"=some (.builtin "all"):=by decide+kernel
theorem nj:bootBuiltins "int"=some (.type "int"):=by decide+kernel
theorem BS:bootBuiltins "bool"=some (.type "bool"):=by decide+kernel
theorem so:bootBuiltins "str"=some (.type "str"):=by decide+kernel
theorem wj:bootBuiltins "tuple"=some (.type "tuple"):=by decide+kernel
theorem BT:bootBuiltins "dict"=some (.type "dict"):=by decide+kernel
theorem jg:bootBuiltins "list"=some (.type "list"):=by decide+kernel
def Ok(P:Program)(w:World)(K:W.Frag)(mg:Str->Option Value)(base:Heap)(x:Str)(k:Nat)(ps:List Str)(sp:Sp):Prop:=∃f fd,cD P w K mg base hJ k f fd ps sp/\Ww K fd ps []/\W.keepIn K (.ref f)=true/\mg x=some (.ref f)
theorem wH(h:us.length=1):∃a,us=[a]:=by match us,h with|[a],_=>exact⟨a,J⟩
theorem wG(h:us.length=2):∃a b,us=[a,b]:=by match us,h with|[a,b],_=>exact⟨a,b,J⟩
theorem GC(h:us.length=3):∃a b c,us=[a,b,c]:=by match us,h with|[a,b,c],_=>exact⟨a,b,c,J⟩
theorem GB(h:us.length=4):∃a b c d,us=[a,b,c,d]:=by match us,h with|[a,b,c,d],_=>exact⟨a,b,c,d,J⟩
@[elab_as_elim] theorem GJ{P:O I->Prop}(h:us.length=1)(k:∀a,P [a]):P us:=by obtain⟨a,rfl⟩:=wH h;exact k a
@[elab_as_elim] theorem GI{P:O I->Prop}(h:us.length=2)(k:∀a b,P [a,b]):P us:=by obtain⟨a,b,rfl⟩:=wG h;exact k a b
@[elab_as_elim] theorem GG{P:O I->Prop}(h:us.length=3)(k:∀a b c,P [a,b,c]):P us:=by obtain⟨a,b,c,rfl⟩:=GC h;exact k a b c
@[elab_as_elim] theorem GF{P:O I->Prop}(h:us.length=4)(k:∀a b c d,P [a,b,c,d]):P us:=by obtain⟨a,b,c,d,rfl⟩:=GB h;exact k a b c d
theorem zy{p:Pos}{t:TA}(h:Ok X.prog X.w X.K X.mg X.base x k ps sp)(b:aO k X.A)(j:PA X (e::es) t)(g:Gl X x:=by rfl)
  (a:(x==("__debug__":Str))=false:=by decide) (he:starEach (e::es) X.env=(false,eval e X.env)::starEach es X.env:=by rfl) (hpl:(backTo pos (starEach es X.env)).any (·.1)=false:=by rfl):
  PE X (.Call (.Name x p) (e::es) [] pos) (ma sp [] E0 t):=by obtain⟨f,l,F,i,d,c⟩:=h;exact tP F b g c d i .nil rK j a he hpl
def aR(K:W.Frag)(mg:Str->Option Value)(x:Str)(st:Stmt):Prop:=∃f fd,gY K x x st f fd/\mg x=some (.ref f)
theorem y0(h:∃t,X.mg x=some (.int i t))(a:Gl X x:=by rfl)(b:(x==("__debug__":Str))=false:=by decide):PE X (.Name x pos) (tC (.int i)):=by obtain⟨t,h⟩:=h;exact uo a h ⟨t,J⟩ b
structure Txt(K:W.Frag)(mg:Str->Option Value):Prop where
 MOST_LETTERS:∃t,mg "MOST_LETTERS"=some (.int 8 t)
 BOXES:∃t,mg "BOXES"=some (.int 0 t)
 SCRIPTS:∃t,mg "SCRIPTS"=some (.int 1 t)
 PLACES:∃t,mg "PLACES"=some (.int 0 t)
 NUMBERS:∃t,mg "NUMBERS"=some (.int 1 t)
 MOST_BOXES:∃t,mg "MOST_BOXES"=some (.int 6 t)
 MOST_SCRIPTS:∃t,mg "MOST_SCRIPTS"=some (.int 4 t)
 MOST_DEEDS:∃t,mg "MOST_DEEDS"=some (.int 30 t)
 MOST_NUMBER:∃t,mg "MOST_NUMBER"=some (.int 9 t)
 MOST_PHASES:∃t,mg "MOST_PHASES"=some (.int 15 t)
 MOST_STANDS:∃t,mg "MOST_STANDS"=some (.int 3000 t)
 isi:mg "isinstance"=none
 int:mg "int"=none
 bool:mg "bool"=none
 str:mg "str"=none
 tuple:mg "tuple"=none
 list:mg "list"=none
 len:mg "len"=none
 all:mg "all"=none
 sum:mg "sum"=none
 range:mg "range"=none
 enumerate:mg "enumerate"=none
 sorted:mg "sorted"=none
 min:mg "min"=none
 any:mg "any"=none
 zip:mg "zip"=none
 max:mg "max"=none
 dict:mg "dict"=none
 set:mg "set"=none
inductive dG(A:T->Prop)(f:T->Bool)(vs:List V)(H:Hp)(Q:VK)(e0:XK):Prop|mk:∀t v,vs=[v]->Is H t v->A t->(∀H',Same H H'->Q (.bl (f t)) H')->dG A f vs H Q e0
section
variable{te:TE}{p1 p2:Pos}
theorem jv{n:Str}{T:String}(h:X.mg "isinstance"=none)(g:X.mg n=none)(f:bootBuiltins n=some (.type T))(he:PE X e te)(g1:Gl X "isinstance":=by rfl)(g2:Gl X n:=by rfl)(c:n≠"__name__":=by decide)(d:(n==("__debug__":Str))=false:=by decide)
  (hs:starEach [e,.Name n p2] X.env=(false,eval e X.env)::starEach [.Name n p2] X.env:=by rfl) (b:(backTo pos (starEach [.Name n p2] X.env)).any (·.1)=false:=by rfl) (a:starEach [.Name n p2] X.env=(false,eval (.Name n p2) X.env)::starEach [] X.env:=by rfl):
  PE X (.Call (.Name "isinstance" p1) [e,.Name n p2] [] pos) (lL (iU X.K) (Ya te (Ya (tC (.ty T)) iG))):=
 zo CZ g1 h oX (za he (za (tO g2 g f J c d) zb a) hs) (he:=hs) (hpl:=b)
end
noncomputable def nE:T->Bool|.int _=>true|_=>false
section
variable{K:W.Frag}
theorem Gy:aB ["thing"] ["thing"] (zh Xg):=.of
theorem FV(D:aR K mg "is_whole" Xg)(T:Txt K mg):Ok P w K mg base "is_whole" 1 ["thing"] (dG (λ_=>True) nE):=by
 obtain⟨f,j,F,g⟩:=D;refine⟨f,j,?_,F.binds λ_ _ _ _ _ _ m i=>(by obtain⟨_,rfl⟩:=wH i;rfl),F.kp,g⟩;refine F.ok Gy (λd H Q E h=>?_) (λl A a s H d Q E n h=>?_)
 . obtain⟨t,v,rfl,_⟩:=h;rfl
 . obtain⟨t,v,rfl,b,_,k⟩:=h;refine⟨_,zf (zk (jb (jv T.isi T.int nj (aA 0)) (qc (pF (jv T.isi T.bool BS (aA 0)))))),?_⟩;refine⟨_,J,v,"int",_,_,J,b.ty,BB K t,_,J,?_⟩;refine ye (λc=>?_) (λc=>?_)
   . refine⟨_,J,v,"bool",_,_,J,b.ty,Ds K t,_,J,?_⟩;have e:(!wL t)=nE t:=by cases t<;>first|rfl|(exact absurd c (by simp[rw]))
     rw[e];exact k H (Same.refl H)
   . have e:false=nE t:=by cases t<;>first|rfl|(exact absurd J c)
     rw[e];exact k H (Same.refl H)
end
noncomputable def yh(t:T)(lo B:Int):Bool:=match t with|.int i=>decide (lo<=i) && decide (i<=B)|_=>false
noncomputable def wx(t:T)(lo B:Int):Bool:=match t with|.tup ts=>decide (lo<=(ts.length:Int)) && decide ((ts.length:Int)<=B)|_=>false
theorem Is.at{K:W.Frag}{i:Nat}{t:T}(h:Is H (.tup ts) v)(e:ts[i]?=some t):∃a xs u,v=.ref a/\aD K H a xs/\bS xs ((i:Nat):Int)=some u/\Is H t u:=by obtain⟨a,xs,rfl,c,b⟩:=h;obtain⟨u,f,d⟩:=b.get e;exact⟨a,xs,u,J,aD.of c,yq f,d⟩
inductive eF(vs:List V)(H:Hp)(Q:VK)(e0:XK):Prop|mk:∀t v lo hi,vs=[v,.int lo,.int hi]->Is H t v->(∀H',Same H H'->Q (.bl (yh t lo hi)) H')->eF vs H Q e0
inductive fJ(vs:List V)(H:Hp)(Q:VK)(e0:XK):Prop|mk:∀t v lo hi,vs=[v,.int lo,.int hi]->Is H t v->(∀H',Same H H'->Q (.bl (wx t lo hi)) H')->fJ vs H Q e0
section
variable{K:W.Frag}
theorem wu{st:Stmt}{N:O Str}(D:aR K mg x st)(S:aB N ps (zh st))(c:∀(f:Y)(b:I)(A:Around)(a:O Env)(s:Shared)(H:Hp)(vs:O V)(Q:VK)(E:XK),aO k (A.deeper (envOfC x (zh st) s.heap.objs.size f b))->sp vs H Q E-> let X:=(Yp hJ P w K mg base N x (zh st) f b A a s H E).nox;∃t,dR X (yg st) t/\t (.of Q) (start N vs) H) (d:∀vs H Q E,sp vs H Q E->vs.length=ps.length:=by intro _ _ _ _ h;cases h;subst_vars;rfl) (j:autoParam (∀(kV e pm:I)(n:Option Y)(b m:I)(us:O I),us.length=ps.length->bindArgs (W.fnOf x x (jf st) (yg st) (zh st) .none kV e pm n b m) ⟨us,[]⟩=pure (ps.zip us)) wQ._auto_1):Ok P w K mg base x (k+1) ps sp:=by obtain⟨f,l,F,i⟩:=D;exact⟨f,l,F.ok S d (λb A a s H vs Q E g h=>c f b A a s H vs Q E g h),F.binds j,F.kp,i⟩
theorem EE:aB ["thing","least","most"] ["thing","least","most"] (zh Yi):=.of
theorem F9(D:aR K mg "is_within" Yi)(T:Txt K mg)(l:Ok P w K mg base "is_whole" 1 ["thing"] (dG (λ_=>True) nE)):Ok P w K mg base "is_within" 2 ["thing","least","most"] eF:=by
 refine wu D EE λf n A e s H o Q E m h=>?_;intro X;obtain⟨t,v,lo,g,rfl,j,k⟩:=h;refine⟨_,zf (zk (jb (zy l m (za (aA 0) zb)) (qc (Qx Qz Qz (aA 1) (aA 0) (aA 2))))),?_⟩;refine⟨_,J,t,v,J,j,trivial,λb d=>⟨_,J,?_⟩⟩;cases t with
 | int i=>
   cases(show v=.int i from j);refine xu ?_;refine⟨_,J,_,J,lo,i,J,J,_,J,?_⟩;by_cases c:lo<=i
   . rw[aw c];refine xu ⟨_,J,i,g,J,J,?_⟩;have a:Q (.bl (decide (lo<=i) && decide (i<=g))) b:=k b d;rw[aw c,bn]at a;exact a
   . rw[bp c];refine yr ?_;have a:Q (.bl (decide (lo<=i) && decide (i<=g))) b:=k b d;rw[bp c,cp]at a;exact a
 |_=>exact yr (k b d)
theorem yX:aB ["thing","least","most"] ["thing","least","most"] (zh qz):=.of
theorem Xl(D:aR K mg "is_tuple_within" qz)(T:Txt K mg):Ok P w K mg base "is_tuple_within" 1 ["thing","least","most"] fJ:=by
 refine wu D yX λf o A d s H p Q E q h=>?_;intro X;obtain⟨t,v,lo,l,rfl,j,k⟩:=h;refine⟨_,zf (zk (jb (jv T.isi T.tuple wj (aA 0)) (qc (Qx Qz Qz (aA 1) (zo zn J T.len yi (za (aA 0) zb)) (aA 2))))),?_⟩;refine⟨_,J,v,"tuple",_,_,J,j.ty,Kn K t,_,J,?_⟩;cases t with
 | tup i=>
   refine xu ?_;obtain⟨a,g,rfl,n,m⟩:=j;have e:=m.length;refine⟨_,J,_,J,a,g,J,.inr (aD.of n),lo,_,J,J,_,J,?_⟩;have b:Q (.bl (decide (lo<=(i.length:Int)) && decide ((i.length:Int)<=l))) H:=k H (Same.refl H);rw[<-e]at b;by_cases c:lo<=(g.length:Int)
   . rw[aw c];rw[aw c,bn]at b;exact xu ⟨_,J,_,l,J,J,b⟩
   . rw[bp c];rw[bp c,cp]at b;exact yr b
 |_=>exact yr (k H (Same.refl H))
end
noncomputable abbrev pR:Stmt:=top 62
noncomputable abbrev pH:Stmt:=top 63
inductive kK(vs:List V)(H:Hp)(Q:VK)(e0:XK):Prop|mk:∀c p:Int,vs=[.int c,.int p]->0<=p->(∀r,0<=r->Q (.int r) H)->kK vs H Q e0
def aG(a:Addr)(H B:Hp):Prop:=∀b o,b≠a->H b=some o->B b=some o
theorem aG.refl(a:Y)(H:Hp):aG a H H:=λ_ _ _ e=>e
theorem aG.trans{d c:Hp}(x:aG a H d)(y:aG a d c):aG a H c:=λb o n e=>y b o n (x b o n e)
theorem _root_.L2.Same.but(s:Same H H'):aG a H H':=λb o _ e=>s b o e
theorem aG.upd{a:Y}{H:Hp}{o:HO}:aG a H (upd H a o):=λb u n e=>by rw[zi n];exact e
theorem aG.seq{K:W.Frag}{s:Y}{xs:O V}(x:aG a H H')(n:s≠a)(h:aE K H s xs):aE K H' s xs:=by
 rcases h with(h|⟨o,h⟩)|h
 . exact .inl (.inl (x _ _ n h))
 . exact .inl (.inr ⟨o,x _ _ n h⟩)
 . exact .inr h
structure aI(K:W.Frag)(H:Hp)(a s:Addr)(ns:List Int):Prop where
 at':∃p r:Int,H a=some (.lst [.ref s,.int p,.int r])/\0<=p/\0<=r
 seq:aE K H s (ns.map V.int)
 ne:s≠a
 len:ns.length<=63
theorem aI.same{K:W.Frag}{s:Y}(t:aI K H a s ns)(h:Same H H'):aI K H' a s ns:=by obtain⟨⟨p,r,e,c,b⟩,q,n,l⟩:=t;exact⟨⟨p,r,h _ _ e,c,b⟩,h.seq q,n,l⟩
theorem aI.tups{K:W.Frag}{s:Y}(t:aI K H a s ns)(b:aG a H H'):qj H H':=λc f e=>by obtain⟨⟨p,r,d,_⟩,_⟩:=t;exact b c _ (Zl e d (by intro z;cases z)) e
theorem Ed(d:0<j)(h:j<2^70):j.natAbs.log2<9000:=by
 have b:j.natAbs<2^70:=by omega
 have a:j.natAbs≠0:=by omega
 have c:j.natAbs.log2<70:=(Nat.log2_lt a).mpr b;omega
theorem DL:aY X (binaryOp .FloorDiv) (rI (λ_ j=>0<j/\j<2^70) λi j=>.int (i/j)):=nM λi j _ _ _ _ _ a q=>by have b:(0:Int)<j:=a.1;exact floordiv_int (by omega) (by rw[Int.fdiv_eq_ediv_of_nonneg i (by omega)];exact q) (.inl (PyProof.noPylong_of_log2 (Ed a.1 a.2)))
inductive dB(K:W.Frag)(vs:List V)(H:Hp)(Q:VK)(e0:XK):Prop|mk:∀(a s:Addr)(ns:List Int)(many:Int),vs=[.ref a,.int many]->aI K H a s ns->0<many->many<2^70->(∀d H',0<=d->d<many->aG a H H'->aI K H' a s ns->Q (.int d) H')->dB K vs H Q e0
section
variable{K:W.Frag}
theorem lS(h: -(2^64)<j/\j<2^64):lQ i j:=.inr h
theorem Ju(h: -(2^64)<i/\i<2^64):lQ i j:=.inl h
theorem vX:aB ["cell","place","one","two","more"] ["cell","place"] (zh pR):=.of
theorem Df(D:aR K mg "_law_e_mixed" pR):Ok P w K mg base "_law_e_mixed" 1 ["cell","place"] kK:=by
 refine wu D vX λf o A e s H r Q E t h=>?_;intro X;obtain⟨c,p,rfl,u,k⟩:=h;have g:=vX.nd;refine⟨_,zd (yd (zp mX (aA 0) (zx pD zc zc) (zm _)) (zf (zk (aA 0))) zt) (zd (ya (i:=2) g (zx ke (zx yv (zx yv (zx qe (zx ke (aA 0) zc) zc) (zx qe (aA 1) zc)) zc) zc)) (zd (ya (i:=3) g (zx ke (zx yv (zx yv (zx yv (zx qe (aA 2) (aA 2)) (zx qe zc (aA 2))) (zx qe zc (aA 1))) zc) zc)) (zd (ya (i:=4) g (zx ke (zx yv (zx yv (zx qe (aA 3) (aA 3)) (zx qe zc (aA 1))) (aA 2)) zc)) (zf (zk (zx yv (zx qe (aA 3) zc) (aA 4))))))),?_⟩
 refine⟨_,J,10,18,J,J,⟨by decide,by decide,by decide⟩,_,_,J,J,_,J,?_⟩;refine ye (λd=>?_) (λ_=>?_)
 . have d:=bw d;refine⟨_,J,k c ?_⟩;have:(0:Int)<=(10:Int)^(18:Int).toNat:=by decide
   omega
 . refine⟨_,J,_,_,J,J,(by show(0:Int)<1000000009;decide),_,_,J,J,lS (by decide),_,J,_,_,J,J,lS (by decide),_,_,J,J,_,_,J,J,_,_,J,J,(by show(0:Int)<1999999973;decide),?_⟩;have n:=fv (c%1000000009*75353+p*4099+17) (show(1999999973:Int)≠0 by decide);have m:=gc (c%1000000009*75353+p*4099+17) (show(0:Int)<1999999973 by decide);generalize (c%1000000009*75353+p*4099+17)%1999999973=a at n m⊢;refine⟨_,J,_,J,_,_,J,J,Ju (by omega),_,J,_,_,J,J,Ju (by decide),_,_,J,J,_,J,_,_,J,J,Ju (by decide),_,_,J,J,_,_,J,J,_,_,J,J,(by show(0:Int)<2147483549;decide),?_⟩;have l:=fv (a*a+8191*a+3*p+1) (show(2147483549:Int)≠0 by decide);have j:=gc (a*a+8191*a+3*p+1) (show(0:Int)<2147483549 by decide);generalize (a*a+8191*a+3*p+1)%2147483549=b at l j⊢;refine⟨_,J,_,J,_,_,J,J,Ju (by omega),_,J,_,_,J,J,Ju (by decide),_,_,J,J,_,J,_,_,J,J,_,_,J,J,(by show(0:Int)<2147483497;decide),?_⟩;have i:=fv (b*b+127*p+a) (show(2147483497:Int)≠0 by decide);generalize (b*b+127*p+a)%2147483497=q at i⊢;exact⟨_,J,_,_,J,J,lS (by decide),_,J,_,_,J,J,k _ (by omega)⟩
theorem ux:aB ["deck","many","place","cell","picked"] ["deck","many"] (zh pH):=.of
theorem Cw (D:aR K mg "_law_e_pick" pH) (T:Txt K mg) (F:Ok P w K mg base "_law_e_mixed" 1 ["cell","place"] kK):Ok P w K mg base "_law_e_pick" 2 ["deck","many"] (dB K):=by
 refine wu D ux λf N A x S H R Q E G h=>?_;obtain⟨a,s,c,C,rfl,hT,b,j,k⟩:=h;obtain⟨p,r,d,i,y⟩:=hT.at';have o:=ux.nd;refine⟨_,zd (yd (zp Qy (zl yk (aA 0) zc) (aA 1) (zm _)) (zd (ya (i:=2) o (zl yk (aA 0) zc)) (zd (ya (i:=3) o (zx qe zc (aA 2))) (zd (yd (zp Qy (aA 2) (zo zn (by rfl) T.len yi (za (zl yk (aA 0) zc) zb)) (zm _)) (zf (ya (i:=3) o (zl yk (zl yk (aA 0) zc) (aA 2))))
    (zf (yd (zp We (zo zn (by rfl) T.len yi (za (zl yk (aA 0) zc) zb)) zc (zm _)) (zf (ya (i:=3) o (zx yv (zx ke (zl yk (zl yk (aA 0) zc) (zx ke (zx qe (aA 2) zc) (zo zn (by rfl) T.len yi (za (zl yk (aA 0) zc) zb)))) zc) (zx qe (aA 2) zc)))) zt)))
   (zd (jj (zx yv (aA 2) zc) (Zx (aA 0) zc vy)) (zf (jj (zy F G (za (aA 3) (za (aA 2) zb))) (Zx (aA 0) zc vy))))))) zt)
  (zd (ya (i:=4) o (zx ke (zl yk (aA 0) zc) (aA 1))) (zd (jj (zx DL (zl yk (aA 0) zc) (aA 1)) (Zx (aA 0) zc vy)) (zf (zk (aA 4))))),?_⟩
 refine⟨_,J,a,_,_,_,J,J,aE.of d,J,_,J,_,_,J,J,_,J,?_⟩;refine ye (λ_=>?_) (λ_=>?_)
 . have u:(c.map V.int).length=c.length:=ae _;refine⟨_,J,a,_,_,_,J,J,aE.of d,J,_,J,_,_,J,J,Ju (by decide),?_⟩;refine⟨_,J,_,J,a,_,_,_,J,J,aE.of d,J,s,_,J,.inl hT.seq,_,_,J,J,_,J,?_⟩;refine ye (λv=>?_) (λv=>?_)
   . have v:=bw v;rw[u]at v;have z:p.toNat<c.length:=by omega
     have B:p=((p.toNat:Nat):Int):=by omega
     have n:bS (c.map V.int) p=some (.int c[p.toNat]):=by have q:bS (c.map V.int) ((p.toNat:Nat):Int)=some (.int c[p.toNat]):=yq (by rw[ba,ao z];rfl);rw[<-B]at q;exact q
     refine⟨_,J,a,_,_,_,J,J,aE.of d,J,_,J,s,_,_,_,J,J,hT.seq,n,?_⟩;refine⟨_,J,_,_,J,J,_,J,a,_,_,_,J,J,d,J,?_⟩;refine⟨_,J,_,J,_,p,J,i,λl e=>⟨_,J,a,_,_,_,J,J,ze,J,?_⟩⟩;have g:(upd (upd H a (.lst (([.ref s,.int p,.int r]:O V).set 1 (.int (p+1))))) a (.lst ((([.ref s,.int p,.int r]:O V).set 1 (.int (p+1))).set 2 (.int l)))) a=some (.lst [.ref s,.int (p+1),.int l]):=ze;refine⟨_,J,a,_,_,_,J,J,aE.of g,J,_,J,_,_,J,J,b,?_⟩;refine⟨_,J,a,_,_,_,J,J,aE.of g,J,_,J,_,_,J,J,⟨b,j⟩,_,J,a,_,_,_,J,J,g,J,?_⟩;refine⟨_,J,k _ _ (fv _ (by omega)) (gc _ b) ((aG.refl a H).trans (aG.upd.trans (aG.upd.trans aG.upd))) ⟨⟨_,_,ze,(by omega),Int.ediv_nonneg e (by omega)⟩,aG.seq ((aG.refl a H).trans (aG.upd.trans (aG.upd.trans aG.upd))) hT.ne hT.seq,hT.ne,hT.len⟩⟩
   . refine⟨_,J,a,_,_,_,J,J,aE.of d,J,s,_,J,.inl hT.seq,_,_,J,J,_,J,?_⟩;refine ye (λt=>?_) (λt=>?_)
     . have t:=bw t;rw[u]at t;have m:(0:Int)<(c.length:Int):=t;have M:=fv (p*11) (show(c.length:Int)≠0 by omega);have L:=gc (p*11) m;have z:(p*11%(c.length:Int)).toNat<c.length:=by omega
       have B:p*11%(c.length:Int)=(((p*11%(c.length:Int)).toNat:Nat):Int):=by omega
       have n:bS (c.map V.int) (p*11%(c.length:Int))=some (.int c[(p*11%(c.length:Int)).toNat]):=by have q:bS (c.map V.int) (((p*11%(c.length:Int)).toNat:Nat):Int)=some (.int c[(p*11%(c.length:Int)).toNat]):=yq (by rw[ba,ao z];rfl);rw[<-B]at q;exact q
       refine⟨_,J,a,_,_,_,J,J,aE.of d,J,_,J,_,_,J,J,lS (by decide),_,J,a,_,_,_,J,J,aE.of d,J,s,_,J,.inl hT.seq,_,_,J,J,?_,s,_,_,_,J,J,hT.seq,(by rw[u];exact n),_,_,J,J,(by show(0:Int)<999999937;decide),_,J,_,_,J,J,lS (by decide),_,_,J,J,?_⟩
       . show(0:Int)<(((c.map V.int).length:Nat):Int);rw[u];exact m
       refine⟨_,J,_,_,J,J,_,J,a,_,_,_,J,J,d,J,?_⟩;refine⟨_,J,_,J,_,p,J,i,λl e=>⟨_,J,a,_,_,_,J,J,ze,J,?_⟩⟩;have g:(upd (upd H a (.lst (([.ref s,.int p,.int r]:O V).set 1 (.int (p+1))))) a (.lst ((([.ref s,.int p,.int r]:O V).set 1 (.int (p+1))).set 2 (.int l)))) a=some (.lst [.ref s,.int (p+1),.int l]):=ze;refine⟨_,J,a,_,_,_,J,J,aE.of g,J,_,J,_,_,J,J,b,?_⟩;refine⟨_,J,a,_,_,_,J,J,aE.of g,J,_,J,_,_,J,J,⟨b,j⟩,_,J,a,_,_,_,J,J,g,J,?_⟩;refine⟨_,J,k _ _ (fv _ (by omega)) (gc _ b) ((aG.refl a H).trans (aG.upd.trans (aG.upd.trans aG.upd))) ⟨⟨_,_,ze,(by omega),Int.ediv_nonneg e (by omega)⟩,aG.seq ((aG.refl a H).trans (aG.upd.trans (aG.upd.trans aG.upd))) hT.ne hT.seq,hT.ne,hT.len⟩⟩
     . skip
       refine⟨_,J,_,_,J,J,_,J,a,_,_,_,J,J,d,J,?_⟩;refine⟨_,J,_,J,_,p,J,i,λl e=>⟨_,J,a,_,_,_,J,J,ze,J,?_⟩⟩;have g:(upd (upd H a (.lst (([.ref s,.int p,.int r]:O V).set 1 (.int (p+1))))) a (.lst ((([.ref s,.int p,.int r]:O V).set 1 (.int (p+1))).set 2 (.int l)))) a=some (.lst [.ref s,.int (p+1),.int l]):=ze;refine⟨_,J,a,_,_,_,J,J,aE.of g,J,_,J,_,_,J,J,b,?_⟩;refine⟨_,J,a,_,_,_,J,J,aE.of g,J,_,J,_,_,J,J,⟨b,j⟩,_,J,a,_,_,_,J,J,g,J,?_⟩;refine⟨_,J,k _ _ (fv _ (by omega)) (gc _ b) ((aG.refl a H).trans (aG.upd.trans (aG.upd.trans aG.upd))) ⟨⟨_,_,ze,(by omega),Int.ediv_nonneg e (by omega)⟩,aG.seq ((aG.refl a H).trans (aG.upd.trans (aG.upd.trans aG.upd))) hT.ne hT.seq,hT.ne,hT.len⟩⟩
 . refine⟨_,J,a,_,_,_,J,J,aE.of d,J,_,J,_,_,J,J,b,?_⟩;refine⟨_,J,a,_,_,_,J,J,aE.of d,J,_,J,_,_,J,J,⟨b,j⟩,_,J,a,_,_,_,J,J,d,J,?_⟩;refine⟨_,J,k _ _ (fv _ (by omega)) (gc _ b) aG.upd ⟨⟨_,_,ze,i,Int.ediv_nonneg y (by omega)⟩,aG.seq aG.upd hT.ne hT.seq,hT.ne,hT.len⟩⟩
end
theorem yo{own:O Str}{a:Scope}(b:Scope)(c:X.env.scope=b)(h:a.kind=.function)(g:∀x∈a.names,x.2=.free->b.names.lookup x.1=some .cell\/b.names.lookup x.1=some .free)(f:∀x∈a.names,x.2≠ .cell) (e:∀x∈a.names,x.2=.local->a.names.lookup x.1=some .local) (d:K3 X a cap):aN X own cap a:=by subst c;exact⟨h,g,f,e,d⟩
theorem ko{i:Nat}{A B:L2.St->Hp->Prop}(h:A (σ.set i (some v)) H):v9 i v σ H (λa H2=>oB a H2 λb c=>if b=true then A a c else B a c):=by
 show if true=true then A (σ.set i (some v)) H else B (σ.set i (some v)) H
 exact xu h
theorem wr{o:Option NameKind}(h:o=some .cell):o≠some .local:=λz=>by rw[h]at z;cases z
theorem aI.at2{K:W.Frag}{s:Y}(t:aI K H a s ns)(b:aG a H H')(h:∃p r:Int,H' a=some (.lst [.ref s,.int p,.int r])/\0<=p/\0<=r):aI K H' a s ns:=⟨h,b.seq t.ne t.seq,t.ne,t.len⟩
def jB(H:Hp)(a s:Addr):Prop:=∃p r:Int,H a=some (.lst [.ref s,.int p,.int r])/\0<=p/\0<=r
theorem jz{t:TS}{D:Ends}(R:L2.St->Hp->Prop)(a:∀σ' H',R σ' H'->D.nx σ' H')(g:(∀σ' H',R σ' H'->D.nx σ' H')->t D σ H):t D σ H:=g a
noncomputable abbrev j6:Stmt:=top 17
noncomputable abbrev W5:Stmt:=top 18
noncomputable def Xa(c:Nat):Bool:= !decide ((⟨#[c]⟩:Str).cps.toList<("a":Str).cps.toList) && !decide (("z":Str).cps.toList<(⟨#[c]⟩:Str).cps.toList)
noncomputable def mV(t:T):Bool:=match t with|.str x=>decide ((1:Int)<=(x.length:Int)) && decide ((x.length:Int)<=8) && x.cps.toList.all Xa|_=>false
def Wl(t:T):Prop:=∀x,t=.str x->x.length<=sizeLine
section
variable{K:W.Frag}
noncomputable def uQ(t:T):Bool:=match t with|.str x=>decide ((1:Int)<=(x.length:Int)) && x.cps.toList.all Xa|_=>false
theorem FB:aB ["thing"] ["thing"] (zh j6):=.of
theorem Jp (D:aR K mg "is_letters" j6) (T:Txt K mg):Ok P w K mg base "is_letters" 1 ["thing"] (dG Wl uQ):=by
 refine wu D FB λf u A l s H y Q E B h=>?_;intro X;obtain⟨t,v,rfl,n,m,k⟩:=h;refine⟨_,zd (yd (PW.pt (w5 (xz (yz (jv T.isi T.str so (aA 0)))) (ww (zp y4 (zo Wr (by rfl) T.len yi (za (aA 0) zb)) zc (zm _))))) (zf (zk xg)) zt) (zf (zk (zo (qi J) J T.all Zg (za (w6 (own:=["letter"]) (cap:=[]) J (yo (zh j6) J J (by decide+kernel) (by decide+kernel) (by decide+kernel) trivial) (AH (aA 0)) (λ_ _ _ _=>zw (i:=0) (by show(["letter"]:List Str).Nodup;decide+kernel)) (λ_ _ _ _=>yx) (λ_ _ _ _=>Qx Kh Kh zu (aA 0) zu)) zb)))),?_⟩
 refine⟨_,J,v,"str",_,_,J,n.ty,tw K t,_,J,?_⟩;cases t with
 | str x =>
   refine yr ?_;cases(show v=.str x from n);have j:∀b,Same H b->Q (.bl (decide ((1:Int)<=(x.length:Int)) && x.cps.toList.all Xa)) b:=k;refine⟨_,J,x,J,m x J,J,_,J,?_⟩;rw[pK];refine ye (λc=>?_) (λc=>?_)
   . have c:(x.length:Int)=0:=by simpa using c
     rw[bp (by omega),cp]at j;exact j H (Same.refl H)
   . have c:(1:Int)<=(x.length:Int):=by have:(x.length:Int)≠0:=λz=>c (by simpa using z);omega
     rw[aw c,bn]at j;refine⟨_,J,x,J,?_⟩;have o:x.cps.size<=sizeLine:=m x J;refine Ap (x:=x) (λi g b=>b=H/\g=(x.cps.toList.take i).map λc=>V.bl (Xa c)) ⟨J,J⟩ (λi g b C ⟨_,e⟩=>by rw[e,ae,bu];omega) ?_ ?_
     . rintro i c g b r ⟨rfl,rfl⟩;refine ko ?_;have a:(x.cps.toList.take (i+1)).map (λc=>V.bl (Xa c))=(x.cps.toList.take i).map (λc=>V.bl (Xa c))++[V.bl (Xa c)]:=by
        have:x.cps.toList[i]?=some c:=by rw[Array.getElem?_toList];exact r
        rw[dm,this,be];rfl
       refine⟨_,J,"a",_,J,J,_,J,?_⟩;refine ye (λd=>?_) (λd=>?_)
       . refine⟨_,"z",J,J,J,?_⟩;rw[a];congr 3;unfold Xa;rw[d,bn]
       . refine⟨J,?_⟩;rw[a];congr 3;unfold Xa;rw[Bool.eq_false_iff.mpr d,cp]
     . rintro g b ⟨rfl,rfl⟩ p q;refine⟨p,x.cps.toList.map Xa,J,aE.of ?_,?_⟩
       . rw[ze,eq];have e:x.cps.toList.take x.cps.size=x.cps.toList:=by rw[<-Array.length_toList,dl]
         rw[e];rfl
       . have e:(x.cps.toList.map Xa).all id=x.cps.toList.all Xa:=by rw[List.all_map];rfl
         rw[e];exact j _ (Same.new q _)
 |_=>exact xu (xu (k H (Same.refl H)))
theorem Ce:aB ["thing"] ["thing"] (zh W5):=.of
theorem Fk(D:aR K mg "is_word" W5)(T:Txt K mg)(m:Ok P w K mg base "is_letters" 1 ["thing"] (dG Wl uQ)):Ok P w K mg base "is_word" 2 ["thing"] (dG Wl mV):=by
 refine wu D Ce λf o A b s H p Q E n h=>?_;intro X;obtain⟨t,v,rfl,i,g,k⟩:=h;refine⟨_,zf (zk (jb (zy m n (za (aA 0) zb)) (qc (yy Qz (zo Wr (by rfl) T.len yi (za (aA 0) zb)) (y0 T.MOST_LETTERS) (zm _))))),?_⟩;refine⟨_,J,t,v,J,i,g,λc a=>⟨_,J,?_⟩⟩;cases t with
 | str x=>
   cases(show v=.str x from i);have d:∀l,Same H l->Q (.bl (decide ((1:Int)<=(x.length:Int)) && decide ((x.length:Int)<=8) && x.cps.toList.all Xa)) l:=k;show if(decide ((1:Int)<=(x.length:Int)) && x.cps.toList.all Xa)=true then _ else _
   cases j:(decide ((1:Int)<=(x.length:Int)) && x.cps.toList.all Xa)with
   | false=>
     refine yr ?_;have e:(decide ((1:Int)<=(x.length:Int)) && decide ((x.length:Int)<=8) && x.cps.toList.all Xa)=false:=by rw[Bool.and_right_comm,j,cp]
     have:=d c a;rw[e]at this;exact this
   | true=>refine xu ⟨_,J,x,J,g x J,_,8,J,J,?_⟩;have:=d c a;rw[Bool.and_right_comm,j,bn]at this;exact this
 |_=>exact yr (k c a)
end
noncomputable abbrev Zs:Stmt:=top 29
abbrev bE(x:Str)(y:Str):Bool:=decide (V.str x=V.str y)
noncomputable def g0(r:List T):T:=r.getD 0 .non
noncomputable def g1(r:List T):T:=r.getD 1 .non
noncomputable def g2(r:List T):T:=r.getD 2 .non
noncomputable def qH:T->Bool|.int i=>decide (i>0)|_=>false
noncomputable def Vs(x:Str)(r:List T)(b beh:Int):Bool:=
 if bE x "say"=true then decide (r.length=1) && mV (g0 r)
 else if r.length<2 then false
 else yh (g0 r) 0 (b-1) && (yh (g1 r) 0 9 && (if bE x "skip"=true then decide (r.length=3) && yh (g2 r) 1 beh else if bE x "raise"=true then decide (r.length=2) && qH (g1 r)
   else my (.str x) [.str "put",.str "same"] && decide (r.length=2)))
noncomputable def eA(t:T)(b beh:Int):Bool:=match t with|.tup (.str x::r)=>(decide (1<=r.length) && decide (r.length<=3)) && Vs x r b beh|_=>false
def Wd(t:T):Prop:=∀ts,t=.tup ts->∀u∈ts,Wl u
inductive kU(vs:List V)(H:Hp)(Q:VK)(e0:XK):Prop|mk:∀t v b beh,vs=[v,.int b,.int beh]->Is H t v->Wd t->(∀H',Same H H'->Q (.bl (eA t b beh)) H')->kU vs H Q e0
theorem xR:wx (.tup ts) 2 4=(decide (2<=ts.length) && decide (ts.length<=4)):=by show(decide ((2:Int)<=(ts.length:Int)) && decide ((ts.length:Int)<=4))=_;rw[Bool.eq_iff_iff];simp only[bj,decide_eq_true_eq];omega
section
variable{K:W.Frag}
theorem vW:aB ["thing","boxes","many_behind","word"] ["thing","boxes","many_behind"] (zh Zs):=.of
theorem Jo (D:aR K mg "is_loose_deed" Zs) (T:Txt K mg) (o1:Ok P w K mg base "is_tuple_within" 1 ["thing","least","most"] fJ) (o2:Ok P w K mg base "is_within" 2 ["thing","least","most"] eF)(o6:Ok P w K mg base "is_word" 2 ["thing"] (dG Wl mV)):Ok P w K mg base "is_loose_deed" 3 ["thing","boxes","many_behind"] kU:=by
 refine wu D vW λf bf A a3 s H vs Q E hr h=>?_;intro X;obtain⟨t,v,b,N,rfl,ht,hW,k⟩:=h;have r1:=hr.mono (show 1<=2 by decide);have nd:=vW.nd;refine⟨_,zd (yd (PW.pt (w5 (xz (yz (zy o1 r1 (za (aA 0) (za zc (za zc zb)))))) (ww (xz (yz (jv T.isi T.str so (zl zq (aA 0) zc))))))) (zf (zk xg)) zt) (zd (ya (i:=3) nd (zl zq (aA 0) zc)) (zd (yd (zp y4 (aA 3) zu (zm _)) (zf (zk (jb (yy y4 (zo zn (by rfl) T.len yi (za (aA 0) zb)) zc (zm _)) (qc (zy o6 hr (za (zl zq (aA 0) zc) zb)))))) zt) (zd (yd (PW.pt (w5 (zp Qy (zo zn (by rfl) T.len yi (za (aA 0) zb)) zc (zm _)) (w5 (xz (yz (zy o2 hr (za (zl zq (aA 0) zc) (za zc (za (zx jw (aA 1) zc) zb)))))) (ww (xz (yz (zy o2 hr (za (zl zq (aA 0) zc) (za zc (za (y0 T.MOST_NUMBER) zb)))))))))) (zf (zk xg)) zt) (zd (yd (zp y4 (aA 3) zu (zm _)) (zf (zk (jb (yy y4 (zo zn (by rfl) T.len yi (za (aA 0) zb)) zc (zm _)) (qc (zy o2 hr (za (zl zq (aA 0) zc) (za zc (za (aA 2) zb)))))))) zt) (zd (yd (zp y4 (aA 3) zu (zm _)) (zf (zk (jb (yy y4 (zo zn (by rfl) T.len yi (za (aA 0) zb)) zc (zm _)) (qc (yy We (zl zq (aA 0) zc) zc (zm _)))))) zt) (zf (zk (jb (yy Eu (aA 3) (qo (za zu (za zu zb))) J) (qc (yy y4 (zo zn (by rfl) T.len yi (za (aA 0) zb)) zc (zm _))))))))))),?_⟩
 refine⟨_,J,t,v,2,4,J,ht,λG s1=>⟨_,J,?_⟩⟩;cases t with
 | tup L=>
   rw[xR];by_cases hl:2<=L.length/\L.length<=4
   . have hb : (decide (2<=L.length) && decide (L.length<=4))=true:=by simpa using hl
     rw[hb];refine yr ?_;obtain⟨x0,r,rfl⟩:∃x0 r,L=x0::r:=by
      cases L with
      |nil=>simp at hl
      |cons a b=>exact⟨a,b,J⟩
     have a8:1<=r.length/\r.length<=3:=by simpa using hl
     have a7:(decide (1<=r.length) && decide (r.length<=3))=true:=by simpa using a8
     have Z:=ht.mono s1;obtain⟨a,xs,u0,rfl,sq,ea,am⟩:=Is.at (K:=K) (i:=0) Z J;refine⟨_,J,a,xs,_,u0,J,J,sq,ea,u0,"str",_,_,J,am.ty,tw K x0,_,J,?_⟩;cases x0 with
     | str x =>
       refine yr ?_;cases(show u0=.str x from am);have kk:∀M,Same G M->Q (.bl (Vs x r b N)) M:=λM s'=>by have q:Q (.bl ((decide (1<=r.length) && decide (r.length<=3)) && Vs x r b N)) M:=k M (s1.trans s');rw[a7,bn]at q;exact q
       have m:∀{M:Hp}(i:Nat),Same G M->i<r.length->∃B u,aD K M a B/\bS B ((i+1:Nat):Int)=some u/\Is M (r.getD i .non) u:=λ{M} i s' hi=>by
        have e:(L2.T.str x::r)[i+1]?=some (r.getD i .non):=by show r[i]?=_;rw[ar,ao hi];rfl
        obtain⟨a',B,u,e',U,ah,hu⟩:=Is.at (K:=K) (Z.mono s') e;cases e';exact⟨B,u,U,ah,hu⟩
       obtain⟨a1,y,q1,W,a4⟩:=id Z;cases q1;have bd:y.length=r.length+1:=by simpa using a4.length
       have o:∀n:Nat,decide (V.int (y.length:Int)=V.int ((n+1:Nat):Int))=decide (r.length=n):=λn=>by rw[Bool.eq_iff_iff,decide_eq_true_eq,decide_eq_true_eq];refine⟨λz=>?_,λz=>congrArg V.int (by omega)⟩;have:=V.int.inj z;omega
       refine⟨_,J,a,xs,_,_,J,J,sq,ea,?_⟩;refine⟨_,J,J,_,J,?_⟩;refine ye (λc=>?_) (λc=>?_)
       . have g:=kk;unfold Vs at g;rw[if_pos c]at g;refine⟨_,J,a,y,J,.inr (aD.of W),J,_,J,?_⟩;have e2:=o 1;refine ye (λd=>?_) (λd=>?_)
         . have d:decide (V.int (y.length:Int)=V.int ((1+1:Nat):Int))=true:=d;rw[e2]at d;rw[d,bn]at g;have h1:r.length=1:=bw d;obtain⟨B,u,U,ah,hu⟩:=m 0 (Same.refl G) (by omega);refine⟨_,J,a,B,_,u,J,J,U,ah,g0 r,u,J,hu,?_,λH3 s3=>g H3 s3⟩;refine hW _ J _ (ce _ ?_);unfold g0;rw[ar,ao (by omega:0<r.length)];exact List.getElem_mem _
         . have d:¬decide (V.int (y.length:Int)=V.int ((1+1:Nat):Int))=true:=d;rw[e2]at d;rw[Bool.eq_false_iff.mpr d,cp]at g;exact g G (Same.refl G)
       have g:=kk;unfold Vs at g;rw[if_neg c]at g;refine⟨_,J,a,y,J,.inr (aD.of W),_,_,J,J,_,J,?_⟩;refine ye (λd=>?_) (λd=>?_)
       . have d:=bw d;rw[if_pos (by omega)]at g;exact xu (g G (Same.refl G))
       have h2:2<=r.length:=by have:¬((y.length:Int)<3):=λz=>d (aw z);omega
       rw[if_neg (by omega)]at g;obtain⟨au,u1,ax,bb,a6⟩:=m 0 (Same.refl G) (by omega);refine⟨_,J,a,au,_,u1,J,J,ax,bb,_,J,_,_,J,J,g0 r,u1,0,b-1,J,a6,λH2 s2=>⟨_,J,?_⟩⟩;cases e1:yh (g0 r) 0 (b-1)with
       | false=>rw[e1]at g;exact xu (xu (g H2 s2))
       | true=>
         rw[e1,bn]at g;refine yr ?_;obtain⟨ap,u2,av,a9,a5⟩:=m 1 s2 (by omega);refine⟨_,J,a,ap,_,u2,J,J,av,a9,g1 r,u2,0,9,J,a5,λH3 s3=>⟨_,J,?_⟩⟩;have j:=s2.trans s3;cases e2:yh (g1 r) 0 9 with
         | false=>rw[e2]at g;exact xu (g H3 j)
         | true=>
           rw[e2,bn]at g;refine yr ?_;have F:=j _ _ W;refine⟨_,J,J,_,J,?_⟩;refine ye (λc2=>?_) (λc2=>?_)
           . rw[if_pos c2]at g;refine⟨_,J,a,y,J,.inr (aD.of F),J,_,J,?_⟩;have e3:=o 3;refine ye (λl=>?_) (λl=>?_)
             . have l:decide (V.int (y.length:Int)=V.int ((3+1:Nat):Int))=true:=l;rw[e3]at l;rw[l,bn]at g;have h3:r.length=3:=bw l;obtain⟨R,u3,S,ag,C⟩:=m 2 j (by omega);exact⟨_,J,a,R,_,u3,J,J,S,ag,_,J,g2 r,u3,1,N,J,C,λH4 s4=>g H4 (j.trans s4)⟩
             . have l:¬decide (V.int (y.length:Int)=V.int ((3+1:Nat):Int))=true:=l;rw[e3]at l;rw[Bool.eq_false_iff.mpr l,cp]at g;exact g H3 j
           rw[if_neg c2]at g;refine⟨_,J,J,_,J,?_⟩;have e3:=o 2;refine ye (λc3=>?_) (λc3=>?_)
           . rw [if_pos c3]at g;refine⟨_,J,a,y,J,.inr (aD.of F),J,_,J,?_⟩;refine ye (λl=>?_) (λl=>?_)
             . have l:decide (V.int (y.length:Int)=V.int ((2+1:Nat):Int))=true:=l;rw[e3]at l;rw[l,bn]at g;obtain⟨R,u3,S,ag,C⟩:=m 1 j (by omega);have C:Is H3 (g1 r) u3:=C;cases eg:g1 r with
               | int i=>rw[eg]at C g;cases(show u3=.int i from C);exact⟨_,J,a,R,_,_,J,J,S,ag,i,0,J,J,g H3 j⟩
               |_=>rw[eg]at e2;cases e2
             . have l:¬decide (V.int (y.length:Int)=V.int ((2+1:Nat):Int))=true:=l;rw[e3]at l;rw[Bool.eq_false_iff.mpr l,cp]at g;exact g H3 j
           rw[if_neg c3]at g;refine⟨_,J,bF,λp hp=>⟨p,_,J,.inr (aD.of ze),J,J,_,J,?_⟩⟩;have sp:=Same.new hp (.tup [.str "put",.str "same"]);refine ye (λc4=>?_) (λc4=>?_)
           . have c4:my (.str x) [.str "put",.str "same"]=true:=c4;rw[c4,bn]at g;refine⟨_,J,a,y,J,.inr (aD.of (sp _ _ F)),J,?_⟩;have q:=g _ (j.trans sp);rw[<-e3]at q;exact q
           . have c4:¬my (.str x) [.str "put",.str "same"]=true:=c4;rw[Bool.eq_false_iff.mpr c4,cp]at g;exact g _ (j.trans sp)
     | _=>refine xu ?_;exact k G s1
   . have hb:(decide (2<=L.length) && decide (L.length<=4))=false:=by rw[Bool.eq_false_iff];intro z;simp only[bj,decide_eq_true_eq]at z;exact hl z
     rw [hb];refine xu (xu ?_);have e:eA (.tup L) b N=false:=by
      unfold eA;split
      . rename_i x r af
        have af:L=.str x::r:=by injection af
        rw[af]at hl;have:(decide (1<=r.length) && decide (r.length<=3))=false:=by rw[Bool.eq_false_iff];intro z;simp only[bj,decide_eq_true_eq]at z;exact hl (by rw[cu];omega)
        rw[this,cp]
      . rfl
     have kk:=k G s1;rw[e]at kk;exact kk
 |_=>exact xu (xu (k G s1))
end
end My
namespace L2
open PySem PySem.Spec PyProof.Rows
variable{cap:List Nat}
section
variable{K:W.Frag}{a:Addr}{xs:List V}{g:TG}{tc:TT}{te:TE}{k:Nat}{σ:St}{H:Hp}{Q:VK}
theorem BG(Pv:Nat->O V->Hp->Prop)(v:Pv 0 [] H)(s:∀i ys H,i<=xs.length->Pv i ys H->aD K H a xs/\ys.length<=sizeLine)(hs:∀i x ys H p,xs[i]?=some x->Pv i ys H->H p=none->g (.ref p) (bG k cap σ) (upd H p (.tup [.int i,x])) λc H2=>tc c H2 λb j=>if b=true then te c j λy w=>Pv (i+1) (ys++[y]) w else Pv (i+1) ys j)
  (u:∀ys H,Pv xs.length ys H->∀p,H p=none->Q (.ref p) (upd H p (.lst ys))):cB (nY K a) g tc te k cap σ H Q:=by
 refine⟨λi m ys H=>m=xs.length-i/\i<=xs.length/\Pv i ys H,⟨xs.length,by simp,cm _,v⟩,?_⟩;rintro i m ys H ⟨rfl,t,p⟩;obtain⟨q,h⟩:=s i ys H t p;by_cases d:i<xs.length
 . refine .inr ⟨⟨xs,xs[i],q,by simp[d]⟩,h,Pv (i+1),λl z f=>⟨xs.length-(i+1),by omega,J,d,f⟩,λx z y=>?_⟩;obtain⟨f,n,rfl,r,rfl,o⟩:=y;exact hs i n ys H f (o xs q) p r
 . have e:i=xs.length:=by omega
   subst e;exact .inl ⟨⟨xs,q,aj _⟩,h,u ys H p⟩
end
section
variable{X:Cx}
end
end L2
namespace My
open PySem PySem.Spec PyProof.Rows L2
variable{base:Heap}{b beh bx i j n p:Int}{ss ts us:List T}{P:Program}{x:Str}{mg:Str->Option Value}{y:T}{w:World}
noncomputable abbrev qx:Stmt:=top 30
noncomputable abbrev Zt:Stmt:=top 31
theorem nO{c:L2.St}{H:Hp}{A B:Hp->Prop}(h:A H):oB c H (λb a=>if b=true then A a else B a):=by
 show if true=true then A H else B H
 exact xu h
noncomputable def kB(B:List T)(b:Int):Bool:=(List.range B.length).all λi=>eA (B.getD i .non) b ((B.length:Int)-(i:Int)-1)
noncomputable def rl(t:T)(b:Int):Bool:=match t with|.tup ts=>kB ts b|_=>false
noncomputable def fA(t:T)(b:Int):Bool:=wx t 0 30 && rl t b
noncomputable def oz(t:T)(b:Int):Bool:=match t with|.tup ss=>ss.all λs=>fA s b|_=>false
noncomputable def qJ:T->Int|.int i=>i|_=>0
noncomputable def xt(t:T):Bool:=match t with|.tup [b,s]=>yh b 0 6 && (wx s 1 4 && oz s (qJ b))|_=>false
def Ws(t:T):Prop:=∀ts,t=.tup ts->∀d∈ts,Wd d
def lN(t:T):Prop:=∀ts,t=.tup ts->∀d∈ts,Ws d
def Wh(t:T):Prop:=∀ts,t=.tup ts->∀d∈ts,lN d
inductive kT(vs:List V)(H:Hp)(Q:VK)(e0:XK):Prop|mk:∀t v b,vs=[v,.int b]->Is H t v->Ws t->(∀H',Same H H'->Q (.bl (fA t b)) H')->kT vs H Q e0
theorem xQ{t:T}(h:wx t 2 2=true):∃x y,t=.tup [x,y]:=by
 cases t with
 | tup a=>
   have h:(decide ((2:Int)<=(a.length:Int)) && decide ((a.length:Int)<=2))=true:=h;simp only[bj,decide_eq_true_eq]at h;have:a.length=2:=by omega
   match a,this with
   |[x,y],_=>exact⟨x,y,J⟩
 |_=>cases h
theorem ml{x:T}:wx (.tup [x,y]) 2 2=true:=by simp[wx]
def lW(K:W.Frag):List V->Hp->VK->Prop:=λxs H Q=>∃p ys,xs=[.ref p]/\(aE K H p ys\/aD K H p ys)/\Q (.int ys.length) H
section
variable{K:W.Frag}
theorem FC:aB ["thing","boxes"] ["thing","boxes"] (zh qx):=.of
theorem Vr(D:aR K mg "is_loose_script" qx)(T:Txt K mg)(o1:Ok P w K mg base "is_tuple_within" 1 ["thing","least","most"] fJ)(o2:Ok P w K mg base "is_loose_deed" 3 ["thing","boxes","many_behind"] kU):Ok P w K mg base "is_loose_script" 4 ["thing","boxes"] kT:=by
 refine wu D FC λf af A C s H vs Q E R h=>?_;intro X;obtain⟨t,v,b,rfl,N,hW,k⟩:=h;have r1:=R.mono (show 1<=3 by decide);have n:(["place","deed","boxes","thing"]:List Str).Nodup:=by decide+kernel
 refine⟨_,zd (yd (xz (yz (zy o1 r1 (za (aA 0) (za zc (za (y0 T.MOST_DEEDS) zb)))))) (zf (zk xg)) zt) (zf (zk (zo (qi J) J T.all Zg (za (w6 (own:=["place","deed"]) (cap:=[1,0]) (g:=fM K 2 (bR (v9 0) (bR (v9 1) lU))) J (yo (zh qx) J J (by decide+kernel) (by decide+kernel) (by decide+kernel) ⟨⟨_,J,.inl J,wr J⟩,⟨_,J,.inl J,wr J⟩,trivial⟩) (uq J T.enumerate (za (aA 0) zb)) (λ_ _ _ _=>ju J (yn (zw (i:=0) n) (yn (zw (i:=1) n) ql))) (λ_ _ _ _=>yx)
   (λ_ _ _ _=>zy o2 R (za (aA 1) (za (aA 2) (za (zx jw (zx jw (zo (r:=lW K) zn (by rfl) T.len yi (za (aA 3) zb)) (aA 0)) zc) zb))))) zb)))),?_⟩
 refine⟨_,J,t,v,0,30,J,N,λM B=>⟨_,J,?_⟩⟩;have y:∀l,Same H l->Q (.bl (wx t 0 30 && rl t b)) l:=k;cases c:wx t 0 30 with
 | false=>rw[c]at y;exact xu (y M B)
 | true=>
   rw[c,bn]at y;refine yr ?_;cases t with
   | tup g=>
     have S:g.length<=30:=by have c:(decide ((0:Int)<=(g.length:Int)) && decide ((g.length:Int)<=30))=true:=c;simp only[bj,decide_eq_true_eq]at c;omega
     obtain⟨a,z,rfl,L,U⟩:=N.mono B;have o:=U.length;refine⟨_,J,a,z,J,aD.of L,?_⟩;refine BG (xs:=z) (λi r l=>Same M l/\r=(List.range i).map λj=>V.bl (eA (g.getD j .non) b ((g.length:Int)-(j:Int)-1))) ⟨Same.refl M,J⟩ (λi r l hi ⟨m,e⟩=>⟨aD.of (m _ _ L),by rw[e,ae,da];exact yb (by omega)⟩) ?_ ?_
     . rintro i x r l p hx ⟨m,rfl⟩ G;obtain⟨d,W,F⟩:=U.get' hx;have u:=Same.new G (.tup [.int (i:Int),x]);have q:upd l p (.tup [.int (i:Int),x]) p=some (.tup [.int (i:Int),x]):=ze;generalize upd l p (.tup [.int (i:Int),x])=H3 at u q⊢;refine⟨p,_,J,aD.of q,J,_,_,J,_,_,J,J,?_⟩;refine nO ?_;have eg:g.getD i .non=d:=by rw[ar,W];rfl
       refine⟨_,J,_,J,_,J,a,z,J,.inr (aD.of (u _ _ (m _ _ L))),_,J,_,_,J,J,_,_,J,J,d,x,b,_,J,F.mono (m.trans u),hW g J d (br W),λH4 Z=>⟨m.trans (u.trans Z),?_⟩⟩;rw[List.range_succ,be,List.map_singleton,eg,o]
     . rintro r l ⟨m,rfl⟩ p G;refine⟨p,(List.range g.length).map λj=>eA (g.getD j .non) b ((g.length:Int)-(j:Int)-1),J,aE.of ?_,?_⟩
       . rw[ze,eq,o];rfl
       . have e:((List.range g.length).map λj=>eA (g.getD j .non) b ((g.length:Int)-(j:Int)-1)).all id=kB g b:=by rw[List.all_map];rfl
         rw[e];exact y _ (B.trans (m.trans (Same.new G _)))
   |_=>cases c
theorem FA:aB ["thing"] ["thing"] (zh Zt):=.of
theorem FU (D:aR K mg "is_loose" Zt) (T:Txt K mg) (o1:Ok P w K mg base "is_tuple_within" 1 ["thing","least","most"] fJ) (o2:Ok P w K mg base "is_within" 2 ["thing","least","most"] eF)(o3:Ok P w K mg base "is_loose_script" 4 ["thing","boxes"] kT):Ok P w K mg base "is_loose" 5 ["thing"] (dG Wh xt):=by
 refine wu D FA λf ah A W s H vs Q E hr h=>?_;intro X;obtain⟨t,v,rfl,r,hW,k⟩:=h;have r1:=hr.mono (show 1<=4 by decide);have r2:=hr.mono (show 2<=4 by decide);refine⟨_,zd (yd (PW.pt (w5 (xz (yz (zy o1 r1 (za (aA 0) (za zc (za zc zb)))))) (ww (xz (yz (zy o2 r2 (za (zl zq (aA 0) (y0 T.BOXES)) (za zc (za (y0 T.MOST_BOXES) zb))))))))) (zf (zk xg)) zt)
  (zd (yd (xz (yz (zy o1 r1 (za (zl zq (aA 0) (y0 T.SCRIPTS)) (za zc (za (y0 T.MOST_SCRIPTS) zb)))))) (zf (zk xg)) zt) (zf (zk (zo (qi J) J T.all Zg (za (w6 (own:=["script"]) (cap:=[0]) J (yo (zh Zt) J J (by decide+kernel) (by decide+kernel) (by decide+kernel) ⟨⟨_,J,.inl J,wr J⟩,trivial⟩) (Zc (zl zq (aA 0) (y0 T.SCRIPTS))) (λ_ _ _ _=>zw (i:=0) (by show(["script","thing"]:List Str).Nodup;decide+kernel)) (λ_ _ _ _=>yx)
   (λ_ _ _ _=>zy o3 hr (za (aA 0) (za (zl (r:=gM K) zq (aA 1) (y0 T.BOXES) (λ_ _=>rfl)) zb)))) zb))))),?_⟩
 refine⟨_,J,t,v,2,2,J,r,λH1 o=>⟨_,J,?_⟩⟩;cases c:wx t 2 2 with
 | false=>
   refine xu (xu ?_);have e:xt t=false:=by
    unfold xt;split
    . rw[ml]at c;cases c
    . rfl
   have j:=k H1 o;rw[e]at j;exact j
 | true =>
   obtain⟨x,y,rfl⟩:=xQ c;refine yr ?_;obtain⟨a,xs,u0,rfl,sq,e0,i0⟩:=Is.at (K:=K) (i:=0) (t:=x) (r.mono o) J;refine⟨_,J,a,xs,_,_,J,J,sq,e0,x,u0,0,6,J,i0,λH2 U=>⟨_,J,?_⟩⟩;have j:∀n,Same H n->Q (.bl (yh x 0 6 && (wx y 1 4 && oz y (qJ x)))) n:=k;cases c1:yh x 0 6 with
   | false=>rw[c1]at j;exact xu (j H2 (o.trans U))
   | true=>
     rw[c1,bn]at j;refine yr ?_;obtain⟨a',M,u1,B,S,e1,i1⟩:=Is.at (K:=K) (i:=1) (t:=y) (r.mono (o.trans U)) J;cases B;refine⟨_,J,a,M,_,_,J,J,S,e1,y,u1,1,4,J,i1,λH3 s3=>⟨_,J,?_⟩⟩;have l:=o.trans (U.trans s3);cases F:wx y 1 4 with
     | false=>rw[F]at j;exact xu (j H3 l)
     | true=>
       rw[F,bn]at j;refine yr ?_;obtain⟨b,rfl⟩:∃b,x=.int b:=by
        cases x with
        |int b=>exact⟨b,J⟩
        |_=>cases c1
       obtain⟨g,rfl⟩:∃g,y=.tup g:=by
        cases y with
        |tup g=>exact⟨g,J⟩
        |_=>cases F
       have ag:g.length<=4:=by have c:(decide ((1:Int)<=(g.length:Int)) && decide ((g.length:Int)<=4))=true:=F;simp only[bj,decide_eq_true_eq]at c;omega
       obtain⟨a',L,u3,B,R,e3,i3⟩:=Is.at (K:=K) (i:=1) (t:=.tup g) (r.mono l) J;cases B;obtain⟨as,zs,rfl,u,q⟩:=i3;have Z:=q.length;refine⟨_,J,a,L,_,_,J,J,R,e3,as,J,⟨zs,aD.of u⟩,?_⟩;refine Zf (xs:=zs) (λi C n=>Same H3 n/\C=(g.take i).map λd=>V.bl (fA d b)) ⟨Same.refl H3,J⟩ (λi C n hi ⟨m,e⟩=>⟨aD.of (m _ _ u),by rw[e,ae,bu];exact yb (by omega)⟩) ?_ ?_
       . rintro i z C n hx ⟨m,rfl⟩;refine ko ?_;obtain⟨d,hd,af⟩:=q.get' hx;obtain⟨a',G,u5,B,N,e5,i5⟩:=Is.at (K:=K) (i:=0) (t:=.int b) (r.mono (l.trans m)) J;cases B;cases(show u5=.int b from i5);refine⟨_,J,_,J,a,G,_,_,J,J,N,e5,d,z,b,J,af.mono m,hW _ J (.tup g) (by simp) g J d (br hd),λH6 s6=>⟨m.trans s6,?_⟩⟩;rw[dm,hd,be];rfl
       . rintro C n ⟨m,rfl⟩ p hp;refine⟨p,g.map λd=>fA d b,J,aE.of ?_,?_⟩
         . rw[ze,eq,Z,dl];rfl
         . have e:(g.map λd=>fA d b).all id=oz (.tup g) (qJ (.int b)):=by rw[List.all_map];rfl
           rw[e];exact j _ (l.trans (m.trans (Same.new hp _)))
end
noncomputable abbrev pQ:Stmt:=top 64
noncomputable abbrev Y0:Stmt:=top 65
noncomputable def qh:T->Option Str|.tup [_,.str x]=>some x|_=>none
noncomputable def dZ:T->Nat|.tup [_,_,_,.int m]=>m.toNat|_=>0
noncomputable def rg:T->Bool|.str x=>(PyData.str x).canLay0|.int _=>true|_=>false
theorem Km(h:ts.all rg=true):(aH (.tup ts)).canLay0=true:=by
 have e:∀a:O T,(∀t∈a,rg t=true)->PyData.canLayAll0 (wv a)=true:=by intro a;induction a with|nil=>intro _;unfold wv;rfl| cons t a c=>intro h;unfold wv;simp only[PyData.canLayAll0,bj];refine⟨?_,c λu d=>h u (ce _ d)⟩;have b:=h t c8;cases t with|str x=>unfold aH;exact b|int i=>unfold aH;rfl|_=>cases b
 unfold aH PyData.canLay0;exact e ts (dz.mp h)
structure Gd(bx beh:Int)(t:T):Prop where
 fro:bI t
 wd:Wd t
 ok:∀bx' beh',bx<=bx'->beh<=beh'->eA t bx' beh'=true
 lay:(aH t).canLay0=true
 sk:(dZ t:Int)<=beh
theorem Gd.mono{d c:Int}{t:T}(g:Gd bx d t)(h:d<=c):Gd bx c t:=⟨g.fro,g.wd,λb a e f=>g.ok b a e (by omega),g.lay,by have:=g.sk;omega⟩
def bX(bx:Int)(B:List T):Prop:=∀(i:Nat) t,B[i]?=some t->Gd bx ((B.length:Int)-(i:Int)-1) t
theorem bX.nil:bX bx []:=λi t e=>by simp at e
theorem bX.append(g:bX bx ts)(h:bX bx us):bX bx (ts++us):=λi t e=>by
 rw[ay];by_cases a:i<ts.length
 . rw[eu a]at e;exact(g i t e).mono (by omega)
 . rw[List.getElem?_append_right (by omega)]at e;exact(h _ t e).mono (by omega)
theorem bX.one{t:T}(g:Gd bx 0 t):bX bx [t]:=λi u e=>by
 cases i with| zero=>
   have e:t=u:=by simpa using e
   rw[<-e];exact g.mono (by simp)|succ i=>simp at e
theorem bX.fro{bx:Int}{a:O T}(g:bX bx a):xn a:=xn.all.mpr λt b=>by obtain⟨i,c,rfl⟩:=List.getElem_of_mem b;exact(g i _ (ao c)).fro
theorem xx{lo a:Int}(c:lo<=i)(b:i<=a):yh (.int i) lo a=true:=by show(decide (lo<=i) && decide (i<=a))=true;rw[aw c,aw b];rfl
theorem V4:Wl (.int i):=λx e=>by cases e
theorem qw(h:x.length<=1000):Wl (.str x):=λy e=>by cases e;exact yb h
theorem me(h:∀u∈ts,Wl u):Wd (.tup ts):=λa e=>by cases e;exact h
theorem qD(h:x.length<=1000):Wd (.tup [.str x,.int i,.int j]):=me λu a=>by
 simp only[ai,az,or_false]at a;rcases a with rfl|rfl|rfl
 . exact qw h
 . exact V4
 . exact V4
theorem Go{k:Int}(h:x.length<=1000):Wd (.tup [.str x,.int i,.int j,.int k]):=me λu a=>by
 simp only[ai,az,or_false]at a;rcases a with rfl|rfl|rfl|rfl
 . exact qw h
 . exact V4
 . exact V4
 . exact V4
theorem As{x:T}:eA (.tup [.str "put",x,y]) bx beh=(yh x 0 (bx-1) && (yh y 0 9 && true)):=by kernel_rfl
theorem BI{x:T}:eA (.tup [.str "same",x,y]) bx beh=(yh x 0 (bx-1) && (yh y 0 9 && true)):=by kernel_rfl
theorem Dx{x:T}:eA (.tup [.str "raise",x,y]) bx beh=(yh x 0 (bx-1) && (yh y 0 9 && qH y)):=by kernel_rfl
theorem BJ{x z:T}:eA (.tup [.str "skip",x,y,z]) bx beh=(yh x 0 (bx-1) && (yh y 0 9 && yh z 1 beh)):=by kernel_rfl
theorem xY(f:0<=b)(h:b<bx)(d:0<=n)(c:n<=9):Gd bx 0 (.tup [.str "put",.int b,.int n]):=⟨⟨trivial,trivial,trivial,trivial⟩,qD (by decide),λe a g _=>by rw[As,xx f (by omega),xx d c];rfl,Km (by kernel_rfl),cg 0⟩
theorem oZ(f:0<=b)(h:b<bx)(d:0<=n)(c:n<=9):Gd bx 0 (.tup [.str "same",.int b,.int n]):=⟨⟨trivial,trivial,trivial,trivial⟩,qD (by decide),λe a g _=>by rw[BI,xx f (by omega),xx d c];rfl,Km (by kernel_rfl),cg 0⟩
theorem sX(e:0<=b)(h:b<bx)(f:1<=n)(c:n<=9):Gd bx 0 (.tup [.str "raise",.int b,.int n]):=⟨⟨trivial,trivial,trivial,trivial⟩,qD (by decide),λd a g _=>by rw[Dx,xx e (by omega),xx (by omega) c,show qH (.int n)=true from aw (by omega)];rfl,Km (by kernel_rfl),cg 0⟩
theorem pd{m:Int}(g:0<=b)(k:b<bx)(d:0<=n)(c:n<=9)(e:1<=m)(h:m<=beh):Gd bx beh (.tup [.str "skip",.int b,.int n,.int m]):=⟨⟨trivial,trivial,trivial,trivial,trivial⟩,Go (by decide),λf a j i=>by rw[BJ,xx g (by omega),xx d c,xx e (by omega)];rfl,Km (by kernel_rfl),by show((m.toNat:Nat):Int)<=beh;omega⟩
inductive lh(K:W.Frag)(vs:List V)(H:Hp)(Q:VK)(e0:XK):Prop|mk:∀(a s:Addr)(ns:List Int)(bx beh:Int),vs=[.ref a,.int bx,.int beh]->aI K H a s ns->1<=bx->bx<=6->0<=beh->beh<=1000->(∀t v H',Gd bx beh t->qh t=none->aG a H H'->aI K H' a s ns->Is H' t v->Q v H')->lh K vs H Q e0
inductive kG(K:W.Frag)(vs:List V)(H:Hp)(Q:VK)(e0:XK):Prop|mk:∀(a s:Addr)(ns:List Int)(bx many:Int),vs=[.ref a,.int bx,.int many]->aI K H a s ns->0<=bx->bx<=6-> -1000<=many->many<=1000->(∀l xs ts H',H' l=some (.lst xs)->IsL H' ts xs->bX bx ts->(∀t∈ts,qh t=none)->ts.length<=many.toNat->aG a H H'->aI K H' a s ns->Q (.ref l) H')->kG K vs H Q e0
theorem xG{d:Int}(a:1<=d/\d<=9)(c:0<=j)(b:j<4):∃m:Int,bS ([.int 1,.int 1,.int 2,.int d]:O V) j=some (.int m)/\1<=m/\m<=9:=by
 have:j=0\/j=1\/j=2\/j=3:=by omega
 rcases this with rfl|rfl|rfl|rfl
 . exact⟨1,J,by decide,by decide⟩
 . exact⟨1,J,by decide,by decide⟩
 . exact⟨2,J,by decide,by decide⟩
 . exact⟨d,J,a.1,a.2⟩
section
variable{K:W.Frag}
theorem vU:aB ["deck","boxes","behind_it","box","number","way"] ["deck","boxes","behind_it"] (zh pQ):=.of
theorem Db(D:aR K mg "_law_e_deed" pQ)(T:Txt K mg)(q:Ok P w K mg base "_law_e_pick" 2 ["deck","many"] (dB K)):Ok P w K mg base "_law_e_deed" 3 ["deck","boxes","behind_it"] (lh K):=by
 refine wu D vU λf a5 A af sh H vs Q E r h=>?_;obtain⟨a,s,i,bx,o,rfl,hT,a4,a3,j,ax,k⟩:=h;have nd:=vU.nd;refine⟨_,zd (ya (i:=3) nd (zy q r (za (aA 0) (za (aA 1) zb)))) (zd (ya (i:=4) nd (zl yk (vz (za (zy q r (za (aA 0) (za zc zb))) (za (zy q r (za (aA 0) (za zc zb))) zb))) (ym Vi J T.int nj (za (yy y4 (zy q r (za (aA 0) (za zc zb))) zc (zm _)) zb)))) (zd (ya (i:=5) nd (zy q r (za (aA 0) (za zc zb)))) (zd (yd (zp y4 (aA 5) zc (zm _)) (zf (zk (qo (za zu (za (aA 3) (za (aA 4) zb)))))) zt) (zd (yd (zp Qy (aA 5) zc (zm _)) (zf (zk (qo (za zu (za (aA 3) (za (zl yk (vz (za zc (za zc (za zc (za (zx yv zc (zy q r (za (aA 0) (za zc zb)))) zb))))) (zy q r (za (aA 0) (za zc zb)))) zb)))))) zt) (zd (yd (PW.pt (w5 (zp Qy (aA 5) zc (zm _)) (ww (zp y4 (aA 2) zc (zm _))))) (zf (zk (qo (za zu (za (aA 3) (za (aA 4) zb)))))) zt) (zf (zk (qo (za zu (za (aA 3) (za (aA 4) (za (zx yv zc (zy q r (za (aA 0) (za (aA 2) zb)))) zb)))))))))))),?_⟩
 refine⟨_,J,_,J,a,s,i,bx,J,hT,by omega,by omega,λb H1 S R q1 t1=>?_⟩;refine⟨_,J,a,s,i,4,J,t1,by decide,by decide,λx H2 x2 y2 q2 t2=>?_⟩;refine⟨_,J,a,s,i,10,J,t2,by decide,by decide,λv H3 x3 y3 q3 t3=>?_⟩;refine⟨bF,λl hl=>?_⟩;have s4:=Same.new hl (.lst [.int x,.int v]);have N:upd H3 l (.lst [.int x,.int v]) l=some (.lst [.int x,.int v]):=ze;generalize upd H3 l (.lst [.int x,.int v])=H4 at s4 N⊢;have ag:l≠a:=by obtain⟨_,_,u,_,_⟩:=t3.at';exact λz=>by rw[z,u]at hl;cases hl
 refine⟨_,J,a,s,i,4,J,t3.same s4,by decide,by decide,λd5 H5 x5 y5 q5 t5=>⟨J,?_⟩⟩;refine .inr ⟨_,J,?_⟩;have ah:=q5 _ _ ag N;have au:aG a H H5:=q1.trans (q2.trans (q3.trans (s4.but.trans q5)));obtain⟨n,ap,Z,X⟩:∃n:Int,bS ([.int x,.int v]:O V) (if decide (V.int d5=V.int 0)=true then(1:Int)else 0)=some (.int n)/\0<=n/\n<=9:=by cases decide (V.int d5=V.int 0)with|true=>exact⟨v,J,by omega,by omega⟩|false=>exact⟨x,J,by omega,by omega⟩
 refine⟨l,_,_,_,J,J,aE.of ah,ap,?_⟩;refine⟨_,J,a,s,i,6,J,t5,by decide,by decide,λav H6 x6 y6 q6 B=>?_⟩;have e:=au.trans q6;have d:∀(U:Hp)(w:Str)(m:Int),aG a H U->aI K U a s i->Gd bx o (.tup [.str w,.int b,.int m])->∀p,U p=none->Q (.ref p) (upd U p (.tup [.str w,.int b,.int m])):=λU w m bb tt g p G=>by have C:=Same.new G (.tup [.str w,.int b,.int m]);exact k _ _ _ g J (bb.trans C.but) (tt.same C) (Is.newTup G (IsL.three J J J))
 refine⟨_,J,J,_,J,?_⟩;refine ye (λ_=>?_) (λ_=>?_)
 . exact⟨_,J,_,J,bF,d _ "put" n e B ((xY S R Z X).mono j)⟩
 refine⟨_,J,_,_,J,J,_,J,?_⟩;refine ye (λ_=>?_) (λ_=>?_)
 . refine⟨_,J,_,J,a,s,i,9,J,B,by decide,by decide,λy H7 x7 y7 q7 W=>⟨1,y,J,J,?_⟩⟩;refine⟨bF,λF t=>?_⟩;have s8:=Same.new t (.lst [.int 1,.int 1,.int 2,.int (1+y)]);have M:upd H7 F (.lst [.int 1,.int 1,.int 2,.int (1+y)]) F=some (.lst [.int 1,.int 1,.int 2,.int (1+y)]):=ze;generalize upd H7 F (.lst [.int 1,.int 1,.int 2,.int (1+y)])=H8 at s8 M⊢;have L:F≠a:=by obtain⟨_,_,u,_,_⟩:=W.at';exact λz=>by rw[z,u]at t;cases t
   refine⟨_,J,a,s,i,4,J,W.same s8,by decide,by decide,λd9 H9 x9 y9 q9 t9=>?_⟩;obtain⟨m,hm,m0,m9⟩:=xG (d:=1+y) ⟨by omega,by omega⟩ x9 y9;refine⟨F,_,_,_,J,J,aE.of (q9 _ _ L M),hm,bF,d _ "raise" m (e.trans (q7.trans (s8.but.trans q9))) t9 ((sX S R m0 m9).mono j)⟩
 refine⟨_,J,_,_,J,J,_,J,?_⟩;refine ye (λ_=>?_) (λ_=>?_)
 . exact xu ⟨_,J,_,J,bF,d _ "same" n e B ((oZ S R Z X).mono j)⟩
 refine⟨_,J,J,_,J,?_⟩;refine ye (λ_=>?_) (λc=>?_)
 . exact⟨_,J,_,J,bF,d _ "same" n e B ((oZ S R Z X).mono j)⟩
 have am:0<o:=by have:o≠0:=λz=>c (by rw[z];exact aw J);omega
 refine⟨_,J,_,J,_,J,_,J,a,s,i,o,J,B,am,by omega,λm H7 m0 m1 q7 W=>⟨1,m,J,J,bF,λp G=>?_⟩⟩;have C:=Same.new G (.tup [.str "skip",.int b,.int n,.int (1+m)]);exact k _ _ _ (pd S R Z X (by omega) (by omega)) J ((e.trans q7).trans C.but) (W.same C) (Is.newTup G ⟨_,_,J,J,IsL.three J J J⟩)
theorem FG:aB ["deck","boxes","many"] ["deck","boxes","many"] (zh Y0):=.of
theorem Fo(D:aR K mg "_law_e_stretch" Y0)(T:Txt K mg)(Z:Ok P w K mg base "_law_e_deed" 3 ["deck","boxes","behind_it"] (lh K)):Ok P w K mg base "_law_e_stretch" 4 ["deck","boxes","many"] (kG K):=by
 refine wu D FG λf am A F sh H vs Q E hr h=>?_;obtain⟨a,s,ns,y,d,rfl,hT,ah,M,ag,af,k⟩:=h;refine⟨_,zd (yd (zp y4 (aA 1) zc (zm _)) (zf (zk (vz zb))) zt) (zf (zk (w6 (own:=["at"]) (cap:=[0,1,2]) J (yo (zh Y0) J J (by decide+kernel) (by decide+kernel) (by decide+kernel) ⟨⟨_,J,.inl J,wr J⟩,⟨_,J,.inl J,wr J⟩,⟨_,J,.inl J,wr J⟩,trivial⟩)
   (xk J T.range (za (aA 2) zb))
   (λ_ _ _ _=>zw (i:=0) (by show(["at","deck","boxes","many"]:O Str).Nodup;decide+kernel)) (λ_ _ _ _=>yx)
   (λ_ _ _ _=>zy Z hr (za (aA 1) (za (aA 2) (za (zx jw (zx jw (aA 3) (aA 0)) zc) zb))))))),?_⟩
 refine⟨_,J,J,_,J,?_⟩;refine ye (λ_=>?_) (λc=>?_)
 . refine⟨bF,λl hl=>?_⟩;have U:=Same.new hl (.lst []);exact k l [] [] _ ze J bX.nil (λt h=>by cases h) (cm _) U.but (hT.same U)
 have L:1<=y:=by have:y≠0:=λz=>c (by rw[z];exact aw J);omega
 refine⟨_,J,d,J,by omega,by omega,?_⟩;refine jq (lo:=0) (n:=d.toNat) (λj n B=>∃b:O L2.T,IsL B b n/\b.length=j/\(∀(i:Nat) t,b[i]?=some t->Gd y (d-(i:Int)-1) t)/\(∀t∈b,qh t=none)/\aG a H B/\jB B a s) ⟨[],J,J,(λi t e=>by simp at e),(λt h=>by cases h),aG.refl a H,hT.at'⟩
  (λj n B hj ⟨b,q,R,_⟩=>by rw[q.length];exact yb (by omega)) ?_ ?_
 . rintro j n H1 hj ⟨b,q,R,x,m,o,N⟩;refine ko ?_;have S:=hT.at2 o N;refine⟨_,J,_,J,_,J,_,J,_,_,J,J,_,_,J,J,a,s,ns,y,_,J,S,L,M,by omega,by omega,λt v H2 g gs W X hv=>?_⟩;have fr:xn b:=xn.all.mpr λt ht=>by obtain⟨i,r,rfl⟩:=List.getElem_of_mem ht;exact(x i _ (ao r)).fro
   refine⟨b++[t],IsL.append (IsL.tups (S.tups W) fr q) (IsL.one hv),by rw[ay,bg,R],λi u e=>?_,λu hu=>?_,o.trans W,X.at'⟩;rotate_left
   . rcases ck.mp hu with z|z
     . exact m u z
     . rw[bc.mp z];exact gs
   by_cases r:i<b.length
   . rw[eu r]at e;exact x i u e
   . rw[List.getElem?_append_right (by omega)]at e;have G:i-b.length=0:=by cases G:i-b.length with|zero=>rfl|succ z=>rw[G]at e;simp at e
     rw[G]at e;have e:t=u:=by simpa using e
     rw[<-e];exact g.mono (by omega)
 . rintro n H1 ⟨b,q,R,x,m,o,N⟩ p hp;have C:=Same.new hp (.lst n);refine k p n b _ ze (q.mono C) (λi t e=>?_) m (by omega) (o.trans C.but) ((hT.at2 o N).same C);have r:=(c7.mp e).1;exact(x i t e).mono (by omega)
end
noncomputable abbrev Y1:Stmt:=top 66
noncomputable abbrev xy:Stmt:=top 67
theorem Kw:bootBuiltins "sorted"=some (.builtin "sorted"):=by decide+kernel
noncomputable def yj(B:List T):List Str:=B.filterMap qh
def bU(B:List T):Prop:=∀(i:Nat) t,B[i]?=some t->yj ((B.drop (i+1)).take (dZ t))=[]
theorem yt:yj (ts++us)=yj ts++yj us:=List.filterMap_append ..
theorem Zq(h:∀t∈us,qh t=none):yj us=[]:=by unfold yj;rw[List.filterMap_eq_nil_iff];exact h
theorem bU.append(g:bX bx ts)(h:bU ts)(k:bU us):bU (ts++us):=λi t e=>by
 by_cases a:i<ts.length
 . rw[eu a]at e;have c:=(g i t e).sk;rw[List.drop_append_of_le_length (by omega),List.take_append_of_le_length (by rw[List.length_drop];omega)];exact h i t e
 . rw[List.getElem?_append_right (by omega)]at e;have b:(ts++us).drop (i+1)=us.drop (i-ts.length+1):=by rw[List.drop_append,List.drop_eq_nil_of_le (by omega),List.nil_append];congr 1;omega
   rw[b];exact k _ t e
theorem bU.none{us:O T}(h:∀t∈us,qh t=none):bU us:=λi t e=>Zq λu a=>h u (List.mem_of_mem_drop (List.mem_of_mem_take a))
theorem bU.nil:bU []:=λi t e=>by simp at e
theorem bU.say{x:Str}:bU [.tup [.str "say",.str x]]:=λi t e=>by
 cases i with| zero=>
   have e:L2.T.tup [.str "say",.str x]=t:=by simpa using e
   subst e;rfl|succ i=>simp at e
noncomputable def iZ(j:Nat):Str:=if j%2=0 then "come" else "go"
noncomputable def bZ(i:Nat):List Str:=(List.range i).map iZ
theorem Jk(i:Nat):bZ (i+1)=bZ i++[iZ i]:=by unfold bZ;rw[List.range_succ,be];rfl
theorem Wm(h:x="come"\/x="go"):Gd bx 0 (.tup [.str "say",.str x]):=by
 refine⟨⟨trivial,trivial,trivial⟩,me λu a=>?_,λc b _ _=>?_,(by rcases h with rfl|rfl<;>exact Km (by kernel_rfl)),cg 0⟩
 . simp only[ai,az,or_false]at a;rcases a with rfl|rfl
   . exact qw (by decide)
   . rcases h with rfl|rfl
     . exact qw (by decide)
     . exact qw (by decide)
 . rcases h with rfl|rfl
   . kernel_rfl
   . kernel_rfl
inductive kJ(K:W.Frag)(vs:List V)(H:Hp)(Q:VK)(e0:XK):Prop|mk:∀(a s:Addr)(ns:List Int)(bx room p:Int),vs=[.ref a,.int bx,.int room,.int p]->aI K H a s ns->(0<=bx/\bx<=6)->(0<=room/\room<=100)->(0<=p/\p<=2)->(2*p).toNat*(room.toNat+1)+room.toNat<=30->(∀ts v H',bX bx ts->yj ts=bZ (2*p).toNat->bU ts->ts.length<=30->(ts.length:Int)<=room+2*p->aG a H H'->aI K H' a s ns->Is H' (.tup ts) v->Q v H')->kJ K vs H Q e0
theorem Am(i:Nat):∃x:Str,bS ([.str "come",.str "go"]:O V) ((i:Int)%2)=some (.str x)/\(x="come"\/x="go")/\x=iZ i:=by
 unfold iZ;have:i%2=0\/i%2=1:=by omega
 rcases this with h|h
 . rw[show(i:Int)%2=0 by omega,h];exact⟨"come",J,.inl J,J⟩
 . rw[show(i:Int)%2=1 by omega,h];exact⟨"go",J,.inr J,J⟩
section
variable{K:W.Frag}
theorem Qi:aB ["deck","boxes","room","p","cuts","found","last","turn"] ["deck","boxes","room","p"] (zh Y1):=.of
theorem Fm(D:aR K mg "_law_e_script" Y1)(T:Txt K mg)(o1:Ok P w K mg base "_law_e_pick" 2 ["deck","many"] (dB K))(o2:Ok P w K mg base "_law_e_stretch" 4 ["deck","boxes","many"] (kG K)):Ok P w K mg base "_law_e_script" 5 ["deck","boxes","room","p"] (kJ K):=by
 refine wu D Qi λf dc A ci sh H vs Q E hr h=>?_;obtain⟨a,s,ns,bx,g,p,rfl,hT,⟨cb,b9⟩,⟨cr,c1⟩,⟨c3,c2⟩,cL,k⟩:=h;have nd:=Qi.nd;have r2:=hr.mono (show 2<=4 by decide);refine⟨_,zd (ya (i:=4) nd (zo Fp J T.sorted Kw (za (w6 (own:=["turn"]) (cap:=[0,2]) J (yo (zh Y1) J J (by decide+kernel) (by decide+kernel) (by decide+kernel) ⟨⟨_,J,.inl J,wr J⟩,⟨_,J,.inl J,wr J⟩,trivial⟩)
    (xk J T.range (za (zx qe zc (aA 3)) zb))
    (λ_ _ _ _=>zw (i:=0) (by show(["turn","deck","room"]:O Str).Nodup;decide+kernel)) (λ_ _ _ _=>yx)
    (λ_ _ _ _=>zy o1 r2 (za (aA 1) (za (zx yv (aA 2) zc) zb)))) zb)))
  (zd (ya (i:=5) nd (vz zb)) (zd (ya (i:=6) nd zc) (zd (vo PassesOwn.never J (xk J T.range (za (zx qe zc (aA 3)) zb)) (zw (i:=7) nd) (zd (ya (i:=5) nd (zx Yk (aA 5) (zy o2 hr (za (aA 0) (za (aA 1) (za (zx jw (zl yk (aA 4) (aA 7)) (aA 6)) zb)))))) (zd (we (Zk PySem.F.plainAttrs_list PySem.F.slot_list_append PySem.F.type_list_append vn (aA 5) (za (qo (za zu (za (zl yk (vz (za zu (za zu zb))) (zx ke (aA 7) zc)) zb))) zb))) (zf (ya (i:=6) nd (zl yk (aA 4) (aA 7)))))))
  (zf (zk (ym xa J T.tuple wj (za (zx Yk (aA 5) (zy o2 hr (za (aA 0) (za (aA 1) (za (zy o1 r2 (za (aA 0) (za (zx yv (zx jw (aA 2) (aA 6)) zc) zb))) zb))))) zb))))))),?_⟩
 refine⟨_,J,_,_,J,J,Ju (by decide),2*p,J,by omega,by omega,?_⟩;refine jq (lo:=0) (n:=(2*p).toNat) (λj q Z=>∃n:O Int,q=n.map V.int/\n.length=j/\(∀c∈n,0<=c/\c<=g)/\aG a H Z/\jB Z a s) ⟨[],J,J,(λc hc=>by cases hc),aG.refl a H,hT.at'⟩
  (λj q Z hj ⟨n,h1,h2,_⟩=>by rw[h1,ae];exact yb (by omega)) ?_ ?_
 . rintro j q H1 hj ⟨n,rfl,h2,h3,h4,h5⟩;refine ko ?_;refine⟨_,J,_,J,_,_,J,J,a,s,ns,g+1,J,hT.at2 h4 h5,by omega,by omega,λd H2 x2 y2 b2 t2=>?_⟩;refine⟨n++[d],by rw[be];rfl,by rw[ay,bg,h2],λc hc=>?_,h4.trans b2,t2.at'⟩;rcases ck.mp hc with z|z
   . exact h3 c z
   . rw[bc.mp z];omega
 rintro q H1 ⟨L,rfl,h2,h3,h4,h5⟩ p1 cv;have t1:=hT.at2 h4 h5;have s1:=Same.new cv (.lst (L.map V.int));have ag:upd H1 p1 (.lst (L.map V.int)) p1=some (.lst (L.map V.int)):=ze;generalize upd H1 p1 (.lst (L.map V.int))=H2 at s1 ag⊢;have t2:=t1.same s1;refine⟨p1,L,J,aE.of ag,by omega,λn cl B bo a7=>?_⟩;have b0:∀c∈n,0<=c/\c<=g:=λc hc=>h3 c (B.mem_iff.mp hc);have db:n.length=(2*p).toNat:=by rw[B.length_eq,h2]
 have s2:=Same.new a7 (.lst (n.map V.int));have au:upd H2 cl (.lst (n.map V.int)) cl=some (.lst (n.map V.int)):=ze;generalize upd H2 cl (.lst (n.map V.int))=H3 at s2 au⊢;have t3:=t2.same s2;have b3:aG a H H3:=h4.trans (s1.trans s2).but;refine⟨bF,λv a6=>?_⟩;have s3:=Same.new a6 (.lst []);have ah:upd H3 v (.lst []) v=some (.lst []):=ze;have ap:=s3 _ _ au;generalize upd H3 v (.lst [])=H4 at s3 ah ap⊢;have t4:=t3.same s3;have b4:aG a H H4:=b3.trans s3.but;have b1:cl≠a:=by obtain⟨_,_,ha,_,_⟩:=t2.at';exact λz=>by rw[z,ha]at a7;cases a7
 have bA:v≠a:=by obtain⟨_,_,ha,_,_⟩:=t3.at';exact λz=>by rw[z,ha]at a6;cases a6
 generalize hR:g.toNat=R at cL;refine⟨_,J,_,_,J,J,Ju (by decide),2*p,J,by omega,by omega,?_⟩;refine qu (lo:=0) (n:=(2*p).toNat) (λi σ Z=>∃(v:Y)(r:O V)(u:O L2.T)(b:Int)(x7:Option V),σ=[some (.ref a),some (.int bx),some (.int g),some (.int p),some (.ref cl),some (.ref v),some (.int b),x7]/\aG a H Z/\jB Z a s/\Z cl=some (.lst (n.map V.int))/\v≠a/\Z v=some (.lst r)/\IsL Z u r/\bX bx u/\yj u=bZ i/\bU u/\u.length<=i*(R+1)/\0<=b/\b<=g/\(u.length:Int)<=(i:Int)+b/\∀(j:Nat)(h:j<n.length),i<=j->b<=n[j])
  ⟨v,[],[],0,none,J,b4,t4.at',ap,bA,ah,J,bX.nil,J,bU.nil,cm _,cg 0,cr,cg 0,λj h _=>(b0 _ (List.getElem_mem h)).1⟩ ?_ ?_
 . rintro i σ H5 hi ⟨v,r,u,b,x7,rfl,b5,a8,G,X,F,a4,M,av,a3,n5,l0,l1,n6,bf⟩;have e0:(0:Int)+(i:Int)=(i:Int):=by omega
   rw[e0];have t5:=hT.at2 b5 a8;have W:i<n.length:=by omega
   have cc:bS (n.map V.int) ((i:Nat):Int)=some (.int n[i]):=yq (by rw[ba,ao W];rfl);have b8:=b0 n[i] (List.getElem_mem W);have c0:=bf i W (aj i);have c4:(i+1)*(R+1)=i*(R+1)+(R+1):=Nat.succ_mul i (R+1);have c5:(i+1)*(R+1)<=(2*p).toNat*(R+1):=Nat.mul_le_mul_right (R+1) hi;refine⟨_,J,_,J,_,J,_,J,_,J,cl,_,_,_,J,J,aE.of G,cc,_,J,_,_,J,J,a,s,ns,bx,n[i]-b,J,t5,cb,b9,by omega,by omega,λl q us H6 cE bl gu y nu b6 t6=>?_⟩;have bT:=b6 _ _ X F;have am:=b6 _ _ b1 G;have bd:IsL H6 u r:=IsL.tups (t5.tups b6) M.fro a4;have xl:=bd.length;have ul:=bl.length;refine⟨v,l,r,q,J,J,bT,cE,yb (by omega),λp7 U=>?_⟩;have s7:=Same.new U (.lst (r++q));have C:upd H6 p7 (.lst (r++q)) p7=some (.lst (r++q)):=ze;generalize upd H6 p7 (.lst (r++q))=H7 at s7 C⊢;have S:IsL H7 (u++us) (r++q):=IsL.append (bd.mono s7) (bl.mono s7);refine⟨_,J,.inl ⟨J,_,aE.of C⟩,bF,λN a5=>?_⟩;have s8:=Same.new a5 (.lst [.str "come",.str "go"]);have t:upd H7 N (.lst [.str "come",.str "go"]) N=some (.lst [.str "come",.str "go"]):=ze;generalize upd H7 N (.lst [.str "come",.str "go"])=H8 at s8 t⊢;obtain⟨x,hx,a9,co⟩:=Am i;refine⟨_,J,_,_,J,J,(by show(0:Int)<2;decide),N,_,_,_,J,J,aE.of t,hx,bF,λp9 bq=>?_⟩;have s9:=Same.new bq (.tup [.str "say",.str x]);have i9:Is (upd H8 p9 (.tup [.str "say",.str x])) (.tup [.str "say",.str x]) (.ref p9):=Is.newTup bq (IsL.two J J);generalize upd H8 p9 (.tup [.str "say",.str x])=H9 at s9 i9⊢;have ax:=s8.trans s9;have af:=ax _ _ C;refine⟨p7,_,_,J,J,af,EG (by rw[ay];omega),?_⟩;have tp:qj H9 (upd H9 p7 (.lst ((r++q)++[.ref p9]))):=qj.upd af (λzs z=>by cases z);have fr:xn (u++us):=(M.append gu).fro;have cj:=IsL.append (IsL.tups tp fr (S.mono ax)) (IsL.one (Is.tups tp (Wm (bx:=bx) a9).fro i9));have cf:=s7.trans ax;have bQ:∀c o,H6 c=some o->upd H9 p7 (.lst ((r++q)++[.ref p9])) c=some o:=λc o e=>by rw[zi (zj e U)];exact cf _ _ e
   have bt:p7≠a:=by obtain⟨_,_,ha,_,_⟩:=t6.at';exact λz=>by rw[z,ha]at U;cases U
   refine⟨_,J,_,J,cl,_,_,_,J,J,aE.of (bQ _ _ am),cc,?_⟩;refine⟨p7,_,_,_,_,J,λc o nc e=>bQ _ _ (b6 c o nc (b5 c o nc e)),?_,bQ _ _ am,bt,ze,cj,(M.append gu).append (bX.one (Wm a9)),(by rw[yt,yt,Zq y,ez,av,Jk,<-co];rfl),bU.append (M.append gu) (bU.append M a3 (bU.none y)) bU.say,?_,b8.1,b8.2,?_,λj hj c9=>(fk.mp bo) i j W hj (by omega)⟩
   . obtain⟨pp,rr,ha,q1,q2⟩:=t6.at';exact⟨pp,rr,bQ _ _ ha,q1,q2⟩
   . rw[ay,ay,bg];omega
   . rw[ay,ay,bg];omega
 . rintro σ H5 ⟨v,r,u,b,x7,rfl,b5,a8,G,X,F,a4,M,av,a3,n5,l0,l1,n6,bf⟩;have t5:=hT.at2 b5 a8;refine⟨_,J,_,J,_,J,_,J,_,J,_,J,_,_,J,J,_,_,J,J,a,s,ns,g-b+1,J,t5,by omega,by omega,λm H6 m0 m1 b6 t6=>?_⟩;refine⟨a,s,ns,bx,m,J,t6,cb,b9,by omega,by omega,λl q us H7 cw bk gu y nu b7 t7=>?_⟩;have bL:=b7 _ _ X (b6 _ _ X F);have bb:IsL H7 u r:=IsL.tups (t6.tups b7) M.fro (IsL.tups (t5.tups b6) M.fro a4);have xl:=bb.length;have ul:=bk.length;refine⟨v,l,r,q,J,J,bL,cw,yb (by omega),λN a5=>?_⟩;have s8:=Same.new a5 (.lst (r++q));have t:upd H7 N (.lst (r++q)) N=some (.lst (r++q)):=ze;have S:=(IsL.append bb bk).mono s8;generalize upd H7 N (.lst (r++q))=H8 at s8 t S⊢;refine⟨N,_,J,.inl ⟨aE.of t,λl9 bv=>?_⟩⟩;have s9:=Same.new bv (.tup (r++q));exact k (u++us) _ _ (M.append gu) (by rw[yt,Zq y,ez,av]) (bU.append M a3 (bU.none y)) (by rw[ay];omega) (by rw[ay];omega) (b5.trans (b6.trans (b7.trans (s8.trans s9).but))) (t7.same (s8.trans s9)) (Is.newTup bv S)
end
def Cr(c d b:Int):Prop:=(c=2/\d=6/\b=1)\/(c=2/\d=5/\b=2)\/(c=3/\d=4/\b=1)\/(c=4/\d=2/\b=1)\/(c=1/\d=8/\b=2)\/(c=2/\d=6/\b=0)
structure LH(bx p:Int)(ss:List T):Prop where
 b0:0<=bx
 b2:bx<=2
 p0:0<=p
 p2:p<=2
 n1:1<=ss.length
 n4:ss.length<=4
 cr:∃d:Int,Cr (ss.length:Int) d bx/\∀s∈ss,∃ts,s=L2.T.tup ts/\bX bx ts/\ts.length<=30/\yj ts=bZ (2*p).toNat/\bU ts/\(ts.length:Int)<=d
theorem LH.each(L:LH bx p ss):∀s∈ss,∃ts,s=L2.T.tup ts/\bX bx ts/\ts.length<=30/\yj ts=bZ (2*p).toNat/\bU ts:=λs g=>by obtain⟨d,_,h⟩:=L.cr;obtain⟨ts,a,b,c,e,f,_⟩:=h s g;exact⟨ts,a,b,c,e,f⟩
theorem LH.fro{bx p:Int}{a:O T}(h:∀s∈a,∃ts,s=L2.T.tup ts/\bX bx ts/\ts.length<=30/\yj ts=bZ (2*p).toNat/\bU ts):xn a:=xn.all.mpr λs b=>by obtain⟨ts,rfl,g,_⟩:=h s b;exact g.fro
noncomputable def lB:List (List Int):=[[2,6,1],[2,5,2],[3,4,1],[4,2,1],[1,8,2],[2,6,0]]
theorem xV:∀t∈lB,∃c d b:Int,t=[c,d,b]/\1<=c/\c<=4/\2<=d/\d<=8/\0<=b/\b<=2/\Cr c d b:=by intro t a;simp only[lB,ai,az,or_false]at a;rcases a with rfl|rfl|rfl|rfl|rfl|rfl<;>exact⟨_,_,_,J,by decide,by decide,by decide,by decide,by decide,by decide,by unfold Cr;decide⟩
theorem Cc{d:Int}(e:2<=d)(c:d<=8)(b:0<=p)(a:p<=2)(h:2*p<=d):(2*p).toNat*((d-2*p).toNat+1)+(d-2*p).toNat<=30:=by
 have:p=0\/p=1\/p=2:=by omega
 rcases this with rfl|rfl|rfl
 . show 0*_+_<=30;omega
 . show 2*_+_<=30;omega
 . show 4*_+_<=30;omega
theorem LH.froD{d:Int}(h:∀s∈ss,∃ts,s=L2.T.tup ts/\bX bx ts/\ts.length<=30/\yj ts=bZ (2*p).toNat/\bU ts/\(ts.length:Int)<=d):xn ss:=xn.all.mpr λs a=>by obtain⟨ts,rfl,g,_⟩:=h s a;exact g.fro
noncomputable def dS:Stmt:=.Pass ⟨0,0,0,0⟩
noncomputable def qZ:Stmt->List Expr|.Assign t _ _=>t|_=>[]
noncomputable def yK:Stmt->Expr|.Assign _ (.Subscript _ i _) _=>i|_=>.Name "x" ⟨0,0,0,0⟩
theorem BL:∃(e:Expr)(p q:Pos),yg xy=[.Assign (qZ ((yg xy).getD 0 dS)) (.Subscript e (yK ((yg xy).getD 0 dS)) p) q,(yg xy).getD 1 dS,(yg xy).getD 2 dS,(yg xy).getD 3 dS,(yg xy).getD 4 dS,(yg xy).getD 5 dS]/\
 oK e=some lB:=⟨_,_,_,J,by kernel_rfl⟩
inductive kQ(K:W.Frag)(vs:List V)(H:Hp)(Q:VK)(e0:XK):Prop|mk:∀(a s:Addr)(ns:List Int),vs=[.ref a]->aI K H a s ns->(∀bx ss p v H',LH bx p ss->aG a H H'->aI K H' a s ns->Is H' (.tup [.tup [.int bx,.tup ss],.int p]) v->Q v H')->kQ K vs H Q e0
section
variable{K:W.Frag}
theorem Vj:aB ["deck","crew","deeds","boxes","p","scripts"] ["deck"] (zh xy):=.of
theorem FW(D:aR K mg "_law_e_loose_one" xy)(T:Txt K mg)(o1:Ok P w K mg base "_law_e_pick" 2 ["deck","many"] (dB K))(o2:Ok P w K mg base "_law_e_script" 5 ["deck","boxes","room","p"] (kJ K)):Ok P w K mg base "_law_e_loose_one" 6 ["deck"] (kQ K):=by
 refine wu D Vj λf b9 A a9 sh H vs Q E hr h=>?_;obtain⟨a,s,ns,rfl,hT,k⟩:=h;have L:=Vj.nd;have r2:=hr.mono (show 2<=5 by decide);obtain⟨eL,pL,qL,R,a5⟩:=BL;rw[R];refine⟨_,zd (jj (zl yk (AG a5 (by decide) (by decide)) (zy o1 r2 (za (aA 0) (za zc zb)))) (ju J (yn (zw (i:=1) L) (yn (zw (i:=2) L) (yn (zw (i:=3) L) ql))))) (zd (ya (i:=4) L (zy o1 r2 (za (aA 0) (za zc zb)))) (zd (yd (zp We (zx qe zc (aA 4)) (aA 2) (zm _)) (zf (ya (i:=4) L zc)) zt) (zd (ya (i:=5) L (w6 (own:=["hand"]) (cap:=[0,3,2,4]) J (yo (zh xy) J J (by decide+kernel) (by decide+kernel) (by decide+kernel) ⟨⟨_,J,.inl J,wr J⟩,⟨_,J,.inl J,wr J⟩,⟨_,J,.inl J,wr J⟩,⟨_,J,.inl J,wr J⟩,trivial⟩)
   (xk J T.range (za (aA 1) zb))
   (λ_ _ _ _=>zw (i:=0) (by show(["hand","deck","boxes","deeds","p"]:O Str).Nodup;decide+kernel)) (λ_ _ _ _=>yx)
   (λ_ _ _ _=>zy o2 hr (za (aA 1) (za (aA 2) (za (zx jw (aA 3) (zx qe zc (aA 4))) (za (aA 4) zb)))))) (hs:=by with_unfolding_all rfl))
  (zd (yd (zp y4 (zy o1 r2 (za (aA 0) (za zc zb))) zc (zm _)) (zf (ya (i:=5) L (w6 (own:=["hand"]) (cap:=[5]) J (yo (zh xy) J J (by decide+kernel) (by decide+kernel) (by decide+kernel) ⟨⟨_,J,.inl J,wr J⟩,trivial⟩)
    (xk J T.range (za (aA 1) zb))
    (λ_ _ _ _=>zw (i:=0) (by show(["hand","scripts"]:O Str).Nodup;decide+kernel)) (λ_ _ _ _=>yx)
    (λ_ _ _ _=>zl (r:=lm K) yk (aA 1) zc (λ_ _=>rfl))) (hs:=by with_unfolding_all rfl))) zt)
  (zf (zk (qo (za (qo (za (aA 3) (za (ym xa J T.tuple wj (za (aA 5) zb)) zb))) (za (aA 4) zb))))))))),?_⟩
 obtain⟨p0,r0,bA,_,_⟩:=hT.at';refine λlb xb H1 s1 af bl bd=>?_;have t1:=hT.same s1;refine⟨_,J,a,s,ns,6,J,t1,by decide,by decide,λj H2 j0 j1 b2 t2=>?_⟩;have ap:=b2 _ _ (λz=>by rw[z,bA]at af;cases af) bl;have ag:IsL H2 (lB.map tI) xb:=IsL.tups (t1.tups b2) (xn.all.mpr λt ht=>by obtain⟨g,_,rfl⟩:=bz.mp ht;exact aU g) bd;have U:j.toNat<lB.length:=by show j.toNat<6;omega
 obtain⟨x,hx,ix⟩:=ag.get (i:=j.toNat) (t:=tI lB[j.toNat]) (by rw[ba,ao U];rfl);obtain⟨c,d,u,ec,c1,c4,d2,d8,a7,bL,bq⟩:=xV lB[j.toNat] (List.getElem_mem U);rw[ec]at ix;have ej:j=((j.toNat:Nat):Int):=by omega
 refine⟨lb,xb,j,x,J,J,aE.of ap,by rw[ej];exact yq hx,?_⟩;obtain⟨am,xm,rfl,bv,v1,q1,rfl,i1,v2,q2,rfl,i2,v3,q3,rfl,i3,ah⟩:=ix;cases(show q3=[]from ah);cases(show v1=.int c from i1);cases(show v2=.int d from i2);cases(show v3=.int u from i3);refine⟨am,_,J,aD.of bv,J,_,_,J,_,_,J,_,_,J,J,?_⟩;have b0:aG a H H2:=s1.but.trans b2;refine⟨_,J,a,s,ns,3,J,t2,by decide,by decide,λp3 H3 x3 y3 b3 t3=>?_⟩;have bT:=b0.trans b3;dsimp only[v9,W2,Ends.sq,W3,tC,Yd];refine jz (t:=Qd _ _ _) (λo B=>∃p:Int,o=[some (.ref a),some (.int c),some (.int d),some (.int u),some (.int p),none]/\0<=p/\p<=2/\2*p<=d/\B=H3) ?_ (λr=>?_);rotate_left
 . refine⟨_,J,_,_,J,J,Ju (by decide),_,J,_,_,J,J,_,J,?_⟩;refine ye (λz=>?_) (λz=>?_)
   . exact r _ _ ⟨1,J,by decide,by decide,by omega,J⟩
   . have z:¬(2*p3>d):=λq=>z (aw q);exact r _ _ ⟨p3,J,x3,by omega,by omega,J⟩
 rintro o B ⟨p,rfl,N,M,bk,rfl⟩;refine⟨_,J,c,J,by omega,by omega,?_⟩;refine jq (lo:=0) (n:=c.toNat) (λj i F=>∃b:O L2.T,IsL F b i/\b.length=j/\(∀s∈b,∃m,s=L2.T.tup m/\bX u m/\m.length<=30/\yj m=bZ (2*p).toNat/\bU m/\(m.length:Int)<=d)/\aG a B F/\jB F a s) ⟨[],J,J,(λc hc=>by cases hc),aG.refl a B,t3.at'⟩
  (λj i F U ⟨b,h1,h2,_⟩=>by rw[h1.length];exact yb (by omega)) ?_ ?_
 . rintro j i F U ⟨b,h1,h2,W,h4,h5⟩;refine ko ?_;have Z:=t3.at2 h4 h5;refine⟨_,J,_,J,_,J,_,J,_,_,J,J,Ju (by decide),_,_,J,J,_,J,a,s,ns,u,d-2*p,p,J,Z,⟨a7,by omega⟩,⟨by omega,by omega⟩,⟨N,M⟩,Cc d2 d8 N M bk,λm v H5 g gy gk n b7 b5 t5 hv=>?_⟩;refine⟨b++[.tup m],IsL.append (IsL.tups (Z.tups b5) (LH.froD W) h1) (IsL.one hv),by rw[ay,bg,h2],λq hq=>?_,h4.trans b5,t5.at'⟩;rcases ck.mp hq with z|z
   . exact W q z
   . rw[bc.mp z];exact⟨m,J,g,n,gy,gk,by omega⟩
 rintro i F ⟨b,h1,h2,W,h4,h5⟩ l hl;have Z:=t3.at2 h4 h5;have s5:=Same.new hl (.lst i);have a4:upd F l (.lst i) l=some (.lst i):=ze;have a6:=h1.mono s5;generalize upd F l (.lst i)=H5 at s5 a4 a6⊢;have t5:=Z.same s5;have b5:aG a H H5:=bT.trans (h4.trans s5.but);have bo:l≠a:=by obtain⟨_,_,ha,_,_⟩:=Z.at';exact λz=>by rw[z,ha]at hl;cases hl
 dsimp only[v9,W2,Ends.sq,W3,tC,Yd];refine jz (t:=Qd _ _ _) (λo B=>∃(q:Y)(i:O V)(b:O L2.T),o=[some (.ref a),some (.int c),some (.int d),some (.int u),some (.int p),some (.ref q)]/\B q=some (.lst i)/\IsL B b i/\b.length=c.toNat/\(∀s∈b,∃m,s=L2.T.tup m/\bX u m/\m.length<=30/\yj m=bZ (2*p).toNat/\bU m/\(m.length:Int)<=d)/\aG a H B/\aI K B a s ns) ?_ (λr=>?_);rotate_left
 . refine ⟨_,J,a,s,ns,3,J,t5,by decide,by decide,λd6 H6 x6 y6 X t6=>⟨J,_,J,?_⟩⟩;have a3:=X _ _ bo a4;have y:IsL H6 b i:=IsL.tups (t5.tups X) (LH.froD W) a6;refine ye (λ_=>?_) (λ_=>?_)
   . refine⟨_,J,c,J,by omega,by omega,?_⟩;cases b with|nil=>exact absurd h2 (by show(0:Nat)≠_;omega)| cons s0 b4=>
       obtain⟨v0,b1,rfl,bb,b8⟩:=y;refine jq (lo:=0) (n:=c.toNat) (λj zs C=>C=H6/\zs=List.replicate j v0) ⟨J,J⟩ (λj zs C U ⟨_,e⟩=>by rw[e,dh];exact yb (by omega)) ?_ ?_
       . rintro j zs C U ⟨rfl,rfl⟩;refine ko ?_;exact⟨_,J,l,_,_,_,J,J,aE.of a3,(show bS _ ((0:Nat):Int)=_ from yq J),J,by rw[fw]⟩
       . rintro zs C ⟨rfl,rfl⟩ q hq;have G:=Same.new hq (.lst (List.replicate c.toNat v0));have a8:∀n:Nat,IsL C (List.replicate n s0) (List.replicate n v0):=λn=>by induction n with|zero=>exact rfl|succ n ih=>exact⟨v0,_,J,bb,ih⟩
         refine r _ _ ⟨q,_,List.replicate c.toNat s0,J,ze,(a8 c.toNat).mono G,dh,λz hz=>?_,b5.trans (X.trans G.but),t6.same G⟩;rw[(fi.mp hz).2];exact W s0 c8
   . exact r _ _ ⟨l,i,b,J,a3,y,h2,W,b5.trans X,t6⟩
 rintro o H6 ⟨q,i,b,rfl,bf,y,hn,bt,X,t6⟩;refine⟨_,J,_,J,q,i,J,.inl ⟨aE.of bf,λS ax=>?_⟩⟩;have s7:=Same.new ax (.tup i);have i7:Is (upd H6 S (.tup i)) (.tup b) (.ref S):=Is.newTup ax y;generalize upd H6 S (.tup i)=C at s7 i7⊢;refine⟨bF,λl8 av=>?_⟩;have G:=Same.new av (.tup [.int u,.ref S]);have i8:Is (upd C l8 (.tup [.int u,.ref S])) (.tup [.int u,.tup b]) (.ref l8):=Is.newTup av (IsL.two J i7);generalize upd C l8 (.tup [.int u,.ref S])=H8 at G i8⊢;refine⟨_,J,bF,λl9 au=>?_⟩;have s9:=Same.new au (.tup [.ref l8,.int p]);exact k u b p _ _ ⟨a7,bL,N,M,by omega,by omega,d,by rw[show(b.length:Int)=c by omega];exact bq,bt⟩ (X.trans (s7.trans (G.trans s9)).but) (t6.same (s7.trans (G.trans s9))) (Is.newTup au (IsL.two i8 J))
end
inductive Dd where|say (x:Str)|act (w:Str) (b n:Int) (r:List T)
noncomputable def Dd.t:Dd->T|.say x=>.tup [.str "say",.str x]|.act w b n r=>.tup (.str w::.int b::.int n::r)
variable{ln:Addr}{H H':Hp}{h:Int}{dss:List (List Dd)}{ns ps xs:List Int}{r:List V}{k:Nat}{v y:V}
def Dd.In(bx:Int):Dd->Prop|.say _=>True|.act w b _ r=>0<=b/\b<bx/\(bE w "skip"=true->∃m:Int,1<=m/\r=[.int m])
def Dd.NS:Dd->Prop|.say _=>True|.act w _ _ _=>bE w "say"=false
theorem j8{t:T}{lo a:Int}(h:yh t lo a=true):∃i,t=.int i/\lo<=i/\i<=a:=by cases t with| int i=>have h:(decide (lo<=i) && decide (i<=a))=true:=h;simp only[bj,decide_eq_true_eq]at h;exact⟨i,J,h.1,h.2⟩|_=>cases h
theorem A9{y:Str}(h:bE x y=true):x=y:=by have h:=bw h;exact V.str.inj h
theorem mY {t :T} (h:eA t bx beh=true):∃d:Dd,t=d.t/\d.In bx/\d.NS:=by
 cases t with
 | tup k=>
   cases k with
   |nil=>cases h
   | cons x r=>
     cases x with
     | str x =>
       have h:((decide (1<=r.length) && decide (r.length<=3)) && Vs x r bx beh)=true:=h;rw[bj]at h;have c:=h.2;unfold Vs at c;split at c
       . rename_i e
         have e:=A9 e;subst e;rw[bj,decide_eq_true_eq]at c;obtain⟨a,f⟩:=c
         match r,a with
         | [y],_=>
           have f:mV y=true:=f;cases y with
           |str y=>exact⟨.say y,J,trivial,trivial⟩
           |_=>cases f
       . rename_i e
         split at c
         . cases c
         . rename_i a
           match r,a with
           |[],a=>exact absurd (show(0:Nat)<2 by decide) a
           |[_],a=>exact absurd (show(1:Nat)<2 by decide) a
           | j::i::r,_=>
             rw[bj,bj]at c;obtain⟨u,s,g⟩:=c;obtain⟨b,rfl,q,A⟩:=j8 (show yh j 0 (bx-1)=true from u);obtain⟨n,rfl,w,v⟩:=j8 (show yh i 0 9=true from s);refine⟨.act x b n r,J,⟨q,by omega,λo=>?_⟩,(by show bE x "say"=false;cases z:bE x "say" with|true=>exact absurd z e|false=>rfl)⟩;rw[if_pos o,bj,decide_eq_true_eq]at g;obtain⟨a,p⟩:=g
             match r,a with
             | [z],_=>obtain⟨m,rfl,l,_⟩:=j8 (show yh z 1 beh=true from p);exact⟨m,l,J⟩
     |_=>cases h
 |_=>cases h
theorem Q6{c g:Type}{f:c->g}{P:c->Prop}:∀{l:List g},(∀b∈l,∃a,b=f a/\P a)->∃as:List c,l=as.map f/\∀a∈as,P a
 |[],_=>⟨[],J,λa h=>by cases h⟩
 | b::r,h=>by
   obtain⟨a,rfl,j⟩:=h b c8;obtain⟨as,e,i⟩:=Q6 (l:=r) λb k=>h b (ce _ k);refine⟨a::as,by rw[e];rfl,λx d=>?_⟩;rcases ai.mp d with rfl|d
   . exact j
   . exact i x d
noncomputable def bJ(B:List Dd):T:=.tup (B.map Dd.t)
noncomputable def hT(bx:Int)(B:List (List Dd)):T:=.tup [.int bx,.tup (B.map bJ)]
structure HD(bx:Int)(dss:List (List Dd)):Prop where
 b0:0<=bx
 b6:bx<=6
 n1:1<=dss.length
 n4:dss.length<=4
 few:∀ds∈dss,ds.length<=30
 each:∀ds∈dss,∀d∈ds,d.In bx
 good:xt (hT bx dss)=true
 wh:Wh (hT bx dss)
 fro:bI (hT bx dss)
 ns:∀ds∈dss,∀d∈ds,d.NS
 lay:∀ds∈dss,∀d∈ds,(aH d.t).canLay0=true
 sk:∀ds∈dss,∀(i:Nat) d,ds[i]?=some d->dZ d.t+i+1<=ds.length
structure WD(p:Int)(dss:List (List Dd)):Prop where
 p0:0<=p
 p2:p<=2
 says:∀ds∈dss,yj (ds.map Dd.t)=bZ (2*p).toNat
 nsk:∀ds∈dss,bU (ds.map Dd.t)
theorem Em(h:∀s∈ss,∃ts,s=L2.T.tup ts/\bX bx ts/\ts.length<=30/\yj ts=bZ (2*p).toNat/\bU ts):∀s∈ss,Ws s:=λs a=>by obtain⟨ts,rfl,g,_⟩:=h s a;exact λf e d c=>by cases e;obtain⟨i,b⟩:=List.mem_iff_getElem?.mp c;exact(g i d b).wd
theorem Xt(h:∀s∈ss,Ws s):lN (.tup ss):=λb e d a=>by cases e;exact h d a
theorem Xu:lN (.int i):=λa e=>by cases e
theorem zU(h:∀d∈ts,lN d):Wh (.tup ts):=λb e d a=>by cases e;exact h d a
theorem V5{x y:T}(c:lN x)(b:lN y):Wh (.tup [x,y]):=zU λd a=>by
 simp only[ai,az,or_false]at a;rcases a with rfl|rfl
 . exact c
 . exact b
theorem BK(L:LH bx p ss):xt (.tup [.int bx,.tup ss])=true/\Wh (.tup [.int bx,.tup ss]):=by
 have m:=L.b0;have l:=L.b2;have h:=L.n1;have f:=L.n4;refine⟨?_,V5 Xu (Xt (Em L.each))⟩;show(yh (.int bx) 0 6 && (wx (.tup ss) 1 4 && ss.all λs=>fA s bx))=true;rw[xx (by omega) (by omega)];have e:wx (.tup ss) 1 4=true:=by show(decide ((1:Int)<=(ss.length:Int)) && decide ((ss.length:Int)<=4))=true;rw[aw (by omega),aw (by omega)];rfl
 rw[e,bn,bn,dz];intro s c;obtain⟨a,rfl,g,n,j,k⟩:=L.each s c;show(wx (.tup a) 0 30 && kB a bx)=true;have d:wx (.tup a) 0 30=true:=by show(decide ((0:Int)<=(a.length:Int)) && decide ((a.length:Int)<=30))=true;rw[aw (by omega),aw (by omega)];rfl
 rw[d,bn];unfold kB;rw[dz];intro i b;have b:=de.mp b;rw[ar,ao b];exact(g i a[i] (ao b)).ok bx _ (cg _) (cg _)
theorem yR(L:LH bx p ss):∃dss,ss=dss.map bJ/\HD bx dss/\WD p dss:=by
 have y:=L.b0;have z:=L.b2;have k:=L.n1;have j:=L.n4;obtain⟨dss,e,h⟩:=Q6 (f:=bJ) (P:=λa=>a.length<=30/\(∀d∈a,d.In bx/\d.NS/\(aH d.t).canLay0=true)/\(∀(i:Nat) d,a[i]?=some d->dZ d.t+i+1<=a.length)/\yj (a.map Dd.t)=bZ (2*p).toNat/\bU (a.map Dd.t)) (l:=ss) λs r=>by
  obtain⟨m,rfl,g,n,w,x⟩:=L.each s r;obtain⟨a,e,h⟩:=Q6 (f:=Dd.t) (P:=λd=>d.In bx/\d.NS/\(aH d.t).canLay0=true) (l:=m) λt o=>by obtain⟨i,l⟩:=List.mem_iff_getElem?.mp o;obtain⟨d,rfl,v,u⟩:=mY ((g i t l).ok bx _ (cg _) (cg _));exact⟨d,J,v,u,(g i _ l).lay⟩
  subst e;refine⟨a,J,by rw[ae]at n;exact n,h,λi d e=>?_,w,x⟩;have q:=(g i d.t (by rw[ba,e];rfl)).sk;rw[ae]at q;omega
 have g:=BK L;have f:=LH.fro L.each;subst e;rw[ae]at k j;refine⟨dss,J,⟨y,by omega,k,j,λa b=>(h a b).1,λa b d c=>((h a b).2.1 d c).1,g.1,g.2,by unfold hT bI xn;exact⟨by unfold bI;trivial,by unfold xn;exact⟨by unfold bI;exact f,by unfold xn;trivial⟩⟩,λa b d c=>((h a b).2.1 d c).2.1,λa b d c=>((h a b).2.1 d c).2.2,λa b=>(h a b).2.2.1⟩,⟨L.p0,L.p2,λa b=>(h a b).2.2.2.1,λa b=>(h a b).2.2.2.2⟩⟩
structure SD(bx:Int)(dss:List (List Dd))(ps ns:List Int):Prop where
 lp:ps.length=dss.length
 ln:ns.length=bx.toNat
 p0:∀p∈ps,0<=p
 pl:∀k,ps.getD k 0<=((dss.getD k []).length:Int)
abbrev iX(x y:Int):Bool:=decide (V.int x=V.int y)
noncomputable def rM:List T->Int|.int m::_=>m|_=>0
noncomputable def cA(B:List (List Dd))(ps:List Int)(h:Nat):Option Dd:=(B.getD h [])[(ps.getD h 0).toNat]?
noncomputable def bB(ns:List Int):Dd->Bool|.say _=>false|.act w b n _=>bE w "same" && !iX (ns.getD b.toNat 0) n
noncomputable def nP(w:Str)(b n:Int)(ns:List Int):List Int:=if bE w "put"=true then ns.set b.toNat n else ns
noncomputable def nR(w:Str)(b n:Int)(ns:List Int):List Int:=if bE w "raise"=true then ns.set b.toNat ((ns.getD b.toNat 0+n)%10)else ns
noncomputable def pS(w:Str)(b n:Int)(r:List T)(ns:List Int):Int:=if(bE w "skip" && iX (ns.getD b.toNat 0) n)=true then rM r else 0
noncomputable def Jw:Dd->List Int->List Int|.say _,ns=>ns|.act w b n _,ns=>nR w b n (nP w b n ns)
noncomputable def Yu:Dd->List Int->Int|.say _,_=>0|.act w b n r,ns=>pS w b n r (nR w b n (nP w b n ns))
noncomputable def xf(B:List (List Dd))(ps ns:List Int)(h:Int):Option (List Int×List Int):=
 if h<0\/(B.length:Int)<=h then none
 else match cA B ps h.toNat with|none=>none|some d=>if bB ns d=true then none else some (ps.set h.toNat (ps.getD h.toNat 0+1+Yu d ns),Jw d ns)
theorem Xy(c:h<0\/(dss.length:Int)<=h):xf dss ps ns h=none:=if_pos c
theorem ud{h:Nat}(c:h<dss.length):xf dss ps ns (h:Int)=match cA dss ps h with|none=>none|some d=>if bB ns d=true then none else some (ps.set h (ps.getD h 0+1+Yu d ns),Jw d ns):=by unfold xf;rw[if_neg (by omega)];rfl
theorem Xz{h:Nat}(c:h<dss.length)(e:cA dss ps h=none):xf dss ps ns (h:Int)=none:=by rw[ud c,e]
theorem Yy{h:Nat}{d:Dd}(c:h<dss.length)(e:cA dss ps h=some d):xf dss ps ns (h:Int)=if bB ns d=true then none else some (ps.set h (ps.getD h 0+1+Yu d ns),Jw d ns):=by rw[ud c,e]
theorem vw{q:O Int×O Int}(e:xf dss ps ns h=some q):∃k:Nat,∃d,h=(k:Int)/\k<dss.length/\cA dss ps k=some d/\bB ns d=false/\q=(ps.set k (ps.getD k 0+1+Yu d ns),Jw d ns):=by
 by_cases c:h<0\/(dss.length:Int)<=h
 . rw[Xy c]at e;cases e
 . obtain⟨k,rfl⟩:=Int.eq_ofNat_of_zero_le (show 0<=h by omega);have a:k<dss.length:=by omega
   refine⟨k,?_⟩;cases f:cA dss ps k with|none=>rw[Xz a f]at e;cases e| some d=>rw[Yy a f]at e;cases b:bB ns d with|true=>rw[b]at e;cases e| false=>rw[b]at e;exact⟨d,J,a,J,b,(Option.some.inj e).symm⟩
theorem Yq{d:Dd}(h:HD bx dss)(e:cA dss ps k=some d):d.In bx:=by unfold cA at e;cases a:dss[k]? with|none=>rw[ar,a]at e;simp at e| some b=>rw[ar,a]at e;exact h.each b (br a) d (br e)
theorem FJ{d:Dd}:(Jw d ns).length=ns.length:=by cases d with|say x=>rfl| act w b n r=>show(nR w b n (nP w b n ns)).length=ns.length;unfold nR nP;split<;>split<;>simp
theorem pI{d:Dd}(h:d.In bx):0<=Yu d ns:=by
 cases d with|say x=>exact cg 0| act w b n r=>
   show 0<=pS w b n r (nR w b n (nP w b n ns));unfold pS;split
   . rename_i c
     rw[bj]at c;obtain⟨m,a,rfl⟩:=h.2.2 c.1;show 0<=m;omega
   . exact cg 0
theorem Bc{d:Dd}(h:d.In bx):Yu d ns<=(dZ d.t:Int):=by
 cases d with|say x=>exact cg 0| act w b n r=>
   show pS w b n r (nR w b n (nP w b n ns))<=_;unfold pS;split
   . rename_i c
     rw[bj]at c;obtain⟨m,a,rfl⟩:=h.2.2 c.1;show m<=((m.toNat:Nat):Int);omega
   . exact Int.natCast_nonneg _
theorem Z5(h:∀p∈ps,0<=p)(k:Nat):0<=ps.getD k 0:=by rw[ar];cases e:ps[k]? with|none=>exact cg 0|some p=>exact h p (br e)
theorem SD.step{l m:O Int}(i:HD bx dss)(a:SD bx dss ps ns)(e:xf dss ps ns h=some (l,m)):SD bx dss l m:=by
 obtain⟨k,d,rfl,g,b,u,s⟩:=vw e;cases s;refine⟨by rw[List.length_set];exact a.lp,by rw[FJ];exact a.ln,λp o=>?_,λj=>?_⟩;rotate_left
 . by_cases c:j=k
   . subst c;have f:j<ps.length:=by rw[a.lp];exact g
     have n:dss.getD j []=dss[j]:=by rw[ar,ao g];rfl
     have r:=Z5 a.p0 j;have q:=Bc (ns:=ns) (Yq i b);unfold cA at b;rw[n]at b;have t:=i.sk _ (List.getElem_mem g) _ _ b;rw[n,ar,List.getElem?_set_self f];show ps.getD j 0+1+Yu d ns<=_;omega
   . rw[ar,List.getElem?_set_ne (al c),<-ar];exact a.pl j
 have r:=Z5 a.p0 k;have q:=pI (ns:=ns) (Yq i b);rcases List.mem_or_eq_of_mem_set o with z|z
 . exact a.p0 p z
 . rw[z];omega
noncomputable def bN(B:List (List Dd))(ps ns:List Int):List Int:=((List.range B.length).map λ(i:Nat)=>(i:Int)).filter λh=>(xf B ps ns h).isSome
theorem Z0:h∈bN dss ps ns↔(xf dss ps ns h).isSome=true:=by unfold bN;rw[fq];refine⟨λq=>q.2,λq=>⟨?_,q⟩⟩;obtain⟨r,a⟩:=fz.mp q;obtain⟨k,d,rfl,b,_⟩:=vw a;exact bz.mpr ⟨k,de.mpr b,J⟩
noncomputable def zs(n:Nat):List Int:=List.replicate n 0
theorem SD.first:SD bx dss (zs dss.length) (zs bx.toNat):=⟨dh,dh,λp a=>by rw[(fi.mp a).2];exact cg 0,λk=>by
 have e:(zs dss.length).getD k 0=0:=by unfold zs;rw[ar,List.getElem?_replicate];split<;>rfl
 rw[e];exact Int.natCast_nonneg _⟩
theorem aU:∀ns:List Int,xn (iT ns)|[]=>by unfold iT xn;trivial|n::r=>by show xn (T.int n::iT r);unfold xn;exact⟨by unfold bI;trivial,aU r⟩
theorem Ym:bI (tt ps ns):=by unfold tt bI xn;exact⟨by unfold bI;exact aU ps,by unfold xn;exact⟨by unfold bI;exact aU ns,by unfold xn;trivial⟩⟩
theorem kh(h:Is H (hT bx dss) v):∃a as ss,v=.ref a/\H a=some (.tup [.int bx,.ref as])/\H as=some (.tup ss)/\IsL H (dss.map bJ) ss/\ss.length=dss.length:=by obtain⟨a,k,rfl,j,d,m,rfl,g,l,e,rfl,f,i⟩:=h;cases(show e=[]from i);cases(show d=.int bx from g);obtain⟨as,ss,rfl,b,c⟩:=f;exact⟨a,as,ss,J,j,b,c,by rw[c.length,ae]⟩
theorem Zr(h:Is H (tt ps ns) v):∃a p q,v=.ref a/\H a=some (.tup [.ref p,.ref q])/\H p=some (.tup (ps.map V.int))/\H q=some (.tup (ns.map V.int)):=by obtain⟨a,l,rfl,k,r,s,rfl,f,o,d,rfl,e,j⟩:=h;cases(show d=[]from j);obtain⟨p,n,rfl,i,c⟩:=f;obtain⟨q,m,rfl,g,b⟩:=e;rw[IsL.ints]at c b;subst c b;exact⟨a,p,q,J,k,i,g⟩
theorem Y4{p q a:Y}(c:H p=some (.tup (ps.map V.int)))(b:H q=some (.tup (ns.map V.int)))(d:H a=none):Is (upd H a (.tup [.ref p,.ref q])) (tt ps ns) (.ref a):=Is.newTup d (IsL.two ⟨p,_,J,c,IsL.ints.mpr J⟩ ⟨q,_,J,b,IsL.ints.mpr J⟩)
theorem mh{a:O V}(h:IsL H (dss.map bJ) a)(d:k<dss.length):∃b xs,a[k]?=some (.ref b)/\H b=some (.tup xs)/\IsL H ((dss.getD k []).map Dd.t) xs/\xs.length=(dss.getD k []).length:=by
 obtain⟨v,e,b,xs,rfl,f,c⟩:=h.get (i:=k) (t:=bJ dss[k]) (by rw[ba,ao d];rfl);have g:dss.getD k []=dss[k]:=by rw[ar,ao d];rfl
 rw[g];exact⟨b,xs,e,f,c,by rw[c.length,ae]⟩
theorem je(h:k<ns.length):(ns.map V.int)[k]?=some (.int (ns.getD k 0)):=by rw[ba,ar,ao h];rfl
theorem Za:(ns.map V.int).set k (.int n)=(ns.set k n).map V.int:=by rw[List.map_set]
theorem Kr(h:Is H (Dd.say x).t v):∃a,v=.ref a/\H a=some (.tup [.str "say",.str x]):=by obtain⟨a,j,rfl,i,c,k,rfl,f,b,d,rfl,e,g⟩:=h;cases(show d=[]from g);cases(show c=.str "say" from f);cases(show b=.str x from e);exact⟨a,J,i⟩
theorem Ks{r:O T}(h:Is H (Dd.act x b n r).t v):∃a vs,v=.ref a/\H a=some (.tup (.str x::.int b::.int n::vs))/\IsL H r vs:=by obtain⟨a,m,rfl,l,e,p,rfl,j,d,o,rfl,i,c,f,rfl,g,k⟩:=h;cases(show e=.str x from j);cases(show d=.int b from i);cases(show c=.int n from g);exact⟨a,f,J,l,k⟩
noncomputable abbrev Xi:Stmt:=top 33
noncomputable abbrev Yg:Stmt:=top 34
noncomputable abbrev Yh:Stmt:=top 35
noncomputable abbrev Vz:Stmt:=top 37
structure At(H:Hp)(bx:Int)(dss:List (List Dd))(ps ns:List Int)(vh vs:V):Prop where
 hd:HD bx dss
 sd:SD bx dss ps ns
 ih:Is H (hT bx dss) vh
 is:Is H (tt ps ns) vs
theorem At.same{a vs:V}(A:At H bx dss ps ns a vs)(s:Same H H'):At H' bx dss ps ns a vs:=⟨A.hd,A.sd,A.ih.mono s,A.is.mono s⟩
theorem At.tups{H c:Hp}{bx:Int}{a:O (O Dd)}{ps ns:O Int}{b vs:V}(A:At H bx a ps ns b vs)(s:qj H c):At c bx a ps ns b vs:=⟨A.hd,A.sd,A.ih.tups s A.hd.fro,A.is.tups s Ym⟩
theorem EI{h:Nat}{d:Dd}(c:h<dss.length)(e:cA dss ps h=some d):(xf dss ps ns (h:Int)).isSome= !bB ns d:=by rw[Yy c e];cases bB ns d<;>rfl
theorem cR{x:V}:bS (x::r) 0=some x:=(show bS (x::r) ((0:Nat):Int)=_ from yq J)
theorem cX{x:V}:bS (x::y::r) 1=some y:=(show bS (x::y::r) ((1:Nat):Int)=_ from yq J)
theorem at2{x z:V}:bS (x::y::z::r) 2=some z:=(show bS (x::y::z::r) ((2:Nat):Int)=_ from yq J)
theorem jY{x z u:V}:bS (x::y::z::u::r) 3=some u:=(show bS (x::y::z::u::r) ((3:Nat):Int)=_ from yq J)
inductive gB(vs:List V)(H:Hp)(Q:VK)(e0:XK):Prop|mk:∀bx dss ps ns vh vst (k:Nat),vs=[vh,vst,.int (k:Int)]->At H bx dss ps ns vh vst->k<dss.length->(cA dss ps k=none->Q .non H)->(∀d v,cA dss ps k=some d->Is H d.t v->Q v H)->gB vs H Q e0
inductive gC(vs:List V)(H:Hp)(Q:VK)(e0:XK):Prop|mk:∀bx dss ps ns vh vst (h:Int),vs=[vh,vst,.int h]->At H bx dss ps ns vh vst->(∀H',Same H H'->Q (.bl (xf dss ps ns h).isSome) H')->gC vs H Q e0
inductive gD(vs:List V)(H:Hp)(Q:VK)(e0:XK):Prop|mk:∀bx dss ps ns vh vst,vs=[vh,vst]->At H bx dss ps ns vh vst->(∀l H',Same H H'->H l=none->H' l=some (.lst ((bN dss ps ns).map V.int))->Q (.ref l) H')->gD vs H Q e0
inductive dY(vs:List V)(H:Hp)(Q:VK)(e0:XK):Prop|mk:∀bx dss vh,vs=[vh]->HD bx dss->Is H (hT bx dss) vh->(∀v H',Same H H'->Is H' (tt (zs dss.length) (zs bx.toNat)) v->Q v H')->dY vs H Q e0
section
variable{K:W.Frag}
theorem X2:aB ["house","stand","hand","script","place"] ["house","stand","hand"] (zh Yg):=.of
theorem Gc(D:aR K mg "next_deed" Yg)(T:Txt K mg):Ok P w K mg base "next_deed" 1 ["house","stand","hand"] gB:=by
 refine wu D X2 λf af A i s H vs Q E hr h=>?_;intro X;obtain⟨bx,e,d,ns,vh,u,k,rfl,A,o,C,B⟩:=h;have n:=X2.nd;refine⟨_,zd (ya (i:=3) n (zl zq (zl zq (aA 0) (y0 T.SCRIPTS)) (aA 2))) (zd (ya (i:=4) n (zl zq (zl zq (aA 1) (y0 T.PLACES)) (aA 2))) (zf (zk (DQ (Dz Qz Qy zc (aA 4) (zo zn (by rfl) T.len yi (za (aA 3) zb))) (zl zq (aA 3) (aA 4)) qd)))),?_⟩
 obtain⟨a,as,x,rfl,R,m,M,hn⟩:=kh A.ih;obtain⟨c,p,q,rfl,N,L,hq⟩:=Zr A.is;obtain⟨b,g,W,t,j,G⟩:=mh M o;have l:k<d.length:=by rw[A.sd.lp];exact o
 have S:=Z5 A.sd.p0 k;refine⟨_,J,a,_,_,_,J,J,aD.of R,J,_,J,as,x,_,_,J,J,aD.of m,yq W,?_⟩;refine⟨_,J,c,_,_,_,J,J,aD.of N,J,_,J,p,_,_,_,J,J,aD.of L,yq (je l),?_⟩;refine⟨_,J,0,_,J,J,_,J,?_⟩;rw[aw S];refine xu ⟨_,J,b,g,J,.inr (aD.of t),_,_,J,J,_,J,ye (λz=>?_) (λz=>?_)⟩
 . have z:=bw z;have r:(d.getD k 0).toNat<(e.getD k []).length:=by omega
   have Z:cA e d k=some ((e.getD k [])[(d.getD k 0).toNat]):=ao r;obtain⟨v,U,F⟩:=j.get (i:=(d.getD k 0).toNat) (t:=((e.getD k [])[(d.getD k 0).toNat]).t) (by rw[ba,ao r];rfl);exact⟨_,J,_,J,b,g,_,v,J,J,aD.of t,by rw[show d.getD k 0=(((d.getD k 0).toNat:Nat):Int)from by omega];exact yq U,B _ _ Z F⟩
 . have z:¬(d.getD k 0<(g.length:Int)):=λy=>z (aw y);exact C (by unfold cA;rw[fe];omega)
theorem X3:aB ["house","stand","hand","deed"] ["house","stand","hand"] (zh Yh):=.of
theorem Gb(D:aR K mg "may_go_on" Yh)(T:Txt K mg)(o1:Ok P w K mg base "is_within" 2 ["thing","least","most"] eF)(o2:Ok P w K mg base "next_deed" 1 ["house","stand","hand"] gB):Ok P w K mg base "may_go_on" 3 ["house","stand","hand"] gC:=by
 refine wu D X3 λf af A o s H S Q E M h=>?_;intro X;obtain⟨bx,i,Z,t,vh,R,h,rfl,A,u⟩:=h;have nd:=X3.nd;have U:=M.mono (show 1<=2 by decide);refine⟨_,zd (yd (xz (yz (zy o1 M (za (aA 2) (za zc (za (zx jw (zo zn (by rfl) T.len yi (za (zl zq (aA 0) (y0 T.SCRIPTS)) zb)) zc) zb)))))) (zf (zk xg)) zt) (zd (ya (i:=3) nd (zy o2 U (za (aA 0) (za (aA 1) (za (aA 2) zb))))) (zd (yd (zp pC (aA 3) qd (zm _)) (zf (zk xg)) zt) (zf (zk (rL (yy ji (zl zq (aA 3) zc) zu (zm _)) (qc (yy y4 (zl zq (zl zq (aA 1) (y0 T.NUMBERS)) (zl zq (aA 3) zc)) (zl zq (aA 3) zc) (zm _)))))))),?_⟩
 obtain⟨a,as,j,e0,ha,G,hl,hn⟩:=kh A.ih;subst e0;refine⟨_,J,_,J,a,_,_,_,J,J,aD.of ha,J,as,j,J,.inr (aD.of G),_,_,J,J,.int h,_,0,_,J,J,λm l=>⟨_,J,?_⟩⟩;by_cases c:h<0\/(i.length:Int)<=h
 . have e:yh (.int h) 0 ((j.length:Int)-1)=false:=by show(decide (0<=h) && decide (h<=(j.length:Int)-1))=false;rw[Bool.and_eq_false_iff,decide_eq_false_iff_not,decide_eq_false_iff_not];omega
   rw[e];have q:=u m l;rw[Xy c]at q;exact xu q
 . obtain⟨k,rfl⟩:=Int.eq_ofNat_of_zero_le (show 0<=h by omega);have B:k<i.length:=by omega
   have e:yh (.int (k:Int)) 0 ((j.length:Int)-1)=true:=xx (by omega) (by omega);rw[e];have N:=A.same l;refine yr ⟨_,J,_,J,_,J,bx,i,Z,t,_,_,k,J,N,B,λe=>?_,λd v e L=>?_⟩
   . refine⟨_,J,J,_,J,ye (λ_=>?_) (λz=>absurd (aw J) z)⟩;have q:=u m l;rw[Xz B e]at q;exact q
   . have q:=u m l;rw[EI B e]at q;obtain⟨c,p,W,e1,hc,hp,hq⟩:=Zr N.is;subst e1;cases d with| say x=>
       obtain⟨ad,rfl,g⟩:=Kr L;refine⟨_,J,J,_,J,ye (λz=>absurd (bw z) (λy=>by cases y)) (λ_=>?_)⟩;refine⟨_,J,ad,_,_,_,J,J,aD.of g,J,J,_,J,ye (λ_=>q) (λz=>absurd ?_ z)⟩;decide+kernel| act w b n r=>
       obtain⟨ad,S,rfl,g,_⟩:=Ks L;have F:=Yq A.hd e;have C:b.toNat<t.length:=by rw[A.sd.ln];have:=F.1;have:=F.2.1;omega
       have q:Q (.bl (!(bE w "same" && !iX (t.getD b.toNat 0) n))) m:=q;refine⟨_,J,J,_,J,ye (λz=>absurd (bw z) (λy=>by cases y)) (λ_=>?_)⟩;refine⟨_,J,ad,_,_,_,J,J,aD.of g,cR,J,_,J,ye (λz=>?_) (λz=>?_)⟩
       . have z:bE w "same"=false:=by simpa using z
         rw[z]at q;exact q
       . have z:bE w "same"=true:=by simpa using z
         rw[z,bn,Bool.not_not]at q;exact⟨_,J,c,_,_,_,J,J,aD.of hc,J,_,J,ad,_,_,_,J,J,aD.of g,cX,W,_,_,_,J,J,aD.of hq,by rw[show b=((b.toNat:Nat):Int)from by have:=F.1;omega];exact yq (je C),_,J,ad,_,_,_,J,J,aD.of g,at2,J,q⟩
theorem F7:aB ["house"] ["house"] (zh Xi):=.of
theorem rp(n:Nat):(List.replicate n [V.int 0]).flatten=(zs n).map V.int:=by induction n with|zero=>rfl|succ n a=>rw[List.replicate_succ,List.flatten_cons,a];rfl
theorem FS(D:aR K mg "at_first" Xi)(T:Txt K mg):Ok P w K mg base "at_first" 1 ["house"] dY:=by
 refine wu D F7 λf af A p s H vs Q E hr h=>?_;intro X;obtain⟨c,b,vh,rfl,B,ih,kk⟩:=h;refine⟨_,zf (zk (qo (za (ym xa J T.tuple wj (za (zx pE (vz (za zc zb)) (zo zn (by rfl) T.len yi (za (zl zq (aA 0) (y0 T.SCRIPTS)) zb))) zb)) (za (ym xa J T.tuple wj (za (zx pE (vz (za zc zb)) (zl zq (aA 0) (y0 T.BOXES))) zb)) zb)))),?_⟩
 obtain⟨a,as,l,e0,L,C,hl,hn⟩:=kh ih;subst e0;have n4:=B.n4;have b0:=B.b0;have b6:=B.b6;refine⟨by show 1<=sizeLine;decide,λk z=>?_⟩;have e:=Same.new z (.lst [.int 0]);have g1:upd H k (.lst [.int 0]) k=some (.lst [.int 0]):=ze;generalize upd H k (.lst [.int 0])=H1 at e g1⊢;refine⟨_,J,a,_,_,_,J,J,aD.of (e _ _ L),J,as,l,J,.inr (aD.of (e _ _ C)),k,_,_,J,J,g1,by omega,by omega,by show 1*((l.length:Nat):Int).toNat<=sizeLine;exact yb (by omega),λj y=>?_⟩;have e1:(List.replicate ((l.length:Nat):Int).toNat [V.int 0]).flatten=(zs b.length).map V.int:=by rw[cz,hn];exact rp _
 rw[e1];have G:=Same.new y (.lst ((zs b.length).map V.int));have g2:upd H1 j (.lst ((zs b.length).map V.int)) j=some (.lst ((zs b.length).map V.int)):=ze;generalize upd H1 j (.lst ((zs b.length).map V.int))=H2 at G g2⊢;refine⟨j,_,J,.inl ⟨aE.of g2,λr x=>?_⟩⟩;have F:=Same.new x (.tup ((zs b.length).map V.int));have S:upd H2 r (.tup ((zs b.length).map V.int)) r=some (.tup ((zs b.length).map V.int)):=ze;generalize upd H2 r (.tup ((zs b.length).map V.int))=H3 at F S⊢;refine⟨by show 1<=sizeLine;decide,λi v=>?_⟩;have o:=Same.new v (.lst [.int 0]);have R:upd H3 i (.lst [.int 0]) i=some (.lst [.int 0]):=ze;generalize upd H3 i (.lst [.int 0])=Z at o R⊢;have U:=e.trans (G.trans (F.trans o));refine⟨_,J,a,_,_,_,J,J,aD.of (U _ _ L),J,i,_,_,J,J,R,by omega,by omega,by show 1*c.toNat<=sizeLine;exact yb (by omega),λg u=>?_⟩;rw[rp];have n:=Same.new u (.lst ((zs c.toNat).map V.int));have N:upd Z g (.lst ((zs c.toNat).map V.int)) g=some (.lst ((zs c.toNat).map V.int)):=ze;generalize upd Z g (.lst ((zs c.toNat).map V.int))=W at n N⊢;refine⟨g,_,J,.inl ⟨aE.of N,λq t=>?_⟩⟩;have m:=Same.new t (.tup ((zs c.toNat).map V.int));have M:upd W q (.tup ((zs c.toNat).map V.int)) q=some (.tup ((zs c.toNat).map V.int)):=ze;generalize upd W q (.tup ((zs c.toNat).map V.int))=H6 at m M⊢;refine⟨bF,λl7 d=>?_⟩;exact kk _ _ (U.trans (n.trans (m.trans (Same.new d _)))) (Y4 (m _ _ (n _ _ (o _ _ S))) M d)
theorem DD:aB ["house","stand"] ["house","stand"] (zh Vz):=.of
theorem uJ(i:Nat):(((List.range (i+1)).map λ(j:Nat)=>(j:Int)).filter λh=>(xf dss ps ns h).isSome)=(((List.range i).map λ(j:Nat)=>(j:Int)).filter λh=>(xf dss ps ns h).isSome)++if(xf dss ps ns (i:Int)).isSome=true then[(i:Int)]else[]:=by rw[List.range_succ,be,List.filter_append];congr 1;show List.filter _ [(i:Int)]=_;rw[List.filter_cons];rfl
theorem Dc(D:aR K mg "going" Vz)(T:Txt K mg)(v:Ok P w K mg base "may_go_on" 3 ["house","stand","hand"] gC):Ok P w K mg base "going" 4 ["house","stand"] gD:=by
 refine wu D DD λf L A q s H N Q E y h=>?_;intro X;obtain⟨M,b,g,k,R,u,rfl,A,x⟩:=h;refine⟨_,zf (zk (w6 (own:=["hand"]) (cap:=[0,1]) J (yo (zh Vz) J J (by decide+kernel) (by decide+kernel) (by decide+kernel) ⟨⟨_,J,.inl J,wr J⟩,⟨_,J,.inl J,wr J⟩,trivial⟩)
  (xk J T.range (za (zo zn (by rfl) T.len yi (za (zl zq (aA 0) (y0 T.SCRIPTS)) zb)) zb))
  (λ_ _ _ _=>zw (i:=0) (by show(["hand","house","stand"]:O Str).Nodup;decide+kernel))
  (λ_ _ _ _=>V0 (yz (zy v y (za (aA 1) (za (aA 2) (za (aA 0) zb))))))
  (λ_ _ _ _=>aA 0))),?_⟩
 obtain⟨a,as,p,G,F,r,m,B⟩:=kh A.ih;subst G;have S:=A.hd.n4;refine⟨_,J,a,_,_,_,J,J,aD.of F,J,as,p,J,.inr (aD.of r),_,J,by omega,by omega,?_⟩;refine jq (lo:=0) (n:=((p.length:Nat):Int).toNat) (λj d n=>Same H n/\d=(((List.range j).map λ(i:Nat)=>(i:Int)).filter λh=>(xf b g k h).isSome).map V.int) ⟨Same.refl H,J⟩
  (λj d n C ⟨_,e⟩=>?_) ?_ ?_
 . rw[e,ae];refine c6 (gd _ _) ?_;rw[ae,da];exact yb (by omega)
 . rintro j d n C ⟨c,rfl⟩;refine⟨_,J,_,J,_,J,M,b,g,k,_,_,_,J,A.same c,λU t=>⟨_,J,?_⟩⟩;rw[Int.zero_add];refine ye (λz=>?_) (λz=>?_)
   . refine⟨_,J,c.trans t,?_⟩;rw[uJ,if_pos z,be];rfl
   . refine⟨c.trans t,?_⟩;rw[uJ,if_neg z,ez]
 . rintro d n ⟨c,rfl⟩ l m;have e:((List.range ((p.length:Nat):Int).toNat).map λ(i:Nat)=>(i:Int)).filter (λh=>(xf b g k h).isSome)=bN b g k:=by unfold bN;rw[cz,B]
   rw[e];refine x l _ (c.trans (Same.new m _)) ?_ ze;cases z:H l with|none=>rfl|some o=>rw[c _ _ z]at m;cases m
end
noncomputable abbrev pT:Stmt:=top 36
noncomputable abbrev pX:Stmt:=top 68
theorem Same.fresh{p:Y}{o:HO}(s:Same H H')(h:H p=none):Same H (upd H' p o):=λb u e=>by rw[zi (zj e h)];exact s b u e
structure dQ(H:Hp)(lp ln:Addr)(H':Hp)(ps ns:List Int):Prop where
 s:Same H H'
 np:H lp=none
 nn:H ln=none
 ne:lp≠ln
 p:H' lp=some (.lst (ps.map V.int))
 n:H' ln=some (.lst (ns.map V.int))
theorem dQ.setP{a:Y}{b:O Int}(t:dQ H a ln H' ps ns):dQ H a ln (upd H' a (.lst (b.map V.int))) b ns:=⟨Same.fresh t.s t.np,t.np,t.nn,t.ne,ze,by rw[zi (al t.ne)];exact t.n⟩
theorem dQ.setN{b:Y}{a:O Int}(t:dQ H b ln H' ps ns):dQ H b ln (upd H' ln (.lst (a.map V.int))) ps a:=⟨Same.fresh t.s t.nn,t.np,t.nn,t.ne,by rw[zi t.ne];exact t.p,ze⟩
theorem Wj{n:Nat}(h:k<n):fQ n (k:Int)=some k:=by unfold fQ;rw[if_pos (by omega),if_pos (by omega),cz]
theorem nC(a:0<=b)(h:b.toNat<xs.length):fQ (xs.map V.int).length b=some b.toNat:=by
 rw[ae]
 conv=>lhs;rw[show b=((b.toNat:Nat):Int)from by omega]
 exact Wj h
theorem Jm(a:0<=b)(h:b.toNat<xs.length):bS (xs.map V.int) b=some (.int (xs.getD b.toNat 0)):=by
 conv=>lhs;rw[show b=((b.toNat:Nat):Int)from by omega]
 exact yq (je h)
theorem Kj{w:Str}:(nP w b n ns).length=ns.length:=by unfold nP;split<;>simp
theorem Ki{w:Str}:(nR w b n ns).length=ns.length:=by unfold nR;split<;>simp
theorem sH{x:Int}(h:k<ps.length):(ps.set k x).getD k 0=x:=by rw[ar,List.getElem?_set_self h];rfl
theorem Vl:(decide (V.str "say"=V.str "put")=false)/\(decide (V.str "say"=V.str "raise")=false)/\(decide (V.str "say"=V.str "skip")=false)/\(decide (V.str "say"=V.str "same")=false):=by decide+kernel
inductive iO(vs:List V)(H:Hp)(Q:VK)(e0:XK):Prop|mk:∀bx dss ps ns vh vst (k:Nat) d,vs=[vh,vst,.int (k:Int)]->At H bx dss ps ns vh vst->k<dss.length->cA dss ps k=some d->(∀v H',Same H H'->Is H' (tt (ps.set k (ps.getD k 0+1+Yu d ns)) (Jw d ns)) v->Q v H')->iO vs H Q e0
inductive gx(vs:List V)(H:Hp)(Q:VK)(e0:XK):Prop|mk:∀bx dss ps ns vh vst (h:Int),vs=[vh,vst,.int h]->At H bx dss ps ns vh vst->(xf dss ps ns h=none->∀H',Same H H'->Q .non H')->(∀qs ms v H',xf dss ps ns h=some (qs,ms)->Same H H'->Is H' (tt qs ms) v->Q v H')->gx vs H Q e0
section
variable{K:W.Frag}
theorem vY:aB ["house","stand","hand","deed","places","numbers"] ["house","stand","hand"] (zh pT):=.of
theorem Dg(D:aR K mg "moved" pT)(T:Txt K mg)(o1:Ok P w K mg base "next_deed" 1 ["house","stand","hand"] gB):Ok P w K mg base "moved" 2 ["house","stand","hand"] iO:=by
 refine wu D vY λf a7 A ax s H vs Q E hr h=>?_;intro X;obtain⟨bx,a5,a,g,vh,M,k,d,rfl,A,hk,C,kk⟩:=h;have nd:=vY.nd;have L:k<a.length:=by rw[A.sd.lp];exact hk
 refine⟨_,zd (ya (i:=3) nd (zy o1 hr (za (aA 0) (za (aA 1) (za (aA 2) zb))))) (zd (ya (i:=4) nd (ym qa J T.list jg (za (zl zq (aA 1) (y0 T.PLACES)) zb))) (zd (ya (i:=5) nd (ym qa J T.list jg (za (zl zq (aA 1) (y0 T.NUMBERS)) zb))) (zd (ut (aA 4) (aA 2) vF zc rX vy) (zd (yd (zp y4 (zl zq (aA 3) zc) zu (zm _)) (zf (jj (zl zq (aA 3) zc) (Zx (aA 5) (zl zq (aA 3) zc) vy))) zt) (zd (yd (zp y4 (zl zq (aA 3) zc) zu (zm _)) (zf (jj (zx ke (zx yv (zl yk (aA 5) (zl zq (aA 3) zc)) (zl zq (aA 3) zc)) (zx yv (y0 T.MOST_NUMBER) zc)) (Zx (aA 5) (zl zq (aA 3) zc) vy))) zt) (zd (yd (PW.pt (Xk (zp y4 (zl zq (aA 3) zc) zu (zm _)) (Zv (zp y4 (zl yk (aA 5) (zl zq (aA 3) zc)) (zl zq (aA 3) zc) (zm _))))) (zf (ut (aA 4) (aA 2) vF (zl zq (aA 3) zc) rX vy)) zt) (zf (zk (qo (za (ym xa J T.tuple wj (za (aA 4) zb)) (za (ym xa J T.tuple wj (za (aA 5) zb)) zb))))))))))),?_⟩
 refine⟨_,J,_,J,_,J,bx,a5,a,g,_,_,k,J,A,hk,λe=>(by rw[C]at e;cases e),λd' v e iv=>?_⟩;rw[C]at e;cases e;obtain⟨c,p,q,e1,hc,hp,hq⟩:=Zr A.is;refine⟨_,J,c,_,_,_,e1,J,aD.of hc,J,p,_,J,.inr (aD.of hp),λj am=>?_⟩;have s1:=Same.new am (.lst (a.map V.int));have g1:upd H j (.lst (a.map V.int)) j=some (.lst (a.map V.int)):=ze;generalize a6:upd H j (.lst (a.map V.int))=H0 at s1 g1⊢;refine⟨_,J,c,_,_,_,e1,J,aD.of (s1 _ _ hc),J,q,_,J,.inr (aD.of (s1 _ _ hq)),λt y=>?_⟩;have t0:dQ H j t (upd H0 t (.lst (g.map V.int))) a g:=by
  have hn:H t=none:=by cases z:H t with|none=>rfl|some o=>rw[s1 _ _ z]at y;cases y
  have ne:j≠t:=λz=>by rw[<-z,g1]at y;cases y
  exact⟨s1.trans (Same.new y _),am,hn,ne,by rw[zi ne];exact g1,ze⟩
 generalize upd H0 t (.lst (g.map V.int))=H1 at t0⊢;refine⟨_,J,_,J,j,_,_,.int (a.getD k 0),J,J,by omega,aE.of t0.p,(by rw[cz];exact je L),_,_,J,J,j,_,_,k,J,J,t0.p,(by rw[ae];exact Wj L),?_⟩;rw[Za];have R:dQ H j t (upd H1 j (.lst ((a.set k (a.getD k 0+1)).map V.int))) (a.set k (a.getD k 0+1)) g:=t0.setP;generalize upd H1 j (.lst ((a.set k (a.getD k 0+1)).map V.int))=H1 at R⊢;cases d with| say x=>
   obtain⟨ad,rfl,G⟩:=Kr iv;dsimp only[v9,W2,Ends.sq,W3,tC,Yd];have i:=R.s _ _ G;refine⟨_,J,ad,_,_,_,J,J,aD.of i,cR,J,_,J,?_⟩;rw[Vl.1];refine yr ?_;refine⟨_,J,ad,_,_,_,J,J,aD.of i,cR,J,_,J,?_⟩;rw[Vl.2.1];refine yr ?_;refine⟨_,J,ad,_,_,_,J,J,aD.of i,cR,J,_,J,?_⟩;rw[Vl.2.2.1];refine yr (yr ?_);have e0:a.getD k 0+1+Yu (.say x) g=a.getD k 0+1:=Int.add_zero _;have N:=R;rw[e0]at kk;refine⟨_,J,j,_,J,.inl ⟨aE.of N.p,λZ ag=>?_⟩⟩;have U:=Same.new ag (.tup ((a.set k (a.getD k 0+1)).map V.int));have g7:upd H1 Z (.tup ((a.set k (a.getD k 0+1)).map V.int)) Z=some (.tup ((a.set k (a.getD k 0+1)).map V.int)):=ze;have n7:=U _ _ N.n;generalize upd H1 Z (.tup ((a.set k (a.getD k 0+1)).map V.int))=H7 at U g7 n7⊢;refine⟨_,J,t,_,J,.inl ⟨aE.of n7,λW af=>?_⟩⟩;have S:=Same.new af (.tup ((g).map V.int));have g8:upd H7 W (.tup ((g).map V.int)) W=some (.tup ((g).map V.int)):=ze;generalize upd H7 W (.tup ((g).map V.int))=H8 at S g8⊢;refine⟨bF,λl9 B=>?_⟩;exact kk _ _ (N.s.trans (U.trans (S.trans (Same.new B _)))) (Y4 (S _ _ g7) g8 B)| act w b n r=>
   obtain⟨ad,vs,rfl,G,a3⟩:=Ks iv;obtain⟨b0,b1,a4⟩:=Yq A.hd C;have av:b.toNat<g.length:=by rw[A.sd.ln];omega
   dsimp only[v9,W2,Ends.sq,W3,tC,Yd];refine jz (t:=Qd _ _ _) (λu H'=>u=[some vh,some M,some (.int (k:Int)),some (.ref ad),some (.ref j),some (.ref t)]/\dQ H j t H' (a.set k (a.getD k 0+1)) (nP w b n g)) ?_ (λl=>?_);rotate_left
   . have i:=R.s _ _ G;refine⟨_,J,ad,_,_,_,J,J,aD.of i,cR,J,_,J,ye (λz=>?_) (λz=>?_)⟩
     . refine⟨_,J,ad,_,_,_,J,J,aD.of i,at2,_,J,_,J,ad,_,_,_,J,J,aD.of i,cX,t,_,_,_,J,J,R.n,nC b0 av,l _ _ ⟨J,?_⟩⟩;rw[show nP w b n g=g.set b.toNat n from if_pos z,Za];exact R.setN
     . refine l _ _ ⟨J,?_⟩;rw[show nP w b n g=g from if_neg z];exact R
   rintro u H2 ⟨rfl,t2⟩;have F:b.toNat<(nP w b n g).length:=by rw[Kj];exact av
   dsimp only[v9,W2,Ends.sq,W3,tC,Yd];refine jz (t:=Qd _ _ _) (λu H'=>u=[some vh,some M,some (.int (k:Int)),some (.ref ad),some (.ref j),some (.ref t)]/\dQ H j t H' (a.set k (a.getD k 0+1)) (nR w b n (nP w b n g))) ?_ (λl=>?_);rotate_left
   . have i:=t2.s _ _ G;refine⟨_,J,ad,_,_,_,J,J,aD.of i,cR,J,_,J,ye (λz=>?_) (λz=>?_)⟩
     . refine⟨_,J,_,J,ad,_,_,_,J,J,aD.of i,cX,t,_,_,_,J,J,aE.of t2.n,Jm b0 F,_,J,ad,_,_,_,J,J,aD.of i,at2,_,_,J,J,_,_,J,J,_,_,J,J,(by show(0:Int)<_;decide),?_⟩;refine⟨_,J,_,J,ad,_,_,_,J,J,aD.of i,cX,t,_,_,_,J,J,t2.n,nC b0 F,l _ _ ⟨J,?_⟩⟩;rw[show nR w b n (nP w b n g)=(nP w b n g).set b.toNat (((nP w b n g).getD b.toNat 0+n)%10)from if_pos z,Za];exact t2.setN
     . refine l _ _ ⟨J,?_⟩;rw[show nR w b n (nP w b n g)=nP w b n g from if_neg z];exact t2
   rintro u H3 ⟨rfl,t3⟩;have au:b.toNat<(nR w b n (nP w b n g)).length:=by rw[Ki];exact F
   dsimp only[v9,W2,Ends.sq,W3,tC,Yd];refine jz (t:=Qd _ _ _) (λu H'=>u=[some vh,some M,some (.int (k:Int)),some (.ref ad),some (.ref j),some (.ref t)]/\dQ H j t H' (a.set k (a.getD k 0+1+pS w b n r (nR w b n (nP w b n g)))) (nR w b n (nP w b n g))) ?_ (λl=>?_);rotate_left
   . have i:=t3.s _ _ G;have no:(bE w "skip" && iX ((nR w b n (nP w b n g)).getD b.toNat 0) n)=false->dQ H j t H3 (a.set k (a.getD k 0+1+pS w b n r (nR w b n (nP w b n g)))) (nR w b n (nP w b n g)):=λz=>by unfold pS;rw[z,if_neg (by decide),Int.add_zero];exact t3
     refine⟨_,J,ad,_,_,_,J,J,aD.of i,cR,J,_,J,ye (λz=>?_) (λz=>?_)⟩
     . refine⟨_,J,_,J,ad,_,_,_,J,J,aD.of i,cX,t,_,_,_,J,J,aE.of t3.n,Jm b0 au,_,J,ad,_,_,_,J,J,aD.of i,at2,J,_,J,ye (λz2=>?_) (λz2=>?_)⟩
       . obtain⟨m,hm,er⟩:=a4 z;subst er;obtain⟨v3,q3,rfl,i3,ah⟩:=a3;cases(show q3=[]from ah);cases(show v3=.int m from i3);have ap:k<(a.set k (a.getD k 0+1)).length:=by rw[List.length_set];exact L
         have eS:pS w b n [.int m] (nR w b n (nP w b n g))=m:=by unfold pS;rw[if_pos (by rw[bj];exact⟨z,z2⟩)];rfl
         rw[eS]at l;refine⟨_,J,_,J,j,_,_,.int ((a.set k (a.getD k 0+1)).getD k 0),J,J,by omega,aE.of t3.p,(by rw[cz];exact je ap),_,J,ad,_,_,_,J,J,aD.of i,jY,_,_,J,J,j,_,_,k,J,J,t3.p,(by rw[ae];exact Wj ap),l _ _ ⟨J,?_⟩⟩;rw[Za,List.set_set,sH L];exact t3.setP
       . refine l _ _ ⟨J,no ?_⟩;rw[Bool.and_eq_false_iff];exact .inr (by simpa using z2)
     . refine yr (l _ _ ⟨J,no ?_⟩);rw[Bool.and_eq_false_iff];exact .inl (by simpa using z)
   rintro u H4 ⟨rfl,N⟩;refine⟨_,J,j,_,J,.inl ⟨aE.of N.p,λZ ag=>?_⟩⟩;have U:=Same.new ag (.tup ((a.set k (a.getD k 0+1+pS w b n r (nR w b n (nP w b n g)))).map V.int));have g7:upd H4 Z (.tup ((a.set k (a.getD k 0+1+pS w b n r (nR w b n (nP w b n g)))).map V.int)) Z=some (.tup ((a.set k (a.getD k 0+1+pS w b n r (nR w b n (nP w b n g)))).map V.int)):=ze;have n7:=U _ _ N.n;generalize upd H4 Z (.tup ((a.set k (a.getD k 0+1+pS w b n r (nR w b n (nP w b n g)))).map V.int))=H7 at U g7 n7⊢;refine⟨_,J,t,_,J,.inl ⟨aE.of n7,λW af=>?_⟩⟩;have S:=Same.new af (.tup ((nR w b n (nP w b n g)).map V.int));have g8:upd H7 W (.tup ((nR w b n (nP w b n g)).map V.int)) W=some (.tup ((nR w b n (nP w b n g)).map V.int)):=ze;generalize upd H7 W (.tup ((nR w b n (nP w b n g)).map V.int))=H8 at S g8⊢;refine⟨bF,λl9 B=>?_⟩;exact kk _ _ (N.s.trans (U.trans (S.trans (Same.new B _)))) (Y4 (S _ _ g7) g8 B)
end
theorem DI{d:TT}{b:TS}{D:Ends}{a:L2.St}{c:Bool}(g:∀Q:Bool->Hp->Prop,Q c H->d a H Q)(f:c=true->D.rt .non H)(e:c=false->b D a H):Qd d (rA (tC .non)) b D a H:=by refine g _ ?_;cases c with|true=>exact xu (f J)|false=>exact yr (e J)
section
variable{K:W.Frag}
theorem vK:aB ["house","stand","hand","places","boxes","deed","there","have"] ["house","stand","hand"] (zh pX):=.of
theorem Dk(D:aR K mg "_law_e_step" pX)(T:Txt K mg):Ok P w K mg base "_law_e_step" 1 ["house","stand","hand"] gx:=by
 refine wu D vK λf bd A a7 s H vs Q E hr h=>?_;intro X;obtain⟨bx,M,g,j,vh,ag,h,rfl,A,kn,ks⟩:=h;have nd:=vK.nd;refine⟨_,zd (jj (aA 1) (ju J (yn (zw (i:=3) nd) (yn (zw (i:=4) nd) ql)))) (zd (yd (PW.pt (w5 (zp Qy (aA 2) zc (zm _)) (w5 (zp mX (aA 2) (zo zn (by rfl) T.len yi (za (aA 3) zb)) (zm _)) (ww (zp mX (zl zq (aA 3) (aA 2)) (zo zn (by rfl) T.len yi (za (zl zq (zl zq (aA 0) zc) (aA 2)) zb)) (zm _)))))) (zf (zk qd)) zt) (zd (ya (i:=5) nd (zl zq (zl zq (zl zq (aA 0) zc) (aA 2)) (zl zq (aA 3) (aA 2)))) (zd (yd (PW.pt (Xk (zp y4 (zl zq (aA 5) zc) zu (zm _)) (Zv (zp ji (zl zq (aA 4) (zl zq (aA 5) zc)) (zl zq (aA 5) zc) (zm _))))) (zf (zk qd)) zt) (zd (ya (i:=6) nd (ym qa J T.list jg (za (aA 3) zb))) (zd (ya (i:=7) nd (ym qa J T.list jg (za (aA 4) zb))) (zd (jj (zx yv (zl yk (aA 6) (aA 2)) zc) (Zx (aA 6) (aA 2) vy)) (zd (yd (zp y4 (zl zq (aA 5) zc) zu (zm _)) (zf (jj (zl zq (aA 5) zc) (Zx (aA 7) (zl zq (aA 5) zc) vy))) zt) (zd (yd (zp y4 (zl zq (aA 5) zc) zu (zm _)) (zf (jj (zx ke (zx yv (zl yk (aA 7) (zl zq (aA 5) zc)) (zl zq (aA 5) zc)) zc) (Zx (aA 7) (zl zq (aA 5) zc) vy))) zt) (zd (yd (PW.pt (Xk (zp y4 (zl zq (aA 5) zc) zu (zm _)) (Zv (zp y4 (zl yk (aA 7) (zl zq (aA 5) zc)) (zl zq (aA 5) zc) (zm _))))) (zf (jj (zx yv (zl yk (aA 6) (aA 2)) (zl zq (aA 5) zc)) (Zx (aA 6) (aA 2) vy))) zt) (zf (zk (qo (za (ym xa J T.tuple wj (za (aA 6) zb)) (za (ym xa J T.tuple wj (za (aA 7) zb)) zb)))))))))))))),?_⟩
 obtain⟨c,p,q,e1,hc,hp,hq⟩:=Zr A.is;refine⟨_,J,c,_,e1,aD.of hc,J,_,_,J,_,_,J,J,?_⟩;obtain⟨a,as,ss,e0,ha,a6,hl,hn⟩:=kh A.ih;have S:=Same.refl H;refine⟨_,J,_,_,J,J,_,J,ye (λz=>?_) (λz=>?_)⟩
 . have z:=bw z;exact xu (kn (Xy (.inl z)) H S)
 have z:¬h<0:=λy=>z (aw y);refine⟨_,J,_,J,p,_,J,.inr (aD.of hp),_,_,J,J,_,J,ye (λN=>?_) (λN=>?_)⟩
 . have N:=bw N;rw[ae,A.sd.lp]at N;exact xu (kn (Xy (.inr N)) H S)
 have N:¬h≥((g.map V.int).length:Int):=λy=>N (aw y);rw[ae,A.sd.lp]at N;obtain⟨k,rfl⟩:=Int.eq_ofNat_of_zero_le (show 0<=h by omega);have hk:k<M.length:=by omega
 have L:k<g.length:=by rw[A.sd.lp];exact hk
 have h0:=Z5 A.sd.p0 k;obtain⟨b,xs,eb,hb,a8,a9⟩:=mh hl hk;refine⟨_,J,_,J,p,_,_,_,J,J,aD.of hp,yq (je L),_,J,a,_,_,_,e0,J,aD.of ha,J,_,J,as,ss,_,_,J,J,aD.of a6,yq eb,b,xs,J,.inr (aD.of hb),_,_,J,J,_,J,ye (λz3=>?_) (λz3=>?_)⟩
 . have z3:=bw z3;refine kn (Xz hk ?_) H S;unfold cA;rw[fe];omega
 have z3:¬g.getD k 0≥(xs.length:Int):=λy=>z3 (aw y);have hi:(g.getD k 0).toNat<(M.getD k []).length:=by omega
 have G:cA M g k=some ((M.getD k [])[(g.getD k 0).toNat]):=ao hi;obtain⟨v,ev,iv⟩:=a8.get (i:=(g.getD k 0).toNat) (t:=((M.getD k [])[(g.getD k 0).toNat]).t) (by rw[ba,ao hi];rfl);refine⟨_,J,a,_,_,_,e0,J,aD.of ha,J,_,J,as,ss,_,_,J,J,aD.of a6,yq eb,_,J,_,J,p,_,_,_,J,J,aD.of hp,yq (je L),b,xs,_,v,J,J,aD.of hb,(by rw[show g.getD k 0=(((g.getD k 0).toNat:Nat):Int)from by omega];exact yq ev),?_⟩;generalize (M.getD k [])[(g.getD k 0).toNat]=d at G iv;have ks:∀v Z,bB j d=false->Same H Z->Is Z (tt (g.set k (g.getD k 0+1+Yu d j)) (Jw d j)) v->Q v Z:=λv Z e s i=>ks _ _ v Z (by rw[Yy hk G,e];rfl) s i;have kn:bB j d=true->Q .non H:=λe=>kn (by rw[Yy hk G,e];rfl) H S;dsimp only[v9,W2,Ends.sq,W3];refine DI (c:=bB j d) ?_ ?_ (λa4=>?_);rotate_left
 . exact kn
 rotate_left
 . cases d with| say x=>
     obtain⟨ad,rfl,t⟩:=Kr iv;intro Q' q;refine⟨_,J,ad,_,_,_,J,J,aD.of t,cR,J,_,J,?_⟩;rw[Vl.2.2.2];exact yr q| act w b n r=>
     obtain⟨ad,vs,rfl,t,ap⟩:=Ks iv;obtain⟨b0,b1,au⟩:=Yq A.hd G;have af:b.toNat<j.length:=by rw[A.sd.ln];omega
     intro Q' q;have q:Q' (bE w "same" && !iX (j.getD b.toNat 0) n) H:=q;refine⟨_,J,ad,_,_,_,J,J,aD.of t,cR,J,_,J,ye (λz=>?_) (λz=>?_)⟩
     . rw[show bE w "same"=true from z,bn]at q;exact⟨_,J,_,J,ad,_,_,_,J,J,aD.of t,cX,_,_,_,_,J,J,aD.of hq,Jm b0 af,_,J,ad,_,_,_,J,J,aD.of t,at2,J,_,J,q⟩
     . rw[show bE w "same"=false by simpa using z,cp]at q;exact q
 refine⟨_,J,p,_,J,.inr (aD.of hp),λu ax=>?_⟩;have s1:=Same.new ax (.lst (g.map V.int));have g1:upd H u (.lst (g.map V.int)) u=some (.lst (g.map V.int)):=ze;generalize bb:upd H u (.lst (g.map V.int))=H0 at s1 g1⊢;refine⟨_,J,q,_,J,.inr (aD.of (s1 _ _ hq)),λC R=>?_⟩;have t0:dQ H u C (upd H0 C (.lst (j.map V.int))) g j:=by
  have hn:H C=none:=by cases z:H C with|none=>rfl|some o=>rw[s1 _ _ z]at R;cases R
  have ne:u≠C:=λz=>by rw[<-z,g1]at R;cases R
  exact⟨s1.trans (Same.new R _),ax,hn,ne,by rw[zi ne];exact g1,ze⟩
 generalize upd H0 C (.lst (j.map V.int))=H1 at t0⊢;refine⟨_,J,_,J,u,_,_,_,J,J,aE.of t0.p,yq (je L),_,_,J,J,_,J,_,J,u,_,_,k,J,J,t0.p,(by rw[ae];exact Wj L),?_⟩;rw[Za];have t1:dQ H u C (upd H1 u (.lst ((g.set k (g.getD k 0+1)).map V.int))) (g.set k (g.getD k 0+1)) j:=t0.setP;generalize upd H1 u (.lst ((g.set k (g.getD k 0+1)).map V.int))=H1 at t1⊢;cases d with| say x=>
   obtain⟨ad,rfl,t⟩:=Kr iv;dsimp only[v9,W2,Ends.sq,W3,tC,Yd];have l:=t1.s _ _ t;refine⟨_,J,ad,_,_,_,J,J,aD.of l,cR,J,_,J,?_⟩;rw[Vl.1];refine yr ?_;refine⟨_,J,ad,_,_,_,J,J,aD.of l,cR,J,_,J,?_⟩;rw[Vl.2.1];refine yr ?_;refine⟨_,J,ad,_,_,_,J,J,aD.of l,cR,J,_,J,?_⟩;rw[Vl.2.2.1];refine yr (yr ?_);have e0:g.getD k 0+1+Yu (.say x) j=g.getD k 0+1:=Int.add_zero _;have t4:=t1;rw[e0]at ks;refine⟨_,J,u,_,J,.inl ⟨aE.of t4.p,λl7 am=>?_⟩⟩;have s7:=Same.new am (.tup ((g.set k (g.getD k 0+1)).map V.int));have g7:upd H1 l7 (.tup ((g.set k (g.getD k 0+1)).map V.int)) l7=some (.tup ((g.set k (g.getD k 0+1)).map V.int)):=ze;have n7:=s7 _ _ t4.n;generalize upd H1 l7 (.tup ((g.set k (g.getD k 0+1)).map V.int))=H7 at s7 g7 n7⊢;refine⟨_,J,C,_,J,.inl ⟨aE.of n7,λl8 ah=>?_⟩⟩;have s8:=Same.new ah (.tup ((j).map V.int));have g8:upd H7 l8 (.tup ((j).map V.int)) l8=some (.tup ((j).map V.int)):=ze;generalize upd H7 l8 (.tup ((j).map V.int))=H8 at s8 g8⊢;refine⟨bF,λl9 U=>?_⟩;exact ks _ _ a4 (t4.s.trans (s7.trans (s8.trans (Same.new U _)))) (Y4 (s8 _ _ g7) g8 U)| act w b n r=>
   obtain⟨ad,vs,rfl,t,ap⟩:=Ks iv;obtain⟨b0,b1,au⟩:=Yq A.hd G;have af:b.toNat<j.length:=by rw[A.sd.ln];omega
   dsimp only[v9,W2,Ends.sq,W3,tC,Yd];refine jz (t:=Qd _ _ _) (λF Z=>F=[some vh,some ag,some (.int (k:Int)),some (.ref p),some (.ref q),some (.ref ad),some (.ref u),some (.ref C)]/\dQ H u C Z (g.set k (g.getD k 0+1)) (nP w b n j)) ?_ (λB=>?_);rotate_left
   . have l:=t1.s _ _ t;refine⟨_,J,ad,_,_,_,J,J,aD.of l,cR,J,_,J,ye (λz=>?_) (λz=>?_)⟩
     . refine⟨_,J,ad,_,_,_,J,J,aD.of l,at2,_,J,_,J,ad,_,_,_,J,J,aD.of l,cX,C,_,_,_,J,J,t1.n,nC b0 af,B _ _ ⟨J,?_⟩⟩;rw[show nP w b n j=j.set b.toNat n from if_pos z,Za];exact t1.setN
     . refine B _ _ ⟨J,?_⟩;rw[show nP w b n j=j from if_neg z];exact t1
   rintro F H2 ⟨rfl,t2⟩;have W:b.toNat<(nP w b n j).length:=by rw[Kj];exact af
   dsimp only[v9,W2,Ends.sq,W3,tC,Yd];refine jz (t:=Qd _ _ _) (λF Z=>F=[some vh,some ag,some (.int (k:Int)),some (.ref p),some (.ref q),some (.ref ad),some (.ref u),some (.ref C)]/\dQ H u C Z (g.set k (g.getD k 0+1)) (nR w b n (nP w b n j))) ?_ (λB=>?_);rotate_left
   . have l:=t2.s _ _ t;refine⟨_,J,ad,_,_,_,J,J,aD.of l,cR,J,_,J,ye (λz=>?_) (λz=>?_)⟩
     . refine⟨_,J,_,J,ad,_,_,_,J,J,aD.of l,cX,C,_,_,_,J,J,aE.of t2.n,Jm b0 W,_,J,ad,_,_,_,J,J,aD.of l,at2,_,_,J,J,_,_,J,J,(by show(0:Int)<_;decide),?_⟩;refine⟨_,J,_,J,ad,_,_,_,J,J,aD.of l,cX,C,_,_,_,J,J,t2.n,nC b0 W,B _ _ ⟨J,?_⟩⟩;rw[show nR w b n (nP w b n j)=(nP w b n j).set b.toNat (((nP w b n j).getD b.toNat 0+n)%10)from if_pos z,Za];exact t2.setN
     . refine B _ _ ⟨J,?_⟩;rw[show nR w b n (nP w b n j)=nP w b n j from if_neg z];exact t2
   rintro F H3 ⟨rfl,t3⟩;have a5:b.toNat<(nR w b n (nP w b n j)).length:=by rw[Ki];exact W
   dsimp only[v9,W2,Ends.sq,W3,tC,Yd];refine jz (t:=Qd _ _ _) (λF Z=>F=[some vh,some ag,some (.int (k:Int)),some (.ref p),some (.ref q),some (.ref ad),some (.ref u),some (.ref C)]/\dQ H u C Z (g.set k (g.getD k 0+1+pS w b n r (nR w b n (nP w b n j)))) (nR w b n (nP w b n j))) ?_ (λB=>?_);rotate_left
   . have l:=t3.s _ _ t;have no:(bE w "skip" && iX ((nR w b n (nP w b n j)).getD b.toNat 0) n)=false->dQ H u C H3 (g.set k (g.getD k 0+1+pS w b n r (nR w b n (nP w b n j)))) (nR w b n (nP w b n j)):=λz=>by unfold pS;rw[z,if_neg (by decide),Int.add_zero];exact t3
     refine⟨_,J,ad,_,_,_,J,J,aD.of l,cR,J,_,J,ye (λz=>?_) (λz=>?_)⟩
     . refine⟨_,J,_,J,ad,_,_,_,J,J,aD.of l,cX,C,_,_,_,J,J,aE.of t3.n,Jm b0 a5,_,J,ad,_,_,_,J,J,aD.of l,at2,J,_,J,ye (λN=>?_) (λN=>?_)⟩
       . obtain⟨m,hm,er⟩:=au z;subst er;obtain⟨v3,q3,rfl,i3,av⟩:=ap;cases(show q3=[]from av);cases(show v3=.int m from i3);have a3:k<(g.set k (g.getD k 0+1)).length:=by rw[List.length_set];exact L
         have eS:pS w b n [.int m] (nR w b n (nP w b n j))=m:=by unfold pS;rw[if_pos (by rw[bj];exact⟨z,N⟩)];rfl
         rw[eS]at B;refine⟨_,J,_,J,u,_,_,_,J,J,aE.of t3.p,yq (je a3),_,J,ad,_,_,_,J,J,aD.of l,jY,_,_,J,J,_,J,_,J,u,_,_,k,J,J,t3.p,(by rw[ae];exact Wj a3),B _ _ ⟨J,?_⟩⟩;rw[Za,List.set_set,sH L];exact t3.setP
       . refine B _ _ ⟨J,no ?_⟩;rw[Bool.and_eq_false_iff];exact .inr (by simpa using N)
     . refine yr (B _ _ ⟨J,no ?_⟩);rw[Bool.and_eq_false_iff];exact .inl (by simpa using z)
   rintro F H4 ⟨rfl,t4⟩;refine⟨_,J,u,_,J,.inl ⟨aE.of t4.p,λl7 am=>?_⟩⟩;have s7:=Same.new am (.tup ((g.set k (g.getD k 0+1+pS w b n r (nR w b n (nP w b n j)))).map V.int));have g7:upd H4 l7 (.tup ((g.set k (g.getD k 0+1+pS w b n r (nR w b n (nP w b n j)))).map V.int)) l7=some (.tup ((g.set k (g.getD k 0+1+pS w b n r (nR w b n (nP w b n j)))).map V.int)):=ze;have n7:=s7 _ _ t4.n;generalize upd H4 l7 (.tup ((g.set k (g.getD k 0+1+pS w b n r (nR w b n (nP w b n j)))).map V.int))=H7 at s7 g7 n7⊢;refine⟨_,J,C,_,J,.inl ⟨aE.of n7,λl8 ah=>?_⟩⟩;have s8:=Same.new ah (.tup ((nR w b n (nP w b n j)).map V.int));have g8:upd H7 l8 (.tup ((nR w b n (nP w b n j)).map V.int)) l8=some (.tup ((nR w b n (nP w b n j)).map V.int)):=ze;generalize upd H7 l8 (.tup ((nR w b n (nP w b n j)).map V.int))=H8 at s8 g8⊢;refine⟨bF,λl9 U=>?_⟩;exact ks _ _ a4 (t4.s.trans (s7.trans (s8.trans (Same.new U _)))) (Y4 (s8 _ _ g7) g8 U)
end
end My
namespace L2
open PySem PySem.Spec PyProof.Rows
inductive jF(x:V)(lo hi:Option Int)(H:Hp)(Q:VK):Prop|mk:∀ts,Is H (.tup ts) x->(∀v H',Same H H'->Is H' (.tup (Xq ts lo hi)) v->Q v H')->jF x lo hi H Q
theorem j9{X:Cx}:mF X jF:=by intro a s d H x v f e lo p j Q I l o n m h;obtain⟨g,c,q⟩:=h;exact oJ (S:=λ_=>False) a s d H x v f e lo p j Q I l o n m ⟨g,c.off0,λb z=>z.elim,λv r k i=>q v r k i.off⟩
theorem Z7{a:Type}(xs:O a)(k:Nat):Xq xs none (some (k:Int))=xs.take k:=by unfold Xq;rw[HT.mo,HT.nL,List.drop_zero,Nat.sub_zero,<-List.take_take,dl]
theorem BX{a:Type}(xs:O a)(i m:Nat):Xq xs (some (i:Int)) (some ((i:Int)+(m:Int)))=(xs.drop i).take m:=by
 unfold Xq;rw[show(i:Int)+(m:Int)=((i+m:Nat):Int)from by omega,HT.nL,HT.nL];by_cases h:i<=xs.length
 . rw[Nat.min_eq_left h];have e:min (i+m) xs.length-i=min m (xs.drop i).length:=by rw[List.length_drop];omega
   rw[e,<-List.take_take,dl]
 . rw[List.drop_eq_nil_of_le (show xs.length<=min i xs.length by omega),List.drop_eq_nil_of_le (show xs.length<=i by omega),List.take_nil,List.take_nil]
end L2
namespace My
open PySem PySem.Spec PyProof.Rows L2
variable{ds:List Dd}{r:List T}{i:Nat}{P:Program}{w:Str}{mg:Str->Option Value}
noncomputable abbrev Ye:Stmt:=top 69
noncomputable abbrev Y2:Stmt:=top 19
noncomputable abbrev pW:Stmt:=top 43
noncomputable abbrev X9:Stmt:=top 44
noncomputable abbrev pU:Stmt:=top 32
noncomputable abbrev pV:Stmt:=top 45
theorem sO(n:Nat):(zs n).map V.int=List.replicate n (V.int 0):=by unfold zs;rw[List.map_replicate]
theorem Same.none{H a:Hp}{l:Addr}(s:Same H a)(h:a l=none):H l=none:=by cases z:H l with|none=>rfl|some o=>rw[s _ _ z]at h;cases h
inductive iJ(vs:List V)(H:Hp)(Q:VK)(e0:XK):Prop|mk:∀(v:V)(ds:List Dd),vs=[v]->Is H (bJ ds) v->(∀d∈ds,d.NS)->ds.length<=1000->(∀l H',Same H H'->H l=none->H' l=some (.lst ((yj (ds.map Dd.t)).map V.str))->Q (.ref l) H')->iJ vs H Q e0
noncomputable def fP(B:List Dd)(i:Nat):Bool:=match B[i]? with|some (.act w _ _ [.int m])=>bE w "skip" && !(yj (((B.drop (i+1)).take m.toNat).map Dd.t)).isEmpty|_=>false
noncomputable def lY(B:List Dd):Bool:=(List.range B.length).any (fP B)
theorem ua{x:Str}(h:ds[i]?=some (.say x)):fP ds i=false:=by unfold fP;rw[h]
theorem px{b n m:Int}(h:ds[i]?=some (.act w b n [.int m])):fP ds i=(bE w "skip" && !(yj (((ds.drop (i+1)).take m.toNat).map Dd.t)).isEmpty):=by unfold fP;rw[h]
theorem sI{b n:Int}(h:ds[i]?=some (.act w b n r))(z:¬bE w "skip"=true):fP ds i=false:=by
 unfold fP;rw[h];split
 . rename_i e
   cases e;rw[Bool.eq_false_iff.mpr z];rfl
 . rfl
theorem ub(h:∀j,j<ds.length->fP ds j=false):lY ds=false:=by refine Bool.eq_false_iff.mpr λz=>?_;obtain⟨j,a,e⟩:=fu.mp z;rw[h j (de.mp a)]at e;cases e
theorem vO(a:i<ds.length)(h:fP ds i=true):lY ds=true:=fu.mpr ⟨i,de.mpr a,h⟩
inductive kL(vs:List V)(H:Hp)(Q:VK)(e0:XK):Prop|mk:∀(v:V)(ds:List Dd)(bx:Int),vs=[v]->Is H (bJ ds) v->(∀d∈ds,d.NS)->(∀d∈ds,d.In bx)->ds.length<=30->(∀H',Same H H'->Q (.bl (lY ds)) H')->kL vs H Q e0
theorem EB{d:Dd}(h:ds[i]?=some d):yj ((ds.take (i+1)).map Dd.t)=yj ((ds.take i).map Dd.t)++(qh d.t).toList:=by rw[dm,h,be,yt];congr 1
theorem DC(a:O T):(yj a).length<=a.length:=List.length_filterMap_le ..
section
variable{w:World}{K:W.Frag}{base:Heap}
theorem EC:aB ["house"] ["house"] (zh Ye):=.of
theorem Ep(D:aR K mg "_law_e_start" Ye)(T:Txt K mg):Ok P w K mg base "_law_e_start" 1 ["house"] dY:=by
 refine wu D EC λf af A q s H vs Q E hr h=>?_;intro X;obtain⟨g,b,vh,rfl,B,ih,kk⟩:=h;refine⟨_,zf (zk (qo (za (ym xa J T.tuple wj (za (w6 (own:=["script"]) (cap:=[]) J (yo (zh Ye) J J (by decide+kernel) (by decide+kernel) (by decide+kernel) trivial) (Zc (zl zq (aA 0) zc)) (λ_ _ _ _=>zw (i:=0) (by show(["script"]:O Str).Nodup;decide+kernel)) (λ_ _ _ _=>yx) (λ_ _ _ _=>zc)) zb))
  (za (ym xa J T.tuple wj (za (w6 (own:=["box"]) (cap:=[]) J (yo (zh Ye) J J (by decide+kernel) (by decide+kernel) (by decide+kernel) trivial) (xk J T.range (za (zl zq (aA 0) zc) zb)) (λ_ _ _ _=>zw (i:=0) (by show(["box"]:O Str).Nodup;decide+kernel)) (λ_ _ _ _=>yx) (λ_ _ _ _=>zc)) zb)) zb)))),?_⟩
 obtain⟨a,as,C,S,L,l,hl,hn⟩:=kh ih;have n4:=B.n4;have b0:=B.b0;have b6:=B.b6;refine⟨_,J,a,_,_,_,S,J,aD.of L,J,as,J,⟨C,aD.of l⟩,?_⟩;refine Zf (xs:=C) (λi c j=>Same H j/\c=List.replicate i (V.int 0)) ⟨Same.refl H,J⟩ (λi c j hi ⟨d,e⟩=>⟨aD.of (d _ _ l),by rw[e,dh];exact yb (by omega)⟩) ?_ ?_
 . rintro i z c j hx ⟨d,rfl⟩;refine ko ?_;exact⟨d,by rw[fw]⟩
 rintro c H1 ⟨s1,rfl⟩ n y;rw[hn];have G:=Same.new y (.lst (List.replicate b.length (V.int 0)));have g2:upd H1 n (.lst (List.replicate b.length (V.int 0))) n=some (.lst (List.replicate b.length (V.int 0))):=ze;generalize upd H1 n (.lst (List.replicate b.length (V.int 0)))=H2 at G g2⊢;refine⟨n,_,J,.inl ⟨aE.of g2,λt x=>?_⟩⟩;have F:=Same.new x (.tup (List.replicate b.length (V.int 0)));have R:upd H2 t (.tup (List.replicate b.length (V.int 0))) t=some (.tup (List.replicate b.length (V.int 0))):=ze;generalize upd H2 t (.tup (List.replicate b.length (V.int 0)))=H3 at F R⊢;have U:=s1.trans (G.trans F);refine⟨_,J,a,_,_,_,S,J,aD.of (U _ _ L),J,_,J,by omega,by omega,?_⟩;refine jq (lo:=0) (n:=g.toNat) (λi c j=>Same H3 j/\c=List.replicate i (V.int 0)) ⟨Same.refl H3,J⟩ (λi c j hi ⟨d,e⟩=>by rw[e,dh];exact yb (by omega)) ?_ ?_
 . rintro i c j hx ⟨d,rfl⟩;refine ko ?_;exact⟨d,by rw[fw]⟩
 rintro c Z ⟨d,rfl⟩ m v;have p:=Same.new v (.lst (List.replicate g.toNat (V.int 0)));have N:upd Z m (.lst (List.replicate g.toNat (V.int 0))) m=some (.lst (List.replicate g.toNat (V.int 0))):=ze;generalize upd Z m (.lst (List.replicate g.toNat (V.int 0)))=W at p N⊢;refine⟨m,_,J,.inl ⟨aE.of N,λr u=>?_⟩⟩;have o:=Same.new u (.tup (List.replicate g.toNat (V.int 0)));have M:upd W r (.tup (List.replicate g.toNat (V.int 0))) r=some (.tup (List.replicate g.toNat (V.int 0))):=ze;generalize upd W r (.tup (List.replicate g.toNat (V.int 0)))=H6 at o M⊢;refine⟨bF,λl7 k=>?_⟩;exact kk _ _ (U.trans (d.trans (p.trans (o.trans (Same.new k _))))) (Y4 (by rw[sO];exact o _ _ (p _ _ (d _ _ R))) (by rw[sO];exact M) k)
theorem FF:aB ["deeds"] ["deeds"] (zh Y2):=.of
theorem Fl(D:aR K mg "said_in" Y2)(T:Txt K mg):Ok P w K mg base "said_in" 1 ["deeds"] iJ:=by
 refine wu D FF λf Z A y s H S Q E hr h=>?_;intro X;obtain⟨v,k,rfl,W,B,hl,U⟩:=h;refine⟨_,zf (zk (w6 (own:=["deed"]) (cap:=[]) J (yo (zh Y2) J J (by decide+kernel) (by decide+kernel) (by decide+kernel) trivial) (Zc (aA 0)) (λ_ _ _ _=>zw (i:=0) (by show(["deed"]:O Str).Nodup;decide+kernel)) (λ_ _ _ _=>V0 (zp y4 (zl (r:=gM K) zq (aA 0) zc (λ_ _=>rfl)) zu (zm _))) (λ_ _ _ _=>zl (r:=gM K) zq (aA 0) zc (λ_ _=>rfl)))),?_⟩
 obtain⟨a,F,rfl,M,L⟩:=W;have j:=L.length;rw[ae]at j;refine⟨_,J,a,J,⟨F,aD.of M⟩,?_⟩;refine Zf (xs:=F) (λi p u=>Same H u/\p=(yj ((k.take i).map Dd.t)).map V.str) ⟨Same.refl H,J⟩ (λi p u C ⟨g,e⟩=>⟨aD.of (g _ _ M),?_⟩) ?_ ?_
 . rw[e,ae];refine c6 (DC _) ?_;rw[ae];exact yb (c6 (List.length_take_le _ _) (by omega))
 . rintro i z p u G ⟨g,rfl⟩;have C:i<k.length:=by rw[<-j];exact(c7.mp G).1
   have R:k[i]?=some k[i]:=ao C;obtain⟨t,N,m⟩:=L.get' G;rw[ba,R]at N;cases N;have m:=m.mono g;rw[EB R];have q:=B k[i] (List.getElem_mem C);generalize k[i]=d at m q⊢;cases d with| say x=>obtain⟨ad,rfl,c⟩:=Kr m;refine⟨_,J,ad,_,_,_,J,J,aD.of c,cR,J,_,J,?_⟩;refine ye (λ_=>?_) (λz=>absurd (by decide+kernel) z);exact⟨_,J,ad,_,_,_,J,J,aD.of c,cX,g,by rw[be];rfl⟩| act w b n r=>obtain⟨ad,S,rfl,c,_⟩:=Ks m;have q:bE w "say"=false:=q;refine⟨_,J,ad,_,_,_,J,J,aD.of c,cR,J,_,J,?_⟩;refine ye (λz=>absurd z (by rw[show decide (V.str w=V.str "say")=false from q];decide)) (λ_=>⟨g,?_⟩);rw[show(qh (Dd.act w b n r).t).toList=[]from rfl,ez]
 . rintro p u ⟨g,rfl⟩ l o;rw[j,dl];exact U l _ (g.trans (Same.new o _)) (Same.none g o) ze
theorem vJ:aB ["script","place","deed"] ["script"] (zh pW):=.of
theorem Dj(D:aR K mg "skips_a_say" pW)(T:Txt K mg)(o1:Ok P w K mg base "said_in" 1 ["deeds"] iJ):Ok P w K mg base "skips_a_say" 2 ["script"] kL:=by
 refine wu D vJ λf au A Z s H vs Q E hr h=>?_;intro X;obtain⟨v,c,bx,rfl,iv,ah,am,hl,kk⟩:=h;have nd:=vJ.nd;refine⟨_,zd (vo PassesOwn.never J (uq J T.enumerate (za (aA 0) zb)) (ju J (yn (zw (i:=1) nd) (yn (zw (i:=2) nd) ql))) (zf (yd (PW.pt (Xk (zp y4 (zl zq (aA 2) zc) zu (zm _)) (Zv (Qq (zy o1 hr (za (xi j9 (aA 0) (wc (zx yv (aA 1) zc)) (wc (zx yv (zx yv (aA 1) zc) (zl zq (aA 2) zc)))) zb)) (λ_=>rfl))))) (zf (zk xg)) zt)))
  (zf (zk xg)),?_⟩
 have ag:=iv;obtain⟨a,xs,rfl,ha,hx⟩:=iv;have q:=hx.length;rw[ae]at q;refine⟨_,J,a,xs,J,aD.of ha,?_⟩;refine CQ (K:=K) (a:=a) (xs:=xs) (λi N B=>∃nv U,N=[some (.ref a),nv,U]/\Same H B/\∀j,j<i->fP c j=false) ⟨none,none,J,Same.refl H,λj hj=>by omega⟩ (λi N B _ ⟨_,_,_,R,_⟩=>aD.of (R _ _ ha)) ?_ ?_
 . rintro i z N B p hz ⟨nv,U,rfl,W,g⟩ hp;have hi:i<c.length:=by rw[<-q];exact(c7.mp hz).1
   have M:c[i]?=some c[i]:=ao hi;obtain⟨t,et,F⟩:=hx.get' hz;rw[ba,M]at et;cases et;have R:=Same.new hp (.tup [.int i,z]);have gp:upd B p (.tup [.int i,z]) p=some (.tup [.int i,z]):=ze;generalize upd B p (.tup [.int i,z])=H2 at R gp⊢;have e:=W.trans R;have F:=F.mono e;have o:fP c i=false->∀j,j<i+1->fP c j=false:=λz j hj=>by
    rcases Nat.lt_or_eq_of_le (Nat.le_of_lt_succ hj)with y|y
    . exact g j y
    . rw[y];exact z
   have hD:=am c[i] (List.getElem_mem hi);refine⟨p,_,J,aD.of gp,J,_,_,J,_,_,J,J,?_⟩;generalize c[i]=d at F hD M⊢;cases d with
   | say x=>obtain⟨ad,rfl,k⟩:=Kr F;refine⟨_,J,ad,_,_,_,J,J,aD.of k,cR,J,_,J,?_⟩;rw[Vl.2.2.1];exact yr (yr ⟨_,_,J,e,o (ua M)⟩)
   | act w b n r=>
     obtain⟨ad,vs,rfl,k,af⟩:=Ks F;refine⟨_,J,ad,_,_,_,J,J,aD.of k,cR,J,_,J,ye (λz=>?_) (λz=>yr ⟨_,_,J,e,o (sI M z)⟩)⟩;obtain⟨m,hm,rfl⟩:=hD.2.2 z;obtain⟨v3,q3,rfl,i3,G⟩:=af;cases(show q3=[]from G);cases(show v3=.int m from i3);refine⟨_,J,_,J,_,_,J,J,_,J,_,J,_,_,J,J,_,J,ad,_,_,_,J,J,aD.of k,jY,_,_,J,J,_,J,c.map Dd.t,ag.mono e,λu H3 s3 iu=>?_⟩;have ec:Xq (c.map Dd.t) (some ((i:Int)+1)) (some ((i:Int)+1+m))=((c.drop (i+1)).take m.toNat).map Dd.t:=by rw[show(i:Int)+1=((i+1:Nat):Int)from by omega,show m=((m.toNat:Nat):Int)from by omega,BX,cz,List.map_take,List.map_drop]
     rw[ec]at iu;refine⟨u,_,J,iu,λd hd=>ah d (List.mem_of_mem_drop (List.mem_of_mem_take hd)),?_,λl H4 s4 ap L=>?_⟩
     . rw[bu,List.length_drop];omega
     have S:=px M;rw[show bE w "skip"=true from z,bn]at S;have C:=e.trans (s3.trans s4);generalize yj (((c.drop (i+1)).take m.toNat).map Dd.t)=sy at S L;refine⟨_,.inl ⟨_,aE.of L,J⟩,?_⟩;cases sy with
     |nil=>exact yr ⟨_,_,J,C,o S⟩
     | cons y r=>refine xu ?_;have k2:=kk _ C;rw[vO hi S]at k2;exact k2
 . rintro N B ⟨nv,U,rfl,W,g⟩;rw[q]at g;rw[ub g]at kk;exact kk _ W
end
end My
namespace L2
open PySem PySem.Spec PyProof.Rows
theorem IsL.strs{H:Hp}:∀{xs:List Str},IsL H (xs.map T.str) (xs.map V.str)|[]=>rfl|x::r=>⟨_,_,J,J,IsL.strs⟩
end L2
namespace My
open PySem PySem.Spec PyProof.Rows L2
variable{cH cW:Addr}{base:Heap}{H:Hp}{bx h:Int}{dss:List (List Dd)}{ds:List Dd}{ns ps us:List Int}{r:List T}{k:Nat}{P:Program}{x:Str}{mg:Str->Option Value}{w:World}
noncomputable abbrev X6:Stmt:=top 46
theorem uO:∀{ws:List Str},(∀x∈ws,(PyData.str x).canLay0=true)->PyData.canLayAll0 (wv (ws.map L2.T.str))=true|[],_=>rfl| x::r,h=>by rw[dv];unfold wv aH PyData.canLayAll0;rw[bj];exact⟨h x c8,uO λt a=>h t (ce _ a)⟩
theorem uN{ws:O Str}(h:∀x∈ws,(PyData.str x).canLay0=true):(aH (.lst (ws.map L2.T.str))).canLay0=true:=by unfold aH PyData.canLay0;exact uO h
theorem Ji:∀ws:List Str,PyData.depthAll (wv (ws.map L2.T.str))=0|[]=>rfl| x::r=>by rw[dv];unfold wv aH PyData.depthAll;rw[Ji r];rfl
theorem Fv(ws:O Str):(aH (.lst (ws.map L2.T.str))).depth<=20:=by unfold aH PyData.depth;rw[Ji];decide
theorem sT:∀a b:List Str,PyData.eqvAll (wv (a.map L2.T.str)) (wv (b.map L2.T.str))=decide (a=b)
 |[],[]=>by simp[wv,PyData.eqvAll]
 |[],y::r=>by simp[wv,PyData.eqvAll]
 |x::r,[]=>by simp[wv,PyData.eqvAll]
 | x::r,y::q=>by
   have c:=sT r q;simp only[dv,wv,aH,PyData.eqvAll,PyData.eqv];rw[c];by_cases h:x=y
   . subst h;simp
   . rw[bp (p:=x::r=y::q) (λz=>h (List.cons.inj z).1)];simp[h]
theorem CP(a b:O Str):PyData.eqv (aH (.lst (a.map L2.T.str))) (aH (.lst (b.map L2.T.str)))=decide (a=b):=by unfold aH PyData.eqv;exact sT a b
theorem EA(h:∀d∈ds,(aH d.t).canLay0=true):∀x∈yj (ds.map Dd.t),(PyData.str x).canLay0=true:=λx a=>by obtain⟨t,c,e⟩:=List.mem_filterMap.mp a;obtain⟨d,f,rfl⟩:=bz.mp c;have:=h d f;cases d with| say y=>cases(show some y=some x from e);simp only[Dd.t,aH,wv,PyData.canLay0,PyData.canLayAll0,bj]at this;exact this.2.1|act w b n r=>cases(show none=some x from e)
theorem C0{n:Nat}:∀x∈bZ n,(PyData.str x).canLay0=true:=λx a=>by obtain⟨k,_,rfl⟩:=bz.mp a;unfold iZ;split<;>kernel_rfl
theorem sC:∀n:Nat,(List.replicate n [V.str "come",V.str "go"]).flatten=(bZ (2*n)).map V.str|0=>rfl| n+1=>by rw[fw,List.flatten_append,sC n,show 2*(n+1)=2*n+1+1 from by omega,Jk,Jk,be,be,List.append_assoc];congr 1;rw[show iZ (2*n)="come" from by unfold iZ;simp,show iZ (2*n+1)="go" from by unfold iZ;simp[Nat.add_mod]];rfl
noncomputable def fW(p:Int)(B:List Dd):Bool:=decide (yj (B.map Dd.t)=bZ (2*p).toNat) && !(lY B)
noncomputable def xr(p:Int)(B:List (List Dd)):Bool:=(decide (0<=p) && decide (p<=15)) && B.all (fW p)
inductive kP(vs:List V)(H:Hp)(Q:VK)(e0:XK):Prop|mk:∀(vh:V)(bx p:Int)(dss:List (List Dd)),vs=[vh,.int p]->HD bx dss->Is H (hT bx dss) vh->(∀H',Same H H'->Q (.bl (xr p dss)) H')->kP vs H Q e0
inductive iM(cH:Addr)(vs:List V)(H:Hp)(Q:VK)(E:XK):Prop|mk:∀t v,vs=[v]->Is H t v->Wh t->(xt t=true->∀H',Same H H'->Q .non H')->(xt t=false->∀H',Same H H'->E (.ref cH) none H')->iM cH vs H Q E
inductive gA(cH cW:Addr)(vs:List V)(H:Hp)(Q:VK)(E:XK):Prop|mk:∀t v (p:Int),vs=[v,.int p]->Is H t v->Wh t->(xt t=false->∀H',Same H H'->E (.ref cH) none H')->(xt t=true->∃bx dss,HD bx dss/\Is H (hT bx dss) v/\(xr p dss=false->∀H',Same H H'->E (.ref cW) none H')/\(xr p dss=true->∀H',Same H H'->Q .non H'))->gA cH cW vs H Q E
noncomputable def Vq(x:Str):T:=.tup [.str "say",.str x]
noncomputable def gO(x:Str)(d:Dd):Bool:=PyData.eqv (aH d.t) (aH (Vq x))
noncomputable def lT(x:Str)(B:List Dd)(p:Int):Nat:=(B.take p.toNat).countP (gO x)
noncomputable def cF(x:Str)(B:List (List Dd))(ps:List Int):List Int:=(List.range B.length).map λk=>((lT x (B.getD k []) (ps.getD k 0):Nat):Int)
inductive iH(vs:List V)(H:Hp)(Q:VK)(e0:XK):Prop|mk:∀bx dss ps ns vh vst x,vs=[vh,vst,.str x]->At H bx dss ps ns vh vst->(aH (Vq x)).canLay0=true->(aH (Vq x)).depth<=20->(∀l H',Same H H'->H' l=some (.lst ((cF x dss ps).map V.int))->Q (.ref l) H')->iH vs H Q e0
def xU(K:W.Frag):TE:=rs eX (cU 0) (Ya (rB (Ya (tC (.str "say")) (Ya (cU 1) iG))) iG)
section
variable{K:W.Frag}
theorem Kc:aB ["house","p","wanted"] ["house","p"] (zh X9):=.of
theorem EY(D:aR K mg "is_loose_wall" X9)(T:Txt K mg)(o1:Ok P w K mg base "is_within" 2 ["thing","least","most"] eF)(o2:Ok P w K mg base "said_in" 1 ["deeds"] iJ)(o3:Ok P w K mg base "skips_a_say" 2 ["script"] kL):Ok P w K mg base "is_loose_wall" 3 ["house","p"] kP:=by
 refine wu D Kc λf af A F s H vs Q E u h=>?_;intro X;obtain⟨vh,bx,p,b,rfl,m,ih,kk⟩:=h;have nd:=Kc.nd;have r1:=u.mono (show 1<=2 by decide);refine⟨_,zd (yd (xz (yz (zy o1 u (za (aA 1) (za zc (za (y0 T.MOST_PHASES) zb)))))) (zf (zk xg)) zt) (zd (ya (i:=2) nd (zx pE (vz (za zu (za zu zb))) (aA 1))) (zf (zk (zo (qi J) J T.all Zg (za (w6 (own:=["script"]) (cap:=[2]) J (yo (zh X9) J J (by decide+kernel) (by decide+kernel) (by decide+kernel) ⟨⟨_,J,.inl J,wr J⟩,trivial⟩) (Zc (zl zq (aA 0) (y0 T.SCRIPTS))) (λ_ _ _ _=>zw (i:=0) (by show(["script","wanted"]:List Str).Nodup;decide+kernel)) (λ_ _ _ _=>yx)
   (λ_ _ _ _=>jb (yy (tK u.units) (zy o2 r1 (za (aA 0) zb)) (aA 1) (zm _)) (qc (pF (zy o3 u (za (aA 0) zb)))))) zb))))),?_⟩
 refine⟨_,J,.int p,_,0,_,J,J,λU s1=>⟨_,J,?_⟩⟩;rw[show yh (.int p) 0 15=(decide (0<=p) && decide (p<=15))from rfl];cases L:(decide (0<=p) && decide (p<=15))with| false=>refine xu ?_;have d:=kk U s1;unfold xr at d;rw[L,cp]at d;exact d|true=>
 have g:=L;rw[bj]at g;have p0:=bw g.1;have p2:=bw g.2;have W:=sC p.toNat;rw[show 2*p.toNat=(2*p).toNat from by omega]at W;refine yr ⟨by show 2<=sizeLine;decide,λr N=>?_⟩;have s2:=Same.new N (.lst [.str "come",.str "go"]);have g2:upd U r (.lst [.str "come",.str "go"]) r=some (.lst [.str "come",.str "go"]):=ze;generalize upd U r (.lst [.str "come",.str "go"])=H2 at s2 g2⊢;refine⟨_,J,r,_,_,J,J,g2,by omega,by omega,by show 2*p.toNat<=sizeLine;exact yb (by omega),λq M=>?_⟩;rw[W];have s3:=Same.new M (.lst ((bZ (2*p).toNat).map V.str));have g3:upd H2 q (.lst ((bZ (2*p).toNat).map V.str)) q=some (.lst ((bZ (2*p).toNat).map V.str)):=ze;generalize upd H2 q (.lst ((bZ (2*p).toNat).map V.str))=H3 at s3 g3⊢;have k:=s1.trans (s2.trans s3);obtain⟨a,as,Z,e0,ha,n,hl,hn⟩:=kh (ih.mono k);have n4:=m.n4;refine⟨_,J,a,_,_,_,e0,J,aD.of ha,J,as,J,⟨Z,aD.of n⟩,?_⟩;refine Zf (xs:=Z) (λi o B=>Same H3 B/\o=((b.take i).map (fW p)).map V.bl) ⟨Same.refl H3,J⟩ (λi o B x ⟨j,e⟩=>⟨aD.of (j _ _ n),by rw[e,ae,ae];exact yb (c6 (List.length_take_le _ _) (by omega))⟩) ?_ ?_
 . rintro i z o B hz ⟨j,rfl⟩;refine ko ?_;have x:i<b.length:=by rw[<-hn];exact(c7.mp hz).1
   obtain⟨t,et,G⟩:=hl.get' hz;rw[ba,ao x]at et;cases et;have v:=List.getElem_mem x;have S:=m.ns _ v;have h2:=m.each _ v;have h3:=m.few _ v;have h4:=m.lay _ v;have ed:(b.take (i+1)).map (fW p)=(b.take i).map (fW p)++[fW p b[i]]:=by rw[dm,ao x,be];rfl
   rw[ed,be];generalize b[i]=y at G S h2 h3 h4;refine⟨_,J,z,y,J,G.mono j,S,by omega,λl5 H5 C n5 g5=>?_⟩;have c:=j.trans C;refine⟨_,J,.lst ((yj (y.map Dd.t)).map L2.T.str),.lst ((bZ (2*p).toNat).map L2.T.str),⟨l5,_,J,g5,IsL.strs⟩,⟨q,_,J,c _ _ g3,IsL.strs⟩,uN (EA h4),uN C0,Fv _,_,J,?_⟩;rw[CP];unfold fW;cases hc:decide (yj (y.map Dd.t)=bZ (2*p).toNat)with|false=>exact yr ⟨c,J⟩|true=>exact xu ⟨_,J,z,y,bx,J,G.mono c,S,h2,h3,λH6 s6=>⟨_,J,c.trans s6,J⟩⟩
 . rintro o B ⟨j,rfl⟩ l R;rw[hn,dl];have C:=Same.new R (.lst ((b.map (fW p)).map V.bl));refine⟨l,_,J,aE.of ze,?_⟩;have d:=kk _ (k.trans (j.trans C));unfold xr at d;rw[L,bn]at d;rw[show(b.map (fW p)).all id=b.all (fW p)from by rw[List.all_map];rfl];exact d
theorem DE:aB ["thing"] ["thing"] (zh pU):=.of
theorem lZ{st:Stmt}{N ps:O Str}{sp:Sp}(D:aR K mg x st)(S:aB N ps (zh st))(c:∀(f:Y)(b:I)(A:Around)(a:O Env)(s:Shared)(H:Hp)(vs:O V)(Q:VK)(E:XK),aO k (A.deeper (envOfC x (zh st) s.heap.objs.size f b))->sp vs H Q E-> let X:=Yp (dN P w) P w K mg base N x (zh st) f b A a s H E;∃t,dR X (yg st) t/\t (.of Q) (start N vs) H) (d:∀vs H Q E,sp vs H Q E->vs.length=ps.length:=by intro _ _ _ _ h;cases h;subst_vars;rfl) (j:autoParam (∀(kV e pm:I)(n:Option Y)(b m:I)(us:O I),us.length=ps.length->bindArgs (W.fnOf x x (jf st) (yg st) (zh st) .none kV e pm n b m) ⟨us,[]⟩=pure (ps.zip us)) wQ._auto_1):cT P w K mg base x (k+1) ps sp:=by obtain⟨f,l,F,i⟩:=D;exact⟨f,l,F.okX S d (λb A a s H vs Q E g h=>c f b A a s H vs Q E g h),F.binds j,F.kp,i⟩
theorem Dh(D:aR K mg "need_loose" pU)(T:Txt K mg)(O:bO K mg base "NoHouse" cH)(e:Ok P w K mg base "is_loose" 5 ["thing"] (dG Wh xt)):cT P w K mg base "need_loose" 6 ["thing"] (iM cH):=by refine lZ D DE λf m A a s H n Q E k h=>?_;intro X;obtain⟨t,v,rfl,j,l,i,g⟩:=h;refine⟨_,zf (yd (xz (yz (zy e k (za (aA 0) zb)))) (zf (Qr O J)) zt),?_⟩;refine⟨_,J,t,v,J,j,l,λd b=>⟨_,J,?_⟩⟩;cases c:xt t with|true=>exact yr (i c d b)|false=>exact xu (g c d b)
theorem DF:aB ["house","p"] ["house","p"] (zh pV):=.of
theorem Di(D:aR K mg "need_loose_wall" pV)(T:Txt K mg)(O:bO K mg base "NoWall" cW)(l:cT P w K mg base "need_loose" 6 ["thing"] (iM cH))(k:Ok P w K mg base "is_loose_wall" 3 ["house","p"] kP):cT P w K mg base "need_loose_wall" 7 ["house","p"] (gA cH cW):=by
 refine lZ D DF λf z A d s H C Q E i h=>?_;intro X;obtain⟨t,v,p,rfl,u,y,q,o⟩:=h;refine⟨_,zd (we (ja l Yo i (za (aA 0) zb))) (zf (yd (xz (yz (zy k (i.mono (show 3<=6 by decide)) (za (aA 0) (za (aA 1) zb))))) (zf (Qr O J)) zt)),?_⟩
 refine⟨_,J,t,v,J,u,y,λc F b=>?_,q⟩;obtain⟨B,a,x,r,n,m⟩:=o c;refine⟨_,J,_,J,v,B,p,a,J,x,r.mono b,λj g=>⟨_,J,?_⟩⟩;cases e:xr p a with|true=>exact yr (m e j (b.trans g))|false=>exact xu (n e j (b.trans g))
theorem vL:aB ["house","stand","word","done"] ["house","stand","word"] (zh X6):=.of
theorem Dl(D:aR K mg "times_said" X6)(T:Txt K mg):Ok P w K mg base "times_said" 1 ["house","stand","word"] iH:=by
 refine wu D vL λf a3 A af s H vs Q E hr h=>?_;intro X;obtain⟨bx,g,n,ns,vh,av,x,rfl,A,lx,dx,kk⟩:=h;have nd:=vL.nd;refine⟨_,zd (ni (i:=3) (own:=["script","place"]) (cap:=[]) (g:=fM K 2 (bR (v9 0) (bR (v9 1) lU))) J (yo (zh X6) J J (by decide+kernel) (by decide+kernel) (by decide+kernel) trivial)
   (AI J T.zip (za (zl zq (aA 0) (y0 T.SCRIPTS)) (za (zl zq (aA 1) (y0 T.PLACES)) zb)))
   (λ_ _ _ _=>ju J (yn (zw (i:=0) (by show(["script","place"]:O Str).Nodup;decide+kernel)) (yn (zw (i:=1) (by show(["script","place"]:O Str).Nodup;decide+kernel)) ql))) (λ_ _ _ _=>yx)
   (λ_ _ _ _=>xi j9 (aA 0) wm (wc (aA 1))) nd J J (by with_unfolding_all rfl))
  (zf (zk (w6 (own:=["deeds"]) (cap:=[2]) J (yo (zh X6) J J (by decide+kernel) (by decide+kernel) (by decide+kernel) ⟨⟨_,J,.inl J,wr J⟩,trivial⟩) (te:=xU K) (w9 (aA 3)) (λ_ _ _ _=>zw (i:=0) (by show(["deeds","word"]:O Str).Nodup;decide+kernel)) (λ_ _ _ _=>yx)
   (λ_ _ _ _=>AC PySem.F.slot_tuple_count PySem.F.type_tuple_count (r:=eX) (EU (by exact hr.units)) (aA 0) (za (qo (za zu (za (aA 1) zb))) zb))))),?_⟩
 obtain⟨a,as,ss,e0,ha,M,hl,hn⟩:=kh A.ih;obtain⟨c,p,q,e1,hc,hp,hq⟩:=Zr A.is;have n4:=A.hd.n4;have lp:=A.sd.lp;refine⟨_,J,a,_,_,_,e0,J,aD.of ha,J,_,J,c,_,_,_,e1,J,aD.of hc,J,as,p,ss,_,J,M,hp,?_⟩;refine Aq (by rw[ae,hn,lp]) (λi m j=>Same H j/\IsL j ((List.range i).map λk=>bJ ((g.getD k []).take (n.getD k 0).toNat)) m) ⟨Same.refl H,J⟩ (λi m j G ⟨S,h4⟩=>⟨S _ _ M,S _ _ hp,by rw[h4.length,ae,da];exact yb (by omega)⟩) ?_ ?_
 . rintro i x1 z1 m j r hx L ⟨Z,h1⟩ o;have G:i<g.length:=by rw[<-hn];exact(c7.mp hx).1
   have ap:i<n.length:=by omega
   rw[je ap]at L;cases L;obtain⟨b,N,eb,W,F,ax⟩:=mh hl G;rw[eb]at hx;cases hx;have y:=Same.new o (.tup [.ref b,.int (n.getD i 0)]);have gr:upd j r (.tup [.ref b,.int (n.getD i 0)]) r=some (.tup [.ref b,.int (n.getD i 0)]):=ze;generalize upd j r (.tup [.ref b,.int (n.getD i 0)])=H2 at y gr⊢;have B:=Z.trans y;have h0:=Z5 A.sd.p0 i;refine⟨r,_,J,aD.of gr,J,_,_,J,_,_,J,J,?_⟩;refine nO ?_;refine⟨_,J,_,J,_,J,(g.getD i []).map Dd.t,⟨b,N,J,B _ _ W,F.mono B⟩,λu H3 v iu=>?_⟩;rw[show n.getD i 0=(((n.getD i 0).toNat:Nat):Int)from by omega,Z7,<-List.map_take]at iu;refine⟨B.trans v,?_⟩;rw[List.range_succ,be];exact IsL.append (h1.mono (y.trans v)) (IsL.one iu)
 rintro m H1 ⟨Z,h1⟩ U ah;have y:=Same.new ah (.lst m);have g2:upd H1 U (.lst m) U=some (.lst m):=ze;have h2:=h1.mono y;generalize upd H1 U (.lst m)=H2 at y g2 h2⊢;have C:=h2.length;rw[ae,da,hn]at C;refine⟨_,J,U,J,⟨m,aE.of g2⟩,?_⟩;refine kz (xs:=m) (λi zs j=>Same H2 j/\zs=((List.range i).map λk=>((lT x (g.getD k []) (n.getD k 0):Nat):Int)).map V.int) ⟨Same.refl H2,J⟩ (λi zs j G ⟨S,e⟩=>⟨aE.of (S _ _ g2),by rw[e,ae,ae,da];exact yb (by omega)⟩) ?_ ?_
 . rintro i z zs j L ⟨v,rfl⟩;refine ko ?_;have G:i<g.length:=by rw[<-C];exact(c7.mp L).1
   obtain⟨t,et,it⟩:=h2.get' L;rw[ba,List.getElem?_range (by omega)]at et;cases et;have ag:=it.mono v;obtain⟨b,N,rfl,W,F⟩:=ag;refine⟨_,J,⟨b,N,J,W⟩,_,J,by show 2<=sizeLine;decide,λr o=>?_⟩;have R:=Same.new o (.tup [.str "say",.str x]);have i5:Is (upd j r (.tup [.str "say",.str x])) (Vq x) (.ref r):=Is.newTup o (IsL.two J J);generalize upd j r (.tup [.str "say",.str x])=H5 at R i5⊢;have hm:g.getD i []∈g:=by rw[ar,ao G];exact List.getElem_mem G
   refine⟨_,Vq x,_,J,⟨b,N,J,R _ _ W,F.mono R⟩,i5,λt ht=>?_,lx,dx,v.trans R,?_⟩
   . obtain⟨d,au,rfl⟩:=bz.mp ht;exact A.hd.lay _ hm d (List.mem_of_mem_take au)
   . rw[List.countP_map,List.range_succ,be,be];rfl
 . rintro zs j ⟨v,rfl⟩ l am;rw[C];exact kk l _ ((Z.trans y).trans (v.trans (Same.new am _))) ze
end
noncomputable abbrev W8:Stmt:=top 47
noncomputable abbrev Y3:Stmt:=top 49
noncomputable abbrev Qp:Stmt:=top 50
noncomputable abbrev W4:Stmt:=top 52
noncomputable abbrev W7:Stmt:=top 56
noncomputable abbrev W6:Stmt:=top 57
theorem si:bootBuiltins "min"=some (.builtin "min"):=by decide+kernel
theorem Vy:(aH (Vq "go")).canLay0=true/\(aH (Vq "go")).depth<=20:=⟨by kernel_rfl,by decide+kernel⟩
theorem Ke:(aH (Vq "come")).canLay0=true/\(aH (Vq "come")).depth<=20:=⟨by kernel_rfl,by decide+kernel⟩
noncomputable def nN(B:List (List Dd))(ps:List Int)(k:Nat)(d:Dd):Bool:=gO "go" d && (cF "come" B ps).any λc=>decide (c<=(cF "go" B ps).getD k 0)
noncomputable def wz(B:List (List Dd)):List Int:=B.map λds=>(ds.length:Int)
noncomputable def Z1(B:List (List Dd))(ps ns:List Int):Bool:=decide (V.int ((bN B ps ns).length:Int)=V.int 0) && !decide (ps=wz B)
noncomputable def qv(B:List (List Dd)):List Int->List Int->List Int->Option (List Int×List Int)|ps,ns,[]=>some (ps,ns)| ps,ns,h::r=>match xf B ps ns h with|none=>none|some (F,ms)=>qv B F ms r
noncomputable def bV(B:List (List Dd))(ps ns:List Int)(h:Int):Bool:=match xf B ps ns h,cA B ps h.toNat with|some _,some d=>nN B ps h.toNat d|_,_=>false
noncomputable def Q9(bx:Int)(B:List (List Dd))(ws:List Int):Bool:=match ws.reverse with|[]=>false| h::r=>match qv B (zs B.length) (zs bx.toNat) r.reverse with|none=>false|some (ps,ns)=>bV B ps ns h
noncomputable def Q7(bx:Int)(B:List (List Dd))(ws:List Int):Bool:=match qv B (zs B.length) (zs bx.toNat) ws with|none=>false|some (ps,ns)=>Z1 B ps ns
theorem Q8:Q9 bx dss (us++[h])=match qv dss (zs dss.length) (zs bx.toNat) us with|none=>false|some (ps,ns)=>bV dss ps ns h:=by
 unfold Q9;rw[List.reverse_append];show(match qv dss (zs dss.length) (zs bx.toNat) us.reverse.reverse with|none=>false|some (ps,ns)=>bV dss ps ns h)=_
 rw[List.reverse_reverse]
theorem Qc:(cF x dss ps).length=dss.length:=by unfold cF;rw[ae,da]
inductive iQ(vs:List V)(H:Hp)(Q:VK)(e0:XK):Prop|mk:∀bx dss ps ns vh vst (k:Nat) d,vs=[vh,vst,.int (k:Int)]->At H bx dss ps ns vh vst->k<dss.length->cA dss ps k=some d->(∀H',Same H H'->Q (.bl (nN dss ps k d)) H')->iQ vs H Q e0
inductive lj(vs:List V)(H:Hp)(Q:VK)(e0:XK):Prop|mk:∀bx dss ps ns vh vst,vs=[vh,vst]->At H bx dss ps ns vh vst->(∀H',Same H H'->Q (.bl (decide (ps=wz dss))) H')->lj vs H Q e0
inductive dW(vs:List V)(H:Hp)(Q:VK)(e0:XK):Prop|mk:∀bx dss ps ns vh vst,vs=[vh,vst]->At H bx dss ps ns vh vst->(∀H',Same H H'->Q (.bl (Z1 dss ps ns)) H')->dW vs H Q e0
inductive iL(vs:List V)(H:Hp)(Q:VK)(e0:XK):Prop|mk:∀bx dss vh l (ws:List Int),vs=[vh,.ref l]->HD bx dss->Is H (hT bx dss) vh->H l=some (.lst (ws.map V.int))->(qv dss (zs dss.length) (zs bx.toNat) ws=none->∀H',Same H H'->Q .non H')->(∀ps ns v H',qv dss (zs dss.length) (zs bx.toNat) ws=some (ps,ns)->Same H H'->At H' bx dss ps ns vh v->Q v H')->iL vs H Q e0
inductive iR(cH cW:Addr)(vs:List V)(H:Hp)(Q:VK)(E:XK):Prop|mk:∀t v (p:Int) l (ws:List Int),vs=[v,.int p,.ref l]->Is H t v->Wh t->H l=some (.lst (ws.map V.int))->(xt t=false->∀H',Same H H'->E (.ref cH) none H')->(xt t=true->∃bx dss,HD bx dss/\Is H (hT bx dss) v/\(xr p dss=false->∀H',Same H H'->E (.ref cW) none H')/\(xr p dss=true->∀H',Same H H'->Q (.bl (Q9 bx dss ws)) H'))->iR cH cW vs H Q E
inductive iI(cH:Addr)(vs:List V)(H:Hp)(Q:VK)(E:XK):Prop|mk:∀t v l (ws:List Int),vs=[v,.ref l]->Is H t v->Wh t->H l=some (.lst (ws.map V.int))->(xt t=false->∀H',Same H H'->E (.ref cH) none H')->(xt t=true->∃bx dss,HD bx dss/\Is H (hT bx dss) v/\(∀H',Same H H'->Q (.bl (Q7 bx dss ws)) H'))->iI cH vs H Q E
theorem u8{i:Nat}(a:i<dss.length):dss.getD i []∈dss:=by rw[ar,ao a];exact List.getElem_mem a
theorem BV{d:Dd}(h:HD bx dss)(a:k<dss.length)(e:cA dss ps k=some d):(aH d.t).canLay0=true:=by unfold cA at e;exact h.lay _ (u8 a) d (br e)
section
variable{K:W.Frag}
theorem Fz:aB ["house","stand","hand"] ["house","stand","hand"] (zh W8):=.of
theorem Fg(D:aR K mg "is_early_go" W8)(T:Txt K mg)(N:Ok P w K mg base "next_deed" 1 ["house","stand","hand"] gB)(F:Ok P w K mg base "times_said" 1 ["house","stand","word"] iH):Ok P w K mg base "is_early_go" 2 ["house","stand","hand"] iQ:=by
 refine wu D Fz λf af A t s H vs Q E o h=>?_;intro X;obtain⟨B,a,g,u,p,i,k,d,rfl,A,y,b,U⟩:=h;refine⟨_,zd (yd (zp (DM o.units) (zy N o (za (aA 0) (za (aA 1) (za (aA 2) zb)))) (qo (za zu (za zu zb))) (zm _)) (zf (zk xg)) zt) (zf (zk (yy mX (zl yk (zy F o (za (aA 0) (za (aA 1) (za zu zb)))) (aA 2)) (zo (Ku J) J T.min si (za (zy F o (za (aA 0) (za (aA 1) (za zu zb)))) zb)) (zm _)))),?_⟩
 have n1:=A.hd.n1;refine⟨_,J,_,J,_,J,B,a,g,u,p,i,k,J,A,y,λe=>(by rw[b]at e;cases e),λd' v e W=>?_⟩;rw[b]at e;cases e;refine⟨by show 2<=sizeLine;decide,λr l=>?_⟩;have j:=Same.new l (.tup [.str "say",.str "go"]);have G:Is (upd H r (.tup [.str "say",.str "go"])) (Vq "go") (.ref r):=Is.newTup l (IsL.two J J);generalize upd H r (.tup [.str "say",.str "go"])=H1 at j G⊢;refine⟨d.t,Vq "go",W.mono j,G,BV A.hd y b,Vy.1,Vy.2,_,J,?_⟩;have q:=U;unfold nN gO at q;cases c:PyData.eqv (aH d.t) (aH (Vq "go"))with
 | false=>rw[c,cp]at q;exact xu (q H1 j)
 | true=>
   rw[c,bn]at q;refine yr ⟨_,J,_,J,B,a,g,u,p,i,"go",J,A.same j,Vy.1,Vy.2,λS H2 C g2=>?_⟩;have x:k<(cF "go" a g).length:=by rw[Qc];exact y
   refine⟨_,J,S,_,_,_,J,J,aE.of g2,yq (je x),?_⟩;refine⟨_,J,_,J,B,a,g,u,p,i,"come",J,A.same (j.trans C),Ke.1,Ke.2,λR L M g3=>?_⟩;refine⟨R,_,J,aE.of g3,λz=>?_,λm Z n=>⟨_,_,J,J,?_⟩⟩
   . have:(cF "come" a g).length=0:=by rw[z];rfl
     rw[Qc]at this;omega
   . have e:decide (m<=(cF "go" a g).getD k 0)=(cF "come" a g).any λc=>decide (c<=(cF "go" a g).getD k 0):=by
      rw[Bool.eq_iff_iff,fu,decide_eq_true_eq];constructor
      . intro h;exact⟨m,Z,aw h⟩
      . rintro⟨c,hc,h⟩;have:=n c hc;have:=bw h;omega
     show Q (.bl (decide (m<=(cF "go" a g).getD k 0))) L;rw[e];exact q L (j.trans (C.trans M))
theorem Fy:aB ["house","stand"] ["house","stand"] (zh Y3):=.of
theorem Ff(D:aR K mg "has_done_all" Y3)(T:Txt K mg):Ok P w K mg base "has_done_all" 1 ["house","stand"] lj:=by
 refine wu D Fy λf af A x s H vs Q E W h=>?_;intro X;obtain⟨bx,d,k,ns,vh,R,rfl,A,S⟩:=h;refine⟨_,zf (zk (yy (tK W.units) (ym qa J T.list jg (za (zl zq (aA 1) (y0 T.PLACES)) zb)) (w6 (own:=["script"]) (cap:=[]) J (yo (zh Y3) J J (by decide+kernel) (by decide+kernel) (by decide+kernel) trivial) (Zc (zl zq (aA 0) (y0 T.SCRIPTS))) (λ_ _ _ _=>zw (i:=0) (by show(["script"]:O Str).Nodup;decide+kernel)) (λ_ _ _ _=>yx) (λ_ _ _ _=>zo (r:=lW K) zn (by rfl) T.len yi (za (aA 0) zb))) (zm _))),?_⟩
 obtain⟨a,as,g,e0,ha,o,hl,M⟩:=kh A.ih;obtain⟨c,p,q,e1,hc,Z,hq⟩:=Zr A.is;have n4:=A.hd.n4;refine⟨_,J,c,_,_,_,e1,J,aD.of hc,J,p,_,J,.inr (aD.of Z),λt C=>?_⟩;have m:=Same.new C (.lst (k.map V.int));have g1:upd H t (.lst (k.map V.int)) t=some (.lst (k.map V.int)):=ze;generalize upd H t (.lst (k.map V.int))=N at m g1⊢;refine⟨_,J,a,_,_,_,e0,J,aD.of (m _ _ ha),J,as,J,⟨g,aD.of (m _ _ o)⟩,?_⟩;refine Zf (xs:=g) (λi r n=>Same N n/\r=((wz d).take i).map V.int) ⟨Same.refl N,J⟩ (λi r n u ⟨j,e⟩=>⟨aD.of (j _ _ (m _ _ o)),?_⟩) ?_ ?_
 . rw[e,ae];exact yb (c6 (List.length_take_le _ _) (by omega))
 . rintro i z r n y ⟨j,rfl⟩;refine ko ?_;have u:i<d.length:=by rw[<-M];exact(c7.mp y).1
   obtain⟨b,L,eb,hb,U,B⟩:=mh hl u;rw[eb]at y;cases y;refine⟨_,J,b,L,J,.inr (aD.of (j _ _ (m _ _ hb))),j,?_⟩;have eg:(wz d)[i]?=some (L.length:Int):=by unfold wz;rw[ba,ao u,B,ar,ao u];rfl
   rw[dm,eg,be];rfl
 . rintro r n ⟨j,rfl⟩ l F;have v:=Same.new F (.lst (((wz d).take g.length).map V.int));have G:upd n l (.lst (((wz d).take g.length).map V.int)) l=some (.lst (((wz d).take g.length).map V.int)):=ze;generalize upd n l (.lst (((wz d).take g.length).map V.int))=H5 at v G⊢;have el:(wz d).take g.length=wz d:=by rw[M,List.take_of_length_le];unfold wz;rw[ae];exact aj _
   rw[el]at G;refine⟨.lst (iT k),.lst (iT (wz d)),⟨t,_,J,v _ _ (j _ _ g1),IsL.ints.mpr J⟩,⟨l,_,J,G,IsL.ints.mpr J⟩,Z2 _,Z2 _,Vh _,?_⟩;rw[show id (PyData.eqv (aH (.lst (iT k))) (aH (.lst (iT (wz d)))))=decide (k=wz d)from sU _ _];exact S _ (m.trans (j.trans v))
theorem ED:aB ["house","stand"] ["house","stand"] (zh Qp):=.of
theorem Es(D:aR K mg "stops" Qp)(T:Txt K mg)(o:Ok P w K mg base "going" 4 ["house","stand"] gD)(n:Ok P w K mg base "has_done_all" 1 ["house","stand"] lj):Ok P w K mg base "stops" 5 ["house","stand"] dW:=by
 refine wu D ED λf r A e s H v Q E j h=>?_;intro X;obtain⟨k,a,d,g,i,b,rfl,A,p⟩:=h;refine⟨_,zf (zk (jb (yy y4 (zo zn (by rfl) T.len yi (za (zy o j (za (aA 0) (za (aA 1) zb))) zb)) zc (zm _)) (qc (pF (zy n (j.mono (show 1<=4 by decide)) (za (aA 0) (za (aA 1) zb))))))),?_⟩;refine⟨_,J,_,J,k,a,d,g,i,b,J,A,λl u c x g1=>?_⟩;refine⟨l,_,J,.inl (aE.of g1),J,_,J,?_⟩;have q:=p;unfold Z1 at q;rw[ae];refine ye (λz=>?_) (λz=>?_)
 . rw[z,bn]at q;exact⟨_,J,_,J,k,a,d,g,i,b,J,A.same c,λt m=>⟨_,J,q t (c.trans m)⟩⟩
 . have z:decide (V.int ((bN a d g).length:Int)=V.int 0)=false:=by simpa using z
   rw[z,cp]at q;exact q u c
theorem Wg:W.kitOne K (.type "list") (.type "list")=some true:=by kernel_rfl
theorem uf{l:Y}{ws:O Int}(h:H l=some (.lst (ws.map V.int))):bW K H (.ref l) (.type "list"):=(show Is H (.lst (iT ws)) (.ref l)from⟨l,_,J,h,IsL.ints.mpr J⟩).ty
theorem Qh:aB ["house","weaving","stand","hand"] ["house","weaving"] (zh W4):=.of
theorem Fn(D:aR K mg "stand_by" W4)(T:Txt K mg)(o1:Ok P w K mg base "at_first" 1 ["house"] dY)(o2:Ok P w K mg base "may_go_on" 3 ["house","stand","hand"] gC)(o3:Ok P w K mg base "moved" 2 ["house","stand","hand"] iO):Ok P w K mg base "stand_by" 4 ["house","weaving"] iL:=by
 refine wu D Qh λf af A B s H vs Q E G h=>?_;intro X;obtain⟨j,a,m,l,ws,rfl,r,S,L,k1,k2⟩:=h;have C:=Qh.nd;refine⟨_,zd (yd (xz (yz (jv T.isi T.list jg (aA 1)))) (zf Dy) zt) (zd (ya (i:=2) C (zy o1 (G.mono (show 1<=3 by decide)) (za (aA 0) zb))) (zd (vo PassesOwn.never J (w9 (aA 1)) (zw (i:=3) C) (zd (yd (xz (yz (zy o2 G (za (aA 0) (za (aA 2) (za (aA 3) zb)))))) (zf (zk qd)) zt) (zf (ya (i:=2) C (zy o3 (G.mono (show 2<=3 by decide)) (za (aA 0) (za (aA 2) (za (aA 3) zb))))))))
  (zf (zk (aA 2))))),?_⟩
 refine⟨_,J,_,"list",_,_,J,uf L,Wg,_,J,yr ?_⟩;refine⟨_,J,j,a,m,J,r,S,λv0 H0 z i0=>?_⟩;refine⟨_,J,l,J,⟨_,aE.of (z _ _ L)⟩,?_⟩;refine ki (xs:=ws.map V.int) (λi o N=>∃b c v t,o=[some m,some (.ref l),some v,t]/\Same H N/\qv a (zs a.length) (zs j.toNat) ws=qv a b c (ws.drop i)/\At N j a b c m v) ⟨_,_,v0,none,J,z,J,⟨r,SD.first,S.mono z,i0⟩⟩ (λi o N _ ⟨_,_,_,_,_,s',_⟩=>aE.of (s' _ _ L)) ?_ ?_
 . rintro i x o W F ⟨b,c,v,t,rfl,p,g,n⟩;have U:i<ws.length:=by rw[<-ae (f:=V.int)];exact(c7.mp F).1
   rw[ba,ao U]at F;cases F;have ed:ws.drop i=ws[i]::ws.drop (i+1):=List.drop_eq_getElem_cons U;rw[ed]at g;generalize ws[i]=h at g;refine⟨_,J,_,J,_,J,j,a,b,c,m,v,h,J,n,λH2 y=>⟨_,J,?_⟩⟩;cases e:xf a b c h with
   | none=>refine xu (k1 ?_ H2 (p.trans y));rw[g];unfold qv;rw[e]
   | some q=>
     obtain⟨qs,ms⟩:=q;obtain⟨k,d,rfl,hk,e1,e2,e3⟩:=vw e;cases e3;have M:qv a (zs a.length) (zs j.toNat) ws=qv a (b.set k (b.getD k 0+1+Yu d c)) (Jw d c) (ws.drop (i+1)):=by
      rw[g]
      conv=>lhs;unfold qv
      rw[e]
     have Z:=n.same y;refine yr ⟨_,J,_,J,_,J,j,a,b,c,m,v,k,d,J,Z,hk,e1,λu H3 R iu=>?_⟩;exact⟨_,_,u,_,J,p.trans (y.trans R),M,⟨r,n.sd.step r e,Z.ih.mono R,iu⟩⟩
 . rintro o W ⟨b,c,v,t,rfl,p,g,n⟩;rw[ae,List.drop_length]at g;exact⟨_,J,k2 b c v W (by rw[g];rfl) p n⟩
theorem pA{v:V}(h:Is H (tt ps ns) v):v≠ .non:=by obtain⟨a,p,q,rfl,_⟩:=Zr h;exact λz=>by cases z
theorem Qk:aB ["house","p","weaving","stand"] ["house","p","weaving"] (zh W7):=.of
theorem CJ(us:O V)(h:V):iD (us++[h]) none (some (-1))=us:=by
 unfold iD;rw[HT.mo,List.drop_zero,Nat.sub_zero];have e:HT.bC (us++[h]).length (us++[h]).length (some (-1))=us.length:=by have:=HT.fF (-1) (us++[h]).length (us++[h]).length;rw[if_pos (by decide),ay,bg]at this;rw[ay,bg];omega
 rw[e,List.take_left'];rfl
theorem Fi(D:aR K mg "is_early" W7)(T:Txt K mg)(o1:cT P w K mg base "need_loose_wall" 7 ["house","p"] (gA cH cW))(o2:Ok P w K mg base "stand_by" 4 ["house","weaving"] iL)(o3:Ok P w K mg base "may_go_on" 3 ["house","stand","hand"] gC)(o4:Ok P w K mg base "is_early_go" 2 ["house","stand","hand"] iQ):cT P w K mg base "is_early" 8 ["house","p","weaving"] (iR cH cW):=by
 refine lZ D Qk λf af A L s H vs Q E C h=>?_;intro X;obtain⟨t,o,p,l,ws,rfl,it,hW,hl,k1,k2⟩:=h;have nd:=Qk.nd;refine⟨_,zd (we (ja o1 Yo C (za (aA 0) (za (aA 1) zb)))) (zd (yd (PW.pt (w5 (xz (yz (jv T.isi T.list jg (aA 2)))) (ww (zp y4 (zo zn (by rfl) T.len yi (za (aA 2) zb)) zc (zm _))))) (zf (zk xg)) zt) (zd (ya (i:=3) nd (zy o2 (C.mono (show 4<=7 by decide)) (za (aA 0) (za (xi uc (aA 2) wm (wc (Kg Wz zc))) zb)))) (zd (yd (PW.pt (w5 (zp pC (aA 3) qd (zm _)) (ww (xz (yz (zy o3 (C.mono (show 3<=7 by decide)) (za (aA 0) (za (aA 3) (za (zl yk (aA 2) (Kg Wz zc)) zb))))))))) (zf (zk xg)) zt) (zf (zk (zy o4 (C.mono (show 2<=7 by decide)) (za (aA 0) (za (aA 3) (za (zl yk (aA 2) (Kg Wz zc)) zb))))))))),?_⟩
 refine⟨_,J,_,J,t,o,p,J,it,hW,k1,λc=>?_⟩;obtain⟨F,a,W,U,kn,ky⟩:=k2 c;refine⟨F,a,W,U,kn,λcw R G=>?_⟩;have g:=ky cw;have b:=G _ _ hl;refine⟨_,J,_,"list",_,_,J,uf b,Wg,_,J,yr ?_⟩;refine⟨_,J,l,_,J,.inl (aE.of b),J,_,J,?_⟩;rcases List.eq_nil_or_concat ws with rfl|⟨j,h,e⟩
 . refine ye (λ_=>g R G) (λz=>absurd ?_ z);decide+kernel
 . rw [List.concat_eq_append]at e;subst e;refine ye (λz=>absurd (bw z) (λy=>?_)) (λ_=>?_)
   . have y:=V.int.inj y;simp at y;omega
   have em:(j++[h]).map V.int=j.map V.int++[V.int h]:=by rw[be];rfl
   rw[em]at b;refine⟨_,J,_,J,1,J,_,J,l,_,J,aE.of b,λB M=>?_⟩;rw[show(-1:Int)= -1 from rfl,CJ];have u:=Same.new M (.lst (j.map V.int));have g2:upd R B (.lst (j.map V.int)) B=some (.lst (j.map V.int)):=ze;generalize upd R B (.lst (j.map V.int))=H2 at u g2⊢;have i:=G.trans u;rw[Q8]at g;refine⟨F,a,o,B,j,J,W,U.mono i,g2,λe H3 m=>?_,λn x v H3 e m S=>?_⟩
   . rw[e]at g;refine⟨_,J,J,_,J,ye (λ_=>g H3 (i.trans m)) (λz=>absurd (aw J) z)⟩
   . rw[e]at g;have hv:=pA S.is;refine⟨_,J,J,_,J,?_⟩;rw[bp hv];refine yr ⟨_,J,_,J,_,J,1,J,l,_,_,_,J,J,aE.of (m _ _ (u _ _ b)),uB _ _,F,a,n,x,o,v,h,J,S,λH4 r=>⟨_,J,?_⟩⟩;have g:∀H',Same H H'->Q (.bl (bV a n x h)) H':=g;unfold bV at g;cases N:xf a n x h with| none=>rw[N]at g;exact xu (g H4 (i.trans (m.trans r)))| some q=>obtain⟨k,d,rfl,hk,Z,e2,e3⟩:=vw N;rw[N,show cA a n ((k:Int)).toNat=some d from Z]at g;refine yr ⟨_,J,_,J,_,J,1,J,l,_,_,_,J,J,aE.of (r _ _ (m _ _ (u _ _ b))),uB _ _,F,a,n,x,o,v,k,d,J,S.same r,hk,Z,λH5 s5=>?_⟩;exact g H5 (i.trans (m.trans (r.trans s5)))
theorem Qj:aB ["house","weaving","stand"] ["house","weaving"] (zh W6):=.of
theorem Fj(D:aR K mg "is_stuck" W6)(T:Txt K mg)(x:cT P w K mg base "need_loose" 6 ["thing"] (iM cH))(u:Ok P w K mg base "stand_by" 4 ["house","weaving"] iL)(r:Ok P w K mg base "stops" 5 ["house","stand"] dW):cT P w K mg base "is_stuck" 7 ["house","weaving"] (iI cH):=by
 refine lZ D Qj λf W A i s H vs Q E j h=>?_;intro X;obtain⟨t,d,l,ws,rfl,L,U,R,G,F⟩:=h;have B:=Qj.nd;refine⟨_,zd (we (ja x Yo j (za (aA 0) zb))) (zd (ya (i:=2) B (zy u (j.mono (show 4<=6 by decide)) (za (aA 0) (za (aA 1) zb)))) (zf (zk (jb (yy V1 (aA 2) qd (zm _)) (qc (zy r (j.mono (show 5<=6 by decide)) (za (aA 0) (za (aA 2) zb)))))))),?_⟩
 refine⟨_,J,t,d,J,L,U,λc H1 b=>?_,G⟩;obtain⟨k,a,S,M,C⟩:=F c;have q:=C;unfold Q7 at q;refine⟨_,J,_,J,k,a,d,l,ws,J,S,M.mono b,b _ _ R,λe m g=>?_,λp y v m e g n=>?_⟩
 . rw[e]at q;refine⟨_,J,J,_,J,ye (λz=>absurd z (by decide+kernel)) (λz=>?_)⟩;exact q m (b.trans g)
 . rw[e]at q;have N:=pA n.is;refine⟨_,J,J,_,J,?_⟩;rw[bp N];exact xu ⟨_,J,_,J,k,a,p,y,d,v,J,n,λZ o=>q Z (b.trans (g.trans o))⟩
end
theorem Vm{a:List (List Dd)}:∀{us vs ps ns:List Int},qv a ps ns (us++vs)=match qv a ps ns us with
  |none=>none
  |some (b,ms)=>qv a b ms vs
 |[],vs,ps,ns=>rfl
 | h::us,vs,ps,ns=>by
   have c:∀r,qv a ps ns (h::r)=match xf a ps ns h with
    |none=>none
    |some (b,ms)=>qv a b ms r:=λr=>rfl
   show qv a ps ns (h::(us++vs))=_;rw[c,c];cases xf a ps ns h with
   |none=>rfl
   |some q=>exact Vm (us:=us) (vs:=vs) (ps:=q.1) (ns:=q.2)
theorem C1:qv dss ps ns [h]=xf dss ps ns h:=by unfold qv;cases xf dss ps ns h with|none=>rfl|some q=>rfl
theorem tf{d:Dd}(h:gO x d=true):d=.say x:=by cases d with| say y=>have h:PyData.eqvAll [.str "say",.str y] [.str "say",.str x]=true:=h;simp[PyData.eqvAll,PyData.eqv]at h;rw[h]| act w b n r=>have h:PyData.eqvAll (.str w::.int b::.int n::wv r) [.str "say",.str x]=true:=h;simp[PyData.eqvAll,PyData.eqv]at h
theorem AU:gO "go" (.say "go")=true:=by kernel_rfl
section
variable{K:W.Frag}
end
theorem Ac:bootBuiltins "max"=some (.builtin "max"):=by decide+kernel
noncomputable abbrev Xh:Stmt:=top 48
noncomputable abbrev wo:Stmt:=top 58
noncomputable abbrev kr:Stmt:=top 51
noncomputable def lw(B:List (List Dd))(ps:List Int):Bool:=(cF "go" B ps).any λg=>(cF "come" B ps).any λc=>decide (c<g)
noncomputable def nx(B:List (List Dd))(ps ns:List Int)(h:Int):List Int×List Int:=(xf B ps ns h).getD ([],[])
noncomputable def wE(B:List (List Dd))(ps ns:List Int)(h:Int):T:=.tup [.int h,tt (nx B ps ns h).1 (nx B ps ns h).2]
structure SL(bx:Int)(dss:List (List Dd))(ps ns:List Int):Prop where
 sd:SD bx dss ps ns
 n9:∀n∈ns,0<=n/\n<=9
inductive kZ(vs:List V)(H:Hp)(Q:VK)(e0:XK):Prop|mk:∀bx dss ps ns vh vst,vs=[vh,vst]->At H bx dss ps ns vh vst->(∀H',Same H H'->Q (.bl (lw dss ps)) H')->kZ vs H Q e0
inductive iK(vs:List V)(H:Hp)(Q:VK)(e0:XK):Prop|mk:∀bx dss ps ns vh vst,vs=[vh,vst]->At H bx dss ps ns vh vst->(∀l xs H',Same H H'->H l=none->H' l=some (.lst xs)->IsL H' ((bN dss ps ns).map (wE dss ps ns)) xs->Q (.ref l) H')->iK vs H Q e0
inductive kR(vs:List V)(H:Hp)(Q:VK)(e0:XK):Prop|mk:∀bx dss ps ns vh vst,vs=[vh,vst]->At H bx dss ps ns vh vst->SL bx dss ps ns->(∀H',Same H H'->Q (.bl true) H')->kR vs H Q e0
theorem AS{g c:Int}(g1:g∈cF "go" dss ps)(g2:∀n∈cF "go" dss ps,n<=g)(j:c∈cF "come" dss ps)(i:∀n∈cF "come" dss ps,c<=n):decide (g>c)=lw dss ps:=by
 unfold lw;rw[Bool.eq_iff_iff,decide_eq_true_eq,fu];constructor
 . intro h;refine⟨g,g1,?_⟩;rw[fu];exact⟨c,j,aw h⟩
 . rintro⟨f,e,b⟩;rw[fu]at b;obtain⟨k,d,a⟩:=b;have a:=bw a;have:=g2 f e;have:=i k d;omega
theorem sL(h:1<=dss.length):cF x dss ps≠[]:=λz=>by
 have:dss.length=0:=by have:=congrArg List.length z;unfold cF at this;rw[ae,da]at this;exact this
 omega
section
variable{K:W.Frag}
theorem Gg:aB ["house","stand"] ["house","stand"] (zh kr):=.of
theorem Gf(D:aR K mg "steps_from" kr)(T:Txt K mg)(U:Ok P w K mg base "going" 4 ["house","stand"] gD)(S:Ok P w K mg base "moved" 2 ["house","stand","hand"] iO):Ok P w K mg base "steps_from" 5 ["house","stand"] iK:=by
 refine wu D Gg λf af A z s H vs Q E F h=>?_;intro X;obtain⟨M,a,b,c,C,l,rfl,A,kk⟩:=h;have R:=F.mono (show 2<=4 by decide);refine⟨_,zf (zk (w6 (own:=["hand"]) (cap:=[0,1]) J (yo (zh kr) J J (by decide+kernel) (by decide+kernel) (by decide+kernel) ⟨⟨_,J,.inl J,wr J⟩,⟨_,J,.inl J,wr J⟩,trivial⟩) (w9 (zy U F (za (aA 0) (za (aA 1) zb)))) (λ_ _ _ _=>zw (i:=0) (by show(["hand","house","stand"]:O Str).Nodup;decide+kernel)) (λ_ _ _ _=>yx)
  (λ_ _ _ _=>yc (za (aA 0) (za (zy S R (za (aA 1) (za (aA 2) (za (aA 0) zb)))) zb))))),?_⟩
 refine⟨_,J,_,J,M,a,b,c,C,l,J,A,λZ N y _ g1=>?_⟩;have W:=A.hd.n4;have L:(bN a b c).length<=4:=by unfold bN;refine c6 (gd _ _) ?_;rw[ae,da];exact W
 refine⟨Z,J,⟨_,aE.of g1⟩,?_⟩;refine kz (xs:=(bN a b c).map V.int) (λi j B=>Same N B/\IsL B (((bN a b c).take i).map (wE a b c)) j) ⟨Same.refl N,J⟩ (λi j B hi ⟨g,e⟩=>⟨aE.of (g _ _ g1),by rw[e.length,ae,bu];exact yb (by omega)⟩) ?_ ?_
 . rintro i x j H2 n ⟨g,q⟩;refine ko ?_;rw[ba]at n;cases t:(bN a b c)[i]? with|none=>rw[t]at n;cases n| some h=>
     rw[t]at n;cases n;have hm:=Z0.mp (br t);obtain⟨r,o⟩:=fz.mp hm;obtain⟨k,d,ek,hk,ed,_,er⟩:=vw o;refine⟨_,J,_,J,_,J,_,J,M,a,b,c,C,l,k,d,by rw[ek];rfl,A.same (y.trans g),hk,ed,λv H3 m iv=>?_⟩;refine⟨by show 2<=1000;decide,λp H4 u _ g4=>⟨g.trans (m.trans u),?_⟩⟩;rw[dm,t,be];refine IsL.append (q.mono (m.trans u)) (IsL.one ⟨p,_,J,g4,IsL.two J ?_⟩);have e2:nx a b c h=(b.set k (b.getD k 0+1+Yu d c),Jw d c):=by unfold nx;rw[o,er];rfl
     rw[e2];exact iv.mono u
 . rintro j H2 ⟨g,q⟩ p G;rw[ae,dl]at q;have m:=Same.new G (.lst j);exact kk p j _ (y.trans (g.trans m)) (Same.none (y.trans g) G) ze (q.mono m)
theorem F8:aB ["house","stand"] ["house","stand"] (zh Xh):=.of
theorem FT(D:aR K mg "has_early" Xh)(T:Txt K mg)(o:Ok P w K mg base "times_said" 1 ["house","stand","word"] iH):Ok P w K mg base "has_early" 2 ["house","stand"] kZ:=by refine wu D F8 λf B A d s H C Q E r h=>?_;intro X;obtain⟨t,b,n,p,l,a,rfl,A,z⟩:=h;refine⟨_,zf (zk (yy We (zo (DW J) J T.max Ac (za (zy o r (za (aA 0) (za (aA 1) (za zu zb)))) zb)) (zo (Ku J) J T.min si (za (zy o r (za (aA 0) (za (aA 1) (za zu zb)))) zb)) (zm _))),?_⟩;have q:=A.hd.n1;refine⟨_,J,_,J,t,b,n,p,l,a,_,J,A,by kernel_rfl,by decide+kernel,λy F m g1=>?_⟩;refine⟨y,_,J,aE.of g1,sL q,λg i e=>?_⟩;refine⟨_,J,_,J,t,b,n,p,l,a,_,J,A.same m,by kernel_rfl,by decide+kernel,λx u v g2=>?_⟩;refine⟨x,_,J,aE.of g2,sL q,λc k j=>?_⟩;refine⟨_,_,J,J,?_⟩;show Q (.bl (decide (g>c))) u;rw[AS i e k j];exact z u (m.trans v)
theorem X1:aB ["house","thing","first","lengths"] ["house","thing"] (zh wo):=.of
theorem Ge(D:aR K mg "is_stand_like" wo)(T:Txt K mg)(o1:Ok P w K mg base "at_first" 1 ["house"] dY)(o2:Ok P w K mg base "is_tuple_within" 1 ["thing","least","most"] fJ)(o3:Ok P w K mg base "is_within" 2 ["thing","least","most"] eF):Ok P w K mg base "is_stand_like" 3 ["house","thing"] kR:=by
 refine wu D X1 λf b8 A bo s H vs Q E hr h=>?_;intro X;obtain⟨bx,d,o,u,vh,b6,rfl,A,S,kk⟩:=h;have nd:=X1.nd;have r1:=hr.mono (show 1<=2 by decide);refine⟨_,zd (ya (i:=2) nd (zy o1 r1 (za (aA 0) zb))) (zd (yd (PW.pt (w5 (xz (yz (zy o2 r1 (za (aA 1) (za zc (za zc zb)))))) (ww (xz (yz (zo (qi J) J T.all Zg (za (w6 (own:=["part"]) (cap:=[]) (te:=lL (iU K) (Ya (cU 0) (Ya (tC (.ty "tuple")) iG))) J (yo (zh wo) J J (by decide+kernel) (by decide+kernel) (by decide+kernel) trivial) (Zc (aA 1)) (λ_ _ _ _=>zw (i:=0) (by show(["part"]:O Str).Nodup;decide+kernel)) (λ_ _ _ _=>yx) (λ_ _ _ _=>jv T.isi T.tuple wj (aA 0))) zb))))))) (zf (zk xg)) zt)
  (zd (yd (zp (pO hr.units) (w6 (own:=["part"]) (cap:=[]) J (yo (zh wo) J J (by decide+kernel) (by decide+kernel) (by decide+kernel) trivial) (Zc (aA 1)) (λ_ _ _ _=>zw (i:=0) (by show(["part"]:O Str).Nodup;decide+kernel)) (λ_ _ _ _=>yx) (λ_ _ _ _=>zo (r:=lW K) zn (by rfl) T.len yi (za (aA 0) zb)))
   (w6 (own:=["part"]) (cap:=[]) J (yo (zh wo) J J (by decide+kernel) (by decide+kernel) (by decide+kernel) trivial) (Zc (aA 2)) (λ_ _ _ _=>zw (i:=0) (by show(["part"]:O Str).Nodup;decide+kernel)) (λ_ _ _ _=>yx) (λ_ _ _ _=>zo (r:=lW K) zn (by rfl) T.len yi (za (aA 0) zb))) (zm _)) (zf (zk xg)) zt)
  (zd (ni (i:=3) (own:=["script"]) (cap:=[]) J (yo (zh wo) J J (by decide+kernel) (by decide+kernel) (by decide+kernel) trivial) (Zc (zl zq (aA 0) (y0 T.SCRIPTS))) (λ_ _ _ _=>zw (i:=0) (by show(["script"]:O Str).Nodup;decide+kernel)) (λ_ _ _ _=>yx) (λ_ _ _ _=>zo (r:=lW K) zn (by rfl) T.len yi (za (aA 0) zb)) nd J J (by with_unfolding_all rfl))
  (zd (yd (xz (yz (zo (qi J) J T.all Zg (za (w6 (own:=["place","most"]) (cap:=[]) (g:=fM K 2 (bR (v9 0) (bR (v9 1) lU))) J (yo (zh wo) J J (by decide+kernel) (by decide+kernel) (by decide+kernel) trivial)
   (Ca J T.zip (za (zl zq (aA 1) (y0 T.PLACES)) (za (aA 3) zb)))
   (λ_ _ _ _=>ju J (yn (zw (i:=0) (by show(["place","most"]:O Str).Nodup;decide+kernel)) (yn (zw (i:=1) (by show(["place","most"]:O Str).Nodup;decide+kernel)) ql))) (λ_ _ _ _=>yx)
   (λ_ _ _ _=>zy o3 hr (za (aA 0) (za zc (za (aA 1) zb))))) zb)))) (zf (zk xg)) zt)
  (zf (zk (zo (qi J) J T.all Zg (za (w6 (own:=["number"]) (cap:=[]) J (yo (zh wo) J J (by decide+kernel) (by decide+kernel) (by decide+kernel) trivial) (Zc (zl zq (aA 1) (y0 T.NUMBERS))) (λ_ _ _ _=>zw (i:=0) (by show(["number"]:O Str).Nodup;decide+kernel)) (λ_ _ _ _=>yx) (λ_ _ _ _=>zy o3 hr (za (aA 0) (za zc (za (y0 T.MOST_NUMBER) zb))))) zb)))))))),?_⟩
 obtain⟨a,as,ss,e0,ha,bb,hl,hn⟩:=kh A.ih;obtain⟨c,p,q,e1,hc,hp,hq⟩:=Zr A.is;have n4:=A.hd.n4;have n1:=A.hd.n1;have b0:=A.hd.b0;have lp:=A.sd.lp;have ln:=A.sd.ln;subst e0 e1;refine⟨_,J,bx,d,_,J,A.hd,A.ih,λvf H1 s1 iF=>?_⟩;obtain⟨cf,pf,qf,ef,ag,bL,bA⟩:=Zr iF;subst ef;refine⟨_,J,tt o u,_,2,2,J,A.is.mono s1,λH2 s2=>⟨_,J,?_⟩⟩;rw[show wx (tt o u) 2 2=true from rfl];refine yr ?_;have L:=s1.trans s2;refine⟨_,J,c,J,⟨_,aD.of (L _ _ hc)⟩,?_⟩;refine Zf (xs:=[V.ref p,V.ref q]) (λi k j=>Same H2 j/\k=(List.replicate i true).map V.bl) ⟨Same.refl H2,J⟩ (λi k j m ⟨l,e⟩=>⟨aD.of (l _ _ (L _ _ hc)),by rw[e,ae,dh];exact yb (c6 m bF)⟩) ?_ ?_
 . rintro i x k j t ⟨l,rfl⟩;refine ko ?_;have hT:∃(g:O Int),Is j (tI g) x:=by have a5:=L.trans l;cases i with|zero=>cases t;exact⟨o,p,_,J,a5 _ _ hp,IsL.ints.mpr J⟩| succ i=>cases i with|zero=>cases t;exact⟨u,q,_,J,a5 _ _ hq,IsL.ints.mpr J⟩|succ i=>simp at t
   obtain⟨g,ig⟩:=hT;refine⟨_,J,x,"tuple",_,_,J,ig.ty,Kn K (tI g),l,?_⟩;rw[fw,be];rfl
 rintro k H3 ⟨s3,rfl⟩ l3 b4;have Z:=Same.new b4 (.lst ((List.replicate 2 true).map V.bl));refine⟨l3,_,J,aE.of ze,_,J,?_⟩;show(if(!true)=true then _ else _);refine yr ?_;have ax:=s3.trans Z;generalize hX:upd H3 l3 (.lst ((List.replicate [V.ref p,V.ref q].length true).map V.bl))=H4;have a3:Same H2 H4:=by rw[<-hX];exact ax
 clear hX ax Z;have C:=L.trans a3;have ap:∀(W:Hp)(c' p' q':Y)(M R:O Int),W c'=some (.tup [.ref p',.ref q'])->W p'=some (.tup (M.map V.int))->W q'=some (.tup (R.map V.int))->∀(i:Nat)(x:V)(j:Hp),Same W j->([V.ref p',V.ref q']:O V)[i]?=some x->∃(b:Y)(g:O Int),x=.ref b/\j b=some (.tup (g.map V.int))/\([(M.length:Int),(R.length:Int)]:O Int)[i]?=some (g.length:Int):=by intro W c' p' q' M R h1 h2 h3 i x j l t;cases i with|zero=>cases t;exact⟨p',M,J,l _ _ h2,J⟩| succ i=>cases i with|zero=>cases t;exact⟨q',R,J,l _ _ h3,J⟩|succ i=>simp at t
 refine⟨_,J,c,J,⟨_,aD.of (C _ _ hc)⟩,?_⟩;refine Zf (xs:=[V.ref p,V.ref q]) (λi k j=>Same H4 j/\k=(([(o.length:Int),(u.length:Int)]:O Int).take i).map V.int) ⟨Same.refl H4,J⟩ (λi k j m ⟨l,e⟩=>⟨aD.of (l _ _ (C _ _ hc)),by rw[e,ae];exact yb (c6 (List.length_take_le _ _) (c6 m bF))⟩) ?_ ?_
 . rintro i x k j t ⟨l,rfl⟩;refine ko ?_;obtain⟨b,g,rfl,hb,eg⟩:=ap H4 c p q o u (C _ _ hc) (C _ _ hp) (C _ _ hq) i x j l t;refine⟨_,J,b,_,J,.inr (aD.of hb),l,?_⟩;rw[dm,eg,be,ae];rfl
 rintro k W ⟨s5,rfl⟩ l5 b3;have s6:=Same.new b3 (.lst ((([(o.length:Int),(u.length:Int)]:O Int).take [V.ref p,V.ref q].length).map V.int));have g6:upd W l5 (.lst ((([(o.length:Int),(u.length:Int)]:O Int).take [V.ref p,V.ref q].length).map V.int)) l5=some (.lst (([(o.length:Int),(u.length:Int)]:O Int).map V.int)):=ze;generalize upd W l5 (.lst ((([(o.length:Int),(u.length:Int)]:O Int).take [V.ref p,V.ref q].length).map V.int))=H6 at s6 g6⊢;have av:=s5.trans s6;have bl:=C.trans av;have F:=s2.trans (a3.trans av);refine⟨_,J,cf,J,⟨_,aD.of (F _ _ ag)⟩,?_⟩;refine Zf (xs:=[V.ref pf,V.ref qf]) (λi k j=>Same H6 j/\k=(([((zs d.length).length:Int),((zs bx.toNat).length:Int)]:O Int).take i).map V.int) ⟨Same.refl H6,J⟩ (λi k j m ⟨l,e⟩=>⟨aD.of (l _ _ (F _ _ ag)),by rw[e,ae];exact yb (c6 (List.length_take_le _ _) (c6 m bF))⟩) ?_ ?_
 . rintro i x k j t ⟨l,rfl⟩;refine ko ?_;obtain⟨b,g,rfl,hb,eg⟩:=ap H6 cf pf qf _ _ (F _ _ ag) (F _ _ bL) (F _ _ bA) i x j l t;refine⟨_,J,b,_,J,.inr (aD.of hb),l,?_⟩;rw[dm,eg,be,ae];rfl
 rintro k H7 ⟨s7,rfl⟩ l7 b2;have s8:=Same.new b2 (.lst ((([((zs d.length).length:Int),((zs bx.toNat).length:Int)]:O Int).take [V.ref pf,V.ref qf].length).map V.int));have g8:upd H7 l7 (.lst ((([((zs d.length).length:Int),((zs bx.toNat).length:Int)]:O Int).take [V.ref pf,V.ref qf].length).map V.int)) l7=some (.lst (([((zs d.length).length:Int),((zs bx.toNat).length:Int)]:O Int).map V.int)):=ze;generalize upd H7 l7 (.lst ((([((zs d.length).length:Int),((zs bx.toNat).length:Int)]:O Int).take [V.ref pf,V.ref qf].length).map V.int))=H8 at s8 g8⊢;have eZ:([((zs d.length).length:Int),((zs bx.toNat).length:Int)]:O Int)=[(o.length:Int),(u.length:Int)]:=by unfold zs;rw[dh,dh,lp,ln]
 rw[eZ]at g8;have au:=s7.trans s8;have G:=bl.trans au;refine⟨.lst (iT [(o.length:Int),(u.length:Int)]),.lst (iT [(o.length:Int),(u.length:Int)]),⟨l5,_,J,au _ _ g6,IsL.ints.mpr J⟩,⟨l7,_,J,g8,IsL.ints.mpr J⟩,Z2 _,Z2 _,Vh _,_,J,?_⟩;rw[SeqAt.eqv_refl _ (Z2 _)];refine yr ?_;refine⟨_,J,a,_,_,_,J,J,aD.of (G _ _ ha),J,as,J,⟨ss,aD.of (G _ _ bb)⟩,?_⟩;refine Zf (xs:=ss) (λi k j=>Same H8 j/\k=((wz d).take i).map V.int) ⟨Same.refl H8,J⟩ (λi k j m ⟨Z,e⟩=>⟨aD.of (Z _ _ (G _ _ bb)),?_⟩) ?_ ?_
 . rw[e,ae];exact yb (c6 (List.length_take_le _ _) (by omega))
 . rintro i z k j hz ⟨Z,rfl⟩;refine ko ?_;have m:i<d.length:=by rw[<-hn];exact(c7.mp hz).1
   obtain⟨b,xs,eb,hb,b7,bt⟩:=mh hl m;rw[eb]at hz;cases hz;refine⟨_,J,b,xs,J,.inr (aD.of (Z _ _ (G _ _ hb))),Z,?_⟩;have eg:(wz d)[i]?=some (xs.length:Int):=by unfold wz;rw[ba,ao m,bt,ar,ao m];rfl
   rw[dm,eg,be];rfl
 rintro k H9 ⟨s9,rfl⟩ l9 b1;have el:(wz d).take ss.length=wz d:=by rw[hn,List.take_of_length_le];unfold wz;rw[ae];exact aj _
 rw[el];have a4:=Same.new b1 (.lst ((wz d).map V.int));have ah:upd H9 l9 (.lst ((wz d).map V.int)) l9=some (.lst ((wz d).map V.int)):=ze;generalize upd H9 l9 (.lst ((wz d).map V.int))=bf at a4 ah⊢;have B:=G.trans (s9.trans a4);have bT:(wz d).length=d.length:=by unfold wz;rw[ae]
 refine⟨_,J,c,_,_,_,J,J,aD.of (B _ _ hc),J,_,J,p,l9,_,_,J,B _ _ hp,ah,?_⟩;refine BH (by rw[ae,ae,bT,lp]) (λi k j=>Same bf j/\k=(List.replicate i true).map V.bl) ⟨Same.refl bf,J⟩ (λi k j m ⟨l,e⟩=>⟨l _ _ (B _ _ hp),l _ _ ah,by rw[e,ae,dh];rw[ae]at m;exact yb (by omega)⟩) ?_ ?_
 . rintro i x1 z1 k j r t hz ⟨l,rfl⟩ bv;have m:i<o.length:=by have:=(c7.mp t).1;rw[ae]at this;exact this
   have a9:i<d.length:=by omega
   rw[je m]at t;rw[je (show i<(wz d).length by omega)]at hz;cases t;cases hz;have sr:=Same.new bv (.tup [.int (o.getD i 0),.int ((wz d).getD i 0)]);have gr:upd j r (.tup [.int (o.getD i 0),.int ((wz d).getD i 0)]) r=some (.tup [.int (o.getD i 0),.int ((wz d).getD i 0)]):=ze;generalize upd j r (.tup [.int (o.getD i 0),.int ((wz d).getD i 0)])=bd at sr gr⊢;refine⟨r,_,J,aD.of gr,J,_,_,J,_,_,J,J,?_⟩;refine nO ?_;refine⟨_,J,_,J,.int (o.getD i 0),_,0,_,J,J,λam v=>⟨l.trans (sr.trans v),?_⟩⟩;have eL:(wz d).getD i 0=((d.getD i []).length:Int):=by unfold wz;rw[ar,ba,ao a9,ar,ao a9];rfl
   rw[eL,xx (Z5 A.sd.p0 i) (A.sd.pl i),fw,be];rfl
 rintro k bd ⟨bk,rfl⟩ a6 a8;have U:∀n:Nat,(List.replicate n true).all id=true:=λn=>by rw[dz];intro b hb;exact(fi.mp hb).2
 generalize hN:(List.map V.int o).length=N;have v:=Same.new a8 (.lst ((List.replicate N true).map V.bl));refine⟨a6,_,J,aE.of ze,_,J,?_⟩;rw[U];refine yr ?_;generalize upd bd a6 (.lst ((List.replicate N true).map V.bl))=am at v⊢;have y:=B.trans (bk.trans v);refine⟨_,J,c,_,_,_,J,J,aD.of (y _ _ hc),J,q,J,⟨_,aD.of (y _ _ hq)⟩,?_⟩;refine Zf (xs:=u.map V.int) (λi k j=>Same am j/\k=(List.replicate i true).map V.bl) ⟨Same.refl am,J⟩ (λi k j m ⟨l,e⟩=>⟨aD.of (l _ _ (y _ _ hq)),by rw[e,ae,dh];rw[ae]at m;exact yb (by have:=A.hd.b6;omega)⟩) ?_ ?_
 . rintro i x k j t ⟨l,rfl⟩;refine ko ?_;have m:i<u.length:=by have:=(c7.mp t).1;rw[ae]at this;exact this
   rw[je m]at t;cases t;refine⟨_,J,.int (u.getD i 0),_,0,_,J,J,λb5 af=>⟨l.trans af,?_⟩⟩;have h9:=S.n9 (u.getD i 0) (by rw[ar,ao m];exact List.getElem_mem m);rw[xx h9.1 h9.2,fw,be];rfl
 . rintro k b5 ⟨af,rfl⟩ bq a7;refine⟨bq,_,J,aE.of ze,?_⟩;rw[U];exact kk _ (y.trans (af.trans (Same.new a7 _)))
end
theorem sZ{w:Str}{b n:Int}:gO x (.act w b n r)=false:=by cases h:gO x (.act w b n r)with|false=>rfl|true=>have:=tf h;cases this
section
variable{K:W.Frag}
end
abbrev Sn:=List Int×List Int
noncomputable def kS(st:Sn):xv:=[st.1,st.2]
noncomputable def tS(st:Sn):T:=tt st.1 st.2
variable{L:List Sn}{a:Sn}{w:Str}
theorem ph{b:Sn}(h:kS a=kS b):a=b:=by obtain⟨i,g⟩:=a;obtain⟨f,e⟩:=b;unfold kS at h;injection h with d c;injection c with c _;rw[show i=f from d,show g=e from c]
theorem Vd:kS a∈L.map kS↔a∈L:=by
 rw[bz];constructor
 . rintro⟨b,c,e⟩;rw[<-ph e];exact c
 . intro h;exact⟨a,h,J⟩
theorem CU:(L.map kS).Nodup↔L.Nodup:=by
 show(L.map kS).Pairwise (· ≠ ·)↔L.Pairwise (· ≠ ·);rw[List.pairwise_map];constructor
 . exact λh=>h.imp λh z=>h (by rw[z])
 . exact λh=>h.imp λh z=>h (ph z)
theorem Yn(L:O Sn):xn (L.map tS):=xn.all.mpr λt a=>by obtain⟨g,_,rfl⟩:=bz.mp a;exact Ym
noncomputable def cG(bx:Int)(B:List (List Dd)):Sn:=(zs B.length,zs bx.toNat)
theorem Yx{c:Type}[DecidableEq c]:∀{L M:List c},L.Nodup->(∀x∈L,x∈M)->L.length<=M.length|[],_,_,_=>cm _| a::L,M,b,h=>by rw[dq]at b;have e:=h a c8;have:=Yx (L:=L) (M:=M.erase a) b.2 λx d=>(List.mem_erase_of_ne (show x≠a from λz=>b.1 (by rw[<-z];exact d))).mpr (h x (ce _ d));rw[List.length_erase_of_mem e]at this;have:0<M.length:=List.length_pos_of_mem e;rw[cu];omega
noncomputable def lX:Nat->Nat->List (List Int)|0,_=>[[]]|n+1,m=>((List.range (m+1)).map λ(i:Nat)=>(i:Int)).flatMap λx=>(lX n m).map (x:: ·)
theorem Q4:∀{n m:Nat}{g:List Int},g.length=n->(∀x∈g,0<=x/\x<=(m:Int))->g∈lX n m| 0,m,g,h,_=>by have:g=[]:=gb.mp h;rw[this];exact bc.mpr J|n+1,m,[],h,_=>by cases h| n+1,m,x::g,h,a=>by have c:=Q4 (n:=n) (m:=m) (g:=g) (by rw[cu]at h;omega) λy b=>a y (ce _ b);have d:=a x c8;unfold lX;rw[List.mem_flatMap];exact⟨x,bz.mpr ⟨x.toNat,de.mpr (by omega),by omega⟩,bz.mpr ⟨g,c,J⟩⟩
noncomputable def ol(c d b:Nat):List Sn:=(lX c d).flatMap λp=>(lX b 9).map λn=>(p,n)
theorem C3{c d b:Nat}{st:Sn}(g:st.1.length=c)(f:∀x∈st.1,0<=x/\x<=(d:Int))(e:st.2.length=b)(a:∀x∈st.2,0<=x/\x<=(9:Int)):st∈ol c d b:=by unfold ol;rw[List.mem_flatMap];exact⟨st.1,Q4 g f,bz.mpr ⟨st.2,Q4 e a,J⟩⟩
noncomputable def kD:Nat->Nat->Nat->List (List Int)|0,_,_=>[[]]|n+1,a,b=>[]::((if a=0 then[]else(kD n (a-1) b).map (0:: ·))++(if b=0 then[]else(kD n a (b-1)).map (1:: ·)))
theorem Q3:∀{n a b:Nat}{ws:List Int},ws.length<=n->(∀h∈ws,h=0\/h=1)->ws.count 0<=a->ws.count 1<=b->ws∈kD n a b
 | 0,a,b,ws,h,_,_,_=>by have:ws=[]:=gb.mp (by omega);rw[this];exact bc.mpr J
 |n+1,a,b,[],_,_,_,_=>c8
 | n+1,a,b,x::ws,h,c,k,j=>by
   have d:ws.length<=n:=by rw[cu]at h;omega
   have e:=λy f=>c y (ce x f);unfold kD;refine ce _ (ck.mpr ?_);rcases c x c8 with rfl|rfl
   . left;have i:(0::ws:List Int).count 0=ws.count 0+1:=List.count_cons_self;have g:(0::ws:List Int).count 1=ws.count 1:=List.count_cons_of_ne (by decide);rw[if_neg (by omega)];exact bz.mpr ⟨ws,Q3 d e (by omega) (by omega),J⟩
   . right;have i:(1::ws:List Int).count 1=ws.count 1+1:=List.count_cons_self;have g:(1::ws:List Int).count 0=ws.count 0:=List.count_cons_of_ne (by decide);rw[if_neg (by omega)];exact bz.mpr ⟨ws,Q3 d e (by omega) (by omega),J⟩
theorem El:(kD 10 5 5).length=923:=by decide+kernel
theorem Ci{q:Sn}(g:HD bx dss)(b:SD bx dss ps ns)(e:xf dss ps ns h=some q):(0<=h/\h<(dss.length:Int))/\∀k:Nat,ps.getD k 0+(if h=(k:Int)then 1 else 0)<=q.1.getD k 0:=by
 obtain⟨k,d,rfl,f,l,n,i⟩:=vw e;refine⟨by omega,λj=>?_⟩;rw[i];have a:k<ps.length:=by rw[b.lp];exact f
 have m:=pI (ns:=ns) (Yq g l);by_cases c:j=k
 . subst c;rw[if_pos J];show _<=(ps.set j _).getD j 0;rw[ar (l:=ps.set _ _),List.getElem?_set_self a];show _<=ps.getD j 0+1+Yu d ns;omega
 . rw[if_neg (by omega)];show _<=(ps.set k _).getD j 0;rw[ar (l:=ps.set _ _),List.getElem?_set_ne (al c),<-ar];omega
theorem sG{bx:Int}{a:List (List Dd)}(g:HD bx a):∀{ws:List Int}{ps ns:List Int}{q:Sn},SD bx a ps ns->qv a ps ns ws=some q->SD bx a q.1 q.2/\(∀h∈ws,0<=h/\h<(a.length:Int))/\∀k:Nat,ps.getD k 0+(ws.count (k:Int):Int)<=q.1.getD k 0
 | [],ps,ns,q,b,e=>by have e:some (ps,ns)=some q:=e;cases e;exact⟨b,(λh t=>by cases t),λk=>by simp⟩
 | h ::ws,ps,ns,q,b,e=>by
   have u:qv a ps ns (h::ws)=match xf a ps ns h with
    |none=>none
    |some (p,s)=>qv a p s ws:=rfl
   rw[u]at e;cases d:xf a ps ns h with
   |none=>rw[d]at e;cases e
   | some r=>
     rw[d]at e;obtain⟨l,j⟩:=Ci g b d;obtain⟨o,n,m⟩:=sG g (ws:=ws) (SD.step g b (show xf a ps ns h=some (r.1,r.2)from d)) e;refine⟨o,λx f=>?_,λk=>?_⟩
     . rcases ai.mp f with rfl|f
       . exact l
       . exact n x f
     . have i:=j k;have v:=m k;rw[List.count_cons];by_cases c:h=(k:Int)
       . rw[if_pos c]at i;rw[if_pos (by rw[c];exact beq_self_eq_true _)];omega
       . rw[if_neg c]at i;rw[if_neg (by simpa using c)];omega
inductive nZ(bx:Int)(dss:List (List Dd)):Prop|mk:∀d:Int,Cr (dss.length:Int) d bx->(∀ds∈dss,(ds.length:Int)<=d)->nZ bx dss
inductive qP(dss:List (List Dd))(s0 st:Sn):Prop|mk:∀ws,qv dss s0.1 s0.2 ws=some st->qP dss s0 st
theorem SL.place{d:Int}(S:SL bx dss ps ns)(h:∀ds∈dss,(ds.length:Int)<=d):∀x∈ps,0<=x/\x<=d:=λx b=>by
 obtain⟨i,c,rfl⟩:=fj.mp b;have e:=S.sd.pl i;have a:i<dss.length:=by rw[<-S.sd.lp];exact c
 have g:dss.getD i []=dss[i]:=by rw[ar,ao a];rfl
 have f:ps.getD i 0=ps[i]:=by rw[ar,ao c];rfl
 rw[g,f]at e;have:=h _ (List.getElem_mem a);exact⟨S.sd.p0 _ b,by omega⟩
theorem Wo{c d b n:Nat}(i:dss.length=c)(g:∀ds∈dss,(ds.length:Int)<=(d:Int))(j:bx.toNat=b)(f:(ol c d b).length<=n)(e:L.Nodup)(h:∀st∈L,SL bx dss st.1 st.2):L.length<=n:=c6 (Yx e λst a=>C3 (by rw[(h st a).sd.lp,i]) ((h st a).place g) (by rw[(h st a).sd.ln,j]) (h st a).n9) f
theorem Bv{s0:Sn}(v:HD bx dss)(C:nZ bx dss)(r:SL bx dss s0.1 s0.2)(b:L.Nodup)(h:∀st∈L,SL bx dss st.1 st.2/\qP dss s0 st):L.length<=1250:=by
 obtain⟨d,z,c⟩:=C;rcases z with⟨f,rfl,rfl⟩|⟨f,rfl,rfl⟩|⟨f,rfl,rfl⟩|⟨f,rfl,rfl⟩|⟨f,rfl,rfl⟩|⟨f,rfl,rfl⟩
 . exact Wo (c:=2) (d:=6) (b:=1) (by omega) c J (by decide+kernel) b λst a=>(h st a).1
 . have G:dss.length=2:=by omega
   have:L.length<=((kD 10 5 5).filterMap λws=>qv dss s0.1 s0.2 ws).length:=Yx b λst a=>by
    obtain⟨S,ws,e⟩:=h st a;obtain⟨_,m,g⟩:=sG v r.sd e;have o:=Z5 r.sd.p0;have n:∀k,st.1.getD k 0<=5:=λk=>by
     have:=S.sd.pl k;have F:((dss.getD k []).length:Int)<=5:=by
      by_cases q:k<dss.length
      . rw[ar,ao q];exact c _ (List.getElem_mem q)
      . rw[ar,fe (by omega)];decide
     omega
    have j:=g 0;have i:=g 1;have E:=n 0;have D:=n 1;have B:=o 0;have A:=o 1;have l:∀h∈ws,h=0\/h=1:=λh u=>by have:=m h u;omega
    have p:ws.length=ws.count 0+ws.count 1:=by
     clear e m g j i;induction ws with|nil=>rfl| cons x ws s=>
       have:=s λy t=>l y (ce _ t);rw[cu,List.count_cons,List.count_cons];rcases l x c8 with rfl|rfl
       . simp;omega
       . simp;omega
    have j:s0.1.getD 0 0+(ws.count 0:Int)<=st.1.getD 0 0:=j;have i:s0.1.getD 1 0+(ws.count 1:Int)<=st.1.getD 1 0:=i;exact List.mem_filterMap.mpr ⟨ws,Q3 (by omega) l (by omega) (by omega),e⟩
   have w:=List.length_filterMap_le (λws=>qv dss s0.1 s0.2 ws) (kD 10 5 5);rw[El]at w;omega
 . exact Wo (c:=3) (d:=4) (b:=1) (by omega) c J (by decide+kernel) b λst a=>(h st a).1
 . exact Wo (c:=4) (d:=2) (b:=1) (by omega) c J (by decide+kernel) b λst a=>(h st a).1
 . exact Wo (c:=1) (d:=8) (b:=2) (by omega) c J (by decide+kernel) b λst a=>(h st a).1
 . exact Wo (c:=2) (d:=6) (b:=0) (by omega) c J (by decide+kernel) b λst a=>(h st a).1
theorem xC{b n beh:Int}(h:eA (Dd.act w b n r).t bx beh=true)(c:bE w "say"=false):0<=n/\n<=9:=by
 have h:((decide (1<=(L2.T.int b::.int n::r).length) && decide ((L2.T.int b::.int n::r).length<=3)) && Vs w (.int b::.int n::r) bx beh)=true:=h;rw[bj]at h;have a:=h.2;unfold Vs at a;rw[if_neg (by rw[c];decide)]at a;split at a
 . cases a
 . rw[bj,bj]at a;obtain⟨i,e,f,d⟩:=j8 (show yh (.int n) 0 9=true from a.2.1);cases e;exact⟨f,d⟩
theorem HD.n9(f:HD bx dss)(c:ds∈dss){b n:Int}(h:Dd.act w b n r∈ds):0<=n/\n<=9:=by
 have g:=f.good;have g:(yh (.int bx) 0 6 && (wx (.tup (dss.map bJ)) 1 4 && (dss.map bJ).all λs=>fA s bx))=true:=g;rw[bj,bj]at g;have a:=(dz.mp g.2.2) (bJ ds) (bz.mpr ⟨ds,c,J⟩)
 have a:(wx (bJ ds) 0 30 && kB (ds.map Dd.t) bx)=true:=a;rw[bj]at a;obtain⟨i,d,e⟩:=fj.mp h;have j:=(dz.mp a.2) i (de.mpr (by rw[ae];exact d));rw[ar,ba,ao d,e]at j;exact xC j (f.ns ds c _ h)
theorem SL.step{bx:Int}{a:List (List Dd)}{ps ns g i:List Int}{h:Int}(l:HD bx a)(S:SL bx a ps ns)(e:xf a ps ns h=some (g,i)):SL bx a g i:=by
 refine⟨S.sd.step l e,?_⟩;obtain⟨k,d,rfl,j,s,t,q⟩:=vw e;cases q;have o:a.getD k []∈a:=by rw[ar,ao j];exact List.getElem_mem j
 have f:=br s;cases d with|say x=>exact S.n9| act w b n r=>
   have p:=l.n9 o f;show∀y∈nR w b n (nP w b n ns),0<=y/\y<=9;have m:∀y∈nP w b n ns,0<=y/\y<=9:=λy c=>by
    unfold nP at c;split at c
    . rcases List.mem_or_eq_of_mem_set c with z|z
      . exact S.n9 y z
      . rw[z];exact p
    . exact S.n9 y c
   intro y c;unfold nR at c;split at c
   . rcases List.mem_or_eq_of_mem_set c with z|z
     . exact m y z
     . rw[z];omega
   . exact m y c
theorem SL.first{bx:Int}{a:O (O Dd)}:SL bx a (zs a.length) (zs bx.toNat):=⟨SD.first,λn b=>by unfold zs at b;rw[(fi.mp b).2];decide⟩
theorem yQ{p:Int}(L:LH bx p (dss.map bJ)):nZ bx dss:=by obtain⟨d,b,h⟩:=L.cr;rw[ae]at b;refine⟨d,b,λa c=>?_⟩;obtain⟨f,e,_,_,_,_,n⟩:=h (bJ a) (bz.mpr ⟨a,c,J⟩);cases e;rw[ae]at n;exact n
end My
namespace My
noncomputable def Gn(B:List Int)(i:Nat):List Int:=((List.range i).filter λj=>decide (B.getD j 0>0)).map λ(j:Nat)=>(j:Int)
noncomputable def ws(B:List Int):List Int:=Gn B B.length
noncomputable def zA(B:List (List Int))(h:Int):List (List Int):=B++B.map (· ++[h])
noncomputable def gL(k:Int)(B:List Int):List (List Int):=((ws B).foldl zA [[]]).filter λg=>decide ((g.length:Int)=k)
end My
namespace My
theorem ue:∀(l:List Int)(i:Nat)(v:Int),i<l.length->(l.set i v).sum=l.sum-l.getD i 0+v|[],i,v,h=>by simp at h|a::l,0,v,h=>by simp;omega| a::l,i+1,v,h=>by have:=ue l i v (by simpa using h);simp only[List.set_cons_succ,List.sum_cons];rw[this];simp;omega
theorem J5:∀{l:List Int}{m:Int},(∀x∈l,x<=m)->l.sum<=(l.length:Int)*m
 |[],m,_=>by simp
 | a::l,m,h=>by
   have d:=h a c8;have c:=J5 λx b=>h x (ce _ b);rw[List.sum_cons,cu];have:(((l.length+1:Nat):Int))*m=(l.length:Int)*m+m:=by rw[Int.natCast_add];simp[Int.add_mul]
   omega
theorem Qe:∀{l:List Int},(∀x∈l,0<=x)->0<=l.sum|[],_=>by simp| a::l,h=>by have d:=h a c8;have c:=Qe λx b=>h x (ce _ b);rw[List.sum_cons];omega
structure wX(L:List Int)(k:Nat)(m:Int):Prop where
 fall:L.Pairwise (λa b=>b<=a)
 each:∀x∈L,0<=x/\x<=m
 sum:L.sum=(k:Int)*m
 m1:1<=m
end My
namespace My
section
variable{S A α:Type}
abbrev Eg(S A B:Type):=S×List A×B
inductive dI(nx:S->List (A×S))(s0:S):List A->S->Prop where|nil:dI nx s0 [] s0|snoc {row:List A} {st:S} {p:A×S}:dI nx s0 row st->p∈nx st->dI nx s0 (row++[p.1]) p.2
variable{nx:S->List (A×S)}{s0:S}
noncomputable def wa(R:List (Eg S A α)):List S:=R.map (·.1)
theorem qt{R:O (Eg S A α)}{st:S}:st∈wa R↔∃r∈R,r.1=st:=bz
theorem Z4{R:O (Eg S A α)}{x:Eg S A α}:wa (R++[x])=wa R++[x.1]:=by unfold wa;rw[be];rfl
theorem Dp{R:List (Eg S A α)}(g:(wa R).Nodup):∀{r b:Eg S A α},r∈R->b∈R->r.1=b.1->r=b:=by
 induction R with|nil=>intro r b h;cases h| cons a R j=>
   intro r b h c e;have d:(a.1::wa R).Nodup:=g;obtain⟨f,i⟩:=dq.mp d;rcases ai.mp h with rfl|h
   . rcases ai.mp c with rfl|c
     . rfl
     . exact absurd (qt (R:=R).mpr ⟨b,c,e.symm⟩) f
   . rcases ai.mp c with rfl|c
     . exact absurd (qt (R:=R).mpr ⟨r,by assumption,e⟩) f
     . exact j i h c e
structure Bg(nx:S->List (A×S))(s0:S)(d:Nat)(R:List (Eg S A α))(N L:List S)(i:Nat):Prop where
 nd:(wa R).Nodup
 way:∀r∈R,dI nx s0 r.2.1 r.1
 ord:R.Pairwise λa b=>a.2.1.length<=b.2.1.length
 top:∀r∈R,r.2.1.length<=d+1
 new:∀r∈R,r.2.1.length=d->r.1∈N
 lat:∀r∈R,r.2.1.length=d+1->r.1∈L
 has:∀st∈L,∃r∈R,r.1=st/\r.2.1.length=d+1
 cl:∀r∈R,r.2.1.length<d->∀p∈nx r.1,∃r'∈R,r'.1=p.2/\r'.2.1.length<=r.2.1.length+1
 cln:∀st∈N.take i,∀p∈nx st,p.2∈wa R
 first:∃r∈R,r.1=s0/\r.2.1.length=0
 nr:∀st∈N,∃r∈R,r.1=st/\r.2.1.length=d
theorem Bg.start(a:α):Bg nx s0 0 [(s0,[],a)] [s0] [] 0 where
 nd:=by show[s0].Nodup;simp
 way:=λr b=>by rw[bc.mp b];exact .nil
 ord:=List.pairwise_singleton _ _
 top:=λr b=>by rw[bc.mp b];exact cm _
 new:=λr b _=>by rw[bc.mp b];exact bc.mpr J
 lat:=λr b h=>by rw[bc.mp b]at h;exact absurd h (by show¬(0=0+1);decide)
 has:=λst h=>by cases h
 cl:=λr b h=>by exact absurd h (Nat.not_lt_zero _)
 cln:=λst h=>by cases h
 first:=⟨_,bc.mpr J,J,J⟩
 nr:=λst h=>⟨_,bc.mpr J,(bc.mp h).symm,J⟩
theorem Bg.level{d:Nat}{R:O (Eg S A α)}{N L:O S}(b:Bg nx s0 d R N L N.length):Bg nx s0 (d+1) R L [] 0 where
 nd:=b.nd
 way:=b.way
 ord:=b.ord
 top:=λr a=>Nat.le_succ_of_le (b.top r a)
 new:=λr a h=>b.lat r a h
 lat:=λr a h=>by have:=b.top r a;omega
 has:=λst h=>by cases h
 cl:=λr a h p e=>by
  by_cases z:r.2.1.length<d
  . exact b.cl r a z p e
  . obtain⟨c,f,g⟩:=qt.mp (b.cln r.1 (by rw[dl];exact b.new r a (by omega)) p e);exact⟨c,f,g,by have:=b.top c f;omega⟩
 cln:=λst h=>by cases h
 first:=b.first
 nr:=λst h=>b.has st h
theorem Bg.step{d i:Nat}{R:O (Eg S A α)}{N L:O S}(b:Bg nx s0 d R N L i){r:Eg S A α}{p:A×S}(q:r∈R)(u:r.2.1.length=d)(s:p∈nx r.1)(t:p.2 ∉ wa R)(a:α):Bg nx s0 d (R++[(p.2,r.2.1++[p.1],a)]) N (L++[p.2]) i:=by
 have n:∀{st},st∈wa R->st∈wa (R++[(p.2,r.2.1++[p.1],a)]):=λh=>by rw[Z4];exact f8 _ h
 have k:(r.2.1++[p.1]).length=d+1:=by rw[ay,u];rfl
 refine⟨?_,λx c=>?_,?_,λx c=>?_,λx c e=>?_,λx c e=>?_,λst h=>?_,λx c h m f=>?_,λst h m f=>n (b.cln st h m f),?_,λst h=>?_⟩
 . rw[Z4];refine List.nodup_append.mpr ⟨b.nd,by simp,λx c y l e=>?_⟩;rw[e,bc.mp l]at c;exact t c
 . rcases ck.mp c with h|h
   . exact b.way x h
   . rw[bc.mp h];exact .snoc (b.way r q) s
 . refine List.pairwise_append.mpr ⟨b.ord,List.pairwise_singleton _ _,λx c y l=>?_⟩;rw[bc.mp l];show x.2.1.length<=(r.2.1++[p.1]).length;rw[k];exact b.top x c
 . rcases ck.mp c with h|h
   . exact b.top x h
   . rw[bc.mp h];exact Nat.le_of_eq k
 . rcases ck.mp c with h|h
   . exact b.new x h e
   . rw[bc.mp h]at e;have e:(r.2.1++[p.1]).length=d:=e;omega
 . rcases ck.mp c with h|h
   . exact f8 _ (b.lat x h e)
   . rw[bc.mp h];exact dy _ (bc.mpr J)
 . rcases ck.mp h with h|h
   . obtain⟨x,j,g⟩:=b.has st h;exact⟨x,f8 _ j,g⟩
   . exact⟨_,dy _ (bc.mpr J),(bc.mp h).symm,k⟩
 . rcases ck.mp c with y|y
   . obtain⟨o,j,g⟩:=b.cl x y h m f;exact⟨o,f8 _ j,g⟩
   . rw[bc.mp y]at h;have h:(r.2.1++[p.1]).length<d:=h;omega
 . obtain⟨x,j,g⟩:=b.first;exact⟨x,f8 _ j,g⟩
 . obtain⟨x,j,g⟩:=b.nr st h;exact⟨x,f8 _ j,g⟩
theorem Bg.done{d i:Nat}{R:O (Eg S A α)}{N L:O S}{st:S}(b:Bg nx s0 d R N L i)(e:N[i]?=some st)(h:∀p∈nx st,p.2∈wa R):Bg nx s0 d R N L (i+1):=
 ⟨b.nd,b.way,b.ord,b.top,b.new,b.lat,b.has,b.cl,λx c g a=>by
  rw[dm,e]at c;rcases ck.mp c with y|y
  . exact b.cln x y g a
  . have y:x∈[st]:=y;rw[bc.mp y]at a;exact h g a,b.first,b.nr⟩
structure Bh(nx:S->List (A×S))(s0:S)(R:List (Eg S A α)):Prop where
 nd:(wa R).Nodup
 way:∀r∈R,dI nx s0 r.2.1 r.1
 ord:R.Pairwise λa b=>a.2.1.length<=b.2.1.length
 all:∀row st,dI nx s0 row st->∃r∈R,r.1=st/\r.2.1.length<=row.length
theorem Bg.end'{d:Nat}{R:List (Eg S A α)}(b:Bg nx s0 d R [] [] 0):Bh nx s0 R:=by
 refine⟨b.nd,b.way,b.ord,λc st w=>?_⟩;induction w with
 | nil=>obtain⟨r,a,g,m⟩:=b.first;exact⟨r,a,g,by omega⟩
 | @snoc c st p w j i=>
   obtain⟨r,a,g,m⟩:=i;have f:r.2.1.length<d:=by
    have s:=b.top r a;have q:r.2.1.length≠d:=λe=>by have:=b.new r a e;cases this
    have o:r.2.1.length≠d+1:=λe=>by have:=b.lat r a e;cases this
    omega
   obtain⟨h,l,k,n⟩:=b.cl r a f p (by rw[g];exact j);exact⟨h,l,k,by rw[ay];show h.2.1.length<=c.length+1;omega⟩
end
end My
namespace My
open PySem PySem.Spec PyProof.Rows L2
variable{mg:Str->Option Value}
noncomputable abbrev X7:Stmt:=top 39
noncomputable abbrev Yz:Stmt:=top 55
noncomputable def K9:Expr:=match yg Yz with|_::.Assign _ (.Call _ (_::l::_) _ _) _::_=>l|_=>.Constant .none 0 ⟨0,0,0,0⟩
noncomputable def sx:Arguments:=match K9 with|.Lambda a _ _ _=>a|_=>jf Yz
noncomputable def sA:Expr:=match K9 with|.Lambda _ b _ _=>b|e=>e
noncomputable def tF:Scope:=match K9 with|.Lambda _ _ s _=>s|_=>zh Yz
noncomputable def jy:Pos:=match K9 with|.Lambda _ _ _ p=>p|_=>⟨0,0,0,0⟩
noncomputable def vd:Str:=(("tried_loose":Str)++".<locals>.")++"<lambda>"
theorem yS:cY tF "stand" "house":=⟨J,J,J,by decide+kernel,J,J,by decide+kernel⟩
noncomputable def LO(mg:Str->Option Value)(c F:Addr)(B:Value):Obj:=W.kla_obj "<lambda>" vd sx sA tF [("house",c)] ((mg "__name__").getD .none) F B
inductive eE(mg:Str->Option Value)(H:Hp)(f c:Addr)(vh:V):Prop|mk:∀c' ctv oc occ uk,H f=some (aP (LO mg c c' ctv))->H c'=some (aP occ)->cN occ vd->H c=some (aP oc)->oc.data=.cell (some uk)->yu vh uk->eE mg H f c vh
theorem eE.same{H e:Hp}{f c:Y}{d:V}(h:eE mg H f c d)(s:Same H e):eE mg e f c d:=by obtain⟨p,b,i,a,g,o,n,m,l,k,j⟩:=h;exact⟨p,b,i,a,g,s _ _ o,s _ _ n,m,s _ _ l,k,j⟩
abbrev Eh:=Eg Sn Int Addr
noncomputable def cP(B:List (List Dd))(st:Sn):List (Int×Sn):=(bN B st.1 st.2).map λh=>(h,nx B st.1 st.2 h)
variable{D a cH cM cW l tb:Addr}{osl:Array (Option Value)}{X:Cx}{wO:FuncData}{base h:Heap}{H H' H0 H1 H2:Hp}{beh bx c p way:Int}{dss:List (List Dd)}{ds:List Dd}{R:List Eh}{es:List Expr}{cs ns row:List Int}{L0 b js ms:List Nat}{L:List Sn}{ps:List Str}{os ss ts:List T}{xs ys:List V}{i j k kd m n nb:Nat}{o:Obj}{pos:Pos}{P:Program}{st:Sn}{sp:Sp}{qual x:Str}{u:T}{v vh:V}{Q:VK}{w:World}{e0:XK}
theorem Y7{p:Int×Sn}:p∈cP dss st↔xf dss st.1 st.2 p.1=some p.2:=by
 unfold cP;rw[bz];constructor
 . rintro⟨h,b,rfl⟩;obtain⟨q,a⟩:=fz.mp (Z0.mp b);show xf dss st.1 st.2 h=some (nx dss st.1 st.2 h);unfold nx;rw[a];rfl
 . intro e;refine⟨p.1,Z0.mpr (by rw[e];rfl),?_⟩;unfold nx;rw[e];rfl
theorem um{s0:Sn}(w:dI (cP dss) s0 row st):qv dss s0.1 s0.2 row=some st:=by induction w with|nil=>rfl| snoc w b a=>rw[Vm,a];show qv dss _ _ [_]=_;rw[C1];exact Y7.mp b
theorem Xf(c:HD bx dss)(w:dI (cP dss) (cG bx dss) row st):SL bx dss st.1 st.2/\qP dss (cG bx dss) st:=by refine⟨?_,row,um w⟩;induction w with|nil=>exact SL.first|snoc w b a=>exact SL.step c a (Y7.mp b)
theorem Cq(a:HD bx dss)(w:dI (cP dss) (cG bx dss) row st):((row.length:Nat):Int)<=st.1.sum:=by induction w with| nil=>show(0:Int)<=(zs dss.length).sum;exact Qe λx b=>by rw[(fi.mp b).2];exact cg 0| @snoc row st p w c i=>have e:=Y7.mp c;have S:=(Xf a w).1;obtain⟨k,d,j,f,h,_,g⟩:=vw e;rw[g];show(((row++[p.1]).length:Nat):Int)<=(st.1.set k (st.1.getD k 0+1+Yu d st.2)).sum;rw[ue _ _ _ (by rw[S.sd.lp];exact f),ay];have:=pI (ns:=st.2) (Yq a h);show((row.length+1:Nat):Int)<=_;omega
theorem uj(a:HD bx dss)(w:dI (cP dss) (cG bx dss) row st):row.length<=120:=by
 have g:=Cq a w;have S:=(Xf a w).1;have e:∀x∈st.1,x<=30:=λx d=>by
  obtain⟨j,b,rfl⟩:=fj.mp d;have:=S.sd.pl j;rw[ar,ao b]at this;have c:((dss.getD j []).length:Int)<=30:=by have:=a.few (dss.getD j []) (u8 (by rw[<-S.sd.lp];exact b));omega
  have this:st.1[j]<=((dss.getD j []).length:Int):=this;omega
 have c:=J5 e;have f:=a.n4;rw[S.sd.lp]at c;have:((dss.length:Nat):Int)*30<=120:=by omega
 omega
noncomputable def bY(R:List Eh):List (xv×V):=R.map λr=>(kS r.1,V.ref r.2.2)
structure eQ(P:Program)(w:World)(H:Hp)(d:Addr)(R:List Eh):Prop where
 n:cJ P w H d (bY R)
 rows:∀r∈R,H r.2.2=some (.lst (r.2.1.map V.int))
section
variable{d:Addr}
theorem eQ.same(r:eQ P w H d R)(s:Same H H'):eQ P w H' d R:=⟨r.n.same s,λx a=>s _ _ (r.rows x a)⟩
theorem Dt(R:O Eh):(bY R).map (·.1)=(wa R).map kS:=by unfold bY wa;rw[eq,eq];rfl
theorem Z3(R:O Eh):(bY R).length=R.length:=by unfold bY;rw[ae]
theorem BC(h:st∈wa R):∃r∈R,r.1=st/\Zi (bY R) (kS st)=some (.ref r.2.2):=by
 induction R with|nil=>cases h| cons a R b=>
   by_cases e:a.1=st
   . exact⟨a,c8,e,Qa (p:=(kS a.1,V.ref a.2.2)) (by show kS a.1=kS st;rw[e])⟩
   . have g:st∈wa R:=by
      rcases ai.mp (show st∈a.1::wa R from h)with z|z
      . exact absurd z.symm e
      . exact z
     obtain⟨r,f,d,c⟩:=b g;exact⟨r,ce _ f,d,(Qb (p:=(kS a.1,V.ref a.2.2)) (λz=>e (ph z))).trans c⟩
theorem uK(R:O Eh)(st:Sn):(Zi (bY R) (kS st)).isSome=decide (st∈wa R):=by
 rw[Vx,Dt];by_cases c:st∈wa R
 . rw[aw c,aw (Vd.mpr c)]
 . rw[bp c,bp (λz=>c (Vd.mp z))]
theorem BD(h:st ∉ wa R)(b:O Int)(a:Y):Wc (bY R) (kS st) (.ref a)=bY (R++[(st,b,a)]):=by
 have c:Zi (bY R) (kS st)=none:=by cases z:Zi (bY R) (kS st)with|none=>rfl| some v=>have:=uK R st;rw[z,bp h]at this;cases this
 rw[uX _ c];unfold bY;rw[be];rfl
end
def Fw(n:Nat)(bx:Int)(B:List (List Dd)):Prop:=∀L:List Sn,L.Nodup->(∀st∈L,∃row,dI (cP B) (cG bx B) row st)->L.length<=n
theorem xW(b:HD bx dss)(C:nZ bx dss):Fw 1250 bx dss:=λL e h=>Bv (s0:=cG bx dss) b C SL.first e λst a=>by obtain⟨d,c⟩:=h st a;exact Xf b c
theorem Fw.mono(h:Fw n bx dss)(l:n<=m):Fw m bx dss:=λL a k=>c6 (h L a k) l
theorem mR(C:Fw n bx dss)(c:(wa R).Nodup)(a:∀r∈R,dI (cP dss) (cG bx dss) r.2.1 r.1):R.length<=n:=by
 have:=C (wa R) c λst b=>by obtain⟨r,d,rfl⟩:=qt.mp b;exact⟨_,a r d⟩
 unfold wa at this
 rwa[ae]at this
structure lP(P:Program)(w:World)(Hz H2:Hp)(d fa:Addr)(bx:Int)(dss:List (List Dd))(dep:Nat)(H':Hp)(R:List Eh)(N L:List Sn)(i:Nat):Prop where
 b:Zh d fa H2 H'
 r:eQ P w H' d R
 bf:Bg (cP dss) (cG bx dss) dep R N L i
 f:∃ys,H' fa=some (.lst ys)/\L2.IsL H' (L.map tS) ys
 len:L.length<=R.length
 nf:∀r∈R,r.2.2≠fa
 fh:∀r∈R,Hz r.2.2=none
theorem lP.same{P:Program}{w:World}{g h j c:Hp}{d f:Y}{bx:Int}{a:O (O Dd)}{b i:Nat}{R:O Eh}{N L:O Sn}(x:lP P w g h d f bx a b j R N L i)(s:Same j c):lP P w g h d f bx a b c R N L i:=by obtain⟨k,e,l⟩:=x.f;exact⟨x.b.trans s.but2,x.r.same s,x.bf,⟨k,s _ _ e,l.mono s⟩,x.len,x.nf,x.fh⟩
theorem uI{c:Y}(h:H c=some (aP o)):qj H (del H c):=λb a e=>by rw[qp (λz=>by rw[z,h]at e;cases e)];exact e
theorem DV{c:Y}(h:H c=some (aP o))(s:Same (del H c) H'):Same H (upd H' c (aP o)):=λb u e=>by
 by_cases z:b=c
 . rw[z]at e⊢;rw[h]at e;cases e;exact ze
 . rw[zi z];exact s b u (by rw[qp z];exact e)
theorem Ve{x:V}(h:L2.IsL H (L.map tS) xs)(e:xs[i]?=some x):∃st,L[i]?=some st/\Is H (tS st) x:=by obtain⟨t,a,c⟩:=h.get' e;rw[ba]at a;cases b:L[i]? with|none=>rw[b]at a;cases a|some g=>rw[b]at a;cases a;exact⟨g,J,c⟩
inductive kN(P:Program)(w:World)(mg:Str->Option Value)(vs:List V)(H:Hp)(Q:VK)(e0:XK):Prop|mk:∀bx dss v vh f c,vs=[v,.ref f,.int 3000]->HD bx dss->Fw 4100 bx dss->Is H (tS (cG bx dss)) v->Is H (hT bx dss) vh->eE mg H f c vh->(∀d R H',Same H H'->H d=none->eQ P w H' d R->(∀r∈R,H r.2.2=none)->(wa R).Nodup->(∀r∈R,dI (cP dss) (cG bx dss) r.2.1 r.1)->3000<R.length\/Bh (cP dss) (cG bx dss) R->Q (.ref d) H')->kN P w mg vs H Q e0
section
variable{K:W.Frag}
theorem J9:aB ["first","steps","most","rows","newest","later","stand","step","stand_behind"] ["first","steps","most"] (zh X7):=.of
theorem Eo(D:aR K mg "rows_to_all" X7)(T:Txt K mg)(o1:Ok P w K mg base "steps_from" 5 ["house","stand"] iK):Ok P w K mg base "rows_to_all" 7 ["first","steps","most"] (kN P w mg):=by
 refine wu D J9 λf et A dp s H vs Q E u h=>?_;intro X;obtain⟨bx,a,v,vh,fl,c,rfl,hd,C,hv,hh,hL,q⟩:=h;have nd:=J9.nd;have e6:=u.units;have a5:A.units+3+3<cLine:=by have:(A.deeper (envOfC "rows_to_all" (zh X7) s.heap.objs.size f et)).units=A.units+3:=rfl;omega
 refine⟨_,zd (ya (i:=3) nd (Ev a5 (aA 0) (va zb))) (zd (ya (i:=4) nd (va (za (aA 0) zb))) (zd (uV PassesOwn.never (PW.pt (Xk (Qq (aA 4) (λ_=>rfl)) (Zv (zp Qz (zo Y9 J T.len yi (za (aA 3) zb)) (aA 2) (zm _))))) (zd (ya (i:=5) nd (va zb)) (zd (vo PassesOwn.never J (w9 (aA 4)) (zw (i:=6) nd) (zf (vo PassesOwn.never J (w9 (DP (i:=1) (qual:=vd) (aK:=sx) (aS:=sA) (pm:=(mg "__name__").getD .none) yS u J (Or.inl J) (λ_ _ _ _=>rfl) (λ_ _ _ _ _=>zy o1 (u.deeper _) (za (aA 1) (za (aA 0) zb))) (za (aA 6) zb))) (ju J (yn (zw (i:=7) nd) (yn (zw (i:=8) nd) ql))) (zf (yd (nA (Y6 a5 (aA 8) (aA 3))) (zd (uv a5 (aA 3) (aA 8) (zx Yk (B8 a5 (aA 3) (aA 6) (λ_ _=>rfl)) (vz (za (aA 7) zb))) J) (zf (we (Zk PySem.F.plainAttrs_list PySem.F.slot_list_append PySem.F.type_list_append vn (aA 5) (za (aA 8) zb))))) zt)))))
   (zf (ya (i:=4) nd (aA 5))))))
  (zf (zk (aA 3))))),?_⟩
 obtain⟨bv,zv,rfl,e9,e5⟩:=id hv;refine λd o0 G c9=>⟨_,J,by show 0<=1000;decide,λr0 H0 s0 d6 g0=>⟨bv,kS (cG bx a),J,(hv.mono (Same.new G _)).mono s0,c9.same s0,λa4 ej=>?_⟩⟩
 have dt:r0≠d:=(c9.same s0).ne g0;have s1:Same H (upd H0 d a4):=λb o e=>by rw[zi (zj e G)];exact s0 b o (by rw[zi (zj e G)];exact e)
 have c5:eQ P w (upd H0 d a4) d [(cG bx a,[],r0)]:=⟨ej,λr u=>by rw[bc.mp u];show upd H0 d a4 r0=some (.lst []);rw[zi dt];exact g0⟩
 generalize upd H0 d a4=H1 at s1 c5⊢;refine⟨_,J,by show 1<=1000;decide,λnw H2 s2 e7 g2=>?_⟩;have cc:=s1.trans s2;refine⟨λn σ l=>∃nw N R g x5 x6 x7 x8,σ=[some (.ref bv),some (.ref fl),some (.int 3000),some (.ref d),some (.ref nw),x5,x6,x7,x8]/\Same H l/\eQ P w l d R/\Bg (cP a) (cG bx a) g R N [] 0/\(∃ys,l nw=some (.lst ys)/\L2.IsL l (N.map tS) ys)/\n+g=121/\N.length<=4100/\(∀r∈R,H r.2.2=none),⟨121,nw,[cG bx a],[(cG bx a,[],r0)],0,none,none,none,none,J,cc,c5.same s2,Bg.start r0,⟨_,g2,IsL.one (hv.mono cc)⟩,J,by show 1<=4100;decide,λr u=>(by rw[bc.mp u];exact Same.none (Same.new G _) d6)⟩,?_⟩
 rintro n σ H2 ⟨nw,N,R,g,x5,x6,x7,x8,rfl,s2,hR,bf,iN,hn,ey,b4⟩;obtain⟨xs,hl,co⟩:=iN;have af:=co.length;rw[ae]at af;refine⟨_,J,_,.inl ⟨_,aE.of hl,J⟩,?_⟩;cases hN:N with
 | nil=>rw[hN]at af bf;have d4:xs=[]:=gb.mp af;subst d4;refine yr (yr ?_);exact⟨_,J,q d R H2 s2 G hR b4 bf.nd bf.way (.inr bf.end')⟩
 | cons g0 N0=>
   have d2:(!xs.isEmpty)=true:=by
    cases xs with
    |nil=>rw[hN]at af;cases af
    |cons _ _=>rfl
   rw[d2];have ff:=mR C bf.nd bf.way;refine xu ⟨_,J,d,bY R,J,hR.n,_,J,_,_,J,J,_,J,?_⟩;by_cases h3:R.length<=3000;rotate_left
   . rw[bp (show¬(((bY R).length:Nat):Int)<=3000 by rw[Z3];omega)];exact yr ⟨_,J,q d R H2 s2 G hR b4 bf.nd bf.way (.inl (by omega))⟩
   rw[aw (show(((bY R).length:Nat):Int)<=3000 by rw[Z3];omega)];refine xu ?_;have eC:g<=120:=by obtain⟨r,u,e1,e2⟩:=bf.nr g0 (by rw[hN];exact c8);have:=uj hd (bf.way r u);omega
   refine⟨λb9 l=>∃n',n'<n/\∃nw N R g x5 x6 x7 x8,b9=[some (.ref bv),some (.ref fl),some (.int 3000),some (.ref d),some (.ref nw),x5,x6,x7,x8]/\Same H l/\eQ P w l d R/\Bg (cP a) (cG bx a) g R N [] 0/\(∃ys,l nw=some (.lst ys)/\L2.IsL l (N.map tS) ys)/\n'+g=121/\N.length<=4100/\(∀r∈R,H r.2.2=none),λb9 l h=>h,?_⟩;refine⟨by show 0<=1000;decide,λk H4 s4 a7 g4=>?_⟩;have dn:=s2.trans s4;have a9:=hR.same s4;have b2:=s4 _ _ hl;have d9:=co.mono s4;have c3:H k=none:=Same.none s2 a7;obtain⟨e4,ef,_⟩:=id a9.n;have cj:k≠d:=a9.n.ne g4;have dL:nw≠d:=a9.n.ne b2;have dK:nw≠k:=λy=>by rw[<-y,hl]at a7;cases a7
   have HS:∀{l:Hp},Zh d k H4 l->Same H l:=λb c o e=>b c o (zj e G) (zj e c3) (dn _ _ e);have TP:∀{l:Hp},Zh d k H4 l->qj H4 l:=λb c xs e=>b c _ (Zl e ef (λz=>by cases z)) (Zl e g4 (λz=>by cases z)) e;have I4:lP P w H H4 d k bx a g H4 R N [] 0:=⟨Zh.refl _ _ _,a9,bf,⟨[],g4,J⟩,cm _,λr u z=>(by have h1:=hR.rows r u;rw[z,a7]at h1;cases h1),b4⟩
   refine⟨_,J,nw,J,⟨_,aE.of b2⟩,?_⟩;refine ki (xs:=xs) (λi σ l=>∃R L x6 x7 x8,σ=[some (.ref bv),some (.ref fl),some (.int 3000),some (.ref d),some (.ref nw),some (.ref k),x6,x7,x8]/\lP P w H H4 d k bx a g l R N L i) ⟨R,[],_,_,_,J,I4⟩ (λi σ l _ ⟨_,_,_,_,_,_,x⟩=>aE.of (x.b _ _ dL dK b2)) ?_ ?_;rotate_left
   . rintro σ H5 ⟨R',L,y6,y7,y8,rfl,B⟩;have eH:=mR C B.bf.nd B.bf.way;have:=B.len;have dj:=B.bf;rw[af]at dj;exact⟨_,J,n-1,by omega,k,L,R',g+1,_,_,_,_,J,HS B.b,B.r,dj.level,B.f,by omega,by omega,B.fh⟩
   rintro i x σ H5 d3 ⟨R',L,y6,y7,y8,rfl,B⟩;obtain⟨st,eg,d1⟩:=Ve d9 d3;have b3:=br eg;have ig:=d1.tups (TP B.b) Ym;obtain⟨r,d5,er,lr⟩:=B.bf.nr st b3;have ew:SL bx a st.1 st.2:=by rw[<-er];exact(Xf hd (B.bf.way r d5)).1
   have ea:=hh.mono (HS B.b);obtain⟨c',eo,oc,dr,uk,L1,L2,L3,L4,L5,L6⟩:=hL.same (HS B.b);refine⟨_,J,_,J,x,c,c',eo,oc,dr,vh,uk,J,L1,L2,L3,L4,L5,L6,?_⟩;refine⟨_,J,_,J,bx,a,st.1,st.2,vh,x,J,(show At H5 bx a st.1 st.2 vh x from⟨hd,ew.sd,ea,ig⟩).tups (uI L4),λlg ys l s' c0 g' i' bT=>?_⟩;have s6:=DV L4 s';have bL:lg≠c:=λz=>by rw[z,bT]at g';cases g'
   have W:H5 lg=none:=by rw[<-c0,qp bL]
   have g6:upd l c (aP oc) lg=some (.lst ys):=by rw[zi bL];exact g'
   have i6:=i'.mono (Same.new bT (aP oc));generalize upd l c (aP oc)=H6 at s6 g6 i6⊢;clear s' c0 g' i' bT bL;have I6:=B.same s6;have cr:=ig.mono s6;obtain⟨ag,eM,rfl,fc,_⟩:=id cr;have cw:=i6.length;rw[ae]at cw;obtain⟨eZ,ed,_⟩:=id I6.r.n;obtain⟨eS,el,_⟩:=id I6.f;have ci:lg≠d/\lg≠k:=by obtain⟨eW,en,_⟩:=B.f;obtain⟨e3,ee,_⟩:=id B.r.n;exact⟨λy=>(by rw[y,ee]at W;cases W),λy=>(by rw[y,en]at W;cases W)⟩
   refine⟨lg,J,⟨_,aE.of g6⟩,?_⟩;refine ki (xs:=ys) (λj σ l=>∃R L x7 x8,σ=[some (.ref bv),some (.ref fl),some (.int 3000),some (.ref d),some (.ref nw),some (.ref k),some (.ref ag),x7,x8]/\Zh d k H6 l/\lP P w H H4 d k bx a g l R N L i/\∀p∈(cP a st).take j,p.2∈wa R) ⟨R',L,_,_,J,Zh.refl _ _ _,I6,λg' h=>(by cases h)⟩ (λj σ l _ ⟨_,_,_,_,_,b,_⟩=>aE.of (b _ _ ci.1 ci.2 g6)) ?_ ?_;rotate_left
   . rintro σ H8 ⟨R8,L8,z7,z8,rfl,b8,m,a8⟩;have e:ys.length=(cP a st).length:=by unfold cP;rw[ae];exact cw
     rw[e,dl]at a8;exact⟨R8,L8,_,_,_,J,m.b,m.r,m.bf.done eg a8,m.f,m.len,m.nf,m.fh⟩
   rintro j x σ H8 hx ⟨R8,L8,z7,z8,rfl,b8,m,a8⟩;have bA:qj H6 H8:=λc xs e=>b8 c _ (Zl e ed (λz=>by cases z)) (Zl e el (λz=>by cases z)) e;obtain⟨t,ht,it⟩:=i6.get' hx;rw[ba]at ht;cases eh:(bN a st.1 st.2)[j]? with
   |none=>rw[eh]at ht;cases ht
   |some h=>
   rw[eh]at ht;cases ht;have cE:(cP a st)[j]?=some (h,nx a st.1 st.2 h):=by unfold cP;rw[ba,eh];rfl
   have d7:=br cE;obtain⟨ap,eK,rfl,ei,vg,r1,rfl,dV,vm,r2,rfl,dT,cL⟩:=it;cases(show r2=[]from cL);cases(show vg=.int h from dV);have c4:=bA _ _ ei;have av:Is H8 (tS (nx a st.1 st.2 h)) vm:=dT.tups bA Ym;have d0:Is H8 (tS st) (.ref ag):=cr.tups bA Ym;refine⟨ap,_,J,aD.of c4,J,_,_,J,_,_,J,J,?_⟩;obtain⟨au,eL,rfl,fa,_⟩:=id av;refine⟨_,J,_,J,d,au,bY R8,kS (nx a st.1 st.2 h),J,J,m.r.n,av,_,J,?_⟩;rw[uK];have ah:∀{K2:List Sn},(∀q,q∈wa R8->q∈K2)->nx a st.1 st.2 h∈K2->∀p∈(cP a st).take (j+1),p.2∈K2:=λh1 h2 g2 c2=>by
    rw[dm,cE]at c2;rcases ck.mp c2 with y|y
    . exact h1 _ (a8 g2 y)
    . have y:g2∈[(h,nx a st.1 st.2 h)]:=y;rw[bc.mp y];exact h2
   by_cases z:nx a st.1 st.2 h∈wa R8
   . rw[aw z];exact yr ⟨R8,L8,_,_,J,b8,m,ah (λ_ h=>h) z⟩
   rw[bp z];refine xu ?_;have eb:st∈wa R8:=by obtain⟨r,h1,h2,_⟩:=m.bf.nr st b3;exact qt.mpr ⟨r,h1,h2⟩
   obtain⟨U,b1,di,c1⟩:=BC eb;have cl:U.2.1.length=g:=by obtain⟨r,h1,h2,h3⟩:=m.bf.nr st b3;rw[Dp m.bf.nd b1 h1 (di.trans h2.symm)];exact h3
   have b0:=m.r.rows U b1;have eD:=mR C m.bf.nd m.bf.way;refine⟨_,J,_,J,d,ag,bY R8,kS st,_,J,J,m.r.n,d0,c1,_,J,bF,λp9 d8=>?_⟩;have s9:=Same.new d8 (.lst [V.int h]);have g9:upd H8 p9 (.lst [V.int h]) p9=some (.lst [V.int h]):=ze;generalize upd H8 p9 (.lst [V.int h])=H9 at s9 g9⊢;refine⟨U.2.2,p9,_,_,J,J,s9 _ _ b0,g9,yb (by rw[ae,cl];show g+1<=1000;omega),λpr a6=>?_⟩;have cf:=Same.new a6 (.lst (U.2.1.map V.int++[V.int h]));have b5:upd H9 pr (.lst (U.2.1.map V.int++[V.int h])) pr=some (.lst ((U.2.1++[h]).map V.int)):=by rw[ze,be];rfl
   generalize upd H9 pr (.lst (U.2.1.map V.int++[V.int h]))=F at cf b5⊢;have am:=s9.trans cf;have M:=m.same am;have ev:=b8.trans (Same.but2 (d:=d) (f:=k) am);have iu:=av.mono am;obtain⟨yf,gf,cv⟩:=M.f;refine⟨_,J,_,J,d,au,bY R8,kS (nx a st.1 st.2 h),J,J,M.r.n,iu,oS (by rw[Z3];omega),λo' db=>?_⟩;rw[BD z (U.2.1++[h]) pr]at db;have du:pr≠d:=M.r.n.ne b5;have cb:qj F (upd F d o'):=M.r.n.tups;have a3:eQ P w (upd F d o') d (R8++[(nx a st.1 st.2 h,U.2.1++[h],pr)]):=⟨db,λr u=>by
    rcases ck.mp u with y|y
    . have:=M.r.rows r y;rw[zi (M.r.n.ne this)];exact this
    . rw[bc.mp y];show upd F d o' pr=_;rw[zi du];exact b5⟩
   have Z:upd F d o' k=some (.lst yf):=by rw[zi cj];exact gf
   have b7:Zh d k F (upd F d o'):=Zh.updD;have bk:=iu.tups cb Ym;have ax:=cv.tups cb (Yn L8);generalize upd F d o'=S at a3 Z b7 bk ax⊢;have ec:=ax.length;rw[ae]at ec;have e8:=m.len;refine⟨_,J,.inl ⟨J,_,aE.of Z⟩,_,J,k,yf,_,J,J,Z,oS (by omega),?_⟩;have bt:qj S (upd S k (.lst (yf++[.ref au]))):=qj.upd Z (λzs z=>by cases z);have b6:Zh d k S (upd S k (.lst (yf++[.ref au]))):=Zh.updF;have bq:upd S k (.lst (yf++[.ref au])) k=some (.lst (yf++[.ref au])):=ze;have bb:∀r∈R8++[(nx a st.1 st.2 h,U.2.1++[h],pr)],r.2.2≠k:=λr u=>by
    rcases ck.mp u with y|y
    . exact m.nf r y
    . rw[bc.mp y];intro e;have e:pr=k:=e;obtain⟨eR,ek,_⟩:=m.f;rw[e,s9 _ _ ek]at a6;cases a6
   have bo:eQ P w (upd S k (.lst (yf++[.ref au]))) d (R8++[(nx a st.1 st.2 h,U.2.1++[h],pr)]):=⟨a3.n.by bt (by rw[zi (al cj)]),λr u=>by rw[zi (bb r u)];exact a3.rows r u⟩
   have bd:=bk.tups bt Ym;have bl:=ax.tups bt (Yn L8);generalize upd S k (.lst (yf++[.ref au]))=fh at b6 bq bo bd bl⊢;have dc:∀r∈R8++[(nx a st.1 st.2 h,U.2.1++[h],pr)],H r.2.2=none:=λr u=>by
    rcases ck.mp u with y|y
    . exact m.fh r y
    . rw[bc.mp y];exact Same.none ((HS m.b).trans s9) a6
   have dk:=m.bf.step (r:=U) (p:=(h,nx a st.1 st.2 h)) b1 cl (by rw[di];exact d7) z pr;refine⟨R8++[(nx a st.1 st.2 h,U.2.1++[h],pr)],L8++[nx a st.1 st.2 h],_,_,J,ev.trans (b7.trans b6),⟨M.b.trans (b7.trans b6),bo,dk,⟨_,bq,?_⟩,?_,bb,dc⟩,ah (λq hq=>?_) ?_⟩
   . rw[be];exact IsL.append bl (IsL.one bd)
   . rw[ay,ay,bg,bg];omega
   . rw[Z4];exact f8 _ hq
   . rw[Z4];exact dy _ (bc.mpr J)
end
noncomputable abbrev Wa:Stmt:=top 53
noncomputable abbrev Qo:Stmt:=top 54
noncomputable def fD(B:List (List Dd))(st:Sn):List Int:=(bN B st.1 st.2).filter λh=>bV B st.1 st.2 h
inductive lf(P:Program)(w:World)(vs:List V)(H:Hp)(Q:VK)(e0:XK):Prop|mk:∀bx dss vh d R,vs=[vh,.ref d]->HD bx dss->Is H (hT bx dss) vh->eQ P w H d R->(∀r∈R,SL bx dss r.1.1 r.1.2/\r.2.1.length<=120)->((∀r∈R,fD dss r.1=[])->∀H',Same H H'->Q .non H')->(∀(i:Nat)(r:Eh)(h:Int) vx,R[i]?=some r->(∀r'∈R.take i,fD dss r'.1=[])->fD dss r.1=h::vx->∀l H',Same H H'->H l=none->H' l=some (.lst ((r.2.1++[h]).map V.int))->Q (.ref l) H')->lf P w vs H Q e0
inductive kF(P:Program)(w:World)(vs:List V)(H:Hp)(Q:VK)(e0:XK):Prop|mk:∀bx dss vh d R,vs=[vh,.ref d]->HD bx dss->Is H (hT bx dss) vh->eQ P w H d R->(∀r∈R,SL bx dss r.1.1 r.1.2/\r.2.1.length<=120)->((∀r∈R,Z1 dss r.1.1 r.1.2=false)->∀H',Same H H'->Q .non H')->(∀(i:Nat)(r:Eh),R[i]?=some r->(∀r'∈R.take i,Z1 dss r'.1.1 r'.1.2=false)->Z1 dss r.1.1 r.1.2=true->∀H',Same H H'->Q (.ref r.2.2) H')->kF P w vs H Q e0
section
variable{K:W.Frag}
theorem Kd:aB ["house","rows","stand","row","early"] ["house","rows"] (zh Wa):=.of
theorem EX(D:aR K mg "early_weaving" Wa)(T:Txt K mg)(o1:Ok P w K mg base "going" 4 ["house","stand"] gD)(o2:Ok P w K mg base "is_early_go" 2 ["house","stand","hand"] iQ):Ok P w K mg base "early_weaving" 5 ["house","rows"] (lf P w):=by
 refine wu D Kd λf bf A a4 s H vs Q E F h=>?_;intro X;obtain⟨bx,a,vh,d,R,rfl,hd,hh,hR,hS,q0,q1⟩:=h;have nd:=Kd.nd;have r2:=F.mono (show 2<=4 by decide);refine⟨_,zd (uu (vo PassesOwn.never J (Kf (aA 1)) (ju J (yn (zw (i:=2) nd) (yn (zw (i:=3) nd) ql))) (zd (ni (i:=4) (own:=["hand"]) (cap:=[0,2]) J (yo (zh Wa) J J (by decide+kernel) (by decide+kernel) (by decide+kernel) ⟨⟨_,J,.inl J,wr J⟩,⟨_,J,.inl J,wr J⟩,trivial⟩) (w9 (zy o1 F (za (aA 0) (za (aA 2) zb)))) (λ_ _ _ _=>zw (i:=0) (by show(["hand","house","stand"]:List Str).Nodup;decide+kernel)) (λ_ _ _ _=>V0 (yz (zy o2 r2 (za (aA 1) (za (aA 2) (za (aA 0) zb)))))) (λ_ _ _ _=>aA 0) nd J J (by with_unfolding_all rfl))
   (zf (yd (Qq (aA 4) (λ_=>rfl)) (zf (zk (zx Yk (aA 3) (xi uc (aA 4) wm (wc zc))))) zt)))))
  (zf (zk qd)),?_⟩
 refine⟨d,bY R,hR.n,λo u hu am=>?_⟩;have sF:∀{q:Hp},Same (upd H d (.frz o u)) q->q d=some (.frz o u)/\Same H (upd q d u):=λ{q} s'=>by
  refine⟨s' _ _ ze,λb x e=>?_⟩;by_cases z:b=d
  . rw[z]at e⊢;rw[hu]at e;cases e;exact ze
  . rw[zi z];exact s' _ _ (by rw[zi z];exact e)
 obtain⟨a9,a7,_⟩:=id hR.n;have a3:qj H (upd H d (.frz o u)):=qj.upd a7 (λzs z=>by cases z);have a6:=hh.tups a3 hd.fro;have W:∀r∈R,upd H d (.frz o u) r.2.2=some (.lst (r.2.1.map V.int)):=λr F=>by have:=hR.rows r F;rw[zi (hR.n.ne this)];exact this
 refine⟨_,J,d,o,bY R,J,am,?_⟩;refine Je (λi σ q=>∃x2 x3 x4,σ=[some vh,some (.ref d),x2,x3,x4]/\Same (upd H d (.frz o u)) q/\∀r'∈R.take i,fD a r'.1=[]) ⟨_,_,_,J,Same.refl _,λr h=>(by cases h)⟩ (λi σ q _ ⟨_,_,_,_,s',_⟩=>am.same s') ?_ ?_;rotate_left
 . rintro σ H6 ⟨x2,x3,x4,rfl,s6,n⟩;rw[Z3,dl]at n;obtain⟨h1,h2⟩:=sF s6;exact⟨h1,q0 n _ h2⟩
 rintro i kv σ H6 g ⟨x2,x3,x4,rfl,s6,n⟩ p b hp hb;unfold bY at g;rw[ba]at g;cases er:R[i]? with
 |none=>rw[er]at g;cases g
 |some r=>
 rw[er]at g;cases g;have F:=br er;obtain⟨Sr,bb⟩:=hS r F;have s7:=Same.new hp (.tup [.ref b,.ref r.2.2]);have g7:upd H6 p (.tup [.ref b,.ref r.2.2]) p=some (.tup [.ref b,.ref r.2.2]):=ze;generalize upd H6 p (.tup [.ref b,.ref r.2.2])=H7 at s7 g7⊢;have U:=s6.trans s7;refine⟨p,_,J,aD.of g7,J,_,_,J,_,_,J,J,?_⟩;have A7:At H7 bx a r.1.1 r.1.2 vh (.ref b):=⟨hd,Sr.sd,a6.mono U,(show Is H6 (tS r.1) (.ref b)from hb).mono s7⟩
 refine⟨_,J,_,J,bx,a,r.1.1,r.1.2,vh,.ref b,J,A7,λlg H8 s8 bd g8=>?_⟩;have n4:=hd.n4;have a8:(bN a r.1.1 r.1.2).length<=4:=by unfold bN;refine c6 (gd _ _) ?_;rw[ae,da];exact n4
 refine⟨lg,J,⟨_,aE.of g8⟩,?_⟩;refine kz (xs:=(bN a r.1.1 r.1.2).map V.int) (λj ys q=>Same H8 q/\ys=(((bN a r.1.1 r.1.2).take j).filter λh=>bV a r.1.1 r.1.2 h).map V.int) ⟨Same.refl H8,J⟩ (λj ys q hj ⟨C,e⟩=>⟨aE.of (C _ _ g8),by rw[e,ae];have:=gd (λh=>bV a r.1.1 r.1.2 h) ((bN a r.1.1 r.1.2).take j);rw[bu]at this;exact yb (by omega)⟩) ?_ ?_
 . rintro j x ys H9 hx ⟨C,rfl⟩;rw[ba]at hx;cases eh:(bN a r.1.1 r.1.2)[j]? with
   |none=>rw[eh]at hx;cases hx
   |some h=>
   rw[eh]at hx;cases hx;obtain⟨q',ag⟩:=fz.mp (Z0.mp (br eh));obtain⟨k,dd,ek,hk,ed,_,_⟩:=vw ag;refine⟨_,J,_,J,_,J,bx,a,r.1.1,r.1.2,vh,.ref b,k,dd,by rw[ek];rfl,(A7.same s8).same C,hk,ed,λG m=>⟨_,J,?_⟩⟩;have L:bV a r.1.1 r.1.2 h=nN a r.1.1 k dd:=by unfold bV;rw[ag,ek,cz,ed]
   rw[dm,eh,List.filter_append,be];refine ye (λz=>?_) (λz=>?_)
   . refine⟨_,J,C.trans m,?_⟩;have:([h].filter λh=>bV a r.1.1 r.1.2 h)=[h]:=by simp[L,z]
     show _=_++([h].filter λh=>bV a r.1.1 r.1.2 h).map V.int;rw[this];rfl
   . refine⟨C.trans m,?_⟩;have:([h].filter λh=>bV a r.1.1 r.1.2 h)=[]:=by simp[L,z]
     show _=_++([h].filter λh=>bV a r.1.1 r.1.2 h).map V.int;rw[this,List.map_nil,ez]
 rintro ys H9 ⟨C,rfl⟩ le a5;rw[ae,dl,show((bN a r.1.1 r.1.2).filter λh=>bV a r.1.1 r.1.2 h)=fD a r.1 from rfl];have m:=Same.new a5 (.lst ((fD a r.1).map V.int));have v:upd H9 le (.lst ((fD a r.1).map V.int)) le=some (.lst ((fD a r.1).map V.int)):=ze;generalize upd H9 le (.lst ((fD a r.1).map V.int))=G at m v⊢;have M:=s8.trans (C.trans m);have B:=U.trans M;refine⟨_,J,_,.inl ⟨_,aE.of v,J⟩,?_⟩;cases L:fD a r.1 with
 | nil=>
   refine yr ⟨_,_,_,J,B,λr' af=>?_⟩;rw[dm,er]at af;rcases ck.mp af with y|y
   . exact n r' y
   . have y:r'∈[r]:=y;rw[bc.mp y];exact L
 | cons h vx=>
   rw[L]at v;refine xu ⟨_,J,_,J,1,J,le,_,J,aE.of v,λt ah=>?_⟩;have av:iD ((h::vx).map V.int) none (some 1)=[V.int h]:=(Z7 ((h::vx).map V.int) 1).trans J;rw[av];have S:=Same.new ah (.lst [V.int h]);have au:upd G t (.lst [V.int h]) t=some (.lst [V.int h]):=ze;generalize upd G t (.lst [V.int h])=ax at S au⊢;have c:=B.trans S;refine⟨r.2.2,t,_,_,J,J,c _ _ (W r F),au,yb (by rw[ae];show r.2.1.length+1<=1000;omega),λl hl=>?_⟩;have N:=Same.new hl (.lst (r.2.1.map V.int++[V.int h]));have ap:upd ax l (.lst (r.2.1.map V.int++[V.int h])) l=some (.lst ((r.2.1++[h]).map V.int)):=by rw[ze,be];rfl
   generalize upd ax l (.lst (r.2.1.map V.int++[V.int h]))=bk at N ap⊢;obtain⟨h1,h2⟩:=sF (c.trans N);have Z:l≠d:=λz=>by rw[z,(sF c).1]at hl;cases hl
   refine⟨h1,q1 i r h vx er n L l _ h2 ?_ (by rw[zi Z];exact ap)⟩;cases z:H l with
   |none=>rfl
   |some x=>rw[c l x (by rw[zi Z];exact z)]at hl;cases hl
theorem J8:aB ["house","rows","stand","row"] ["house","rows"] (zh Qo):=.of
theorem Et(D:aR K mg "stuck_weaving" Qo)(T:Txt K mg)(o1:Ok P w K mg base "stops" 5 ["house","stand"] dW):Ok P w K mg base "stuck_weaving" 6 ["house","rows"] (kF P w):=by
 refine wu D J8 λf am A U s H vs Q E W h=>?_;intro X;obtain⟨bx,g,L,d,R,rfl,hd,hh,hR,hS,q0,q1⟩:=h;have nd:=J8.nd;refine⟨_,zd (uu (vo PassesOwn.never J (Kf (aA 1)) (ju J (yn (zw (i:=2) nd) (yn (zw (i:=3) nd) ql))) (zf (yd (yz (zy o1 W (za (aA 0) (za (aA 2) zb)))) (zf (zk (aA 3))) zt))))
  (zf (zk qd)),?_⟩
 refine⟨d,bY R,hR.n,λo u hu q=>?_⟩;have sF:∀{j:Hp},Same (upd H d (.frz o u)) j->j d=some (.frz o u)/\Same H (upd j d u):=λ{j} B=>by
  refine⟨B _ _ ze,λb x e=>?_⟩;by_cases z:b=d
  . rw[z]at e⊢;rw[hu]at e;cases e;exact ze
  . rw[zi z];exact B _ _ (by rw[zi z];exact e)
 obtain⟨ag,af,_⟩:=id hR.n;have M:qj H (upd H d (.frz o u)):=qj.upd af (λzs z=>by cases z);have Z:=hh.tups M hd.fro;refine⟨_,J,d,o,bY R,J,q,?_⟩;refine Je (λi v j=>∃G F,v=[some L,some (.ref d),G,F]/\Same (upd H d (.frz o u)) j/\∀m∈R.take i,Z1 g m.1.1 m.1.2=false) ⟨_,_,J,Same.refl _,λr h=>(by cases h)⟩ (λi v j _ ⟨_,_,_,B,_⟩=>q.same B) ?_ ?_;rotate_left
 . rintro v C ⟨G,F,rfl,S,c⟩;rw[Z3,dl]at c;obtain⟨h1,h2⟩:=sF S;exact⟨h1,q0 c _ h2⟩
 rintro i kv v C a ⟨G,F,rfl,S,c⟩ p b hp hb;unfold bY at a;rw[ba]at a;cases t:R[i]? with|none=>rw[t]at a;cases a|some r=>
 rw[t]at a;cases a;have W:=br t;obtain⟨Sr,ah⟩:=hS r W;have N:=Same.new hp (.tup [.ref b,.ref r.2.2]);have g7:upd C p (.tup [.ref b,.ref r.2.2]) p=some (.tup [.ref b,.ref r.2.2]):=ze;generalize upd C p (.tup [.ref b,.ref r.2.2])=H7 at N g7⊢;have l:=S.trans N;refine⟨p,_,J,aD.of g7,J,_,_,J,_,_,J,J,?_⟩;have A7:At H7 bx g r.1.1 r.1.2 L (.ref b):=⟨hd,Sr.sd,Z.mono l,(show Is C (tS r.1) (.ref b)from hb).mono N⟩
 refine⟨_,J,_,J,bx,g,r.1.1,r.1.2,L,.ref b,J,A7,λH8 s8=>⟨_,J,?_⟩⟩;have k:=l.trans s8;refine ye (λz=>?_) (λz=>?_)
 . obtain⟨h1,h2⟩:=sF k;exact⟨_,J,h1,q1 i r t c z _ h2⟩
 . refine⟨_,_,J,k,λm n=>?_⟩;rw[dm,t]at n;rcases ck.mp n with y|y
   . exact c m y
   . have y:m∈[r]:=y;rw[bc.mp y];simpa using z
theorem vM:aB ["house","p","rows","early","stuck"] ["house","p"] (zh Yz):=.of
end
inductive lH(K:W.Frag)(mg:Str->Option Value)(x:Str)(st:Stmt)(c:Addr):Prop|mk:∀f fd,gY K x x st f fd->mg x=some (.ref f)->fd.code=.ref c->lH K mg x st c
section
variable{K:W.Frag}
theorem Au{st:Stmt}{N:O Str}{c:Y}(D:lH K mg x st c)(S:aB N ps (zh st))(u:∀(kV h pm:I)(n:Option Y)(g m:I)(us:O I),us.length=ps.length->bindArgs (W.fnOf x x (jf st) (yg st) (zh st) .none kV h pm n g m) ⟨us,[]⟩=pure (ps.zip us))
  (i:∀vs H Q E,sp vs H Q E->vs.length=ps.length)
  (d:∀(f:Y) (A:Around) (a:O Env) (s:Shared) (H:Hp) (vs:O V) (Q:VK) (E:XK),aO k (A.deeper (envOfC x (zh st) s.heap.objs.size f (.ref c)))->sp vs H Q E-> let X:=Yp (dN P w) P w K mg base N x (zh st) f (.ref c) A a s H E;∃t,dR X (yg st) t/\t (.of Q) (start N vs) H):cT P w K mg base x (k+1) ps sp:=by obtain⟨f,v,F,r,b⟩:=D;refine⟨f,v,?_,F.binds u,F.kp,r⟩;obtain⟨z,y,kV,h,pm,n,g,m,o,rfl,p,l⟩:=F.ex;have e:g=.ref c:=b;subst e;exact oF p l S i λA a s H vs Q E q j=>d f A a s H vs Q E q j
end
def Bt(B:Addr)(H F:Hp):Prop:=∀b o,b≠B->H b=some o->F b=some o
inductive gX(tb:Addr)(H:Hp):Prop|mk:∀ps,H tb=some (.tbl ps)->gX tb H
theorem Z9(h:aM tb pos qual H):gX tb H:=let⟨a,h,_,_⟩:=h;⟨a,h⟩
theorem Bt.tups(b:Bt tb H H')(t:gX tb H):qj H H':=λc a e=>b c _ (λz=>by obtain⟨d,h⟩:=t;rw[z,h]at e;cases e) e
abbrev Xb(bx:Int)(B:List (List Dd))(F:List Int)(st:Sn):Prop:=dI (cP B) (cG bx B) F st
def mG(bx:Int)(B:List (List Dd)):Prop:=∀row st h,Xb bx B row st->bV B st.1 st.2 h=false
def wU(bx:Int)(B:List (List Dd)):Prop:=∀row st,Xb bx B row st->Z1 B st.1 st.2=false
def Wv(bx:Int)(B:List (List Dd))(W U:Hp)(a:Addr):Prop:=
 (∃l row h st,U a=some (.tup [.str "early",.ref l])/\W l=none/\U l=some (.lst ((row++[h]).map V.int))/\Xb bx B row st/\bV B st.1 st.2 h=true/\∀F G h',Xb bx B F G->bV B G.1 G.2 h'=true->row.length<=F.length)\/
 (∃l row st,U a=some (.tup [.str "stuck",.ref l])/\W l=none/\U l=some (.lst (row.map V.int))/\Xb bx B row st/\Z1 B st.1 st.2=true/\mG bx B/\∀F G,Xb bx B F G->Z1 B G.1 G.2=true->row.length<=F.length)\/
 (∃l,∃L:List Sn,∃ys,U a=some (.tup [.str "holds",.ref l])/\W l=none/\U l=some (.lst ys)/\L2.IsL U (L.map tS) ys/\L.length<=3000/\L.Nodup/\(∀st,st∈L↔∃row,Xb bx B row st)/\mG bx B/\wU bx B)
inductive gw(tb cH cW cM:Addr)(vs:List V)(H:Hp)(Q:VK)(E:XK):Prop|mk:∀t v (p:Int),vs=[v,.int p]->Is H t v->Wh t->aM tb jy vd H->(xt t=false->∀H',Same H H'->E (.ref cH) none H')->(xt t=true->∃bx dss,HD bx dss/\Is H (hT bx dss) v/\(xr p dss=false->∀H',Same H H'->E (.ref cW) none H')/\(xr p dss=true->Fw 4100 bx dss/\(¬Fw 3000 bx dss->∀H',Bt tb H H'->aM tb jy vd H'->E (.ref cM) none H')/\(Fw 3000 bx dss->∀a H',Bt tb H H'->aM tb jy vd H'->Wv bx dss H H' a->Q (.ref a) H')))->gw tb cH cW cM vs H Q E
theorem xX(B:Bh (cP dss) (cG bx dss) R)(h:R.length<=n):Fw n bx dss:=λL d k=>by
 have:=Yx (M:=wa R) d λst b=>by obtain⟨a,c⟩:=k st b;obtain⟨r,f,e,_⟩:=B.all a st c;exact qt.mpr ⟨r,f,e⟩
 unfold wa at this;rw[ae]at this;omega
theorem Ax(b:(wa R).Nodup)(a:∀r∈R,dI (cP dss) (cG bx dss) r.2.1 r.1)(h:n<R.length):¬Fw n bx dss:=λF=>by have:=mR F b a;omega
theorem sR{h:Int}(e:bV dss st.1 st.2 h=true):h∈bN dss st.1 st.2:=by refine Z0.mpr ?_;unfold bV at e;cases z:xf dss st.1 st.2 h with|none=>rw[z]at e;cases e|some q=>rfl
theorem Aw(B:Bh (cP dss) (cG bx dss) R)(h:∀r∈R,fD dss r.1=[]):mG bx dss:=λa st b w=>by obtain⟨r,c,e,_⟩:=B.all a st w;cases z:bV dss st.1 st.2 b with|false=>rfl| true=>have:b∈fD dss st:=fq.mpr ⟨sR z,z⟩;rw[<-e,h r c]at this;cases this
theorem Fd(p:Bh (cP dss) (cG bx dss) R){r:Eh}(n:R[i]?=some r){f:Sn->Bool}(e:∀c∈R.take i,f c.1=false){a:O Int}{b:Sn}(q:Xb bx dss a b)(v:f b=true):r.2.1.length<=a.length:=by
 obtain⟨c,d,k,s⟩:=p.all a b q;have u:i<R.length:=(c7.mp n).1;have o:R[i]=r:=(c7.mp n).2;obtain⟨j,t,l⟩:=fj.mp d;have h:i<=j:=by
  by_cases y:i<=j
  . exact y
  . exfalso;have g:c∈R.take i:=by rw[<-l];exact List.mem_take_iff_getElem.mpr ⟨j,by omega,J⟩
    have m:=e c g;rw[k,v]at m;cases m
 have w:r.2.1.length<=c.2.1.length:=by
  rcases Nat.lt_or_eq_of_le h with y|y
  . have:=fk.mp p.ord i j u t y;rw[o,l]at this;exact this
  . subst y;rw[<-l,o];exact aj _
 omega
section
variable{K:W.Frag}
theorem eQ.del{H:Hp}{d c:Y}{o:Obj}{R:O Eh}(r:eQ P w H d R)(h:H c=some (aP o)):eQ P w (del H c) d R:=by
 obtain⟨b,e,_⟩:=id r.n;refine⟨r.n.by (uI h) ?_,λx a=>?_⟩
 . rw[qp (λz=>by rw[<-z,e]at h;cases h)]
 . have:=r.rows x a;rw[qp (λz=>by rw[z,h]at this;cases this)];exact this
theorem Dm{c:Y}(B:Wx mg base)(CH:W.CodeHd base c tb)(D:lH K mg "tried_loose" Yz c)(T:Txt K mg)(O:bO K mg base "TooMany" cM)(o1:cT P w K mg base "need_loose_wall" 7 ["house","p"] (gA cH cW))(o2:Ok P w K mg base "rows_to_all" 7 ["first","steps","most"] (kN P w mg))(o3:Ok P w K mg base "at_first" 1 ["house"] dY)(o4:Ok P w K mg base "early_weaving" 5 ["house","rows"] (lf P w)) (o5:Ok P w K mg base "stuck_weaving" 6 ["house","rows"] (kF P w)):cT P w K mg base "tried_loose" 8 ["house","p"] (gw tb cH cW cM):=by
 refine Au D vM (λ_ _ _ _ _ _ us hl=>(by obtain⟨_,_,rfl⟩:=wG hl;rfl)) (λvs H Q E h=>by cases h;subst_vars;rfl) λf A bl s H vs Q E k h=>?_;intro X;obtain⟨t,vh,p,rfl,it,hW,hT,k1,k2⟩:=h;obtain⟨f2,co,F2,b9,b1,bT⟩:=o2;have nd:=vM.nd;refine⟨_,zd (we (ja o1 Yo k (za (aA 0) (za (aA 1) zb))))
  (zd (ya (i:=2) nd (DO (c:=s.heap.objs.size+1) (i:=0) F2 k bT b1 b9 J J J J (za (zy o3 (k.mono (show 1<=7 by decide)) (za (aA 0) zb)) (za (AF (fN:=[("house",s.heap.objs.size+1)]) B CH J J J) (za (y0 T.MOST_STANDS) zb))))) (zd (yd (zp We (zo Y9 J T.len yi (za (aA 2) zb)) (y0 T.MOST_STANDS) (zm _)) (zf (Qr O J)) zt) (zd (ya (i:=3) nd (zy o4 (k.mono (show 5<=7 by decide)) (za (aA 0) (za (aA 2) zb)))) (zd (yd (zp V1 (aA 3) qd (zm _)) (zf (zk (yc (za zu (za (aA 3) zb))))) zt) (zd (ya (i:=4) nd (zy o5 (k.mono (show 6<=7 by decide)) (za (aA 0) (za (aA 2) zb)))) (zd (yd (zp V1 (aA 4) qd (zm _)) (zf (zk (yc (za zu (za (aA 4) zb))))) zt) (zf (zk (yc (za zu (za (ym (E5 J) J T.list jg (za (aA 2) zb)) zb))))))))))),?_⟩
 refine⟨_,J,_,J,t,vh,p,J,it,hW,k1,λcl=>?_⟩;obtain⟨Z,g,S,hh,kn,ky⟩:=k2 cl;refine⟨Z,g,S,hh,kn,λcw H1 s1=>?_⟩;obtain⟨C,qm,q⟩:=ky cw;have a4:=hh.mono s1;refine⟨_,J,Z,g,vh,J,S,a4,λv2 H2 s2 bv=>?_⟩;have a8:=(hT.same s1).same s2;refine⟨a8,λfl c' bq cc H3 b3 a7 b8 ho cf b4=>?_⟩;have b3:Bt tb H2 H3:=b3;have av:=b3.tups (Z9 a8);refine⟨vh,J,λoc uk bL bf a5=>?_⟩;have u:=Same.new a5 (aP oc);have a3:=(a4.mono s2).tups av S.fro;have bt:=(show Is H2 (tS (cG Z g)) v2 from bv).tups av Ym;refine⟨Z,g,v2,vh,fl,s.heap.objs.size+1,J,S,C,bt.mono u,a3.mono u,⟨c',cc,oc,bq,uk,u _ _ b4,u _ _ b8,ho,ze,bL,bf⟩,λd R H4 s4 b7 hR ap bk z bo a6=>?_⟩;have au:∀l,H3 l=none->H l=none:=λl h=>by
  cases e:H l with|none=>rfl| some o=>
    by_cases n:l=tb
    . obtain⟨ci,h2,_⟩:=a7;rw[n,h2]at h;cases h
    . rw[b3 l o n (s2 _ _ (s1 _ _ e))]at h;cases h
 have ap:∀r∈R,H r.2.2=none:=λr k=>au _ (Same.none u (ap r k));have x:=hR.del a6;have v:Same H3 (del H4 (s.heap.objs.size+1)):=λb o e=>by rw[qp (zj e a5)];exact s4 _ _ (u _ _ e)
 generalize del H4 (s.heap.objs.size+1)=H5 at x v⊢;clear hR a6 s4 b7 u;have b5:Bt tb H H5:=λb o n e=>v _ _ (b3 b o n (s2 _ _ (s1 _ _ e)));have L:=a7.same v;have ax:=a3.mono v;have a9:∀r∈R,SL Z g r.1.1 r.1.2/\r.2.1.length<=120:=λr k=>⟨(Xf S (z r k)).1,uj S (z r k)⟩
 refine⟨_,J,d,bY R,J,x.n,_,_,J,J,_,J,?_⟩;by_cases h3:3000<R.length
 . rw[aw (show(((bY R).length:Nat):Int)>3000 by rw[Z3];omega)];exact xu (qm (Ax bk z h3) H5 b5 L)
 have G:Bh (cP g) (cG Z g) R:=by
  rcases bo with y|y
  . exact absurd y h3
  . exact y
 have bb:R.length<=3000:=by omega
 have q:=q (xX G bb);rw[bp (show¬(((bY R).length:Nat):Int)>3000 by rw[Z3];omega)];refine yr ?_;refine⟨_,J,_,J,Z,g,vh,d,R,J,S,ax,x,a9,λam H6 s6=>?_,λi r h vx er am ee l H6 s6 hl g6=>?_⟩
 . have U:=Aw G am;refine⟨_,J,J,_,J,yr ?_⟩;refine⟨_,J,_,J,Z,g,vh,d,R,J,S,ax.mono s6,x.same s6,a9,λF H7 s7=>?_,λi r er F es H7 s7=>?_⟩
   . refine⟨_,J,J,_,J,yr ?_⟩;have ag:=s6.trans s7;refine⟨_,J,d,bY R,J,x.n.same ag,λys l H8 s8 hl g8 i8=>?_⟩;refine⟨by show 2<=1000;decide,λa H9 M ha g9=>?_⟩;have m:=ag.trans (s8.trans M);refine q a H9 (λb o n e=>m _ _ (b5 b o n e)) (L.same m) (.inr (.inr ⟨l,wa R,ys,g9,au l (Same.none (v.trans ag) hl),M _ _ g8,?_,?_,G.nd,λst=>⟨λh=>?_,λ⟨ah,wy⟩=>?_⟩,U,λah st wy=>?_⟩))
     . have e:((bY R).map λkv=>tN kv.1)=(wa R).map tS:=by unfold bY wa;rw[eq,eq];rfl
       rw[e]at i8;exact i8.mono M
     . unfold wa;rw[ae];exact bb
     . obtain⟨r,k,rfl⟩:=qt.mp h;exact⟨r.2.1,G.way r k⟩
     . obtain⟨r,k,e,_⟩:=G.all ah st wy;exact qt.mpr ⟨r,k,e⟩
     . obtain⟨r,k,e,_⟩:=G.all ah st wy;rw[<-e];exact F r k
   . refine⟨_,J,J,_,J,xu ?_⟩;have k:=br er;refine⟨_,J,by show 2<=1000;decide,λa H9 M ha g9=>?_⟩;have m:=s6.trans (s7.trans M);exact q a H9 (λb o n e=>m _ _ (b5 b o n e)) (L.same m) (.inr (.inl ⟨r.2.2,r.2.1,r.1,g9,ap r k,m _ _ (x.rows r k),G.way r k,es,U,λN af wy e'=>Fd G er (f:=λst=>Z1 g st.1 st.2) F wy e'⟩))
 . refine⟨_,J,J,_,J,xu ?_⟩;have k:=br er;have b6:bV g r.1.1 r.1.2 h=true:=by
    have:h∈fD g r.1:=by rw[ee];exact c8
    exact(fq.mp this).2
   refine⟨_,J,by show 2<=1000;decide,λa H9 M ha g9=>?_⟩;have m:=s6.trans M;refine q a H9 (λb o n e=>m _ _ (b5 b o n e)) (L.same m) (.inl ⟨l,r.2.1,h,r.1,g9,au l (Same.none v hl),M _ _ g6,G.way r k,b6,λN af h' wy e'=>?_⟩);obtain⟨r',bA,cb,cj⟩:=G.all N af wy;have hi:i<R.length:=(c7.mp er).1;have eR:R[i]=r:=(c7.mp er).2;obtain⟨j,hj,ej⟩:=fj.mp bA;have b2:i<=j:=by
    by_cases y:i<=j
    . exact y
    . exfalso;have b0:r'∈R.take i:=by rw[<-ej];exact List.mem_take_iff_getElem.mpr ⟨j,by omega,J⟩
      have h1:=am r' b0;have:h'∈fD g af:=fq.mpr ⟨sR e',e'⟩;rw[<-cb,h1]at this;cases this
   have h2:r.2.1.length<=r'.2.1.length:=by
    rcases Nat.lt_or_eq_of_le b2 with y|y
    . have:=fk.mp G.ord i j hi hj y;rw[eR,ej]at this;exact this
    . subst y;rw[<-ej,eR];exact aj _
   omega
end
noncomputable abbrev X8:Stmt:=top 59
noncomputable abbrev j7:Stmt:=top 60
noncomputable def Wf(B:List (List Dd))(ks:List xv)(ps ns:List Int):Bool:= !(Z1 B ps ns) && (!(lw B ps) && (bN B ps ns).all λh=>decide (kS (nx B ps ns h)∈ks))
noncomputable def mU(bx:Int)(B:List (List Dd))(L:List Sn):Bool:=decide L.Nodup && (decide ((zs B.length,zs bx.toNat)∈L) && L.all λst=>Wf B (L.map kS) st.1 st.2)
structure Rs(H:Hp)(l:Addr)(bx:Int)(dss:List (List Dd))(L:List Sn):Prop where
 at':∃xs,H l=some (.lst xs)/\IsL H (L.map tS) xs
 few:L.length<=3000
 each:∀st∈L,SL bx dss st.1 st.2
theorem Rs.same(r:Rs H l bx dss L)(s:Same H H'):Rs H' l bx dss L:=by obtain⟨a,e,i⟩:=r.at';exact⟨⟨a,s _ _ e,i.mono s⟩,r.few,r.each⟩
theorem Rs.is(r:Rs H l bx dss L):Is H (.lst (L.map tS)) (.ref l):=by obtain⟨a,e,i⟩:=r.at';exact⟨l,a,J,e,i⟩
theorem Yw(h:Is H (tS st) v):∃a,v=.ref a:=by obtain⟨a,_,e,_⟩:=h;exact⟨a,e⟩
inductive kY(P:Program)(w:World)(vs:List V)(H:Hp)(Q:VK)(e0:XK):Prop|mk:∀bx dss ps ns vh vst d kvs,vs=[vh,vst,.ref d]->At H bx dss ps ns vh vst->cJ P w H d kvs->(∀H',Same H H'->Q (.bl (Wf dss (kvs.map (·.1)) ps ns)) H')->kY P w vs H Q e0
inductive iP(cH cW:Addr)(vs:List V)(H:Hp)(Q:VK)(E:XK):Prop|mk:∀t v (p:Int) l,vs=[v,.int p,.ref l]->Is H t v->Wh t->(xt t=false->∀H',Same H H'->E (.ref cH) none H')->(xt t=true->∃bx dss,HD bx dss/\Is H (hT bx dss) v/\(xr p dss=false->∀H',Same H H'->E (.ref cW) none H')/\(xr p dss=true->∃L,Rs H l bx dss L/\∀H',Same H H'->Q (.bl (mU bx dss L)) H'))->iP cH cW vs H Q E
section
variable{K:W.Frag}
theorem Kb:aB ["house","stand","listed"] ["house","stand","listed"] (zh X8):=.of
theorem EZ(D:aR K mg "is_kept_at" X8)(T:Txt K mg)(o1:Ok P w K mg base "stops" 5 ["house","stand"] dW)(o2:Ok P w K mg base "has_early" 2 ["house","stand"] kZ)(o3:Ok P w K mg base "steps_from" 5 ["house","stand"] iK):Ok P w K mg base "is_kept_at" 6 ["house","stand","listed"] (kY P w):=by
 refine wu D Kb λf ag A M s H vs Q E B h=>?_;intro X;obtain⟨U,a,c,g,F,k,d,r,rfl,A,hN,j⟩:=h;have nd:=Kb.nd;have N:=B.units;have R:=fg (gg (by decide:3<=64) _) N;have q:(["hand","stand_behind","listed"]:List Str).Nodup:=by decide+kernel
 refine⟨_,zd (yd (PW.pt (w5 (yz (zy o1 B (za (aA 0) (za (aA 1) zb)))) (ww (yz (zy o2 (B.mono (show 2<=5 by decide)) (za (aA 0) (za (aA 1) zb))))))) (zf (zk xg)) zt) (zf (zk (zo (qi J) J T.all Zg (za (w6 (own:=["hand","stand_behind"]) (cap:=[2]) (g:=fM K 2 (bR (v9 0) (bR (v9 1) lU))) (te:=oC P w id (cU 1) (cU 2)) J (yo (zh X8) J J (by decide+kernel) (by decide+kernel) (by decide+kernel) ⟨⟨_,J,.inl J,wr J⟩,trivial⟩) (w9 (zy o3 B (za (aA 0) (za (aA 1) zb)))) (λ_ _ _ _=>ju J (yn (zw (i:=0) q) (yn (zw (i:=1) q) ql))) (λ_ _ _ _=>yx)
   (λ_ _ _ _=>AD (AB R (aA 1) (aA 2)))) zb)))),?_⟩
 unfold Wf at j;refine⟨_,J,_,J,U,a,c,g,F,k,J,A,λH1 L=>⟨_,J,?_⟩⟩;cases Z:Z1 a c g with| true=>rw[Z]at j;exact xu (xu (j H1 L))|false=>
 rw[Z]at j;refine yr ?_;refine⟨_,J,_,J,U,a,c,g,F,k,J,A.same L,λH2 G=>⟨_,J,?_⟩⟩;have m:=L.trans G;cases W:lw a c with| true=>rw[W]at j;exact xu (j H2 m)|false=>
 rw[W]at j;refine yr ?_;refine⟨_,J,_,J,U,a,c,g,F,k,J,A.same m,λl xs H3 s3 _ g3 i3=>?_⟩;have n:=m.trans s3;have u:=i3.length;rw[ae]at u;have af:(bN a c g).length<=4:=by unfold bN;refine c6 (gd _ _) ?_;rw[ae,da];exact A.hd.n4
 refine⟨l,J,⟨_,aE.of g3⟩,?_⟩;refine kz (xs:=xs) (λi z C=>Same H3 C/\z=(((bN a c g).take i).map λh=>decide (kS (nx a c g h)∈r.map (·.1))).map V.bl) ⟨Same.refl H3,J⟩ (λi z C hi ⟨G,e⟩=>⟨aE.of (G _ _ g3),by rw[e,ae,ae,bu];exact yb (by omega)⟩) ?_ ?_
 . rintro i x z C hx ⟨o,rfl⟩;obtain⟨t,v,it⟩:=(i3.mono o).get' hx;rw[ba]at v;cases S:(bN a c g)[i]? with|none=>rw[S]at v;cases v| some h=>rw[S]at v;cases v;obtain⟨b,zz,rfl,hb,v1,r1,rfl,i1,v2,r2,rfl,i2,y⟩:=it;cases(show r2=[]from y);refine⟨b,_,J,aD.of hb,J,_,_,J,_,_,J,J,?_⟩;refine nO ?_;obtain⟨b2,rfl⟩:=Yw (st:=nx a c g h) i2;refine⟨_,J,_,J,d,b2,r,kS (nx a c g h),J,J,hN.same (n.trans o),i2,o,?_⟩;rw[dm,S,be,be,Vx];rfl
 . rintro z C ⟨o,rfl⟩ p hp;refine⟨p,_,J,aE.of ze,?_⟩;rw[u,dl,List.all_map];exact j _ (n.trans (o.trans (Same.new hp _)))
theorem Ql:aB ["house","p","stands","listed"] ["house","p","stands"] (zh j7):=.of
theorem Fh(D:aR K mg "holds_by" j7)(T:Txt K mg)(o1:cT P w K mg base "need_loose_wall" 7 ["house","p"] (gA cH cW))(o2:Ok P w K mg base "is_stand_like" 3 ["house","thing"] kR)(o3:Ok P w K mg base "at_first" 1 ["house"] dY)(o4:Ok P w K mg base "is_kept_at" 6 ["house","stand","listed"] (kY P w)):cT P w K mg base "holds_by" 8 ["house","p","stands"] (iP cH cW):=by
 refine lZ D Ql λf bl A a3 s H vs Q E hr h=>?_;intro X;obtain⟨t,vh,p,l,rfl,it,hW,k1,k2⟩:=h;have nd:=Ql.nd;have ah:=hr.units;have a5:=fg (gg (by decide:3<=64) _) ah;have a4:=fg (gg (by decide:8<=64) _) ah;refine⟨_,zd (we (ja o1 Yo hr (za (aA 0) (za (aA 1) zb)))) (zd (yd (PW.pt (w5 (xz (yz (jv T.isi T.list jg (aA 2)))) (ww (zp We (zo zn J T.len yi (za (aA 2) zb)) (y0 T.MOST_STANDS) (zm _))))) (zf (zk xg)) zt) (zd (yd (xz (yz (zo (qi J) J T.all Zg (za (w6 (own:=["stand"]) (cap:=[0]) J (yo (zh j7) J J (by decide+kernel) (by decide+kernel) (by decide+kernel) ⟨⟨_,J,.inl J,wr J⟩,trivial⟩) (w9 (aA 2)) (λ_ _ _ _=>zw (i:=0) (by show(["stand","house"]:O Str).Nodup;decide+kernel)) (λ_ _ _ _=>yx) (λ_ _ _ _=>zy o2 (hr.mono (show 3<=7 by decide)) (za (aA 1) (za (aA 0) zb)))) zb)))) (zf (zk xg)) zt)
  (zd (ya (i:=3) nd (ym (E3 J a4) J T.dict BT (za (w6 (own:=["stand"]) (cap:=[]) J (yo (zh j7) J J (by decide+kernel) (by decide+kernel) (by decide+kernel) trivial) (w9 (aA 2)) (λ_ _ _ _=>zw (i:=0) (by show(["stand"]:O Str).Nodup;decide+kernel)) (λ_ _ _ _=>yx) (λ_ _ _ _=>yc (za (aA 0) (za xg zb)))) zb)) (hs:=by with_unfolding_all rfl))
  (zd (yd (PW.pt (w5 (zp ji (zo Y9 J T.len yi (za (aA 3) zb)) (zo zn J T.len yi (za (aA 2) zb)) (zm _)) (ww (nA (Y6 a5 (zy o3 (hr.mono (show 1<=7 by decide)) (za (aA 0) zb)) (aA 3)))))) (zf (zk xg)) zt) (zf (zk (zo (qi J) J T.all Zg (za (w6 (own:=["stand"]) (cap:=[0,3]) J (yo (zh j7) J J (by decide+kernel) (by decide+kernel) (by decide+kernel) ⟨⟨_,J,.inl J,wr J⟩,⟨_,J,.inl J,wr J⟩,trivial⟩) (w9 (aA 2)) (λ_ _ _ _=>zw (i:=0) (by show(["stand","house","listed"]:O Str).Nodup;decide+kernel)) (λ_ _ _ _=>yx) (λ_ _ _ _=>zy o4 (hr.mono (show 6<=7 by decide)) (za (aA 1) (za (aA 0) (za (aA 2) zb))))) zb)))))))),?_⟩
 refine⟨_,J,_,J,t,vh,p,J,it,hW,k1,λcl=>?_⟩;obtain⟨C,a,hd,ih,kn,ky⟩:=k2 cl;refine⟨C,a,hd,ih,kn,λcw H1 M=>?_⟩;obtain⟨L,R,q⟩:=ky cw;have bk:=R.few;obtain⟨xs,Z,y⟩:=(R.same M).at';have z:=y.length;rw[ae]at z;have ag:=ih.mono M;refine⟨_,J,_,"list",_,_,J,Is.ty (R.same M).is,Wg,_,J,yr ?_⟩;refine⟨_,J,l,_,J,.inl (aE.of Z),_,_,J,J,_,J,?_⟩;rw[bp (show¬((xs.length:Int)>3000) by omega)];refine yr ?_;have AT:∀{g:Hp}{st:Sn}{x:V},Same H1 g->st∈L->Is g (tS st) x->At g C a st.1 st.2 vh x:=λ{g st x} S W ix=>⟨hd,(R.each st W).sd,ag.mono S,ix⟩
 refine⟨_,J,l,J,⟨_,aE.of Z⟩,?_⟩;refine kz (xs:=xs) (λi j g=>Same H1 g/\j=(List.replicate i true).map V.bl) ⟨Same.refl H1,J⟩ (λi j g hi ⟨k,e⟩=>⟨aE.of (k _ _ Z),by rw[e,ae,dh];exact oR (by omega)⟩) ?_ ?_
 . rintro i x j g hx ⟨k,rfl⟩;refine ko ?_;obtain⟨st,es,m⟩:=Ve (y.mono k) hx;have W:=br es;refine⟨_,J,_,J,C,a,st.1,st.2,vh,x,J,AT k W m,R.each st W,λH3 G=>⟨k.trans G,?_⟩⟩;rw[fw,be];rfl
 rintro j H2 ⟨k,rfl⟩ p2 a8;generalize hN:xs.length=N;have G:=Same.new a8 (.lst ((List.replicate N true).map V.bl));have ax:(List.replicate N true).all id=true:=by rw[dz];intro b hb;exact(fi.mp hb).2
 refine⟨p2,_,J,aE.of ze,_,J,?_⟩;rw[ax];refine yr ?_;generalize upd H2 p2 (.lst ((List.replicate N true).map V.bl))=H3 at G⊢;have F:=k.trans G;have ap:=F _ _ Z;refine⟨_,J,l,J,⟨_,aE.of ap⟩,?_⟩;refine kz (xs:=xs) (λi j g=>Same H3 g/\∃u:O Y,j=u.map V.ref/\Paired (dJ g) u ((L.take i).map λst=>(kS st,V.bl true))) ⟨Same.refl H3,[],J,.nil⟩ (λi j g hi ⟨S,u,e,U⟩=>⟨aE.of (S _ _ ap),?_⟩) ?_ ?_
 . have:=Paired.length U;rw[e,ae,this,ae,bu];exact oR (by omega)
 . rintro i x j g hx ⟨S,u,rfl,U⟩;refine ko ?_;obtain⟨st,es,m⟩:=Ve (y.mono (F.trans S)) hx;obtain⟨kb,rfl⟩:=Yw m;refine⟨_,J,by show 2<=1000;decide,λb4 H4 s4 _ g4=>⟨S.trans s4,u++[b4],?_,?_⟩⟩
   . rw[be];rfl
   . rw[dm,es,be];exact Paired.snoc (Paired.mapP U λb r hp=>dJ.same hp s4) ⟨kb,g4,m.mono s4⟩
 rintro j H4 ⟨s4,u,rfl,U⟩ p4 a7;rw[z,dl]at U;have s5:=Same.new a7 (.lst (u.map V.ref));have g5:upd H4 p4 (.lst (u.map V.ref)) p4=some (.lst (u.map V.ref)):=ze;generalize upd H4 p4 (.lst (u.map V.ref))=H5 at s5 g5⊢;refine⟨p4,u,_,J,g5,Paired.mapP U λb r hp=>dJ.same hp s5,λd H6 s6 bf hD=>?_⟩;have v:=F.trans (s4.trans (s5.trans s6));have a9:=v _ _ Z;generalize bb:Yj (L.map λst=>(kS st,V.bl true)) []=c at hD;have o:c.map (·.1)=Xp (L.map kS):=by rw[<-bb,FX,eq];rfl
 have au:c.length=(Xp (L.map kS)).length:=by rw[<-o,ae]
 refine⟨_,J,d,c,J,hD,_,J,l,_,J,.inl (aE.of a9),J,_,J,?_⟩;rw[z,au];unfold mU at q;have av:(!decide (V.int (((Xp (L.map kS)).length:Nat):Int)=V.int ((L.length:Nat):Int)))= !decide L.Nodup:=by
  congr 1;rw[gl,<-CU,<-Fu,ae];constructor
  . intro h;injection h with h;omega
  . intro h;rw[h]
 rw[av];by_cases z2:L.Nodup;rotate_left
 . rw[bp z2,cp]at q;rw[bp z2];exact xu (xu (q H6 (M.trans v)))
 rw[aw z2,bn]at q;rw[aw z2];refine yr ?_;refine⟨_,J,C,a,vh,J,hd,ag.mono v,λvf H7 s7 iF=>?_⟩;have iF:Is H7 (tS (zs a.length,zs C.toNat)) vf:=iF;obtain⟨af,rfl⟩:=Yw iF;refine⟨_,J,d,af,c,kS (zs a.length,zs C.toNat),J,J,hD.same s7,iF,_,J,?_⟩;have n:=v.trans s7;have B:∀st:Sn,(kS st∈c.map (·.1))↔st∈L:=λst=>by rw[o,Fb,Vd]
 rw[Vx,gl.mpr (B _)];by_cases z3:(zs a.length,zs C.toNat)∈L;rotate_left
 . rw[bp z3,cp]at q;rw[bp z3];exact xu (q H7 (M.trans n))
 rw[aw z3,bn]at q;rw[aw z3];refine yr ?_;have am:=n _ _ Z;have bd:=hD.same s7;refine⟨_,J,l,J,⟨_,aE.of am⟩,?_⟩;refine kz (xs:=xs) (λi j g=>Same H7 g/\j=((L.take i).map λst=>Wf a (c.map (·.1)) st.1 st.2).map V.bl) ⟨Same.refl H7,J⟩ (λi j g hi ⟨k,e⟩=>⟨aE.of (k _ _ am),by rw[e,ae,ae,bu];exact oR (by omega)⟩) ?_ ?_
 . rintro i x j g hx ⟨k,rfl⟩;refine ko ?_;obtain⟨st,es,m⟩:=Ve (y.mono (n.trans k)) hx;have W:=br es;refine⟨_,J,_,J,_,J,C,a,st.1,st.2,vh,x,d,c,J,AT (n.trans k) W m,bd.same k,λH3 G=>⟨k.trans G,?_⟩⟩;rw[dm,es,be,be];rfl
 . rintro j H9 ⟨s9,rfl⟩ p9 a6;refine⟨p9,_,J,aE.of ze,?_⟩;rw[z,dl,List.all_map];have eK:(id∘λ(st:Sn)=>Wf a (c.map (·.1)) st.1 st.2)=λst=>Wf a (L.map kS) st.1 st.2:=by funext st;show Wf a (c.map (·.1)) st.1 st.2=_;unfold Wf;congr 2;congr 1;funext h;rw[gl,B,Vd]
   rw[eK];exact q _ (M.trans (n.trans (s9.trans (Same.new a6 _))))
end
noncomputable abbrev qy:Stmt:=top 70
noncomputable abbrev pY:Stmt:=top 71
theorem xT:bootBuiltins "ValueError"=some (.type "ValueError"):=by decide+kernel
section
variable{e:Expr}{te:TE}{p1 p2:Pos}
theorem Zd{n:Str}(f:X.mg "isinstance"=none)(c:X.mg n=some (.ref D))(he:PE X e te)(g1:Gl X "isinstance":=by rfl)(g2:Gl X n:=by rfl)(d:(n==("__debug__":Str))=false:=by decide)
  (hs:starEach [e,.Name n p2] X.env=(false,eval e X.env)::starEach [.Name n p2] X.env:=by rfl) (b:(backTo pos (starEach [.Name n p2] X.env)).any (·.1)=false:=by rfl) (a:starEach [.Name n p2] X.env=(false,eval (.Name n p2) X.env)::starEach [] X.env:=by rfl):
  PE X (.Call (.Name "isinstance" p1) [e,.Name n p2] [] pos) (lL (iV X.K) (Ya te (Ya (tC (.ref D)) iG))):=
 zo Kv g1 f oX (za he (za (uo g2 c J d) zb a) hs) (he:=hs) (hpl:=b)
theorem CD{n:Str}{T:String}(h:X.mg "isinstance"=none)(g:X.mg n=none)(f:bootBuiltins n=some (.type T))(he:PE X e te)(g1:Gl X "isinstance":=by rfl)(g2:Gl X n:=by rfl)(c:n≠"__name__":=by decide)(d:(n==("__debug__":Str))=false:=by decide)
  (hs:starEach [e,.Name n p2] X.env=(false,eval e X.env)::starEach [.Name n p2] X.env:=by rfl) (b:(backTo pos (starEach [.Name n p2] X.env)).any (·.1)=false:=by rfl) (a:starEach [.Name n p2] X.env=(false,eval (.Name n p2) X.env)::starEach [] X.env:=by rfl):
  PE X (.Call (.Name "isinstance" p1) [e,.Name n p2] [] pos) (lL (iV X.K) (Ya te (Ya (tC (.ty T)) iG))):=
 zo Kv g1 h oX (za he (za (tO g2 g f J c d) zb a) hs) (he:=hs) (hpl:=b)
end
structure Kinds(K:W.Frag)(mg:Str->Option Value)(C:Addr)(i:Nat):Prop where
 err:hG K C
 two:i=3\/i=8\/i=9
 noVE:mg "ValueError"=none
 ve:W.kitOne K (.ref C) (.type "ValueError")=some true
 k0:∃a,mg "NoCount"=some (.ref a)/\W.kitOne K (.ref C) (.ref a)=some (decide (0=i))
 k1:∃a,mg "NoDeed"=some (.ref a)/\W.kitOne K (.ref C) (.ref a)=some (decide (1=i))
 k2:∃a,mg "NoHand"=some (.ref a)/\W.kitOne K (.ref C) (.ref a)=some (decide (2=i))
 k3:∃a,mg "NoHouse"=some (.ref a)/\W.kitOne K (.ref C) (.ref a)=some (decide (3=i))
 k4:∃a,mg "NoName"=some (.ref a)/\W.kitOne K (.ref C) (.ref a)=some (decide (4=i))
 k5:∃a,mg "NoRow"=some (.ref a)/\W.kitOne K (.ref C) (.ref a)=some (decide (5=i))
 k6:∃a,mg "NoStand"=some (.ref a)/\W.kitOne K (.ref C) (.ref a)=some (decide (6=i))
 k7:∃a,mg "NoText"=some (.ref a)/\W.kitOne K (.ref C) (.ref a)=some (decide (7=i))
 k8:∃a,mg "NoWall"=some (.ref a)/\W.kitOne K (.ref C) (.ref a)=some (decide (8=i))
 k9:∃a,mg "TooMany"=some (.ref a)/\W.kitOne K (.ref C) (.ref a)=some (decide (9=i))
structure mL(K:W.Frag)(mg:Str->Option Value)(base:Heap)(cH cW cM cE:Addr):Prop where
 oH:bO K mg base "NoHouse" cH
 oW:bO K mg base "NoWall" cW
 oM:bO K mg base "TooMany" cM
 mE:mg "WallError"=some (.ref cE)
 iE:fG base cE
 uH:Under base cH cE
 uW:Under base cW cE
 uM:Under base cM cE
 kH:Kinds K mg cH 3
 kW:Kinds K mg cW 8
 kM:Kinds K mg cM 9
noncomputable def kb(i:Nat):List Bool:=[decide (0=i),decide (1=i),decide (2=i),decide (3=i),decide (4=i),decide (5=i),decide (6=i),decide (7=i),decide (8=i),decide (9=i)]
theorem Dr(h:i=3\/i=8\/i=9):(kb i).countP id=1:=by rcases h with rfl|rfl|rfl<;>decide
theorem rJ(h:i=3\/i=8\/i=9):(kb i)[i]?=some true/\∀m,m<i->(kb i)[m]?=some false:=by rcases h with rfl|rfl|rfl<;>decide
noncomputable def GD:List V:=[.str "count",.str "deed",.str "hand",.str "house",.str "name",.str "row",.str "stand",.str "text",.str "stopper",.str "many"]
noncomputable def kw(i:Nat):V:=GD.getD i .non
inductive kX(K:W.Frag)(mg:Str->Option Value)(vs:List V)(H:Hp)(Q:VK)(e0:XK):Prop|mk:∀(a C:Addr)(i:Nat),vs=[.ref a]->H a=some (lG a C)->Kinds K mg C i->(∀H',Same H H'->Q (kw i) H')->kX K mg vs H Q e0
section
variable{K:W.Frag}
noncomputable def yJ:Stmt->Expr|.Return (some (.Subscript _ i _)) _=>i|_=>.Name "x" ⟨0,0,0,0⟩
noncomputable def wI:L2.Tm:=.lst [.con (.str "count"),.con (.str "deed"),.con (.str "hand"),.con (.str "house"),.con (.str "name"),.con (.str "row"),.con (.str "stand"),.con (.str "text"),.con (.str "stopper"),.con (.str "many")]
noncomputable def rf:List T:=[.str "count",.str "deed",.str "hand",.str "house",.str "name",.str "row",.str "stand",.str "text",.str "stopper",.str "many"]
theorem BF(h:i=3\/i=8\/i=9)(k:IsL H rf ys):bS ys ((i:Nat):Int)=some (kw i):=by
 refine yq ?_;rcases h with rfl|rfl|rfl
 . obtain⟨v,b,a⟩:=k.get (i:=3) (t:=.str "house") J;cases(show v=.str "house" from a);exact b
 . obtain⟨v,b,a⟩:=k.get (i:=8) (t:=.str "stopper") J;cases(show v=.str "stopper" from a);exact b
 . obtain⟨v,b,a⟩:=k.get (i:=9) (t:=.str "many") J;cases(show v=.str "many" from a);exact b
theorem Eb:∃(e:Expr)(p q:Pos),yg qy=[(yg qy).getD 0 dS,(yg qy).getD 1 dS,(yg qy).getD 2 dS,(yg qy).getD 3 dS,(yg qy).getD 4 dS,.Return (some (.Subscript e (yJ ((yg qy).getD 5 dS)) p)) q]/\
 cZ qG ["caught","kinds"] (zh qy) 12 e=some wI:=⟨_,_,_,J,by kernel_rfl⟩
theorem vV:aB ["caught","kinds"] ["caught"] (zh qy):=.of
theorem De(D:aR K mg "_law_e_kind" qy)(T:Txt K mg):Ok P w K mg base "_law_e_kind" 1 ["caught"] (kX K mg):=by
 refine wu D vV λf bq A af s H vs Q E hr h=>?_;intro X;obtain⟨a,C,i,rfl,N,b,kk⟩:=h;have B:=vV.nd;obtain⟨eL,pL,qL,j,n⟩:=Eb;rw[j];obtain⟨a0,m0,q0⟩:=b.k0;obtain⟨a1,m1,q1⟩:=b.k1;obtain⟨a2,m2,q2⟩:=b.k2;obtain⟨a3,m3,q3⟩:=b.k3;obtain⟨a4,m4,q4⟩:=b.k4;obtain⟨a5,m5,q5⟩:=b.k5;obtain⟨a6,m6,q6⟩:=b.k6;obtain⟨a7,m7,q7⟩:=b.k7;obtain⟨a8,m8,q8⟩:=b.k8;obtain⟨a9,m9,q9⟩:=b.k9;refine⟨_,zd (ya (i:=1) B (vz (za (Zd T.isi m0 (aA 0)) (za (Zd T.isi m1 (aA 0)) (za (Zd T.isi m2 (aA 0)) zb))))) (zd (ya (i:=1) B (zx Yk (aA 1) (vz (za (Zd T.isi m3 (aA 0)) (za (Zd T.isi m4 (aA 0)) (za (Zd T.isi m5 (aA 0)) zb)))))) (zd (ya (i:=1) B (zx Yk (aA 1) (vz (za (Zd T.isi m6 (aA 0)) (za (Zd T.isi m7 (aA 0)) (za (Zd T.isi m8 (aA 0)) zb)))))) (zd (ya (i:=1) B (zx Yk (aA 1) (vz (za (Zd T.isi m9 (aA 0)) zb)))) (zd (yd (PW.pt (w5 (zp ji (Zk PySem.F.plainAttrs_list PySem.F.slot_list_count PySem.F.type_list_count ET (aA 1) (za xg zb)) zc (zm _)) (ww (xz (yz (CD T.isi b.noVE xT (aA 0))))))) (zf (zk zu)) zt) (zf (zk (zl yk (rN wI n) (Zk PySem.F.plainAttrs_list PySem.F.slot_list_index PySem.F.type_list_index EV (aA 1) (za xg zb))))))))),?_⟩
 have d:=b.err;refine⟨_,J,a,C,_,N,d,.inl ⟨a0,J,q0⟩,_,J,a,C,_,N,d,.inl ⟨a1,J,q1⟩,_,J,a,C,_,N,d,.inl ⟨a2,J,q2⟩,bF,λM bb=>?_⟩;have Z:=Same.new bb (.lst [.bl (decide (0=i)),.bl (decide (1=i)),.bl (decide (2=i))]);have g1:upd H M (.lst [.bl (decide (0=i)),.bl (decide (1=i)),.bl (decide (2=i))]) M=some (.lst [.bl (decide (0=i)),.bl (decide (1=i)),.bl (decide (2=i))]):=ze;generalize upd H M (.lst [.bl (decide (0=i)),.bl (decide (1=i)),.bl (decide (2=i))])=H1 at Z g1⊢;have g:=Z _ _ N;refine⟨_,J,_,J,a,C,_,g,d,.inl ⟨a3,J,q3⟩,_,J,a,C,_,g,d,.inl ⟨a4,J,q4⟩,_,J,a,C,_,g,d,.inl ⟨a5,J,q5⟩,bF,λL ax=>?_⟩;have y:=Same.new ax (.lst [.bl (decide (3=i)),.bl (decide (4=i)),.bl (decide (5=i))]);have g2:upd H1 L (.lst [.bl (decide (3=i)),.bl (decide (4=i)),.bl (decide (5=i))]) L=some (.lst [.bl (decide (3=i)),.bl (decide (4=i)),.bl (decide (5=i))]):=ze;generalize upd H1 L (.lst [.bl (decide (3=i)),.bl (decide (4=i)),.bl (decide (5=i))])=H2 at y g2⊢;refine⟨M,L,_,_,J,J,y _ _ g1,g2,bF,λm av=>?_⟩;have W:=Same.new av (.lst ((kb i).take 6 |>.map V.bl));have g3:upd H2 m (.lst ((kb i).take 6 |>.map V.bl)) m=some (.lst ((kb i).take 6 |>.map V.bl)):=ze;generalize bl:upd H2 m (.lst ((kb i).take 6 |>.map V.bl))=H3 at W g3;have t:upd H2 m (.lst ([.bl (decide (0=i)),.bl (decide (1=i)),.bl (decide (2=i))]++[.bl (decide (3=i)),.bl (decide (4=i)),.bl (decide (5=i))]))=H3:=bl;rw[t];have e:=W _ _ (y _ _ g);refine⟨_,J,_,J,a,C,_,e,d,.inl ⟨a6,J,q6⟩,_,J,a,C,_,e,d,.inl ⟨a7,J,q7⟩,_,J,a,C,_,e,d,.inl ⟨a8,J,q8⟩,bF,λG au=>?_⟩;have x:=Same.new au (.lst [.bl (decide (6=i)),.bl (decide (7=i)),.bl (decide (8=i))]);have g4:upd H3 G (.lst [.bl (decide (6=i)),.bl (decide (7=i)),.bl (decide (8=i))]) G=some (.lst [.bl (decide (6=i)),.bl (decide (7=i)),.bl (decide (8=i))]):=ze;generalize upd H3 G (.lst [.bl (decide (6=i)),.bl (decide (7=i)),.bl (decide (8=i))])=H4 at x g4⊢;refine⟨m,G,_,_,J,J,x _ _ g3,g4,bF,λl ap=>?_⟩;have U:=Same.new ap (.lst ((kb i).take 9 |>.map V.bl));have g5:upd H4 l (.lst ((kb i).take 9 |>.map V.bl)) l=some (.lst ((kb i).take 9 |>.map V.bl)):=ze;generalize bk:upd H4 l (.lst ((kb i).take 9 |>.map V.bl))=H5 at U g5;have r:upd H4 l (.lst (((kb i).take 6 |>.map V.bl)++[.bl (decide (6=i)),.bl (decide (7=i)),.bl (decide (8=i))]))=H5:=bk;rw[r];have o:=U _ _ (x _ _ e);refine⟨_,J,_,J,a,C,_,o,d,.inl ⟨a9,J,q9⟩,bF,λF am=>?_⟩;have v:=Same.new am (.lst [.bl (decide (9=i))]);have g6:upd H5 F (.lst [.bl (decide (9=i))]) F=some (.lst [.bl (decide (9=i))]):=ze;generalize upd H5 F (.lst [.bl (decide (9=i))])=H6 at v g6⊢;refine⟨l,F,_,_,J,J,v _ _ g5,g6,bF,λk ah=>?_⟩;have S:=Same.new ah (.lst ((kb i).map V.bl));have R:upd H6 k (.lst ((kb i).map V.bl)) k=some (.lst ((kb i).map V.bl)):=ze;generalize bf:upd H6 k (.lst ((kb i).map V.bl))=H7 at S R;have p:upd H6 k (.lst (((kb i).take 9 |>.map V.bl)++[.bl (decide (9=i))]))=H7:=bf;rw[p];have bd:=S _ _ (v _ _ o);refine⟨_,J,.inl ⟨J,_,aE.of R⟩,k,kb i,J,J,R,J,_,J,?_⟩;rw[Dr b.two];refine ye (λz=>absurd z (by simp)) (λ_=>?_);refine⟨_,J,a,C,_,bd,d,.inr ⟨"ValueError",J,b.ve⟩,_,J,yr ?_⟩;refine⟨λ_=>False,[],.lst rf,⟨λc hc=>hc.elim,λq hq=>by cases hq⟩,by kernel_rfl,λv8 H8 s8 i8=>?_⟩;obtain⟨l8,ys,rfl,g8,ag⟩:=i8.off;have S8:=Z.trans (y.trans (W.trans (x.trans (U.trans (v.trans (S.trans s8))))));have bo:Q (kw i) H8:=kk H8 S8;have u:=s8 _ _ R;exact⟨_,J,.inl ⟨J,_,aE.of u⟩,k,kb i,i,J,J,u,(rJ b.two).1,(rJ b.two).2,l8,ys,_,kw i,J,J,aE.of g8,BF b.two ag,bo⟩
end
structure bP(tb:Addr)(H H':Hp):Prop where
 b:Bt tb H H'
 t:aM tb jy vd H'
theorem bP.same{a:Y}{H d c:Hp}(k:bP a H d)(s:Same d c):bP a H c:=⟨λb o n e=>s _ _ (k.b b o n e),k.t.same s⟩
theorem bP.of(t:aM tb jy vd H)(s:Same H H'):bP tb H H':=⟨λb o _ e=>s b o e,t.same s⟩
theorem bP.trans(k:bP tb H H1)(l:bP tb H1 H2):bP tb H H2:=⟨λb o n e=>l.b b o n (k.b b o n e),l.t⟩
theorem bP.tups{a:Y}{H b:Hp}(k:bP a H b)(t:aM a jy vd H):qj H b:=k.b.tups (Z9 t)
inductive dU(tb:Addr)(vs:List V)(H:Hp)(Q:VK)(e0:XK):Prop| mk:∀(way p:Int) (vh:V) (t:T),vs=[.int way,vh,.int p]->Is H t vh->Wh t->aM tb jy vd H->
   (xt t=false->∀H',bP tb H H'->Q (.str "house") H')->
   (xt t=true->∃bx dss,HD bx dss/\Is H (hT bx dss) vh/\((way=0\/way=1\/way=2)->xr p dss=false->∀H',bP tb H H'->Q (.str "stopper") H')/\ (¬(way=0\/way=1\/way=2)->∀H',bP tb H H'->Q (.str "") H')/\
    (xr p dss=true->(way=0->Fw 4100 bx dss/\(¬Fw 3000 bx dss->∀H',bP tb H H'->Q (.str "many") H'))/\((way=0->Fw 3000 bx dss)->∀H',bP tb H H'->Q (.str "") H')))->dU tb vs H Q e0
section
variable{K:W.Frag}
theorem vN:aB ["way","house","p","caught","e"] ["way","house","p"] (zh pY):=.of
inductive qT(K:W.Frag)(mg:Str->Option Value)(base:Heap)(cE tb:Addr)(H:Hp)(Q:VK)(c:Value)(H':Hp):Prop|mk:∀C i,c=.ref C->Kinds K mg C i->Under base C cE->bP tb H H'->(∀H'',bP tb H H''->Q (kw i) H'')->qT K mg base cE tb H Q c H'
theorem Do{cE:Y}(D:aR K mg "_law_e_word" pY)(T:Txt K mg)(n:mL K mg base cH cW cM cE)(o0:cT P w K mg base "tried_loose" 8 ["house","p"] (gw tb cH cW cM))(o1:cT P w K mg base "is_early" 8 ["house","p","weaving"] (iR cH cW))(o2:cT P w K mg base "holds_by" 8 ["house","p","stands"] (iP cH cW)) (o3:cT P w K mg base "is_stuck" 7 ["house","weaving"] (iI cH)) (o4:Ok P w K mg base "_law_e_kind" 1 ["caught"] (kX K mg)):
  Ok P w K mg base "_law_e_word" 9 ["way","house","p"] (dU tb):=by
 refine wu D vN λf ag A Z s H vs Q E L h=>?_;intro X;obtain⟨m,p,N,t,rfl,S,U,hT,kH,R⟩:=h;have nd:=vN.nd;refine⟨_,zd (ya (i:=3) nd qd) (zd (AK (E:=λc _ d=>qT K mg base cE tb H Q c d) (ie:=4) (ic:=3) J J nd J J J J J n.mE n.iE (λC' d z=>by obtain⟨C,i,e,_,hU,_⟩:=z;cases(Value.ref.inj e);exact hU)
   (λpn=>zf (yd (zp y4 (aA 0) zc (zm _)) (zf (we (ja o0 (Z6 (Z:=λ_ _=>True)) L (za (aA 1) (za (aA 2) zb))))) (zf (yd (zp y4 (aA 0) zc (zm _)) (zf (we (ja o1 (Z6 (Z:=λ_ _=>True)) L (za (aA 1) (za (aA 2) (za (vz zb) zb)))))) (zf (yd (zp y4 (aA 0) zc (zm _)) (zf (we (ja o2 (Z6 (Z:=λ_ _=>True)) L (za (aA 1) (za (aA 2) (za (vz zb) zb)))))) (zf (we (ja o3 (Z6 (Z:=λ_ _=>True)) (L.mono (show 7<=8 by decide)) (za (aA 1) (za (vz zb) zb))))))))))) (by decide) (by decide) (by decide) (λb hb=>by cases hb))
  (zd (yd (zp pC (aA 3) qd (zm _)) (zf (zk zu)) zt) (zf (zk (zy o4 (L.mono (show 1<=8 by decide)) (za (aA 3) zb)))))),?_⟩
 have W:∀d,xt t=false->bP tb H d->qT K mg base cE tb H Q (.ref cH) d:=λd c k=>⟨cH,3,J,n.kH,n.uH,k,kH c⟩
 refine⟨?_,λF d a C' o hE af=>?_⟩
 . refine⟨_,J,J,_,J,ye (λz=>?_) (λz=>?_)⟩
   . have G:m=0:=V.int.inj (bw z);refine⟨_,J,_,J,t,N,p,J,S,U,hT,λc d s=>W d c (.of hT s),λc=>?_⟩;obtain⟨v,j,u,r,B,_,x⟩:=R c;refine⟨v,j,u,r,λq d s=>⟨cW,8,J,n.kW,n.uW,.of hT s,B (.inl G) q⟩,λq=>?_⟩;obtain⟨k1,k2⟩:=x q;obtain⟨f4,km⟩:=k1 G;exact⟨f4,λn3 d b t=>⟨cM,9,J,n.kM,n.uM,⟨b,t⟩,km n3⟩,λf3 a d b t _=>⟨_,J,J,_,J,xu (k2 (λ_=>f3) d ⟨b,t⟩)⟩⟩
   have G:¬m=0:=λy=>z (by rw[y];exact aw J);refine⟨_,J,J,_,J,ye (λz=>?_) (λz=>?_)⟩
   . have w1:m=1:=V.int.inj (bw z);refine⟨_,J,_,J,by show 0<=sizeLine;decide,λl M=>?_⟩;have g:=Same.new M (.lst []);refine⟨t,N,p,l,[],J,S.mono g,U,ze,λc d s=>W d c (.of hT (g.trans s)),λc=>?_⟩;obtain⟨v,j,u,r,B,_,x⟩:=R c;refine⟨v,j,u,r.mono g,λq d s=>⟨cW,8,J,n.kW,n.uW,.of hT (g.trans s),B (.inr (.inl w1)) q⟩,λq d s=>⟨_,J,J,_,J,xu ((x q).2 (λy=>absurd y G) d (.of hT (g.trans s)))⟩⟩
   have w1:¬m=1:=λy=>z (by rw[y];exact aw J);refine⟨_,J,J,_,J,ye (λz=>?_) (λz=>?_)⟩
   . have w2:m=2:=V.int.inj (bw z);refine⟨_,J,_,J,by show 0<=sizeLine;decide,λl M=>?_⟩;have g:=Same.new M (.lst []);refine⟨t,N,p,l,J,S.mono g,U,λc d s=>W d c (.of hT (g.trans s)),λc=>?_⟩;obtain⟨v,j,u,r,B,_,x⟩:=R c;refine⟨v,j,u,r.mono g,λq d s=>⟨cW,8,J,n.kW,n.uW,.of hT (g.trans s),B (.inr (.inr w2)) q⟩,λq=>⟨[],⟨⟨[],ze,J⟩,cm _,λst h=>by cases h⟩,λd s=>⟨_,J,J,_,J,xu ((x q).2 (λy=>absurd y G) d (.of hT (g.trans s)))⟩⟩⟩
   have w2:¬m=2:=λy=>z (by rw[y];exact aw J);refine⟨_,J,by show 0<=sizeLine;decide,λl M=>?_⟩;have g:=Same.new M (.lst []);refine⟨t,N,l,[],J,S.mono g,U,ze,λc d s=>W d c (.of hT (g.trans s)),λc=>?_⟩;obtain⟨v,j,u,r,B,k3,x⟩:=R c;exact⟨v,j,u,r.mono g,λd s=>⟨_,J,J,_,J,xu (k3 (by omega) d (.of hT (g.trans s)))⟩⟩
 . obtain⟨C,i,ec,kd,hU,bt,k⟩:=hE;cases(Value.ref.inj ec);have g4:((((F.set 4 (some (V.ref a))).set 3 (some (V.ref a)))).set 4 none)[3]?=some (some (V.ref a)):=by have o:F.length=5:=o;rw[List.getElem?_set_ne (by decide),List.getElem?_set_self (by rw[List.length_set,o];decide)]
   have bA:=bt.same (Same.new af (lG a C'));refine⟨_,g4,J,_,J,ye (λz=>absurd (bw z) (λy=>by cases y)) (λ_=>?_)⟩;exact⟨_,g4,a,C',i,J,ze,kd,λH2 s2=>k H2 (bA.same s2)⟩
end
theorem Ar{t:T}{b d:Int}(h:eA t b beh=true)(k:(dZ t:Int)<=d):eA t b d=true:=by
 cases t with
 | tup n=>
   cases n with
   |nil=>cases h
   | cons x r=>
     cases x with
     | str x=>
       have h:((decide (1<=r.length) && decide (r.length<=3)) && Vs x r b beh)=true:=h;show((decide (1<=r.length) && decide (r.length<=3)) && Vs x r b d)=true;rw[bj]at h⊢;refine⟨h.1,?_⟩;have e:=h.2;unfold Vs at e⊢;by_cases j:bE x "say"=true
       . rw[if_pos j]at e⊢;exact e
       rw[if_neg j]at e⊢;by_cases i:r.length<2
       . rw[if_pos i]at e⊢;exact e
       rw[if_neg i]at e⊢;by_cases g:bE x "skip"=true
       . rw[if_pos g]at e⊢;simp only[bj,decide_eq_true_eq]at e⊢;obtain⟨q,p,l,f⟩:=e;refine⟨q,p,l,?_⟩
         match r,l,f,k with
         | [a,b,c],_,f,k=>have f:yh c 1 beh=true:=f;obtain⟨m,rfl,o,s⟩:=j8 f;have k:((m.toNat:Nat):Int)<=d:=k;exact xx o (by omega)
       . rw[if_neg g]at e⊢;exact e
     |_=>cases h
 |_=>cases h
theorem Gd.low{a:Int}{t:T}(g:Gd bx beh t)(k:(dZ t:Int)<=a):Gd bx a t:=⟨g.fro,g.wd,λb e c d=>Ar (g.ok b beh c (cg _)) (by omega),g.lay,k⟩
structure Gq(bx:Int)(ts:List T):Prop where
 each:∀t∈ts,∃beh,Gd bx beh t
 sk:∀(i:Nat) t,ts[i]?=some t->dZ t+i+1<=ts.length
theorem bX.q(g:bX bx ts):Gq bx ts:=⟨λt a=>by obtain⟨i,b⟩:=List.mem_iff_getElem?.mp a;exact⟨_,g i t b⟩,λi t e=>by have h:=(g i t e).sk;have:=(c7.mp e).1;omega⟩
theorem Gq.s(g:Gq bx ts):bX bx ts:=λi t e=>by obtain⟨a,h⟩:=g.each t (br e);have:=g.sk i t e;exact h.low (by omega)
theorem Gq.ins(g:Gq bx ts)(l:k<=ts.length)(b:Gd bx beh u)(hs:dZ u+k<=ts.length):Gq bx (ts.take k++u::ts.drop k):=by
 refine⟨λt c=>?_,λi t e=>?_⟩
 . rcases ck.mp c with h|h
   . exact g.each t (List.mem_of_mem_take h)
   . rcases ai.mp h with rfl|h
     . exact⟨_,b⟩
     . exact g.each t (List.mem_of_mem_drop h)
 . have d:(ts.take k++u::ts.drop k).length=ts.length+1:=by rw[ay,bu,cu,List.length_drop];omega
   have a:(ts.take k).length=k:=by rw[bu];omega
   rw[d];rcases Nat.lt_trichotomy i k with h|h|h
   . rw[eu (by omega),List.getElem?_take_of_lt h]at e;have:=g.sk i t e;omega
   . subst h;rw[List.getElem?_append_right (by omega),a,Nat.sub_self]at e;cases(show some u=some t from e);omega
   . rw[List.getElem?_append_right (by omega),a]at e;obtain⟨j,f⟩:∃j,i-k=j+1:=⟨i-k-1,by omega⟩
     rw[f,List.getElem?_cons_succ,List.getElem?_drop]at e;have:=g.sk _ t e;omega
theorem Gq.rep(g:Gq bx ts)(l:k<ts.length)(b:Gd bx beh u)(hs:dZ u=0):Gq bx (ts.take k++u::ts.drop (k+1)):=by
 refine⟨λt c=>?_,λi t e=>?_⟩
 . rcases ck.mp c with h|h
   . exact g.each t (List.mem_of_mem_take h)
   . rcases ai.mp h with rfl|h
     . exact⟨_,b⟩
     . exact g.each t (List.mem_of_mem_drop h)
 . have d:(ts.take k++u::ts.drop (k+1)).length=ts.length:=by rw[ay,bu,cu,List.length_drop];omega
   have a:(ts.take k).length=k:=by rw[bu];omega
   rw[d];rcases Nat.lt_trichotomy i k with h|h|h
   . rw[eu (by omega),List.getElem?_take_of_lt h]at e;exact g.sk i t e
   . subst h;rw[List.getElem?_append_right (by omega),a,Nat.sub_self]at e;cases(show some u=some t from e);omega
   . rw[List.getElem?_append_right (by omega),a]at e;obtain⟨j,f⟩:∃j,i-k=j+1:=⟨i-k-1,by omega⟩
     rw[f,List.getElem?_cons_succ,List.getElem?_drop]at e;have:=g.sk _ t e;omega
theorem Fe(n:bU ts){t:T}(hs:(ts[k]?).bind qh=some x)(e:ts[i]?=some t)(f:i<k):dZ t+i+1<=k:=by
 by_cases h:dZ t+i+1<=k
 . exact h
 . exfalso;have b:=n i t e;obtain⟨u,a,d⟩:=fo.mp hs;have c:u∈(ts.drop (i+1)).take (dZ t):=by refine br (i:=k-(i+1)) ?_;rw[List.getElem?_take_of_lt (by omega),List.getElem?_drop,show i+1+(k-(i+1))=k from by omega];exact a
   have:x∈yj ((ts.drop (i+1)).take (dZ t)):=List.mem_filterMap.mpr ⟨u,c,d⟩;rw[b]at this;cases this
theorem Gq.del(g:Gq bx ts)(n:bU ts)(hs:(ts[k]?).bind qh=some x):Gq bx (ts.take k++ts.drop (k+1)):=by
 obtain⟨u,b,j⟩:=fo.mp hs;have f:=(c7.mp b).1;refine⟨λt c=>?_,λi t e=>?_⟩
 . rcases ck.mp c with h|h
   . exact g.each t (List.mem_of_mem_take h)
   . exact g.each t (List.mem_of_mem_drop h)
 . have d:(ts.take k++ts.drop (k+1)).length=ts.length-1:=by rw[ay,bu,List.length_drop];omega
   have a:(ts.take k).length=k:=by rw[bu];omega
   rw[d];by_cases h:i<k
   . rw[eu (by omega),List.getElem?_take_of_lt h]at e;have:=Fe n hs e h;omega
   . rw[List.getElem?_append_right (by omega),a,List.getElem?_drop]at e;have:=g.sk _ t e;omega
structure GH(bx:Int)(ss:List T):Prop where
 b0:0<=bx
 b6:bx<=6
 n1:1<=ss.length
 n4:ss.length<=4
 each:∀s∈ss,∃ts,s=L2.T.tup ts/\bX bx ts/\ts.length<=30
theorem xZ(L:GH bx ss):Wh (.tup [.int bx,.tup ss]):=V5 Xu (Xt λs a=>by obtain⟨h,rfl,g,_⟩:=L.each s a;intro f e d c;cases e;obtain⟨i,b⟩:=List.mem_iff_getElem?.mp c;exact(g i d b).wd)
theorem Bw(L:GH bx ss):xt (.tup [.int bx,.tup ss])=true:=by
 have k:=L.b0;have j:=L.b6;have h:=L.n1;have f:=L.n4;show(yh (.int bx) 0 6 && (wx (.tup ss) 1 4 && ss.all λs=>fA s bx))=true;rw[xx (by omega) (by omega)];have e:wx (.tup ss) 1 4=true:=by show(decide ((1:Int)<=(ss.length:Int)) && decide ((ss.length:Int)<=4))=true;rw[aw (by omega),aw (by omega)];rfl
 rw[e,bn,bn,dz];intro s c;obtain⟨a,rfl,g,n⟩:=L.each s c;show(wx (.tup a) 0 30 && kB a bx)=true;have d:wx (.tup a) 0 30=true:=by show(decide ((0:Int)<=(a.length:Int)) && decide ((a.length:Int)<=30))=true;rw[aw (by omega),aw (by omega)];rfl
 rw[d,bn];unfold kB;rw[dz];intro i b;have b:=de.mp b;rw[ar,ao b];exact(g i a[i] (ao b)).ok bx _ (cg _) (cg _)
theorem rH(L:GH bx ss):∃dss,ss=dss.map bJ/\HD bx dss:=by
 have v:=L.b0;have w:=L.b6;have m:=L.n1;have l:=L.n4;obtain⟨dss,e,h⟩:=Q6 (f:=bJ) (P:=λa=>a.length<=30/\(∀d∈a,d.In bx/\d.NS/\(aH d.t).canLay0=true)/\(∀(i:Nat) d,a[i]?=some d->dZ d.t+i+1<=a.length)) (l:=ss) λs j=>by
  obtain⟨k,rfl,g,n⟩:=L.each s j;obtain⟨a,e,h⟩:=Q6 (f:=Dd.t) (P:=λd=>d.In bx/\d.NS/\(aH d.t).canLay0=true) (l:=k) λt p=>by obtain⟨i,o⟩:=List.mem_iff_getElem?.mp p;obtain⟨d,rfl,u,r⟩:=mY ((g i t o).ok bx _ (cg _) (cg _));exact⟨d,J,u,r,(g i _ o).lay⟩
  subst e;refine⟨a,J,by rw[ae]at n;exact n,h,λi d e=>?_⟩;have q:=(g i d.t (by rw[ba,e];rfl)).sk;rw[ae]at q;omega
 have g1:=Bw L;have g2:=xZ L;have f:xn ss:=xn.all.mpr λs j=>by obtain⟨k,rfl,g,_⟩:=L.each s j;unfold bI;exact g.fro
 subst e;rw[ae]at m l;exact⟨dss,J,⟨v,by omega,m,l,λa c=>(h a c).1,λa c d b=>((h a c).2.1 d b).1,g1,g2,by unfold hT bI xn;exact⟨by unfold bI;trivial,by unfold xn;exact⟨by unfold bI;exact f,by unfold xn;trivial⟩⟩,λa c d b=>((h a c).2.1 d b).2.1,λa c d b=>((h a c).2.1 d b).2.2,λa c=>(h a c).2.2⟩⟩
theorem sQ(h:p<0\/15<p):xr p dss=false:=by
 unfold xr;have:(decide (0<=p) && decide (p<=15))=false:=by
  rcases h with h|h
  . rw[bp (by omega),cp]
  . rw[bp (p:=p<=15) (by omega),Bool.and_false]
 rw[this,cp]
theorem K6(a:ds∈dss)(h:fW p ds=false):xr p dss=false:=by
 unfold xr;have:dss.all (fW p)=false:=by refine Bool.eq_false_iff.mpr λz=>?_;rw[dz.mp z ds a]at h;cases h
 rw[this,Bool.and_false]
theorem V2(h:yj (ds.map Dd.t)≠bZ (2*p).toNat):fW p ds=false:=by unfold fW;rw[bp h,cp]
theorem sV{b n m:Int}(h:(ds.map Dd.t)[i]?=some (.tup [.str "skip",.int b,.int n,.int m]))(hs:yj (((ds.map Dd.t).drop (i+1)).take m.toNat)≠[]):fW p ds=false:=by
 rw[ba]at h;obtain⟨d,c,e⟩:=fm.mp h;have g:d=.act "skip" b n [.int m]:=by cases d with|say y=>cases e|act w l k r=>cases e;rfl
 subst g;have f:=(c7.mp c).1;have a:=px c;rw[List.map_take,List.map_drop,show bE "skip" "skip"=true from by decide+kernel,bn]at a;have j:(yj (((ds.map Dd.t).drop (i+1)).take m.toNat)).isEmpty=false:=by cases z:yj (((ds.map Dd.t).drop (i+1)).take m.toNat)with|nil=>exact absurd z hs|cons _ _=>rfl
 rw[j]at a;unfold fW;rw[vO f a];cases decide (yj (ds.map Dd.t)=bZ (2*p).toNat)<;>rfl
theorem Z8(n:Nat):(bZ n).length=n:=by unfold bZ;rw[ae,da]
theorem V6(q:HD bx dss)(l:0<=p)(k:p<=15)(a:∀ds∈dss,yj (ds.map Dd.t)=bZ (2*p).toNat)(g:∀ds∈dss,bU (ds.map Dd.t)):xr p dss=true:=by
 unfold xr;rw[aw l,aw k,bn,bn,dz];intro ds h;unfold fW;rw[aw (a ds h),bn];have:lY ds=false:=ub λj i=>by
  have e:ds[j]?=some ds[j]:=ao i;have c:=q.each ds h _ (List.getElem_mem i);have f:=g ds h j ds[j].t (by rw[ba,e];rfl);generalize ds[j]=d at e c f;cases d with|say x=>exact ua e| act w b n r=>
    by_cases z:bE w "skip"=true
    . obtain⟨m,o,rfl⟩:=c.2.2 z;have f:yj (((ds.map Dd.t).drop (j+1)).take m.toNat)=[]:=f;rw[px e,List.map_take,List.map_drop,f];cases bE w "skip"<;>rfl
    . exact sI e z
 rw[this];rfl
theorem WD.wall(W:WD p dss)(a:HD bx dss):xr p dss=true:=by have:=W.p0;have:=W.p2;exact V6 a (by omega) (by omega) W.says W.nsk
noncomputable def aJ(js:List Nat):List Int:=js.map λ(j:Nat)=>(j:Int)
noncomputable def bK(nb:Nat)(num:Nat->Nat->Int)(js:List Nat):List Int:=(List.range nb).map λk=>num k (js.getD k 0)
noncomputable def dF(nb:Nat)(num:Nat->Nat->Int)(js:List Nat):Sn:=(aJ js,bK nb num js)
structure gW(bx:Int)(dss:List (List Dd))(ms:List Nat)(nb:Nat)(num:Nat->Nat->Int):Prop where
 b:bx=(nb:Int)
 n:dss.length=ms.length
 z:∀k,num k 0=0
 go:∀k j,k<ms.length->j<ms.getD k 0->∃d,(dss.getD k [])[j]?=some d/\((∃x,d=.say x/\num k (j+1)=num k j)\/(∃c,d=.act "raise" (k:Int) c []/\k<nb/\num k (j+1)=(num k j+c)%10))
 stop:∀k,k<ms.length->∀d,(dss.getD k [])[ms.getD k 0]?=some d->∃c,d=.act "same" (k:Int) c []/\k<nb/\num k (ms.getD k 0)≠c
structure Jl(ms js:List Nat):Prop where
 n:js.length=ms.length
 le:∀k,js.getD k 0<=ms.getD k 0
theorem Qv:(aJ js).getD k 0=((js.getD k 0:Nat):Int):=by unfold aJ;rw[ar,ar,ba];cases js[k]?<;>rfl
theorem su{num:Nat->Nat->Int}(h:k<nb):(bK nb num js).getD k 0=num k (js.getD k 0):=by unfold bK;rw[ar,ba,List.getElem?_range h];rfl
theorem lA(h:k<js.length):(js.set k j).getD i 0=if i=k then j else js.getD i 0:=by
 rw[ar,ar,List.getElem?_set];by_cases e:k=i
 . subst e;rw[if_pos J,if_pos h,if_pos J];rfl
 . rw[if_neg e,if_neg (λz=>e z.symm)]
theorem sB:(aJ js).set k (j:Int)=aJ (js.set k j):=by unfold aJ;rw[List.map_set]
theorem Ay{num:Nat->Nat->Int}(h:k<js.length):(bK nb num js).set k (num k j)=bK nb num (js.set k j):=by
 unfold bK;refine List.ext_getElem? λi=>?_;rw[List.getElem?_set,ae,da,ba,ba];by_cases a:i<nb
 . rw[List.getElem?_range a];by_cases e:k=i
   . subst e;rw[if_pos J,if_pos a];show some (num k j)=some (num k ((js.set k j).getD k 0));rw[lA h,if_pos J]
   . rw[if_neg e];show some (num i (js.getD i 0))=some (num i ((js.set k j).getD i 0));rw[lA h,if_neg (λz=>e z.symm)]
 . rw[fe (by rw[da];omega)];by_cases e:k=i
   . subst e;rw[if_pos J,if_neg a];rfl
   . rw[if_neg e];rfl
theorem BP{num:Nat->Nat->Int}(h:k<js.length)(e:num k j=num k (js.getD k 0)):bK nb num js=bK nb num (js.set k j):=by
 unfold bK;refine List.map_congr_left λi _=>?_;rw[lA h];by_cases c:i=k
 . subst c;rw[if_pos J,e]
 . rw[if_neg c]
theorem V8{num:Nat->Nat->Int}(W:gW bx dss ms nb num)(J:Jl ms js)(g:k<ms.length):xf dss (aJ js) (bK nb num js) (k:Int)=if js.getD k 0<ms.getD k 0 then some (dF nb num (js.set k (js.getD k 0+1)))else none:=by
 have a:k<dss.length:=by rw[W.n];exact g
 have f:k<js.length:=by rw[J.n];exact g
 have j:cA dss (aJ js) k=(dss.getD k [])[js.getD k 0]?:=by unfold cA;rw[Qv,cz]
 by_cases c:js.getD k 0<ms.getD k 0
 . rw [if_pos c];obtain⟨d,b,h⟩:=W.go k _ g c;rw[Yy a (j.trans b),Qv];rcases h with⟨x,rfl,e⟩|⟨c,rfl,i,e⟩
   . rw[if_neg (show¬(bB (bK nb num js) (.say x)=true)from λz=>by cases z)];unfold dF;rw[show(((js.getD k 0:Nat):Int)+1+Yu (.say x) (bK nb num js))=((js.getD k 0+1:Nat):Int)from by show((js.getD k 0:Nat):Int)+1+0=_;omega,sB,<-BP f e];rfl
   . have l:bB (bK nb num js) (.act "raise" (k:Int) c [])=false:=by show(bE "raise" "same" && !iX ((bK nb num js).getD ((k:Int)).toNat 0) c)=false;rw[show bE "raise" "same"=false from by decide+kernel,cp]
     have q:Yu (.act "raise" (k:Int) c []) (bK nb num js)=0:=by show pS "raise" (k:Int) c [] _=0;unfold pS;rw[show bE "raise" "skip"=false from by decide+kernel,cp];rfl
     have p:Jw (.act "raise" (k:Int) c []) (bK nb num js)=bK nb num (js.set k (js.getD k 0+1)):=by show nR "raise" (k:Int) c (nP "raise" (k:Int) c (bK nb num js))=_;unfold nP nR;rw[if_neg (show¬(bE "raise" "put"=true) by decide+kernel),if_pos (show bE "raise" "raise"=true by decide+kernel),cz,su i,<-e,Ay f]
     rw[l,q,p];unfold dF;rw[show(((js.getD k 0:Nat):Int)+1+0)=((js.getD k 0+1:Nat):Int)from by omega,sB];rfl
 . rw [if_neg c];have m:js.getD k 0=ms.getD k 0:=Nat.le_antisymm (J.le k) (by omega);cases b:(dss.getD k [])[js.getD k 0]? with|none=>exact Xz a (j.trans b)| some d=>
     rw[Yy a (j.trans b)];rw[m]at b;obtain⟨n,rfl,i,o⟩:=W.stop k g d b;have l:bB (bK nb num js) (.act "same" (k:Int) n [])=true:=by show(bE "same" "same" && !iX ((bK nb num js).getD ((k:Int)).toNat 0) n)=true;rw[show bE "same" "same"=true from by decide+kernel,bn,cz,su i,m];unfold iX;rw[bp (λz=>o (V.int.inj z))];rfl
     rw[l];rfl
theorem Jl.up(J:Jl ms js)(b:k<ms.length)(c:js.getD k 0<ms.getD k 0):Jl ms (js.set k (js.getD k 0+1)):=by
 have a:k<js.length:=by rw[J.n];exact b
 refine⟨by rw[List.length_set];exact J.n,λi=>?_⟩;rw[lA a];by_cases e:i=k
 . subst e;rw[if_pos rfl];omega
 . rw[if_neg e];exact J.le i
theorem mM:∀{js:List Nat}{k j:Nat},k<js.length->(js.set k j).sum+js.getD k 0=js.sum+j|[],_,_,h=>by simp at h|a::r,0,j,_=>by simp[List.set,List.getD];omega| a::r,k+1,j,h=>by have:=mM (js:=r) (k:=k) (j:=j) (by simpa using h);simp only[List.set_cons_succ,List.sum_cons,List.getD_cons_succ];omega
theorem ui{num:Nat->Nat->Int}(W:gW bx dss ms nb num):cG bx dss=dF nb num (List.replicate ms.length 0):=by
 unfold cG dF aJ bK zs;rw[W.n,W.b,cz,List.map_replicate];refine Prod.ext J (List.ext_getElem? λi=>?_);rw[List.getElem?_replicate,ba];by_cases h:i<nb
 . rw[if_pos h,List.getElem?_range h];have e:(List.replicate ms.length 0).getD i 0=0:=by rw[ar,List.getElem?_replicate];split<;>rfl
   show some 0=some (num i ((List.replicate ms.length 0).getD i 0));rw[e,W.z]
 . rw[if_neg h,fe (by rw[da];omega)];rfl
theorem V7{num:Nat->Nat->Int}(W:gW bx dss ms nb num)(w:Xb bx dss row st):∃js,Jl ms js/\st=dF nb num js/\row.length=js.sum:=by
 induction w with|nil=>exact⟨List.replicate ms.length 0,⟨dh,λk=>by rw[ar,List.getElem?_replicate];split<;>exact cm _⟩,ui W,by simp⟩| @snoc row st p _ a g=>
   obtain⟨js,J,rfl,h⟩:=g;have a:=Y7.mp a;obtain⟨k,d,e,b,_⟩:=vw a;rw[W.n]at b;have f:k<js.length:=by rw[J.n];exact b
   rw[e]at a;have a:xf dss (aJ js) (bK nb num js) (k:Int)=some p.2:=a;rw[V8 W J b]at a;by_cases c:js.getD k 0<ms.getD k 0
   . rw[if_pos c]at a;refine⟨_,J.up b c,(Option.some.inj a).symm,?_⟩;have:=mM (j:=js.getD k 0+1) f;rw[ay,bg];omega
   . rw[if_neg c]at a;cases a
theorem vP:∀{js:List Nat}{s:Nat},js.sum=s+1->∃k j,k<js.length/\js.getD k 0=j+1|[],_,h=>by simp at h| 0::r,s,h=>by obtain⟨k,j,a,e⟩:=vP (js:=r) (s:=s) (by simpa using h);exact⟨k+1,j,by simpa using a,by simpa using e⟩|(j+1)::r,s,h=>⟨0,j,by simp,J⟩
theorem uz:∀{js:List Nat},js.sum=0->js=List.replicate js.length 0
 |[],_=>rfl
 | a::r,h=>by
   rw[List.sum_cons]at h;have c:a=0:=by omega
   have b:=uz (js:=r) (by omega);rw[c,cu,List.replicate_succ,<-b]
theorem Zo{bx:Int}{d:List (List Dd)}{b:List Nat}{nb:Nat}{num:Nat->Nat->Int}(W:gW bx d b nb num):∀(s:Nat)(js:List Nat),js.sum=s->Jl b js->∃row,Xb bx d row (dF nb num js)/\row.length=s
 | 0,js,f,J=>by refine⟨[],?_,rfl⟩;have e:=uz f;rw[J.n]at e;have h:=ui W;rw[e,<-h];exact dI.nil
 | s+1,js,f,J=>by
   obtain⟨k,j,a,e⟩:=vP f;have l:k<b.length:=by rw[<-J.n];exact a
   have o:=mM (j:=j) a;have m:Jl b (js.set k j):=⟨by rw[List.length_set];exact J.n,λi=>by
    rw[lA a];have:=J.le i;by_cases c:i=k
    . subst c;rw[if_pos rfl];omega
    . rw[if_neg c];exact this⟩
   obtain⟨row,n,p⟩:=Zo W s (js.set k j) (by omega) m;have q:(js.set k j).getD k 0=j:=by rw[lA a,if_pos rfl]
   have g:(js.set k j).getD k 0<b.getD k 0:=by have:=J.le k;omega
   have st:=V8 W m l;rw[if_pos g,q,List.set_set,<-e]at st;have r:js.set k (js.getD k 0)=js:=by
    refine List.ext_getElem? λi=>?_;rw[List.getElem?_set];by_cases c:k=i
    . subst c;rw[if_pos rfl,if_pos a,ar,ao a];rfl
    . rw[if_neg c]
   rw[r]at st;exact⟨row++[(k:Int)],dI.snoc (p:=((k:Int),dF nb num js)) n (Y7.mpr st),by rw[ay,p];rfl⟩
noncomputable def Vv:List Nat->List (List Nat)|[]=>[[]]|m::r=>(List.range (m+1)).flatMap λj=>(Vv r).map (j:: ·)
noncomputable def eN:List Nat->Nat|[]=>1|m::r=>(m+1)*eN r
theorem J3(c:Nat):∀l:List Nat,(l.map λ_=>c).sum=l.length*c|[]=>by simp|_::r=>by rw[dv,List.sum_cons,J3 c r,cu,Nat.succ_mul,Nat.add_comm]
theorem Wu:∀ms,(Vv ms).length=eN ms|[]=>rfl| m::r=>by unfold Vv eN;rw[List.length_flatMap,<-Wu r];simp only[ae];rw[J3,da]
theorem Yt:∀{a js:List Nat},js∈Vv a↔Jl a js
 | [],js=>by unfold Vv;rw[bc];refine⟨λh=>by rw[h];exact⟨rfl,λk=>aj _⟩,λh=>gb.mp h.n⟩
 | m ::r,js=>by
   unfold Vv;rw[List.mem_flatMap];constructor
   . rintro⟨j,c,h⟩;obtain⟨t,b,rfl⟩:=bz.mp h;have J:=Yt.mp b;refine⟨by rw[cu,cu,J.n],λk=>?_⟩;cases k with
     |zero=>have:=de.mp c;show j<=m;omega
     |succ k=>rw[List.getD_cons_succ,List.getD_cons_succ];exact J.le k
   . intro J;cases js with
     |nil=>have:=J.n;simp at this
     | cons j t=>
       refine⟨j,de.mpr ?_,bz.mpr ⟨t,Yt.mpr ⟨?_,λk=>?_⟩,rfl⟩⟩
       . have h:j<=m:=J.le 0;omega
       . have h:=J.n;rw[cu,cu]at h;omega
       . have h:=J.le (k+1);rw[List.getD_cons_succ,List.getD_cons_succ]at h;exact h
theorem tR:∀ms,(Vv ms).Nodup
 |[]=>by unfold Vv;simp
 | m::r=>by
   unfold Vv List.Nodup;rw[List.pairwise_flatMap];refine⟨λj _=>?_,?_⟩
   . rw[List.pairwise_map];exact List.Pairwise.imp (λh e=>h (List.cons.inj e).2) (tR r)
   . refine List.Pairwise.imp (λ{a b} (h:a≠b) x d y c e=>?_) (List.nodup_range (n:=m+1));obtain⟨g,_,rfl⟩:=bz.mp d;obtain⟨f,_,rfl⟩:=bz.mp c;exact h (List.cons.inj e).1
theorem Ch{num:Nat->Nat->Int}{a:List Nat}(h:dF nb num a=dF nb num b):a=b:=by
 have e:aJ a=aJ b:=congrArg Prod.fst h;unfold aJ at e;refine List.ext_getElem? λi=>?_;have:=congrArg (λl:List Int=>l[i]?) e;simp only[ba]at this;cases d:a[i]? with
 | none=>cases c:b[i]? with
   |none=>rfl
   |some y=>rw[d,c]at this;cases this
 | some x=>cases c:b[i]? with
   |none=>rw[d,c]at this;cases this
   | some y=>rw[d,c]at this;have:(x:Int)=(y:Int):=Option.some.inj this;rw[show x=y from by omega]
theorem sJ{num:Nat->Nat->Int}(a:O Nat):((Vv a).map (dF nb num)).Nodup:=by unfold List.Nodup;rw[List.pairwise_map];exact List.Pairwise.imp (λh e=>h (Ch e)) (tR a)
theorem mZ{num:Nat->Nat->Int}(W:gW bx dss ms nb num):Fw (eN ms) bx dss:=λL d h=>by
 have:=Yx (M:=(Vv ms).map (dF nb num)) d λst a=>by obtain⟨c,b⟩:=h st a;obtain⟨e,J,rfl,_⟩:=V7 W b;exact bz.mpr ⟨e,Yt.mpr J,rfl⟩
 rwa[ae,Wu]at this
theorem Ba{num:Nat->Nat->Int}(W:gW bx dss ms nb num)(F:Fw n bx dss):eN ms<=n:=by
 have:=F ((Vv ms).map (dF nb num)) (sJ ms) λst b=>by obtain⟨d,e,rfl⟩:=bz.mp b;obtain⟨a,c,_⟩:=Zo W _ d J (Yt.mp e);exact⟨a,c⟩
 rwa[ae,Wu]at this
theorem rR{num:Nat->Nat->Int}(W:gW bx dss ms nb num)(c:L.Nodup)(h:∀st,st∈L↔∃row,Xb bx dss row st):L.length=eN ms:=by
 refine Nat.le_antisymm (mZ W L c λst a=>(h st).mp a) ?_;have:=Yx (M:=L) (sJ (nb:=nb) (num:=num) ms) λst a=>by obtain⟨d,e,rfl⟩:=bz.mp a;obtain⟨row,b,_⟩:=Zo W _ d J (Yt.mp e);exact(h _).mpr ⟨row,b⟩
 rwa[ae,Wu]at this
theorem uU{a:List Nat}(h:a.Perm b):eN a=eN b:=by induction h with|nil=>rfl|cons x _ c=>unfold eN;rw[c]|swap x y l=>unfold eN;unfold eN;rw[<-Nat.mul_assoc,<-Nat.mul_assoc,Nat.mul_comm (y+1)]|trans _ _ e d=>rw[e,d]
theorem zS{num:Nat->Nat->Int}(W:gW bx dss ms nb num)(J:Jl ms js):bN dss (aJ js) (bK nb num js)=[]↔js=ms:=by
 constructor
 . intro h;refine List.ext_getElem? λi=>?_;by_cases b:i<ms.length
   . have j:(xf dss (aJ js) (bK nb num js) (i:Int)).isSome=false:=by refine Bool.eq_false_iff.mpr λz=>?_;have:=Z0.mpr z;rw[h]at this;cases this
     rw[V8 W J b]at j;have a:i<js.length:=by rw[J.n];exact b
     by_cases c:js.getD i 0<ms.getD i 0
     . rw[if_pos c]at j;cases j
     . have e:js.getD i 0=ms.getD i 0:=Nat.le_antisymm (J.le i) (by omega);rw[ar,ar,ao a,ao b]at e;rw[ao a,ao b];exact congrArg some e
   . rw[fe (by rw[J.n];omega),fe (by omega)]
 . rintro rfl;cases h:bN dss (aJ js) (bK nb num js)with|nil=>rfl| cons x r=>
     have f:x∈bN dss (aJ js) (bK nb num js):=by rw[h];exact c8
     have f:=Z0.mp f;obtain⟨q,g⟩:=fz.mp f;obtain⟨k,d,rfl,l,_⟩:=vw g;rw[V8 W J (by rw[<-W.n];exact l),if_neg (cx _)]at g;cases g
theorem ng{num:Nat->Nat->Int}(W:gW bx dss ms nb num)(J:Jl ms js):Z1 dss (aJ js) (bK nb num js)=(decide (js=ms) && !decide (aJ ms=wz dss)):=by
 unfold Z1;have e:decide (V.int ((bN dss (aJ js) (bK nb num js)).length:Int)=V.int 0)=decide (js=ms):=by
  rw[gl,<-zS W J];constructor
  . intro h;injection h with h;exact gb.mp (by omega)
  . intro h;rw[h];rfl
 rw[e];by_cases c:js=ms
 . subst c;rfl
 . rw[bp c,cp,cp]
noncomputable def rz(k:Nat)(c:Int)(n:Nat):List Dd:=List.replicate n (.act "raise" (k:Int) c [])
noncomputable def wS(kd k m:Nat)(c:Int):List Dd:=
 if kd=1 then .say "come"::(rz k c (m-2)++[.say "go"])
 else if kd=2/\k=0 then rz k c m++[.act "same" (k:Int) (((m:Int)*c+1)%10) []]
 else rz k c m
noncomputable def wD(kd:Nat)(B:List Nat)(F:List Int):List (List Dd):=(List.range B.length).map λk=>wS kd k (B.getD k 0) (F.getD k 0)
noncomputable def wN(kd:Nat)(B:List Nat)(F:List Int)(k j:Nat):Int:=(((if kd=1 then min (j-1) (B.getD k 0-2)else j:Nat):Int)*F.getD k 0)%10
structure i4(kd:Nat)(ms:List Nat)(cs:List Int):Prop where
 n1:1<=ms.length
 n4:ms.length<=4
 c:∀k,k<ms.length->1<=cs.getD k 0/\cs.getD k 0<=9
 m:∀k,k<ms.length->2<=ms.getD k 0/\ms.getD k 0<=29
theorem Zp:(wD kd ms cs).length=ms.length:=by unfold wD;rw[ae,da]
theorem V9(h:k<ms.length):(wD kd ms cs).getD k []=wS kd k (ms.getD k 0) (cs.getD k 0):=by unfold wD;rw[ar,ba,List.getElem?_range h];rfl
theorem K8(h:ds∈wD kd ms cs):∃k,k<ms.length/\ds=wS kd k (ms.getD k 0) (cs.getD k 0):=by unfold wD at h;obtain⟨k,a,rfl⟩:=bz.mp h;exact⟨k,de.mp a,J⟩
theorem nB(h:j<n):(rz k c n)[j]?=some (.act "raise" (k:Int) c []):=by unfold rz;rw[List.getElem?_replicate,if_pos h]
theorem qb:(rz k c n).length=n:=by unfold rz;rw[dh]
theorem rD(j:Nat)(c:Int):(((j+1:Nat):Int)*c)%10=(((j:Nat):Int)*c%10+c)%10:=by rw[show((j+1:Nat):Int)*c=(j:Int)*c+c from by rw[Int.natCast_succ,Int.add_mul,Int.one_mul]];omega
theorem hV(O:i4 kd ms cs):gW (ms.length:Int) (wD kd ms cs) ms ms.length (wN kd ms cs):=by
 refine⟨J,Zp,λk=>?_,λk j b g=>?_,λk b d a=>?_⟩
 . unfold wN;by_cases c:kd=1
   . rw[if_pos c,show min (0-1) (ms.getD k 0-2)=0 from by omega];simp
   . rw[if_neg c];simp
 . rw [V9 b];obtain⟨i,_⟩:=O.m k b;unfold wS wN;by_cases c:kd=1
   . rw [if_pos c,if_pos c,if_pos c];cases j with|zero=>exact⟨_,J,.inl ⟨_,J,by rw[show min (0+1-1) (ms.getD k 0-2)=min (0-1) (ms.getD k 0-2)from by omega]⟩⟩| succ j=>
       rw[List.getElem?_cons_succ];by_cases h:j<ms.getD k 0-2
       . rw[eu (by rw[qb];exact h),nB h];refine⟨_,J,.inr ⟨_,J,b,?_⟩⟩;rw[show min (j+1+1-1) (ms.getD k 0-2)=j+1 from by omega,show min (j+1-1) (ms.getD k 0-2)=j from by omega];exact rD j _
       . have e:j=ms.getD k 0-2:=by omega
         rw[List.getElem?_append_right (by rw[qb];omega),qb,show j-(ms.getD k 0-2)=0 from by omega];refine⟨_,J,.inl ⟨_,J,?_⟩⟩;rw[show min (j+1+1-1) (ms.getD k 0-2)=min (j+1-1) (ms.getD k 0-2)from by omega]
   . rw[if_neg c,if_neg c,if_neg c];refine⟨.act "raise" (k:Int) (cs.getD k 0) [],?_,.inr ⟨_,J,b,rD j _⟩⟩;by_cases f:kd=2/\k=0
     . rw[if_pos f,eu (by rw[qb];exact g),nB g]
     . rw[if_neg f,nB g]
 . rw[V9 b]at a;obtain⟨i,_⟩:=O.m k b;unfold wS at a;by_cases c:kd=1
   . rw[if_pos c,fe (by rw[cu,ay,qb,bg];omega)]at a;cases a
   . rw[if_neg c]at a;by_cases f:kd=2/\k=0
     . rw[if_pos f,List.getElem?_append_right (by rw[qb];omega),qb,Nat.sub_self]at a;cases(Option.some.inj a);refine⟨_,J,b,?_⟩;unfold wN;rw[if_neg c];generalize ((ms.getD k 0:Nat):Int)*cs.getD k 0=x;omega
     . rw[if_neg f,fe (by rw[qb];omega)]at a;cases a
theorem K7{d:Dd}(h:d∈wS kd k m c):(kd=1/\(d=.say "come"\/d=.say "go"))\/d=.act "raise" (k:Int) c []\/d=.act "same" (k:Int) (((m:Int)*c+1)%10) []:=by
 unfold wS rz at h;split at h
 . rename_i a
   rcases ai.mp h with h|h
   . exact .inl ⟨a,.inl h⟩
   . rcases ck.mp h with h|h
     . exact .inr (.inl (fi.mp h).2)
     . exact .inl ⟨a,.inr (bc.mp h)⟩
 . split at h
   . rcases ck.mp h with h|h
     . exact .inr (.inl (fi.mp h).2)
     . exact .inr (.inr (bc.mp h))
   . exact .inr (.inl (fi.mp h).2)
theorem sP(h:2<=m):(wS kd k m c).length=if kd=2/\k=0 then m+1 else m:=by
 unfold wS;by_cases b:kd=1
 . rw[if_pos b,if_neg (by omega),cu,ay,qb,bg];omega
 . rw[if_neg b];by_cases a:kd=2/\k=0
   . rw[if_pos a,if_pos a,ay,qb,bg]
   . rw[if_neg a,if_neg a,qb]
theorem rW(h:∀d∈ds,Gd bx 0 d.t):bX bx (ds.map Dd.t):=λi t e=>by rw[ba]at e;obtain⟨d,a,rfl⟩:=fm.mp e;have:=(c7.mp a).1;rw[ae];exact(h d (br a)).mono (by omega)
theorem BY{a b:Dd}(h:a.t=b.t):a=b:=by
 cases a with
 | say x=>cases b with
   |say y=>cases h;rfl
   |act w b n r=>cases h
 | act w f n r=>cases b with
   |say y=>cases h
   |act c g e d=>cases h;rfl
theorem qC{c e:Type}{f:c->e}(d:∀a b,f a=f b->a=b):∀{l m:List c},l.map f=m.map f->l=m|[],[],_=>rfl|[],_::_,h=>by cases h|_::_,[],h=>by cases h| a::l,b::m,h=>by rw[dv,dv]at h;rw[d a b (List.cons.inj h).1,qC d (List.cons.inj h).2]
theorem Cd{a b:O Dd}(h:bJ a=bJ b):a=b:=by unfold bJ at h;exact qC (λ_ _=>BY) (L2.T.tup.inj h)
theorem oG(i:0<=bx)(g:bx<=6)(d:1<=dss.length)(c:dss.length<=4)(h:∀ds∈dss,bX bx (ds.map Dd.t)/\ds.length<=30):HD bx dss:=by
 have G:GH bx (dss.map bJ):=⟨i,g,by rw[ae];exact d,by rw[ae];exact c,λs f=>by obtain⟨ds,a,rfl⟩:=bz.mp f;exact⟨_,J,(h ds a).1,by rw[ae];exact(h ds a).2⟩⟩
 obtain⟨b,e,a⟩:=rH G;rw[qC (λ_ _=>Cd) e];exact a
theorem K5(O:i4 kd ms cs):HD (ms.length:Int) (wD kd ms cs):=by
 have e:=O.n1;have c:=O.n4;refine oG (by omega) (by omega) (by rw[Zp];exact e) (by rw[Zp];exact c) λi a=>?_;obtain⟨k,b,rfl⟩:=K8 a;obtain⟨j,h⟩:=O.c k b;obtain⟨g,f⟩:=O.m k b;refine⟨rW λd a=>?_,by rw[sP g];split<;>omega⟩;rcases K7 a with⟨_,rfl|rfl⟩|rfl|rfl
 . exact Wm (.inl J)
 . exact Wm (.inr J)
 . exact sX (by omega) (by omega) (by omega) h
 . generalize ((ms.getD k 0:Nat):Int)*cs.getD k 0+1=x;exact oZ (by omega) (by omega) (by omega) (by omega)
theorem yY{d:Dd}(h:d∈wS kd k m c):dZ d.t=0:=by rcases K7 h with⟨_,rfl|rfl⟩|rfl|rfl<;>rfl
theorem Cp:yj ((wS kd k m c).map Dd.t)=bZ (2*(if kd=1 then 1 else 0)):=by
 have b:∀n,yj ((rz k c n).map Dd.t)=[]:=λn=>Zq λt g=>by obtain⟨d,e,rfl⟩:=bz.mp g;unfold rz at e;rw[(fi.mp e).2];rfl
 unfold wS;by_cases a:kd=1
 . rw[if_pos a,if_pos a,dv,be];show yj ([Dd.t (.say "come")]++((rz k c (m-2)).map Dd.t++[Dd.t (.say "go")]))=_;rw[yt,yt,b];rfl
 . rw[if_neg a,if_neg a];by_cases f:kd=2/\k=0
   . rw[if_pos f,be,yt,b];rfl
   . rw[if_neg f,b];rfl
theorem Wy(O:i4 kd ms cs):xr (if kd=1 then 1 else 0) (wD kd ms cs)=true:=by
 refine V6 (K5 O) (by split<;>decide) (by split<;>decide) (λf b=>?_) (λf b=>?_)
 . obtain⟨k,c,rfl⟩:=K8 b;rw[Cp];congr 1;split<;>rfl
 . obtain⟨k,c,rfl⟩:=K8 b;intro i t e;rw[ba]at e;obtain⟨d,a,rfl⟩:=fm.mp e;rw[yY (br a),List.take_zero];rfl
theorem BW{ps:O Int}{d:Dd}(a:k<dss.length)(e:cA dss ps k=some d):d∈dss.getD k []:=by unfold cA at e;exact br e
theorem vS(O:i4 kd ms cs)(c:kd≠1):mG (ms.length:Int) (wD kd ms cs):=λg st h w=>by
 unfold bV;cases e:xf (wD kd ms cs) st.1 st.2 h with|none=>rfl| some q=>
   obtain⟨k,d,rfl,a,f,_⟩:=vw e;rw[cz,f];show(gO "go" d && _)=false;have b:=BW a f;rw[Zp]at a;rw[V9 a]at b;have:gO "go" d=false:=by
    rcases K7 b with⟨y,_⟩|rfl|rfl
    . exact absurd y c
    . exact sZ
    . exact sZ
   rw[this,cp]
theorem Jx(O:i4 kd ms cs):aJ ms=wz (wD kd ms cs)↔kd≠2:=by
 have a:∀k,k<ms.length->(wz (wD kd ms cs))[k]?=some (((if kd=2/\k=0 then ms.getD k 0+1 else ms.getD k 0:Nat)):Int):=λk b=>by unfold wz wD;rw[eq,ba,List.getElem?_range b];show some ((((wS kd k (ms.getD k 0) (cs.getD k 0)).length:Nat)):Int)=_;rw[sP (O.m k b).1]
 have d:∀k,k<ms.length->(aJ ms)[k]?=some ((ms.getD k 0:Nat):Int):=λk b=>by unfold aJ;rw[ba,ar,ao b];rfl
 have g:=O.n1;constructor
 . rintro h rfl;have f:=a 0 (by omega);rw[<-h,d 0 (by omega),if_pos ⟨J,J⟩]at f;have:=Option.some.inj f;omega
 . intro c;refine List.ext_getElem? λi=>?_;by_cases e:i<ms.length
   . rw[a i e,d i e,if_neg (λz=>c z.1)]
   . rw[fe (by unfold aJ;rw[ae];omega),fe (by unfold wz;rw[ae,Zp];omega)]
theorem sE(w:Xb bx dss row st):qv dss (zs dss.length) (zs bx.toNat) row=some st:=um w
theorem DG(w:Xb bx dss row st)(h:Z1 dss st.1 st.2=true):Q7 bx dss row=true:=by unfold Q7;rw[sE w];exact h
theorem CL{h:Int}(w:Xb bx dss row st)(e:bV dss st.1 st.2 h=true):Q9 bx dss (row++[h])=true:=by rw[Q8,sE w];exact e
theorem DK(O:i4 0 ms cs)(h:Wv (ms.length:Int) (wD 0 ms cs) H0 H' a):∃l,∃L:List Sn,∃ys,H' a=some (.tup [.str "holds",.ref l])/\H0 l=none/\H' l=some (.lst ys)/\L2.IsL H' (L.map tS) ys/\L.length=eN ms/\L.Nodup/\(∀st,st∈L↔∃row,Xb (ms.length:Int) (wD 0 ms cs) row st):=by
 rcases h with⟨l,row,g,st,_,_,_,c,e,_⟩|⟨l,row,st,_,_,_,c,e,_⟩|⟨l,L,ys,m,k,j,i,_,f,d,_⟩
 . rw[vS O (by decide) row st g c]at e;cases e
 . obtain⟨b,J,rfl,_⟩:=V7 (hV O) c;rw[show(dF ms.length (wN 0 ms cs) b).1=aJ b from rfl,show(dF ms.length (wN 0 ms cs) b).2=bK ms.length (wN 0 ms cs) b from rfl,ng (hV O) J,aw ((Jx O).mpr (by decide)),Bool.not_true,Bool.and_false]at e;cases e
 . exact⟨l,L,ys,m,k,j,i,rR (hV O) f d,f,d⟩
theorem Ef(O:i4 2 ms cs)(h:Wv (ms.length:Int) (wD 2 ms cs) H0 H' a):∃l row,H' a=some (.tup [.str "stuck",.ref l])/\H' l=some (.lst (row.map V.int))/\row.length=ms.sum/\Q7 (ms.length:Int) (wD 2 ms cs) row=true:=by
 rcases h with⟨l,row,i,st,_,_,_,b,e,_⟩|⟨l,row,st,m,_,j,b,e,_⟩|⟨l,L,o,_,_,_,_,_,_,_,_,f⟩
 . rw[vS O (by decide) row st i b]at e;cases e
 . obtain⟨c,J,rfl,g⟩:=V7 (hV O) b;have d:=e;rw[show(dF ms.length (wN 2 ms cs) c).1=aJ c from rfl,show(dF ms.length (wN 2 ms cs) c).2=bK ms.length (wN 2 ms cs) c from rfl,ng (hV O) J,bj]at d;have n:=bw d.1;subst n;exact⟨l,row,m,j,g,DG b e⟩
 . exfalso;have J:Jl ms ms:=⟨rfl,λk=>aj _⟩
   obtain⟨row,b,_⟩:=Zo (hV O) _ ms rfl J;have:=f row _ b;rw[show(dF ms.length (wN 2 ms cs) ms).1=aJ ms from rfl,show(dF ms.length (wN 2 ms cs) ms).2=bK ms.length (wN 2 ms cs) ms from rfl,ng (hV O) J,aw rfl,bp (λz=>(Jx O).mp z rfl)]at this;cases this
theorem sw:∀{js:List Nat}{k:Nat},js.getD k 0<=js.sum|[],k=>by simp|a::r,0=>by simp| a::r,k+1=>by have:=sw (js:=r) (k:=k);rw[List.getD_cons_succ,List.sum_cons];omega
theorem CS(b:2<=m)(h:(wS 1 k m c)[j]?=some (.say "go")):j=m-1:=by
 unfold wS at h;rw[if_pos J]at h;cases j with| zero=>
   have h:some (Dd.say "come")=some (Dd.say "go"):=h;have:=Dd.say.inj (Option.some.inj h);exact absurd this (by decide+kernel)| succ j=>
   rw[List.getElem?_cons_succ]at h;by_cases a:j<m-2
   . rw[eu (by rw[qb];exact a),nB a]at h;cases h
   . rw[List.getElem?_append_right (by rw[qb];omega),qb]at h;have:=(c7.mp h).1;rw[bg]at this;omega
theorem yA(a:2<=m):(wS 1 k m c)[m-1]?=some (.say "go"):=by unfold wS;rw[if_pos J,show m-1=(m-2)+1 from by omega,List.getElem?_cons_succ,List.getElem?_append_right (by rw[qb];omega),qb,Nat.sub_self];rfl
theorem DJ(O:i4 1 ms cs){k0 p:Nat}(g:k0<ms.length)(y:p<ms.length)(x:p≠k0)(C:ms.getD k0 0=9)(B:∀k,k<ms.length->9<=ms.getD k 0)(h:Wv (ms.length:Int) (wD 1 ms cs) H0 H' a):∃l ws,H' a=some (.tup [.str "early",.ref l])/\H' l=some (.lst (ws.map V.int))/\ws.length=9/\Q9 (ms.length:Int) (wD 1 ms cs) ws=true:=by
 have W:=hV O;have n:(List.replicate ms.length 0).length=ms.length:=dh;have g0:∀k,(List.replicate ms.length 0).getD k 0=0:=λk=>by rw[ar,List.getElem?_replicate];split<;>rfl
 obtain⟨i,o⟩:∃i,i=(List.replicate ms.length 0).set k0 8:=⟨_,rfl⟩
 have v:∀k,i.getD k 0=if k=k0 then 8 else 0:=λk=>by rw[o,lA (by rw[n];exact g),g0]
 have J:Jl ms i:=⟨by rw[o,List.length_set,n],λk=>by
  rw[v];by_cases c:k=k0
  . rw[if_pos c,c,C];decide
  . rw[if_neg c];exact cm _⟩
 have G:i.sum=8:=by have:=mM (js:=List.replicate ms.length 0) (j:=8) (by rw[n];exact g);rw[<-o,g0]at this;simpa using this
 obtain⟨b,m,K⟩:=Zo W _ i G J;have E:bV (wD 1 ms cs) (aJ i) (bK ms.length (wN 1 ms cs) i) (k0:Int)=true:=by
  unfold bV;rw[V8 W J g,v,if_pos rfl,C,if_pos (by decide),cz];have r:cA (wD 1 ms cs) (aJ i) k0=some (.say "go"):=by unfold cA;rw[Qv,v,if_pos rfl,V9 g,cz,C];exact yA (by decide)
  rw[r];show(gO "go" (.say "go") && _)=true;rw[AU,bn,fu];refine⟨((lT "come" ((wD 1 ms cs).getD p []) ((aJ i).getD p 0):Nat):Int),bz.mpr ⟨p,de.mpr (by rw[Zp];exact y),rfl⟩,?_⟩;rw[Qv,v,if_neg x];refine aw ?_;have z:lT "come" ((wD 1 ms cs).getD p []) ((0:Nat):Int)=0:=by unfold lT;rfl
  rw[z];unfold cF;rw[ar,ba,List.getElem?_range (by rw[Zp];exact g)];exact Int.natCast_nonneg _
 rcases h with⟨l,s,A,st,Q,_,P,F,e,t⟩|⟨l,s,st,_,_,_,_,_,w,_⟩|⟨l,L,S,_,_,_,_,_,_,_,w,_⟩
 . refine⟨l,s++[A],Q,P,?_,CL F e⟩;have M:=t b _ _ m E;obtain⟨f,X,rfl,H⟩:=V7 W F;have j:bV (wD 1 ms cs) (aJ f) (bK ms.length (wN 1 ms cs) f) A=true:=e;unfold bV at j;cases D:xf (wD 1 ms cs) (aJ f) (bK ms.length (wN 1 ms cs) f) A with|none=>rw[D]at j;cases j| some q=>obtain⟨k,d,rfl,u,r,_⟩:=vw D;rw[D,cz,r]at j;have j:(gO "go" d && _)=true:=j;rw[bj]at j;have R:=tf j.1;subst R;rw[Zp]at u;unfold cA at r;rw[Qv,V9 u,cz]at r;have:=CS (O.m k u).1 r;have N:=B k u;have U:=sw (js:=f) (k:=k);rw[ay,bg];omega
 . exact absurd (E.symm.trans (w b _ (k0:Int) m)) (by decide)
 . exact absurd (E.symm.trans (w b _ (k0:Int) m)) (by decide)
noncomputable abbrev pw:Stmt:=top 73
section
inductive jQ(x y:V)(H:Hp)(Q:VK):Prop|mk:∀(ts us:List T),Is H (.tup ts) x->Is H (.tup us) y->ts.length+us.length<=1000->(∀v H',Same H H'->Is H' (.tup (ts++us)) v->Q v H')->jQ x y H Q
theorem wq:aY X (binaryOp .Add) jQ:=by intro a s c H x y v u Q I j g h;obtain⟨e,d,m,l,k,q⟩:=h;exact uS a s c H x y v u Q I j g ⟨e,d,m.off0,l.off0,λb z=>z.elim,yb k,λv n f i=>q v n f i.off⟩
inductive jI(x y:V)(H:Hp)(Q:VK):Prop|mk:∀(t:T) k,Is H (.tup [t]) x->y=.int k->2<=k->k<=1000->(∀v H',Same H H'->Is H' (.tup (List.replicate k.toNat t)) v->Q v H')->jI x y H Q
theorem uY{a:Type}(t:a):∀n:Nat,(List.replicate n [t]).flatten=List.replicate n t|0=>rfl|n+1=>by rw[List.replicate_succ,List.flatten_cons,uY t n,List.replicate_succ];rfl
theorem pP:aY X (binaryOp .Mult) jI:=by intro a s c H x y v u Q I f e h;obtain⟨t,k,m,l,j,g,q⟩:=h;exact uT a s c H x y v u Q I f e ⟨[t],k,m.off0,l,λb z=>z.elim,by simp,by simp,j,g,λv n d i=>q v n d (by rw[uY]at i;exact i.off)⟩
end
theorem qg{p:Y}{t:T}(g:H p=some (.tup [v]))(i:Is H t v):Is H (.tup [t]) (.ref p):=⟨p,_,J,g,IsL.one i⟩
theorem Xo{p:Y}(g:H p=some (.tup [.str "say",.str x])):Is H (Dd.say x).t (.ref p):=⟨p,_,J,g,IsL.two J J⟩
theorem Jc{p:Y}{w:Str}{b n:Int}(g:H p=some (.tup [.str w,.int b,.int n])):Is H (Dd.act w b n []).t (.ref p):=⟨p,_,J,g,_,_,J,J,_,_,J,J,_,_,J,J,J⟩
theorem uh(h:cs.length=ms.length):wD kd (ms++[m]) (cs++[c])=wD kd ms cs++[wS kd ms.length m c]:=by
 unfold wD;rw[ay,bg,List.range_succ,be];congr 1
 . refine List.map_congr_left λk a=>?_;have a:=de.mp a;rw[ar,ar,eu a,eu (by omega),<-ar,<-ar]
 . rw[List.map_singleton,ar,ar,List.getElem?_append_right (aj _),List.getElem?_append_right (by omega),Nat.sub_self,h,Nat.sub_self];rfl
theorem Jh:∀{xs:List Nat}{k m:Nat},xs[k]?=some m->(m::xs.eraseIdx k).Perm xs|[],_,_,h=>by simp at h| x::r,0,m,h=>by cases(show some x=some m from h);exact List.Perm.refl _| x::r,k+1,m,h=>by rw[List.getElem?_cons_succ]at h;rw[List.eraseIdx_cons_succ];exact(List.Perm.swap x m _).trans ((Jh h).cons x)
theorem rV(O:∀k,k<ms.length->1<=cs.getD k 0/\cs.getD k 0<=9):xn ((wD kd ms cs).map bJ):=xn.all.mpr λt c=>by
 obtain⟨g,e,rfl⟩:=bz.mp c;obtain⟨k,f,rfl⟩:=K8 e;unfold bJ bI;refine xn.all.mpr λu b=>?_;obtain⟨d,a,rfl⟩:=bz.mp b;rcases K7 a with⟨_,rfl|rfl⟩|rfl|rfl
 . exact⟨trivial,trivial,trivial⟩
 . exact⟨trivial,trivial,trivial⟩
 . exact⟨trivial,trivial,trivial,trivial⟩
 . exact⟨trivial,trivial,trivial,trivial⟩
theorem AJ:aJ js=[]↔js=[]:=by unfold aJ;exact List.map_eq_nil_iff
theorem Qu:(aJ js).length=js.length:=by unfold aJ;rw[ae]
theorem yU(h:js[k]?=some m):((aJ js).map V.int)[k]?=some (.int (m:Int)):=by unfold aJ;rw[ba,ba,h];rfl
theorem oY{b c:Type}(f:b->c):∀(l:List b)(k:Nat),(l.map f).eraseIdx k=(l.eraseIdx k).map f|[],_=>rfl|_::_,0=>rfl|a::r,k+1=>by rw[dv,List.eraseIdx_cons_succ,List.eraseIdx_cons_succ,dv,oY f r k]
theorem DS:((aJ js).map V.int).eraseIdx k=(aJ (js.eraseIdx k)).map V.int:=by unfold aJ;rw[oY,oY]
theorem rQ(b:kd≠1)(a:¬(kd=2/\k=0)):bJ (wS kd k m c)=.tup (List.replicate m (Dd.act "raise" (k:Int) c []).t):=by unfold bJ wS rz;rw[if_neg b,if_neg a,List.map_replicate]
theorem zQ:bJ (wS 1 k m c)=.tup (([(Dd.say "come").t]++List.replicate (m-2) (Dd.act "raise" (k:Int) c []).t)++[(Dd.say "go").t]):=by unfold bJ wS rz;rw[if_pos J,dv,be,List.map_replicate];rfl
theorem zR:bJ (wS 2 0 m c)=.tup (List.replicate m (Dd.act "raise" ((0:Nat):Int) c []).t++[(Dd.act "same" ((0:Nat):Int) (((m:Int)*c+1)%10) []).t]):=by unfold bJ wS rz;rw[if_neg (by decide),if_pos ⟨J,J⟩,be,List.map_replicate];rfl
noncomputable def jR:Nat->Str|1=>"early"|2=>"stuck"|_=>"holds"
structure WL(kd:Nat)(L0:List Nat):Prop where
 kd3:kd<3
 n1:1<=L0.length
 n4:L0.length<=4
 m:∀m∈L0,2<=m/\m<=29
 e:kd=1->∀m∈L0,4<=m
structure WI(H:Hp)(a s l q:Addr)(kd:Nat)(L0 rem ms:List Nat)(cs:List Int)(H':Hp):Prop where
 b:aG a H H'
 t:jB H' a s
 hl:H' l=some (.lst ((aJ rem).map V.int))
 hq:∃ys,H' q=some (.lst ys)/\IsL H' ((wD kd ms cs).map bJ) ys
 pm:(ms++rem).Perm L0
 cl:cs.length=ms.length
 c:∀k,k<ms.length->1<=cs.getD k 0/\cs.getD k 0<=9
inductive gv(K:W.Frag)(vs:List V)(H:Hp)(Q:VK)(e0:XK):Prop|mk:∀(a s l0:Addr)(ns:List Int)(kd:Nat)(L0:List Nat),vs=[.ref a,.ref l0,.str (jR kd)]->aI K H a s ns->H l0=some (.lst ((aJ L0).map V.int))->l0≠a->WL kd L0->(∀ms cs v H',ms.Perm L0->i4 kd ms cs->aG a H H'->aI K H' a s ns->Is H' (hT (ms.length:Int) (wD kd ms cs)) v->Q v H')->gv K vs H Q e0
section
variable{K:W.Frag}
theorem uy:aB ["deck","lengths","kind","left","scripts","box","many","by"] ["deck","lengths","kind"] (zh pw):=.of
theorem Cy (D:aR K mg "_law_e_wide" pw) (T:Txt K mg) (o1:Ok P w K mg base "_law_e_pick" 2 ["deck","many"] (dB K)):Ok P w K mg base "_law_e_wide" 3 ["deck","lengths","kind"] (gv K):=by
 refine wu D uy λf dT A b9 sh H vs Q E hr h=>?_;intro X;obtain⟨a,s,l0,ns,F,Z,rfl,hT,hL,cb,M,kk⟩:=h;have nd:=uy.nd;have co:=hr.units;refine⟨_,zd (ya (i:=3) nd (ym qa J T.list jg (za (aA 1) zb))) (zd (ya (i:=4) nd (va zb)) (zd (uV PassesOwn.never (zp (pO co) (aA 3) (va zb) (zm _)) (zd (ya (i:=5) nd (zo zn J T.len yi (za (aA 4) zb))) (zd (ya (i:=6) nd (Zk PySem.F.plainAttrs_list PySem.F.slot_list_pop PySem.F.type_list_pop C4 (aA 3) (za (zy o1 hr (za (aA 0) (za (zo zn J T.len yi (za (aA 3) zb)) zb))) zb))) (zd (ya (i:=7) nd (zx yv zc (zy o1 hr (za (aA 0) (za zc zb))))) (zf (yd (zp y4 (aA 2) zu (zm _)) (zf (we (Zk PySem.F.plainAttrs_list PySem.F.slot_list_append PySem.F.type_list_append vn (aA 4) (za (zx wq (zx wq (yc (za (yc (za zu (za zu zb))) zb)) (zx pP (yc (za (yc (za zu (za (aA 5) (za (aA 7) zb)))) zb)) (zx jw (aA 6) zc))) (yc (za (yc (za zu (za zu zb))) zb))) zb))))
    (zf (yd (PW.pt (Xk (zp y4 (aA 2) zu (zm _)) (Zv (zp y4 (aA 5) zc (zm _))))) (zf (we (Zk PySem.F.plainAttrs_list PySem.F.slot_list_append PySem.F.type_list_append vn (aA 4) (za (zx wq (zx pP (yc (za (yc (za zu (za (aA 5) (za (aA 7) zb)))) zb)) (aA 6)) (yc (za (yc (za zu (za (aA 5) (za (zx ke (zx yv (zx qe (aA 6) (aA 7)) zc) zc) zb)))) zb))) zb))))
     (zf (we (Zk PySem.F.plainAttrs_list PySem.F.slot_list_append PySem.F.type_list_append vn (aA 4) (za (zx pP (yc (za (yc (za zu (za (aA 5) (za (aA 7) zb)))) zb)) (aA 6)) zb))))))))))))
  (zf (zk (yc (za (zo zn J T.len yi (za (aA 1) zb)) (za (ym xa J T.tuple wj (za (aA 4) zb)) zb))))))),?_⟩
 refine⟨_,J,l0,_,J,.inl (aE.of hL),λl hl=>?_⟩;have s1:=Same.new hl (.lst ((aJ Z).map V.int));have g1:upd H l (.lst ((aJ Z).map V.int)) l=some (.lst ((aJ Z).map V.int)):=ze;generalize upd H l (.lst ((aJ Z).map V.int))=H1 at s1 g1⊢;refine⟨by show 0<=1000;decide,λq H2 s2 hq g2=>?_⟩;have B:=s1.trans s2;obtain⟨dk,dj,ha,_⟩:=hT.at';have a5:l≠a:=λz=>by rw[z,ha]at hl;cases hl
 have a4:q≠a:=λz=>by rw[z,s1 _ _ ha]at hq;cases hq
 have bk:q≠l:=λz=>by rw[z,g1]at hq;cases hq
 have cv:H q=none:=Same.none s1 hq;refine⟨λn σ H'=>∃g j W x5 x6 x7,σ=[some (.ref a),some (.ref l0),some (.str (jR F)),some (.ref l),some (.ref q),x5,x6,x7]/\n=g.length/\WI H a s l q F Z g j W H',⟨Z.length,Z,[],[],none,none,none,J,J,B.but,(hT.same B).at',s2 _ _ g1,⟨[],g2,J⟩,List.Perm.refl _,J,λk hk=>absurd hk (Nat.not_lt_zero k)⟩,?_⟩
 rintro n σ H3 ⟨g,j,W,x5,x6,x7,rfl,hn,I⟩;have b1:=hT.at2 I.b I.t;refine⟨_,J,by show 0<=1000;decide,λp H4 s4 hp g4=>?_⟩;refine⟨.lst (iT (aJ g)),.lst (iT []),⟨l,_,J,s4 _ _ I.hl,IsL.ints.mpr J⟩,⟨p,_,J,g4,J⟩,Z2 _,Z2 _,Vh _,_,J,?_⟩;rw[sU];obtain⟨r,a8,a7⟩:=I.hq;have bo:=a7.length;rw[ae,Zp]at bo;have cE:=I.pm.length_eq;rw[ay]at cE;have w1:=M.n1;have w4:=M.n4;by_cases S:g=[]
 . subst S;rw[aw (show aJ []=[]from rfl)];refine yr ?_;have L:=I.pm;rw[ez]at L;have U:H4 l0=some (.lst ((aJ Z).map V.int)):=s4 _ _ (I.b _ _ cb hL);refine⟨_,J,l0,_,J,.inl (aE.of U),_,J,q,r,J,.inl ⟨aE.of (s4 _ _ a8),λtq cr=>?_⟩⟩;have s5:=Same.new cr (.tup r);have g5:upd H4 tq (.tup r) tq=some (.tup r):=ze;generalize upd H4 tq (.tup r)=H5 at s5 g5⊢;refine⟨by show 2<=1000;decide,λv H6 s6 hv g6=>?_⟩;have av:=s4.trans (s5.trans s6);have en:(((aJ Z).map V.int).length:Int)=(j.length:Int):=by rw[ae,Qu,<-L.length_eq]
   rw[en]at g6;refine kk j W _ _ L ⟨by rw[L.length_eq];exact w1,by rw[L.length_eq];exact w4,I.c,λk hk=>?_⟩ (I.b.trans av.but) (b1.same av) ⟨v,_,J,g6,_,_,J,J,_,_,J,⟨tq,r,J,s6 _ _ g5,a7.mono av⟩,J⟩;refine M.m _ (L.mem_iff.mp ?_);rw[ar,ao hk];exact List.getElem_mem hk
 . rw [bp (λz=>S (AJ.mp z))];refine xu ⟨λbb H'=>∃n',n'<n/\∃g j W x5 x6 x7,bb=[some (.ref a),some (.ref l0),some (.str (jR F)),some (.ref l),some (.ref q),x5,x6,x7]/\n'=g.length/\WI H a s l q F Z g j W H',λbb H' h=>h,?_⟩;have di:0<g.length:=List.length_pos_iff.mpr S;have b0:=b1.same s4;have U:=s4 _ _ I.hl;refine⟨_,J,q,r,J,.inl (aE.of (s4 _ _ a8)),?_⟩;rw[bo];refine⟨_,J,.inl ⟨J,_,aE.of U⟩,_,J,_,J,l,_,J,.inl (aE.of U),a,s,ns,_,J,b0,?_,?_,λd H5 d0 d1 b5 t5=>?_⟩
   . rw[ae,Qu];omega
   . rw[ae,Qu];omega
   rw[ae,Qu]at d1;have bv:=b5 _ _ a5 U;have bA:d.toNat<g.length:=by omega
   obtain⟨m,hm⟩:∃m,g[d.toNat]?=some m:=⟨_,ao bA⟩
   refine⟨l,_,d,d.toNat,_,J,J,bv,by omega,by omega,by rw[ae,Qu];exact seqIndex_of d0 d1,yU hm,?_⟩;rw[DS];have b6:aG a H (upd H5 l (.lst ((aJ (g.eraseIdx d.toNat)).map V.int))):=λb o n e=>by rw[zi (zj e hl)];exact b5 b o n (s4 _ _ (I.b b o n e))
   have bd:qj H5 (upd H5 l (.lst ((aJ (g.eraseIdx d.toNat)).map V.int))):=qj.upd bv (λ_ z=>by cases z);have a6:jB (upd H5 l (.lst ((aJ (g.eraseIdx d.toNat)).map V.int))) a s:=by obtain⟨p5,r5,e5,h5⟩:=t5.at';exact⟨p5,r5,by rw[zi (al a5)];exact e5,h5⟩
   have bt:upd H5 l (.lst ((aJ (g.eraseIdx d.toNat)).map V.int)) l=some (.lst ((aJ (g.eraseIdx d.toNat)).map V.int)):=ze;have bq:upd H5 l (.lst ((aJ (g.eraseIdx d.toNat)).map V.int)) q=some (.lst r):=by rw[zi bk];exact b5 _ _ a4 (s4 _ _ a8)
   have fr:=rV (kd:=F) I.c;have bl:=((a7.mono s4).tups (b0.tups b5) fr).tups bd fr;generalize upd H5 l (.lst ((aJ (g.eraseIdx d.toNat)).map V.int))=H6 at b6 bd a6 bt bq bl⊢;have bT:=hT.at2 b6 a6;refine⟨_,J,a,s,ns,9,J,bT,by decide,by decide,λc0 H7 d2 dV b7 t7=>⟨_,_,J,J,?_⟩⟩;have cf:=bl.tups (bT.tups b7) fr;have cL:=b7 _ _ a5 bt;have G:=b7 _ _ a4 bq;have c5:aG a H H7:=b6.trans b7;have du:=M.m m (I.pm.mem_iff.mp (dy _ (br hm)));have ah:∀(t:V)(H9:Hp)(y5 y6 y7:Option V),Same H7 H9->Is H9 (bJ (wS F j.length m (1+c0))) t->∃n',n'<n/\∃g j W x5 x6 x7,[some (V.ref a),some (.ref l0),some (.str (jR F)),some (.ref l),some (.ref q),y5,y6,y7]=[some (.ref a),some (.ref l0),some (.str (jR F)),some (.ref l),some (.ref q),x5,x6,x7]/\n'=g.length/\WI H a s l q F Z g j W (upd H9 q (.lst (r++[t]))):=λt H9 y5 y6 y7 u R=>by
    have bL:∀k,k<(j++[m]).length->1<=(W++[1+c0]).getD k 0/\(W++[1+c0]).getD k 0<=9:=λk hk=>by
     rw[ay,bg]at hk;have dL:=I.cl;by_cases c:k<j.length
     . rw[ar,eu (by omega),<-ar];exact I.c k c
     . rw[ar,List.getElem?_append_right (by omega),show k-W.length=0 from by omega];show 1<=1+c0/\1+c0<=9;omega
    have b2:=rV (kd:=F) bL;rw[uh I.cl,be]at b2;have cw:=u _ _ G;have b4:qj H9 (upd H9 q (.lst (r++[t]))):=qj.upd cw (λ_ z=>by cases z);refine⟨(g.eraseIdx d.toNat).length,?_,g.eraseIdx d.toNat,j++[m],W++[1+c0],y5,y6,y7,J,J,λb o n e=>?_,?_,?_,⟨r++[t],ze,?_⟩,?_,?_,bL⟩
    . rw[List.length_eraseIdx,if_pos bA];omega
    . rw[zi (zj e cv)];exact u _ _ (c5 b o n e)
    . obtain⟨p7,r7,e7,h7⟩:=t7.at';exact⟨p7,r7,by rw[zi (al a4)];exact u _ _ e7,h7⟩
    . rw[zi (al bk)];exact u _ _ cL
    . rw[uh I.cl,be];exact((cf.mono u).append (IsL.one R)).tups b4 b2
    . rw[List.append_assoc];exact(List.Perm.append_left j (Jh hm)).trans I.pm
    . rw[ay,ay,I.cl];rfl
   have dK:=M.kd3;have i:r.length<sizeLine:=fg (show r.length<=1000 by omega) (by decide);have ag:∀{H'},Same H7 H'->H' q=some (.lst r):=λs'=>s' _ _ G;rcases(show F=0\/F=1\/F=2 by omega)with e|e|e
   . subst e;refine⟨_,J,J,_,J,ye (λz=>absurd z (by decide+kernel)) (λ_=>?_)⟩;refine⟨_,J,J,_,J,ye (λz=>absurd z (by decide+kernel)) (λ_=>yr ?_)⟩;refine⟨_,J,.inl ⟨J,_,aE.of G⟩,_,J,_,J,by show 3<=1000;decide,λp1 H8 s8 n8 g8=>⟨by show 1<=1000;decide,λp2 H9 u n9 g9=>⟨_,J,(Dd.act "raise" (j.length:Int) (1+c0) []).t,(m:Int),qg g9 ((Jc g8).mono u),J,by omega,by omega,λt af C R=>?_⟩⟩⟩;have x:=s8.trans (u.trans C);refine⟨q,r,t,J,J,ag x,i,ah t af _ _ _ x ?_⟩;rw[rQ (by decide) (by omega)];exact R
   . subst e;refine⟨_,J,J,_,J,ye (λ_=>?_) (λz=>absurd (by decide+kernel) z)⟩;have m4:=M.e J m (I.pm.mem_iff.mp (dy _ (br hm)));refine⟨_,J,.inl ⟨J,_,aE.of G⟩,by show 2<=1000;decide,λp1 H8 s8 n8 g8=>⟨by show 1<=1000;decide,λp2 H9 u n9 g9=>⟨_,J,_,J,by show 3<=1000;decide,λp3 af C dt c4=>⟨by show 1<=1000;decide,λp4 dc N cc a9=>⟨_,J,_,_,J,J,(Dd.act "raise" (j.length:Int) (1+c0) []).t,(m:Int)-2,qg a9 ((Jc c4).mono N),J,by omega,by omega,λv5 db B cj=>?_⟩⟩⟩⟩⟩;have am:=C.trans (N.trans B);refine⟨[(Dd.say "come").t],_,(qg g9 ((Xo g8).mono u)).mono am,cj,by rw[bg,dh];omega,λv6 b3 a3 ci=>⟨by show 2<=1000;decide,λp7 d4 bf dp c2=>⟨by show 1<=1000;decide,λp8 d3 ax dn c1=>?_⟩⟩⟩;refine⟨_,[(Dd.say "go").t],ci.mono (bf.trans ax),qg c1 ((Xo c2).mono ax),by rw[ay,bg,dh,bg];omega,λt c9 b8 R=>?_⟩;have ap:=s8.trans (u.trans (am.trans (a3.trans (bf.trans (ax.trans b8)))));refine⟨q,r,t,J,J,ag ap,i,ah t c9 _ _ _ ap ?_⟩;rw[zQ];rw[show((m:Int)-2).toNat=m-2 from by omega]at R;exact R
   . subst e;refine⟨_,J,J,_,J,ye (λz=>absurd z (by decide+kernel)) (λ_=>?_)⟩;refine⟨_,J,J,_,J,ye (λ_=>?_) (λz=>absurd (by decide+kernel) z)⟩;refine⟨_,J,J,_,J,ye (λz=>?_) (λz=>?_)⟩
     . have h0:j.length=0:=by have:=V.int.inj (bw z);omega
       refine⟨_,J,.inl ⟨J,_,aE.of G⟩,_,J,_,J,by show 3<=1000;decide,λp1 H8 s8 n8 g8=>⟨by show 1<=1000;decide,λp2 H9 u n9 g9=>⟨_,J,(Dd.act "raise" (j.length:Int) (1+c0) []).t,(m:Int),qg g9 ((Jc g8).mono u),J,by omega,by omega,λv3 af C cl=>?_⟩⟩⟩;refine⟨_,J,_,J,_,J,_,_,J,J,.inl ⟨by omega,by omega⟩,_,_,J,J,_,_,J,J,by decide,by show 3<=1000;decide,λp4 dc N cc a9=>⟨by show 1<=1000;decide,λp5 db B dr c3=>?_⟩⟩;refine⟨_,_,cl.mono (N.trans B),qg c3 ((Jc a9).mono B),by rw[dh,bg];omega,λt b3 a3 R=>?_⟩;have au:=s8.trans (u.trans (C.trans (N.trans (B.trans a3))));refine⟨q,r,t,J,J,ag au,i,ah t b3 _ _ _ au ?_⟩;rw[h0]at R⊢;rw[zR];exact R
     . have h0:j.length≠0:=λy=>z (by rw[y];exact aw J);refine⟨_,J,.inl ⟨J,_,aE.of G⟩,_,J,_,J,by show 3<=1000;decide,λp1 H8 s8 n8 g8=>⟨by show 1<=1000;decide,λp2 H9 u n9 g9=>⟨_,J,(Dd.act "raise" (j.length:Int) (1+c0) []).t,(m:Int),qg g9 ((Jc g8).mono u),J,by omega,by omega,λt af C R=>?_⟩⟩⟩;have x:=s8.trans (u.trans C);refine⟨q,r,t,J,J,ag x,i,ah t af _ _ _ x ?_⟩;rw[rQ (by decide) (λy=>h0 y.2)];exact R
end
def wY(bx p:Int)(t:T):Prop:=∃dss,t=hT bx dss/\HD bx dss/\xr p dss=false
structure cS(bx p:Int)(os:List T):Prop where
 g:Gq bx os
 n:os.length<=30
 f:∀ds:List Dd,ds.map Dd.t=os->fW p ds=false
structure Sg(bx p:Int)(ts:List T):Prop where
 p0:0<=p
 g:Gq bx ts
 n:ts.length<=29
 says:yj ts=bZ (2*p).toNat
 nsk:bU ts
theorem zY(L:GH bx ss)(n:k<ss.length)(b:cS bx p os):wY bx p (.tup [.int bx,.tup ((ss.take k++[.tup os])++ss.drop (k+1))]):=by
 have d:((ss.take k++[T.tup os])++ss.drop (k+1)).length=ss.length:=by rw[ay,ay,bu,bg,List.length_drop];omega
 have G:GH bx ((ss.take k++[.tup os])++ss.drop (k+1)):=⟨L.b0,L.b6,by rw[d];exact L.n1,by rw[d];exact L.n4,λs g=>by
  rcases ck.mp g with h|h
  . rcases ck.mp h with h|h
    . exact L.each s (List.mem_of_mem_take h)
    . exact⟨os,bc.mp h,b.g.s,b.n⟩
  . exact L.each s (List.mem_of_mem_drop h)⟩
 obtain⟨c,e,i⟩:=rH G;have f:((ss.take k++[T.tup os])++ss.drop (k+1))[k]?=some (.tup os):=by
  have a:(ss.take k).length=k:=by rw[bu];omega
  rw[eu (by rw[ay,a,bg];omega),List.getElem?_append_right (by omega),a,Nat.sub_self];rfl
 rw[e,ba]at f;obtain⟨m,l,j⟩:=fm.mp f;exact⟨c,by rw[e];rfl,i,K6 (br l) (b.f m (L2.T.tup.inj j))⟩
theorem Qm(a:O T)(k:Nat):yj (a.take k)++yj (a.drop k)=yj a:=by rw[<-yt,List.take_append_drop]
theorem vT(x:Str):yj [(Dd.say x).t]=[x]:=rfl
theorem X5(hs:(ts[k]?).bind qh=some x):yj (ts.drop k)=x::yj (ts.drop (k+1))/\k<ts.length:=by
 obtain⟨u,a,c⟩:=fo.mp hs;have b:=(c7.mp a).1;have e:ts.drop k=u::ts.drop (k+1):=by rw[List.drop_eq_getElem_cons b];rw[ao b]at a;rw[Option.some.inj a]
 refine⟨?_,b⟩;rw[e];unfold yj;rw[List.filterMap_cons,c]
theorem rG(h:(yj os).length≠(2*p).toNat):∀ds:O Dd,ds.map Dd.t=os->fW p ds=false:=λds e=>V2 (λz=>h (by rw[<-e,z,Z8]))
theorem oU(S:Sg bx p ts)(b:k<=ts.length)(a:Gd bx 0 (Dd.say x).t):cS bx p ((ts.take k++[(Dd.say x).t])++ts.drop k):=by
 have c:=S.n;refine⟨?_,?_,rG ?_⟩
 . rw[List.append_assoc];exact S.g.ins b a (by show 0+k<=_;omega)
 . rw[ay,ay,bu,bg,List.length_drop];omega
 . rw[yt,yt,vT];have:=congrArg List.length (Qm ts k);rw[S.says,Z8,ay]at this;rw[ay,ay,bg];omega
theorem Aa(S:Sg bx p ts)(a:Gd bx 0 (Dd.say x).t):cS bx p (ts++[(Dd.say x).t]):=by have h:=oU (k:=ts.length) S (aj _) a;rw[dl,List.drop_length,ez]at h;exact h
theorem Ab(S:Sg bx p ts)(hs:(ts[k]?).bind qh=some x):cS bx p (ts.take k++ts.drop (k+1)):=by
 obtain⟨e,b⟩:=X5 hs;have a:=S.n;refine⟨S.g.del S.nsk hs,?_,rG ?_⟩
 . rw[ay,bu,List.length_drop];omega
 . rw[yt];have:=congrArg List.length (Qm ts k);rw[S.says,Z8,e,ay,cu]at this;rw[ay];omega
theorem BQ{y:Str}(S:Sg bx p ts)(hs:(ts[k]?).bind qh=some x)(b:Gd bx 0 (Dd.say y).t)(a:x≠y):cS bx p ((ts.take k++[(Dd.say y).t])++ts.drop (k+1)):=by
 obtain⟨e,c⟩:=X5 hs;have d:=S.n;refine⟨?_,?_,λf h=>V2 λz=>?_⟩
 . rw[List.append_assoc];exact S.g.rep c b J
 . rw[ay,ay,bu,bg,List.length_drop];omega
 . rw[h,yt,yt,vT,<-S.says,<-Qm ts k,e,List.append_assoc]at z;exact a (List.cons.inj (List.append_cancel_left z)).1.symm
theorem BR(S:Sg bx p ts)(d:0<bx)(hs:(ts[k]?).bind qh=some x):cS bx p ((ts.take k++[.tup [.str "skip",.int 0,.int 9,.int 1]])++ts.drop k):=by
 obtain⟨e,c⟩:=X5 hs;have g:=S.n;have a:(ts.take k).length=k:=by rw[bu];omega
 refine⟨?_,?_,λi h=>?_⟩
 . rw[List.append_assoc];exact S.g.ins (by omega) (pd (beh:=1) (by decide) d (by decide) (by decide) (by decide) (by decide)) (by show 1+k<=_;omega)
 . rw[ay,ay,bu,bg,List.length_drop];omega
 . refine sV (i:=k) (b:=0) (n:=9) (m:=1) ?_ ?_
   . rw[h,eu (by rw[ay,a,bg];omega),List.getElem?_append_right (by omega),a,Nat.sub_self];rfl
   . rw[h,List.drop_append_of_le_length (by rw[ay,a,bg];omega),List.drop_eq_nil_of_le (by rw[ay,a,bg];omega),List.nil_append];obtain⟨u,b,f⟩:=fo.mp hs;rw[ao c]at b;rw[List.drop_eq_getElem_cons c,Option.some.inj b];show yj (List.take 1 (u::_))≠[];rw[List.take_succ_cons,List.take_zero];unfold yj;rw[List.filterMap_cons,f];exact List.cons_ne_nil _ _
theorem CY(S:Sg bx p ts)(f:0<bx)(hs:(ts[k]?).bind qh=some x):cS bx p ([.tup [.str "skip",.int (bx-1),.int 3,.int ((k:Int)+1)]]++ts):=by
 obtain⟨e,d⟩:=X5 hs;have c:=S.n;refine⟨?_,?_,λg h=>?_⟩
 . exact S.g.ins (k:=0) (cm _) (pd (beh:=(k:Int)+1) (by omega) (by omega) (by decide) (by decide) (by omega) (cg _)) (by show((k:Int)+1).toNat+0<=_;omega)
 . rw[ay,bg];omega
 . refine sV (i:=0) (b:=bx-1) (n:=3) (m:=(k:Int)+1) (by rw[h];rfl) ?_;rw[h];show yj (ts.take ((k:Int)+1).toNat)≠[];rw[show((k:Int)+1).toNat=k+1 from by omega];obtain⟨u,a,b⟩:=fo.mp hs;intro z;have:x∈yj (ts.take (k+1)):=List.mem_filterMap.mpr ⟨u,br (i:=k) (by rw[List.getElem?_take_of_lt (by omega)];exact a),b⟩;rw[z]at this;cases this
theorem AQ:Gd bx 0 (Dd.say "wait").t:=by
 refine⟨⟨trivial,trivial,trivial⟩,me λu c=>?_,λb a _ _=>?_,Km (by kernel_rfl),cg 0⟩
 . simp only[ai,az,or_false]at c;rcases c with rfl|rfl
   . exact qw (by decide)
   . exact qw (by decide)
 . show eA (.tup [.str "say",.str "wait"]) b a=true;kernel_rfl
theorem LH.gh(L:LH bx p ss):GH bx ss:=⟨L.b0,by have:=L.b2;omega,L.n1,L.n4,λs e=>by obtain⟨d,a,b,c,_⟩:=L.each s e;exact⟨d,a,b,c⟩⟩
theorem LH.sg(L:LH bx p ss){s:T}(hs:s∈ss):∃ts,s=.tup ts/\Sg bx p ts:=by obtain⟨d,cr,h⟩:=L.cr;obtain⟨ts,e,g,n,a,b,c⟩:=h s hs;refine⟨ts,e,L.p0,g.q,?_,a,b⟩;unfold Cr at cr;omega
noncomputable abbrev Yf:Stmt:=top 72
section
inductive jL(x y:V)(H:Hp)(Q:VK):Prop|mk:∀(ts:List T)(i:Nat)(t:T),Is H (.tup ts) x->y=.int (i:Int)->ts[i]?=some t->(∀v,Is H t v->Q v H)->jL x y H Q
theorem Wi:mJ X jL:=by intro r b c s d H x y v u Q I j g h m;obtain⟨z,i,t,n,rfl,e,q⟩:=h;obtain⟨a,f,rfl,o,l⟩:=n;obtain⟨w,p,k⟩:=l.get e;exact zq r b c s d H _ _ v u Q I j g ⟨a,f,_,_,J,J,aD.of o,yq p,q _ k⟩ m
end
theorem Zn{a:Type}(xs:O a)(k:Nat)(h:k<=xs.length):Xq xs (some (k:Int)) none=xs.drop k:=by unfold Xq;rw[HT.mo,HT.nL,Nat.min_eq_left h,List.take_of_length_le];rw[List.length_drop];omega
structure NI(H:Hp)(a s q:Addr)(bx p:Int)(os:List (List T))(ys:List V)(H':Hp):Prop where
 b:aG a H H'
 t:jB H' a s
 hq:H' q=some (.lst ys)
 is:IsL H' (os.map L2.T.tup) ys
 bad:∀o∈os,cS bx p o
 n:os.length<=7
theorem cS.fro{bx p:Int}{o:O T}(b:cS bx p o):bI (.tup o):=by unfold bI;exact b.g.s.fro
theorem NI.same{s q:Y}{os:O (O T)}(I:NI H a s q bx p os ys H1)(b:Same H1 H2):NI H a s q bx p os ys H2:=by obtain⟨d,c,f,e⟩:=I.t;exact⟨I.b.trans b.but,⟨d,c,b _ _ f,e⟩,b _ _ I.hq,I.is.mono b,I.bad,I.n⟩
theorem NI.fro{H e:Hp}{a s q:Y}{bx p:Int}{os:O (O T)}{b:O V}(I:NI H a s q bx p os b e):xn (os.map L2.T.tup):=xn.all.mpr λt c=>by obtain⟨o,d,rfl⟩:=bz.mp c;exact(I.bad o d).fro
theorem NI.add{s q:Y}{os:O (O T)}{o:O T}(I:NI H a s q bx p os ys H1)(hq:H q=none)(d:q≠a)(u:os.length<=6)(B:cS bx p o)(k:Is H1 (.tup o) v):NI H a s q bx p (os++[o]) (ys++[v]) (upd H1 q (.lst (ys++[v]))):=by
 have g:qj H1 (upd H1 q (.lst (ys++[v]))):=qj.upd I.hq (λ_ z=>by cases z);have bad:∀c∈os++[o],cS bx p c:=λc f=>by
  rcases ck.mp f with h|h
  . exact I.bad c h
  . rw[bc.mp h];exact B
 refine⟨λb c n e=>?_,?_,ze,?_,bad,by rw[ay,bg];omega⟩
 . rw[zi (zj e hq)];exact I.b b c n e
 . obtain⟨j,i,r,m⟩:=I.t;exact⟨j,i,by rw[zi (al d)];exact r,m⟩
 . rw[be];refine(I.is.append (IsL.one k)).tups g (xn.all.mpr λt l=>?_);rcases ck.mp l with h|h
   . obtain⟨c,f,rfl⟩:=bz.mp h;exact(I.bad c f).fro
   . rw[bc.mp h];exact B.fro
theorem NI.len{s q:Y}{os:O (O T)}(I:NI H a s q bx p os ys H1):ys.length=os.length:=by
 have:=I.is.length
 rwa[ae]at this
theorem NI.but{K:W.Frag}{s q:Y}{os:O (O T)}(I:NI H a s q bx p os ys H1)(d:aI K H1 a s ns)(b:aG a H1 H2)(t:jB H2 a s)(c:q≠a):NI H a s q bx p os ys H2:=⟨I.b.trans b,t,b _ _ c I.hq,I.is.tups (d.tups b) I.fro,I.bad,I.n⟩
theorem NI.lt{s q:Y}{os:O (O T)}(I:NI H a s q bx p os ys H1):ys.length<sizeLine:=by have c:=I.len;have b:=I.n;exact fg (show ys.length<=1000 by omega) (by decide)
noncomputable def dO(B:List T)(n:Nat):List Nat:=(List.range n).filter λi=>((B[i]?).bind qh).isSome
theorem Cl(h:(ts[n]?).bind qh=some x):dO ts (n+1)=dO ts n++[n]:=by unfold dO;rw[List.range_succ,List.filter_append];congr 1;rw[List.filter_cons,h];rfl
theorem Bl(h:(ts[n]?).bind qh=none):dO ts (n+1)=dO ts n:=by
 unfold dO;rw[List.range_succ,List.filter_append];have:([n].filter λi=>((ts[i]?).bind qh).isSome)=[]:=by rw[List.filter_cons,h];rfl
 rw[this,ez]
theorem Bk{o:Nat}(h:o∈dO ts n):∃x,(ts[o]?).bind qh=some x:=fz.mp (fq.mp h).2
theorem Ck(h:yj ts≠[]):0<(dO ts ts.length).length:=by
 cases e:yj ts with|nil=>exact absurd e h| cons x r=>
   have b:x∈yj ts:=by rw[e];exact c8
   obtain⟨t,c,d⟩:=List.mem_filterMap.mp b;obtain⟨i,a⟩:=List.mem_iff_getElem?.mp c;have:i∈dO ts ts.length:=fq.mpr ⟨de.mpr (c7.mp a).1,by rw[a];show(qh t).isSome=true;rw[d];rfl⟩;exact List.length_pos_of_mem this
inductive kO(K:W.Frag)(vs:List V)(H:Hp)(Q:VK)(e0:XK):Prop|mk:∀(a s:Addr)(ns:List Int)(bx p:Int)(ss:List T)(vh:V),vs=[.ref a,vh,.int p]->aI K H a s ns->LH bx p ss->Is H (.tup [.int bx,.tup ss]) vh->(∀l ys ts H',aG a H H'->aI K H' a s ns->H' l=some (.lst ys)->IsL H' ts ys->(∀t∈ts,wY bx p t)->ts.length<=7->Q (.ref l) H')->kO K vs H Q e0
section
variable{K:W.Frag}
theorem Ka:aB ["deck","house","p","boxes","scripts","at","script","place","worse","says","out"] ["deck","house","p"] (zh Yf):=.of
theorem En(D:aR K mg "_law_e_no_ones" Yf)(T:Txt K mg)(o1:Ok P w K mg base "_law_e_pick" 2 ["deck","many"] (dB K)):Ok P w K mg base "_law_e_no_ones" 3 ["deck","house","p"] (kO K):=by
 refine wu D Ka λf hN A eS sh H vs Q E hr h=>?_;intro X;obtain⟨a,s,ns,bx,p,ss,vh,rfl,hT,L,ih,kk⟩:=h;have nd:=Ka.nd;refine⟨_,zd (jj (aA 1) (ju J (yn (zw (i:=3) nd) (yn (zw (i:=4) nd) ql)))) (zd (ya (i:=5) nd (zy o1 hr (za (aA 0) (za (zo zn J T.len yi (za (aA 4) zb)) zb)))) (zd (ya (i:=6) nd (zl Wi (aA 4) (aA 5))) (zd (ya (i:=7) nd (zy o1 hr (za (aA 0) (za (zx yv (zo zn J T.len yi (za (aA 6) zb)) zc) zb)))) (zd (ya (i:=8) nd (va (za (zx wq (zx wq (xi j9 (aA 6) wm (wc (aA 7))) (yc (za (yc (za zu (za zu zb))) zb))) (xi j9 (aA 6) (wc (aA 7)) wm)) (za (zx wq (zx wq (xi j9 (aA 6) wm (wc (aA 7))) (yc (za (yc (za zu (za zu zb))) zb))) (xi j9 (aA 6) (wc (aA 7)) wm)) zb))))
  (zd (we (Zk PySem.F.plainAttrs_list PySem.F.slot_list_append PySem.F.type_list_append vn (aA 8) (za (zx wq (aA 6) (yc (za (yc (za zu (za zu zb))) zb))) zb))) (zd (yd (zp We (aA 2) zc (zm _)) (zd (ni (i:=9) (own:=["k"]) (cap:=[6]) (g:=v9 0) J (yo (zh Yf) J J (by decide+kernel) (by decide+kernel) (by decide+kernel) ⟨⟨_,J,.inl J,wr J⟩,trivial⟩)
    (xk J T.range (za (zo zn J T.len yi (za (aA 6) zb)) zb))
    (λ_ _ _ _=>zw (i:=0) (by show(["k","script"]:O Str).Nodup;decide+kernel)) (λ_ _ _ _=>V0 (zp y4 (zl Wi (zl Wi (aA 1) (aA 0)) zc) zu (zm _)))
    (λ_ _ _ _=>aA 0) nd J J (by with_unfolding_all rfl))
   (zd (ya (i:=10) nd (zl yk (aA 9) (zy o1 hr (za (aA 0) (za (zo zn J T.len yi (za (aA 9) zb)) zb))))) (zd (we (Zk PySem.F.plainAttrs_list PySem.F.slot_list_append PySem.F.type_list_append vn (aA 8) (za (zx wq (xi j9 (aA 6) wm (wc (aA 10))) (xi j9 (aA 6) (wc (zx yv (aA 10) zc)) wm)) zb))) (zd (we (Zk PySem.F.plainAttrs_list PySem.F.slot_list_append PySem.F.type_list_append vn (aA 8) (za (zx wq (zx wq (xi j9 (aA 6) wm (wc (aA 10))) (yc (za (yc (za zu (za (zl yk (va (za zu (za zu zb))) (ym Vi J T.int nj (za (yy y4 (zl Wi (zl Wi (aA 6) (aA 10)) zc) zu (zm _)) zb))) zb))) zb))) (xi j9 (aA 6) (wc (zx yv (aA 10) zc)) wm)) zb))) (zf (yd (zp We (aA 3) zc (zm _)) (zd (we (Zk PySem.F.plainAttrs_list PySem.F.slot_list_append PySem.F.type_list_append vn (aA 8) (za (zx wq (zx wq (xi j9 (aA 6) wm (wc (aA 10))) (yc (za (yc (za zu (za zc (za zc (za zc zb))))) zb))) (xi j9 (aA 6) (wc (aA 10)) wm)) zb))) (zf (we (Zk PySem.F.plainAttrs_list PySem.F.slot_list_append PySem.F.type_list_append vn (aA 8) (za (zx wq (yc (za (yc (za zu (za (zx jw (aA 3) zc) (za zc (za (zx yv (aA 10) zc) zb))))) zb)) (aA 6)) zb))))) zt)))))) zt)
  (zf (zk (w6 (own:=["one"]) (cap:=[3,4,5]) J (yo (zh Yf) J J (by decide+kernel) (by decide+kernel) (by decide+kernel) ⟨⟨_,J,.inl J,wr J⟩,⟨_,J,.inl J,wr J⟩,⟨_,J,.inl J,wr J⟩,trivial⟩) (w9 (aA 8)) (λ_ _ _ _=>zw (i:=0) (by show(["one","boxes","scripts","at"]:O Str).Nodup;decide+kernel)) (λ_ _ _ _=>yx)
   (λ_ _ _ _=>yc (za (aA 1) (za (zx wq (zx wq (xi j9 (aA 2) wm (wc (aA 3))) (yc (za (aA 0) zb))) (xi j9 (aA 2) (wc (zx yv (aA 3) zc)) wm)) zb)))))))))))),?_⟩
 have ef:xn ss:=LH.fro L.each;have e2:=id ih;obtain⟨ah,xh,rfl,ft,v1,r1,rfl,i1,v2,r2,rfl,i2,ee⟩:=e2;cases(show r2=[]from ee);cases(show v1=.int bx from i1);obtain⟨as,sv,rfl,fr,e1⟩:=id i2;have fT:bI (.tup ss):=by unfold bI;exact ef
 have hH:=e1.length;have n1:=L.n1;have n4:=L.n4;refine⟨_,J,ah,_,J,aD.of ft,J,_,_,J,_,_,J,J,?_⟩;refine⟨_,J,_,J,as,sv,J,.inr (aD.of fr),a,s,ns,_,J,hT,by omega,by omega,λd H1 d0 d1 b1 t1=>?_⟩;obtain⟨k,rfl⟩:=Int.eq_ofNat_of_zero_le d0;have hk:k<ss.length:=by omega
 have TR:∀{C},aG a H C->Is C (.tup ss) (.ref as):=λb=>i2.tups (hT.tups b) fT;obtain⟨u,eg,S⟩:=L.sg (List.getElem_mem hk);have hn:=S.n;refine⟨_,J,_,J,ss,k,.tup u,TR b1,J,by rw[ao hk,eg],λg3 bv=>?_⟩;have gh:bI (.tup u):=xn.all.mp ef _ (by rw[<-eg];exact List.getElem_mem hk);obtain⟨sc,cv,rfl,fc,e3⟩:=id bv;have hL:=e3.length;have TS:∀{C},aG a H1 C->Is C (.tup u) (.ref sc):=λb=>bv.tups (t1.tups b) gh;refine⟨_,J,_,J,sc,cv,J,.inr (aD.of fc),_,_,J,J,a,s,ns,_,J,t1,by omega,by omega,λd2 H2 gn hM b2 t2=>?_⟩;obtain⟨k2,rfl⟩:=Int.eq_ofNat_of_zero_le gn;have bl:k2<=u.length:=by omega
 have bo:=TS b2;refine⟨_,J,_,J,_,J,u,bo,λu3 H3 s3 i3=>⟨by show 2<=1000;decide,λp4 H4 s4 n4 g4=>⟨by show 1<=1000;decide,λp5 H5 s5 n5 g5=>?_⟩⟩⟩;rw[Z7]at i3;refine⟨_,[(Dd.say "come").t],i3.mono (s4.trans s5),qg g5 ((Xo g4).mono s5),by rw[bg,bu];omega,λu6 H6 s6 i6=>?_⟩;refine⟨_,J,_,J,_,J,u,(bo).mono (s3.trans (s4.trans (s5.trans s6))),λu7 H7 s7 i7=>?_⟩;rw[Zn u k2 bl]at i7;refine⟨_,_,i6.mono s7,i7,by rw[ay,bu,bg,List.length_drop];omega,λvA H8 s8 iA=>?_⟩;have N:=s3.trans (s4.trans (s5.trans (s6.trans (s7.trans s8))));refine⟨_,J,_,J,_,J,u,bo.mono N,λu9 H9 s9 i9=>⟨by show 2<=1000;decide,λhc ik b8 hF gf=>⟨by show 1<=1000;decide,λha ij bf hE ga=>?_⟩⟩⟩;rw[Z7]at i9;refine⟨_,[(Dd.say "wait").t],i9.mono (b8.trans bf),qg ga ((Xo gf).mono bf),by rw[bg,bu];omega,λg7 ig dL fa=>?_⟩;refine⟨_,J,_,J,_,J,u,(bo.mono N).mono (s9.trans (b8.trans (bf.trans dL))),λg6 ie dK d9=>?_⟩;rw[Zn u k2 bl]at d9;refine⟨_,_,fa.mono dK,d9,by rw[ay,bu,bg,List.length_drop];omega,λvB ic eR iB=>?_⟩;have B:=s9.trans (b8.trans (bf.trans (dL.trans (dK.trans eR))));refine⟨by show 2<=1000;decide,λq er b7 hq cj=>?_⟩;have a8:=(N.trans B).trans b7;have a6:H q=none:=by
  cases e:H q with|none=>rfl| some o=>
    exfalso;by_cases z:q=a
    . obtain⟨p9,r9,e9,_⟩:=t2.at';rw[z,(N.trans B) _ _ e9]at hq;cases hq
    . rw[(N.trans B) _ _ (b2 _ _ z (b1 _ _ z e))]at hq;cases hq
 have G:q≠a:=λz=>by obtain⟨p9,r9,e9,_⟩:=t2.at';rw[z,(N.trans B) _ _ e9]at hq;cases hq
 have N0:NI H a s q bx p [(u.take k2++[(Dd.say "come").t])++u.drop k2,(u.take k2++[(Dd.say "wait").t])++u.drop k2] [vA,vB] er:=by
  refine⟨(b1.trans b2).trans a8.but,(t2.same a8).at',cj,IsL.two (iA.mono (B.trans b7)) (iB.mono b7),λo ho=>?_,by show 2<=7;decide⟩;simp only[ai,az,or_false]at ho;rcases ho with rfl|rfl
  . exact oU S bl (Wm (.inl J))
  . exact oU S bl AQ
 have B1:aG a H1 er:=b2.trans a8.but;refine⟨_,J,.inl ⟨J,_,aE.of cj⟩,_,J,by show 2<=1000;decide,λp1 ib bd hD f7=>⟨by show 1<=1000;decide,λp2 h9 av hC f6=>⟨u,[(Dd.say "go").t],(TS B1).mono (bd.trans av),qg f6 ((Xo f7).mono av),by rw[bg];omega,λvC eo b6 iC=>?_⟩⟩⟩;have N1:=(N0.same (bd.trans (av.trans b6))).add a6 G bF (Aa S (Wm (.inr J))) iC;refine⟨q,_,vC,J,J,(bd.trans (av.trans b6)) _ _ cj,by show 2<sizeLine;decide,?_⟩;have eb:H1 q=none:=by cases e:H1 q with|none=>rfl| some o=>rw[(b2.trans (N.trans B).but) _ _ G e]at hq;cases hq
 have bq:∀{C:Hp}{v:HO},aG a H1 C->aG a H1 (upd C q v):=λb c o n e=>by rw[zi (zj e eb)];exact b c o n e
 have a7:aG a H1 (upd eo q (.lst ([vA,vB]++[vC]))):=bq (B1.trans (bd.trans (av.trans b6)).but);generalize upd eo q (.lst ([vA,vB]++[vC]))=gy at N1 a7⊢;dsimp only[Ends.sq,W2];refine jz (t:=Qd _ _ _) (λdb C=>∃os ys x9 dc,db=[some (.ref a),some (.ref ah),some (.int p),some (.int bx),some (.ref as),some (.int (k:Int)),some (.ref sc),some (.int (k2:Int)),some (.ref q),x9,dc]/\NI H a s q bx p os ys C) ?_ (λcl=>?_)
 . rintro db C ⟨os,ys,x9,dc,rfl,I⟩;have fx:=hT.at2 I.b I.t;have ff:=I.n;have fh:=I.len;refine⟨_,J,q,J,⟨_,aE.of I.hq⟩,?_⟩;refine kz (xs:=ys) (λi zs a9=>Same C a9/\IsL a9 ((os.take i).map λo=>.tup [.int bx,.tup ((ss.take k++[.tup o])++ss.drop (k+1))]) zs) ⟨Same.refl _,J⟩ (λi zs a9 hi ⟨U,e⟩=>⟨aE.of (U _ _ I.hq),by rw[e.length,ae];exact yb (c6 (List.length_take_le _ _) (by omega))⟩) ?_ ?_
   . rintro i z zs a9 hz ⟨U,iz⟩;refine ko ?_;obtain⟨t,et,it⟩:=(I.is.mono U).get' hz;rw[ba]at et;obtain⟨o,ho,rfl⟩:=fm.mp et;have eh:=(TR I.b).mono U;refine⟨_,J,_,J,_,J,_,J,ss,eh,λu1 gu R d8=>?_⟩;rw[Z7]at d8;refine⟨_,J,by show 1<=1000;decide,λg9 el bb hB f5=>?_⟩;refine⟨_,[.tup o],d8.mono bb,qg f5 (it.mono (R.trans bb)),by rw[bu,bg];omega,λu3 gr ap bk=>?_⟩;refine⟨_,J,_,J,_,_,J,J,_,J,ss,eh.mono (R.trans (bb.trans ap)),λu4 gq am ax=>?_⟩;rw[show(k:Int)+1=((k+1:Nat):Int)from by omega,Zn ss (k+1) (by omega)]at ax;refine⟨_,_,bk.mono am,ax,by rw[ay,bu,bg,List.length_drop];omega,λu5 c4 b5 cb=>⟨by show 2<=1000;decide,λp6 gp dt hA f4=>?_⟩⟩;have sS:=R.trans (bb.trans (ap.trans (am.trans (b5.trans dt))));refine⟨U.trans sS,?_⟩;rw[dm,ho,be];exact(iz.mono sS).append (IsL.one ⟨p6,_,J,f4,_,_,J,J,_,_,J,cb.mono dt,J⟩)
   . rintro zs a9 ⟨U,iz⟩ l hl;have sl:=Same.new hl (.lst zs);rw[fh,dl]at iz;refine kk l zs _ _ (I.b.trans (U.trans sl).but) (fx.same (U.trans sl)) ze (iz.mono sl) (λt ht=>?_) (by rw[ae];exact ff);obtain⟨o,ho,rfl⟩:=bz.mp ht;exact zY L.gh hk (I.bad o ho)
 . refine⟨_,J,_,_,J,J,_,J,ye (λz=>?_) (λz=>cl _ _ ⟨_,_,_,_,J,N1⟩)⟩;have hp:0<p:=bw z;have a5:=TS a7;obtain⟨g8,co,gi,ea,dV⟩:=id a5;cases gi;have gT:=dV.length;refine⟨_,J,sc,co,J,.inr (aD.of ea),_,J,by omega,by omega,?_⟩;have bL:=hT.at2 N1.b N1.t;refine jq (lo:=0) (n:=((co.length:Nat):Int).toNat) (λj zs C=>Same gy C/\zs=(dO u j).map λ(i:Nat)=>V.int (i:Int)) ⟨Same.refl _,J⟩ (λj zs C hj ⟨_,e⟩=>by rw[e,ae];refine yb (c6 (gd _ _) ?_);rw[da];omega) ?_ ?_
   . rintro j zs C hj ⟨U,rfl⟩;have fl:j<u.length:=by omega
     have IS:=a5.mono U;obtain⟨t,ht⟩:∃t,u[j]?=some t:=⟨_,ao fl⟩
     obtain⟨cr,g⟩:=S.g.each t (br ht);obtain⟨d,rfl,_,ec⟩:=mY (g.ok bx cr (cg _) (cg _));refine⟨_,J,_,J,u,j,d.t,IS,by rw[Int.zero_add],ht,λv iv=>?_⟩;cases d with| say x=>refine⟨_,0,.str "say",iv,J,J,λv0 b9=>?_⟩;cases(show v0=.str "say" from b9);refine⟨J,_,J,ye (λ_=>?_) (λz=>absurd (by decide+kernel) z)⟩;refine⟨_,J,U,?_⟩;rw[Cl (x:=x) (by rw[ht];rfl),be,Int.zero_add];rfl| act w b n r=>refine⟨_,0,.str w,iv,J,J,λv0 b9=>?_⟩;cases(show v0=.str w from b9);refine⟨J,_,J,ye (λz=>absurd z (by rw[show decide (V.str w=V.str "say")=false from ec];decide)) (λ_=>⟨U,?_⟩)⟩;rw[Bl (by rw[ht];rfl)]
   rintro zs en ⟨du,rfl⟩ l9 cf;rw[show((co.length:Nat):Int).toNat=u.length from by omega];have gz:0<(dO u u.length).length:=Ck (λz=>by have:=congrArg List.length S.says;rw[z,Z8]at this;have:0=(2*p).toNat:=this;omega)
   have hK:(dO u u.length).length<=u.length:=by refine c6 (gd _ _) ?_;rw[da];omega
   have R:=Same.new cf (.lst ((dO u u.length).map λ(i:Nat)=>V.int (i:Int)));have ci:upd en l9 (.lst ((dO u u.length).map λ(i:Nat)=>V.int (i:Int))) l9=some (.lst ((dO u u.length).map λ(i:Nat)=>V.int (i:Int))):=ze;generalize upd en l9 (.lst ((dO u u.length).map λ(i:Nat)=>V.int (i:Int)))=gu at R ci⊢;have F:=du.trans R;have bA:=bL.same F;have eW:l9≠a:=λz=>by obtain⟨p9,r9,e9,_⟩:=(bL.same du).at';rw[z,e9]at cf;cases cf
   refine⟨_,J,_,J,_,J,l9,_,J,.inl (aE.of ci),a,s,ns,_,J,bA,by rw[ae];omega,by rw[ae];omega,λd3 el gk gj cw ey=>?_⟩;obtain⟨m,rfl⟩:=Int.eq_ofNat_of_zero_le gk;rw[ae]at gj;have hm:m<(dO u u.length).length:=by omega
   obtain⟨o,ho⟩:∃o,(dO u u.length)[m]?=some o:=⟨_,ao hm⟩
   obtain⟨x,hs⟩:=Bk (br ho);have hI:=(X5 hs).2;refine⟨l9,_,_,.int (o:Int),J,J,aE.of (cw _ _ eW ci),yq (by rw[ba,ho];rfl),?_⟩;have ei:=(N1.same F).but bA cw ey.at' G;have ew:aG a H1 el:=(a7.trans F.but).trans cw;have dT:(o:Int)+1=((o+1:Nat):Int):=by omega
   have a4:=TS ew;refine⟨_,J,.inl ⟨J,_,aE.of ei.hq⟩,_,J,_,J,_,J,u,a4,λu1 gr ap bk=>?_⟩;rw[Z7]at bk;refine⟨_,J,_,J,_,_,J,J,_,J,u,a4.mono ap,λu2 gq am ax=>?_⟩;rw[dT,Zn u (o+1) (by omega)]at ax;refine⟨_,_,bk.mono am,ax,by rw[bu,List.length_drop];omega,λv4 c4 b5 cb=>?_⟩;have au:=ap.trans (am.trans b5);have c3:=ei.same au;refine⟨q,_,v4,J,J,c3.hq,c3.lt,?_⟩;have c2:=c3.add a6 G bF (Ab S hs) cb;have c9:aG a H1 (upd c4 q (.lst (([vA,vB]++[vC])++[v4]))):=bq (ew.trans au.but);generalize upd c4 q (.lst (([vA,vB]++[vC])++[v4]))=gp at c2 c9⊢;have M:=TS c9;obtain⟨t,ht,hx⟩:=fo.mp hs;obtain⟨cr,g⟩:=S.g.each t (br ht);obtain⟨d,rfl,_,ec⟩:=mY (g.ok bx cr (cg _) (cg _));have ed:d=.say x:=by cases d with|say y=>cases(show some y=some x from hx);rfl|act w b n r=>cases(show none=some x from hx)
   subst ed;refine⟨_,J,.inl ⟨J,_,aE.of c2.hq⟩,_,J,_,J,_,J,u,M,λu1 h8 dr d7=>?_⟩;rw[Z7]at d7;refine⟨by show 2<=1000;decide,λl5 h7 b4 hw f3=>?_⟩;refine⟨_,J,_,J,u,o,_,M.mono (dr.trans b4),J,ht,λv iv=>⟨_,1,.str x,iv,J,J,λv1 eZ=>?_⟩⟩;cases(show v1=.str x from eZ);obtain⟨y,hy,hg,fn⟩:∃y:Str,x≠y/\(y="come"\/y="go")/\bS [V.str "come",V.str "go"] (if decide (V.str x=V.str "come")=true then 1 else 0)=some (.str y):=by
    by_cases hx:x="come"
    . subst hx;exact⟨"go",by decide+kernel,.inr J,by rw[if_pos (aw J)];rfl⟩
    . refine⟨"come",hx,.inl J,?_⟩;rw[if_neg (λz=>hx (V.str.inj (bw z)))];rfl
   refine⟨J,.inr ⟨_,J,l5,_,_,_,J,J,aE.of f3,fn,by show 2<=1000;decide,λp7 h6 dp hv f2=>⟨by show 1<=1000;decide,λp8 h5 b3 hu f1=>?_⟩⟩⟩;refine⟨_,[(Dd.say y).t],d7.mono (b4.trans (dp.trans b3)),qg f1 ((Xo f2).mono b3),by rw[bu,bg];omega,λu4 h4 eM e8=>?_⟩;have ag:=dr.trans (b4.trans (dp.trans (b3.trans eM)));refine⟨_,J,_,J,_,_,J,J,_,J,u,M.mono ag,λu5 h3 dn d6=>?_⟩;rw[dT,Zn u (o+1) (by omega)]at d6;refine⟨_,_,e8.mono dn,d6,by rw[ay,bu,bg,List.length_drop];omega,λv5 ek eL e7=>?_⟩;have af:=ag.trans (dn.trans eL);have c1:=c2.same af;refine⟨q,_,v5,J,J,c1.hq,c1.lt,?_⟩;have bt:=c1.add a6 G bF (BQ S hs (Wm hg) hy) e7;have c5:aG a H1 (upd ek q (.lst ((([vA,vB]++[vC])++[v4])++[v5]))):=bq (c9.trans af.but);generalize upd ek q (.lst ((([vA,vB]++[vC])++[v4])++[v5]))=hZ at bt c5⊢;have a3:=TS c5;refine⟨_,J,_,_,J,J,_,J,ye (λz=>?_) (λz=>cl _ _ ⟨_,_,_,_,J,bt⟩)⟩;have hb:0<bx:=bw z;refine⟨_,J,.inl ⟨J,_,aE.of bt.hq⟩,_,J,_,J,_,J,u,a3,λu1 hY eK d5=>?_⟩;rw[Z7]at d5;refine⟨by show 4<=1000;decide,λp1 hX dk hh f0=>⟨by show 1<=1000;decide,λp2 hW b0 hf fL=>?_⟩⟩;refine⟨_,[.tup [.str "skip",.int 0,.int 9,.int 1]],d5.mono (dk.trans b0),qg fL ⟨p1,_,J,b0 _ _ f0,_,_,J,J,_,_,J,J,_,_,J,J,_,_,J,J,J⟩,by rw[bu,bg];omega,λu3 hU eH e6=>?_⟩;have Z:=eK.trans (dk.trans (b0.trans eH));refine⟨_,J,_,J,_,J,u,a3.mono Z,λu4 hS dj d4=>?_⟩;rw[Zn u o (by omega)]at d4;refine⟨_,_,e6.mono dj,d4,by rw[ay,bu,bg,List.length_drop];omega,λv6 ej eD e5=>?_⟩;have W:=Z.trans (dj.trans eD);have c0:=bt.same W;refine⟨q,_,v6,J,J,c0.hq,c0.lt,?_⟩;have cL:=c0.add a6 G bF (BR S hb hs) e5;have ev:aG a H1 (upd ej q (.lst (((([vA,vB]++[vC])++[v4])++[v5])++[v6]))):=bq (c5.trans W.but);generalize upd ej q (.lst (((([vA,vB]++[vC])++[v4])++[v5])++[v6]))=hR at cL ev⊢;have cc:=TS ev;refine⟨_,J,.inl ⟨J,_,aE.of cL.hq⟩,_,J,_,_,J,J,_,J,_,_,J,J,by show 4<=1000;decide,λp1 hQ di he fH=>⟨by show 1<=1000;decide,λp2 hP bT hd fy=>?_⟩⟩;refine⟨_,J,[.tup [.str "skip",.int (bx-1),.int 3,.int ((o:Int)+1)]],u,qg fy ⟨p1,_,J,bT _ _ fH,_,_,J,J,_,_,J,J,_,_,J,J,_,_,J,J,J⟩,cc.mono (di.trans bT),by rw[bg];omega,λv7 hO eC e4=>?_⟩;have cE:=cL.same (di.trans (bT.trans eC));refine⟨q,_,v7,J,J,cE.hq,cE.lt,?_⟩;exact cl _ _ ⟨_,_,_,_,J,cE.add a6 G bF (CY S hb hs) e4⟩
end
noncomputable abbrev Xj:Stmt:=top 74
noncomputable def dH(L:List Sn):List (xv×V):=L.map λst=>(kS st,V.bl true)
theorem Du(L:O Sn):(dH L).map (·.1)=L.map kS:=by unfold dH;rw[eq];rfl
theorem tz(L:O Sn):(dH L).length=L.length:=by unfold dH;rw[ae]
theorem qB(L:O Sn)(st:Sn):(Zi (dH L) (kS st)).isSome=decide (st∈L):=by rw[Vx,Du,gl];exact Vd
theorem BE(h:st ∉ L):Wc (dH L) (kS st) (.bl true)=dH (L++[st]):=by
 have a:Zi (dH L) (kS st)=none:=by cases z:Zi (dH L) (kS st)with|none=>rfl| some v=>have:=qB L st;rw[z,bp h]at this;cases this
 rw[uX _ a];unfold dH;rw[be];rfl
theorem BN(a:L.Nodup)(h:L[i]?=some st):st ∉ L.take i:=λb=>by obtain⟨j,f,e⟩:=List.mem_take_iff_getElem.mp b;obtain⟨c,d⟩:=c7.mp h;exact fk.mp a j i (by omega) c (by omega) (e.trans d.symm)
inductive ll(K:W.Frag)(vs:List V)(H:Hp)(Q:VK)(e0:XK):Prop|mk:∀(a s:Addr)(ns:List Int) bx dss vh af l (L:List Sn) ys,vs=[.ref a,vh,.ref af]->aI K H a s ns->HD bx dss->Is H (hT bx dss) vh->H af=some (.tup [.str "holds",.ref l])->H l=some (.lst ys)->l≠a->IsL H (L.map tS) ys->L.length=3000->L.Nodup->(∀st,st∈L↔∃row,Xb bx dss row st)->(∀H',aG a H H'->aI K H' a s ns->Q (.bl true) H')->ll K vs H Q e0
section
variable{K:W.Frag}
theorem Vk:aB ["deck","house","found","known","stand","turn","hand","there"] ["deck","house","found"] (zh Xj):=.of
theorem FR(D:aR K mg "_law_e_all_right" Xj)(T:Txt K mg)(o1:Ok P w K mg base "_law_e_pick" 2 ["deck","many"] (dB K))(o2:Ok P w K mg base "_law_e_start" 1 ["house"] dY)(o3:Ok P w K mg base "_law_e_step" 1 ["house","stand","hand"] gx):Ok P w K mg base "_law_e_all_right" 3 ["deck","house","found"] (ll K):=by
 refine wu D Vk λf cf A bd sh H vs Q E hr h=>?_;intro X;obtain⟨a,s,ns,bx,u,vh,q,l,L,ys,rfl,hT,hd,ih,g,hl,bf,y,G,b0,r,kk⟩:=h;have nd:=Vk.nd;have bL:=hr.units;have am:=fg (gg (by decide:3<=64) _) bL;have r1:=hr.mono (show 1<=2 by decide);refine⟨_,zd (yd (PW.pt (w5 (xz (yz (jv T.isi T.tuple wj (aA 2)))) (w5 (zp ji (zo zn J T.len yi (za (aA 2) zb)) zc (zm _)) (w5 (zp ji (zl zq (aA 2) zc) zu (zm _)) (ww (xz (yz (jv T.isi T.list jg (zl zq (aA 2) zc))))))))) (zf (zk xg)) zt) (zd (ya (i:=3) nd B9) (zd (vo PassesOwn.never J (w9 (zl zq (aA 2) zc)) (zw (i:=4) nd) (zf (uv am (aA 3) (aA 4) xg J))) (zd (yd (PW.pt (w5 (zp ji (zo Y9 J T.len yi (za (aA 3) zb)) zc (zm _)) (w5 (zp ji (zo zn J T.len yi (za (zl zq (aA 2) zc) zb)) zc (zm _)) (ww (nA (Y6 am (zy o2 r1 (za (aA 1) zb)) (aA 3))))))) (zf (zk xg)) zt) (zd (vo PassesOwn.never J (xk J T.range (za zc zb)) (zw (i:=5) nd) (zd (ya (i:=4) nd (zl yk (zl zq (aA 2) zc) (zy o1 hr (za (aA 0) (za zc zb))))) (zf (vo PassesOwn.never J (xk J T.range (za (zo zn J T.len yi (za (zl zq (aA 1) zc) zb)) zb)) (zw (i:=6) nd) (zd (ya (i:=7) nd (zy o3 r1 (za (aA 1) (za (aA 4) (za (aA 6) zb))))) (zf (yd (PW.pt (Xk (zp V1 (aA 7) qd (zm _)) (Zv (nA (Y6 am (aA 7) (aA 3)))))) (zf (zk xg)) zt)))))))
  (zf (zk xg)))))),?_⟩
 have ag:=y.length;rw[ae,G]at ag;have bA:Is H (.tup [.str "holds",.lst (L.map tS)]) (.ref q):=⟨q,_,J,g,_,_,J,J,_,_,J,⟨l,ys,J,hl,y⟩,J⟩
 have il:Is H (.lst (L.map tS)) (.ref l):=⟨l,ys,J,hl,y⟩
 refine⟨_,J,_,"tuple",_,_,J,Is.ty bA,(show W.kitOne K (.type "tuple") (.type "tuple")=some true by kernel_rfl),_,J,yr ?_⟩;refine⟨_,J,q,_,J,.inr (aD.of g),J,_,J,ye (λz=>absurd z (by simp)) (λ_=>?_)⟩;refine⟨_,J,q,_,_,_,J,J,aD.of g,cR,J,_,J,ye (λz=>absurd z (by decide+kernel)) (λ_=>?_)⟩;refine⟨_,J,q,_,_,_,J,J,aD.of g,cX,_,"list",_,_,J,Is.ty il,Wg,_,J,yr ?_⟩;refine λd o0 C ap=>?_;have s0:=Same.new C o0;generalize upd H d o0=H0 at s0 ap⊢;obtain⟨xd,ed,_⟩:=id ap;have bk:d≠a:=λz=>by obtain⟨p1,r1,e1,_⟩:=hT.at';rw[z,e1]at C;cases C
 have a3:=y.mono s0;have U:∀{k:Hp},aG d H0 k->qj H0 k:=λb c xs e=>b c _ (Zl e ed (λz=>by cases z)) e;have au:∀{b o},H b=some o->b≠d:=λe=>zj e C;refine⟨_,J,q,_,_,_,J,J,aD.of (s0 _ _ g),cX,l,J,⟨_,aE.of (s0 _ _ hl)⟩,?_⟩;refine ki (xs:=ys) (λi p k=>∃S,p=[some (.ref a),some vh,some (.ref q),some (.ref d),S,none,none,none]/\aG d H0 k/\cJ P w k d (dH (L.take i))) ⟨none,J,aG.refl _ _,ap⟩ (λi p k _ ⟨_,_,b,_⟩=>aE.of (b _ _ (au hl) (s0 _ _ hl))) ?_ ?_
 . rintro i x p k hx ⟨S,rfl,b,hN⟩;obtain⟨st,es,B⟩:=Ve (a3.tups (U b) (Yn L)) hx;obtain⟨ax,rfl⟩:=Yw B;refine⟨_,J,_,J,d,ax,dH (L.take i),kS st,J,J,hN,B,oS (by rw[tz,bu,G];omega),λo' a8=>?_⟩;rw[BE (BN b0 es)]at a8;refine⟨_,J,λc o n e=>by rw[zi n];exact b c o n e,?_⟩;rw[dm,es];exact a8
 rintro p H1 ⟨S,rfl,b1,F⟩;rw[ag,<-G,dl]at F;have G1:∀{b o},H b=some o->H1 b=some o:=λe=>b1 _ _ (au e) (s0 _ _ e);refine⟨_,J,d,dH L,J,F,J,_,J,?_⟩;rw[tz,G];refine ye (λz=>absurd z (by simp)) (λ_=>?_);refine⟨_,J,q,_,_,_,J,J,aD.of (G1 g),cX,l,_,J,.inl (aE.of (G1 hl)),J,_,J,?_⟩;rw[ag];refine ye (λz=>absurd z (by simp)) (λ_=>?_);have a5:Is H1 (My.hT bx u) vh:=(ih.mono s0).tups (U b1) hd.fro;refine⟨_,J,bx,u,vh,J,hd,a5,λvf H2 s2 iF=>?_⟩;have iF:Is H2 (tS (cG bx u)) vf:=iF;obtain⟨b6,rfl⟩:=Yw iF;refine⟨_,J,d,b6,dH L,kS (cG bx u),J,J,F.same s2,iF,_,J,?_⟩;rw[qB,aw ((r _).mpr ⟨[],dI.nil⟩)];refine yr ?_;have G2:∀{b o},H b=some o->H2 b=some o:=λe=>s2 _ _ (G1 e);have bv:=a5.mono s2;have a7:=F.same s2;have bt:=((a3.tups (U b1) (Yn L)).mono s2)
 have bb:aG a H H2:=λb o _ e=>G2 e;have a6:aI K H2 a s ns:=hT.at2 bb (by obtain⟨p1,r1,e1,h1⟩:=hT.at';exact⟨p1,r1,G2 e1,h1⟩);refine⟨20,J,by decide,by decide,?_⟩;refine qu (lo:=0) (n:=(20:Int).toNat) (λi p k=>∃S x5 R N,p=[some (.ref a),some vh,some (.ref q),some (.ref d),S,x5,R,N]/\aG a H2 k/\aI K k a s ns) ⟨_,_,_,_,J,aG.refl _ _,a6⟩ ?_ ?_;rotate_left
 . rintro p k ⟨S,x5,R,N,rfl,b,t⟩;exact kk _ (bb.trans b) t
 rintro i p H3 hi ⟨S,x5,R,N,rfl,b3,t3⟩;have bl:q≠a:=λz=>by obtain⟨p1,r1,e1,_⟩:=hT.at';rw[z,e1]at g;cases g
 refine⟨_,J,q,_,_,_,J,J,aD.of (b3 _ _ bl (G2 g)),cX,_,J,a,s,ns,3000,J,t3,by decide,by decide,λm0 H4 bo cb b4 t4=>?_⟩;obtain⟨m,rfl⟩:=Int.eq_ofNat_of_zero_le bo;have hm:m<ys.length:=by omega
 obtain⟨x,hx⟩:∃x,ys[m]?=some x:=⟨_,ao hm⟩
 have M:=b3.trans b4;have Z:=a6.tups M;refine⟨l,ys,_,x,J,J,aE.of (M _ _ bf (G2 hl)),yq hx,?_⟩;have bq:=bt.tups Z (Yn L);obtain⟨st,es,B⟩:=Ve bq hx;have bT:=br es;obtain⟨b9,wy⟩:=(r st).mp bT;have b7:=(Xf hd wy).1;have a4:=bv.tups Z hd.fro;obtain⟨b8,a9,_⟩:=id a7;have b5:=a7.by Z ((M _ _ bk a9).trans a9.symm)
 obtain⟨ah,as,ss,e0,ha,b2,cc,hn⟩:=kh a4;subst e0;have n4:=hd.n4;refine⟨_,J,ah,_,_,_,J,J,aD.of ha,cX,as,ss,J,.inr (aD.of b2),_,J,by omega,by omega,?_⟩;refine qu (lo:=0) (n:=((ss.length:Nat):Int).toNat) (λj p k=>∃R N,p=[some (.ref a),some (.ref ah),some (.ref q),some (.ref d),some x,some (.int (0+(i:Int))),R,N]/\Same H4 k) ⟨_,_,J,Same.refl _⟩ ?_ ?_;rotate_left
 . rintro p k ⟨R,N,rfl,s'⟩;exact⟨_,_,_,_,J,M.trans s'.but,t4.same s'⟩
 rintro j p H5 hj ⟨R,N,rfl,s5⟩;refine⟨_,J,_,J,_,J,bx,u,st.1,st.2,.ref ah,x,_,J,⟨hd,b7.sd,a4.mono s5,B.mono s5⟩,λen H6 s6=>?_,λqs ms v H6 e s6 iv=>?_⟩
 . exact⟨_,J,J,_,J,yr (yr ⟨_,_,J,s5.trans s6⟩)⟩
 . have hv:=pA iv;refine⟨_,J,J,_,J,?_⟩;rw[bp hv];refine xu ?_;have iv:Is H6 (tS (qs,ms)) v:=iv;obtain⟨av,rfl⟩:=Yw iv;refine⟨_,J,_,J,d,av,dH L,kS (qs,ms),J,J,(b5.same s5).same s6,iv,_,J,?_⟩;rw[qB,aw ((r _).mpr ⟨_,dI.snoc (p:=(0+(j:Int),(qs,ms))) wy (Y7.mpr e)⟩)];exact yr ⟨_,_,J,s5.trans s6⟩
end
noncomputable abbrev Zu:Stmt:=top 75
theorem yZ{K:W.Frag}{s:Y}(h:aE K H s xs)(b:Bt tb H H')(t:gX tb H):aE K H' s xs:=by
 obtain⟨c,a⟩:=t;rcases h with(q|⟨o,q⟩)|q
 . exact .inl (.inl (b s _ (λz=>by rw[z,a]at q;cases q) q))
 . exact .inl (.inr ⟨o,b s _ (λz=>by rw[z,a]at q;cases q) q⟩)
 . exact .inr q
theorem Xx{K:W.Frag}{s:Y}(h:aI K H a s ns)(b:Bt tb H H')(t:gX tb H):aI K H' a s ns:=by obtain⟨⟨p,r,e,f,d⟩,q,n,l⟩:=h;exact⟨⟨p,r,b a _ (λz=>by obtain⟨g,c⟩:=t;rw[z,c]at e;cases e) e,f,d⟩,yZ q b t,n,l⟩
theorem A4(h:aM tb pos qual H)(b:aG a H H')(f:H a=some (.lst xs)):aM tb pos qual H':=by obtain⟨g,e,k,j⟩:=h;exact⟨g,b _ _ (λz=>by rw[z,f]at e;cases e) e,k,j.imp id λ⟨c,i,x,y,d⟩=>⟨c,i,x,b _ _ (λz=>by rw[z,f]at y;cases y) y,d⟩⟩
theorem j4{K:W.Frag}{s:Y}(h:aM tb jy vd H)(t:aI K H a s ns)(b:aG a H H'):aM tb jy vd H':=by obtain⟨p,r,e,_⟩:=t.at';exact A4 h b e
theorem DH{a:List Nat}(h:a.Perm b):a.sum=b.sum:=by induction h with|nil=>rfl|cons x _ c=>rw[List.sum_cons,List.sum_cons,c]|swap x y l=>rw[List.sum_cons,List.sum_cons,List.sum_cons,List.sum_cons];omega|trans _ _ e d=>rw[e,d]
theorem nh(h:(decide (kd<3) && decide (1<=L0.length) && decide (L0.length<=4) && L0.all (λm=>decide (4<=m\/(kd≠1/\2<=m)) && decide (m<=29)))=true):WL kd L0:=by simp only[bj,decide_eq_true_eq,dz]at h;obtain⟨⟨⟨f,d⟩,c⟩,b⟩:=h;exact⟨f,d,c,λm a=>by have:=b m a;omega,λe m a=>by have:=b m a;omega⟩
inductive lc(tb:Addr)(K:W.Frag)(vs:List V)(H:Hp)(Q:VK)(e0:XK):Prop|mk:∀(a s:Addr)(ns:List Int),vs=[.ref a]->aI K H a s ns->aM tb jy vd H->(∀H',Q (.bl true) H')->lc tb K vs H Q e0
section
variable{K:W.Frag}
theorem Xc:aB ["deck","kind","p","house","found"] ["deck"] (zh Zu):=.of
theorem Jq(D:aR K mg "_law_e_great_right" Zu)(T:Txt K mg)(o1:Ok P w K mg base "_law_e_pick" 2 ["deck","many"] (dB K))(o2:Ok P w K mg base "_law_e_word" 9 ["way","house","p"] (dU tb))(o3:Ok P w K mg base "_law_e_wide" 3 ["deck","lengths","kind"] (gv K))(o4:cT P w K mg base "tried_loose" 8 ["house","p"] (gw tb cH cW cM)) (o5:Ok P w K mg base "_law_e_all_right" 3 ["deck","house","found"] (ll K)) (o6:cT P w K mg base "is_early" 8 ["house","p","weaving"] (iR cH cW)) (o7:cT P w K mg base "is_stuck" 7 ["house","weaving"] (iI cH)):
  Ok P w K mg base "_law_e_great_right" 10 ["deck"] (lc tb K):=by
 refine wu D Xc λf bo A au sh H vs Q E Z h=>?_;intro X;obtain⟨a,s,S,rfl,hT,hB,kk⟩:=h;have nd:=Xc.nd;have r2:=Z.mono (show 2<=9 by decide);have r3:=Z.mono (show 3<=9 by decide);have r8:=Z.mono (show 8<=9 by decide);have r7:=Z.mono (show 7<=9 by decide);refine⟨_,zd (ya (i:=1) nd (zl yk (va (za zu (za zu (za zu zb)))) (zy o1 r2 (za (aA 0) (za zc zb))))) (zd (ya (i:=2) nd (ym Vi J T.int nj (za (yy y4 (aA 1) zu (zm _)) zb))) (zd (yd (zp y4 (zy o1 r2 (za (aA 0) (za zc zb))) zc (zm _)) (zf (zk (yy y4 (zy o2 Z (za zc (za (zy o3 r3 (za (aA 0) (za (zl yk (va (za (va (za zc (za zc (za zc (za zc zb))))) (za (va (za zc (za zc (za zc (za zc zb))))) zb))) (aA 2)) (za (aA 1) zb)))) (za (aA 2) zb)))) zu (zm _)))) zt)
  (zd (ya (i:=3) nd (zy o3 r3 (za (aA 0) (za (va (za zc (za zc (za zc zb)))) (za (aA 1) zb))))) (zd (ya (i:=4) nd (ja o4 ka r8 (za (aA 3) (za (aA 2) zb)))) (zd (yd (zp y4 (aA 1) zu (zm _)) (zf (zk (zy o5 r3 (za (aA 0) (za (aA 3) (za (aA 4) zb)))))) zt) (zd (yd (PW.pt (w5 (xz (yz (jv T.isi T.tuple wj (aA 4)))) (w5 (zp ji (zo zn J T.len yi (za (aA 4) zb)) zc (zm _)) (ww (zp ji (zl zq (aA 4) zc) (aA 1) (zm _)))))) (zf (zk xg)) zt) (zd (yd (zp y4 (aA 1) zu (zm _)) (zf (zk (jb (yy y4 (zo zn J T.len yi (za (zl zq (aA 4) zc) zb)) zc (zm _)) (qc (yy pB (ja o6 ka r8 (za (aA 3) (za (aA 2) (za (zl zq (aA 4) zc) zb)))) xg (zm _)))))) zt) (zf (zk (jb (yy y4 (zo zn J T.len yi (za (zl zq (aA 4) zc) zb)) zc (zm _)) (qc (yy pB (ja o7 ka r7 (za (aA 3) (za (zl zq (aA 4) zc) zb))) xg (zm _))))))))))))),?_⟩
 refine⟨by show 3<=1000;decide,λl1 H1 s1 n1 g1=>?_⟩;have ap:=hT.same s1;have a3:l1≠a:=λz=>by obtain⟨p1,r1,B,_⟩:=hT.at';rw[z,B]at n1;cases n1
 refine⟨_,J,a,s,S,3,J,ap,by decide,by decide,λd H2 d0 d1 b2 t2=>?_⟩;obtain⟨j,rfl⟩:=Int.eq_ofNat_of_zero_le d0;have o:j=0\/j=1\/j=2:=by omega
 have a9:bS [V.str "holds",.str "early",.str "stuck"] (j:Int)=some (.str (jR j)):=yq (by rcases o with rfl|rfl|rfl<;>rfl);refine⟨l1,_,_,.str (jR j),J,J,aE.of (b2 _ _ a3 g1),a9,?_⟩;have B2:=j4 (hB.same s1) ap b2;refine⟨_,J,J,.inr ⟨_,J,?_⟩⟩;have ep:(if decide (V.str (jR j)=V.str "early")=true then(1:Int)else 0)=if j=1 then 1 else 0:=by rcases o with rfl|rfl|rfl<;>decide+kernel
 rw[ep];refine⟨_,J,a,s,S,2,J,t2,by decide,by decide,λe0 H3 bl bk b3 C=>⟨J,_,J,ye (λz=>?_) (λz=>?_)⟩⟩
 . have B3:=j4 B2 t2 b3;have fresh:∀{q:Y} {H':Hp},Same H3 H'->H' q=none->q≠a:=λs' e z=>by obtain⟨p1,r1,B,_⟩:=C.at';rw[z,s' _ _ B]at e;cases e
   refine⟨_,J,by show 4<=1000;decide,λG H4 F U g4=>⟨by show 4<=1000;decide,λq2 H5 s5 n5 g5=>⟨by show 2<=1000;decide,λq3 H6 s6 n6 g6=>?_⟩⟩⟩;have t:=F.trans (s5.trans s6);obtain⟨N,q,h1,h2,hW,hq,nq,ah⟩:∃(N:List Nat)(q:Y),3000<eN N/\eN N<=4100/\WL j N/\H6 q=some (.lst ((aJ N).map V.int))/\q≠a/\bS [V.ref G,V.ref q2] (if j=1 then 1 else 0)=some (.ref q):=by
    rcases o with rfl|rfl|rfl
    . exact⟨[2,6,10,12],G,by decide,by decide,nh (by decide),s6 _ _ (s5 _ _ g4),fresh (Same.refl _) U,by rw[if_neg (by decide)];exact cR⟩
    . exact⟨[7,7,7,7],q2,by decide,by decide,nh (by decide),s6 _ _ g5,fresh F n5,by rw[if_pos J];exact cX⟩
    . exact⟨[2,6,10,12],G,by decide,by decide,nh (by decide),s6 _ _ (s5 _ _ g4),fresh (Same.refl _) U,by rw[if_neg (by decide)];exact cR⟩
   refine⟨_,J,q3,_,_,.ref q,J,J,aE.of g6,ah,_,J,a,s,q,S,j,N,J,C.same t,hq,nq,hW,λi cs v R u O b7 t7 M=>?_⟩;have g:=K5 O;have Wd:=hV O;have ep:=uU u;have B7:=j4 (B3.same t) (C.same t) b7;refine⟨_,J,0,_,v,_,J,M,g.wh,B7,λc=>(by rw[g.good]at c;cases c),λ_=>⟨_,_,g,M,λ_ c=>(by rw[Wy O]at c;cases c),λc=>absurd (.inl J) c,λ_=>⟨λ_=>⟨(mZ Wd).mono (by omega),λ_ H' _=>⟨J,kk H'⟩⟩,λf3=>?_⟩⟩⟩;have:=Ba Wd (f3 J);omega
 . have B3:=j4 B2 t2 b3;refine⟨_,J,by show 3<=1000;decide,λG H4 F U g4=>?_⟩;have av:G≠a:=λz=>by obtain⟨p1,r1,B,_⟩:=C.at';rw[z,B]at U;cases U
   have hW:WL j [9,14,19]:=by rcases o with rfl|rfl|rfl<;>exact nh (by decide)
   refine⟨_,J,a,s,G,S,j,[9,14,19],J,C.same F,g4,av,hW,λi cs v H5 u O b5 t5 M=>?_⟩;have g:=K5 O;have Wd:=hV O;have bf:eN i=3000:=uU u;have es:i.sum=42:=DH u;have em:i.length=3:=u.length_eq;have B5:=j4 (B3.same F) (C.same F) b5;have F3:Fw 3000 (i.length:Int) (wD j i cs):=(mZ Wd).mono (by omega);refine⟨_,J,_,J,_,v,_,J,M,g.wh,B5,λc=>(by rw[g.good]at c;cases c),λ_=>⟨_,_,g,M,λc=>(by rw[Wy O]at c;cases c),λ_=>⟨F3.mono (by decide),λn3=>absurd F3 n3,λ_ m H6 bt tk tr=>?_⟩⟩⟩;have t6:=Xx t5 bt (Z9 B5);have n:=M.tups (bt.tups (Z9 B5)) g.fro;rcases o with rfl|rfl|rfl
   . refine⟨_,J,J,_,J,ye (λ_=>?_) (λz=>absurd (by decide+kernel) z)⟩;obtain⟨l,L,ys,b,ag,p,a4,bd,a6,am⟩:=DK O tr;have ax:l≠a:=λz=>by obtain⟨p1,r1,B,_⟩:=t5.at';rw[z,B]at ag;cases ag
     exact⟨_,J,_,J,_,J,a,s,S,_,_,v,m,l,L,ys,J,t6,g,n,b,p,ax,a4,bd.trans bf,a6,am,λR _ _=>kk R⟩
   . refine⟨_,J,J,_,J,ye (λz=>absurd z (by decide+kernel)) (λ_=>?_)⟩;obtain⟨x,r,e9⟩:∃x,x<i.length/\i.getD x 0=9:=by have h9:9∈i:=u.mem_iff.mpr (by decide);obtain⟨x,r,e⟩:=fj.mp h9;exact⟨x,r,by rw[ar,ao r,e];rfl⟩
     obtain⟨i0,a7,a5⟩:∃i0,i0<i.length/\i0≠x:=by
      by_cases c:x=0
      . exact⟨1,by omega,by omega⟩
      . exact⟨0,by omega,by omega⟩
     have a8:∀k,k<i.length->9<=i.getD k 0:=λk hk=>by
      have hm:i.getD k 0∈i:=by rw[ar,ao hk];exact List.getElem_mem hk
      have hm:=u.mem_iff.mp hm;simp only[ai,az,or_false]at hm;omega
     obtain⟨l,ws,b,p,h9,hE⟩:=DJ O r a7 a5 e9 a8 tr;have y:Is H6 (.tup [.str "early",.lst (iT ws)]) (.ref m):=⟨m,_,J,b,_,_,J,J,_,_,J,⟨l,_,J,p,IsL.ints.mpr J⟩,J⟩
     refine⟨_,J,_,"tuple",_,_,J,Is.ty y,(show W.kitOne K (.type "tuple") (.type "tuple")=some true by kernel_rfl),_,J,yr ?_⟩;refine⟨_,J,m,_,J,.inr (aD.of b),J,_,J,ye (λz=>absurd z (by simp)) (λ_=>?_)⟩;refine⟨_,J,m,_,_,_,J,J,aD.of b,cR,_,J,J,_,J,ye (λz=>absurd z (by decide+kernel)) (λ_=>?_)⟩;refine⟨_,J,J,_,J,ye (λ_=>?_) (λz=>absurd (by decide+kernel) z)⟩;refine⟨_,J,m,_,_,_,J,J,aD.of b,cX,l,_,J,.inl (aE.of p),J,_,J,?_⟩;rw[ae,h9];refine ye (λ_=>?_) (λz=>absurd (by decide+kernel) z);refine⟨_,J,_,J,_,J,m,_,_,_,J,J,aD.of b,cX,_,v,_,l,ws,J,n,g.wh,p,λc=>(by rw[g.good]at c;cases c),λ_=>⟨_,_,g,n,λc=>(by rw[Wy O]at c;cases c),λ_ R s7=>⟨_,_,J,J,?_⟩⟩⟩;rw[hE];exact kk R
   . refine⟨_,J,J,_,J,ye (λz=>absurd z (by decide+kernel)) (λ_=>?_)⟩;obtain⟨l,ws,b,p,bb,hE⟩:=Ef O tr;have y:Is H6 (.tup [.str "stuck",.lst (iT ws)]) (.ref m):=⟨m,_,J,b,_,_,J,J,_,_,J,⟨l,_,J,p,IsL.ints.mpr J⟩,J⟩
     refine⟨_,J,_,"tuple",_,_,J,Is.ty y,(show W.kitOne K (.type "tuple") (.type "tuple")=some true by kernel_rfl),_,J,yr ?_⟩;refine⟨_,J,m,_,J,.inr (aD.of b),J,_,J,ye (λz=>absurd z (by simp)) (λ_=>?_)⟩;refine⟨_,J,m,_,_,_,J,J,aD.of b,cR,_,J,J,_,J,ye (λz=>absurd z (by decide+kernel)) (λ_=>?_)⟩;refine⟨_,J,J,_,J,ye (λz=>absurd z (by decide+kernel)) (λ_=>?_)⟩;refine⟨_,J,m,_,_,_,J,J,aD.of b,cX,l,_,J,.inl (aE.of p),J,_,J,?_⟩;rw[ae,bb,es];refine ye (λ_=>?_) (λz=>absurd (by decide+kernel) z);refine⟨_,J,_,J,m,_,_,_,J,J,aD.of b,cX,_,v,l,ws,J,n,g.wh,p,λc=>(by rw[g.good]at c;cases c),λ_=>⟨_,_,g,n,λR s7=>⟨_,_,J,J,?_⟩⟩⟩;rw[hE];exact kk R
end
noncomputable abbrev pG:Stmt:=top 77
def zE(K:W.Frag)(t:TA):TE:=λσ H Q=>t σ H λxs H1=>xs.length<=sizeLine/\∀p,H1 p=none->K.lookup p=none->Q (.ref p) (upd H1 p (.lst xs))
theorem B0{t:TA}(h:PA X es t):PE X (.List es pos) (zE X.K t):=by
 intro c s g H Q I k;refine wpAny_List_spliced (aF (h pos c s g H _ I k) λj a ⟨i,f,d,r,z,q⟩=>⟨by rw[<-r.length];exact z,?_⟩);have m:f a.heap.objs.size=none:=d.hok.fresh (aj _);have l:X.K.lookup a.heap.objs.size=none:=by cases e:X.K.lookup a.heap.objs.size with|none=>rfl|some o=>exact absurd (aq (d.kIn _ _ e)) (cx _)
 exact⟨.ref a.heap.objs.size,upd f a.heap.objs.size (.lst i),d.laid (t':=a.toks) (λb u e=>ak _ e) (aj _) ⟨z,j,0,r,bi _ J⟩,J,q _ m l⟩
theorem AE{p:Pos}(h:Ok X.prog X.w X.K X.mg X.base x k ps sp)(b:aO k X.A)(e:Gl X x:=by rfl)(a:(x==("__debug__":Str))=false:=by decide):PE X (.Call (.Name x p) [] [] pos) (ma sp [] E0 iG):=by obtain⟨f,i,F,g,d,c⟩:=h;exact DN F b e c d g .nil rK a
inductive eG(tb:Addr)(vs:List V)(H:Hp)(Q:VK)(e0:XK):Prop|mk:vs=[]->aM tb jy vd H->(∀H',bP tb H H'->Q (.bl true) H')->eG tb vs H Q e0
inductive dX(tb:Addr)(K:W.Frag)(vs:List V)(H:Hp)(Q:VK)(e0:XK):Prop|mk:∀(a:Addr)(ns:List Int),vs=[.ref a]->aE K H a (ns.map V.int)->ns.length<=63->aM tb jy vd H->(∀H',Q (.bl true) H')->dX tb K vs H Q e0
theorem zT(e:way=0\/way=1\/way=2)(b:Is H (hT bx dss) vh)(a:HD bx dss)(B:aM tb jy vd H)(d:xr p dss=true)(F:Fw 3000 bx dss)(k:∀H',bP tb H H'->Q (.str "") H'):dU tb [.int way,vh,.int p] H Q e0:=⟨way,p,vh,_,J,b,a.wh,B,λc=>(by rw[a.good]at c;cases c),λ_=>⟨bx,dss,a,b,λ_ c=>(by rw[d]at c;cases c),λc=>absurd e c,λ_=>⟨λ_=>⟨F.mono (by decide),λn=>absurd F n⟩,λ_ H' kb=>k H' kb⟩⟩⟩
theorem md(e:way=0\/way=1\/way=2)(b:Is H (hT bx dss) vh)(a:HD bx dss)(B:aM tb jy vd H)(d:xr p dss=false)(k:∀H',bP tb H H'->Q (.str "stopper") H'):dU tb [.int way,vh,.int p] H Q e0:=⟨way,p,vh,_,J,b,a.wh,B,λc=>(by rw[a.good]at c;cases c),λ_=>⟨bx,dss,a,b,λ_ _ H' kb=>k H' kb,λc=>absurd e c,λc=>(by rw[d]at c;cases c)⟩⟩
theorem rS{t:T}(a:Is H t vh)(b:Wh t)(B:aM tb jy vd H)(l:xt t=false)(k:∀H',bP tb H H'->Q (.str "house") H'):dU tb [.int way,vh,.int p] H Q e0:=⟨way,p,vh,t,J,a,b,B,λ_ H' kb=>k H' kb,λc=>(by rw[l]at c;cases c)⟩
theorem EN(c:HD bx dss)(a:WD p dss):xr (p+1) dss=false:=by have e:=c.n1;have d:=a.p0;have b:dss[0]∈dss:=List.getElem_mem (by omega);refine K6 b (V2 λz=>?_);rw[a.says _ b]at z;have:=congrArg List.length z;rw[Z8,Z8]at this;omega
theorem AR:HD 0 [[]]:=oG (by decide) (by decide) (by decide) (by decide) λa h=>by rw[bc.mp h];exact⟨bX.nil,by decide⟩
theorem zW(L:GH bx ss):∀s∈ss,Ws s:=λs a=>by obtain⟨h,rfl,g,_⟩:=L.each s a;intro f e d c;cases e;obtain⟨i,b⟩:=List.mem_iff_getElem?.mp c;exact(g i d b).wd
theorem Vf{b:T}(a:bI b)(h:xn ss):bI (.tup [b,.tup ss]):=by unfold bI xn;exact⟨a,by unfold xn;exact⟨by unfold bI;exact h,by unfold xn;trivial⟩⟩
noncomputable def Qn:T:=.tup [.tup [.str "say",.str ""]]
theorem xS:Ws Qn:=λc e d b=>by
 cases e;rw[bc.mp b];refine me λu a=>?_;simp only[ai,az,or_false]at a;rcases a with rfl|rfl
 . exact qw (by decide)
 . exact qw (by decide)
theorem yF:xt (.tup [.int 7,.tup ss])=false:=by show(yh (.int 7) 0 6 && (wx (.tup ss) 1 4 && ss.all λs=>fA s 7))=false;rw[show yh (.int 7) 0 6=false from by decide,cp]
theorem yG:xt (.tup [.int bx,.tup []])=false:=by show(yh (.int bx) 0 6 && (wx (.tup []) 1 4 && ([]:O T).all λs=>fA s bx))=false;rw[show wx (.tup []) 1 4=false from by decide,cp,Bool.and_false]
theorem yI:xt (.tup [.int bx,.tup (ss++[Qn])])=false:=by
 show(yh (.int bx) 0 6 && (wx (.tup (ss++[Qn])) 1 4 && (ss++[Qn]).all λs=>fA s bx))=false;have h:fA Qn bx=false:=by kernel_rfl
 have:((ss++[Qn]).all λs=>fA s bx)=false:=by rw[List.all_append];show(_ && (fA Qn bx && true))=false;rw[h,cp,Bool.and_false]
 rw[this,Bool.and_false,Bool.and_false]
structure Nh(H:Hp)(t:T)(x:V):Prop where
 i:Is H t x
 w:Wh t
 l:xt t=false
 f:bI t
section
variable{K:W.Frag}
theorem uw:aB ["script","deck","k","house","p","way","far","many","bad"] ["script"] (zh pG):=.of
theorem Cv{f0:Y}(F:gY K "law" "law" pG f0 wO)(T:Txt K mg)(o1:Ok P w K mg base "_law_e_pick" 2 ["deck","many"] (dB K))(oW:Ok P w K mg base "_law_e_word" 9 ["way","house","p"] (dU tb))(o3:Ok P w K mg base "_law_e_loose_one" 6 ["deck"] (kQ K))(o5:Ok P w K mg base "_law_e_no_ones" 3 ["deck","house","p"] (kO K)) (o6:Ok P w K mg base "_law_e_long_right" 10 [] (eG tb)) (o7:Ok P w K mg base "_law_e_great_right" 10 ["deck"] (lc tb K)):cD P w K mg base hJ 11 f0 wO ["script"] (dX tb K):=by
 refine F.ok uw (λvs H Q E h=>by cases h;subst_vars;rfl) λd2 A ci sh H vs Q E hr h=>?_;obtain⟨s,ns,rfl,hS,c3,hB,kk⟩:=h;have S:=uw.nd;have r2:=hr.mono (show 2<=10 by decide);have r3:=hr.mono (show 3<=10 by decide);have r6:=hr.mono (show 6<=10 by decide);have r9:=hr.mono (show 9<=10 by decide);have bl:=hr;refine⟨_,(zd (ya (i:=1) S (B0 (za (aA 0) (za zc (za zc zb)))))
  (zd (vo PassesOwn.never J (xk J T.range (za zc zb)) (zw (i:=2) S) (zd (jj (zy o3 r6 (za (aA 1) zb)) (ju J (yn (zw (i:=3) S) (yn (zw (i:=4) S) ql)))) (zd (vo PassesOwn.never J (xk J T.range (za zc zb)) (zw (i:=5) S) (zf (yd (PW.pt (w5 (zp ji (zy oW r9 (za (aA 5) (za (aA 3) (za (aA 4) zb)))) zu (zm _)) (ww (zp ji (zy oW r9 (za (aA 5) (za (aA 3) (za (zx yv (aA 4) zc) zb)))) zu (zm _))))) (zf (zk xg)) zt)))
  (zd (ya (i:=6) S (zy o1 r2 (za (aA 1) (za (zx pD zc zc) zb)))) (zd (vo PassesOwn.never J (xk J T.range (za zc zb)) (zw (i:=5) S) (zf (vo PassesOwn.never J (w9 (va (za (Kg Wz zc) (za zc (za (zx jw (Kg Wz zc) (aA 6)) (za (zx yv zc (aA 6)) zb)))))) (zw (i:=7) S) (zf (yd (PW.pt (w5 (zp ji (zy oW r9 (za (aA 5) (za (aA 3) (za (aA 7) zb)))) zu (zm _)) (ww (zp ji (zy oW r9 (za (aA 5) (za (yc (za zc (za (yc (za (yc zb) zb)) zb))) (za (aA 7) zb)))) zu (zm _))))) (zf (zk xg)) zt)))))
  (zd (vo PassesOwn.never J (w9 (zy o5 r3 (za (aA 1) (za (aA 3) (za (aA 4) zb))))) (zw (i:=8) S) (zf (vo PassesOwn.never J (xk J T.range (za zc zb)) (zw (i:=5) S) (zf (yd (zp ji (zy oW r9 (za (aA 5) (za (aA 8) (za (aA 4) zb)))) zu (zm _)) (zf (zk xg)) zt)))))
  (zf (vo PassesOwn.never J (w9 (va (za (yc (za zc (za (zl Wi (aA 3) zc) zb))) (za (yc (za (zl Wi (aA 3) zc) (za (yc zb) zb))) (za (yc (za (zl Wi (aA 3) zc) (za (zx wq (xi j9 (zl Wi (aA 3) zc) wm (wc zc)) (yc (za (yc (za (yc (za zu (za zu zb))) zb)) zb))) zb))) (za qd zb)))))) (zw (i:=8) S) (zf (vo PassesOwn.never J (xk J T.range (za zc zb)) (zw (i:=5) S) (zf (yd (PW.pt (w5 (zp ji (zy oW r9 (za (aA 5) (za (aA 8) (za (aA 4) zb)))) zu (zm _)) (ww (zp ji (zy oW r9 (za (aA 5) (za (aA 8) (za (zx yv (aA 4) zc) zb)))) zu (zm _))))) (zf (zk xg)) zt))))))))))))
  (zd (yd (xz (yz (AE o6 bl))) (zf (zk xg)) zt) (zf (zk (rL (yy We (zy o1 r2 (za (aA 1) (za zc zb))) zc (zm _)) (qc (zy o7 bl (za (aA 1) zb))))))))),?_⟩
 refine⟨_,J,bF,λa ha a7=>?_⟩;have sa:=Same.new ha (.lst [.ref s,.int 0,.int 0]);have T0:aI K (upd H a (.lst [.ref s,.int 0,.int 0])) a s ns:=by
  have e:s≠a:=λz=>by
   rcases hS with(q|⟨o,q⟩)|⟨o,d0,n,q,_⟩
   . rw[z,ha]at q;cases q
   . rw[z,ha]at q;cases q
   . have a7:K.lookup a=none:=a7;rw[z,a7]at q;cases q
  exact⟨⟨0,0,ze,cg 0,cg 0⟩,sa.seq hS,e,c3⟩
 have bT:=hB.same sa;generalize upd H a (.lst [.ref s,.int 0,.int 0])=H0 at T0 sa bT⊢;refine⟨2,J,by decide,by decide,?_⟩;refine qu (lo:=0) (n:=(2:Int).toNat) (λi b c=>aI K c a s ns/\aM tb jy vd c/\∃x2 x3 x4 f x6 D g,b=[some (.ref s),some (.ref a),x2,x3,x4,f,x6,D,g]) ⟨T0,bT,none,none,none,none,none,none,none,J⟩ ?_ ?_;rotate_left
 . rintro b H1 ⟨T1,B1,x2,x3,x4,f,x6,D,g,rfl⟩;refine⟨J,B1,λH2 k2=>⟨_,J,yr ?_⟩⟩;have T2:=Xx T1 k2.b (Z9 B1);refine⟨_,J,a,s,ns,4,J,T2,by decide,by decide,λd H3 _ _ b3 t3=>⟨_,_,J,J,_,J,ye (λz=>?_) (λz=>?_)⟩⟩
   . exact kk _
   . exact⟨_,J,a,s,ns,J,t3,j4 k2.t T2 b3,λc=>kk c⟩
 rintro it b H1 d1 ⟨T1,B1,x2,x3,x4,f,x6,D,g,rfl⟩;refine⟨_,J,a,s,ns,J,T1,λbx ss p v H2 L b2 T2 hv=>?_⟩;have B2:=j4 B1 T1 b2;obtain⟨ap,xp,rfl,c2,vh,dt,rfl,ih,vp,cf,rfl,ip,bL⟩:=hv;cases(show cf=[]from bL);cases(show vp=.int p from ip);obtain⟨C,rfl,B,hw⟩:=yR L;have F3:Fw 3000 bx C:=(xW B (yQ L)).mono (by decide);have wl:=hw.wall B;have wn:=EN B hw;have ih:Is H2 (hT bx C) vh:=ih;refine⟨ap,_,J,aD.of c2,J,_,_,J,_,_,J,J,?_⟩;have r:∀{i:Nat},i<(3:Int).toNat->(0+(i:Int)=0\/0+(i:Int)=1\/0+(i:Int)=2):=λh=>by have:(3:Int).toNat=3:=rfl;omega
 refine⟨3,J,by decide,by decide,?_⟩;refine qu (lo:=0) (n:=(3:Int).toNat) (λi b c=>∃f x6 D g,b=[some (.ref s),some (.ref a),some (.int (0+(it:Int))),some vh,some (.int p),f,x6,D,g]/\bP tb H2 c) ⟨_,_,_,_,J,.of B2 (Same.refl _)⟩ ?_ ?_
 . rintro i b H3 hi ⟨f,x6,D,g,rfl,k3⟩;have a6:=ih.tups (k3.tups B2) B.fro;refine⟨_,J,_,J,_,J,zT (r hi) a6 B k3.t wl F3 λH4 k4=>⟨J,_,J,ye (λz=>absurd z (by decide+kernel)) (λ_=>?_)⟩⟩;have bo:=k3.trans k4;refine⟨_,J,_,J,_,J,_,_,J,J,md (r hi) (ih.tups (bo.tups B2) B.fro) B k4.t wn λH5 k5=>⟨J,_,J,ye (λz=>absurd z (by decide+kernel)) (λ_=>?_)⟩⟩;exact⟨_,_,_,_,J,bo.trans k5⟩
 rintro b H3 ⟨f,x6,D,g,rfl,k3⟩;have a6:=ih.tups (k3.tups B2) B.fro;have T3:=Xx T2 k3.b (Z9 B2);refine⟨_,J,_,_,J,J,⟨by decide,by decide,by decide⟩,a,s,ns,_,J,T3,by decide,by decide,λfr H4 f0 f1 b4 T4=>?_⟩;have B4:=j4 k3.t T3 b4;have bA:=a6.tups (T3.tups b4) B.fro;refine⟨3,J,by decide,by decide,?_⟩;refine qu (lo:=0) (n:=(3:Int).toNat) (λi b c=>∃f D g,b=[some (.ref s),some (.ref a),some (.int (0+(it:Int))),some vh,some (.int p),f,some (.int fr),D,g]/\bP tb H4 c) ⟨_,_,_,J,.of B4 (Same.refl _)⟩ ?_ ?_
 . rintro i b H5 hi ⟨f,D,g,rfl,k5⟩;refine⟨1,J,1,J,_,J,_,_,J,J,_,J,_,_,J,J,by show 4<=1000;decide,λq H6 s6 nq gq=>?_⟩;have k6:=k5.same s6;have a5:∀{c:Hp},bP tb H6 c->c q=some (.lst [.int (-1),.int 16,.int (-1-fr),.int (16+fr)]):=λk=>k.b _ _ (λz=>by obtain⟨ps,e⟩:=Z9 k6.t;rw[z,e]at gq;cases gq) gq
   refine⟨q,J,⟨_,aE.of gq⟩,?_⟩;refine ki (xs:=[.int (-1),.int 16,.int (-1-fr),.int (16+fr)]) (λj b c=>∃D g,b=[some (.ref s),some (.ref a),some (.int (0+(it:Int))),some vh,some (.int p),some (.int (0+(i:Int))),some (.int fr),D,g]/\bP tb H6 c) ⟨_,_,J,.of k6.t (Same.refl _)⟩ (λj b c _ ⟨_,_,_,k⟩=>aE.of (a5 k)) ?_ ?_
   . rintro j x b H7 hx ⟨D,g,rfl,M⟩;obtain⟨m,rfl,hm⟩:∃m:Int,x=.int m/\(m<0\/15<m):=by
      have hx:=br hx;simp only[ai,az,or_false]at hx;rcases hx with rfl|rfl|rfl|rfl
      . exact⟨_,J,by omega⟩
      . exact⟨_,J,by omega⟩
      . exact⟨_,J,by omega⟩
      . exact⟨_,J,by omega⟩
     have co:=k6.trans M;have R:=bA.tups (co.tups B4) B.fro;refine⟨_,J,_,J,_,J,md (r hi) R B M.t (sQ hm) λH8 k8=>⟨J,_,J,ye (λz=>absurd z (by decide+kernel)) (λ_=>?_)⟩⟩;refine⟨_,J,by show 0<=1000;decide,λp1 H9 s9 n9 g9=>⟨by show 1<=1000;decide,λp2 cb G cl a8=>⟨by show 2<=1000;decide,λp3 b9 W dV dc=>?_⟩⟩⟩;have bt:=k8.same (s9.trans (G.trans W));have am:Is b9 (hT 0 [[]]) (.ref p3):=⟨p3,_,J,dc,_,_,J,J,_,_,J,⟨p2,_,J,W _ _ a8,_,_,J,⟨p1,_,J,W _ _ (G _ _ g9),J⟩,J⟩,J⟩
     refine⟨_,J,md (r hi) am AR bt.t (sQ hm) λb8 cv=>⟨J,_,J,ye (λz=>absurd z (by decide+kernel)) (λ_=>?_)⟩⟩;exact⟨_,_,J,M.trans (bt.trans cv)⟩
   . rintro b H7 ⟨D,g,rfl,M⟩;exact⟨_,_,_,J,k6.trans M⟩
 rintro b H5 ⟨dr,af,dp,rfl,k5⟩;have bv:=bA.tups (k5.tups B4) B.fro;have T5:=Xx T4 k5.b (Z9 B4);refine⟨_,J,_,J,_,J,a,s,ns,bx,p,_,vh,J,T5,L,bv,λl ys ts H6 b6 T6 hl cw a3 hn=>?_⟩;have B6:=j4 k5.t T5 b6;have di:xn ts:=xn.all.mpr λt ht=>by obtain⟨b5,rfl,au,_⟩:=a3 t ht;exact au.fro
 have cj:∀{c:Hp},bP tb H6 c->c l=some (.lst ys):=λk=>k.b _ _ (λz=>by obtain⟨ps,e⟩:=Z9 B6;rw[z,e]at hl;cases hl) hl
 have cL:=bv.tups (T5.tups b6) B.fro;refine⟨l,J,⟨_,aE.of hl⟩,?_⟩;refine ki (xs:=ys) (λj b c=>∃f g,b=[some (.ref s),some (.ref a),some (.int (0+(it:Int))),some vh,some (.int p),f,some (.int fr),af,g]/\bP tb H6 c) ⟨_,_,J,.of B6 (Same.refl _)⟩ (λj b c _ ⟨_,_,_,k⟩=>aE.of (cj k)) ?_ ?_
 . rintro j x b H7 hx ⟨f,g,rfl,M⟩;obtain⟨t,et,cE⟩:=(cw.tups (M.tups B6) di).get' hx;obtain⟨b5,rfl,au,wf⟩:=a3 t (br et);refine⟨3,J,by decide,by decide,?_⟩;refine qu (lo:=0) (n:=(3:Int).toNat) (λi b c=>∃f,b=[some (.ref s),some (.ref a),some (.int (0+(it:Int))),some vh,some (.int p),f,some (.int fr),af,some x]/\bP tb H7 c) ⟨_,J,.of M.t (Same.refl _)⟩ ?_ ?_
   . rintro i b H8 hi ⟨f,rfl,k8⟩;exact⟨_,J,_,J,_,J,md (r hi) (cE.tups (k8.tups M.t) au.fro) au k8.t wf λH9 k9=>⟨J,_,J,ye (λz=>absurd z (by decide+kernel)) (λ_=>⟨_,J,k8.trans k9⟩)⟩⟩
   . rintro b H8 ⟨f,rfl,k8⟩;exact⟨_,_,J,M.trans k8⟩
 rintro b H7 ⟨f,g,rfl,M⟩;have R:Is H7 (.tup [.int bx,.tup (C.map bJ)]) vh:=cL.tups (M.tups B6) B.fro;have b0:xn (C.map bJ):=LH.fro L.each;have bb:=zW L.gh;refine⟨_,J,_,1,_,R,J,J,λv1 i1=>⟨by show 2<=1000;decide,λp1 H8 s8 n8 g8=>?_⟩⟩;have N1:Nh H8 (.tup [.int 7,.tup (C.map bJ)]) (.ref p1):=⟨⟨p1,_,J,g8,_,_,J,J,_,_,J,i1.mono s8,J⟩,V5 Xu (Xt bb),yF,Vf (by unfold bI;trivial) b0⟩
 refine⟨_,J,_,0,_,R.mono s8,J,J,λv0 i0=>?_⟩;cases(show v0=.int bx from i0);refine⟨by show 0<=1000;decide,λp2 H9 s9 n9 g9=>⟨by show 2<=1000;decide,λp3 cb G cl a8=>?_⟩⟩;have N2:Nh cb (.tup [.int bx,.tup []]) (.ref p3):=⟨⟨p3,_,J,a8,_,_,J,J,_,_,J,⟨p2,_,J,G _ _ g9,J⟩,J⟩,V5 Xu (Xt λs hs=>by cases hs),yG,Vf (by unfold bI;trivial) (by unfold xn;trivial)⟩
 have U:=s8.trans (s9.trans G);refine⟨_,J,_,0,_,R.mono U,J,J,λv0 i0=>?_⟩;cases(show v0=.int bx from i0);refine⟨_,J,_,1,_,R.mono U,J,J,λv2 i2=>⟨_,J,_,i2,λu3 b9 W am=>?_⟩⟩;rw[show(3:Int)=((3:Nat):Int)from rfl,Z7]at am;refine⟨by show 2<=1000;decide,λp4 b8 bk dT db=>⟨by show 1<=1000;decide,λp5 d6 a4 dL c9=>⟨by show 1<=1000;decide,λp6 dn ag dK c5=>?_⟩⟩⟩;have c1:Is dn (.tup [Qn]) (.ref p6):=qg c5 (qg (ag _ _ c9) ((show Is b8 (.tup [.str "say",.str ""]) (.ref p4)from Xo db).mono (a4.trans ag)));refine⟨_,_,am.mono (bk.trans (a4.trans ag)),c1,?_,λu7 d5 cc c0=>⟨by show 2<=1000;decide,λp8 dk bf du c4=>?_⟩⟩
 . have:=B.n4;rw[bu,ae,bg];omega
 have f3:xn ((C.map bJ).take 3++[Qn]):=xn.all.mpr λt ht=>by
  rcases ck.mp ht with h|h
  . exact xn.all.mp b0 t (List.mem_of_mem_take h)
  . rw[bc.mp h];unfold Qn;exact⟨⟨trivial,trivial,trivial⟩,trivial⟩
 have N3:Nh dk (.tup [.int bx,.tup ((C.map bJ).take 3++[Qn])]) (.ref p8):=⟨⟨p8,_,J,c4,_,_,J,J,_,_,J,c0.mono bf,J⟩,V5 Xu (Xt λs hs=>by
  rcases ck.mp hs with h|h
  . exact bb s (List.mem_of_mem_take h)
  . rw[bc.mp h];exact xS),yI,Vf (by unfold bI;trivial) f3⟩
 refine⟨by show 4<=1000;decide,λq a9 bd nq gq=>?_⟩;have u:=W.trans (bk.trans (a4.trans (ag.trans (cc.trans (bf.trans bd)))));have ah:=M.same (U.trans u);have b1:∀x∈[V.ref p1,.ref p3,.ref p8,.non],∃t,Nh a9 t x:=λx hx=>by
  simp only[ai,az,or_false]at hx;rcases hx with rfl|rfl|rfl|rfl
  . exact⟨_,N1.i.mono (s9.trans (G.trans u)),N1.w,N1.l,N1.f⟩
  . exact⟨_,N2.i.mono u,N2.w,N2.l,N2.f⟩
  . exact⟨_,N3.i.mono bd,N3.w,N3.l,N3.f⟩
  . exact⟨.non,J,(λus e=>by cases e),J,(by unfold bI;trivial)⟩
 have a5:∀{c:Hp},bP tb a9 c->c q=some (.lst [.ref p1,.ref p3,.ref p8,.non]):=λk=>k.b _ _ (λz=>by obtain⟨ps,e⟩:=Z9 ah.t;rw[z,e]at gq;cases gq) gq
 refine⟨q,J,⟨_,aE.of gq⟩,?_⟩;refine ki (xs:=[.ref p1,.ref p3,.ref p8,.non]) (λj b c=>∃f g,b=[some (.ref s),some (.ref a),some (.int (0+(it:Int))),some vh,some (.int p),f,some (.int fr),af,g]/\bP tb a9 c) ⟨_,_,J,.of ah.t (Same.refl _)⟩ (λj b c _ ⟨_,_,_,k⟩=>aE.of (a5 k)) ?_ ?_
 . rintro j x b b7 hx ⟨f,g,rfl,y⟩;obtain⟨t,N⟩:=b1 x (br hx);have ax:=N.i.tups (y.tups ah.t) N.f;refine⟨4,J,by decide,by decide,?_⟩;refine qu (lo:=0) (n:=(4:Int).toNat) (λi b c=>∃f,b=[some (.ref s),some (.ref a),some (.int (0+(it:Int))),some vh,some (.int p),f,some (.int fr),af,some x]/\bP tb b7 c) ⟨_,J,.of y.t (Same.refl _)⟩ ?_ ?_
   . rintro i b dj hi ⟨f,rfl,X⟩;refine⟨_,J,_,J,_,J,rS (ax.tups (X.tups y.t) N.f) N.w X.t N.l λd4 bq=>⟨J,_,J,ye (λz=>absurd z (by decide+kernel)) (λ_=>?_)⟩⟩;have Z:=X.trans bq;exact⟨_,J,_,J,_,J,_,_,J,J,rS (ax.tups (Z.tups y.t) N.f) N.w bq.t N.l λd3 cr=>⟨J,_,J,ye (λz=>absurd z (by decide+kernel)) (λ_=>⟨_,J,Z.trans cr⟩)⟩⟩
   . rintro b dj ⟨f,rfl,X⟩;exact⟨_,_,J,y.trans X⟩
 . rintro b b7 ⟨f,g,rfl,y⟩;have av:=ah.trans y;exact⟨Xx T6 av.b (Z9 B6),av.t,_,_,_,_,_,_,_,J⟩
end
noncomputable def mB:List Dd:=(List.replicate 15 [Dd.say "come",Dd.say "go"]).flatten
noncomputable def jh:List (List Dd):=[mB]
theorem pM{d:Dd}(h:d∈mB):d=.say "come"\/d=.say "go":=by obtain⟨l,b,a⟩:=List.mem_flatten.mp h;rw[(fi.mp b).2]at a;simpa using a
theorem jn:HD 0 jh:=oG (by decide) (by decide) (by decide) (by decide) λb h=>by
 rw[bc.mp h];refine⟨rW λd a=>?_,by decide⟩;rcases pM a with rfl|rfl
 . exact Wm (.inl J)
 . exact Wm (.inr J)
theorem Jy:xr 15 jh=true:=V6 jn (by decide) (by decide) (λb h=>by
 rw[bc.mp h];rfl) λb h=>by
 rw[bc.mp h];intro i t e;rw[ba]at e;obtain⟨d,a,rfl⟩:=fm.mp e;have:dZ d.t=0:=by rcases pM (br a)with rfl|rfl<;>rfl
 rw[this,List.take_zero];rfl
theorem F5:xr 14 jh=false:=K6 (bc.mpr J) (V2 λz=>by have:=congrArg List.length z;rw[Z8]at this;exact absurd this (by decide+kernel))
theorem jo:gW 0 jh [30] 0 (λ_ _=>0):=by
 refine⟨J,J,λ_=>rfl,λk j a b=>?_,λk a d c=>?_⟩
 . have a:k=0:=by simp at a;exact a
   subst a;have b:j<mB.length:=b;refine⟨mB[j],ao b,.inl ?_⟩;rcases pM (List.getElem_mem b)with e|e
   . exact⟨_,e,J⟩
   . exact⟨_,e,J⟩
 . have a:k=0:=by simp at a;exact a
   subst a;have c:mB[30]?=some d:=c;rw[fe (by decide)]at c;cases c
theorem sW:Fw 31 0 jh:=mZ jo
theorem rZ(J:Jl [30] js):∃j,j<=30/\js=[j]:=by match js,J.n,J.le 0 with|[j],_,h=>exact⟨j,h,rfl⟩
theorem Av:∀j,j<31->bV jh [((j:Nat):Int)] [] 0=false:=by decide+kernel
theorem C7:mG 0 jh:=λb st h w=>by
 obtain⟨c,J,rfl,_⟩:=V7 jo w;obtain⟨j,f,rfl⟩:=rZ J;cases e:xf jh [((j:Nat):Int)] [] h with
 | none=>show bV jh [((j:Nat):Int)] [] h=false;unfold bV;rw[e]
 | some q=>
   obtain⟨k,d,rfl,a,_⟩:=vw e;have a:k<1:=a;have:k=0:=by omega
   subst this;exact Av j (by omega)
theorem C8:wU 0 jh:=λb st w=>by obtain⟨a,J,rfl,_⟩:=V7 jo w;show Z1 jh (aJ a) (bK 0 (λ_ _=>0) a)=false;rw[ng jo J,aw (show aJ [30]=wz jh from rfl)];simp
theorem Co(h:Wv 0 jh H0 H' a):∃l,∃L:O Sn,∃ys,H' a=some (.tup [.str "holds",.ref l])/\H0 l=none/\H' l=some (.lst ys)/\L2.IsL H' (L.map tS) ys/\L.length=31/\L.Nodup/\(∀st,st∈L↔∃j:Nat,j<=30/\st=([(j:Int)],[])):=by
 rcases h with⟨l,b,i,st,_,_,_,c,e,_⟩|⟨l,b,st,_,_,_,c,e,_⟩|⟨l,L,ys,p,o,n,m,_,g,f,_⟩
 . rw[C7 b st i c]at e;cases e
 . rw[C8 b st c]at e;cases e
 . refine⟨l,L,ys,p,o,n,m,rR jo g f,g,λst=>(f st).trans ⟨λ⟨b,c⟩=>?_,λ⟨j,d,e⟩=>?_⟩⟩
   . obtain⟨q,J,rfl,_⟩:=V7 jo c;obtain⟨j,d,rfl⟩:=rZ J;exact⟨j,d,rfl⟩
   . obtain⟨b,c,_⟩:=Zo jo _ [j] rfl ⟨rfl,λk=>by cases k with|zero=>exact d|succ k=>exact aj _⟩
     exact⟨b,by rw[e];exact c⟩
theorem Bj:∀j,j<31->Z1 jh [((j:Nat):Int)] []=false:=by decide+kernel
theorem zH:∀j,j<31->lw jh [((j:Nat):Int)]=false:=by decide+kernel
theorem Ae:∀j,j<31->bN jh [((j:Nat):Int)] []=if j<30 then[0]else[]:=by decide+kernel
theorem yT:∀j,j<30->nx jh [((j:Nat):Int)] [] 0=([((j+1:Nat):Int)],[]):=by decide+kernel
theorem D6(b:L.Nodup)(h:∀st,st∈L↔∃j:Nat,j<=30/\st=([(j:Int)],[])):mU 0 jh L=true:=by
 unfold mU;rw[aw b,bn,aw ((h (zs jh.length,zs (0:Int).toNat)).mpr ⟨0,by decide,J⟩),bn,dz];intro st a;obtain⟨j,d,rfl⟩:=(h st).mp a;unfold Wf;show(!(Z1 jh [(j:Int)] []) && (!(lw jh [(j:Int)]) && (bN jh [(j:Int)] []).all λh=>decide (kS (nx jh [(j:Int)] [] h)∈L.map kS)))=true;rw[Bj j (by omega),zH j (by omega),Ae j (by omega)];by_cases c:j<30
 . rw[if_pos c];show(!false && (!false && (decide (kS (nx jh [(j:Int)] [] 0)∈L.map kS) && true)))=true;rw[yT j c,aw (Vd.mpr ((h _).mpr ⟨j+1,by omega,J⟩))];rfl
 . rw[if_neg c];rfl
theorem J7:∀{a b:List Int},a.Pairwise (λx y=>x<y)->b.Pairwise (λx y=>x<y)->(∀x,x∈a↔x∈b)->a=b
 |[],[],_,_,_=>rfl
 |[],y::b,_,_,h=>absurd ((h y).mpr c8) (by simp)
 |x::a,[],_,_,h=>absurd ((h x).mp c8) (by simp)
 | x ::a,y::b,d,c,h=>by
   have d:=List.pairwise_cons.mp d;have c:=List.pairwise_cons.mp c;have e:x=y:=by
    rcases ai.mp ((h x).mp c8)with e|e
    . exact e
    . rcases ai.mp ((h y).mpr c8)with g|g
      . exact g.symm
      . have:=d.1 y g;have:=c.1 x e;omega
   subst e;rw[J7 d.2 c.2 λz=>?_];constructor
   . intro f;rcases ai.mp ((h z).mp (ce _ f))with e|e
     . have:=d.1 z f;omega
     . exact e
   . intro f;rcases ai.mp ((h z).mpr (ce _ f))with e|e
     . have:=c.1 z f;omega
     . exact e
noncomputable def ls:List Int:=aJ (List.range 31)
theorem AL:ls.Pairwise (λx y=>x<y):=by decide+kernel
theorem Cb(x:Int):x∈ls↔∃j:Nat,j<=30/\x=(j:Int):=by
 unfold ls aJ;rw[bz];constructor
 . rintro⟨j,a,rfl⟩;exact⟨j,by have:=de.mp a;omega,J⟩
 . rintro⟨j,a,rfl⟩;exact⟨j,de.mpr (by omega),J⟩
theorem BA(g:L.Nodup)(h:∀st,st∈L↔∃j:Nat,j<=30/\st=([(j:Int)],[])):∃js:O Int,L=js.map (λj=>([j],[]))/\js.Nodup/\∀x,x∈js↔x∈ls:=by
 refine⟨L.map λst=>st.1.headD 0,?_,?_,λx=>?_⟩
 . rw[eq];have e:L.map ((λj:Int=>(([j],[]):Sn))∘λst=>st.1.headD 0)=L.map id:=List.map_congr_left λst c=>by obtain⟨j,_,rfl⟩:=(h st).mp c;rfl
   rw[e,List.map_id]
 . unfold List.Nodup;rw[List.pairwise_map];refine List.Pairwise.imp_of_mem (λ{a b} l k f e=>f ?_) g;obtain⟨i,_,rfl⟩:=(h a).mp l;obtain⟨j,_,rfl⟩:=(h b).mp k;have e:(i:Int)=(j:Int):=e;rw[e]
 . rw[Cb,bz];constructor
   . rintro⟨st,c,rfl⟩;obtain⟨j,d,rfl⟩:=(h st).mp c;exact⟨j,d,J⟩
   . rintro⟨j,d,rfl⟩;exact⟨_,(h _).mpr ⟨j,d,J⟩,J⟩
noncomputable abbrev wg:Stmt:=top 76
noncomputable def wA:L2.Tm:=.tup [.con (.int 0),.tup [.mul (.tup [.tup [.con (.str "say"),.con (.str "come")],.tup [.con (.str "say"),.con (.str "go")]]) (.con (.int 15))]]
theorem Ee:∃(es:O Expr)(c:_)(p q:Pos),yg wg=[.Assign (qZ ((yg wg).getD 0 dS)) (.Tuple es c p) q,(yg wg).getD 1 dS,(yg wg).getD 2 dS,(yg wg).getD 3 dS]/\
 cZ qG ["house","found"] (zh wg) 12 (.Tuple es c p)=some wA:=⟨_,_,_,_,J,by kernel_rfl⟩
theorem Cf(c:j<=30):SL 0 jh [(j:Int)] []:=by
 obtain⟨b,a,_⟩:=Zo jo _ [j] J ⟨J,λk=>by cases k with|zero=>exact c|succ k=>exact aj _⟩
 exact(Xf jn a).1
section
variable{K:W.Frag}
theorem X4:aB ["house","found"] [] (zh wg):=.of
theorem Ga(D:aR K mg "_law_e_long_right" wg)(T:Txt K mg)(o2:Ok P w K mg base "_law_e_word" 9 ["way","house","p"] (dU tb))(o4:cT P w K mg base "tried_loose" 8 ["house","p"] (gw tb cH cW cM)) (o6:cT P w K mg base "holds_by" 8 ["house","p","stands"] (iP cH cW)):
  Ok P w K mg base "_law_e_long_right" 10 [] (eG tb):=by
 refine wu D X4 λf a4 A R sh H vs Q E hr h=>?_;intro X;obtain⟨rfl,hB,kk⟩:=h;have nd:=X4.nd;have s:=hr.units;have ah:=fg (gg (by decide:2<=64) _) s;have r8:=hr.mono (show 8<=9 by decide);obtain⟨eL,cL,pL,qL,m,u⟩:=Ee;rw[m];refine⟨_,zd (ya (i:=0) nd (rN wA u)) (zd (ya (i:=1) nd (ja o4 ka r8 (za (aA 0) (za zc zb)))) (zd (yd (PW.pt (w5 (zp ji (zl zq (aA 1) zc) zu (zm _)) (ww (zp (pO s) (zo (Fq ah) J T.sorted Kw (za (zl zq (aA 1) zc) zb)) (w6 (own:=["place"]) (cap:=[]) J (yo (zh wg) J J (by decide+kernel) (by decide+kernel) (by decide+kernel) trivial) (xk J T.range (za zc zb)) (λ_ _ _ _=>zw (i:=0) (by show(["place"]:O Str).Nodup;decide+kernel)) (λ_ _ _ _=>yx) (λ_ _ _ _=>yc (za (yc (za (aA 0) zb)) (za (yc zb) zb)))) (zm _))))) (zf (zk xg)) zt)
  (zf (zk (jb (yy pB (ja o6 ka r8 (za (aA 0) (za zc (za (zl zq (aA 1) zc) zb)))) xg (zm _)) (qc (yy y4 (zy o2 hr (za zc (za (aA 0) (za zc zb)))) zu (zm _)))))))),?_⟩
 refine⟨λ_=>False,[],hT 0 jh,⟨λc hc=>hc.elim,λq hq=>by cases hq⟩,by kernel_rfl,λv H1 s1 r=>?_⟩;have r:=r.off;have B1:=hB.same s1;refine⟨_,J,_,v,_,J,r,jn.wh,B1,λc=>(by rw[jn.good]at c;cases c),λ_=>⟨0,jh,jn,r,λc=>(by rw[Jy]at c;cases c),λ_=>⟨sW.mono (by decide),λn3=>absurd (sW.mono (by decide)) n3,λ_ af H2 bt tk tr=>?_⟩⟩⟩;have i2:=r.tups (bt.tups (Z9 B1)) jn.fro;obtain⟨l,L,N,n,a3,hl,k,g,t,d⟩:=Co tr;obtain⟨U,eL,W,p⟩:=BA t d;have ag:IsL H2 (U.map eV) N:=by rw[eL,eq]at k;exact k
 have av:U.length=31:=by rw[eL,ae]at g;exact g
 refine⟨_,J,af,_,_,_,J,J,aD.of n,cR,J,_,J,ye (λz=>absurd z (by decide+kernel)) (λ_=>?_)⟩;refine⟨_,J,af,_,_,_,J,J,aD.of n,cX,l,U,N,J,aE.of hl,ag,by omega,W,λS b F pm up ix au=>?_⟩;have ej:S=ls:=J7 up AL λx=>(pm.mem_iff).trans (p x);subst ej;have s3:=Same.new au (.lst b);have g3:upd H2 F (.lst b) F=some (.lst b):=ze;generalize upd H2 F (.lst b)=H3 at s3 g3⊢;refine⟨31,J,by decide,by decide,?_⟩;refine jq (lo:=0) (n:=31) (λj zs M=>Same H3 M/\IsL M ((aJ (List.range j)).map eV) zs) ⟨Same.refl _,J⟩ (λj zs M hj ⟨_,e⟩=>by rw[e.length,ae];unfold aJ;rw[ae,da];exact yb (by omega)) ?_ ?_
 . rintro j zs M hj ⟨B,Z⟩;refine ko ?_;refine⟨_,J,by show 1<=1000;decide,λp1 H5 i n5 G=>⟨by show 0<=1000;decide,λp2 H6 o n6 g6=>⟨by show 2<=1000;decide,λp3 H7 y n7 g7=>?_⟩⟩⟩;refine⟨B.trans (i.trans (o.trans y)),?_⟩;have e:(aJ (List.range (j+1))).map eV=(aJ (List.range j)).map eV++[eV (j:Int)]:=by unfold aJ;rw[List.range_succ,be,be];rfl
   rw[e];refine IsL.append (Z.mono (i.trans (o.trans y))) (IsL.one ⟨p3,_,J,g7,IsL.two ⟨p1,_,J,y _ _ (o _ _ G),IsL.one ?_⟩ ⟨p2,_,J,y _ _ g6,J⟩⟩);show V.int (0+(j:Int))=V.int (j:Int);rw[Int.zero_add]
 rintro zs H4 ⟨B,Z⟩ C ap;have i:=Same.new ap (.lst zs);have G:upd H4 C (.lst zs) C=some (.lst zs):=ze;generalize upd H4 C (.lst zs)=H5 at i G⊢;have a:=s3.trans (B.trans i);refine⟨.lst (ls.map eV),.lst (ls.map eV),⟨F,b,J,i _ _ (B _ _ g3),ix.mono a⟩,⟨C,zs,J,G,Z.mono i⟩,by kernel_rfl,by kernel_rfl,by decide+kernel,?_⟩;refine⟨_,J,ye (λz=>absurd z (by decide+kernel)) (λ_=>?_)⟩;have ax:=tk.same a;refine⟨_,J,_,J,af,_,_,_,J,J,aD.of (a _ _ n),cX,_,v,_,l,J,i2.mono a,jn.wh,λc=>(by rw[jn.good]at c;cases c),λ_=>⟨0,jh,jn,i2.mono a,λc=>(by rw[Jy]at c;cases c),λ_=>⟨L,⟨⟨N,a _ _ hl,k.mono a⟩,by omega,λst am=>?_⟩,λH6 o=>?_⟩⟩⟩
 . obtain⟨j,hj,rfl⟩:=(d st).mp am;exact Cf hj
 rw[D6 t d];refine⟨_,_,J,J,?_⟩;refine⟨_,J,ye (λ_=>?_) (λz=>absurd (by decide+kernel) z)⟩;have k6:bP tb H H6:=(((bP.of hB s1).trans ⟨bt,tk⟩).same a).same o;exact⟨_,J,md (.inl J) (i2.mono (a.trans o)) jn k6.t F5 λH7 k7=>⟨J,kk H7 (k6.trans k7)⟩⟩
end
abbrev NS(K:W.Frag)(x:Str)(v:Option Value):Prop:=W.nsIn K mainGlobals x=some v
def FD(K:W.Frag)(x:Str)(st:Stmt)(f:Addr)(B:Value)(F:FuncData):Prop:=NS K x (some (.ref f))/\gY K x x st f F/\F.code=B
def FE(K:W.Frag)(x:Str)(st:Stmt):Prop:=∃f c fd,FD K x st f c fd
def CI(K:W.Frag)(x:Str)(i:Int):Prop:=∃t,NS K x (some (.int i t))
def KO(K:W.Frag)(C:Addr)(x:Str)(b:Bool):Prop:=∃a,NS K x (some (.ref a))/\W.kitOne K (.ref C) (.ref a)=some b
section
variable{K:W.Frag}{y z:Str}{st:Stmt}{f C N M:Addr}{oc:Value}{od an:Option Addr}{kV doc pm cdv ct:Value}{b:Bool}{i:Int}{t u v:Tok}
theorem mz(e:W.nsIn K mainGlobals x=some (some (.ref f)))(l:K.lookup f=some ⟨oc,od,.func (W.fnOf x x (jf st) (yg st) (zh st) .none kV doc pm an cdv ct),osl⟩)(c:W.codeIn K cdv x=true)(k:W.keepIn K (.ref f)=true):FD K x st f cdv (W.fnOf x x (jf st) (yg st) (zh st) .none kV doc pm an cdv ct):=⟨e,AO l c k,J⟩
theorem wM(e:W.nsIn K mainGlobals x=some (some (.ref f)))(l:K.lookup f=some ⟨oc,od,.func (W.fnOf x x (jf st) (yg st) (zh st) .none kV doc pm an cdv ct),osl⟩)(c:W.codeIn K cdv x=true)(k:W.keepIn K (.ref f)=true):FE K x st:=⟨_,_,_,mz e l c k⟩
theorem FE.d(X:K.In h)(G:h.Ns mainGlobals mg)(a:FE K x st):aR K mg x st:=let⟨f,_,b,e,F,_⟩:=a;⟨f,b,F,W.mg_of X G e⟩
theorem wP(e:W.nsIn K mainGlobals x=some (some (.int i t))):CI K x i:=⟨_,e⟩
theorem CI.d(X:K.In h)(G:h.Ns mainGlobals mg)(e:CI K x i):∃t,mg x=some (.int i t):=let⟨t,e⟩:=e;⟨t,W.mg_of X G e⟩
theorem wJ(e:W.nsIn K mainGlobals x=some (some (.ref a)))(k:W.kitOne K (.ref C) (.ref a)=some b):KO K C x b:=⟨_,e,k⟩
theorem KO.d(X:K.In h)(G:h.Ns mainGlobals mg)(e:KO K C x b):∃a,mg x=some (.ref a)/\W.kitOne K (.ref C) (.ref a)=some b:=let⟨t,e,k⟩:=e;⟨t,W.mg_of X G e,k⟩
abbrev QN(K:W.Frag)(N:Addr):Prop:=W.nsIn K N "__class__"=some none/\W.nsIn K N "__getattribute__"=some none/\W.nsIn K N "__getattr__"=some none/\W.nsIn K N "__init__"=some none
theorem QN.all(q:QN K N):∀n∈qn,W.nsIn K N n=some none:=λn a=>by obtain⟨_,_,_,_⟩:=q;simp only[qn,ai,az,or_false]at a;rcases a with rfl|rfl|rfl|rfl<;>assumption
theorem qE{nm q nm' q':Str}{bs sub io dA:O I}{b ab a iq:Bool}{sn ia:O Str}{col col':Option Bool}{dd fE:Option Y}{k0 k1 k2 k3 k5 j0 j1 j2 j3 j5:Option I}(f:K.lookup C=some (excClassObj nm q C N bs (.ref D::vE) b sn sub ab col dd k0 k1 k2 k3 k5 "ValueError.__new__")) (e:K.lookup D=some (excClassObj nm' q' D M io vE a ia dA iq col' fE j0 j1 j2 j3 j5 "ValueError.__new__"))
 (g1:W.nsOkIn K N=true) (g2:W.nsOkIn K M=true) (d:QN K N) (c:QN K M):aQ K C D:=⟨⟨_,_,_,_,_,_,_,_,_,_,_,_,_,_,_,f,g1,d.all⟩,⟨_,_,_,_,_,_,_,_,_,_,_,_,_,_,_,e,g2,c.all⟩⟩
end
theorem qK{l:W.OpenLaw}{K:W.Frag}{fa fT fL cc b:Y}{bA:I}{dT dL:FuncData}(X:K.In h)(G:h.Ns mainGlobals mg)(bt:mg "law"=some (.ref fa))(b0:FE K "is_whole" Xg) (b1:FE K "is_within" Yi) (b2:FE K "is_tuple_within" qz) (b3:FE K "is_letters" j6) (b4:FE K "is_word" W5) (b5:FE K "said_in" Y2) (b6:FE K "is_loose_deed" Zs) (b7:FE K "is_loose_script" qx) (b8:FE K "is_loose" Zt) (b9:FE K "need_loose" pU) (d7:FE K "at_first" Xi) (d6:FE K "next_deed" Yg) (d5:FE K "may_go_on" Yh) (d4:FE K "moved" pT) (d3:FE K "going" Vz) (d2:FE K "rows_to_all" X7) (d1:FE K "skips_a_say" pW) (d0:FE K "is_loose_wall" X9) (dV:FE K "need_loose_wall" pV) (dK:FE K "times_said" X6) (du:FE K "is_early_go" W8) (dt:FE K "has_done_all" Y3) (dr:FE K "stops" Qp) (dp:FE K "steps_from" kr) (dn:FE K "stand_by" W4) (dk:FE K "early_weaving" Wa) (dj:FE K "stuck_weaving" Qo) (t:FD K "tried_loose" Yz fT (.ref cc) dT) (di:FE K "is_early" W7) (dc:FE K "is_stuck" W6) (db:FE K "has_early" Xh) (c9:FE K "is_stand_like" wo) (c5:FE K "is_kept_at" X8) (c4:FE K "holds_by" j7) (c3:FE K "_law_e_mixed" pR) (c2:FE K "_law_e_pick" pH) (c1:FE K "_law_e_deed" pQ) (c0:FE K "_law_e_stretch" Y0) (cE:FE K "_law_e_script" Y1) (cw:FE K "_law_e_loose_one" xy) (cv:FE K "_law_e_step" pX) (cr:FE K "_law_e_start" Ye) (co:FE K "_law_e_kind" qy) (cl:FE K "_law_e_word" pY) (cj:FE K "_law_e_no_ones" Yf) (ci:FE K "_law_e_wide" pw) (cf:FE K "_law_e_all_right" Xj) (cb:FE K "_law_e_great_right" Zu) (bT:FE K "_law_e_long_right" wg) (bL:FD K "law" pG fL bA dL) (n0:CI K "MOST_LETTERS" 8) (Q:CI K "BOXES" 0) (u:CI K "SCRIPTS" 1) (C:CI K "PLACES" 0) (A:CI K "NUMBERS" 1) (P:CI K "MOST_BOXES" 6) (y:CI K "MOST_SCRIPTS" 4) (n7:CI K "MOST_DEEDS" 30) (n8:CI K "MOST_NUMBER" 9) (n9:CI K "MOST_PHASES" 15) (a5:CI K "MOST_STANDS" 3000) (z:NS K "isinstance" none/\NS K "int" none/\NS K "bool" none/\NS K "str" none/\NS K "tuple" none/\NS K "list" none/\NS K "len" none/\NS K "all" none/\NS K "sum" none/\NS K "range" none/\NS K "enumerate" none/\NS K "sorted" none/\NS K "min" none/\NS K "any" none/\NS K "zip" none/\NS K "max" none/\NS K "dict" none/\NS K "set" none/\NS K "ValueError" none) (eH:NS K "NoHouse" (some (.ref cH))) (eL:NS K "NoWall" (some (.ref b))) (eM:NS K "TooMany" (some (.ref cM))) (eW:NS K "WallError" (some (.ref cW))) (M:aQ K cH cW) (bk:W.keepIn K (.ref cH)=true) (bb:W.kitOne K (.ref cH) (.type "ValueError")=some true) (bq:KO K cH "NoCount" false/\KO K cH "NoDeed" false/\KO K cH "NoHand" false/\KO K cH "NoHouse" true/\KO K cH "NoName" false/\KO K cH "NoRow" false/\KO K cH "NoStand" false/\KO K cH "NoText" false/\KO K cH "NoWall" false/\KO K cH "TooMany" false) (tL:aQ K b cW) (bf:W.keepIn K (.ref b)=true) (dH:W.kitOne K (.ref b) (.type "ValueError")=some true) (bo:KO K b "NoCount" false/\KO K b "NoDeed" false/\KO K b "NoHand" false/\KO K b "NoHouse" false/\KO K b "NoName" false/\KO K b "NoRow" false/\KO K b "NoStand" false/\KO K b "NoText" false/\KO K b "NoWall" true/\KO K b "TooMany" false) (tM:aQ K cM cW) (bd:W.keepIn K (.ref cM)=true) (a9:W.kitOne K (.ref cM) (.type "ValueError")=some true) (bl:KO K cM "NoCount" false/\KO K cM "NoDeed" false/\KO K cM "NoHand" false/\KO K cM "NoHouse" false/\KO K cM "NoName" false/\KO K cM "NoRow" false/\KO K cM "NoStand" false/\KO K cM "NoText" false/\KO K cM "NoWall" false/\KO K cM "TooMany" true) (hb:∀(s:Shared)(v:I),BindsTo s dL ⟨[v],[]⟩ [("script",v)]) (L:W.codeHdIn K cc tb=true):
  (∃c,W.codeHdIn K c tb=true)/\∃fd:FuncData,(∀(s:Shared)(v:I),BindsTo s fd ⟨[v],[]⟩ [("script",v)])/\∀base:Heap,K.In base->base.Ns mainGlobals mg->Wx mg base->cD l.prog w K mg base hJ 11 fa fd ["script"] (dX tb K):=by
 have e:=bt.symm.trans (W.mg_of X G bL.1);cases e;obtain⟨z0,z1,z2,z3,z4,z5,z6,z7,z8,z9,au,ap,am,ah,ag,af,Z,U,S⟩:=z;have T:Txt K mg:=⟨n0.d X G,Q.d X G,u.d X G,C.d X G,A.d X G,P.d X G,y.d X G,n7.d X G,n8.d X G,n9.d X G,a5.d X G,W.mg_none_of X G z0,W.mg_none_of X G z1,W.mg_none_of X G z2,W.mg_none_of X G z3,W.mg_none_of X G z4,W.mg_none_of X G z5,W.mg_none_of X G z6,W.mg_none_of X G z7,W.mg_none_of X G z8,W.mg_none_of X G z9,W.mg_none_of X G au,W.mg_none_of X G ap,W.mg_none_of X G am,W.mg_none_of X G ah,W.mg_none_of X G ag,W.mg_none_of X G af,W.mg_none_of X G Z,W.mg_none_of X G U⟩
 refine⟨⟨cc,L⟩,dL,hb,λbase q _ B=>?_⟩;have CH:=W.codeHd_of_K q L;have F:=bL.2.1;obtain⟨p,o,n,m,k,j,i,g,f,d⟩:=bq;have yH:Kinds K mg cH 3:=⟨M.err,by decide,W.mg_none_of X G S,bb,p.d X G,o.d X G,n.d X G,m.d X G,k.d X G,j.d X G,i.d X G,g.d X G,f.d X G,d.d X G⟩
 clear p o n m k j i g f d;obtain⟨p,o,n,m,k,j,i,g,f,d⟩:=bo;have yL:Kinds K mg b 8:=⟨tL.err,by decide,W.mg_none_of X G S,dH,p.d X G,o.d X G,n.d X G,m.d X G,k.d X G,j.d X G,i.d X G,g.d X G,f.d X G,d.d X G⟩
 clear p o n m k j i g f d;obtain⟨p,o,n,m,k,j,i,g,f,d⟩:=bl;have yM:Kinds K mg cM 9:=⟨tM.err,by decide,W.mg_none_of X G S,a9,p.d X G,o.d X G,n.d X G,m.d X G,k.d X G,j.d X G,i.d X G,g.d X G,f.d X G,d.d X G⟩
 clear p o n m k j i g f d;have R:mL K mg base cH b cM cW:=⟨M.own q (W.mg_of X G eH) bk,tL.own q (W.mg_of X G eL) bf,tM.own q (W.mg_of X G eM) bd,W.mg_of X G eW,M.is q,M.under q,tL.under q,tM.under q,yH,yL,yM⟩
 have o1:=FV (P:=l.prog) (w:=w) (base:=base) (b0.d X G) T;have x:=F9 (b1.d X G) T o1;have N:=Xl (P:=l.prog) (w:=w) (base:=base) (b2.d X G) T;have o4:=Jp (P:=l.prog) (w:=w) (base:=base) (b3.d X G) T;have o5:=Fk (b4.d X G) T o4;have o6:=Jo (b6.d X G) T N x o5;have o7:=Vr (b7.d X G) T N o6;have o8:=FU (b8.d X G) T N x o7;have o9:=Df (P:=l.prog) (w:=w) (base:=base) (c3.d X G);have a:=Cw (c2.d X G) T o9;have a4:=Db (c1.d X G) T a;have a3:=Fo (c0.d X G) T a4;have ax:=Fm (cE.d X G) T a a3;have av:=FW (cw.d X G) T a ax;have Q:=Dh (b9.d X G) T R.oH o8;have u:=FS (P:=l.prog) (w:=w) (base:=base) (d7.d X G) T;have C:=Gc (P:=l.prog) (w:=w) (base:=base) (d6.d X G) T;have A:=Gb (d5.d X G) T x C;have P:=Dg (d4.d X G) T C;have y:=Dc (d3.d X G) T A;have m1:=Fl (P:=l.prog) (w:=w) (base:=base) (b5.d X G) T;have m2:=Dj (d1.d X G) T m1;have m3:=EY (d0.d X G) T x m1 m2;have m4:=Di (dV.d X G) T R.oW Q m3;have m5:=Dl (P:=l.prog) (w:=w) (base:=base) (dK.d X G) T;have m6:=Fg (du.d X G) T C m5;have m7:=Ff (P:=l.prog) (w:=w) (base:=base) (dt.d X G) T;have m8:=Es (dr.d X G) T y m7;have m9:=Gf (dp.d X G) T y P;have a8:=Eo (d2.d X G) T m9;have a7:=EX (dk.d X G) T y m6;have a6:=Et (dj.d X G) T m8;have r:=Dm B CH ⟨_,_,t.2.1,W.mg_of X G t.1,t.2.2⟩ T R.oM m4 a8 u a7 a6;have H:=Fn (dn.d X G) T u A P;have E:=Fi (di.d X G) T m4 H A m6;have D:=Fj (dc.d X G) T Q H m8;have e1:=Dk (P:=l.prog) (w:=w) (base:=base) (cv.d X G) T;have e2:=Ep (P:=l.prog) (w:=w) (base:=base) (cr.d X G) T;have h1:=FT (db.d X G) T m5;have h2:=Ge (c9.d X G) T u N x;have h3:=EZ (c5.d X G) T m8 h1 m9;have h4:=Fh (c4.d X G) T m4 h2 u h3;have e4:=De (P:=l.prog) (w:=w) (base:=base) (co.d X G) T;have e5:=Do (cl.d X G) T R r E h4 D e4;have e6:=En (cj.d X G) T a;have e7:=Cy (ci.d X G) T a;have e8:=FR (cf.d X G) T a e2 e1;have e9:=Jq (cb.d X G) T a e5 e7 r e8 E D;have bv:=Ga (bT.d X G) T e5 r h4;exact Cv F T a e5 av e6 bv e9
theorem Gp{l:W.OpenLaw}{q:Program}{b:O Str}{r:(Str->Option I)->Heap->Prop}{j:World->Heap->Prop}{d:DefRec}{K:Params->W.Frag}(m:l.most=some 63)(e:d.params.defaults=[])(o:∀(w:World)(h:Heap),j w h->(K w.params).In h/\h.get? tb=some (W.tabObj #[]))
  (F:∀(w:World) (mg:Str->Option I) (i:Y) (h:Heap),(K w.params).In h->h.Ns mainGlobals mg->mg d.name=some (.ref i)-> (∃c,W.codeHdIn (K w.params) c tb=true)/\∃fd:FuncData,(∀(s:Shared)(u:I),BindsTo s fd ⟨[u],[]⟩ [("script",u)])/\∀base:Heap,(K w.params).In base->base.Ns mainGlobals mg->Wx mg base->cD l.prog w (K w.params) mg base hJ 11 i fd ["script"] (dX tb (K w.params)))
  (g:∀w:World,(K w.params).lookup tb=none):
  W.WalkO q b r j l.row.toRowW d [] (λf vs=>PySem.call f vs):=
 L2.mi (n:=63) (k:=11) (x:="script") (CX:=λ_=>hJ) (sp:=λw=>dX tb (K w.params)) m (by decide) e ⟨J,by decide,by decide⟩ o g F (λ_ _ a k n hT p=>⟨a,k,J,p,n,aM.first hT,λ_=>rfl⟩) λ_ _ _ _ _ z=>z
end My

structure PySem.W.Fast:Prop where(tw13358503993946043127 tw17876848605136091036 tw13520872738488931250 tw15863588540259457984 tw8134731972292177655 tw7433482100152490148 tw14565530940057402963 tw15072330552171963678 tw12518438280054602194 tw3972754901934694186 tw3488853268800270438 tw9549449415768622296 tw2945712427790156125 tw9017775235899564201 tw2992339779148898605 tw1095856139250283592 tw3456577125148160520 tw10828476745490872099 tw3923882583979007228 tw5393454188354187565 tw2787698905664394060 tw13352430715235198350 tw976389700983039952 tw16145311381706895167 tw5445743829041764496 tw7080840306080228570 tw12286423369675850863 tw13845948608408508871 tw10606958121149275583 tw9940860007763640814 tw6470105558084627518 tw1378230170187366892 tw10147627968266078451 tw10899122818403900521 tw5367437801990918903 tw2995263577490466209 tw4347510997944303315 tw10017546843921649770 tw7720200522435096794 tw4853285537932722133 tw12884995141254967706 tw13309738383438845606 tw12040750204684948010 tw17403099030612860611 tw530412892773161525 tw5318371961946165868 tw10660661909840534428 tw17917746541770277661 tw11087072706126434752 tw5844184255729455607 tw6842700220912926535 tw15517919014700247154 tw6432134525096795376 tw15338847310312257778 tw13230959643254717865 tw6796136799086834156 tw9099174544564936283 tw14945015078273629625 tw5172632693657717521 tw486638477153809868 tw2004455868737558168 tw12975093990856813451 tw1524788287488801883 tw10771845874119957207 tw9599528723549829467 tw11013190042620247822 tw3290319414820501317 tw2367933178591798544 tw17960737501035184155 tw12373411596995706126 tw8132891497050698726 tw6808618618937439109 tw9165619275861494532 tw12066920706092863954 tw14308824966101487559 tw15986958388001952647 tw3395741859655192152 tw2943959961671894376 tw8325700605512296864 tw14374571496020600868 tw2898288481063335890 tw421508266423020025 tw6237977734329440215 tw9536857709090158920 tw11275139794840576982 tw1501895463627693056 tw10125391499587176669 tw675866138314095738 tw924984615214550614 tw17537426410754514159 tw13224763184396731115 tw14080386988429397732 tw17502298178279828839 tw7404443830495101381 tw13456438498624349998 tw17885735327227097486 tw6845578520496032583 tw3953216125393284480 tw11415976078922563545 tw14884477779434230815 tw2206886836932547167 tw10462956077939368795 tw8886757848531914358 tw7924383170309558659 tw9239745617002197171 tw13074571064670979713 tw4363141132904308905 tw9814209694475489566 tw13129856679603167366 tw10482343416128559698 tw17990615138852568479 tw6626567462411964253 tw15334713258895313921 tw15955483981558203762 tw11709440326036178907 tw11081610657698154764 tw12877699206777218287 tw13912824939362823894 tw7980738692722177495 tw12311156322932231508 tw17826382397971564423 tw5368933346329378369 tw4482629776431240007 tw12408143651193247510 tw4998730324718802134 tw4934163897622318991 tw8090695597974434936 tw16999687995556299285 tw10933953449323318235 tw12378403439106085431 tw8732107066414682652 tw10570860165339082669 tw4757822924667359877 tw9740050616073453410 tw18427808323157182718 tw13021531550946363290 tw7937692670527689795 tw13831483358162459752 tw5485633531378180519 tw9676531045288096398 tw16207753539355526032 tw17142824957877832195 tw14409718538095643110 tw11046751513722077757 tw15052267965052249924 tw4919381260955461182 tw9880992629684441959 tw9789061502951232670 tw58800625313053649 tw1382800484986065207 tw14855784839839519479 tw5811924850857932678 tw14308331663535043751 tw8829626887636834434 tw3366412594770424308 tw520143006699886571 tw12393670614960966759 tw5611320707117309202 tw8815820221967287695 tw2084056954967319074 tw6594991394679954513 tw5183255631676678400 tw3664496530317647542 tw4190546644319695900 tw3988238085135885685 tw5020475164534014381 tw13028882017768771469 tw2973500329247506244 tw18173902791356610890 tw4085228295525626085 tw7792174503537703135 tw17584531207160398610 tw14895362831584061266 tw12003799234404044623 tw1228351499547570364 tw14218492700174564816 tw10082242204922283379 tw15741438824596167368 tw4719614295328038641 tw8526806764538861105 tw9760334241756337537 tw6581705706655275137 tw5772460881349533167 tw12216680900463208087 tw15418938108863741549 tw12566761019798365496 tw9176392430066713755 tw3325452037079883251 tw12349525703451035457 tw17611410537768221887 tw15296740992546188135 tw10686408428149579422 tw9157847181033057758 tw8755463507153817677 tw4965934783244888456 tw16556732176414431392 tw1908026150586978085 tw16094828391759511995 tw3189049839770338618 tw3499827831317232276 tw3175229288025249664 tw13863037621216413333 tw10996144269936017646 tw6536091078357344403 tw2039361278547080241 tw1188725573189351182 tw4739168465512121906 tw16695783482157238881 tw3623183657503008357 tw11066095035699472666 tw16719251582606424844 tw8969681299394700924 tw16597275030861845436 tw14151606152176782562 tw7305977079847717362 tw12488944014654002709 tw3326810102414228635 tw2550117341745350766 tw17532201689623601499 tw3634509941666448702 tw17003030543281561809 tw17567360362482817217 tw16487601394554245797 tw17252782327073824728 tw3804909342775968461 tw12799182046492217878 tw3623382570151966337 tw1049236137825454620 tw9452436115983645140 tw6192648556159660032 tw7393605867249271287 tw6849172877879295504 tw8141457784864380591 tw15620943784974444615 tw11938859368879279351 tw6316682843324836504 tw12574700104221314283 tw1810651141158637221 tw13492787610082780413 tw15676911315732682959 tw4905832945328149506 tw3831062064325704647 tw2501885778971109506 tw12568266665884482735 tw13837777557850014521 tw3260990879294766274 tw1786384850469088422 tw12908708296858312415 tw18254679011446953492 tw10443080825951819926 tw14835996949395420746 tw14319377222421377471 tw4172058553372149474 tw14775355203262353837 tw8011984765568891755 tw7400012305048444195 tw3767892733599947202 tw7667501752588669425 tw4276681810681059564 tw15701759567418171856 tw4323415978671792956 tw3616294146840897881 tw5570481971494933050 tw2818697999771919011 tw4428306232312851045 tw4173569203705673138 tw15724734449919673953 tw4160277977044466788 tw8505687665326352240 tw10133287226815024434 tw5755811577059278998 tw16275961815560747908 tw4265099041221020124 tw1171320550227929336 tw4672865377155683036 tw5629105988993175336 tw12405887964185989412 tw2805986653394703181 tw8856511041923381428 tw13857682701344310932 tw17228051755493862262 tw15326435071027694817 tw17408583062628735138 tw11720135432387002499 tw14464900283647823169 tw4452425297550515905 tw18386128562081200393 tw13557722017324884402 tw8295159772696631087 tw13385358820532656133 tw13306241987697362934 tw1985914940889693653 tw5696173038056792798 tw12694642120506884857 tw18407086489657224500 tw113689171712442366 tw17933527592846447560 tw14165739910482696267 tw5816104858444058218 tw8690345583063370641:True)

open PySem PySem.W PyProof.Rows
set_option maxRecDepth 100000 in
set_option maxHeartbeats 0 in
theorem PySem.Challenge.cw_meetwall_k64_no_loose_ones_and_three_tho_holds : PySem.Challenge.rw_meetwall_k64_no_loose_ones_and_three_tho.Holds := by
 w_on;o_law;k_head;(case hw=>w_witness2)
 k_fill
 refine My.Gp (l:=PySem.Challenge.rw_meetwall_k64_no_loose_ones_and_three_tho) rfl rfl (λw h Y=>⟨PySem.W.km_in_of Y,PySem.W.km_tabs_of Y _ List.mem_cons_self⟩) ?F ?KT
 case KT=>intro w;first|kernel_rfl|k_is
 case F=>
  intro w mg fa h KX G hmg;refine' My.qK (w:=w) KX G hmg ?_ ?_ ?_ ?_ ?_ ?_ ?_ ?_ ?_ ?_ ?_ ?_ ?_ ?_ ?_ ?_ ?_ ?_ ?_ ?_ ?_ ?_ ?_ ?_ ?_ ?_ ?_ ?bT ?_ ?_ ?_ ?_ ?_ ?_ ?_ ?_ ?_ ?_ ?_ ?_ ?_ ?_ ?_ ?_ ?_ ?_ ?_ ?_ ?_ ?bL ?_ ?_ ?_ ?_ ?_ ?_ ?_ ?_ ?_ ?_ ?_ ?z ?eH ?eL ?eM ?eW ?tH ?kpH ?kvH ?kkH ?tL ?kpL ?dH ?kkL ?tM ?kpM ?kvM ?kkM ?hb ?hhd
  (case bL=>refine' My.mz ?a ?l ?c ?k;(case a=>k_is);(case l=>k_is);(case c=>k_is);(case k=>k_is))
  (case hb=>exact λs v=>.of_eq rfl)
  (case bT=>refine' My.mz ?a ?l ?c ?k;(case a=>k_is);(case l=>k_is);(case c=>k_is);(case k=>k_is))
  (case hhd=>first|kernel_rfl|k_is)
  (case z=>refine⟨?_,?_,?_,?_,?_,?_,?_,?_,?_,?_,?_,?_,?_,?_,?_,?_,?_,?_,?_⟩<;>(unfold My.NS;k_is))
  (case eH=>unfold My.NS;k_is)
  (case eL=>unfold My.NS;k_is)
  (case eM=>unfold My.NS;k_is)
  (case eW=>unfold My.NS;k_is)
  (case tH=>(refine' My.qE ?f1 ?f2 ?g1 ?g2 ?h1 ?h2;(case f1=>k_is);(case f2=>k_is);(case g1=>kernel_rfl);(case g2=>kernel_rfl);(case h1=>refine⟨?_,?_,?_,?_⟩<;>k_is);(case h2=>refine⟨?_,?_,?_,?_⟩<;>k_is)))
  (case kpH=>k_is)
  (case kvH=>kit_is)
  (case kkH=>refine⟨?_,?_,?_,?_,?_,?_,?_,?_,?_,?_⟩<;>(refine' My.wJ ?a ?k;(case a=>k_is);(case k=>kit_is)))
  (case tL=>(refine' My.qE ?f1 ?f2 ?g1 ?g2 ?h1 ?h2;(case f1=>k_is);(case f2=>k_is);(case g1=>kernel_rfl);(case g2=>kernel_rfl);(case h1=>refine⟨?_,?_,?_,?_⟩<;>k_is);(case h2=>refine⟨?_,?_,?_,?_⟩<;>k_is)))
  (case kpL=>k_is)
  (case dH=>kit_is)
  (case kkL=>refine⟨?_,?_,?_,?_,?_,?_,?_,?_,?_,?_⟩<;>(refine' My.wJ ?a ?k;(case a=>k_is);(case k=>kit_is)))
  (case tM=>(refine' My.qE ?f1 ?f2 ?g1 ?g2 ?h1 ?h2;(case f1=>k_is);(case f2=>k_is);(case g1=>kernel_rfl);(case g2=>kernel_rfl);(case h1=>refine⟨?_,?_,?_,?_⟩<;>k_is);(case h2=>refine⟨?_,?_,?_,?_⟩<;>k_is)))
  (case kpM=>k_is)
  (case kvM=>kit_is)
  (case kkM=>refine⟨?_,?_,?_,?_,?_,?_,?_,?_,?_,?_⟩<;>(refine' My.wJ ?a ?k;(case a=>k_is);(case k=>kit_is)))
  all_goals first|(refine' My.wM ?a ?l ?c ?k;(case a=>k_is);(case l=>k_is);(case c=>k_is);(case k=>k_is))|(refine' My.wP ?a;(case a=>k_is))

import PyProof.Rows.All
import Wide.All
import OpenK.AllK
import Wide.FinOn
import Lean
import PyProof.EqAt
import PyProof.EqKinds
import PyProof.TupleCall
import PyProof.TupleKey
import PyProof.DictFindH
import PyProof.NeData
import PyProof.ListRange
import PyProof.ZipIter
import PyProof.Rows.CallKwBuiltin
import PyProof.MinMaxWalk
import KE.KSortTup
import PyProof.DictItems
import PyProof.EnumIter
import PyProof.EnumMake
import PyProof.MeetsStr
import PyProof.MeetsStr2
import PyProof.StrCalls
import PyProof.StrCalls2
import PyProof.FString
import KE.KIntText
import KE.KDictSum
import PySem.Challenge.RW_meetwall_k32_no_made_ones
set_option Elab.async false
set_option linter.all false
set_option maxRecDepth 100000
set_option maxHeartbeats 4000000
set_option compiler.extract_closed false
noncomputable section
theorem tP(h:True:=by intro _ _ _ _ _ _ us a;first|exact Oo a (λ_=>rfl)|exact On a (λ_ _=>rfl)|exact Om a (λ_ _ _=>rfl)|exact Ol a (λ_ _ _ _=>rfl)|exact Oj a (λ_ _ _ _ _=>rfl)):True:=h
theorem aI{m n:Nat}(h:Nat.ble m n=true:=by rfl):m<=n:=Nat.le_of_ble_eq_true h
theorem J{a:Sort _}{b:a}:b=b:=rfl
abbrev O:=@List
abbrev I:=PySem.Value
abbrev Y:=PySem.Addr
namespace L2
open PySem PySem.Spec PyProof.Rows
noncomputable def _root_.aa:=@wpAny_bind
noncomputable def _root_.ae:=@wpAny_pure
noncomputable def _root_.ag:=@List.length_map
noncomputable def _root_.ai:=@List.mem_singleton
noncomputable def _root_.aj:=@Nat.le_refl
noncomputable def _root_.ak:=@List.mem_cons
noncomputable def _root_.aq:=@List.map_append
noncomputable def _root_.au:=@Ne.symm
noncomputable def _root_.ax:=@Heap.lt_size
noncomputable def _root_.az:=@List.length_append
noncomputable def _root_.be:=@Heap.get?_push_of_some
noncomputable def _root_.bf:=@Nat.zero_le
noncomputable def _root_.bi:=@List.getElem?_map
noncomputable def _root_.bj:=@Nat.ne_of_lt
noncomputable def _root_.bn:=@List.mem_cons_of_mem
noncomputable def _root_.bo:=@List.mem_cons_self
noncomputable def _root_.bp:=@decide_eq_true
noncomputable def _root_.bq:=@List.mem_of_getElem?
noncomputable def _root_.br:=@List.getElem?_eq_getElem
noncomputable def _root_.bu:=@List.length_take
noncomputable def _root_.bv:=@List.map_map
noncomputable def _root_.bx:=@Heap.get?_push_size
noncomputable def _root_.bz:=@List.mem_map
noncomputable def _root_.c7:=@Bool.false_ne_true
noncomputable def _root_.c8:=@List.map_cons
noncomputable def _root_.c9:=@of_decide_eq_true
noncomputable def _root_.ca:=@Nat.lt_of_lt_of_le
noncomputable def _root_.ce:=@List.mem_append
noncomputable def _root_.cf:=@decide_eq_false
noncomputable def _root_.ci:=@List.getElem?_eq_some_iff
noncomputable def _root_.cj:=@Int.toNat_natCast
noncomputable def _root_.cm:=@List.append_nil
noncomputable def _root_.cp:=@Bool.and_eq_true
noncomputable def _root_.cq:=@Bool.true_and
noncomputable def _root_.cr:=@Nat.le_trans
noncomputable def _root_.cu:=@List.nodup_cons
noncomputable def _root_.cx:=@List.size_toArray
noncomputable def _root_.cy:=@wpAny_call_entry
noncomputable def _root_.cz:=@wpAny_mono
noncomputable def _root_.db:=@Bool.false_and
noncomputable def _root_.dc:=@Nat.lt_irrefl
noncomputable def _root_.de:=@List.take_add_one
noncomputable def _root_.df:=@wpAny_newObj_type
noncomputable def _root_.dg:=@List.take_length
noncomputable def _root_.di:=@List.getD_eq_getElem?_getD
noncomputable def _root_.dj:=@List.length_cons
noncomputable def _root_.dk:=@List.mem_append_right
noncomputable def _root_.dm:=@Nat.ne_of_gt
noncomputable def _root_.dq:=@Int.zero_add
noncomputable def _root_.du:=@List.mem_range
noncomputable def _root_.dy:=@List.all_eq_true
noncomputable def _root_.dz:=@wpAny_isInstance
noncomputable def _root_.ee:=@Heap.size_push
noncomputable def _root_.eh:=@Nat.lt_of_le_of_lt
noncomputable def _root_.ei:=@List.length_range
noncomputable def _root_.ez:=@Nat.lt_succ_self
noncomputable def _root_.f8:=@List.mem_filter
noncomputable def _root_.fb:=@List.mem_append_left
noncomputable def _root_.fc:=@List.length_filter_le
noncomputable def _root_.fe:=@Nat.not_lt_zero
noncomputable def _root_.ff:=@Array.getElem?_eq_getElem
noncomputable def _root_.fg:=@Nat.add_le_add_left
noncomputable def _root_.fh:=@List.length_replicate
noncomputable def _root_.fi:=@List.length_eq_zero_iff
noncomputable def _root_.fj:=@List.getElem?_append_left
noncomputable def _root_.fk:=@Int.emod_lt_of_pos
abbrev aK:=Sum Int Str
noncomputable def pO:aK->Value->Bool|.inl k,v=>Value.isInt k v|.inr x,v=>Value.isStrOf x v
noncomputable def Ef(w:World):aK->Int|.inl k=>hashInt k|.inr x=>hashStr w x
theorem vp:∀{k:aK}{v:Value},pO k v=true->(∃i t,k=Sum.inl i/\v=Value.int i t)\/(∃x t,k=Sum.inr x/\v=Value.str x t)
 | .inl i,v,h=>by
   obtain⟨t,e⟩:=Value.isInt_shape h
   simp_all
 | .inr x,v,h=>by
   obtain⟨t,e⟩:=Value.isStrOf_shape h
   simp_all
theorem LH(i:Int)(t:Tok):pO (.inl i) (.int i t)=true:=by simp[pO,Value.isInt]
theorem LI(x:Str)(t:Tok):pO (.inr x) (.str x t)=true:=by simp[pO,Value.isStrOf]
theorem Fj(a b:Int):decide ((Sum.inl a:aK)=Sum.inl b)=(a==b):=by grind
theorem Fm(a b:Str):decide ((Sum.inr a:aK)=Sum.inr b)=decide (a=b):=by simp
theorem Fk(a:Int)(b:Str):decide ((Sum.inl a:aK)=Sum.inr b)=false:=cf (λq=>nomatch q)
theorem Fl(a:Str)(b:Int):decide ((Sum.inr a:aK)=Sum.inl b)=false:=cf (λq=>nomatch q)
noncomputable def yn(prog:Program)(w:World):PySem.KeyKind prog w aK where
 is:=pO
 hash:=Ef w
 inj:=λv a b ha U=>by
  rcases vp ha with⟨i,t,rfl,rfl⟩|⟨x,t,rfl,rfl⟩;rcases vp U with⟨j,u,rfl,e⟩|⟨y,u,rfl,e⟩;injection e with e1 _;rw[e1];exact nomatch e
  rcases vp U with⟨j,u,rfl,e⟩|⟨y,u,rfl,e⟩;exact nomatch e
  injection e with e1 _;rw[e1]
 byValue:=λk v h=>by rcases vp h with⟨i,t,rfl,rfl⟩|⟨x,t,rfl,rfl⟩<;>rfl
 pyHash:=λF h=>by rcases vp F with⟨i,t,rfl,rfl⟩|⟨x,t,rfl,rfl⟩;exact wpAny_pyHash_int h;exact wpAny_pyHash_str h
 eqBool:=λZ F h=>by rcases vp Z with⟨i,t,rfl,rfl⟩|⟨x,t,rfl,rfl⟩;rcases vp F with⟨j,u,rfl,rfl⟩|⟨y,u,rfl,rfl⟩;rw[Fj]at h;exact wpAny_eqBool_int h;rw[Fk]at h;exact SeqAt.EqAt.int_str i t y u _ _ _ _ h;rcases vp F with⟨j,u,rfl,rfl⟩|⟨y,u,rfl,rfl⟩;rw[Fl]at h;exact SeqAt.EqAt.str_int x t j u _ _ _ _ h;rw[Fm]at h;exact wpAny_eqBool_str h
 «strs»:=λk x t v h=>by
  rcases vp h with⟨i,u,rfl,e⟩|⟨y,u,rfl,e⟩;exact nomatch e
  injection e with e1 _;subst e1;cases v<;>rfl
theorem M9(prog:Program)(w:World)(i:Int)(t:Tok):(yn prog w).is (.inl i) (.int i t)=true:=LH i t
theorem Na(prog:Program)(w:World)(x:Str)(t:Tok):(yn prog w).is (.inr x) (.str x t)=true:=LI x t
inductive V where|non|bl (b:Bool)|int (i:Int)|str (x:Str)|byt (b:Array UInt8)|flt (b:UInt64)|ref (a:Addr)|ty (n:String)
 deriving DecidableEq
def yq:V->Value->Prop|.non,u=>u=Value.none|.bl b,u=>u=Value.bool b|.int i,u=>∃t,u=Value.int i t|.str x,u=>∃t,u=Value.str x t|.byt b,u=>∃t,u=Value.bytes b t|.flt b,u=>∃t,u=Value.float b t|.ref a,u=>u=Value.ref a|.ty n,u=>u=Value.type n
abbrev yu:List V->List Value->Prop:=Paired yq
theorem yu.length{xs:O V}{a:O I}(r:yu xs a):xs.length=a.length:=Paired.length r
theorem yu.get:∀{xs:List V}{a:List Value}{i:Nat}{x:V},yu xs a->xs[i]?=some x->∃u,a[i]?=some u/\yq x u
 |_,_,_,_,.nil,e=>by grind
 |_,_,0,_,.cons r _,e=>by simp_all
 | _,_,i+1,x,.cons _ t,e=>by
   obtain⟨u,c,b⟩:=yu.get t (by simpa using e)
   simp_all
theorem yu.set{x:V}{u:Value}(r:yq x u):∀{xs:List V}{a:List Value}(i:Nat),yu xs a->yu (xs.set i x) (a.set i u)|_,_,_,.nil=>.nil|_,_,0,.cons _ t=>.cons r t|_,_,i+1,.cons q t=>.cons q (yu.set r i t)
theorem yu.append:∀{xs a:List V}{c b:List Value},yu xs c->yu a b->yu (xs++a) (c++b)|_,_,_,_,.nil,s=>s|_,_,_,_,.cons r t,s=>.cons r (yu.append t s)
theorem yu.take:∀{xs:List V}{a:List Value}(n:Nat),yu xs a->yu (xs.take n) (a.take n)|_,_,0,_=>.nil|_,_,_+1,.nil=>.nil|_,_,n+1,.cons r t=>.cons r (yu.take n t)
theorem yu.drop:∀{xs:List V}{a:List Value}(n:Nat),yu xs a->yu (xs.drop n) (a.drop n)|_,_,0,r=>r|_,_,_+1,.nil=>.nil|_,_,n+1,.cons _ t=>yu.drop n t
def Xn:Option V->Option Value->Prop|some v,some u=>yq v u|none,none=>True|_,_=>False
def KV{F:Type}:List (F×V)->List (F×Value)->Prop:=Paired λ(p:F×V) (q:F×Value)=>p.1=q.1/\yq p.2 q.2
noncomputable def kV:aK->V|.inl i=>.int i|.inr x=>.str x
inductive HO where|lst (xs:List V)|tup (xs:List V)|dK (kvs:List (aK×V))|dT (kvs:List (List aK×V))|set (S:Int->Bool) (n:Nat)|ins (C dx:Addr) (fs:List (Str×V))|own (x:Addr)|xd (fs:List (Str×V))|met (f x:Addr)|rng (lo hi:Int)|frz (o:Obj) (u:HO)|tbl (ps:Array Value)|ext (φ:Heap->Prop)
abbrev Hp:=Addr->Option HO
noncomputable def upd(H:Hp)(a:Addr)(o:HO):Hp:=λb=>if b=a then some o else H b
variable{a b:Addr}{o u:HO}{h h':Heap}{H:Hp}{P:Program}{w:World}
theorem zf:upd H a o a=some o:=by unfold upd;rw[if_pos J]
theorem upd_ne(h:b≠a):upd H a o b=H b:=by unfold upd;rw[if_neg h]
theorem IB:upd (upd H a o) a u=upd H a u:=by funext b;unfold upd;simp_all
theorem Wc(h:H a=some o)(h':H b=some u)(d:o≠u):a≠b:=by grind
theorem zn(h:H a=some o)(h':H b=none):a≠b:=by grind
def gx(h:Heap)(a:Addr):Prop:=∀o,h.get? a=some o->o.dict=none
theorem gx.of{o:Obj}(n:gx h a)(e:h.get? a=some o)(c:h'.get? a=some o):gx h' a:=λq b=>by rw[c]at b;cases b;exact n o e
theorem gx.push{h:Heap}{c:Value}{d:Data}{a:Array (Option Value)}:gx (h.push {cls:=c,dict:=none,data:=d,slots:=a}) h.objs.size:=λq f=>by
 have e:=f;cases b:({cls:=c,dict:=none,data:=d,slots:=a}:Obj).isFreed with|false=>rw[bx _ b]at e;grind| true=>
   simp[Heap.get?,Heap.push,b]at e
   grind
section
variable(P:Program)(w:World)
def qy(H:Hp)(h:Heap)(a:Addr):HO->Prop
 |.lst xs=>xs.length<=sizeLine/\∃(its:List Value)(n:Nat),yu xs its/\h.get? a=some {cls:=.type "list",data:=.seq its.toArray n}
 |.tup xs=>xs.length<=sizeLine/\∃its:List Value,yu xs its/\IsTup h a its.toArray/\gx h a
 |.dK kvs=>kvs.length<=sizeLine/\(a==sysModules)=false/\∃vs,KV kvs vs/\h.DictOf (yn P w) a vs
 |.dT kvs=>kvs.length<=sizeLine/\(a==sysModules)=false/\∃xs:List (List aK×Addr×Value),
  Paired (λ(p:List aK×V) (q:List aK×Addr×Value)=>p.1=q.1/\H q.2.1=some (.tup (p.1.map kV))/\yq p.2 q.2.2) kvs xs/\
  ∃o es ep,h.get? a=some o/\o.ExactDict/\o.data=.dict es ep/\es.toList=xs.map (entryOfKey (tupleKind (yn P w)))/\(xs.map (·.1)).Nodup
 |.set S n=>h.SetOf (intKind P w) a S n
 |.ins C dx fs=>H dx=some (.own a)/\fs.length<=1000/\dx≠a/\h.get? a=some (W.instObj C dx)/\
  ∃mA,h.Ns1 dx mA/\(∀f,Xn (fs.lookup f) (mA f))/\PySem.Within mA (fs.map (·.1))
 |.own _=>∃o,h.get? a=some o
 |.xd fs=>∃mA,h.Ns1 a mA/\∀f,Xn (fs.lookup f) (mA f)
 |.rng lo hi=>∃t u v,h.get? a=some {cls:=.type "range",data:=.fields #[.int lo t,.int hi u,.int 1 v]}
 |.frz o u=>h.get? a=some o/\qy H h a u
 |.tbl ps=>h.get? a=some {cls:=.none,data:=.fields ps}
 |.met f x=>h.get? a=some (W.methodObj (.ref f) (.ref x))
 |.ext F=>F h/\(∃o,h.get? a=some o)/\∀h1 h2:Heap,F h1->(∀o,h1.get? a=some o->h2.get? a=some o)->F h2
def cA(H:Hp)(h:Heap):Prop:=∀a o,H a=some o->qy P w H h a o
end
section
variable{H':Hp}
theorem qy.lt(x:qy P w H h a o):a<h.objs.size:=by cases o with|lst c=>obtain⟨_,_,_,_,e⟩:=x;exact ax e|tup c=>obtain⟨_,_,_,p,_⟩:=x;exact p.lt|dK b=>obtain⟨_,_,_,_,o,_,_,e,_⟩:=x;exact ax e|dT b=>obtain⟨_,_,_,_,o,_,_,e,_⟩:=x;exact ax e|set S n=>obtain⟨o,_,_,_,e,_⟩:=x;exact ax e|ins C l d=>obtain⟨_,_,_,e,_⟩:=x;exact ax e|own y=>obtain⟨_,e⟩:=x;exact ax e|xd d=>obtain⟨_,⟨_,_,_,e,_⟩,_⟩:=x;exact ax e|rng lo k=>obtain⟨_,_,_,e⟩:=x;exact ax e|frz j u=>obtain⟨e,_⟩:=x;exact ax e|tbl i=>exact ax (x)|met f y=>exact ax (x)|ext g=>obtain⟨_,⟨_,e⟩,_⟩:=x;exact ax e
theorem Paired.mapP{g e:Type}{F G:g->e->Prop}:∀{d:List g}{c:List e},Paired F d c->(∀a b,F a b->G a b)->Paired G d c|_,_,.nil,_=>.nil|_,_,.cons r t,f=>.cons (f _ _ r) (Paired.mapP t f)
theorem qy.stay(x:qy P w H h a o)(k:∀b u,(b=a\/H b=some (.own a))->h.get? b=some u->h'.get? b=some u)(K:∀b,H b=some (.own a)->H' b=some (.own a)) (G:∀b xs,H b=some (.tup xs)->H' b=some (.tup xs)):qy P w H' h' a o:=by induction o with|lst xs=>obtain⟨z,l,n,r,e⟩:=x;exact⟨z,l,n,r,k _ _ (.inl J) e⟩|tup xs=>obtain⟨z,l,r,⟨g,e,c⟩,E⟩:=x;exact⟨z,l,r,⟨g,k _ _ (.inl J) e,c⟩,E.of e (k _ _ (.inl J) e)⟩|dK A=>obtain⟨z,y,B,r,g,i,j,e,c⟩:=x;exact⟨z,y,B,r,g,i,j,k _ _ (.inl J) e,c⟩| dT A=>obtain⟨z,y,xs,r,g,i,j,e,c⟩:=x;exact⟨z,y,xs,Paired.mapP r λp q z=>⟨z.1,G _ _ z.2.1,z.2.2⟩,g,i,j,k _ _ (.inl J) e,c⟩|set S n=>obtain⟨g,i,j,t,e,c⟩:=x;exact⟨g,i,j,t,k _ _ (.inl J) e,c⟩| ins C U L=>obtain⟨d,z,D,e,s,⟨m,i,j,M,c⟩,r⟩:=x;exact⟨K _ d,z,D,k _ _ (.inl J) e,s,⟨m,i,j,k _ _ (.inr d) M,c⟩,r⟩|own y=>obtain⟨g,e⟩:=x;exact⟨g,k _ _ (.inl J) e⟩|xd L=>obtain⟨s,⟨m,i,j,e,c⟩,r⟩:=x;exact⟨s,⟨m,i,j,k _ _ (.inl J) e,c⟩,r⟩|rng lo R=>obtain⟨t,u,v,e⟩:=x;exact⟨t,u,v,k _ _ (.inl J) e⟩|frz g u F=>obtain⟨e,q⟩:=x;exact⟨k _ _ (.inl J) e,F q⟩| tbl Q=>have e:=x;exact k a _ (.inl J) e| met f y=>have e:=x;exact k a _ (.inl J) e|ext N=>obtain⟨p,⟨o,e⟩,st⟩:=x;exact⟨st _ _ p λo q=>k _ _ (.inl J) q,⟨o,k _ _ (.inl J) e⟩,st⟩
theorem cA.lt(x:cA P w H h)(e:H a=some o):a<h.objs.size:=(x a o e).lt
theorem cA.fresh(x:cA P w H h)(e:h.objs.size<=a):H a=none:=by cases q:H a with|none=>rfl|some u=>exact absurd (ca (x.lt q) e) (dc _)
theorem cA.kept(x:cA P w H h)(k:∀b u,h.get? b=some u->h'.get? b=some u):cA P w H h':=λa o e=>(x a o e).stay (λb u _ q=>k b u q) (λ_ q=>q) λ_ _ q=>q
theorem cA.laid(x:cA P w H h)(k:∀b u,h.get? b=some u->h'.get? b=some u)(i:h.objs.size<=a)(g:qy P w (upd H a o) h' a o):cA P w (upd H a o) h':=λb u e=>by have d:=x.fresh i;by_cases f:b=a;subst f;rw[zf]at e;simp_all;rw[upd_ne f]at e;exact(x b u e).stay (λc v _ q=>k c v q) (λc q=>by rw[upd_ne (zn q d)];exact q) λc j q=>by rw[upd_ne (zn q d)];exact q
end
def Rd(H:Hp)(a:Addr)(u:HO):Prop:=H a=some u\/∃o,H a=some (.frz o u)
theorem Rd.ok(r:Rd H a u)(x:cA P w H h):qy P w H h a u:=by rcases r with r|⟨o,r⟩;exact x a u r;obtain⟨_,q⟩:=x a _ r;exact q
def rM:Option HO->Prop|some (.lst _)=>True|some (.dK _)=>True|some (.dT _)=>True|some (.set _ _)=>True|some (.ins _ _ _)=>True|some (.ext _)=>True|_=>False
section
variable{x e:Addr}{o':HO}
theorem cA.write(m:cA P w H h)(g:rM (H x))(he:e=x\/H e=some (.own x))(k:∀b u,b≠e->h.get? b=some u->h'.get? b=some u)(i:∃u,h'.get? e=some u)(n:qy P w (upd H x o') h' x o'):cA P w (upd H x o') h':=λb u q=>by
 have d:∀c y,H c=some (.own y)->c≠x:=λc y r z=>by subst z;rw[r]at g;exact g
 have a:∀c f,H c=some (.tup f)->c≠x:=λc f r z=>by subst z;rw[r]at g;exact g
 by_cases l:b=x;subst l;rw[zf]at q;simp_all;rw[upd_ne l]at q;by_cases o:b=e;have j:H b=some (.own x):=by simp_all
 rw[q]at j;cases j;obtain⟨v,p⟩:=i;exact⟨v,by simp_all⟩;refine(m b u q).stay (λc v s r=>k c v ?_ r) (λc r=>by rw[upd_ne (d c b r)];exact r) λc f r=>by rw[upd_ne (a c f r)];exact r
 grind
end
structure Un(fs ex:List Addr)(H H':Hp)(h h':Heap):Prop where
 keep:∀b o,h.get? b=some o->H b=none->b ∉ fs->b ∉ ex->h'.get? b=some o
 slot:∀b o,h.get? b=some o->H b=none->b∈fs->b ∉ ex->∃sl,h'.get? b=some {o with slots:=sl}
 free:∀b o,h.get? b=some o->H b=none->b ∉ ex->H' b=none
 there:∀b o,h.get? b=some o->b ∉ ex->∃o',h'.get? b=some o'
 tups:∀b xs,H b=some (.tup xs)->H' b=some (.tup xs)
 frzs:∀b o u,H b=some (.frz o u)->H' b=some (.frz o u)
 tbls:∀b ps,H b=some (.tbl ps)->∃more,H' b=some (.tbl (ps++more))
section
variable{fs pV ex Ou:List Addr}{H1 H2:Hp}{h1 h2:Heap}{x e:Addr}
theorem Un.any(u:Un fs ex H H1 h h1){a:Obj}(q:h.get? b=some a)(n:H b=none)(hx:b ∉ ex):∃sl,h1.get? b=some {a with slots:=sl}:=by by_cases c:b∈fs;exact u.slot b a q n c hx;exact⟨a.slots,u.keep b a q n c hx⟩
theorem Un.kept(k:∀b u,h.get? b=some u->h'.get? b=some u):Un fs ex H H h h':=⟨λb a q _ _ _=>k b a q,λb a q _ _ _=>⟨a.slots,k b a q⟩,λ_ _ _ n _=>n,λb a q _=>⟨a,k b a q⟩,λ_ _ q=>q,λ_ _ _ q=>q,λ_ c q=>⟨#[],by simp_all⟩⟩
theorem Un.refl:Un fs ex H H h h:=Un.kept λ_ _ q=>q
theorem Un.laid(k:∀b u,h.get? b=some u->h'.get? b=some u)(e:h.objs.size<=a)(c:H a=none):Un fs ex H (upd H a o) h h' where
 keep:=λb u q _ _ _=>k b u q
 slot:=λb u q _ _ _=>⟨u.slots,k b u q⟩
 free:=λb u q n _=>by rw[upd_ne (bj (ca (ax q) e))];exact n
 there:=λb u q _=>⟨u,k b u q⟩
 tups:=λb d q=>by rw[upd_ne (zn q c)];exact q
 frzs:=λb u d q=>by rw[upd_ne (zn q c)];exact q
 tbls:=λb f q=>⟨#[],by rw[upd_ne (zn q c),q];simp⟩
theorem Un.write(c:rM (H x))(he:e=x\/H e=some (.own x))(k:∀b u,b≠e->h.get? b=some u->h'.get? b=some u)(g:∃u,h'.get? e=some u):Un fs ex H (upd H x o) h h':=by
 have hx:∀b,H b=none->b≠x:=λb n z=>by subst z;rw[n]at c;exact c
 have d:∀b,H b=none->b≠e:=λb n z=>by simp_all
 have a:∀b u,H b=some u->¬rM (some u)->b≠x:=λb u q j z=>by simp_all
 refine⟨λb u q n _ _=>k b u (d b n) q,λb u q n _ _=>⟨u.slots,k b u (d b n) q⟩,λb u q n _=>by rw[upd_ne (hx b n)];exact n,λb u q _=>?_,λb f q=>by rw[upd_ne (a b _ q λz=>z)];exact q,λb u f q=>by rw[upd_ne (a b _ q λz=>z)];exact q,λb i q=>⟨#[],by rw[upd_ne (a b _ q λz=>z),q];simp⟩⟩
 grind
end
noncomputable def sY(h:Heap)(H:Hp):List Addr:=(List.range h.objs.size).filter λa=>(H a).isSome
noncomputable def lm(h:Heap)(H:Hp):Heap:=W.hideAll h (sY h H)
theorem LE(h:Heap)(H:Hp):(lm h H).objs.size=h.objs.size:=W.hideAll_size _ _
theorem I0{o:Obj}(e:h.get? b=some o)(n:H b=none):(lm h H).get? b=some o:=
 W.hideAll_get _ e λa=>by
  have q:=(f8.mp a).2
  simp_all
theorem HX{o:Obj}(e:(lm h H).get? b=some o):h.get? b=some o/\H b=none:=by
 have a:=W.of_hideAll (sY h H) e;refine⟨a,?_⟩;cases q:H b with|none=>rfl| some x=>
   have c:b∈sY h H:=f8.mpr ⟨du.mpr (ax a),by grind⟩;have z:(lm h H).get? b=none:=W.hideAll_none (sY h H) c
   simp_all
noncomputable def Ga(g h:Heap)(L:Addr):List (Addr×Obj):=(List.range h.objs.size).filterMap λa=>if a=L\/(g.get? a).isSome=true then none else(h.get? a).map λo=>(a,o)
noncomputable def jh(g h:Heap)(L d:Addr):List (Addr×Obj):=(Ga g h L).filter λp=>decide (p.1≠d)
structure Mod(K:W.Frag)(mg:Str->Option Value)(base:Heap):Prop where
 kin:K.In base
 glob:base.Ns mainGlobals mg
 blt:∃mb,base.Ns builtinsNs mb/\∀x:Str,x≠"__name__"->mb x=bootBuiltins x
 nolimit:base.NoLimit
structure Cx where
 prog:Program
 w:World
 K:W.Frag
 mg:Str->Option Value
 base:Heap
 A:Around
 N:List Str
 s₀:Shared
 H₀:Hp
 env:Env
 outer:List Env
 stack:List Env
 ex:List Addr
 fn:Str->Bool
 calm:Bool
 pn:List (Addr×Obj)
 xe:Value->Shared->Prop
noncomputable def bP(l:List Env):List Addr:=l.filterMap (·.frame)
variable{A:Around}{pins bU:List (Addr×Obj)}{σ:List (Option V)}{ch:List Addr}{N:List Str}{i t':Nat}{s:Shared}{x:Str}{Q:Unit->Shared->Prop}{v:V}{u:Value}{E:Value->Shared->Prop}
abbrev Cx.fs(X:Cx):List Addr:=bP X.outer
def oX(F:Scope)(x:Str):Prop:=F.names.lookup x=some .local\/F.names.lookup x=some .cell\/F.names.lookup x=some .free
def Loc(F:Scope)(x:Str):Prop:=F.names.lookup x=some .local\/F.names.lookup x=some .cell
def yO(F:Env)(h:Heap)(m:Str->Option Value)(x:Str)(u:Value):Prop:=(F.kindOf x=some .local/\m x=some u)\/((F.kindOf x=some .cell\/F.kindOf x=some .free)/\∃c,F.cells.lookup x=some c/\h.IsCell c (some u))
structure Cx.Ok(X:Cx):Prop where
 mod:Mod X.K X.mg X.base
 kind:X.env.scope.kind=.function
 glob:X.env.globals=mainGlobals
 blt:X.env.builtins=builtinsNs
 above:X.s₀.heap.objs.size<=X.env.locals
 inj:∀x y c,X.env.cells.lookup x=some c->X.env.cells.lookup y=some c->x=y
 has:∀x,(X.env.kindOf x=some .cell\/X.env.kindOf x=some .free)->∃c,X.env.cells.lookup x=some c
 cab:∀x c,X.fn x=true->X.env.cells.lookup x=some c->X.s₀.heap.objs.size<=c
 hd:X.calm=true->X.A.handled=none
 frames:X.A.frames=some X.stack
 stk:X.stack=X.outer\/(X.stack=X.env::X.outer/\X.env.frame=some X.env.locals)
 exf:∀b∈X.ex,b≠X.env.locals/\∀x c,X.env.cells.lookup x=some c->c≠b
 bs:∀b o,X.base.get? b=some o->X.s₀.heap.get? b=some o/\X.H₀ b=none
 bsz:X.base.objs.size<=X.s₀.heap.objs.size
 noex:∀b o,X.base.get? b=some o->b ∉ X.ex
 exfs:∀b∈X.ex,b ∉ X.fs
 funs:X.s₀.heap.FunFrames X.base X.outer
 frf:∀b∈X.fs,X.H₀ b=none
structure Inv(X:Cx)(pins:List (Addr×Obj))(σ:List (Option V))(H:Hp)(s:Shared):Prop where
 ok:X.Ok
 os:s.os=X.s₀.os
 bare:AllBare s.gens
 base:Un X.fs X.ex X.H₀ H X.s₀.heap s.heap
 loc:∃m,s.heap.Ns X.env.locals m/\∀(i:Nat)(x:Str)(v:V),X.N[i]?=some x->σ[i]?=some (some v)->oX X.env.scope x->∃u,yq v u/\yO X.env s.heap m x u
 cell:∀x c,X.env.cells.lookup x=some c->∃v,s.heap.IsCell c v
 free:H X.env.locals=none
 freeC:∀x c,X.env.cells.lookup x=some c->H c=none
 pin:∀p∈X.pn++pins,s.heap.get? p.1=some p.2/\H p.1=none/\p.1≠X.env.locals/\p.1 ∉ X.fs/\∀v,p.2.data≠ .cell v
 hok:cA X.prog X.w H s.heap
 len:σ.length=X.N.length
section
variable{X:Cx}{H':Hp}
theorem Cx.Ok.nofr(a:X.Ok){o:Obj}(e:X.base.get? b=some o):b ∉ X.fs:=λc=>by
 have:=(a.funs.mem c).1
 simp_all
theorem Inv.bs(I:Inv X pins σ H s):∀b o,X.base.get? b=some o->s.heap.get? b=some o/\H b=none:=λb o e=>⟨I.base.keep b o (I.ok.bs b o e).1 (I.ok.bs b o e).2 (I.ok.nofr e) (I.ok.noex b o e),I.base.free b o (I.ok.bs b o e).1 (I.ok.bs b o e).2 (I.ok.noex b o e)⟩
theorem Inv.bk(I:Inv X pins σ H s):∀b o,X.base.get? b=some o->s.heap.get? b=some o:=λb o e=>(I.bs b o e).1
theorem Inv.mod(I:Inv X pins σ H s):Mod X.K X.mg X.base:=I.ok.mod
theorem Inv.kIn(I:Inv X pins σ H s):X.K.In s.heap:=I.ok.mod.kin.keeps I.bk
theorem Inv.lt(I:Inv X pins σ H s):X.env.locals<s.heap.objs.size:=let⟨_,a,_⟩:=I.loc;a.lt
theorem Inv.sz(I:Inv X pins σ H s):X.s₀.heap.objs.size<=s.heap.objs.size:=cr I.ok.above (Nat.le_of_lt I.lt)
theorem Inv.nofs(I:Inv X pins σ H s)(h:s.heap.objs.size<=a):a ∉ X.fs:=λc=>by obtain⟨_,o,b,_⟩:=I.ok.funs.mem c;exact absurd (ca (ax b) (cr I.sz h)) (dc _)
theorem Inv.cne(I:Inv X pins σ H s):∀x c,X.env.cells.lookup x=some c->c≠X.env.locals:=λx c e z=>by
 obtain⟨v,o,f,g⟩:=I.cell x c e;obtain⟨m,⟨d,h,i,a,b,_⟩,_⟩:=I.loc
 simp_all
theorem Inv.funs(I:Inv X pins σ H s):s.heap.FunFrames X.base X.outer:=by
 have d:∀(l:O Env),(∀b∈bP l,b∈X.fs)->X.s₀.heap.FunFrames X.base l->s.heap.FunFrames X.base l:=by intro l;induction l with|nil=>intro _ _;trivial| cons p r h=>intro f m;obtain⟨hk,⟨L,o,g,k,j,n⟩,i⟩:=m;have c:=f L (by unfold bP;simp_all);obtain⟨q,e⟩:=I.base.slot L o j (I.ok.frf L c) c λz=>I.ok.exfs L z c;exact⟨hk,⟨L,_,g,k,e,n⟩,h (λb a=>f b (by unfold bP;rw[List.filterMap_cons,g];exact bn _ a)) i⟩
 exact d X.outer (λ_ a=>a) I.ok.funs
theorem Inv.stack(I:Inv X pins σ H s):s.heap.FunFrames X.base X.stack:=by rcases I.ok.stk with e|⟨e,b⟩;rw[e];exact I.funs;rw[e];obtain⟨m,a,_⟩:=I.loc;refine .cons (by rw[I.ok.kind];decide) b a ?_ I.funs;exact Heap.get?_none_of_le (cr I.ok.bsz I.ok.above)
theorem Inv.stkSub(I:Inv X pins σ H s):∀b∈bP X.stack,b∈X.env.locals::X.fs:=λb a=>by
 rcases I.ok.stk with e|⟨e,c⟩
 simp_all
 rw[e]at a;unfold bP at a;rw[List.filterMap_cons,c]at a;exact a
theorem Inv.stkFree(I:Inv X pins σ H s):∀b∈bP X.stack,H b=none:=λb a=>by rcases ak.mp (I.stkSub b a)with e|a;rw[e];exact I.free;obtain⟨_,o,c,_⟩:=I.ok.funs.mem a;exact I.base.free b o c (I.ok.frf b a) λz=>I.ok.exfs b z a
theorem Inv.step{R:Array GenState}{d':Drawn}(I:Inv X pins σ H s)(f:∀b∈ch,(b∈X.ex\/X.s₀.heap.objs.size<=b)/\b≠X.env.locals/\(∀x c,X.env.cells.lookup x=some c->c≠b)/\∀p∈X.pn++pins,p.1≠b)
  (keep:∀b o,b≠X.env.locals->b ∉ X.fs->b ∉ ch->s.heap.get? b=some o->H b=none->h'.get? b=some o)
  (t:∀b o,b≠X.env.locals->b∈X.fs->b ∉ ch->s.heap.get? b=some o->H b=none->∃sl,h'.get? b=some {o with slots:=sl}) (free:∀b o,b ∉ ch->s.heap.get? b=some o->H b=none->H' b=none)
  (w:∀b o,b ∉ ch->s.heap.get? b=some o->∃o',h'.get? b=some o')
  (B:∀b xs,H b=some (.tup xs)->H' b=some (.tup xs)) (F:∀b o u,H b=some (.frz o u)->H' b=some (.frz o u)) (C:∀b ps,H b=some (.tbl ps)->∃E,H' b=some (.tbl (ps++E)))
  (S:∀m,s.heap.Ns X.env.locals m->h'.Ns X.env.locals m) (hok:cA X.prog X.w H' h') (hg:AllBare R):
  Inv X pins σ H' {s with heap:=h',gens:=R,drawn:=d',toks:=t'}:=by
 have D:∀b o,X.s₀.heap.get? b=some o->b≠X.env.locals:=λb o e=>bj (ca (ax e) I.ok.above);have h:∀b o,X.s₀.heap.get? b=some o->b ∉ X.ex->b ∉ ch:=λb o e hx y=>by rcases(f b y).1 with z|z;exact hx z;exact absurd (ca (ax e) z) (dc _)
 have g:∀x c,X.env.cells.lookup x=some c->∀v,s.heap.IsCell c v->h'.IsCell c v:=λx c e v ⟨o,A,L⟩=>by have a:c ∉ ch:=λz=>(f c z).2.2.1 x c e J;by_cases Q:c∈X.fs;obtain⟨sl,q⟩:=t c o (I.cne x c e) Q a A (I.freeC x c e);exact⟨_,q,L⟩;exact⟨o,keep c o (I.cne x c e) Q a A (I.freeC x c e),L⟩
 refine⟨I.ok,I.os,hg,⟨λb o e n y hx=>?_,λb o e n y hx=>?_,λb o e n hx=>?_,λb o e hx=>?_,λb xs e=>B b xs (I.base.tups b xs e),λb o xs e=>F b o xs (I.base.frzs b o xs e),λb ps e=>?_⟩,?_,λx c e=>?_,?_,λx c e=>?_,λp P=>?_,hok,I.len⟩;exact keep b o (D b o e) y (h b o e hx) (I.base.keep b o e n y hx) (I.base.free b o e n hx);obtain⟨sl,j⟩:=I.base.slot b o e n y hx;obtain⟨K,G⟩:=t b _ (D b o e) y (h b o e hx) j (I.base.free b o e n hx);exact⟨K,G⟩;obtain⟨o',j⟩:=I.base.there b o e hx;exact free b o' (h b o e hx) j (I.base.free b o e n hx);obtain⟨o',j⟩:=I.base.there b o e hx;exact w b o' (h b o e hx) j;obtain⟨W,j⟩:=I.base.tbls b ps e;obtain⟨U,G⟩:=C b _ j;exact⟨W++U,by rw[G,Array.append_assoc]⟩;obtain⟨m,Z,hl⟩:=I.loc;refine⟨m,S m Z,λi x v j G e3=>?_⟩;obtain⟨u,r,l⟩:=hl i x v j G e3;refine⟨u,r,?_⟩;rcases l with l|⟨k,c,e,z⟩;exact .inl l;exact .inr ⟨k,c,e,g x c e _ z⟩;obtain⟨v,z⟩:=I.cell x c e;exact⟨v,g x c e v z⟩;obtain⟨m,⟨o,_,_,A,_⟩,_⟩:=I.loc;exact free _ o (λz=>(f _ z).2.1 J) A I.free;obtain⟨v,o,A,L⟩:=I.cell x c e;exact free c o (λz=>(f c z).2.2.1 x c e J) A (I.freeC x c e);obtain⟨e,n,N,M,d⟩:=I.pin p P;have a:p.1 ∉ ch:=λz=>(f p.1 z).2.2.2 p P J;exact⟨keep p.1 p.2 N M a e n,free p.1 p.2 a e n,N,M,d⟩
theorem Inv.un(I:Inv X pins σ H s)(u:Un X.fs [] H H' s.heap h')(hok:cA X.prog X.w H' h'):Inv X pins σ H' {s with heap:=h',toks:=t'}:=by obtain⟨m,⟨o,q,t,g,r⟩,_⟩:=id I.loc;obtain⟨k,j⟩:=u.any g I.free (by simp);exact I.step (ch:=[]) (λ_ z=>nomatch z) (λb o _ c _ e n=>u.keep b o e n c (by simp)) (λb o _ c _ e n=>u.slot b o e n c (by simp)) (λb o _ e n=>u.free b o e n (by simp)) (λb o _ e=>u.there b o e (by simp)) u.tups u.frzs u.tbls (λp i=>by obtain⟨l,d,f,a,h⟩:=i;rw[g]at a;cases a;exact⟨_,d,f,j,h⟩) hok I.bare
theorem Inv.call{k:Array GenState}{d':Drawn}(I:Inv X pins σ H s)(u:Un (bP X.stack) ch H H' s.heap h')(hok:cA X.prog X.w H' h')(t:AllBare k)(f:∀b∈ch,(b∈X.ex\/X.s₀.heap.objs.size<=b)/\b≠X.env.locals/\(∀x c,X.env.cells.lookup x=some c->c≠b)/\∀p∈X.pn++pins,p.1≠b):
  Inv X pins σ H' {s with heap:=h',gens:=k,drawn:=d',toks:=t'}:=by obtain⟨m,⟨o,B,C,j,r⟩,_⟩:=id I.loc;obtain⟨w,g⟩:=u.any j I.free λz=>(f _ z).2.1 J;exact I.step f (λb o g v a e n=>u.keep b o e n (λz=>(ak.mp (I.stkSub b z)).elim g v) a) (λb o _ _ a e n=>u.any e n a) (λb o a e n=>u.free b o e n a) (λb o a e=>u.there b o e a) u.tups u.frzs u.tbls (λA q=>by obtain⟨y,h,i,d,l⟩:=q;rw[j]at d;cases d;exact⟨_,h,i,g,l⟩) hok t
theorem Inv.turned{a:Y}(I:Inv X pins σ H s)(k:∀b o,b≠a->s.heap.get? b=some o->h'.get? b=some o)(w:H a=none)(i:a≠X.env.locals)(C:a∈X.ex\/X.s₀.heap.objs.size<=a) (B:∀x c,X.env.cells.lookup x=some c->c≠a) (A:∀p∈X.pn++pins,p.1≠a):Inv X pins σ H {s with heap:=h',toks:=t'}:=by
 have f:∀b u,H b=some u->b≠a:=λb u e z=>by simp_all
 refine I.step (ch:=[a]) (λb y=>?_) (λb o _ _ d e _=>k b o (λz=>d (by grind)) e) (λb o _ _ d e _=>⟨o.slots,k b o (λz=>d (by grind)) e⟩) (λ_ _ _ _ n=>n)
  (λb o d e=>⟨o,k b o (λz=>d (by grind)) e⟩) (λ_ _ e=>e) (λ_ _ _ e=>e) (λb t e=>⟨#[],by simp_all⟩) (λm h=>?_) (λb u e=>?_) I.bare
 grind
 obtain⟨o,j,l,g,r⟩:=h;exact⟨o,j,l,k _ o (au i) g,r⟩;refine(I.hok b u e).stay (λc v d q=>k c v ?_ q) (λ_ q=>q) λ_ _ q=>q
 grind
theorem Inv.tok(I:Inv X pins σ H s)(t:Nat):Inv X pins σ H {s with toks:=t}:=I.un Un.refl I.hok
theorem Inv.kept{t':Nat}(I:Inv X pins σ H s)(k:∀b u,s.heap.get? b=some u->h'.get? b=some u):Inv X pins σ H {s with heap:=h',toks:=t'}:=I.un (Un.kept k) (I.hok.kept k)
theorem Inv.laid{a:Y}{o:HO}{t':Nat}(I:Inv X pins σ H s)(k:∀b u,s.heap.get? b=some u->h'.get? b=some u)(d:s.heap.objs.size<=a)(c:qy X.prog X.w (upd H a o) h' a o):Inv X pins σ (upd H a o) {s with heap:=h',toks:=t'}:=I.un (Un.laid k d (I.hok.fresh d)) (I.hok.laid k d c)
theorem Inv.write{x e:Y}{o:HO}{t':Nat}(I:Inv X pins σ H s)(d:rM (H x))(he:e=x\/H e=some (.own x))(k:∀b u,b≠e->s.heap.get? b=some u->h'.get? b=some u)(a:∃u,h'.get? e=some u)(c:qy X.prog X.w (upd H x o) h' x o):Inv X pins σ (upd H x o) {s with heap:=h',toks:=t'}:=I.un (Un.write d he k a) (I.hok.write d he k a c)
theorem Inv.pins_of(I:Inv X pins σ H s)(h:∀p∈bU,s.heap.get? p.1=some p.2/\H p.1=none/\p.1≠X.env.locals/\p.1 ∉ X.fs/\∀v,p.2.data≠ .cell v):Inv X bU σ H s:=⟨I.ok,I.os,I.bare,I.base,I.loc,I.cell,I.free,I.freeC,λp a=>(ce.mp a).elim (λz=>I.pin p (fb _ z)) (h p),I.hok,I.len⟩
theorem xR(c:N.Nodup){j:Nat}(a:N[i]?=some x)(b:N[j]?=some x):i=j:=by obtain⟨g,e⟩:=ci.mp a;obtain⟨f,d⟩:=ci.mp b;exact(List.getElem_inj c).mp (e.trans d.symm)
theorem CA{M:Model}(I:Inv X pins σ H s)(hN:X.N.Nodup)(P:X.N[i]?=some x)(hx:Loc X.env.scope x)(r:yq v u)(h:∀s',Inv X pins (σ.set i (some v)) H s'->(∃a,Heap.SameBut a s.heap s'.heap/\(a=X.env.locals\/X.env.cells.lookup x=some a))->Q () s') (hf:X.fn x=true\/X.env.scope.names.lookup x=some .local:=by first|exact .inl J|exact .inr J|assumption):wpAny M A (storeName X.env x u) Q E s:=by
 obtain⟨m,hn,hl⟩:=id I.loc;have L:(X.env.scope.kind==.class ||(X.env.scope.kind==.module && X.env.locals !=X.env.globals))=false:=by rw[I.ok.kind];rfl
 have B:i<σ.length:=by rw[I.len];grind
 have G:=I.cne;have g:∀{a:Y}{K:Heap},(∃o,s.heap.get? a=some o/\H a=none)->Heap.SameBut a s.heap K->cA X.prog X.w H K:=λ{a K} ha f b ob e=>by
  obtain⟨_,_,av⟩:=ha;refine(I.hok b ob e).stay (λc S t q=>(f.2 c ?_).trans q) (λ_ q=>q) λ_ _ q=>q
  grind
 rcases hx with hk|hk;refine wpAny_storeName_local hk hn (λK ap f=>?_) L;obtain⟨oL,_,_,ah,_⟩:=id hn;refine h _ ⟨I.ok,I.os,I.bare,⟨λb o e n F hx=>?_,λb o e n F hx=>?_,I.base.free,λb o e hx=>?_,I.base.tups,I.base.frzs,I.base.tbls⟩,⟨_,ap,λj y U l w e3=>?_⟩,λy c e=>?_,I.free,I.freeC,λp hp=>?_,g ⟨oL,ah,I.free⟩ f,by simpa using I.len⟩ ⟨_,f,.inl J⟩;exact(f.2 b (bj (ca (ax e) I.ok.above))).trans (I.base.keep b o e n F hx);obtain⟨Z,l⟩:=I.base.slot b o e n F hx;exact⟨Z,(f.2 b (bj (ca (ax e) I.ok.above))).trans l⟩;obtain⟨o',l⟩:=I.base.there b o e hx;exact⟨o',(f.2 b (bj (ca (ax e) I.ok.above))).trans l⟩;by_cases C:j=i;subst C;rw[P]at l;cases l;rw[List.getElem?_set_self B]at w;cases w;exact⟨u,r,.inl ⟨hk,by simp⟩⟩;rw[List.getElem?_set_ne (au C)]at w;obtain⟨W,r',q⟩:=hl j y U l w e3;refine⟨W,r',?_⟩;rcases q with⟨k,e⟩|⟨k,c,e,z⟩;refine .inl ⟨k,?_⟩;have:y≠x:=λe=>C (xR hN l (e▸P))
 simp_all
 exact .inr ⟨k,c,e,z.sameBut f (G y c e)⟩;obtain⟨S,z⟩:=I.cell y c e;exact⟨S,z.sameBut f (G y c e)⟩;obtain⟨e,n,N,nf,d⟩:=I.pin p hp;exact⟨(f.2 p.1 N).trans e,n,N,nf,d⟩;have D:X.fn x=true:=by simp_all
 obtain⟨c,t⟩:=I.ok.has x (.inl hk);obtain⟨S,z⟩:=I.cell x c t;refine wpAny_storeName_cell I.ok.kind hk t z (λK ay f=>?_);obtain⟨oc,af,aS⟩:=id z;refine h {s with heap:=K} ⟨I.ok,I.os,I.bare,⟨λb o e n F hx=>?_,λb o e n F hx=>?_,I.base.free,λb o e hx=>?_,I.base.tups,I.base.frzs,I.base.tbls⟩,⟨m,hn.sameBut f (au (G x c t)),λj y U l w e3=>?_⟩,λy R e=>?_,I.free,I.freeC,λp hp=>?_,g ⟨oc,af,I.freeC x c t⟩ f,by simpa using I.len⟩ ⟨c,f,.inr t⟩;exact(f.2 b (bj (ca (ax e) (I.ok.cab x c D t)))).trans (I.base.keep b o e n F hx);obtain⟨Z,l⟩:=I.base.slot b o e n F hx;exact⟨Z,(f.2 b (bj (ca (ax e) (I.ok.cab x c D t)))).trans l⟩;obtain⟨o',l⟩:=I.base.there b o e hx;exact⟨o',(f.2 b (bj (ca (ax e) (I.ok.cab x c D t)))).trans l⟩;by_cases C:j=i;subst C;rw[P]at l;cases l;rw[List.getElem?_set_self B]at w;cases w;exact⟨u,r,.inr ⟨.inl hk,c,t,ay⟩⟩;rw[List.getElem?_set_ne (au C)]at w;obtain⟨W,r',q⟩:=hl j y U l w e3;refine⟨W,r',?_⟩;rcases q with q|⟨k,R,e,z'⟩;exact .inl q;refine .inr ⟨k,R,e,z'.sameBut f ?_⟩;rintro rfl;exact C (xR hN l (I.ok.inj _ _ _ e t▸P));by_cases aw:R=c
 grind
 obtain⟨w2,z2⟩:=I.cell y R e;exact⟨w2,z2.sameBut f aw⟩;obtain⟨e,n,N,nf,d⟩:=I.pin p hp;refine⟨(f.2 p.1 ?_).trans e,n,N,nf,d⟩
 grind
theorem V4{M:Model}(I:Inv X pins σ H s)(c:X.N.Nodup)(a:X.N[i]?=some x)(hx:Loc X.env.scope x)(r:yq v u)(h:∀s',Inv X pins (σ.set i (some v)) H s'->Q () s') (b:X.fn x=true\/X.env.scope.names.lookup x=some .local:=by first|exact .inl J|exact .inr J|assumption):wpAny M A (storeName X.env x u) Q E s:=
 CA I c a hx r (λs' d _=>h s' d) b
theorem Inv.call'{s':Shared}(I:Inv X pins σ H s)(d:s'.os=s.os)(u:Un (bP X.stack) ch H H' s.heap s'.heap)(hok:cA X.prog X.w H' s'.heap)(f:AllBare s'.gens)(a:∀b∈ch,(b∈X.ex\/X.s₀.heap.objs.size<=b)/\b≠X.env.locals/\(∀x c,X.env.cells.lookup x=some c->c≠b)/\∀p∈X.pn++pins,p.1≠b):Inv X pins σ H' s':=by obtain⟨i,j,k,g,h⟩:=s';have e:=d;subst e;exact I.call u hok f a
end
abbrev XK:=Value->Option Addr->Hp->Prop
abbrev St:=List (Option V)
abbrev VK:=V->Hp->Prop
abbrev TE:=St->Hp->VK->Prop
abbrev TT:=St->Hp->(Bool->Hp->Prop)->Prop
abbrev TA:=St->Hp->(List V->Hp->Prop)->Prop
structure Ends where
 nx:St->Hp->Prop
 rt:VK
 bk:St->Hp->Prop:=λ_ _=>False
 ct:St->Hp->Prop:=λ_ _=>False
variable{X:Cx}{c e:Expr}{N7:List Stmt}{aE:Pos}{σ:St}{Q:Value->Shared->Prop}
abbrev TS:=Ends->St->Hp->Prop
abbrev Ends.sq(D:Ends)(u:TS):Ends:={D with nx:=u D}
abbrev Ends.lp(D:Ends)(N:St->Hp->Prop):Ends:={D with nx:=N,ct:=N,bk:=D.nx}
abbrev Ends.of(Q:VK):Ends:={nx:=λ_ H'=>Q .non H',rt:=Q}
inductive EP(X:Cx)(pins:List (Addr×Obj))(σ:St)(Q:VK)(u:Value)(s':Shared):Prop|mk:∀v H',Inv X pins σ H' s'->yq v u->Q v H'->EP X pins σ Q u s'
inductive TP(X:Cx)(pins:List (Addr×Obj))(σ:St)(Q:Bool->Hp->Prop)(b:Bool)(s':Shared):Prop|mk:∀H',Inv X pins σ H' s'->Q b H'->TP X pins σ Q b s'
inductive AP(X:Cx)(pins:List (Addr×Obj))(σ:St)(Q:List V->Hp->Prop)(us:List Value)(s':Shared):Prop|mk:∀vs H',Inv X pins σ H' s'->yu vs us->Q vs H'->AP X pins σ Q us s'
def SP(X:Cx)(F:List (Addr×Obj))(D:Ends)(f:Flow)(s':Shared):Prop:=match f with|.next=>∃σ' H',Inv X F σ' H' s'/\D.nx σ' H'|.brk=>∃σ' H',Inv X F σ' H' s'/\D.bk σ' H'|.cont=>∃σ' H',Inv X F σ' H' s'/\D.ct σ' H'|.ret u=>∃v σ' H',Inv X F σ' H' s'/\yq v u/\D.rt v H'
def PE(X:Cx)(e:Expr)(t:TE):Prop:=∀(pins:List (Addr×Obj))(s:Shared)(σ:St)(H:Hp)(Q:VK),Inv X pins σ H s->t σ H Q->wpAny (model X.prog X.w) X.A (eval e X.env) (EP X pins σ Q) X.xe s
def PT(X:Cx)(e:Expr)(t:TT):Prop:=∀(pins:List (Addr×Obj))(s:Shared)(σ:St)(H:Hp)(Q:Bool->Hp->Prop),Inv X pins σ H s->t σ H Q->wpAny (model X.prog X.w) X.A (isTrue e X.env (eval e X.env)) (TP X pins σ Q) X.xe s
def PW(X:Cx)(e:Expr)(t:TT):Prop:=∀(F:Sem Value)(pins:List (Addr×Obj))(s:Shared)(σ:St)(H:Hp)(Q:Bool->Hp->Prop),Inv X pins σ H s->t σ H Q->wpAny (model X.prog X.w) X.A (isTrue e X.env F) (TP X pins σ Q) X.xe s
theorem PW.pt{t:TT}(h:PW X e t):PT X e t:=h _
def PA(X:Cx)(F:List Expr)(t:TA):Prop:=∀(aE:Pos)(pins:List (Addr×Obj))(s:Shared)(σ:St)(H:Hp)(Q:List V->Hp->Prop),Inv X pins σ H s->t σ H Q->wpAny (model X.prog X.w) X.A (spliced (backTo aE (starEach F X.env))) (AP X pins σ Q) X.xe s
def PS(X:Cx)(st:Stmt)(t:TS):Prop:=∀(pins:List (Addr×Obj))(s:Shared)(σ:St)(H:Hp)(D:Ends),Inv X pins σ H s->t D σ H->wpAny (model X.prog X.w) X.A (exec st X.env) (SP X pins D) X.xe s
def dZ(X:Cx)(st:List Stmt)(t:TS):Prop:=∀(pins:List (Addr×Obj))(s:Shared)(σ:St)(H:Hp)(D:Ends),Inv X pins σ H s->t D σ H->wpAny (model X.prog X.w) X.A (execs st X.env) (SP X pins D) X.xe s
theorem aF{b:Type}{t:Sem b}{Q c:b->Shared->Prop}{M:Model}(h:wpAny M A t Q E s)(d:∀a s,Q a s->c a s):wpAny M A t c E s:=cz h d λ_ _ x=>x
section
def oV:Option (Option V)->(V->Prop)->Prop|some (some v),f=>f v|_,_=>False
theorem Ai{o:Option (Option V)}{f:V->Prop}(h:oV o f):∃v,o=some (some v)/\f v:=by match o,h with|some (some v),h=>exact⟨v,J,h⟩
theorem zN{o:Option (Option V)}{f:V->Prop}(e:o=some (some v))(h:f v):oV o f:=by rw[e];exact h
def kF(i:Nat)(F:St)(H:Hp)(Q:VK):Prop:=oV F[i]? λv=>Q v H
def tC(v:V):TE:=λ_ H Q=>Q v H
theorem uV(t:X.N[i]?=some x)(n:oX X.env.scope x)(f:(x==("__debug__":Str))=false:=by decide)(g:(x==("__classdict__":Str))=false:=by decide):PE X (.Name x aE) (kF i):=by
 intro d s k H Q I h;replace h:=Ai h;obtain⟨v,e,h⟩:=h;obtain⟨m,o,q⟩:=I.loc;obtain⟨u,r,l⟩:=q i x v t e n;have b:EP X d k Q u s:=⟨v,H,I,r,h⟩
 rcases l with⟨hk,p⟩|⟨hk,c,j,a⟩;exact wpAny_Name (wpAny_loadName_local I.ok.kind hk o p b) f;rcases hk with hk|hk;exact wpAny_Name (wpAny_loadName_cell I.ok.kind hk j a b) f;exact wpAny_Name (wpAny_loadName_free I.ok.kind hk j a b g) f
theorem zg{i j a}:PE X (.Constant (.int i) j a) (tC (.int i)):=λ_ _ _ H _ I h=>wpAny_Constant_int ⟨.int i,H,I.tok _,⟨_,J⟩,h⟩
theorem wr{b j a}:PE X (.Constant (.bool b) j a) (tC (.bl b)):=λ_ _ _ H _ I h=>Constant_bool ⟨.bl b,H,I,J,h⟩
theorem X9{j a}:PE X (.Constant .none j a) (tC .non):=λ_ _ _ H _ I h=>Constant_none ⟨.non,H,I,J,h⟩
theorem zo{x j a}:PE X (.Constant (.str x) j a) (tC (.str x)):=λ_ _ _ H _ I h=>Calls.Constant_str ⟨.str x,H,I.tok _,⟨_,J⟩,h⟩
def Gl(X:Cx)(x:Str):Prop:=X.env.kindOf x=some .globalImplicit
theorem W0(I:Inv X pins σ H s)(b:Gl X x)(a:X.mg x=some u)(h:Q u s)(c:(x==("__debug__":Str))=false:=by decide):wpAny (model X.prog X.w) X.A (eval (.Name x aE) X.env) Q E s:=
 Calls.Name_function_global I.ok.kind b (Calls.loadGlobal_global (by rw[I.ok.glob];exact I.mod.glob.keeps I.bk) a h) c
theorem Wf(I:Inv X pins σ H s)(d:Gl X x)(c:X.mg x=none)(a:bootBuiltins x=some u)(h:Q u s)(b:x≠"__name__":=by decide) (e:(x==("__debug__":Str))=false:=by decide):wpAny (model X.prog X.w) X.A (eval (.Name x aE) X.env) Q E s:=by obtain⟨i,g,f⟩:=I.mod.blt;exact Calls.Name_function_global I.ok.kind d (Calls.loadGlobal_builtin (by rw[I.ok.glob];exact I.mod.glob.keeps I.bk) c (by rw[I.ok.blt];exact g.keeps I.bk) ((f x b).trans a) h) e
theorem vX(b:Gl X x)(a:X.mg x=some u)(r:yq v u)(c:(x==("__debug__":Str))=false:=by decide):PE X (.Name x aE) (tC v):=λ_ _ _ H _ I h=>W0 I b a ⟨v,H,I,r,h⟩ c
theorem AW(d:Gl X x)(c:X.mg x=none)(a:bootBuiltins x=some u)(r:yq v u)(b:x≠"__name__":=by decide)(e:(x==("__debug__":Str))=false:=by decide):PE X (.Name x aE) (tC v):=λ_ _ _ H _ I h=>Wf I d c a ⟨v,H,I,r,h⟩ b e
variable{a b:Expr}{ta tb:TE}
def PC(X:Cx)(U:CmpOp)(a b:Expr)(t:TE):Prop:=
 ∀ (pins:List (Addr×Obj)) (s:Shared) (σ:St) (H:Hp) (Q:VK),Inv X pins σ H s->t σ H Q->
   wpAny (model X.prog X.w) X.A (eval a X.env) (λv F=>wpAny (model X.prog X.w) X.A (eval b X.env) (λu s₂=>wpAny (model X.prog X.w) X.A (compareOp U v u) (EP X pins σ Q) X.xe s₂) X.xe F) X.xe s
theorem Bz(b:Expr){a:CmpOp}(h:a≠ .In)(e:a≠ .NotIn):behindInMarks a b=false:=by
 have d:(a==CmpOp.In)=false:=by simp_all
 have c:(a==CmpOp.NotIn)=false:=by simp_all
 cases b<;>simp[behindInMarks,d,c]
def zD(ta:TE):TE:=λσ H Q=>ta σ H λx H1=>Q (.bl (decide (x=.non))) H1
def E9(ta:TE):TE:=λσ H Q=>ta σ H λx H1=>Q (.bl (!decide (x=.non))) H1
theorem yq.none_iff{x:V}{v:Value}(r:yq x v):(v==Value.none)=decide (x=.non):=by cases x with|non=>cases r;rfl|bl _=>cases r;rfl|int _=>obtain⟨t,rfl⟩:=r;rfl|str _=>obtain⟨t,rfl⟩:=r;rfl|byt _=>obtain⟨t,rfl⟩:=r;rfl|flt _=>obtain⟨t,rfl⟩:=r;rfl|ref _=>cases r;rfl|ty _=>cases r;rfl
theorem sL{j g}(f:PE X a ta):PC X .Is a (.Constant .none j g) (zD ta):=by intro b s c H Q I h;refine aF (f b s c H _ I h) λv l ⟨x,k,i,d,e⟩=>?_;exact Constant_none (is_none_gen ⟨.bl _,k,i,by rw[d.none_iff];rfl,e⟩)
theorem AV{j g}(f:PE X a ta):PC X .IsNot a (.Constant .none j g) (E9 ta):=by intro b s c H Q I h;refine aF (f b s c H _ I h) λv l ⟨x,k,i,d,e⟩=>?_;exact Constant_none (isnot_none_gen ⟨.bl _,k,i,by rw[d.none_iff];rfl,e⟩)
inductive Db(Q:Bool->Hp->Prop)(x:V)(H1:Hp):Prop|mk:∀c,x=.bl c->Q c H1->Db Q x H1
def tB(t:TE):TT:=λσ H Q=>t σ H λx H1=>Db Q x H1
theorem uT{d:CmpOp}{t:TE}(h:PC X d a b t)(g:behindInMarks d b=false:=by first|exact Bz _ (by decide) (by decide)|rfl):PE X (.Compare a [d] [b] aE) t:=λc s e H Q I f=>wpAny_Compare1 (h c s e H Q I f) g
theorem Jh{f:CmpOp}{t:TE}(h:PC X f a b t)(g:behindInMarks f b=false:=by first|exact Bz _ (by decide) (by decide)|rfl):PT X (.Compare a [f] [b] aE) (tB t):=by intro e s i H Q I l;refine wpAny_isTrue_Compare1 (aF (h e s i H _ I l) λv w g=>aF g λu r m=>aF m λc p ⟨x,o,n,j,k⟩=>?_) g;obtain⟨d,rfl,q⟩:=k;cases j;exact wpAny_truthy_bool ⟨o,n,q⟩
theorem xu{t:TE}(h:PE X e t)(he:∀a,isTrue e X.env a=(do let v<-a;standAt e.pos;holding [v] (truthy v)):=by intro _;rfl):PT X e (tB t):=by intro b s c H Q I i;refine isTrue_plain (aF (h b s c H _ I i) λv l ⟨x,k,j,f,g⟩=>?_) (he _);obtain⟨d,rfl,q⟩:=g;cases f;exact wpAny_truthy_bool ⟨k,j,q⟩
variable{tA tj:TT}{jh:List Expr}
def rV(t u:TT):TT:=λσ H Q=>t σ H λc H1=>if c=true then u σ H1 Q else Q false H1
def N4(t u:TT):TT:=λσ H Q=>t σ H λc H1=>if c=true then Q true H1 else u σ H1 Q
def DW(t:TT):TT:=λσ H Q=>t σ H λc H1=>Q (!c) H1
theorem Xd(f:PT X a tA):PW X (.BoolOp .And [a] aE) tA:=by intro g b s d H Q I h;refine isTrue_and (aF (f b s d H Q I h) λc i e=>?_);cases c with|true=>exact isTrue_and_nil e|false=>exact e
theorem Ye(f:PT X a tA):PW X (.BoolOp .Or [a] aE) tA:=by intro g b s d H Q I h;refine isTrue_or (aF (f b s d H Q I h) λc i e=>?_);cases c with|false=>exact isTrue_or_nil e|true=>exact e
theorem X4(m:PT X a tA)(l:PW X (.BoolOp .And (b::jh) aE) tj):PW X (.BoolOp .And (a::b::jh) aE) (rV tA tj):=by intro j d s e H Q I h;refine isTrue_and (aF (m d s e H _ I h) λc k ⟨i,g,f⟩=>?_);cases c with|true=>exact l j d k e i Q g f|false=>exact⟨i,g,f⟩
theorem Xr(m:PT X a tA)(l:PW X (.BoolOp .Or (b::jh) aE) tj):PW X (.BoolOp .Or (a::b::jh) aE) (N4 tA tj):=by intro j d s e H Q I h;refine isTrue_or (aF (m d s e H _ I h) λc k ⟨i,g,f⟩=>?_);cases c with|true=>exact⟨i,g,f⟩|false=>exact l j d k e i Q g f
theorem xz(e:PT X a tA):PT X (.UnaryOp .Not a aE) (DW tA):=by intro b s d H Q I h;exact isTrue_not (aF (e b s d H (λc f=>Q (!c) f) I h) λ_ _ ⟨g,i,q⟩=>⟨g,i,q⟩)
inductive hJ(tb:TE)(σ:St)(Q:VK)(x:V)(H1:Hp):Prop|mk:∀c,x=.bl c->(if c=true then tb σ H1 Q else Q (.bl false) H1)->hJ tb σ Q x H1
def Ez(ta tb:TE):TE:=λσ H Q=>ta σ H λx H1=>hJ tb σ Q x H1
inductive lx(tb:TE)(σ:St)(Q:VK)(x:V)(H1:Hp):Prop|mk:∀c,x=.bl c->(if c=true then Q (.bl true) H1 else tb σ H1 Q)->lx tb σ Q x H1
def DX(ta tb:TE):TE:=λσ H Q=>ta σ H λx H1=>lx tb σ Q x H1
inductive gW(Q:VK)(x:V)(H1:Hp):Prop|mk:∀c,x=.bl c->Q (.bl (!c)) H1->gW Q x H1
def Fa(ta:TE):TE:=λσ H Q=>ta σ H λx H1=>gW Q x H1
theorem Zl{d}{t:TE}(h:PE X a t):PE X (.BoolOp d [a] aE) t:=λb s c H Q I e=>BoolOp_one (h b s c H Q I e)
theorem Zm(m:PE X a ta)(l:PE X (.BoolOp .And (b::jh) aE) tb):PE X (.BoolOp .And (a::b::jh) aE) (Ez ta tb):=by intro d s f H Q I h;refine BoolOp_and (aF (m d s f H _ I h) λv j ⟨x,i,g,k,e⟩=>?_);obtain⟨c,rfl,e⟩:=e;cases k;refine wpAny_truthy_bool ?_;cases c with|true=>exact l d j f i Q g e|false=>exact⟨.bl false,i,g,J,e⟩
theorem zO(m:PE X a ta)(l:PE X (.BoolOp .Or (b::jh) aE) tb):PE X (.BoolOp .Or (a::b::jh) aE) (DX ta tb):=by intro d s f H Q I h;refine BoolOp_or (aF (m d s f H _ I h) λv j ⟨x,i,g,k,e⟩=>?_);obtain⟨c,rfl,e⟩:=e;cases k;refine wpAny_truthy_bool ?_;cases c with|false=>exact l d j f i Q g e|true=>exact⟨.bl true,i,g,J,e⟩
theorem An(g:PE X a ta):PE X (.UnaryOp .Not a aE) (Fa ta):=by intro b s e H Q I h;refine UnaryOp_ (aF (g b s e H _ I h) λv k ⟨x,j,i,f,d⟩=>?_);obtain⟨c,rfl,d⟩:=d;cases f;exact not_of (wpAny_truthy_bool ⟨.bl (!c),j,i,J,d⟩)
def N5(t:TT)(ta tb:TE):TE:=λσ H Q=>t σ H λc H1=>if c=true then ta σ H1 Q else tb σ H1 Q
theorem Qh(l:PT X c tA)(n:PE X a ta)(m:PE X b tb):PE X (.IfExp c a b aE) (N5 tA ta tb):=by intro e s f H Q I h;refine wpAny_IfExp (aF (l e s f H _ I h) λd g ⟨k,j,i⟩=>?_);cases d with|true=>exact n e g f k Q j i|false=>exact m e g f k Q j i
end
def aM(K:W.Frag)(H:Hp)(a:Addr)(xs:List V):Prop:=
 Rd H a (.lst xs)\/
  ∃(o:Obj)(its:Array Value)(n:Nat),K.lookup a=some o/\o.cls=.type "list"/\o.dict=none/\o.data=.seq its n/\its.size<=sizeLine/\yu xs its.toList
def aG(K:W.Frag)(H:Hp)(a:Addr)(xs:List V):Prop:=
 Rd H a (.tup xs)\/
  ∃(o:Obj)(its:Array Value)(n:Nat),K.lookup a=some o/\o.cls=.type "tuple"/\o.data=.seq its n/\its.size<=sizeLine/\yu xs its.toList
noncomputable def DJ:Value->Option V|.none=>some .non|.bool b=>some (.bl b)|.int i _=>some (.int i)|.str x _=>some (.str x)|.bytes b _=>some (.byt b)|.float b _=>some (.flt b)|.ref a=>some (.ref a)|.type n=>some (.ty n)|_=>none
theorem yq.abs{x:V}(r:yq x u):DJ u=some x:=by cases x with|non=>cases r;rfl|bl _=>cases r;rfl|int _=>obtain⟨t,rfl⟩:=r;rfl|str _=>obtain⟨t,rfl⟩:=r;rfl|byt _=>obtain⟨t,rfl⟩:=r;rfl|flt _=>obtain⟨t,rfl⟩:=r;rfl|ref _=>cases r;rfl|ty _=>cases r;rfl
theorem yq.inj{x y:V}{u:I}(r:yq x u)(q:yq y u):x=y:=Option.some.inj (r.abs.symm.trans q.abs)
theorem yu.inj:∀{xs a:List V}{b:List Value},yu xs b->yu a b->xs=a|_,_,_,.nil,.nil=>rfl|_,_,_,.cons r t,.cons d c=>by rw[r.inj d,yu.inj t c]
section
variable{xs ys:List V}
theorem aM.of{K:W.Frag}(h:H a=some (.lst xs)):aM K H a xs:=.inl (.inl h)
theorem aG.of{K:W.Frag}(h:H a=some (.tup xs)):aG K H a xs:=.inl (.inl h)
theorem Inv.list(I:Inv X pins σ H s)(h:aM X.K H a xs):∃its:O Value,yu xs its/\PlainL s.heap a its.toArray/\xs.length<=sizeLine:=by
 rcases h with h|⟨o,its,n,hk,c,b,f,d,r⟩;obtain⟨z,its,n,r,e⟩:=h.ok I.hok;exact⟨its,r,⟨_,n,e,J,J,J⟩,z⟩;refine⟨its.toList,r,⟨o,n,I.kIn a o hk,c,b,by omega⟩,?_⟩;have e:=r.length
 simp_all
theorem Inv.tuple(I:Inv X pins σ H s)(h:aG X.K H a xs):∃its:O Value,yu xs its/\IsTup s.heap a its.toArray/\xs.length<=sizeLine:=by
 rcases h with h|⟨o,its,n,hk,b,d,c,r⟩;obtain⟨z,its,r,p,_⟩:=h.ok I.hok
 grind
 refine⟨its.toList,r,⟨o,I.kIn a o hk,b,n,by omega⟩,?_⟩;have e:=r.length
 simp_all
theorem Inv.list_inj(I:Inv X pins σ H s)(h:aM X.K H a xs)(h':aM X.K H a ys):xs=ys:=by
 obtain⟨b,r,⟨o,n,e,_,_,d⟩,_⟩:=I.list h;obtain⟨i,g,⟨j,k,c,_,_,f⟩,_⟩:=I.list h';rw[e]at c;cases c;rw[d]at f;injection f with l _;have:b=i:=by simp_all
 subst this;exact r.inj g
theorem Inv.tuple_inj(I:Inv X pins σ H s)(h:aG X.K H a xs)(h':aG X.K H a ys):xs=ys:=by
 obtain⟨b,r,⟨o,e,_,n,d⟩,_⟩:=I.tuple h;obtain⟨i,g,⟨j,c,_,k,f⟩,_⟩:=I.tuple h';rw[e]at c;cases c;rw[d]at f;injection f with l _;have:b=i:=by simp_all
 subst this;exact r.inj g
end
abbrev Cx.wish(X:Cx)(E:Value->Shared->Prop):Cx:={X with xe:=E}
abbrev Cx.nox(X:Cx):Cx:=X.wish λ_ _=>False
theorem Cx.Ok.wish{X:Cx}(a:X.Ok)(E:I->Shared->Prop):(X.wish E).Ok:=⟨a.mod,a.kind,a.glob,a.blt,a.above,a.inj,a.has,a.cab,a.hd,a.frames,a.stk,a.exf,a.bs,a.bsz,a.noex,a.exfs,a.funs,a.frf⟩
theorem Cx.Ok.unwish(a:(X.wish E).Ok):X.Ok:=⟨a.mod,a.kind,a.glob,a.blt,a.above,a.inj,a.has,a.cab,a.hd,a.frames,a.stk,a.exf,a.bs,a.bsz,a.noex,a.exfs,a.funs,a.frf⟩
section
theorem Inv.wish(I:Inv X pins σ H s)(E:Value->Shared->Prop):Inv (X.wish E) pins σ H s:=⟨I.ok.wish E,I.os,I.bare,I.base,I.loc,I.cell,I.free,I.freeC,I.pin,I.hok,I.len⟩
theorem Inv.unwish(I:Inv (X.wish E) pins σ H s):Inv X pins σ H s:=⟨I.ok.unwish,I.os,I.bare,I.base,I.loc,I.cell,I.free,I.freeC,I.pin,I.hok,I.len⟩
theorem SP.unwish{D:Ends}{f:Flow}{s':Shared}(h:SP (X.wish E) pins D f s'):SP X pins D f s':=by cases f with|next=>obtain⟨a,b,I,q⟩:=h;exact⟨a,b,I.unwish,q⟩|brk=>obtain⟨a,b,I,q⟩:=h;exact⟨a,b,I.unwish,q⟩|cont=>obtain⟨a,b,I,q⟩:=h;exact⟨a,b,I.unwish,q⟩|ret u=>obtain⟨v,a,b,I,r,q⟩:=h;exact⟨v,a,b,I.unwish,r,q⟩
theorem dZ.nox{st:O Stmt}{t:TS}(h:dZ X.nox st t):dZ X st t:=λa s b H D I c=>cz (h a s b H D (I.wish _) c) (λ_ _ q=>q.unwish) λ_ _ z=>False.elim z
end
section
variable{st:Stmt}{jh:List Stmt}{t u:TS}{te:TE}
def mK:TS:=λD σ H=>D.nx σ H
def mD(t u:TS):TS:=λD σ H=>t (D.sq u) σ H
theorem zy:dZ X [] mK:=λ_ _ a H _ I h=>wpAny_execs_nil ⟨a,H,I,h⟩
theorem ze(g:PS X st t)(e:dZ X jh u):dZ X (st::jh) (mD t u):=by intro a s c H D I h;refine wpAny_execs_cons (aF (g a s c H (D.sq u) I h) λf d q=>?_);cases f with| next=>obtain⟨b,j,i,q⟩:=q;exact e a d b j D i q|ret v=>exact q|brk=>exact q|cont=>exact q
theorem zh(c:PS X st t):dZ X [st] t:=by intro a s b H D I h;refine wpAny_execs_cons (aF (c a s b H D I h) λf d q=>?_);cases f with|next=>exact wpAny_execs_nil q|ret v=>exact q|brk=>exact q|cont=>exact q
theorem Inv.quiet(I:Inv X pins σ H s):interactive X.env=false:=by simp[interactive,I.ok.kind]
def ED(F:TE):TS:=λD σ H=>F σ H λ_ H1=>D.nx σ H1
theorem xl(he:PE X e te)(hs:swapsWith e none aE.line X.env=pure false:=by rfl):PS X (.Expr e aE) (ED te):=by intro a s b H D I h;exact wpAny_Expr_any (aF (he a s b H _ I h) λv g ⟨x,f,d,i,c⟩=>⟨b,f,d,c⟩) I.quiet hs
def DY(F:TE):TS:=λD σ H=>F σ H D.rt
theorem zt(he:PE X e te):PS X (.Return (some e) aE) (DY te):=by intro a s b H D I h;exact wpAny_Return_some (aF (he a s b H _ I h) λv i ⟨x,g,f,c,d⟩=>⟨x,b,g,f,c,d⟩)
def mC(c:TT)(t u:TS):TS:=λD σ H=>c σ H λb H1=>if b=true then t D σ H1 else u D σ H1
theorem yj{a b:List Stmt}{g:TT}(m:PT X c g)(o:dZ X a t)(n:dZ X b u):PS X (.If c a b aE) (mC g t u):=by intro e s f H D I h;refine wpAny_If (aF (m e s f H _ I h) λd i ⟨l,k,j⟩=>?_);cases d with|true=>exact o e i f l D k j|false=>exact n e i f l D k j
def FW:TS:=λ_ _ _=>False
theorem wn:dZ X N7 FW:=λ_ _ _ _ _ _ h=>h.elim
end
abbrev TG:=V->St->Hp->(St->Hp->Prop)->Prop
variable{es:List Expr}{dX:List Stmt}{cO:Pos}{te:TE}
abbrev pY:=List V->St->Hp->(St->Hp->Prop)->Prop
def PG(X:Cx)(F:Expr)(t:TG):Prop:=
 ∀ (pins:List (Addr×Obj)) (s:Shared) (σ:St) (H:Hp) (v:V) (u:Value) (Q:St->Hp->Prop),Inv X pins σ H s->yq v u->t v σ H Q->
   wpAny (model X.prog X.w) X.A (assign F X.env u) (λ_ s'=>∃σ' H',Inv X pins σ' H' s'/\Q σ' H') X.xe s
def tT(X:Cx)(F:List Expr)(t:pY):Prop:=
 ∀ (pins:List (Addr×Obj)) (s:Shared) (σ:St) (H:Hp) (vs:List V) (us:List Value) (Q:St->Hp->Prop),Inv X pins σ H s->yu vs us->t vs σ H Q->
   wpAny (model X.prog X.w) X.A (assignInOrder ((assignEach F X.env).map (·.2)) us) (λ_ s'=>∃σ' H',Inv X pins σ' H' s'/\Q σ' H') X.xe s
abbrev qE:=V->V->V->Hp->(Hp->Prop)->Prop
def ua(X:Cx)(t:qE):Prop:=
 ∀ (pins:List (Addr×Obj)) (s:Shared) (σ:St) (H:Hp) (o i v:V) (ov F u:Value) (Q:Hp->Prop),Inv X pins σ H s->yq o ov->yq i F->yq v u->t o i v H Q->
   wpAny (model X.prog X.w) X.A (setItem ov F u) (λ_ s'=>∃H',Inv X pins σ H' s'/\Q H') X.xe s
abbrev rK:=V->V->Hp->VK->Prop
def yD(X:Cx)(F:Operator)(t:rK):Prop:=
 ∀ (pins:List (Addr×Obj)) (s:Shared) (σ:St) (H:Hp) (x y:V) (v u:Value) (Q:VK),Inv X pins σ H s->yq x v->yq y u->t x y H Q->
   wpAny (model X.prog X.w) X.A (inplaceOp F v u) (EP X pins σ Q) X.xe s
section
def Ze(i:Nat):TG:=λv σ H Q=>Q (σ.set i (some v)) H
theorem ya(d:X.N.Nodup)(b:X.N[i]?=some x:=by rfl)(hx:Loc X.env.scope x:=by first|exact Or.inl J|exact Or.inr J|assumption)(c:X.fn x=true\/X.env.scope.names.lookup x=some .local:=by first|exact .inl J|exact .inr J|assumption):PG X (.Name x aE) (Ze i):=by intro a s f H v u Q I r h;exact wpAny_assign_Name (V4 I d b hx r (λg e=>⟨_,H,e,h⟩) c)
def mt:pY:=λvs σ H Q=>vs=[]/\Q σ H
inductive bO(t:TG)(u:pY)(vs:List V)(σ:St)(H:Hp)(Q:St->Hp->Prop):Prop|mk:∀v r,vs=v::r->(t v σ H λσ' H'=>u r σ' H' Q)->bO t u vs σ H Q
theorem jb:tT X [] mt:=by intro a s b H c d Q I r h;obtain⟨e,h⟩:=h;subst e;cases r;exact assignInOrder_nil ⟨b,H,I,h⟩
theorem yv{t:TG}{u:pY}(j:PG X e t)(i:tT X es u)(hs:(assignEach (e::es) X.env).map (·.2)=assign e X.env::(assignEach es X.env).map (·.2):=by rfl):tT X (e::es) (bO t u):=by intro a s c H n p Q I r h;obtain⟨v,o,k,h⟩:=h;subst k;cases r with| cons r f=>rw[hs];refine assignInOrder_cons (aF (j a s c H _ _ _ I r h) λ_ d ⟨b,m,l,g⟩=>?_);exact i a d b m _ _ Q l f g
inductive eU(K:W.Frag)(n:Nat)(t:pY)(v:V)(σ:St)(H:Hp)(Q:St->Hp->Prop):Prop|mk:∀a xs,v=.ref a->aG K H a xs->xs.length=n->t xs σ H Q->eU K n t v σ H Q
theorem Zb{k:Nat}{t:pY}{n:Nat}(x:X.calm=true)(h:tT X es t)(q:(assignEach es X.env).length=n:=by rfl) (f:(assignEach es X.env).findIdx? (·.1)=none:=by rfl):PG X (.Tuple es k aE) (eU X.K n t):=by intro c s g H v u Q I r d;obtain⟨a,i,y,p,w,d⟩:=d;subst y;cases r;obtain⟨l,j,m,A⟩:=I.tuple p;refine assign_Tuple_tuple (I.ok.hd x) m (by simp[q,<-w,j.length]) f λB hx=>?_;have z:=I.kept (t':=s.toks) λb o e=>hx b o (bj (ax e)) e;exact h c _ g H i _ Q z (by omega) d
def Ec(to F:TE)(t:qE):TG:=λv σ H Q=>to σ H λo H1=>F σ H1 λi H2=>t o i v H2 λU=>Q σ U
theorem qU{o i:Expr}{to d:TE}{t:qE}(n:PE X o to)(p:PE X i d)(hs:ua X t)(q:∀v,assign (.Subscript o i aE) X.env v=(do
   let ov<-holding [v] (eval o X.env);let b<-holding [v,ov] (eval i X.env)
   standAt aE
   holding [v,ov,b] (setItem ov b v)
   release [v,ov,b] []):=by intro _;rfl):PG X (.Subscript o i aE) (Ec to d t):=by intro a s c H v u Q I r h;rw[q];refine aa (wpAny_holding (aF (n a s c H _ I h) λov f ⟨x,D,A,j,m⟩=>?_));refine aa (wpAny_holding (aF (p a f c D _ A m) λb e ⟨y,C,z,g,l⟩=>?_));refine aa (wpAny_standAt (aa (wpAny_holding (aF (hs a e c C x y v ov b u _ z j g r l) λ_ E ⟨B,w,k⟩=>?_))));exact wpAny_release ⟨c,B,w,k⟩
def pz(F:TE)(g:TG):TS:=λD σ H=>F σ H λx H1=>g x σ H1 D.nx
theorem Ji{b:Expr}{g:TG}(he:PE X e te)(k:PG X b g)(hs:swapsWithSole [b] e aE.line X.env=pure false:=by rfl)(j:swappedStores [b] e X.env=pure none:=by rfl)
  (l:(assignEach [b] X.env).map (·.2)=[assign b X.env]:=by rfl):PS X (.Assign [b] e aE) (pz te g):=by intro a s c H D I h;refine wpAny_Assign_stores (aF (he a s c H _ I h) λv d ⟨x,n,m,f,i⟩=>?_) hs j;rw[l];exact aF (k a d c n x v _ m f i) λ_ o q=>q
theorem zr(j:X.N.Nodup)(he:PE X e te)(f:X.N[i]?=some x:=by rfl)(hx:Loc X.env.scope x:=by first|exact Or.inl J|exact Or.inr J|assumption)(hs:swapsWith e (some (.Name x cO)) aE.line X.env=pure false:=by rfl)(g:X.fn x=true\/X.env.scope.names.lookup x=some .local:=by first|exact .inl J|exact .inr J|assumption):PS X (.Assign [.Name x cO] e aE) (pz te (Ze i)):=by intro a s b H D I h;refine wpAny_Assign_Name (aF (he a s b H _ I h) λv o ⟨y,m,l,c,d⟩=>?_) hs;exact V4 l j f hx c (λn k=>⟨_,m,k,d⟩) g
def DR(i:Nat)(Z:TE)(U:rK)(D:Ends)(F:St)(H:Hp):Prop:=oV F[i]? λx=>(Z F H λy H1=>U x y H1 λz H2=>D.nx (F.set i (some z)) H2)
theorem Ao{j:Operator}{o:rK}(N:X.N.Nodup)(p:X.N[i]?=some x)(hx:Loc X.env.scope x)(he:PE X e te)(E:yD X j o)(L:X.fn x=true\/X.env.scope.names.lookup x=some .local:=by first|exact .inl J|exact .inr J|assumption):PS X (.AugAssign (.Name x cO) j e aE) (DR i te o):=by
 intro a s n H D I h;replace h:=Ai h;obtain⟨v,P,h⟩:=h;obtain⟨m,F,K⟩:=I.loc;have g:oX X.env.scope x:=by rcases hx with k|k;exact .inl k;exact .inr (.inl k)
 obtain⟨u,r,l⟩:=K i x v p P g;refine wpAny_AugAssign_Name ?_;have go:wpAny (model X.prog X.w) X.A (eval e X.env) (λw f=>wpAny (model X.prog X.w) X.A (inplaceOp j u w) (λr d=>wpAny (model X.prog X.w) X.A (storeName X.env x r) (λ_=>SP X a D .next) X.xe d) X.xe f) X.xe s:=by refine aF (he a s n H _ I h) λw q ⟨y,W,S,A,C⟩=>?_;refine aF (E a q n W v y u w _ S r A C) λz s2 ⟨Z,U,R,t,B⟩=>?_;exact V4 R N p hx t (λs3 Q=>⟨_,U,Q,B⟩) L
 rcases l with⟨hk,G⟩|⟨hk,c,M,b⟩;exact wpAny_loadName_local I.ok.kind hk F G go;rcases hk with hk|hk;exact wpAny_loadName_cell I.ok.kind hk M b go;rcases hx with k|k;have:X.env.scope.names.lookup x=some .free:=hk
 simp_all
 have:X.env.scope.names.lookup x=some .free:=hk
 simp_all
def EA(to ti te:TE)(U:V->V->Hp->VK->Prop)(Z:rK)(F:qE):TS:=λD σ H=>to σ H λo H1=>ti σ H1 λi H2=>U o i H2 λx H3=>te σ H3 λy H4=>Z x y H4 λz H5=>F o i z H5 λH6=>D.nx σ H6
def yP(X:Cx)(t:V->V->Hp->VK->Prop):Prop:=
 ∀ (pins:List (Addr×Obj)) (s:Shared) (σ:St) (H:Hp) (o i:V) (ov F:Value) (Q:VK),Inv X pins σ H s->yq o ov->yq i F->t o i H Q->
   wpAny (model X.prog X.w) X.A (getItem ov F) (EP X pins σ Q) X.xe s
theorem Hy{o i:Expr}{to m:TE}{d:V->V->Hp->VK->Prop}{j:rK}{c:qE}{q:Operator}{W:Pos}(Q:PE X o to)(R:PE X i m)(S:yP X d)(he:PE X e te)(P:yD X q j)(hs:ua X c)(U:∀ov g b,augStore i ov g b=(do holding [b,ov,g] (setItem ov g b);release [b,ov,g] [];pure .next):=by intros;rfl):PS X (.AugAssign (.Subscript o i W) q e aE) (EA to m te d j c):=by intro a s f H D I h;refine wpAny_AugAssign_SubscriptAny (aF (Q a s f H _ I h) λov A ⟨l,H1,I1,p,N⟩=>?_) U;refine aF (R a A f H1 _ I1 N) λg z ⟨k,H2,I2,n,M⟩=>?_;refine aF (S a z f H2 l k ov g _ I2 p n M) λZ y ⟨u,H3,I3,E,L⟩=>?_;refine aF (he a y f H3 _ I3 L) λv x ⟨t,H4,I4,C,K⟩=>?_;refine aF (P a x f H4 u t Z v _ I4 E C K) λb w ⟨r,H5,I5,B,G⟩=>?_;exact aF (hs a w f H5 l k r ov g b _ I5 p n B G) λ_ s6 ⟨H6,I6,F⟩=>⟨f,H6,I6,F⟩
inductive Dp(f:Int->Int->Int)(x y:V)(H:Hp)(Q:VK):Prop|mk:∀i j,x=.int i->y=.int j->Q (.int (f i j)) H->Dp f x y H Q
theorem uI:yD X .Add (Dp λi j=>i+j):=by intro a s f H x y v u Q I c b h;obtain⟨i,j,e,d,q⟩:=h;subst e;subst d;obtain⟨t,rfl⟩:=c;obtain⟨g,rfl⟩:=b;exact iadd_int ⟨.int _,H,I.tok _,⟨_,J⟩,q⟩
end
section
inductive gR(c:TT)(tb:TS)(D:Ends)(σ:St)(H:Hp):Prop|mk:∀W:Nat->St->Hp->Prop,(∃m,W m σ H)->(∀m σ H,W m σ H-> c σ H λb H1=>if b=true then∃N:St->Hp->Prop,(∀σ' H',N σ' H'->∃m',m'<m/\W m' σ' H')/\tb (D.lp N) σ H1 else D.nx σ H1)->gR c tb D σ H
theorem xH{t:TT}{tb:TS}(u:PassesOwn (model X.prog X.w) X.A X.env X.xe)(M:PT X c t)(P:dZ X dX tb):PS X (.While c dX [] aE) (gR t tb):=by
 intro d s B H D I h;obtain⟨W,⟨L,E⟩,i⟩:=h;refine wpAny_While (codeAny_whileLoop (λn K=>∃g A,Inv X d g A K/\W n g A) ?_ L ⟨B,H,I,E⟩);rintro n G ⟨e,z,Q,C⟩;refine wpAny_passesOwn u (aF (M d G e z _ Q (i n e z C)) λb F ⟨y,x,l⟩=>?_);cases b with
 | true=>
   obtain⟨N,w,l⟩:=l;rw[if_pos J];refine wpAny_passesOwn u (aF (P d F e y _ x l) λf R k=>?_);cases f with
   | next=>obtain⟨a,j,r,o⟩:=k;obtain⟨p,q,m⟩:=w a j o;exact⟨p,q,a,j,r,m⟩
   | cont=>obtain⟨a,j,r,o⟩:=k;obtain⟨p,q,m⟩:=w a j o;exact⟨p,q,a,j,r,m⟩
   |brk=>exact k
   |ret v=>exact k
 | false=>rw[if_neg c7];exact wpAny_execs_nil ⟨e,y,x,l⟩
end
structure It where
 go:Nat->Hp->Prop
 yld:Nat->Hp->V->Hp->Prop
 stop:Nat->Hp->Prop
def Ko(X:Cx)(F:List (Addr×Obj))(H:Hp)(b:Addr):Prop:=H b=none/\b≠X.env.locals/\b ∉ X.fs/\(b∈X.ex\/X.s₀.heap.objs.size<=b)/\(∀x c,X.env.cells.lookup x=some c->c≠b)/\∀p∈X.pn++F,p.1≠b
theorem Inv.fpOk{d:Hp}(I:Inv X pins σ H s)(a:s.heap.objs.size<=b)(g:d b=none):Ko X pins d b:=by refine⟨g,dm (ca I.lt a),I.nofs a,.inr (cr I.sz a),λx c e z=>?_,λp f z=>?_⟩;obtain⟨v,q⟩:=I.cell x c e;exact absurd (ca q.lt (by simp_all)) (dc _);exact absurd (ca (ax (I.pin p f).1) (by simp_all)) (dc _)
structure dF(P:Program)(w:World)(K:W.Frag)(tg:Expr)(J:It)(fp:List Addr)(it:Addr)(tn:Nat->Heap->Prop):Prop where
 mem:it∈fp
 obj:∀i h,tn i h->∀b∈fp,∃o,h.get? b=some o/\∀v,o.data≠ .cell v
 keep:∀i h h',tn i h->(∀b∈fp,∀o,h.get? b=some o->h'.get? b=some o)->tn i h'
 item:∀(X:Cx),X.prog=P->X.w=w->X.K=K->X.calm=true->∀(i:Nat)(pins:List (Addr×Obj))(s:Shared)(σ:St)(H:Hp)(E:Value->Shared->Prop),Inv X pins σ H s->(∀b∈fp,Ko X pins H b)->tn i s.heap->J.go i H->
  wpAny (model P w) X.A (pyNext (.ref it)) (λr s1=>∃u,r=some u/\ wpAny (model P w) X.A (letOwnedTupleGo tg (.ref it) u) (λ_ s2=>∃x H',Inv X pins σ H' s2/\yq x u/\J.yld i H x H'/\tn (i+1) s2.heap/\∀b∈fp,H' b=none) E s1) E s
 done:∀(X:Cx),X.prog=P->X.w=w->X.K=K->X.calm=true->∀(i:Nat)(pins:List (Addr×Obj))(s:Shared)(σ:St)(H:Hp)(E:Value->Shared->Prop),Inv X pins σ H s->(∀b∈fp,Ko X pins H b)->tn i s.heap->J.stop i H->
  wpAny (model P w) X.A (pyNext (.ref it)) (λr s1=>r=none/\Inv X pins σ H s1) E s
 self:∀(A:Around)(i:Nat)(s:Shared)(Q:Value->Shared->Prop)(E:Value->Shared->Prop),tn i s.heap->Q (.ref it) s->wpAny (model P w) A (pyIter (.ref it)) Q E s
abbrev TI:=St->Hp->(It->Hp->Prop)->Prop
inductive tS(X:Cx)(pins:List (Addr×Obj))(σ:St)(tg:Expr)(R:It->Hp->Prop)(itv:Value)(s2:Shared):Prop|mk:∀(it:Addr)(fp:List Addr)(tn:Nat->Heap->Prop)(J:It)(H':Hp),itv=.ref it->Inv X pins σ H' s2->dF X.prog X.w X.K tg J fp it tn->tn 0 s2.heap->(∀b∈fp,Ko X pins H' b)->R J H'->tS X pins σ tg R itv s2
variable{C dx:Addr}{osl:Array (Option Value)}{D:Ends}{env:Env}{l tg aQ:Expr}{fd:FuncData}{base:Heap}{H':Hp}{lo:Int}{pl:List (Addr×Obj)}{kvs:List (aK×V)}{fp:List Addr}{outer:List Env}{ks:List aK}{ns ps:List Str}{vs xs:List V}{ds its us:List Value}{o:Option Value}{apos p:Pos}{prog:Program}{R:Result->Shared->Prop}{sc scope:Scope}{f m name qual:Str}{mA mg:Str->Option Value}{id:String}{ta tl tv:TE}{g:TG}{tb:TS}{y:V}{r:Value}
def PI(X:Cx)(U cD:Expr)(F:TI):Prop:=
 ∀ (pins:List (Addr×Obj)) (s:Shared) (σ:St) (H:Hp) (R:It->Hp->Prop),Inv X pins σ H s->F σ H R->
   wpAny (model X.prog X.w) X.A (eval cD X.env) (λv Z=>wpAny (model X.prog X.w) X.A (pyIter v) (tS X pins σ U R) X.xe Z) X.xe s
theorem dP{M:Model}{b:Y}{o:Obj}{n:String}{vs:Array I}{Q:Unit->Shared->Prop}(c:s.heap.get? b=some o)(f:o.cls=.type n)(e:o.data=.fields vs)
  (d:["enumerate","zip","dict_itemiterator","dict_reverseitemiterator","odict_iterator","itertools.zip_longest","itertools.pairwise"].contains n=false) (a:Q () s):wpAny M A (letOwnedTupleGo tg (.ref b) u) Q E s:=by
 unfold letOwnedTupleGo;cases tg<;>first
  |exact ae a
  |(cases u<;>first
   |exact ae a
   | (refine aa (wpAny_load c ?_)
      rw[f,e];show wpAny M A (if(["enumerate","zip","dict_itemiterator","dict_reverseitemiterator","odict_iterator","itertools.zip_longest","itertools.pairwise"].contains n && vs[0]?==some (rawInt _))=true then _ else _) Q E s;rw[if_neg (by intro h;rw[d,db]at h;cases h)];exact ae a))
noncomputable def yG(K:W.Frag)(a:Addr):It:=⟨λi H=>∃xs x,aM K H a xs/\xs[i]?=some x,λi H x H'=>H'=H/\∀xs,aM K H a xs->xs[i]?=some x,λi H=>∃xs,aM K H a xs/\xs.length<=i⟩
noncomputable def tV(K:W.Frag)(a:Addr):It:=⟨λi H=>∃xs x,aG K H a xs/\xs[i]?=some x,λi H x H'=>H'=H/\∀xs,aG K H a xs->xs[i]?=some x,λi H=>∃xs,aG K H a xs/\xs.length<=i⟩
noncomputable def qB(lo:Int)(n:Nat):It:=⟨λi _=>i<n,λi H x H'=>H'=H/\x=.int (lo+i),λi _=>n<=i⟩
theorem LP{K:W.Frag}(a f:Y):dF P w K tg (yG K a) [f] f (λi h=>h.IsListIter f a i) where
 mem:=by simp
 obj:=λi h st b g=>by
  have e:b=f:=by simp_all
  subst e;obtain⟨o,e,c,d⟩:=st
  simp_all
 keep:=λi h L st k=>st.at λo e=>k f (by simp) o e
 item:=by intro X y t z G i l s M H E I n st v;subst y t z;obtain⟨N,x,m,hx⟩:=v;obtain⟨r,q,p,S⟩:=I.list m;obtain⟨u,Z,R⟩:=q.get hx;obtain⟨F,D,f2,C,B,A⟩:=n f (by simp);refine wpAny_pyNext_list_item st p.isList (by simpa using Z) λL j Q=>?_;have I1:=I.turned (t':=s.toks) (λb o g e=>(Q.2 b g).trans e) F D C B A;obtain⟨o,e,c,d⟩:=id j;exact⟨u,J,dP e c d (by rfl) ⟨x,H,I1,R,⟨J,λys U=>by rw[I.list_inj U m];omega⟩,j,λb g=>(n b g).1⟩⟩
 done:=by intro X y t z G i l s M H E I n st v;subst y t z;obtain⟨N,m,hx⟩:=v;obtain⟨r,q,p,S⟩:=I.list m;obtain⟨F,D,f2,C,B,A⟩:=n f (by simp);have hl:=q.length;exact wpAny_pyNext_list_end (I.ok.hd G) st p.isList (by simp_all) λL eb=>⟨J,I.turned (λb o g e=>eb b o g e) F D C B A⟩
 self:=λ_ _ _ _ _ st h=>wpAny_pyIter_listiter st h
theorem MS{K:W.Frag}(a f:Y):dF P w K tg (tV K a) [f] f (λi h=>h.IsTupleIter f a i) where
 mem:=by simp
 obj:=λi h st b g=>by
  have e:b=f:=by simp_all
  subst e;obtain⟨o,e,c,d⟩:=st
  simp_all
 keep:=λi h L st k=>st.at λo e=>k f (by simp) o e
 item:=by intro X y t z G i l s M H E I n st v;subst y t z;obtain⟨N,x,m,hx⟩:=v;obtain⟨r,q,p,S⟩:=I.tuple m;obtain⟨u,Z,R⟩:=q.get hx;obtain⟨F,D,f2,C,B,A⟩:=n f (by simp);refine wpAny_pyNext_tuple_item st (p) (by simpa using Z) λL j Q=>?_;have I1:=I.turned (t':=s.toks) (λb o g e=>(Q.2 b g).trans e) F D C B A;obtain⟨o,e,c,d⟩:=id j;exact⟨u,J,dP e c d (by rfl) ⟨x,H,I1,R,⟨J,λys U=>by rw[I.tuple_inj U m];omega⟩,j,λb g=>(n b g).1⟩⟩
 done:=by intro X y t z G i l s M H E I n st v;subst y t z;obtain⟨N,m,hx⟩:=v;obtain⟨r,q,p,S⟩:=I.tuple m;obtain⟨F,D,f2,C,B,A⟩:=n f (by simp);have hl:=q.length;exact wpAny_pyNext_tuple_end (I.ok.hd G) st (p) (by simp_all) λL eb=>⟨J,I.turned (λb o g e=>eb b o g e) F D C B A⟩
 self:=λ_ _ _ _ _ st h=>wpAny_pyIter_tupleiter st h
theorem MR{K:W.Frag}(c:Y)(lo:Int)(n:Nat):dF P w K tg (qB lo n) [c] c (λi h=>IsRangeIter h c (lo+(i:Nat)*1) ((n:Int)-(i:Nat)) 1) where
 mem:=by simp
 obj:=λi h st b f=>by simp_all
 keep:=λi h r st k=>k c (by simp) _ st
 item:=by intro X p j q m i a s B H E I g st l;subst p j q;obtain⟨A,z,G,y,x,u⟩:=g c (by simp);have W:=Walks.range (prog:=X.prog) (w:=X.w) (I.ok.hd m) c lo 1 n;refine W.item i s _ _ l st λv r C F d D=>?_;obtain⟨t,rfl⟩:=F;have M:Inv X a B H {s with heap:=r,toks:=C}:=I.turned (λb o f e=>D b o (by simp_all) e) A z y x u;refine⟨_,J,dP d J J (by rfl) ⟨.int (lo+i),H,M,⟨t,?_⟩,⟨J,J⟩,d,λb f=>(g b f).1⟩⟩;rw[Int.mul_one]
 done:=by intro X p j q m i a s B H E I g st l;subst p j q;obtain⟨A,z,G,y,x,u⟩:=g c (by simp);exact wpAny_pyNext_range_end (I.ok.hd m) st (by have:n<=i:=l;omega) λr L=>⟨J,I.turned (λb o f e=>L b o f e) A z y x u⟩
 self:=λ_ _ _ _ _ st h=>wpAny_pyIter_rangeiter st h
section
inductive jD(K:W.Frag)(R:It->Hp->Prop)(x:V)(H1:Hp):Prop|mk:∀a,x=.ref a->(∃xs,aM K H1 a xs)->R (yG K a) H1->jD K R x H1
def EN(K:W.Frag)(F:TE):TI:=λσ H R=>F σ H λx H1=>jD K R x H1
inductive me(K:W.Frag)(R:It->Hp->Prop)(x:V)(H1:Hp):Prop|mk:∀a,x=.ref a->(∃xs,aG K H1 a xs)->R (tV K a) H1->me K R x H1
def Ee(K:W.Frag)(F:TE):TI:=λσ H R=>F σ H λx H1=>me K R x H1
theorem Wz(n:PE X l tl):PI X tg l (EN X.K tl):=by
 intro c s g H R I h;refine aF (n c s g H _ I h) λv f ⟨x,r,d,i,j⟩=>?_;obtain⟨a,e,⟨t,m⟩,q⟩:=j;subst e;cases i;obtain⟨k,u,p,w⟩:=d.list m;refine wpAny_pyIter_list p.isList ?_;refine⟨f.heap.objs.size,[f.heap.objs.size],_,_,r,J,d.kept λb o e=>be _ e,LP a _,⟨_,bx _ J,J,J⟩,λb y=>?_,q⟩;have e:b=f.heap.objs.size:=by simp_all
 subst e;exact d.fpOk (aj _) (d.hok.fresh (aj _))
theorem Zk(n:PE X l tl):PI X tg l (Ee X.K tl):=by
 intro c s g H R I h;refine aF (n c s g H _ I h) λv f ⟨x,r,d,i,j⟩=>?_;obtain⟨a,e,⟨t,m⟩,q⟩:=j;subst e;cases i;obtain⟨k,u,p,w⟩:=d.tuple m;refine wpAny_pyIter_tuple (p) ?_;refine⟨f.heap.objs.size,[f.heap.objs.size],_,_,r,J,d.kept λb o e=>be _ e,MS a _,⟨_,bx _ J,J,J⟩,λb y=>?_,q⟩;have e:b=f.heap.objs.size:=by simp_all
 subst e;exact d.fpOk (aj _) (d.hok.fresh (aj _))
theorem B8{R:It->Hp->Prop}{a:Int}{t u v:Tok}{d:Nat}(I:Inv X pins σ H s)(i: -(2^62)<=lo)(h:lo<2^62)(g: -(2^62)<=a)(f:a<2^62)(q:R (qB lo (a-lo).toNat) H):wpAny (model X.prog X.w) X.A (pyIter (.ref s.heap.objs.size)) (tS X pins σ tg R) E {s with heap:=s.heap.push {cls:=.type "range",data:=.fields #[.int lo t,.int a u,.int 1 v]},toks:=d}:=by
 refine wpAny_pyIter_range (IsRange.new ..) (small_one i h g f) ?_;have c:Inv X pins σ H {s with heap:=s.heap.push {cls:=.type "range",data:=.fields #[.int lo t,.int a u,.int 1 v]},toks:=d}:=I.kept λb o e=>be _ e;refine⟨(s.heap.push {cls:=.type "range",data:=.fields #[.int lo t,.int a u,.int 1 v]}).objs.size,[(s.heap.push {cls:=.type "range",data:=.fields #[.int lo t,.int a u,.int 1 v]}).objs.size],_,_,H,J,c.kept λb o e=>be _ e,MR _ lo (a-lo).toNat,?_,λb l=>?_,q⟩
 have k:lo+((0:Nat))*1=lo:=by simp
 have j:((a-lo).toNat:Int)-((0:Nat))=Builtin.Range.rangeSize lo a 1:=by rw[rangeSize_one];omega
 rw[k,j];exact bx _ J;have e:b=(s.heap.push {cls:=.type "range",data:=.fields #[.int lo t,.int a u,.int 1 v]}).objs.size:=by simp_all
 subst e;exact c.fpOk (aj _) (c.hok.fresh (aj _))
inductive jC(R:It->Hp->Prop)(vs:List V)(H1:Hp):Prop|mk:∀j:Int,vs=[.int j]-> -(2^62)<=j->j<2^62->R (qB 0 j.toNat) H1->jC R vs H1
def Ei(ta:TA):TI:=λσ H R=>ta σ H λvs H1=>jC R vs H1
inductive jB(R:It->Hp->Prop)(vs:List V)(H1:Hp):Prop|mk:∀i j:Int,vs=[.int i,.int j]->(-(2^62)<=i/\i<2^62/\ -(2^62)<=j/\j<2^62)->R (qB i (j-i).toNat) H1->jB R vs H1
def Ej(ta:TA):TI:=λσ H R=>ta σ H λvs H1=>jB R vs H1
theorem va{a:Expr}{ta:TA}(l:Gl X "range")(k:X.mg "range"=none)(m:PA X [a] ta)(hs:starEach [a] X.env=[(false,eval a X.env)]:=by rfl):PI X tg (.Call (.Name "range" p) [a] [] aE) (Ei ta):=by intro b s d H R I h;refine Call_ (Wf I l k boot_range (PyProof.Rows.callWith_type1 (aF (m aE b s d H _ I h) λu v ⟨o,w,n,g,c⟩=>?_) hs J));obtain⟨j,e,c,i,q⟩:=c;subst e;cases g with| cons r f=>cases f;obtain⟨t,rfl⟩:=r;exact call_range_1 (B8 n (by omega) (by omega) c i (by simp_all))
theorem Ls{a b:Expr}{ta:TA}(w:Gl X "range")(v:X.mg "range"=none)(x:PA X [a,b] ta)(hs:starEach [a,b] X.env=[(false,eval a X.env),(false,eval b X.env)]:=by rfl)(d:starEach [b] X.env=[(false,eval b X.env)]:=by rfl):PI X tg (.Call (.Name "range" p) [a,b] [] aE) (Ej ta):=by intro c s k H R I h;refine Call_ (Wf I w v boot_range (PyProof.Rows.callWith_type1 (aF (x aE c s k H _ I h) λA C ⟨z,D,y,l,g⟩=>?_) (by rw[hs,d]) (by rw[d];rfl)));obtain⟨i,j,e,⟨g,u,o,n⟩,q⟩:=g;subst e;cases l with| cons r f=>cases f with| cons m f=>cases f;obtain⟨t,rfl⟩:=r;obtain⟨B,rfl⟩:=m;exact call_range_2 (B8 y g u o n q)
inductive cV(g:TG)(tb:TS)(D:Ends)(σ:St)(J:It)(H1:Hp):Prop|mk:∀W:Nat->Nat->St->Hp->Prop,(∃m,W 0 m σ H1)->(∀i m σ H,W i m σ H-> (J.stop i H/\D.nx σ H)\/(J.go i H/\∃N:St->Hp->Prop,(∀σ' H',N σ' H'->∃m',m'<m/\W (i+1) m' σ' H')/\∀x H',J.yld i H x H'->g x σ H' λσ2 H2=>tb (D.lp N) σ2 H2))->cV g tb D σ J H1
def DT(F:TI)(g:TG)(tb:TS):TS:=λD σ H=>F σ H λJ H1=>cV g tb D σ J H1
noncomputable def qV(F:List Addr)(h:Heap):List (Addr×Obj):=F.filterMap λb=>(h.get? b).map λo=>(b,o)
theorem Xg{o:Obj}(a:b∈fp)(e:h.get? b=some o):(b,o)∈qV fp h:=List.mem_filterMap.mpr ⟨b,a,by rw[e];rfl⟩
theorem Lg{p:Addr×Obj}(a:p∈qV fp h):p.1∈fp/\h.get? p.1=some p.2:=by obtain⟨b,c,e⟩:=List.mem_filterMap.mp a;cases q:h.get? b with|none=>simp_all| some o=>grind
theorem Inv.pinned(I:Inv X pins σ H s)(c:∀b∈fp,Ko X pins H b)(f:∀b∈fp,∃o,s.heap.get? b=some o/\∀v,o.data≠ .cell v):Inv X (pins++qV fp s.heap) σ H s:=
 I.pins_of λp a=>(ce.mp a).elim (λz=>I.pin p (dk _ z)) λz=>by
  obtain⟨d,e⟩:=Lg z;obtain⟨i,h,g,_⟩:=c p.1 d
  grind
theorem Inv.unpinned(I:Inv X (pins++pl) σ H s):Inv X pins σ H s:=I.pins_of λp a=>I.pin p (dk _ (fb _ a))
theorem w9{U:Expr}{wi:TI}(F:PassesOwn (model X.prog X.w) X.A X.env X.xe)(hc:X.calm=true)(hi:PI X tg U wi)(hg:PG X tg g)(p:dZ X dX tb)(hs:∀x,foldedSetIterable U X.env x=pure x:=by intro _;rfl):PS X (.For tg U dX [] aE) (DT wi g tb):=by
 intro c s σ H D I h;refine wpAny_For (aF (hi c s σ H _ I h) λv s1 h1=>aF h1 λaf s2 h2=>?_) hs;obtain⟨it,K,tn,J,H2,e,I2,T,P,f2,W,⟨m0,w0⟩,A⟩:=h2;subst e;have l:∀{w:Hp},(∀b∈K,w b=none)->∀b∈K,Ko X c w b:=λhn b p=>⟨hn b p,(f2 b p).2⟩
 refine codeAny_forLoop_any (λn s'=>∃i k w,Inv X c k w s'/\tn i s'.heap/\(∀b∈K,w b=none)/\W i n k w) ?_ m0 ⟨0,σ,H2,I2,P,λb p=>(f2 b p).1,w0⟩;rintro n s3 ⟨i,j,L,I3,C,G,w3⟩;rcases A i n j L w3 with⟨B,qn⟩|⟨go,N,hN,step⟩;refine wpAny_passesOwn F (aF (T.done X rfl rfl rfl hc i c s3 j L X.xe I3 (l G) C B) λr s4 ⟨R,I4⟩=>?_);subst R;exact wpAny_execs_nil ⟨j,L,I4,qn⟩
 . refine wpAny_passesOwn F (aF (T.item X rfl rfl rfl hc i c s3 j L X.xe I3 (l G) C go) λr s4 ⟨u,R,h4⟩=>?_);subst R;refine wpAny_passesOwn F (aF h4 λ_ s5 ⟨x,H5,I5,r5,y5,z,S⟩=>?_);have Z:=I5.pinned (l S) (T.obj _ _ z);refine wpAny_passesOwn F (aF (hg _ s5 j H5 x u _ Z r5 (step x H5 y5)) λ_ s6 ⟨M,H6,I6,q6⟩=>?_);refine wpAny_passesOwn F (aF (p _ s6 M H6 _ I6 q6) λf Q y=>?_);have again:∀{a:St} {t:Hp},Inv X (c++qV K s5.heap) a t Q->N a t->∃m,m<n/\∃i k w,Inv X c k w Q/\tn i Q.heap/\(∀b∈K,w b=none)/\W i m k w:=λ{a t} q E=>by obtain⟨m',hm,w7⟩:=hN a t E;refine⟨m',hm,i+1,a,t,q.unpinned,T.keep _ _ _ z λb p o e=>(q.pin (b,o) (dk _ (dk _ (Xg p e)))).1,λb p=>?_,w7⟩;obtain⟨o,e,d⟩:=T.obj _ _ z b p;exact(q.pin (b,o) (dk _ (dk _ (Xg p e)))).2.1
   cases f with|next=>obtain⟨a,t,q,E⟩:=y;exact again q E|cont=>obtain⟨a,t,q,E⟩:=y;exact again q E|brk=>obtain⟨a,t,q,y⟩:=y;exact⟨a,t,q.unpinned,y⟩|ret v=>obtain⟨x7,a,t,q,r7,y⟩:=y;exact⟨x7,a,t,q.unpinned,r7,y⟩
end
theorem Yk{K:W.Frag}(Pv:Nat->St->Hp->Prop)(l:Pv 0 σ H)(h:∀i σ H,i<=xs.length->Pv i σ H->aM K H a xs)(hs:∀i x σ H,xs[i]?=some x->Pv i σ H->g x σ H λb H2=>tb (D.lp (Pv (i+1))) b H2) (k:∀σ H,Pv xs.length σ H->D.nx σ H):
  cV g tb D σ (yG K a) H:=by
 refine⟨λi m σ H=>m=xs.length-i/\i<=xs.length/\Pv i σ H,⟨xs.length,by simp,bf _,l⟩,?_⟩;rintro i m σ H ⟨rfl,j,p⟩;have q:=h i σ H j p;by_cases c:i<xs.length;refine .inr ⟨⟨xs,xs[i],q,by simp⟩,Pv (i+1),λd n f=>⟨xs.length-(i+1),by omega,J,c,f⟩,λx n y=>?_⟩;obtain⟨e,y⟩:=y
 grind
 have e:i=xs.length:=by omega
 subst e;exact .inl ⟨⟨xs,q,aj _⟩,k σ H p⟩
theorem Qr{K:W.Frag}(Pv:Nat->St->Hp->Prop)(l:Pv 0 σ H)(h:∀i σ H,i<=xs.length->Pv i σ H->aG K H a xs)(hs:∀i x σ H,xs[i]?=some x->Pv i σ H->g x σ H λb H2=>tb (D.lp (Pv (i+1))) b H2) (k:∀σ H,Pv xs.length σ H->D.nx σ H):
  cV g tb D σ (tV K a) H:=by
 refine⟨λi m σ H=>m=xs.length-i/\i<=xs.length/\Pv i σ H,⟨xs.length,by simp,bf _,l⟩,?_⟩;rintro i m σ H ⟨rfl,j,p⟩;have q:=h i σ H j p;by_cases c:i<xs.length;refine .inr ⟨⟨xs,xs[i],q,by simp⟩,Pv (i+1),λd n f=>⟨xs.length-(i+1),by omega,J,c,f⟩,λx n y=>?_⟩;obtain⟨e,y⟩:=y
 grind
 have e:i=xs.length:=by omega
 subst e;exact .inl ⟨⟨xs,q,aj _⟩,k σ H p⟩
theorem ko{n:Nat}(Pv:Nat->St->Hp->Prop)(h:Pv 0 σ H)(hs:∀i σ H,i<n->Pv i σ H->g (.int (lo+i)) σ H λb H2=>tb (D.lp (Pv (i+1))) b H2) (f:∀σ H,Pv n σ H->D.nx σ H):
  cV g tb D σ (qB lo n) H:=by
 refine⟨λi m σ H=>m=n-i/\i<=n/\Pv i σ H,⟨n,by simp,bf _,h⟩,?_⟩;rintro i m σ H ⟨rfl,k,p⟩;by_cases a:i<n;refine .inr ⟨a,Pv (i+1),λc j d=>⟨n-(i+1),by omega,J,a,d⟩,λx j y=>?_⟩;obtain⟨e,y⟩:=y
 simp_all
 have e:i=n:=by omega
 subst e;exact .inl ⟨aj _,f σ H p⟩
abbrev R2:=V->V->Hp->VK->Prop
def bZ(X:Cx)(f:Value->Value->Sem Value)(r:R2):Prop:=
 ∀ (pins:List (Addr×Obj)) (s:Shared) (σ:St) (H:Hp) (x y:V) (v u:Value) (Q:VK),Inv X pins σ H s->yq x v->yq y u->r x y H Q->
   wpAny (model X.prog X.w) X.A (f v u) (EP X pins σ Q) X.xe s
def yC(X:Cx)(f:Value->Sem Value)(r:V->Hp->VK->Prop):Prop:=
 ∀ (pins:List (Addr×Obj)) (s:Shared) (σ:St) (H:Hp) (x:V) (v:Value) (Q:VK),Inv X pins σ H s->yq x v->r x H Q->
   wpAny (model X.prog X.w) X.A (f v) (EP X pins σ Q) X.xe s
def Zg(X:Cx)(f:Value)(r:List V->Hp->VK->Prop):Prop:=
 ∀ (pins:List (Addr×Obj)) (s:Shared) (σ:St) (H:Hp) (xs:List V) (us:List Value) (Q:VK),Inv X pins σ H s->yu xs us->r xs H Q->
   wpAny (model X.prog X.w) X.A (call f us) (EP X pins σ Q) X.xe s
def DH(X:Cx)(r:V->Hp->(Bool->Hp->Prop)->Prop):Prop:=
 ∀ (pins:List (Addr×Obj)) (s:Shared) (σ:St) (H:Hp) (x:V) (v:Value) (Q:Bool->Hp->Prop),Inv X pins σ H s->yq x v->r x H Q->
   wpAny (model X.prog X.w) X.A (truthy v) (TP X pins σ Q) X.xe s
def sZ(r:R2)(ta tb:TE):TE:=λσ H Q=>ta σ H λx H1=>tb σ H1 λy H2=>r x y H2 Q
def N2(r:V->Hp->VK->Prop)(ta:TE):TE:=λσ H Q=>ta σ H λx H1=>r x H1 Q
inductive rI(C:Int->Int->Prop)(g:Int->Int->V)(x y:V)(H:Hp)(Q:VK):Prop|mk:∀i j,x=.int i->y=.int j->C i j->Q (g i j) H->rI C g x y H Q
inductive jT(g:Int->Int->V)(x y:V)(H:Hp)(Q:VK):Prop|mk:∀i j,x=.int i->y=.int j->Q (g i j) H->jT g x y H Q
inductive rU(g:Int->V)(x:V)(H:Hp)(Q:VK):Prop|mk:∀i,x=.int i->Q (g i) H->rU g x H Q
section
variable{a b:Expr}{tb tc:TE}
theorem ub(j:PE X a ta)(i:PE X b tb){R:V->V->Hp->Prop}(I:Inv X pins σ H s)(h:ta σ H λx H1=>tb σ H1 λy H2=>R x y H2) {f:Value->Value->Sem Value}
  (o:∀v u d x y H2,Inv X pins σ H2 d->yq x v->yq y u->R x y H2->wpAny (model X.prog X.w) X.A (f v u) Q X.xe d):
  wpAny (model X.prog X.w) X.A (eval a X.env) (λv c=>wpAny (model X.prog X.w) X.A (eval b X.env) (λu s₂=>wpAny (model X.prog X.w) X.A (f v u) Q X.xe s₂) X.xe c) X.xe s:=by
 refine aF (j pins s σ H _ I h) λv e ⟨x,H1,k,m,g⟩=>?_;refine aF (i pins e σ H1 _ k g) λu d ⟨y,H2,p,l,n⟩=>?_
 grind
theorem ye{d:Operator}{r:R2}(j:bZ X (binaryOp d) r)(l:PE X a ta)(k:PE X b tb):PE X (.BinOp a d b aE) (sZ r ta tb):=by intro c s e H Q I h;exact wpAny_BinOp (ub l k I h λv u f x y n m i g q=>j c f e n x y v u Q m i g q)
theorem se{d:UnaryOp}{r:V->Hp->VK->Prop}(i:yC X (unaryOp d) r)(j:PE X a ta):PE X (.UnaryOp d a aE) (N2 r ta):=by intro b s c H Q I h;exact UnaryOp_ (aF (j b s c H _ I h) λv e ⟨x,l,k,f,g⟩=>i b e c l x v Q k f g)
theorem tE{f:Value->Value->Sem Value}{C:Int->Int->Prop}{g:Int->Int->Int}(rule:∀(i j:Int)(t u:Tok)(s:Shared)(Q:Value->Shared->Prop)(E:Value->Shared->Prop),C i j->Q (.int (g i j) s.toks) {s with toks:=s.toks+1}->wpAny (model X.prog X.w) X.A (f (.int i t) (.int j u)) Q E s):
  bZ X f (rI C λi j=>.int (g i j)):=by intro a s k H x y v u Q I d c h;obtain⟨i,j,rfl,rfl,e,q⟩:=h;obtain⟨t,rfl⟩:=d;obtain⟨b,rfl⟩:=c;exact rule i j t b s _ _ e ⟨.int (g i j),H,I.tok _,⟨_,J⟩,q⟩
theorem yX{f:Value->Value->Sem Value}{g:Int->Int->Int}(rule:∀(i j:Int)(t u:Tok)(s:Shared)(Q:Value->Shared->Prop)(E:Value->Shared->Prop),Q (.int (g i j) s.toks) {s with toks:=s.toks+1}->wpAny (model X.prog X.w) X.A (f (.int i t) (.int j u)) Q E s):
  bZ X f (jT λi j=>.int (g i j)):=by intro a s e H x y v u Q I d c h;obtain⟨i,j,rfl,rfl,q⟩:=h;obtain⟨t,rfl⟩:=d;obtain⟨b,rfl⟩:=c;exact rule i j t b s _ _ ⟨.int (g i j),H,I.tok _,⟨_,J⟩,q⟩
theorem rT{f:Value->Value->Sem Value}{g:Int->Int->Bool}(rule:∀(i j:Int)(t u:Tok)(s:Shared)(Q:Value->Shared->Prop)(E:Value->Shared->Prop),Q (.bool (g i j)) s->wpAny (model X.prog X.w) X.A (f (.int i t) (.int j u)) Q E s):
  bZ X f (jT λi j=>.bl (g i j)):=by intro a s e H x y v u Q I d c h;obtain⟨i,j,rfl,rfl,q⟩:=h;obtain⟨t,rfl⟩:=d;obtain⟨b,rfl⟩:=c;exact rule i j t b s _ _ ⟨.bl (g i j),H,I,J,q⟩
def DE(i j:Int):Prop:=0<j/\j<1073741824
def DF(i j:Int):Prop:=0<=j/\j<=1000000/\i.natAbs<2^64
def qG(i j:Int):Prop:=(-(2^64)<i/\i<2^64)\/(-(2^64)<j/\j<2^64)
theorem qG.ok{i j:Int}(h:qG i j):IntMulOk i j:=by rcases h with⟨b,a⟩|⟨b,a⟩;exact .of_left (intBits_le_64 b a);exact .of_right (intBits_le_64 b a)
theorem wb:bZ X (binaryOp .Add) (jT λi j=>.int (i+j)):=yX λ_ _ _ _ _ _ _ q=>add_int q
theorem Wb:bZ X (binaryOp .Sub) (jT λi j=>.int (i-j)):=yX λ_ _ _ _ _ _ _ q=>sub_int q
theorem Zn:bZ X (binaryOp .Mult) (rI qG λi j=>.int (i*j)):=tE λ_ _ _ _ _ _ _ a q=>mul_int q a.ok
theorem AU:bZ X (binaryOp .FloorDiv) (rI DE λi j=>.int (i/j)):=tE λi j _ _ _ _ _ a q=>by have c:=a.1;have b:=a.2;exact floordiv_int (by omega) (by grind) (.inl (PyProof.noPylong_small (by omega)))
theorem Jj:bZ X (binaryOp .Mod) (rI (λ_ j=>0<j) λi j=>.int (i%j)):=tE λi j _ _ _ _ _ a q=>by exact mod_int' (by omega) (by grind)
theorem FB:bZ X (binaryOp .Pow) (rI DF λi j=>.int (i^j.toNat)):=tE λ_ _ _ _ _ _ _ a q=>pow_int_small a.1 a.2.1 a.2.2 q
theorem N1{f:Value->Sem Value}{g:Int->Int}(rule:∀(i:Int)(t:Tok)(s:Shared)(Q:Value->Shared->Prop)(E:Value->Shared->Prop),Q (.int (g i) s.toks) {s with toks:=s.toks+1}->wpAny (model X.prog X.w) X.A (f (.int i t)) Q E s):
  yC X f (rU λi=>.int (g i)):=by intro a s c H x v Q I b h;obtain⟨i,rfl,q⟩:=h;obtain⟨t,rfl⟩:=b;exact rule i t s _ _ ⟨.int (g i),H,I.tok _,⟨_,J⟩,q⟩
theorem sU:yC X (unaryOp .USub) (rU λi=>.int (-i)):=N1 λ_ _ _ _ _ q=>neg_int q
end
noncomputable def yY:V->V->Bool|.non,.non=>true|.non,.int _=>true|.int _,.non=>true|.non,.bl _=>true|.bl _,.non=>true|.non,.str _=>true|.str _,.non=>true|.int _,.int _=>true|.bl _,.bl _=>true|.str _,.str _=>true|.byt _,.byt _=>true|.int _,.str _=>true|.str _,.int _=>true|.bl _,.str _=>true|.str _,.bl _=>true|_,_=>false
def Oa:R2:=λx y H Q=>yY x y=true/\Q (.bl (decide (x=y))) H
def N9:R2:=λx y H Q=>yY x y=true/\Q (.bl (!decide (x=y))) H
theorem wD{i j:Int}:decide (V.int i=V.int j)=(i==j):=by grind
theorem Ab{i j:Bool}:decide (V.bl i=V.bl j)=(i==j):=by grind
theorem AH{i j:Str}:decide (V.str i=V.str j)=(i==j):=by grind
theorem AG{i j:Array UInt8}:decide (V.byt i=V.byt j)=(i.toList==j.toList):=by rw[Bool.eq_iff_iff];simp
section
variable{a b:Expr}{tb tc:TE}
theorem xy{Q:VK}{k a:Bool}(I:Inv X pins σ H s)(q:Q (.bl k) H)(e:k=a):EP X pins σ Q (.bool a) s:=by subst e;exact⟨.bl k,H,I,J,q⟩
theorem wt:bZ X (compareOp .Eq) Oa:=by
 intro e s f H x y v u Q I d a h;obtain⟨c,q⟩:=h;cases x with
 | non=>
   cases d;cases y with
   |non=>cases a;exact EqNone.eq_none_none (xy I q (by simp))
   |bl j=>cases a;exact EqNone.eq_none_bool (xy I q (by simp))
   |int j=>obtain⟨b,rfl⟩:=a;exact EqNone.eq_none_int (xy I q (by simp))
   |str j=>obtain⟨b,rfl⟩:=a;exact EqNone.eq_none_str (xy I q (by simp))
   |_=>exact absurd (c) c7
 | bl i=>
   cases d;cases y with
   |non=>cases a;exact EqNone.eq_bool_none (xy I q (by simp))
   |bl j=>cases a;exact eq_bool (xy I q Ab)
   |str j=>obtain⟨b,rfl⟩:=a;exact EqMixed.eq_bool_str (xy I q (by simp))
   |_=>exact absurd (c) c7
 | int i=>
   obtain⟨t,rfl⟩:=d;cases y with
   |non=>cases a;exact EqNone.eq_int_none (xy I q (by simp))
   |int j=>obtain⟨b,rfl⟩:=a;exact eq_int (xy I q wD)
   |str j=>obtain⟨b,rfl⟩:=a;exact EqMixed.eq_int_str (xy I q (by simp))
   |_=>exact absurd (c) c7
 | str i=>
   obtain⟨t,rfl⟩:=d;cases y with
   |non=>cases a;exact EqNone.eq_str_none (xy I q (by simp))
   |bl j=>cases a;exact EqMixed.eq_str_bool (xy I q (by simp))
   |int j=>obtain⟨b,rfl⟩:=a;exact EqMixed.eq_str_int (xy I q (by simp))
   |str j=>obtain⟨b,rfl⟩:=a;exact eq_str (xy I q AH)
   |_=>exact absurd (c) c7
 | byt i=>
   obtain⟨t,rfl⟩:=d;cases y with
   |byt j=>obtain⟨b,rfl⟩:=a;exact W.eq_bytes (xy I q AG)
   |_=>exact absurd (c) c7
 |_=>cases y<;>exact absurd (c) c7
theorem Zy:bZ X (compareOp .NotEq) N9:=by
 intro e s f H x y v u Q I d a h;obtain⟨c,q⟩:=h;cases x with
 | non=>
   cases d;cases y with
   |non=>cases a;exact EqNone.ne_none_none (xy I q (by simp))
   |bl j=>cases a;exact EqNone.ne_none_bool (xy I q (by simp))
   |int j=>obtain⟨b,rfl⟩:=a;exact EqNone.ne_none_int (xy I q (by simp))
   |str j=>obtain⟨b,rfl⟩:=a;exact EqNone.ne_none_str (xy I q (by simp))
   |_=>exact absurd (c) c7
 | bl i=>
   cases d;cases y with
   |non=>cases a;exact EqNone.ne_bool_none (xy I q (by simp))
   |bl j=>cases a;exact ne_bool (xy I q (congrArg not Ab))
   |str j=>obtain⟨b,rfl⟩:=a;exact EqMixed.ne_bool_str (xy I q (by simp))
   |_=>exact absurd (c) c7
 | int i=>
   obtain⟨t,rfl⟩:=d;cases y with
   |non=>cases a;exact EqNone.ne_int_none (xy I q (by simp))
   |int j=>obtain⟨b,rfl⟩:=a;exact ne_int (xy I q (congrArg not wD))
   |str j=>obtain⟨b,rfl⟩:=a;exact EqMixed.ne_int_str (xy I q (by simp))
   |_=>exact absurd (c) c7
 | str i=>
   obtain⟨t,rfl⟩:=d;cases y with
   |non=>cases a;exact EqNone.ne_str_none (xy I q (by simp))
   |bl j=>cases a;exact EqMixed.ne_str_bool (xy I q (by simp))
   |int j=>obtain⟨b,rfl⟩:=a;exact EqMixed.ne_str_int (xy I q (by simp))
   |str j=>obtain⟨b,rfl⟩:=a;exact ne_str (xy I q (congrArg not AH))
   |_=>exact absurd (c) c7
 | byt i=>
   obtain⟨t,rfl⟩:=d;cases y with
   |byt j=>obtain⟨b,rfl⟩:=a;exact W.ne_bytes (xy I q (congrArg not AG))
   |_=>exact absurd (c) c7
 |_=>cases y<;>exact absurd (c) c7
theorem mI:bZ X (compareOp .Lt) (jT λi j=>.bl (decide (i<j))):=rT λ_ _ _ _ _ _ _ q=>lt_int q
theorem J6:bZ X (compareOp .LtE) (jT λi j=>.bl (decide (i<=j))):=rT λ_ _ _ _ _ _ _ q=>le_int q
theorem mO:bZ X (compareOp .Gt) (jT λi j=>.bl (decide (j<i))):=rT λ_ _ _ _ _ _ _ q=>gt_int q
theorem Ep:bZ X (compareOp .GtE) (jT λi j=>.bl (decide (j<=i))):=rT λ_ _ _ _ _ _ _ q=>ge_int q
theorem FA:bZ X (compareOp .Is) (λx y H Q=>y=.non/\Q (.bl (decide (x=.non))) H):=by intro b s d H x y v u Q I a c h;obtain⟨rfl,q⟩:=h;cases c;refine is_none_gen (xy I q ?_);cases x<;>first|(cases a;rfl)|(obtain⟨t,rfl⟩:=a;rfl)
theorem bZ.or{f:Value->Value->Sem Value}{r e:R2}(h:bZ X f r)(h':bZ X f e):bZ X f (λx y H Q=>r x y H Q\/e x y H Q):=by intro a s b H x y v u Q I d c q;rcases q with q|q;exact h a s b H x y v u Q I d c q;exact h' a s b H x y v u Q I d c q
theorem yb(b:Expr){a:CmpOp}(h:a≠ .In:=by decide)(e:a≠ .NotIn:=by decide):behindInMarks a b=false:=by
 have d:(a==CmpOp.In)=false:=by simp_all
 have c:(a==CmpOp.NotIn)=false:=by simp_all
 cases b<;>simp[behindInMarks,d,c]
theorem jo{d:CmpOp}{r:R2}(j:bZ X (compareOp d) r)(m:PE X a ta)(l:PE X b tb)(k:behindInMarks d b=false):PE X (.Compare a [d] [b] aE) (sZ r ta tb):=by intro c s e H Q I h;exact wpAny_Compare1 (ub m l I h λv u f x y o n i g q=>j c f e o x y v u Q n i g q) k
inductive gS(Q:Bool->Hp->Prop)(x:V)(H':Hp):Prop|mk:∀k,x=.bl k->Q k H'->gS Q x H'
def Fc(t:TE):TT:=λσ H Q=>t σ H λx H'=>gS Q x H'
theorem zu{g:CmpOp}{r:R2}(t:bZ X (compareOp g) r)(B:PE X a ta)(A:PE X b tb)(w:behindInMarks g b=false):PT X (.Compare a [g] [b] aE) (Fc (sZ r ta tb)):=by
 intro d s f H Q I h;refine wpAny_isTrue_Compare1 (aF (B d s f H _ I h) λv j ⟨x,K,E,n,q⟩=>aF (A d j f K _ E q) λu i ⟨y,G,D,m,p⟩=>aF (t d i f G x y v u _ D n m p) λc L ⟨z,F,C,l,k,e,o⟩=>?_) w
 subst e;cases l;exact wpAny_truthy_bool ⟨F,C,o⟩
inductive fP(r':R2)(tc:TE)(σ:St)(Q:VK)(y z:V)(H3:Hp):Prop|mk:∀k,z=.bl k->(if k=true then tc σ H3 λw' H4=>r' y w' H4 Q else Q (.bl false) H3)->fP r' tc σ Q y z H3
def Gh(r U:R2)(ta tb F:TE):TE:=λσ H Q=>ta σ H λx H1=>tb σ H1 λy H2=>r x y H2 λz Z=>fP U F σ Q y z Z
theorem xE{j g:CmpOp}{r n:R2}(N:bZ X (compareOp j) r)(l:bZ X (compareOp g) n)(U:PE X a ta)(S:PE X b tb)(R:PE X c tc)(P:lastMarks [j,g] [b,c]=false:=by with_unfolding_all rfl):PE X (.Compare a [j,g] [b,c] aE) (Gh r n ta tb tc):=by
 intro f s i H Q I h;refine Compare_chain (aF (U f s i H _ I h) λv D ⟨x,H1,I1,G,M⟩=>chain_link (aF (S f D i H1 _ I1 M) λu C ⟨y,H2,Z,m,L⟩=>aF (N f C i H2 x y v u _ Z G m L) λd B ⟨z,q,p,F,k,e,o⟩=>?_)) P
 subst e;cases F;refine wpAny_truthy_bool ?_;cases k with|false=>exact ite_ff ⟨.bl false,q,p,J,o⟩|true=>exact ite_tt (chain_last (aF (R f B i q _ p o) λw A ⟨t,H4,W,E,K⟩=>l f A i H4 y t u w Q W m E K))
def yQ(K:W.Frag)(x:V)(H:Hp)(k:Bool):Prop:=match x with|.non=>k=false|.bl b=>k=b|.int i=>k=(i !=0)|.str y=>y.length<=sizeLine/\k=((y.length:Int) !=0)|.byt y=>y.size<=sizeLine/\k=((y.size:Int) !=0)|.ref p=>(∃xs,aM K H p xs/\k= !xs.isEmpty)\/(∃xs,aG K H p xs/\k= !xs.isEmpty)\/∃kvs,H p=some (.dK kvs)/\k= !kvs.isEmpty|_=>False
theorem ME{a:Type}{kvs:O (a×V)}{vs:O (a×I)}(r:KV kvs vs):(!vs.isEmpty)= !kvs.isEmpty:=by cases r<;>rfl
theorem C0(r:yu xs its):(!its.toArray.isEmpty)= !xs.isEmpty:=by cases r<;>simp
theorem Vs:(sizeLine:Nat)<2^63:=by rw[sizeLine_eq];decide
theorem FY:DH X (λx H Q=>∃k,yQ X.K x H k/\Q k H):=by intro n s A H x v Q I d h;obtain⟨k,e,q⟩:=h;have B:=sizeLine_eq;cases x with| non=>cases d;have a:=e;subst a;exact truthy_none ⟨H,I,q⟩| bl b=>cases d;have a:=e;subst a;exact wpAny_truthy_bool ⟨H,I,q⟩| int i=>obtain⟨t,rfl⟩:=d;have a:=e;subst a;exact P.truthy_int ⟨H,I,q⟩| str y=>obtain⟨t,rfl⟩:=d;obtain⟨w,a⟩:y.length<=sizeLine/\k=((y.length:Int) !=0):=e;subst a;exact P.truthy_str (by omega) ⟨H,I.tok _,q⟩| byt y=>obtain⟨t,rfl⟩:=d;obtain⟨w,a⟩:y.size<=sizeLine/\k=((y.size:Int) !=0):=e;subst a;exact W.truthy_bytes (by omega) ⟨H,I.tok _,q⟩| ref p=>cases d;have a:=e;rcases a with⟨u,hx,a⟩|⟨u,hx,a⟩|⟨f,hx,a⟩;subst a;obtain⟨l,r,j,o⟩:=I.list hx;have c:=r.length;exact wpAny_truthy_list j.isList (by grind) ⟨H,I.tok _,by rw[C0 r];exact q⟩;subst a;obtain⟨l,r,j,o⟩:=I.tuple hx;have c:=r.length;exact truthy_tuple j (by grind) ⟨H,I.tok _,by rw[C0 r];exact q⟩;subst a;obtain⟨o,z,g,r,m⟩:f.length<=sizeLine/\(p==sysModules)=false/\∃g,KV f g/\s.heap.DictOf (yn X.prog X.w) p g:=I.hok p _ hx;have c:=Paired.length r;exact wpAny_truthy_dict z m (by omega) ⟨H,I.tok _,by rw[ME r];exact q⟩|_=>exact(e).elim
theorem JH(g:PE X a ta)(he:∀b,isTrue a X.env b=(do let v<-b;standAt a.pos;holding [v] (truthy v))):PT X a (λσ H Q=>ta σ H λx H'=>∃k,yQ X.K x H' k/\Q k H'):=by intro c s σ H Q I h;exact isTrue_plain (aF (g c s σ H _ I h) λv d ⟨x,j,i,e,f⟩=>FY c d σ j x v Q i e f) (he _)
theorem Z7{x:V}(r:yu [x] us):∃u,us=[u]/\yq x u:=by cases r with|cons b a=>cases a;simp_all
theorem qM{x:V}(r:yu [x,y] us):∃u a,us=[u,a]/\yq x u/\yq y a:=by cases r with| cons e c=>cases c with|cons d b=>cases b;grind
theorem Cl(c:X.calm=true):Zg X (.builtin "max") (λxs H Q=>∃i j,xs=[.int i,.int j]/\Q (.int (if j>i then j else i)) H):=by
 intro b s d H xs f Q I r h;obtain⟨i,j,rfl,q⟩:=h;obtain⟨u,e,rfl,⟨t,rfl⟩,⟨l,rfl⟩⟩:=qM r;refine max_two_ints (I.ok.hd c) λm g k=>⟨_,H,I.kept k,?_,q⟩
 by_cases a:j>i;rw[if_pos a,if_pos a];exact⟨_,J⟩;rw[if_neg a,if_neg a];exact⟨_,J⟩
theorem KF(c:X.calm=true):Zg X (.builtin "min") (λxs H Q=>∃i j,xs=[.int i,.int j]/\Q (.int (if j<i then j else i)) H):=by
 intro b s d H xs f Q I r h;obtain⟨i,j,rfl,q⟩:=h;obtain⟨u,e,rfl,⟨t,rfl⟩,⟨l,rfl⟩⟩:=qM r;refine min_two_ints (I.ok.hd c) λm g k=>⟨_,H,I.kept k,?_,q⟩
 by_cases a:j<i;rw[if_pos a,if_pos a];exact⟨_,J⟩;rw[if_neg a,if_neg a];exact⟨_,J⟩
end
structure fH(h:Heap)(x dx C:Addr)(mA:Str->Option Value):Prop where
 obj:h.get? x=some (W.instObj C dx)
 ns:h.Ns1 dx mA
 ne:dx≠x
theorem LL(n:h.Ns1 dx mA):∃od,h.get? dx=some od/\∀name,W.lookIn name od=some (mA name):=by
 obtain⟨o,i,j,d,g,hk,_,f⟩:=n;refine⟨o,d,λname=>?_⟩;have e:=f name;unfold nsFind findBy at e;rw[<-Array.find?_toList]at e;unfold W.lookIn;rw[g];dsimp only;split
 simp_all
 rename_i q
 rw[q]at e;have a:i.toList.any (·.refKey)=false:=by rw[List.any_eq_false];intro y c;obtain⟨z,t,b⟩:=hk y (Array.mem_toList_iff.mp c);simp[DictEntry.refKey,b]
 simp_all
theorem fH.look{x:Y}(I:fH h x dx C mA):∃od,W.InstAt h x (W.instObj C dx) C (some od)/\∀name,W.lookIn name od=some (mA name):=
 let⟨od,a,b⟩:=LL I.ns
 ⟨od,⟨I.obj,J,J,a⟩,b⟩
section
variable{K:W.Frag}{x f:Addr}{v:Value}
theorem GK{a:Bool}(X:K.In s.heap)(I:fH s.heap x dx C mA)(f:W.plainGet K C name=true)(e:W.hasDictIn K C=true)(g:W.findIn K (.ref C) name=some none) (c:mA name=some v) (b:W.handedIn v=true) (h:Q v {s with toks:=s.toks+1}):
  wpAny (model prog w) A (getAttr (.ref x) name a) Q E s:=by obtain⟨i,J,d⟩:=I.look;exact W.get_value X J (W.plainGet_of f).1 (W.findObj_own e g rfl (by rw[d,c])) b h
theorem IX{b:Sem Bool}{Q:Value×O Value->Shared->Prop}(X:K.In s.heap)(I:fH s.heap x dx C mA)(a:W.plainGet K C name=true)(i:W.findIn K (.ref C) name=some (some (.ref f))) (e:W.isFn K (.ref f)=true) (d:mA name=none) (h:Q (.ref f,[.ref x]) s):
  wpAny (model prog w) A (getMethod (.ref x) name b) Q E s:=by obtain⟨c,J,g⟩:=I.look;exact W.method_fn X J (W.plainGet_of a).1 (W.plainGet_of a).2 i (beq_iff_eq.mp e) (by show(W.lookIn name c).map (·.isSome)=some false;rw[g,d];rfl) h
theorem HV{Q:Unit->Shared->Prop}(X:K.In s.heap)(I:fH s.heap x dx C mA)(hs:W.findIn K (.ref C) "__setattr__"=some (some (.builtin "object.__setattr__"))) (l:W.plainOver K C=true) (j:W.takerIn K C name=some none) (m:W.hasDictIn K C=true)
  (i:PySem.Within mA ns) (k:ns.length<=sizeLine)
  (h:∀h',fH h' x dx C (λy=>if y=name then some v else mA y)->Heap.SameBut dx s.heap h'->Q () {s with heap:=h',toks:=s.toks+2}):
  wpAny (model prog w) A (setAttr (.ref x) name v) Q E s:=by obtain⟨q,J,t⟩:=I.look;refine W.set_plain X J hs (W.osa_open X J l j λb=>?_);obtain⟨u,n,f⟩:=W.any_some m;have hx:=I.obj;refine aa (ae (aa (aa (wpAny_loadPart hx (aa (W.Looks.here (W.looks_clsIn X n) ?_))))));rw[f];refine ae (aa (ae (aa ?_)));refine wpAny_nsSet1 I.ns λh' c a=>?_;obtain⟨r,o,p,d,e,g⟩:=c.count (PySem.Within.cons name v i);refine aa (wpAny_lookBehind d (by rw[e];exact pastItsLine_dict (cr g (by simp_all))) ?_);exact ae (h _ ⟨(a.2 _ (au I.ne)).trans I.obj,c,I.ne⟩ a)
theorem IK{vs:O I}{kw:O (Str×I)}(X:K.In s.heap)(b:W.makesIn K C=true)(c:W.findIn K (.ref C) "__init__"=some (some (.ref f))) (e:W.typeIn K (.ref f)=some (.type "function"))
  (h:codeAny (model prog w) (A.under (.builtin "type.__call__" ⟨.ref C::vs,kw⟩)) (.call (.ref f) ⟨.ref (s.heap.objs.size+1)::vs,kw⟩) (W.InitBack (s.heap.objs.size+1) R) {s with heap:=(s.heap.push W.emptyDict).push (W.instObj C s.heap.objs.size)}):
  codeAny (model prog w) A (.call (.ref C) ⟨vs,kw⟩) R s:=by obtain⟨i,g,d,t,os⟩:=s;exact W.make_core (W.makes_of X b) (W.looks_findIn X c) (λa=>W.bind_fn X a e) (.inl J) h
end
noncomputable def qv(f:Str)(v:V):List (Str×V)->List (Str×V)|[]=>[(f,v)]|(g,x)::r=>if g=f then(g,v)::r else(g,x)::qv f v r
theorem J8(f g:Str)(v:V):∀fs:List (Str×V),(qv f v fs).lookup g=if g=f then some v else fs.lookup g
 | []=>by
   show List.lookup g [(f,v)]=_
   grind
 | (k,x)::r=>by
   have a:=J8 f g v r;rw[show qv f v ((k,x)::r)=(if k=f then(k,v)::r else(k,x)::qv f v r)from rfl]
   grind
theorem Jn(f:Str)(v:V):∀fs:List (Str×V),f∈(qv f v fs).map (·.1)/\∀g,g∈fs.map (·.1)->g∈(qv f v fs).map (·.1)
 |[]=>⟨by simp[qv],λg h=>by grind⟩
 | (k,x)::r=>by
   obtain⟨b,a⟩:=Jn f v r;rw[show qv f v ((k,x)::r)=(if k=f then(k,v)::r else(k,x)::qv f v r)from rfl]
   grind
theorem J9(f:Str)(v:V):∀fs:List (Str×V),(qv f v fs).length<=fs.length+1
 |[]=>by simp[qv]
 | (k,x)::r=>by
   have a:=J9 f v r;rw[show qv f v ((k,x)::r)=(if k=f then(k,v)::r else(k,x)::qv f v r)from rfl]
   grind
theorem Xn.some_of(r:Xn (some v) o):∃u,o=some u/\yq v u:=by cases o with|none=>exact(r).elim|some u=>exact⟨u,J,r⟩
theorem Xn.none_of(r:Xn none o):o=none:=by cases o with|none=>rfl|some u=>exact(r).elim
theorem LD(r:yq v u):W.handedIn u=true:=by cases v with|non=>cases(r);rfl|bl b=>cases(r);rfl|int i=>obtain⟨t,e⟩:=(r);cases e;rfl|str x=>obtain⟨t,e⟩:=(r);cases e;rfl|byt b=>obtain⟨t,e⟩:=(r);cases e;rfl|flt b=>obtain⟨t,e⟩:=(r);cases e;rfl|ref a=>cases(r);rfl|ty n=>cases(r);rfl
section
variable{fs pV:List (Str×V)}
theorem Kw(b:cA P w H h)(e:H a=some (.ins C dx fs)):∃mA,fH h a dx C mA/\(∀f,Xn (fs.lookup f) (mA f))/\PySem.Within mA (fs.map (·.1))/\fs.length<=1000/\H dx=some (.own a):=by
 obtain⟨d,z,g,c,mA,n,r,q⟩:=(b a _ e)
 exact⟨mA,⟨c,n,g⟩,r,q,z,d⟩
end
structure gp(K:W.Frag)(C:Addr):Prop where
 pg:W.plainGet K C Str.empty=true
 hd:W.hasDictIn K C=true
 po:W.plainOver K C=true
 sa:W.findIn K (.ref C) "__setattr__"=some (some (.builtin "object.__setattr__"))
theorem gp.get{K:W.Frag}(c:gp K C)(f:Str):W.plainGet K C f=true:=c.pg
def Xp(K:W.Frag)(C:Addr)(f:Str):Prop:=W.findIn K (.ref C) f=some none
theorem Xp.taker{K:W.Frag}(n:Xp K C f):W.takerIn K C f=some none:=by unfold W.takerIn;rw[(n)];rfl
structure jJ(K:W.Frag)(C:Addr)(m:Str)(f:Addr):Prop where
 at_:W.findIn K (.ref C) m=some (some (.ref f))
 fn:W.isFn K (.ref f)=true
 kp:W.keepIn K (.ref f)=true
section
variable{fs:List (Str×V)}
theorem Mg{b:Bool}(I:Inv X pins σ H s)(e:H a=some (.ins C dx fs))(c:gp X.K C)(n:Xp X.K C f)(l:fs.lookup f=some v)(h:∀u s',Inv X pins σ H s'->yq v u->Q u s'):wpAny (model X.prog X.w) A (getAttr (.ref a) f b) Q E s:=by obtain⟨i,O,r,_,_,_⟩:=Kw I.hok e;obtain⟨u,g,d⟩:=Xn.some_of (by rw[<-l];exact r f);exact GK I.kIn O (c.get f) c.hd n g (LD d) (h u _ (I.tok _) d)
theorem CZ{g:Y}{b:Sem Bool}{Q:Value×List Value->Shared->Prop}(I:Inv X pins σ H s)(e:H a=some (.ins C dx fs))(c:gp X.K C)(k:jJ X.K C m g)(l:fs.lookup m=none)(h:Q (.ref g,[.ref a]) s):wpAny (model X.prog X.w) A (getMethod (.ref a) m b) Q E s:=by obtain⟨f,O,r,_,_,_⟩:=Kw I.hok e;have d:=Xn.none_of (by rw[<-l];exact r m);exact IX I.kIn O (c.get m) k.at_ k.fn d h
theorem MM{Q:Unit->Shared->Prop}(I:Inv X pins σ H s)(e:H a=some (.ins C dx fs))(c:gp X.K C)(n:Xp X.K C f)(D:fs.length<1000)(k:yq y u)(h:∀s',Inv X pins σ (upd H a (.ins C dx (qv f y fs))) s'->Q () s'):wpAny (model X.prog X.w) A (setAttr (.ref a) f u) Q E s:=by
 obtain⟨B,O,r,i,_,m⟩:=Kw I.hok e;have l:(fs.map (·.1)).length<=sizeLine:=by rw[ag,sizeLine_eq];omega
 refine HV I.kIn O c.sa c.po n.taker c.hd i l λw d j=>h _ ?_;have t:∃o,w.get? dx=some o:=let⟨o,_,_,x,_⟩:=d.ns;⟨o,x⟩;refine I.write (by rw[e];exact True.intro) (.inr m) (λb q v z=>(j.2 b v).trans z) t ?_;refine⟨by rw[upd_ne O.ne];omega,?_,O.ne,d.obj,_,d.ns,λg=>?_,λg p=>?_⟩;have:=J9 f y fs;omega;rw[J8];by_cases q:g=f;rw[if_pos q,if_pos q];exact k
 simp_all
 by_cases q:g=f;rw[q];exact(Jn f y fs).1;refine(Jn f y fs).2 g (i g λz=>p ?_)
 simp_all
theorem Inv.made(I:Inv X pins σ H s):Inv X pins σ (upd (upd H s.heap.objs.size (.own (s.heap.objs.size+1))) (s.heap.objs.size+1) (.ins C s.heap.objs.size []))
  {s with heap:=(s.heap.push W.emptyDict).push (W.instObj C s.heap.objs.size)}:=by
 have c:(s.heap.push W.emptyDict).get? s.heap.objs.size=some W.emptyDict:=bx s.heap J;have h:((s.heap.push W.emptyDict).push (W.instObj C s.heap.objs.size)).get? (s.heap.objs.size+1)=some (W.instObj C s.heap.objs.size):=by
  have:=bx (s.heap.push W.emptyDict) (o:=W.instObj C s.heap.objs.size) J
  rwa[ee]at this
 have g:(s.heap.push W.emptyDict).Ns s.heap.objs.size (λ_=>none):=⟨W.emptyDict,#[],_,c,J,(λe f=>absurd f (by simp)),λ_=>rfl⟩
 have i:=I.laid (o:=.own (s.heap.objs.size+1)) (t':=s.toks) (λb u q=>be _ q) (aj _) ⟨_,c⟩;refine i.laid (λb u q=>be _ q) (Nat.le_of_eq (ee _ _)) ?_;have a:s.heap.objs.size≠s.heap.objs.size+1:=bj (ez _);refine⟨by rw[upd_ne a,zf],bf _,a,h,λ_=>none,(Heap.Ns1.of_empty g).at λo q=>be _ q,λ_=>True.intro,λy d=>absurd J d⟩
theorem GZ(b:attributeBase e f env (eval e env)=eval e env)(h:wpAny (model prog w) A (eval e env) (λo a=>wpAny (model prog w) A (getAttr o f true) Q E a) E s):wpAny (model prog w) A (eval (.Attribute e f aE) env) Q E s:=
 Attribute_any_ h (by rw[arm_eval_Attribute,b])
end
inductive lA(K:W.Frag)(f:Str)(Q:VK)(x:V)(H1:Hp):Prop|mk:∀a C dx fs v,x=.ref a->H1 a=some (.ins C dx fs)->gp K C->Xp K C f->fs.lookup f=some v->Q v H1->lA K f Q x H1
def pE(K:W.Frag)(ta:TE)(f:Str):TE:=λσ H Q=>ta σ H λx H1=>lA K f Q x H1
inductive lG(K:W.Frag)(f:Str)(D:Ends)(σ:St)(y x:V)(H2:Hp):Prop|mk:∀a C dx fs,x=.ref a->H2 a=some (.ins C dx fs)->gp K C->Xp K C f->fs.length<1000->D.nx σ (upd H2 a (.ins C dx (qv f y fs)))->lG K f D σ y x H2
def DQ(K:W.Frag)(ta F:TE)(f:Str):TS:=λD σ H=>F σ H λy H1=>ta σ H1 λx H2=>lG K f D σ y x H2
section
variable{o:Expr}{dH:Pos}
theorem yd(he:PE X e ta)(j:attributeBase e f X.env (eval e X.env)=eval e X.env):PE X (.Attribute e f aE) (pE X.K ta f):=by intro b s d H Q I h;refine GZ j (aF (he b s d H _ I h) λu y ⟨x,r,p,g,a,C,A,z,v,k,m,c,n,l,q⟩=>?_);subst k;obtain rfl:u=Value.ref a:=g;exact Mg p m c n l λt w o i=>⟨v,r,o,i,q⟩
theorem qb(p:PE X o ta)(m:PE X aQ tv)(hs:swapsWith aQ (some (.Attribute o f cO)) aE.line X.env=pure false):PS X (.Assign [.Attribute o f cO] aQ aE) (DQ X.K ta tv f):=by intro b s d H D I h;refine plainObj_wpAny_Assign_Attribute (aF (m b s d H _ I h) λu e ⟨y,A,z,g,q⟩=>aF (p b e d A _ z q) λk E ⟨x,K,w,i,a,C,G,F,r,t,c,n,l,j⟩=>?_) hs;subst r;obtain rfl:k=Value.ref a:=i;exact MM w t c n l g λB v=>⟨d,_,v,j⟩
end
section
variable{c:Value}{b:Bool}
inductive cX(K:W.Frag)(H:Hp):V->Value->Prop where|non:cX K H .non (.type "NoneType")|bl (x:Bool):cX K H (.bl x) (.type "bool")|int (i:Int):cX K H (.int i) (.type "int")|str (x:Str):cX K H (.str x) (.type "str")|flt (x:UInt64):cX K H (.flt x) (.type "float")|lst {a:Addr} {xs:List V} (e:H a=some (.lst xs)):cX K H (.ref a) (.type "list")|frz {a:Addr} {o:Obj} {xs:List V} (e:H a=some (.frz o (.lst xs))):cX K H (.ref a) (.type "list")|tup {a:Addr} {xs:List V} (e:H a=some (.tup xs)):cX K H (.ref a) (.type "tuple")|dK {a:Addr} {kvs:List (aK×V)} (e:H a=some (.dK kvs)):cX K H (.ref a) (.type "dict")|dT {a:Addr} {kvs:List (List aK×V)} (e:H a=some (.dT kvs)):cX K H (.ref a) (.type "dict")|ins {a C dx:Addr} {fs:List (Str×V)} (e:H a=some (.ins C dx fs)) (cl:gp K C) (ha:W.findIn K (.ref C) "__class__"=some (some (.builtin "object.__class__")))
  (hn:W.specialIn K (.builtin "object.__class__") "__get__"=some (some (.builtin "getset_descriptor.__get__"))) (htk:W.takesIn K (.builtin "object.__class__")=some true)
  (hm:W.mroIn K C (.type "object")=some true):cX K H (.ref a) (.ref C)
theorem LG{x:V}{t:Value}(I:Inv X pins σ H s)(d:yq x u)(v:cX X.K H x t)(e:W.kitOne X.K t c=some b)(h:∀tk,Q (.bool b) {s with toks:=tk}):wpAny (model X.prog X.w) A (call (.builtin "isinstance") [u,c]) Q E s:=by
 cases v with|non=>cases(d);exact W.kia_one W.kitx_none I.kIn True.intro e (λz=>nomatch z) h|bl y=>cases(d);exact W.kia_one W.kitx_bool I.kIn True.intro e (λz=>nomatch z) h|int i=>obtain⟨t,q⟩:=(d);cases q;exact W.kia_one W.kitx_int I.kIn True.intro e (λz=>nomatch z) h|str y=>obtain⟨t,q⟩:=(d);cases q;exact W.kia_one W.kitx_str I.kIn True.intro e (λz=>nomatch z) h|flt y=>obtain⟨t,q⟩:=(d);cases q;exact W.kia_one W.kitx_float I.kIn True.intro e (λz=>nomatch z) h| @lst a k f=>
   cases(d);obtain⟨_,_,n,_,g⟩:=(I.hok a _ f)
   exact W.kia_one W.kitx_list I.kIn ⟨_,g,rfl⟩ e (λz=>nomatch z) h| @frz a M k f=>
   cases(d);obtain⟨_,_,_,n,_,g⟩:=(I.hok a _ f)
   exact W.kia_one W.kitx_list I.kIn ⟨_,g,rfl⟩ e (λz=>nomatch z) h| @tup a k f=>
   cases(d);obtain⟨_,_,_,p⟩:=(I.hok a _ f)
   obtain⟨⟨o,g,j,_⟩,_⟩:=p;exact W.kia_one W.kitx_tuple I.kIn ⟨o,g,j⟩ e (λz=>nomatch z) h| @dK a l f=>
   cases(d);obtain⟨_,_,K,_,p⟩:=(I.hok a _ f)
   obtain⟨o,F,G,g,j,_⟩:=p;exact W.kia_one W.kitx_dict I.kIn ⟨o,g,j.1⟩ e (λz=>nomatch z) h| @dT a l f=>
   cases(d);obtain⟨_,_,k,_,o,F,G,g,j,_⟩:=(I.hok a _ f)
   exact W.kia_one W.kitx_dict I.kIn ⟨o,g,j.1⟩ e (λz=>nomatch z) h| @ins a C R P f r D w m B=>cases(d);obtain⟨N,O,_⟩:=Kw I.hok f;obtain⟨L,J,_⟩:=O.look;exact W.kia_one (W.kitx_own (r.get _) r.hd D w m B) I.kIn J e (λz=>nomatch z) h
end
structure aP(k:Nat)(A:Around):Prop where
 hd:A.handled=none
 dp:A.depth+3*k+5<recursionLimit
 un:A.units+16*k+200<cLine
theorem aP.mono{j k:Nat}(r:aP k A)(h:j<=k):aP j A:=⟨r.hd,by have:=r.dp;omega,by have:=r.un;omega⟩
theorem aP.deeper{k:Nat}{A:Around}(r:aP (k+1) A)(a:Env):aP k (A.deeper a):=⟨r.hd,by have:=r.dp;show A.depth+1+3*k+5<_;omega,by have:=r.un;show A.units+3+16*k+200<_;omega⟩
theorem MI{kw:O (Str×I)}:(A.under (.builtin "type.__call__" ⟨.ref C::us,kw⟩)).depth=A.depth+1:=by rfl
theorem MJ{kw:O (Str×I)}:(A.under (.builtin "type.__call__" ⟨.ref C::us,kw⟩)).units=A.units+1:=by rfl
theorem aP.make{k:Nat}(r:aP (k+1) A)(C:Y)(a:O I)(kw:O (Str×I)):aP k (A.under (.builtin "type.__call__" ⟨.ref C::a,kw⟩)):=⟨r.hd,by have:=r.dp;rw[MI];omega,by have:=r.un;rw[MJ];omega⟩
theorem aP.depth{k:Nat}{A:Around}(r:aP k A):A.depth<recursionLimit:=by have:=r.dp;omega
theorem aP.units{k:Nat}{A:Around}(r:aP k A):A.units+64<cLine:=by have:=r.un;omega
def ln:TA:=λ_ H Q=>Q [] H
def V3(ta:TE)(F:TA):TA:=λσ H Q=>ta σ H λx H1=>F σ H1 λxs H2=>Q (x::xs) H2
section
variable{t:TA}
theorem zd:PA X [] ln:=λ_ _ _ _ H Q I h=>Calls.spliced_nil ⟨[],H,I,.nil,h⟩
theorem zc(l:PE X e te)(k:PA X es t)(hs:starEach (e::es) X.env=(false,eval e X.env)::starEach es X.env:=by rfl):PA X (e::es) (V3 te t):=by intro m a s b H Q I h;rw[hs];refine Calls.spliced_cons (aF (l a s b H _ I h) λu d ⟨x,q,o,g,j⟩=>?_);exact aF (k m a d b q _ o j) λr v ⟨c,p,n,f,i⟩=>⟨x::c,p,n,.cons g f,i⟩
def DZ(t:TA):TE:=λσ H Q=>t σ H λxs H1=>xs.length<=sizeLine/\∀p,H1 p=none->Q (.ref p) (upd H1 p (.tup xs))
def DV(t:TA):TE:=λσ H Q=>t σ H λxs H1=>xs.length<=sizeLine/\∀p,H1 p=none->Q (.ref p) (upd H1 p (.lst xs))
theorem qd{i}(h:PA X es t):PE X (.Tuple es i aE) (DZ t):=by intro a s f H Q I k;refine wpAny_Tuple_spliced (aF (h aE a s f H _ I k) λj c ⟨g,m,d,r,z,q⟩=>⟨by rw[<-r.length];exact z,?_⟩);have l:=d.hok.fresh (aj _);refine⟨.ref c.heap.objs.size,upd m c.heap.objs.size (.tup g),d.laid (λb u e=>be _ e) (aj _) ?_,J,q _ l⟩;exact⟨z,j,r,⟨_,bx _ J,J,_,J⟩,gx.push⟩
theorem jk(h:PA X es t):PE X (.List es aE) (DV t):=by intro a s f H Q I j;refine wpAny_List_spliced (aF (h aE a s f H _ I j) λi c ⟨g,l,d,r,z,q⟩=>⟨by rw[<-r.length];exact z,?_⟩);have k:=d.hok.fresh (aj _);refine⟨.ref c.heap.objs.size,upd l c.heap.objs.size (.lst g),d.laid (λb u e=>be _ e) (aj _) ?_,J,q _ k⟩;exact⟨z,i,0,r,bx _ J⟩
end
abbrev Sp:=List V->Hp->VK->XK->Prop
abbrev gy:=List Env->Hp->Shared->XK->Value->Shared->Prop
structure fI(P:Program)(w:World)(K:W.Frag)(mg:Str->Option Value)(base:Heap)(A:Around)(outer:List Env)(s:Shared)(H:Hp):Prop where
 frames:A.frames=some outer
 mod:Mod K mg base
 bs:∀b o,base.get? b=some o->s.heap.get? b=some o/\H b=none
 bsz:base.objs.size<=s.heap.objs.size
 funs:s.heap.FunFrames base outer
 frf:∀b∈bP outer,H b=none
 hok:cA P w H s.heap
 bare:AllBare s.gens
inductive CE(outer:List Env)(P:Program)(w:World)(H:Hp)(s:Shared)(Q:VK)(u:Value)(s':Shared):Prop|mk:∀v H',s'.os=s.os->AllBare s'.gens->Un (bP outer) [] H H' s.heap s'.heap->cA P w H' s'.heap->yq v u->Q v H'->CE outer P w H s Q u s'
def CR(CX:gy)(outer:List Env)(P:Program)(w:World)(H:Hp)(s:Shared)(Q:VK)(E:XK)(r:Result)(s':Shared):Prop:=match r with|.ok (.ret u)=>CE outer P w H s Q u s'|.ok _=>False|.error e=>CX outer H s E e s'
structure cF(P:Program)(w:World)(K:W.Frag)(mg:Str->Option Value)(base:Heap)(CX:gy)(k:Nat)(f:Addr)(fd:FuncData)(ps:List Str)(sp:Sp):Prop where
 len:∀vs H Q E,sp vs H Q E->vs.length=ps.length
 run:∀(A:Around)(outer:List Env)(s:Shared)(H:Hp)(args:Args)(us:List Value)(vs:List V)(Q:VK)(E:XK),aP k A->fI P w K mg base A outer s H->BindsTo s fd args (ps.zip us)->yu vs us->sp vs H Q E->
  codeAny (model P w) A (.call (.ref f) args) (CR CX outer P w H s Q E) s
theorem fI.make{K:W.Frag}(e:fI P w K mg base A outer s H)(C:Y)(a:O I)(kw:O (Str×I)):fI P w K mg base (A.under (.builtin "type.__call__" ⟨.ref C::a,kw⟩)) outer s H:=⟨by first|exact e.frames|(simpa[Around.under,Code.envs,Code.isFrame,pushEnvs]using e.frames),e.mod,e.bs,e.bsz,e.funs,e.frf,e.hok,e.bare⟩
section
variable{s':Shared}
theorem Inv.env0(I:Inv X pins σ H s):fI X.prog X.w X.K X.mg X.base X.A X.stack s H:=⟨I.ok.frames,I.ok.mod,I.bs,cr I.ok.bsz I.sz,I.stack,I.stkFree,I.hok,I.bare⟩
theorem Inv.after{Q:VK}(I:Inv X pins σ H s)(h:CE X.stack X.prog X.w H s Q u s'):EP X pins σ Q u s':=by obtain⟨v,c,os,bare,un,hok,r,q⟩:=h;obtain⟨e,g,d,t,a⟩:=s';obtain rfl:a=s.os:=os;exact⟨v,c,I.call un hok bare (λb z=>absurd z (by simp)),r,q⟩
end
def qK(sp:Sp)(F:List V)(E:XK)(t:TA):TE:=λσ H Q=>t σ H λvs H1=>sp (vs++F) H1 Q E
inductive gX(C:Addr)(m:Str)(sp:Sp)(dvs:List V)(E:XK)(t:TA)(σ:St)(Q:VK)(x:V)(H1:Hp):Prop|mk:∀a dx fs,x=.ref a->H1 a=some (.ins C dx fs)->fs.lookup m=none->(t σ H1 λvs H2=>sp (x::(vs++dvs)) H2 Q E)->gX C m sp dvs E t σ Q x H1
def si(C:Addr)(m:Str)(sp:Sp)(F:List V)(E:XK)(ta:TE)(t:TA):TE:=λσ H Q=>ta σ H λx H1=>gX C m sp F E t σ Q x H1
def zU(C:Addr)(sp:Sp)(F:List V)(E:XK)(t:TA):TE:=λσ H Q=>t σ H λvs H1=>∀x dx,H1 x=none->H1 dx=none->dx≠x->
 sp (.ref x::(vs++F)) (upd (upd H1 dx (.own x)) x (.ins C dx [])) (λv H2=>v=.non/\Q (.ref x) H2) E
def Y6(K:W.Frag)(Z:FuncData)(F:List Str)(U:List Value):Prop:=∀(s:Shared)(us:List Value),K.In s.heap->(us++U).length=F.length->BindsTo s Z ⟨us,[]⟩ (F.zip (us++U))
theorem Y6.all{K:W.Frag}(h:∀us:O I,us.length=ps.length->bindArgs fd ⟨us,[]⟩=pure (ps.zip us)):Y6 K fd ps []:=λs us _ a=>by rw[cm]at a⊢;exact .of_eq (h us a)
def Xo(CX:gy)(X:Cx)(E:XK):Prop:=∀(pins:List (Addr×Obj))(σ:St)(H:Hp)(s:Shared)(e:Value)(s':Shared),Inv X pins σ H s->CX X.stack H s E e s'->X.xe e s'
section
variable{CX:gy}{k:Nat}{f:Addr}{sp:Sp}{dvs:List V}{E:XK}{o:Expr}{t:TA}
theorem uY{Q:VK}(F:cF X.prog X.w X.K X.mg X.base CX k f fd ps sp)(d:aP k X.A)(j:Y6 X.K fd ps ds)(i:yu dvs ds)(hx:Xo CX X E)(I:Inv X pins σ H s) (r:yu vs us) (h:sp (vs++dvs) H Q E):wpAny (model X.prog X.w) X.A (call (.ref f) us) (EP X pins σ Q) X.xe s:=by
 have b:=r.append i;have g:(us++ds).length=ps.length:=by rw[<-b.length];exact F.len _ _ _ _ h
 refine wpAny_call (codeAny_mono (F.run X.A X.stack s H ⟨us,[]⟩ (us++ds) (vs++dvs) Q E d I.env0 (j s us I.kIn g) b h) λr c a=>?_);cases r with|error e=>exact hx pins σ H s e c I a| ok l=>cases l with|ret u=>exact I.after a|next=>exact False.elim a|brk=>exact False.elim a|cont=>exact False.elim a
theorem AX(F:cF X.prog X.w X.K X.mg X.base CX k f fd ps sp)(i:aP k X.A)(l:Gl X x)(j:X.mg x=some (.ref f))(hk:W.keepIn X.K (.ref f)=true)(n:Y6 X.K fd ps ds)(m:yu dvs ds)(hx:Xo CX X E)(o:PA X (e::es) t) (c:(x==("__debug__":Str))=false:=by decide) (he:starEach (e::es) X.env=(false,eval e X.env)::starEach es X.env:=by rfl) (b:(backTo aE (starEach es X.env)).any (·.1)=false:=by rfl):
  PE X (.Call (.Name x p) (e::es) [] aE) (qK sp dvs E t):=by intro a s g H Q I h;refine wpAny_Call_Name_kw (W0 I l j ?_ c);refine W.callWith_K I.ok.mod.kin hk (aF (o aE a s g H _ I h) λv w ⟨u,y,d,r,q⟩=>⟨d.kIn,?_⟩) he b;exact uY F i n m hx d r q
theorem Hr{A:Sem Bool}(he:PE X o ta)(c:gp X.K C)(j:jJ X.K C m f)(F:cF X.prog X.w X.K X.mg X.base CX k f fd ps sp)(D:aP k X.A)(K:Y6 X.K fd ps ds)(G:yu dvs ds)(hx:Xo CX X E)(L:PA X (e::es) t)(d:starEach (e::es) X.env=(false,eval e X.env)::starEach es X.env:=by rfl) (g:(backTo aE (starEach es X.env)).any (·.1)=false:=by rfl)
  (B:eval (.Call (.Attribute o m apos) (e::es) [] aE) X.env=(do
   let ov<-eval o X.env
   standAt apos.atName
   let(f,first)<-holding [ov] (getMethod ov m A)
   callWith aE f first (backTo aE (starEach (e::es) X.env)) (backToKw aE (keywordEach [] X.env))):=by rfl):
  PE X (.Call (.Attribute o m apos) (e::es) [] aE) (si C m sp dvs E ta t):=by intro b s i H Q I h;refine W.methodCall_KW (aF (he b s i H _ I h) λu w ⟨x,P,p,y,a,Z,U,M,N,l,q⟩=>?_) B;subst M;obtain rfl:u=Value.ref a:=y;refine CZ p N c j l ?_;refine W.callWith_K I.ok.mod.kin j.kp (aF (L aE b w i P _ p q) λR S ⟨v,H2,n,r,z⟩=>⟨n.kIn,?_⟩) d g;exact uY (vs:=.ref a::v) F D K G hx n (.cons J r) z
theorem JB{j:Sem Bool}(he:PE X o ta)(c:gp X.K C)(e:jJ X.K C m f)(F:cF X.prog X.w X.K X.mg X.base CX k f fd ps sp)(p:aP k X.A)(t:Y6 X.K fd ps ds)(r:yu dvs ds)(hx:Xo CX X E)(n:eval (.Call (.Attribute o m apos) [] [] aE) X.env=(do
   let ov<-eval o X.env
   standAt apos.atName
   let(f,first)<-holding [ov] (getMethod ov m j)
   callWith aE f first (backTo aE (starEach [] X.env)) (backToKw aE (keywordEach [] X.env))):=by rfl):
  PE X (.Call (.Attribute o m apos) [] [] aE) (si C m sp dvs E ta ln):=by intro b s g H Q I h;refine W.methodCall_KW (aF (he b s g H _ I h) λu y ⟨x,B,d,i,a,A,z,v,w,l,q⟩=>?_) n;subst v;obtain rfl:u=Value.ref a:=i;refine CZ d w c e l ?_;exact W.callWith_K0 d.kIn e.kp (uY (vs:=[.ref a]) F p t r hx d (.cons J .nil) q)
structure Mk(K:W.Frag)(C f:Addr):Prop where
 makes:W.makesIn K C=true
 init:W.findIn K (.ref C) "__init__"=some (some (.ref f))
 fn:W.isFn K (.ref f)=true
 kp:W.keepIn K (.ref C)=true
theorem JJ{Q:VK}(M:Mk X.K C f)(F:cF X.prog X.w X.K X.mg X.base CX k f fd ps sp)(l:aP (k+1) X.A)(o:Y6 X.K fd ps ds)(n:yu dvs ds)(hx:Xo CX X E) (I:Inv X pins σ H s) (r:yu vs us)
  (h:∀x dx,H x=none->H dx=none->dx≠x->sp (.ref x::(vs++dvs)) (upd (upd H dx (.own x)) x (.ins C dx [])) (λv H2=>v=.non/\Q (.ref x) H2) E):
  wpAny (model X.prog X.w) X.A (call (.ref C) us) (EP X pins σ Q) X.xe s:=by
 have d:=h (s.heap.objs.size+1) s.heap.objs.size (I.hok.fresh (Nat.le_succ _)) (I.hok.fresh (aj _)) (bj (ez _));have b:=Inv.made (C:=C) I;have c:yu (V.ref (s.heap.objs.size+1)::(vs++dvs)) (Value.ref (s.heap.objs.size+1)::(us++ds)):=.cons J (r.append n);have m:(Value.ref (s.heap.objs.size+1)::us++ds).length=ps.length:=by
  have e:=c.length;rw[F.len _ _ _ _ d]at e
  simp_all
 refine wpAny_call (IK I.kIn M.makes M.init (beq_iff_eq.mp M.fn) (codeAny_mono (F.run _ X.stack _ _ ⟨Value.ref (s.heap.objs.size+1)::us,[]⟩ (Value.ref (s.heap.objs.size+1)::(us++ds)) _ _ E (l.make C us []) (b.env0.make C us []) (o _ (Value.ref (s.heap.objs.size+1)::us) b.kIn m) c d) λr g a=>?_))
 cases r with|error e=>exact hx pins σ _ _ e g b a| ok p=>cases p with| ret u=>obtain⟨v,w,t,i,q,j⟩:=b.after a;subst q;exact⟨i,⟨V.ref (s.heap.objs.size+1),w,t,J,j⟩⟩|next=>exact False.elim a|brk=>exact False.elim a|cont=>exact False.elim a
theorem Hq(M:Mk X.K C f)(F:cF X.prog X.w X.K X.mg X.base CX k f fd ps sp)(i:aP (k+1) X.A)(l:Gl X x)(j:X.mg x=some (.ref C))(n:Y6 X.K fd ps ds)(m:yu dvs ds)(hx:Xo CX X E)(o:PA X (e::es) t) (c:(x==("__debug__":Str))=false:=by decide) (he:starEach (e::es) X.env=(false,eval e X.env)::starEach es X.env:=by rfl) (b:(backTo aE (starEach es X.env)).any (·.1)=false:=by rfl):
  PE X (.Call (.Name x p) (e::es) [] aE) (zU C sp dvs E t):=by intro a s g H Q I h;refine wpAny_Call_Name_kw (W0 I l j ?_ c);refine W.callWith_K I.ok.mod.kin M.kp (aF (o aE a s g H _ I h) λv w ⟨u,y,d,r,q⟩=>⟨d.kIn,?_⟩) he b;exact JJ M F i n m hx d r q
end
section
variable{CX:gy}{k:Nat}{f:Addr}{ks:List Str}{sp:Sp}{E:XK}{Oh:Pos}{o:Expr}{Os:List Keyword}{t tk:TA}{nm:Option Str}
variable{g:List Value->List Value->List Value}{gV:List V->List V->List V}
end
structure aA(N P:List Str)(sc:Scope):Prop where
 kind:sc.kind=.function
 co:sc.isCoroutine=false
 gen:sc.isGenerator=false
 nd:N.Nodup
 pre:N.take P.length=P
 par:∀x∈P,sc.names.lookup x=some .local\/sc.names.lookup x=some .cell
 nofree:∀y∈sc.names,y.2≠ .free
theorem aA.of{P:O Str}(g:sc.kind=.function:=by rfl)(f:sc.isCoroutine=false:=by rfl)(e:sc.isGenerator=false:=by rfl)(d:N.Nodup:=by decide+kernel)(c:N.take P.length=P:=by rfl)(b:∀x∈P,sc.names.lookup x=some .local\/sc.names.lookup x=some .cell:=by decide+kernel)(a:∀y∈sc.names,y.2≠ .free:=by decide+kernel):aA N P sc:=⟨g,f,e,d,c,b,a⟩
theorem Ci{kindOf:Str->Option NameKind}{x:Str}:∀{a:List (Str×Value)}{m:Str->Option Value},(∀v,(x,v) ∉ a)->bindL kindOf a m x=m x
 |[],_,_=>rfl
 | (n,v)::r,m,h=>by
   unfold bindL;rw[Ci λw b=>h w (bn _ b)];split
   grind
   rfl
theorem Cg{kindOf:Str->Option NameKind}{x:Str}:∀{a:List (Str×Value)}{m:Str->Option Value},(∀v,(x,v) ∉ a)->bindC kindOf a m x=m x
 |[],_,_=>rfl
 | (n,v)::r,m,h=>by
   unfold bindC;rw[Cg λw b=>h w (bn _ b)];split;rfl
   grind
theorem Ch{kindOf:Str->Option NameKind}{x:Str}{v:Value}:∀{P:List Str}{vs:List Value}{i:Nat}{m:Str->Option Value},P.Nodup->P[i]?=some x->vs[i]?=some v->kindOf x=some .local->
  bindL kindOf (P.zip vs) m x=some v|[],_,_,_,_,h,_,_=>by simp at h|_::_,[],_,_,_,_,h,_=>by simp at h| p::P,w::vs,0,m,c,b,a,hk=>by simp at b a;subst b;subst a;show bindL kindOf ((p,w)::P.zip vs) m p=_;unfold bindL;rw[Ci λv d=>(cu.mp c).1 (List.of_mem_zip d).1,if_pos hk];simp| p::P,w::vs,i+1,m,c,b,a,hk=>by show bindL kindOf ((p,w)::P.zip vs) m x=_;unfold bindL;exact Ch (i:=i) (cu.mp c).2 (by simpa using b) (by simpa using a) hk
theorem Cf{kindOf:Str->Option NameKind}{x:Str}{v:Value}:∀{P:List Str}{vs:List Value}{i:Nat}{m:Str->Option Value},P.Nodup->P[i]?=some x->vs[i]?=some v->kindOf x≠some .local->
  bindC kindOf (P.zip vs) m x=some v|[],_,_,_,_,h,_,_=>by grind|_::_,[],_,_,_,_,h,_=>by grind| p::P,w::vs,0,m,b,a,c,hk=>by simp at a c;subst a;subst c;show bindC kindOf ((p,w)::P.zip vs) m p=_;unfold bindC;rw[Cg λv d=>(cu.mp b).1 (List.of_mem_zip d).1,if_neg hk];simp| p::P,w::vs,i+1,m,b,a,c,hk=>by unfold bindC;exact Cf (cu.mp b).2 (by simpa using a) (by simp_all) hk
noncomputable def start(N:List Str)(vs:List V):St:=vs.map some++List.replicate (N.length-vs.length) none
noncomputable def Xl(CX:gy)(P:Program)(w:World)(K:W.Frag)(mg:Str->Option Value)(base:Heap)(N:List Str)(U:Str)(F:Scope)(f:Addr)(cd:Value)(A:Around)(outer:List Env)(s:Shared)(H:Hp)(E:XK):Cx where
 prog:=P
 w:=w
 K:=K
 mg:=mg
 base:=base
 A:=A.deeper (envOfC U F s.heap.objs.size f cd)
 N:=N
 s₀:=s
 H₀:=H
 env:=envOfC U F s.heap.objs.size f cd
 outer:=outer
 stack:=envOfC U F s.heap.objs.size f cd::outer
 ex:=[]
 calm:=true
 fn:=λ_=>true
 pn:=[]
 xe:=λe s'=>wpAny (model P w) (A.deeper (envOfC U F s.heap.objs.size f cd)) (leaving (envOfC U F s.heap.objs.size f cd) e) (λ_ Z=>CX outer H s E e Z) (λe' Z=>CX outer H s E e' Z) s'
theorem Bm{n:Nat}(h:sc.names.lookup x=some .cell):∃c,(cellsFrom n sc.names []).lookup x=some c:=by have q:=W.cellsFrom_some sc.names n [] (.inl h);exact Option.isSome_iff_exists.mp q
theorem LF{CX:gy}{K:W.Frag}{f:Y}{o:I}{t:Shared}{E:XK}(S:aA N ps scope) (F:A.handled=none) (a:fI P w K mg base A outer s H) (M:vs.length=ps.length) (r:yu vs us)
  (x:InCallC s s.heap.objs.size (bindL (envOfC qual scope s.heap.objs.size f o).kindOf (ps.zip us) λ_=>none) (cellsFrom (s.heap.objs.size+1) scope.names []) (bindC (envOfC qual scope s.heap.objs.size f o).kindOf (ps.zip us) λ_=>none) t):
  Inv (Xl CX P w K mg base N qual scope f o A outer s H E) [] (start N vs) H t:=by
 have D:ps.length<=N.length:=by have:=congrArg List.length S.pre;grind
 obtain⟨n,L,rfl,hk⟩:=x.done;have d:∀b:Y,b ∉ (Xl CX P w K mg base N qual scope f o A outer s H E).ex:=λb z=>absurd (show b∈[]from z) (by simp);refine⟨⟨a.mod,S.kind,J,J,aj _,λy z c n m=>?_,λy j=>?_,λy c _ h=>?_,λ_=>F,Around.frames_deeper a.frames,.inr ⟨J,J⟩,λb z=>absurd z (d b),a.bs,a.bsz,λb _ _=>d b,λb z=>absurd z (d b),a.funs,a.frf⟩,J,a.bare,Un.kept hk,⟨_,x.toInCall.ns,λi y v n m R=>?_⟩,λy c h=>⟨_,x.cell y c h⟩,a.hok.fresh (aj _),λy c h=>?_,λp l=>absurd (show p∈[]from l) (by simp),a.hok.kept hk,?_⟩
 exact name_of_addr x.apart (PySem.mem_of_lookup n) (PySem.mem_of_lookup m);rcases j with j|j;exact Bm j;exact absurd J (S.nofree _ (PySem.mem_of_lookup j));exact Nat.le_of_lt (x.above y c (PySem.mem_of_lookup h));have Q:i<vs.length:=by
  unfold start at m
  grind
 have G:vs[i]?=some v:=by
  unfold start at m
  grind
 obtain⟨u,B,C⟩:=r.get G;have l:ps[i]?=some y:=by rw[<-S.pre,List.getElem?_take_of_lt (by omega)];exact n
 have g:ps.Nodup:=by rw[<-S.pre];exact S.nd.sublist (List.take_sublist _ _)
 refine⟨u,C,?_⟩;rcases S.par y (bq l)with k|k;exact .inl ⟨k,Ch g l B k⟩;obtain⟨c,e⟩:=Bm k;refine .inr ⟨.inl k,c,e,?_⟩;have q:=x.cell y c e;rw[Cf g l B (by show scope.names.lookup y≠_;rw[k];decide)]at q;exact q;exact a.hok.fresh (Nat.le_of_lt (x.above y c (PySem.mem_of_lookup h)));unfold start;show _=N.length
 simp_all
theorem zK{CX:gy}{K:W.Frag}{k:Nat}{f:Addr}{a:Arguments}{R kV z M cdv U oc:Value}{Z od:Option Addr}{sp:Sp} (lk:K.lookup f=some ⟨oc,od,.func (W.fnOf name qual a dX scope R kV z M Z cdv U),osl⟩) (G:W.codeIn K cdv qual=true) (S:aA N ps scope)
  (j:∀vs H Q E,sp vs H Q E->vs.length=ps.length)
  (g:∀(A:Around) (outer:List Env) (s:Shared) (H:Hp) (vs:List V) (Q:VK) (E:XK),aP k (A.deeper (envOfC qual scope s.heap.objs.size f cdv))->sp vs H Q E-> ∃t,dZ (Xl CX P w K mg base N qual scope f cdv A outer s H E) dX t/\t (.of Q) (start N vs) H):
  cF P w K mg base CX (k+1) f (W.fnOf name qual a dX scope R kV z M Z cdv U) ps sp:=by
 refine⟨j,λA outer s H X us vs Q E F p hb r l=>?_⟩;have hl:=j _ _ _ _ l;have KX:=p.mod.kin.keeps λb o e=>(p.bs b o e).1;have D:=p.mod.nolimit.keeps λb o e=>(p.bs b o e).1;have d:∀y∈ps.zip us,scope.names.lookup y.1=some .local\/(scope.names.lookup y.1=some .cell/\((cellsFrom (s.heap.objs.size+1) scope.names []).lookup y.1).isSome=true):=λ⟨n,v⟩ hy=>by
  rcases S.par n (List.of_mem_zip hy).1 with q|q
  simp_all
  exact .inr ⟨q,W.cellsFrom_some _ _ _ (.inl q)⟩
 refine codeAny_call_function F.depth (KX _ _ lk) rfl S.co S.gen rfl (W.codeRec_of KX G) (hb _ _ _ _ ?_);refine wpAny_newFunctionEnv_cells S.kind d λaf he L x=>?_;subst he;refine⟨D.keeps x.toInCall.keep,codeAny_func ?_⟩;obtain⟨t,ht,hq⟩:=g A outer s H vs Q E (F.deeper _) l;have I:Inv (Xl CX P w K mg base N qual scope f cdv A outer s H E) [] (start N vs) H L:=LF S F.hd p hl r x;refine cz (ht [] L (start N vs) H _ I hq) (λfl B h=>?_) λe B h=>h;have m:∀{c:St}{i:Hp}{v:V}{u:Value},Inv (Xl CX P w K mg base N qual scope f cdv A outer s H E) [] c i B->yq v u->Q v i->CE outer P w H s Q u B:=
  λ{c i v u} J C q=>⟨v,i,J.os,J.bare,J.base,J.hok,C,q⟩
 cases fl with
 | ret u=>obtain⟨v,c,i,J,C,q⟩:=h;exact m J C q
 | next=>obtain⟨c,i,J,q⟩:=h;exact m (v:=V.non) J rfl q
 | brk=>
   obtain⟨_,_,_,q⟩:=h
   simp_all
 | cont=>
   obtain⟨_,_,_,q⟩:=h
   simp_all
section
variable{t:TA}{T:String}{r:List V->Hp->VK->Prop}
def pQ(r:List V->Hp->VK->Prop)(t:TA):TE:=λσ H Q=>t σ H λvs H1=>r vs H1 Q
theorem yh(q:Zg X (.builtin id) r)(o:Gl X x)(n:X.mg x=none)(l:bootBuiltins x=some (.builtin id))(u:PA X (e::es) t)(m:x≠"__name__":=by decide)(c:(x==("__debug__":Str))=false:=by decide)
  (he:starEach (e::es) X.env=(false,eval e X.env)::starEach es X.env:=by rfl) (b:(backTo aE (starEach es X.env)).any (·.1)=false:=by rfl):PE X (.Call (.Name x p) (e::es) [] aE) (pQ r t):=by intro a s d H Q I h;refine wpAny_Call_Name_kw (Wf I o n l ?_ m c);exact PyProof.Rows.callWith_builtin1 (aF (u aE a s d H _ I h) λg i ⟨f,w,v,j,k⟩=>q a i d w f g Q v j k) he b
theorem vz(q:Zg X (.type T) r)(o:Gl X x)(n:X.mg x=none)(l:bootBuiltins x=some (.type T))(u:PA X (e::es) t)(m:x≠"__name__":=by decide)(c:(x==("__debug__":Str))=false:=by decide)
  (he:starEach (e::es) X.env=(false,eval e X.env)::starEach es X.env:=by rfl) (b:(backTo aE (starEach es X.env)).any (·.1)=false:=by rfl):PE X (.Call (.Name x p) (e::es) [] aE) (pQ r t):=by intro a s d H Q I h;refine wpAny_Call_Name_kw (Wf I o n l ?_ m c);exact PyProof.Rows.callWith_type1 (aF (u aE a s d H _ I h) λg i ⟨f,w,v,j,k⟩=>q a i d w f g Q v j k) he b
end
section
variable{κ:Type}[DecidableEq κ]
noncomputable def xa(kvs:List (κ×V))(k:κ):Option V:=(kvs.find? λF=>decide (F.1=k)).map (·.2)
noncomputable def qo(kvs:List (κ×V))(k:κ)(v:V):List (κ×V):=if(kvs.any λF=>decide (F.1=k))=true then kvs.map (λF=>if F.1=k then(F.1,v)else F)else kvs++[(k,v)]
noncomputable def pK(kvs:List (κ×V))(k:κ):List (κ×V):=kvs.filter λF=>decide (F.1≠k)
theorem wz{p:κ×V}{r:O (κ×V)}{k:κ}(e:p.1=k):xa (p::r) k=some p.2:=by simp[xa,List.find?_cons,e]
theorem wc{p:κ×V}{r:O (κ×V)}{k:κ}(e:¬p.1=k):xa (p::r) k=xa r k:=by simp[xa,List.find?_cons,e]
theorem Z8(k:κ):∀kvs:List (κ×V),(kvs.any λa=>decide (a.1=k))=(xa kvs k).isSome|[]=>rfl| p::r=>by rw[List.any_cons];by_cases e:p.1=k;simp only[wz e,bp e,Bool.true_or,Option.isSome_some];rw[wc e,cf e,Bool.false_or];exact Z8 k r
theorem BV(k j:κ)(y:V):∀kvs:List (κ×V),xa (kvs.map λa=>if a.1=k then(a.1,y)else a) j=(xa kvs j).map λx=>if j=k then y else x|[]=>rfl| p::r=>by have b:=BV k j y r;rw[c8];by_cases h:p.1=k;rw[if_pos h];by_cases e:p.1=j;rw[wz (p:=(p.1,y)) e,wz e,Option.map_some,if_pos (e.symm.trans h)];rw[wc (p:=(p.1,y)) e,wc e,b];rw[if_neg h];by_cases e:p.1=j;rw[wz e,wz e,Option.map_some,if_neg (λz=>h (e.trans z))];rw[wc e,wc e,b]
theorem CC(k j:κ)(y:V):∀kvs:List (κ×V),xa kvs k=none->xa (kvs++[(k,y)]) j=if j=k then some y else xa kvs j
 | [],_=>by by_cases e:k=j;rw[if_pos e.symm];exact wz e;rw[if_neg (λz=>e z.symm)];exact wc e
 | p::r,a=>by
   rw[List.cons_append];have hk:¬p.1=k:=λz=>by rw[wz z]at a;grind
   rw[wc hk]at a;have b:=CC k j y r a;by_cases e:p.1=j;rw[wz e,wz e,if_neg (λz=>hk (e.trans z))];rw[wc e,wc e,b]
theorem V2(kvs:O (κ×V))(k j:κ)(y:V):xa (qo kvs k y) j=if j=k then some y else xa kvs j:=by
 unfold qo;by_cases a:(kvs.any λb=>decide (b.1=k))=true;rw[if_pos a,BV];rw[Z8]at a;by_cases e:j=k;obtain⟨x,hx⟩:=Option.isSome_iff_exists.mp a;rw[if_pos e,e,hx,Option.map_some,if_pos J]
 simp_all
 rw[if_neg a];refine CC k j y kvs ?_;rw[Z8]at a
 simp_all
theorem qa(kvs:O (κ×V))(k:κ)(v:V):(qo kvs k v).length<=kvs.length+1:=by
 unfold qo
 grind
theorem X5{kvs:O (κ×V)}{k:κ}(v:V)(h:xa kvs k=none):qo kvs k v=kvs++[(k,v)]:=by unfold qo;rw[Z8,h];rfl
theorem Xn.isSome_eq{o:Option V}{u:Option Value}(r:Xn o u):o.isSome=u.isSome:=by
 cases o with
 | none=>cases u with
   |none=>rfl
   |some _=>exact(r).elim
 | some _=>cases u with
   |none=>exact(r).elim
   |some _=>rfl
theorem Xn.getD{o:Option V}{u:Option Value}{d:V}{d':Value}(r:Xn o u)(a:yq d d'):yq (o.getD d) (u.getD d'):=by
 cases o with
 | none=>cases u with
   |none=>grind
   |some _=>exact(r).elim
 | some _=>cases u with
   |none=>exact(r).elim
   |some _=>exact r
theorem KV.val{kvs:List (κ×V)}{vs:List (κ×Value)}(r:KV kvs vs)(k:κ):Xn (xa kvs k) (valueAt vs k):=by
 unfold KV at r;induction r with|nil=>exact True.intro| @cons p q g a h t i=>
   obtain⟨d,f⟩:=h;by_cases e:p.1=k;have c:=d.symm.trans e;have b:valueAt (q::a) k=some q.2:=by simp[valueAt,List.find?_cons,c]
   rw[wz e,b];exact f;have c:¬q.1=k:=λz=>e (d.trans z);have b:valueAt (q::a) k=valueAt a k:=by simp[valueAt,List.find?_cons,c]
   rw[wc e,b];omega
theorem KV.any{kvs:List (κ×V)}{vs:List (κ×Value)}(r:KV kvs vs)(k:κ):(kvs.any λa=>decide (a.1=k))=vs.any λa=>decide (a.1=k):=by unfold KV at r;induction r with|nil=>rfl|cons h t b=>rw[List.any_cons,List.any_cons,b,h.1]
theorem KV.repl{kvs:List (κ×V)}{vs:List (κ×Value)}(r:KV kvs vs)(k:κ)(c:yq y u):KV (kvs.map λa=>if a.1=k then(a.1,y)else a) (vs.map λa=>if a.1=k then(a.1,u)else a):=by
 unfold KV at r⊢;induction r with|nil=>exact .nil| @cons p q e d h t b=>
   rw[c8,c8];refine .cons ?_ b
   grind
theorem KV.put{kvs:O (κ×V)}{vs:O (κ×I)}(r:KV kvs vs)(k:κ)(a:yq y u):KV (qo kvs k y) (stored vs k u):=by unfold qo stored;rw[r.any k];by_cases e:(vs.any λb=>decide (b.1=k))=true;rw[if_pos e,if_pos e];exact r.repl k a;rw[if_neg e,if_neg e];exact Paired.snoc r ⟨J,a⟩
theorem KV.length{kvs:O (κ×V)}{vs:O (κ×I)}(r:KV kvs vs):kvs.length=vs.length:=Paired.length r
theorem Iq(kvs:O (κ×V))(k:κ):(pK kvs k).length<=kvs.length:=fc _ _
end
theorem Qn{k:aK}(r:yq (kV k) u):(yn P w).is k u=true:=by cases k with|inl i=>obtain⟨t,e⟩:=(r);subst e;exact M9 P w i t|inr x=>obtain⟨t,e⟩:=(r);subst e;exact Na P w x t
theorem CN{P:Program}{w:World}:∀{a:List aK}{b:List Value},yu (a.map kV) b->ItemsAre (yn P w) a b|[],_,r=>by rw[List.map_nil]at r;cases r;exact .nil| k::a,_,r=>by rw[c8]at r;cases r with|cons h t=>exact .cons (Qn h) (CN t)
abbrev KT(H:Hp):List (List aK×V)->List (List aK×Addr×Value)->Prop:=Paired λp q=>p.1=q.1/\H q.2.1=some (.tup (p.1.map kV))/\yq p.2 q.2.2
theorem KT.val{kvs:List (List aK×V)}{xs:List (List aK×Addr×Value)}(r:KT H kvs xs)(k:List aK):Xn (xa kvs k) ((atKey xs k).map (·.2)):=by
 induction r with|nil=>exact True.intro| @cons p q g a h t i=>
   obtain⟨d,_,f⟩:=h;by_cases e:p.1=k;have c:=d.symm.trans e;have b:atKey (q::a) k=some q.2:=by simp[atKey,List.find?_cons,c]
   rw[wz e,b];exact f;have c:¬q.1=k:=λz=>e (d.trans z);have b:atKey (q::a) k=atKey a k:=by simp[atKey,List.find?_cons,c]
   rw[wc e,b];omega
theorem KT.repl{kvs:List (List aK×V)}{xs:List (List aK×Addr×Value)}(r:KT H kvs xs)(k:List aK)(d:yq y u):KT H (kvs.map λb=>if b.1=k then(b.1,y)else b) (xs.map (putAt k u)):=by induction r with|nil=>exact .nil| @cons p q j i h t f=>rw[c8,c8];refine .cons ?_ f;obtain⟨a,c,g⟩:=h;unfold putAt;by_cases e:p.1=k;rw[if_pos e,if_pos (a.symm.trans e)];exact⟨a,c,d⟩;rw[if_neg e,if_neg (λz=>e (a.trans z))];exact⟨a,c,g⟩
theorem KT.put{kvs:O (O aK×V)}{xs:O (O aK×Y×I)}(r:KT H kvs xs)(k:O aK)(d:H b=some (.tup (k.map kV)))(a:yq y u):KT H (qo kvs k y) (storedH xs k b u):=by
 have e:(kvs.any λc=>decide (c.1=k))=(atKey xs k).isSome:=by rw[Z8,(r.val k).isSome_eq,Option.isSome_map]
 unfold qo storedH;rw[e];by_cases q:(atKey xs k).isSome=true;rw[if_pos q,if_pos q];exact r.repl k a;rw[if_neg q,if_neg q];exact Paired.snoc r ⟨J,d,a⟩
theorem KT.keeps{kvs:O (O aK×V)}{xs:O (O aK×Y×I)}(r:KT H kvs xs)(a:∀b ys,H b=some (.tup ys)->H' b=some (.tup ys)):KT H' kvs xs:=Paired.mapP r λ_ _ z=>⟨z.1,a _ _ z.2.1,z.2.2⟩
section
theorem zQ{u:HO}(b:cA P w H h)(e:Rd H a u):qy P w H h a u:=e.ok b
theorem Vh(b:cA P w H h)(e:Rd H a (.dK kvs)):kvs.length<=sizeLine/\(a==sysModules)=false/\∃vs,KV kvs vs/\h.DictOf (yn P w) a vs:=(zQ b e)
theorem zI(b:cA P w H h)(e:H a=some (.dK kvs)):kvs.length<=sizeLine/\(a==sysModules)=false/\∃vs,KV kvs vs/\h.DictOf (yn P w) a vs:=Vh b (.inl e)
theorem Wj(c:cA P w H h)(e:H a=some (.tup (ks.map kV))):(tupleKind (yn P w)).is h ks a:=by
 obtain⟨_,b,r,⟨o,g,f,n,d⟩,_⟩:=(c a _ e)
 exact⟨o,b.toArray,n,g,f,d,by simpa using CN r⟩
theorem Kc{kvs:O (O aK×V)}(b:cA P w H h)(e:Rd H a (.dT kvs)):kvs.length<=sizeLine/\(a==sysModules)=false/\
  ∃xs,KT H kvs xs/\h.DictOfH (tupleKind (yn P w)) a xs:=by
 obtain⟨z,y,xs,r,o,j,k,i,g,f,d,c⟩:=(zQ b e)
 refine⟨z,y,xs,r,o,j,k,i,g,f,d,λx hx=>?_,c⟩;have n:∀{l:O (O aK×V)}{m:O (O aK×Y×I)},KT H l m->∀x∈m,(tupleKind (yn P w)).is h x.1 x.2.1:=by
  intro l m q;induction q with|nil=>simp| @cons p q u s A t v=>
    intro x hx;rcases ak.mp hx with e|hx;subst e;exact Wj b (by simp_all)
    grind
 grind
theorem zJ{kvs:O (O aK×V)}(b:cA P w H h)(e:H a=some (.dT kvs)):kvs.length<=sizeLine/\(a==sysModules)=false/\
 ∃xs,KT H kvs xs/\h.DictOfH (tupleKind (yn P w)) a xs:=Kc b (.inl e)
end
def je(H:Hp)(a:Addr)(y:V)(r:Option V):Prop:=(∃kvs k,Rd H a (.dK kvs)/\y=kV k/\r=xa kvs k)\/∃kvs k b,Rd H a (.dT kvs)/\y=.ref b/\H b=some (.tup (k.map kV))/\r=xa kvs k
def Kp(H:Hp)(a:Addr)(y v:V)(F:Hp):Prop:=
 (∃kvs k,H a=some (.dK kvs)/\y=kV k/\kvs.length<sizeLine/\F=upd H a (.dK (qo kvs k v)))\/
 ∃kvs k b,H a=some (.dT kvs)/\y=.ref b/\H b=some (.tup (k.map kV))/\kvs.length<sizeLine/\F=upd H a (.dT (qo kvs k v))
theorem je.k{H:Hp}{a:Y}{kvs:O (aK×V)}{k:aK}(e:H a=some (.dK kvs)):je H a (kV k) (xa kvs k):=.inl ⟨kvs,k,.inl e,J,J⟩
theorem je.t{kvs:O (O aK×V)}{k:O aK}(e:H a=some (.dT kvs))(c:H b=some (.tup (k.map kV))):je H a (.ref b) (xa kvs k):=.inr ⟨kvs,k,b,.inl e,J,c,J⟩
theorem Kp.k{H:Hp}{a:Y}{kvs:O (aK×V)}{k:aK}{v:V}(e:H a=some (.dK kvs))(b:kvs.length<sizeLine):Kp H a (kV k) v (upd H a (.dK (qo kvs k v))):=.inl ⟨kvs,k,e,J,b,J⟩
theorem Kp.t{kvs:O (O aK×V)}{k:O aK}(e:H a=some (.dT kvs))(d:H b=some (.tup (k.map kV)))(c:kvs.length<sizeLine):Kp H a (.ref b) v (upd H a (.dT (qo kvs k v))):=.inr ⟨kvs,k,b,e,J,d,c,J⟩
section
variable{o:Option V}
theorem Inv.big(I:Inv X pins σ H s):sysModules<s.heap.objs.size:=by have h:=(I.mod.glob.keeps I.bk).lt;exact Nat.lt_trans (by decide) h
theorem KL(r:A.units+1<cLine)(I:Inv X pins σ H s)(g:je H a y (some v))(q:yq y u)(h:∀f s',Inv X pins σ H s'->yq v f->Q f s'):wpAny (model X.prog X.w) A (getItem (.ref a) u) Q E s:=by rcases g with⟨i,k,e,n,l⟩|⟨i,k,b,e,n,x,l⟩;subst n;obtain⟨z,w,C,d,o⟩:=Vh I.hok e;obtain⟨f,j,c⟩:=Xn.some_of (by rw[l];exact d.val k);exact wpAny_getItem_of (Qn q) o.mapOf j (h f _ (I.tok _) c);subst n;cases(q);obtain⟨z,w,B,d,o⟩:=Kc I.hok e;obtain⟨f,j,c⟩:=Xn.some_of (by rw[l];exact d.val k);obtain⟨p,t,m⟩:=Option.map_eq_some_iff.mp j;refine wpAny_getItem_heap (tupleKind_room_in1 r) (Wj I.hok x) o t ?_;rw[m];exact h f _ (I.tok _) c
theorem DP(n:A.units+1<cLine)(I:Inv X pins σ H s)(g:je H a y o)(m:yq y u)(h:∀s',Inv X pins σ H s'->Q (.bool o.isSome) s'):wpAny (model X.prog X.w) A (compareOp .In u (.ref a)) Q E s:=by rcases g with⟨d,k,e,i,l⟩|⟨d,k,b,e,i,p,l⟩;subst i;obtain⟨z,f,t,c,j⟩:=Vh I.hok e;refine wpAny_in_of (Qn m) f j.mapOf ?_;rw[<-(c.val k).isSome_eq,<-l];exact h _ (I.tok _);subst i;cases(m);obtain⟨z,f,r,c,j⟩:=Kc I.hok e;refine wpAny_in_heap (tupleKind_room_in1 n) (Wj I.hok p) f j ?_;have q:=(c.val k).isSome_eq;rw[Option.isSome_map]at q;rw[<-q,<-l];exact h _ (I.tok _)
theorem Xk{c:HO}(I:Inv X pins σ H s)(e:rM (H a))(hs:Heap.SameBut a s.heap h')(he:∃q,h'.get? a=some q)(d:qy X.prog X.w (upd H a c) h' a c):Inv X pins σ (upd H a c) {s with heap:=h',toks:=t'}:=
 I.write e (.inl J) (λb q f z=>(hs.2 b f).trans z) he d
theorem sR{vs:O (aK×I)}(z:kvs.length<=sizeLine)(c:(a==sysModules)=false)(b:KV kvs vs)(dd:h'.DictOf (yn P w) a vs):qy P w H' h' a (.dK kvs):=⟨z,c,vs,b,dd⟩
theorem KM{Q:Unit->Shared->Prop}(K:A.units+1<cLine)(I:Inv X pins σ H s)(g:Kp H a y v H')(w:yq y u)(x:yq v r)(h:∀s',Inv X pins σ H' s'->Q () s'):wpAny (model X.prog X.w) A (setItem (.ref a) u r) Q E s:=by
 rcases g with⟨f,k,e,p,l,eH⟩|⟨f,k,b,e,p,C,l,eH⟩;subst p eH;obtain⟨z,o,F,d,t⟩:=zI I.hok e;have G:F.length<=sizeLine:=by rw[<-d.length];exact z
 have n:(qo f k v).length<=sizeLine:=by have:=qa f k v;omega
 refine wpAny_setItem_pairs (Qn w) t λB j m=>h _ ?_;have L:∃q,B.get? a=some q:=let⟨q,_,_,i,_⟩:=j;⟨q,i⟩;exact Xk I (by rw[e];exact True.intro) m L (sR n o (d.put k x) j);subst p eH;cases(w);obtain⟨z,o,D,d,t⟩:=zJ I.hok e;have G:D.length<=sizeLine:=by rw[<-Paired.length d];exact z
 have n:(qo f k v).length<=sizeLine:=by have:=qa f k v;omega
 refine wpAny_setItem_heap (tupleKind_room_in1 K) (Wj I.hok C) t λB j m=>h _ ?_;obtain⟨q,S,U,i,R,P,N,_,M⟩:=j;refine Xk I (by rw[e];exact True.intro) m ⟨q,i⟩ ⟨n,o,_,(d.put k C x).keeps λc Z W=>?_,q,S,U,i,R,P,N,M⟩;rw[upd_ne (Wc W e (λz=>nomatch z))];omega
end
section
variable{k:aK}
theorem D6(I:Inv X pins σ H s)(e:Rd H a (.dK kvs))(h:∀t s',Inv X pins σ H s'->Q (.int kvs.length t) s'):wpAny (model X.prog X.w) A (call (.builtin "len") [.ref a]) Q E s:=by obtain⟨z,c,f,b,d⟩:=Vh I.hok e;refine call_len_dict c d (by rw[<-b.length];rw[sizeLine_eq]at z;omega) ?_;rw[<-b.length];exact h _ _ (I.tok _)
end
def t6(i:Expr):Prop:=∀ov F,subscripted i false ov F=operate [ov,F] (getItem ov F)
theorem Ba{a:Expr}{T:String}(j:typeLookup (.type T) "__getitem__"=pure (some (.builtin id))) (hs:t6 a)
  (h:wpAny (model prog w) A (eval aQ env) (λo d=>wpAny (model prog w) A (eval a env) (λi s₂=>s₂.TypeIs o T/\wpAny (model prog w) A (getItem o i) Q E s₂) E d) E s):
  wpAny (model prog w) A (eval (.Subscript aQ a aE) env) Q E s:=by
 refine Subscript_ (cz h (λo d g=>cz g (λi s₂ b=>?_) λ_ _ x=>x) λ_ _ x=>x);obtain⟨hT,b⟩:=b;unfold subscriptTail;refine aa ?_;rw[getitemInPython_of_ne hT.not_modules];refine aa (wpAny_specialOf hT j ?_);have e:wpAny (model prog w) A (subscripted a false o i) (λr c=>wpAny (model prog w) A (letTemporaryGo aQ o r>>=λ_=>pure r) Q E c) E s₂:=by rw[hs o i];exact wpAny_operating (cz b (λr c f=>aa (wpAny_letTemporaryGo (ae f))) λ_ _ x=>x)
 first|exact ae (aa e)|exact aa (ae (aa e))|exact aa e
theorem MV{o:Option V}(I:Inv X pins σ H s)(g:je H a y o):s.TypeIs (.ref a) "dict":=by rcases g with⟨c,k,e,_,_⟩|⟨c,k,b,e,_,_,_⟩;obtain⟨_,_,h,_,d⟩:=Vh I.hok e;exact d.typeIs;obtain⟨_,_,f,_,d⟩:=Kc I.hok e;exact d.typeIs
inductive gZ(Q:VK)(x y:V)(H2:Hp):Prop|mk:∀a v,x=.ref a->je H2 a y (some v)->Q v H2->gZ Q x y H2
def EB(U F:TE):TE:=λσ H Q=>U σ H λx H1=>F σ H1 λy H2=>gZ Q x y H2
inductive lB(Q:VK)(y x:V)(H2:Hp):Prop|mk:∀a o,x=.ref a->je H2 a y o->Q (.bl o.isSome) H2->lB Q y x H2
def yZ(F U:TE):TE:=λσ H Q=>F σ H λy H1=>U σ H1 λx H2=>lB Q y x H2
inductive iH(D:Ends)(σ:St)(v x y:V)(H3:Hp):Prop|mk:∀a H4,x=.ref a->Kp H3 a y v H4->D.nx σ H4->iH D σ v x y H3
def Eu(Z F U:TE):TS:=λD σ H=>U σ H λv H1=>Z σ H1 λx H2=>F σ H2 λy H3=>iH D σ v x y H3
section
variable{o i:Expr}{dH:Pos}{td ty:TE}
theorem v6(n:X.A.units+1<cLine)(p:PE X o td)(q:PE X i ty)(hs:t6 i:=by exact λ_ _=>rfl):PE X (.Subscript o i aE) (EB td ty):=by intro b s d H Q I h;refine Ba PySem.F.slot_dict_getitem.lookup hs (aF (p b s d H _ I h) λu f ⟨x,A,w,k,m⟩=>aF (q b f d A _ w m) λE D ⟨y,z,e,j,a,v,r,g,l⟩=>?_);subst r;obtain rfl:u=Value.ref a:=k;exact⟨MV e g,KL n e g j λB C t c=>⟨v,z,t,c,l⟩⟩
theorem FC(m:X.A.units+1<cLine)(p:PE X i ty)(n:PE X o td):PC X .In i o (yZ ty td):=by intro b s c H Q I h;refine aF (p b s c H _ I h) λC d ⟨y,z,v,e,k⟩=>aF (n b d c z _ v k) λu B ⟨x,w,t,f,a,l,q,g,j⟩=>?_;subst q;obtain rfl:u=Value.ref a:=f;exact DP m t g e λA r=>⟨.bl l.isSome,w,r,J,j⟩
theorem Wx(q:X.A.units+1<cLine)(t:PE X o td)(w:PE X i ty)(p:PE X aQ tv)(hs:swapsWith aQ (some (.Subscript o i cO)) aE.line X.env=pure false):PS X (.Assign [.Subscript o i cO] aQ aE) (Eu td ty tv):=by intro b s c H D I h;refine wpAny_Assign_Subscript (aF (p b s c H _ I h) λr e ⟨v,K,E,k,n⟩=>aF (t b e c K _ E n) λu d ⟨x,G,C,j,m⟩=>aF (w b d c G _ C m) λN M ⟨y,P,B,f,a,F,z,g,l⟩=>?_) hs;subst z;obtain rfl:u=Value.ref a:=j;exact KM q B g f k λL A=>⟨c,F,A,l⟩
end
theorem wX(h:Heap)(a:sysModules<h.objs.size):qy P w H (h.push {cls:=.type "dict",data:=.dict #[]}) h.objs.size (.dK []):=⟨bf _,beq_eq_false_iff_ne.mpr (au (bj a)),[],.nil,Heap.DictOf.new h⟩
theorem Br(h:Heap)(a:sysModules<h.objs.size):qy P w H (h.push {cls:=.type "dict",data:=.dict #[]}) h.objs.size (.dT []):=⟨bf _,beq_eq_false_iff_ne.mpr (au (bj a)),[],.nil,_,#[],0,bx _ J,⟨J,J,J⟩,J,J,List.nodup_nil⟩
def Gj:TE:=λ_ H Q=>∀p,H p=none->Q (.ref p) (upd H p (.dK []))
def Gk:TE:=λ_ H Q=>∀p,H p=none->Q (.ref p) (upd H p (.dT []))
section
theorem Qj:PE X (.Dict [] [] aE) Gj:=λa s b H Q I h=>wpAny_Dict_empty ⟨.ref s.heap.objs.size,_,I.laid (λ_ _ q=>be _ q) (aj _) (wX s.heap I.big),J,h _ (I.hok.fresh (aj _))⟩
theorem Qi:PE X (.Dict [] [] aE) Gk:=λa s b H Q I h=>wpAny_Dict_empty ⟨.ref s.heap.objs.size,_,I.laid (λ_ _ q=>be _ q) (aj _) (Br s.heap I.big),J,h _ (I.hok.fresh (aj _))⟩
end
def vF:List (TE×TE)->St->Hp->(List (V×V)->Hp->Prop)->Prop|[],_,H,Q=>Q [] H|(tk,tv)::r,σ,H,Q=>tk σ H λx H1=>tv σ H1 λy H2=>vF r σ H2 λps F=>Q ((x,y)::ps) F
abbrev VV:List (V×V)->List (Value×Value)->Prop:=Paired λp q=>yq p.1 q.1/\yq p.2 q.2
def tR(X:Cx)(aE:Pos)(U:List (Option Expr))(F:List Expr)(Z:List (TE×TE)):Prop:=
 ∀ (pins:List (Addr×Obj)) (s:Shared) (σ:St) (H:Hp) (Q:List (V×V)->Hp->Prop),Inv X pins σ H s->vF Z σ H Q->
   wpAny (model X.prog X.w) X.A (evalPairs (pairTrees U F X.env aE)) (λvs s'=>∃ps H',Inv X pins σ H' s'/\VV ps vs/\Q ps H') X.xe s
theorem Hx:tR X aE [] [] []:=λa s b H Q I h=>pairTrees_nil_walk ⟨[],H,I,.nil,h⟩
theorem Qf{k v:Expr}{f:O (Option Expr)}{vs:O Expr}{e:TE}{b:O (TE×TE)}(hk:PE X k e)(q:PE X v tv)(r:tR X aE f vs b):tR X aE (some k::f) (v::vs) ((e,tv)::b):=λa s c H Q I h=>pairTrees_cons_walk (aF (hk a s c H _ I h) λu i ⟨x,C,z,l,o⟩=>aF (q a i c C _ z o) λE g ⟨y,B,w,j,n⟩=>aF (r a g c B _ w n) λD F ⟨p,A,t,d,m⟩=>⟨(x,y)::p,A,t,.cons ⟨l,j⟩ d,m⟩)
noncomputable def Xf(kvs F:List (aK×V)):List (aK×V):=F.foldl (λU Z=>qo U Z.1 Z.2) kvs
theorem KV.merge:∀{a:List (aK×V)}{b:List (aK×Value)}{kvs:List (aK×V)}{vs:List (aK×Value)},KV a b->KV kvs vs->KV (Xf kvs a) (merged vs b):=by
 intro a b kvs vs r;unfold KV at r;induction r generalizing kvs vs with|nil=>intro q;exact q| @cons p q g f h t d=>
   intro c;have e:KV (qo kvs p.1 p.2) (stored vs q.1 q.2):=by
    have:=c.put p.1 h.2
    simp_all
   exact d e
theorem Vf:∀(a kvs:List (aK×V)),(Xf kvs a).length<=kvs.length+a.length
 |[],kvs=>by show kvs.length<=kvs.length+0;omega
 | p::r,kvs=>by
   have c:=Vf r (qo kvs p.1 p.2);have b:=qa kvs p.1 p.2;show(Xf (qo kvs p.1 p.2) r).length<=_
   grind
theorem CT{P:Program}{w:World}:∀{kvs:List (aK×V)}{e:List (Value×Value)},VV (kvs.map λf=>(kV f.1,f.2)) e->∃d,Carries (yn P w) e d/\KV kvs d|[],_,r=>by rw[List.map_nil]at r;cases r;exact⟨[],True.intro,.nil⟩| p ::kvs,_,r=>by rw[c8]at r;cases r with| @cons a b as i h t=>obtain⟨d,c,q⟩:=CT t;obtain⟨j,g⟩:=b;exact⟨(p.1,g)::d,⟨Qn h.1,J,c⟩,.cons ⟨J,h.2⟩ q⟩
def EC(F:List (TE×TE)):TE:=λσ H Q=>∀p,H p=none->vF F σ (upd H p (.dK [])) λps H2=>H2 p=some (.dK [])/\∃kvs:List (aK×V),ps=kvs.map (λU=>(kV U.1,U.2))/\kvs.length<=15/\Q (.ref p) (upd H2 p (.dK (Xf [] kvs)))
theorem Hn{a:O (Option Expr)}{b:O Expr}{d:O (TE×TE)}(h:tR X aE a b d)(i:a.all (·.isSome)=true)(A:a.length=b.length)(E:a≠[])(k:a.length<=15):PE X (.Dict a b aE) (EC d):=by
 intro f s n H Q I q;have y:=I.hok.fresh (aj s.heap.objs.size);have L:=I.laid (t':=s.toks) (λ_ _ q=>be _ q) (aj _) (wX s.heap I.big);refine wpAny_Dict_walk (knd:=yn X.prog X.w) i A E k (aF (h f _ n _ _ L (q _ y)) λM N ⟨P,S,m,j,e,g,G,R,u⟩=>?_);subst G;obtain⟨p,c,r⟩:=CT j;obtain⟨z,C,o,t,K⟩:=zI m.hok e;cases t;refine⟨p,c,K,λF l w=>⟨.ref s.heap.objs.size,_,?_,J,u⟩⟩;have v:(Xf [] g).length<=sizeLine:=by have D:=Vf g [];rw[List.length_nil]at D;rw[sizeLine_eq];omega
 have B:∃q,F.get? s.heap.objs.size=some q:=let⟨q,_,_,x,_⟩:=l;⟨q,x⟩;exact Xk m (by rw[e];exact True.intro) w B (sR v C (r.merge .nil) l)
structure M1(X:Cx)(o:Expr)(m:Str)(apos:Pos)(e:Expr)(cpos:Pos):Prop where
 base:attributeBase o m X.env (eval o X.env)=eval o X.env
 few:((backTo cpos (starEach [e] X.env)).all (λx=> !x.1) && (backToKw cpos (keywordEach [] X.env)).all (λx=>x.1.isSome) && decide (([e]:List Expr).length+([]:List Keyword).length+(if([]:List Keyword).isEmpty then 0 else 1)<30))=true
 line:(apos.endLine==cpos.line)=true
 trees:backTo cpos (starEach [e] X.env)=[(false,eval e X.env)]
structure M2(X:Cx)(o:Expr)(m:Str)(apos:Pos)(e f:Expr)(cpos:Pos):Prop where
 base:attributeBase o m X.env (eval o X.env)=eval o X.env
 few:((backTo cpos (starEach [e,f] X.env)).all (λx=> !x.1) && (backToKw cpos (keywordEach [] X.env)).all (λx=>x.1.isSome) && decide (([e,f]:List Expr).length+([]:List Keyword).length+(if([]:List Keyword).isEmpty then 0 else 1)<30))=true
 line:(apos.endLine==cpos.line)=true
 trees:backTo cpos (starEach [e,f] X.env)=[(false,eval e X.env),(false,eval f X.env)]
def yM(H:Hp)(a:Addr):Prop:=(∃kvs,Rd H a (.dK kvs))\/∃kvs,Rd H a (.dT kvs)
theorem Ad(I:Inv X pins σ H s)(d:yM H a):s.TypeIs (.ref a) "dict"/\(∀b,Value.ref a=.ref b->∃c,s.heap.get? b=some c/\c.dict=none)/\(a==sysModules)=false:=by rcases d with⟨g,e⟩|⟨g,e⟩;obtain⟨_,h,l,_,f⟩:=Vh I.hok e;refine⟨f.typeIs,λb q=>?_,h⟩;cases q;obtain⟨c,_,_,j,i,_⟩:=f;exact⟨c,j,i.2.1⟩;obtain⟨_,h,k,_,f⟩:=Kc I.hok e;refine⟨f.typeIs,λb q=>?_,h⟩;cases q;obtain⟨c,_,_,j,i,_⟩:=f;exact⟨c,j,i.2.1⟩
section
variable{d:V}{o:Option V}
theorem E2(q:A.units+1<cLine)(I:Inv X pins σ H s)(g:je H a y o)(n:yq y u)(h:∀m s',Inv X pins σ H s'->yq (o.getD .non) m->Q m s'):wpAny (model X.prog X.w) A (call (.builtin "dict.get") [.ref a,u]) Q E s:=by rcases g with⟨f,k,e,j,l⟩|⟨f,k,b,e,j,r,l⟩;subst j;obtain⟨z,i,t,c,d⟩:=Vh I.hok e;refine call_meetsIn PySem.F.slot_dict_get d.typeIs PySem.F.entry_dict_get (PySem.F.args_dict_get_2 _ _) (meets_dict_get (yn X.prog X.w) a (Qn n) i) ⟨_,d.mapOf,h _ _ (I.tok _) ?_⟩;rw[l];exact(c.val k).getD J;subst j;cases(n);obtain⟨z,i,p,c,d⟩:=Kc I.hok e;refine call_meetsIn PySem.F.slot_dict_get d.typeIs PySem.F.entry_dict_get (PySem.F.args_dict_get_2 _ _) (meetsH_dict_get (tupleKind (yn X.prog X.w)) a b i) ⟨tupleKind_room_in1 q,k,p,Wj I.hok r,d,h _ _ (I.tok _) ?_⟩;rw[l];exact(c.val k).getD J
theorem E3(v:A.units+1<cLine)(I:Inv X pins σ H s)(g:je H a y o)(p:yq y u)(q:yq d r)(h:∀n s',Inv X pins σ H s'->yq (o.getD d) n->Q n s'):wpAny (model X.prog X.w) A (call (.builtin "dict.get") [.ref a,u,r]) Q E s:=by rcases g with⟨i,k,e,m,l⟩|⟨i,k,b,e,m,w,l⟩;subst m;obtain⟨z,j,x,c,f⟩:=Vh I.hok e;refine call_meetsIn PySem.F.slot_dict_get f.typeIs PySem.F.entry_dict_get (PySem.F.args_dict_get_3 _ _ _) (meets_dict_get_default (yn X.prog X.w) a (Qn p) j r) ⟨_,f.mapOf,h _ _ (I.tok _) ?_⟩;rw[l];exact(c.val k).getD q;subst m;cases(p);obtain⟨z,j,t,c,f⟩:=Kc I.hok e;refine call_meetsIn PySem.F.slot_dict_get f.typeIs PySem.F.entry_dict_get (PySem.F.args_dict_get_3 _ _ _) (meetsH_dict_get_default (tupleKind (yn X.prog X.w)) a b j r) ⟨tupleKind_room_in1 v,k,t,Wj I.hok w,f,h _ _ (I.tok _) ?_⟩;rw[l];exact(c.val k).getD q
end
inductive fO(Q:VK)(a:Addr)(y:V)(H2:Hp):Prop|mk:∀o,je H2 a y o->Q (o.getD .non) H2->fO Q a y H2
inductive eP(ty:TE)(σ:St)(Q:VK)(x:V)(H1:Hp):Prop|mk:∀a,x=.ref a->yM H1 a->(ty σ H1 λy H2=>fO Q a y H2)->eP ty σ Q x H1
def Ar(U F:TE):TE:=λσ H Q=>U σ H λx H1=>eP F σ Q x H1
inductive fN(Q:VK)(a:Addr)(y z:V)(H3:Hp):Prop|mk:∀o,je H3 a y o->Q (o.getD z) H3->fN Q a y z H3
inductive eO(ty tx:TE)(σ:St)(Q:VK)(x:V)(H1:Hp):Prop|mk:∀a,x=.ref a->yM H1 a->(ty σ H1 λy H2=>tx σ H2 λz H3=>fN Q a y z H3)->eO ty tx σ Q x H1
def Gi(Z F U:TE):TE:=λσ H Q=>Z σ H λx H1=>eO F U σ Q x H1
section
variable{o f:Expr}{cpos:Pos}{td ty tx:TE}
theorem BD(t:X.A.units+1<cLine)(v:PE X o td)(he:PE X e ty)(m:M1 X o "get" apos e cpos):PE X (.Call (.Attribute o "get" apos) [e] [] cpos) (Ar td ty):=by intro b s f H Q I h;refine wpAny_Call_method m.base m.few m.line PySem.F.plainAttrs_dict PySem.F.slot_dict_get PySem.F.type_dict_get (aF (v b s f H _ I h) λu l ⟨x,C,i,p,a,w,d,r⟩=>?_);subst w;obtain rfl:u=Value.ref a:=p;obtain⟨k,j,_⟩:=Ad i d;refine⟨k,j,?_⟩;rw[m.trees];refine Calls.callWith_builtin J (Calls.evalArgs_plain (Calls.spliced_cons (aF (he b l f C _ i r) λK F ⟨y,B,A,n,G,g,q⟩=>Calls.spliced_nil ?_)));exact E2 t A g n λD E z c=>⟨_,B,z,c,q⟩
theorem BE(B:X.A.units+1<cLine)(C:PE X o td)(he:PE X e ty)(D:PE X f tx)(m:M2 X o "get" apos e f cpos):PE X (.Call (.Attribute o "get" apos) [e,f] [] cpos) (Gi td ty tx):=by
 intro b s c H Q I h;refine wpAny_Call_method m.base m.few m.line PySem.F.plainAttrs_dict PySem.F.slot_dict_get PySem.F.type_dict_get (aF (C b s c H _ I h) λu p ⟨x,N,j,t,a,E,d,A⟩=>?_);subst E;obtain rfl:u=Value.ref a:=t;obtain⟨l,k,_⟩:=Ad j d;refine⟨l,k,?_⟩;rw[m.trees];refine Calls.callWith_builtin J (Calls.evalArgs_plain (Calls.spliced_cons (aF (he b p c N _ j A) λW n ⟨y,M,K,r,w⟩=>Calls.spliced_cons (aF (D b n c M _ K w) λZ S ⟨z,L,G,q,U,g,v⟩=>Calls.spliced_nil ?_))))
 exact E3 B G g r q λP R F i=>⟨_,L,F,i,v⟩
end
section
theorem Im(I:Inv X pins σ H s)(e:Rd H a (.dK kvs))(h:∀p s',H p=none->Inv X pins σ (upd H p (.dK kvs)) s'->Q (.ref p) s'):wpAny (model X.prog X.w) A (call (.type "dict") [.ref a]) Q E s:=by obtain⟨z,g,k,c,i⟩:=Vh I.hok e;refine kt_call_dict g i (by rw[<-c.length];exact z) λl j f=>?_;refine h _ _ (I.hok.fresh (aj _)) (I.laid (λb q d=>?_) (aj _) (sR z (beq_eq_false_iff_ne.mpr (au (bj I.big))) c j));exact(f.2 b (bj (ax d))).trans (be _ d)
end
section
end
end L2
namespace HT
open PySem PyProof.Rows
variable{sl:Addr}{A:Around}{aC:Array Value}{s:Shared}{vl vu:Value}{E Q:Value->Shared->Prop}
section
open PySem.SeqAt
open PySem.AutoSeq1 (wpAny_loadPart')
open PySem.MeetsSeq PySem.MeetsSeq2 PySem.MeetsSeq3
end
section
variable{prog:Program}{w:World}
theorem tM{t b:Y}{vs a:O I}(u:IsTup s.heap t vs.toArray)(x:IsTup s.heap b a.toArray)(B:vs≠[])(y:a=[]->Q (.ref t) s) (C:a≠[]->Q (.ref s.heap.objs.size) {s with heap:=s.heap.push {cls:=.type "tuple",data:=.seq (vs++a).toArray}})
  (v:vs.length+a.length<=sizeLine):wpAny (model prog w) A (binaryOp .Add (.ref t) (.ref b)) Q E s:=by
 obtain⟨⟨z,o,p,j⟩,i,m,n,l⟩:=id u;obtain⟨⟨q,h,data2,d⟩,c,g,k,f⟩:=id x;simp only at m l g f;subst m l g f;have e:vs.toArray++a.toArray=(vs++a).toArray:=by simp
 by_cases r:a=[];exact concat_meets ⟨_,i,J⟩ ⟨_,c,J⟩ noFill_tuple_add seq_tuple_add PySem.F.slot_tuple_add PySem.F.entry_tuple_add (PySem.F.args_tuple_add_2 _ _)
  (tuple_addW1 t b vs.toArray a.toArray n k o h j d (by simp_all) (by grind)) ⟨i,c,y r⟩
 refine concat_meets ⟨_,i,J⟩ ⟨_,c,J⟩ noFill_tuple_add seq_tuple_add PySem.F.slot_tuple_add PySem.F.entry_tuple_add (PySem.F.args_tuple_add_2 _ _)
  (tuple_addW2 t b vs.toArray a.toArray n k o h j d (by simp_all) (by simp_all) (by omega)) ⟨i,c,?_⟩
 simp_all
noncomputable def bS(n d:Nat):Option Int->Nat|none=>d|some v=>if v<0 then(v+(n:Int)).toNat else min v.toNat n
theorem re(n d:Nat):bS n d none=d:=rfl
theorem tz(n d k:Nat):bS n d (some (k:Int))=min k n:=by rfl
theorem Ge(n d:Nat)(a:d<=n)(o:Option Int):bS n d o<=n:=by
 cases o with|none=>exact a| some v=>
   show(if v<0 then(v+n).toNat else min v.toNat n)<=n
   grind
theorem AC(v:Int)(n d:Nat):(if v<0 then max (v+(n:Int)) 0 else min v (n:Int))=((bS n d (some v):Nat):Int):=by
 show(if v<0 then max (v+n) 0 else min v n)=(((if v<0 then(v+n).toNat else min v.toNat n):Nat):Int)
 grind
theorem Mi(lo a:Option Int)(n:Nat):Builtin.Slice.sliceAdjust lo a 1 (n:Int)=(((bS n 0 lo:Nat):Int),((bS n n a:Nat):Int)):=by
 have b:¬((1)<0):=by omega
 unfold Builtin.Slice.sliceAdjust;simp only[b,if_false];refine Prod.ext ?_ ?_;cases lo with|none=>rfl|some v=>exact AC v n 0
 cases a with|none=>rfl|some v=>exact AC v n n
theorem MA(i j:Nat):Builtin.Slice.slicePlaces (i:Int) (j:Int) 1=j-i:=by
 unfold Builtin.Slice.slicePlaces;have a:(1:Int)>0:=by omega
 simp only[a,if_true,Int.ediv_one];split<;>omega
theorem C7{v:Value}{o:Option Int}{Q:Option Int->Shared->Prop}(p:IsPart v o)(h:Q o s):wpAny (model prog w) A (Builtin.Slice.slicePartIndex v) Q E s:=by cases p with|none=>exact slicePart_none h|int i t=>exact slicePart_int h
theorem Yx{lo b:Option Int}{n:Nat}{Q:Int×Int×Nat->Shared->Prop}(hs:s.heap.IsSliceOf sl vl vu .none)(e:IsPart vl lo)(d:IsPart vu b)(h:Q (((bS n 0 lo:Nat):Int),1,bS n n b-bS n 0 lo) s):wpAny (model prog w) A (Builtin.Slice.sliceApplied (.ref sl) (pure (n:Int))) Q E s:=by obtain⟨os,a,f,c⟩:=id hs;unfold Builtin.Slice.sliceApplied Builtin.Slice.sliceFields;refine aa (aa (wpAny_field a c J (aa (wpAny_field a c J (aa (wpAny_field a c J (ae ?_)))))));refine aa (slicePart_none ?_);rw[if_neg (by decide)];refine aa (C7 e (aa (C7 d (aa (ae ?_)))));show wpAny _ _ (match Builtin.Slice.sliceAdjust lo b 1 n with|(lo,b)=>pure (lo,(1:Int),Builtin.Slice.slicePlaces lo b 1)) _ _ s;rw[Mi lo b n];show wpAny _ _ (pure (((bS n 0 lo):Int),(1),Builtin.Slice.slicePlaces ((bS n 0 lo:Nat)) ((bS n n b):Int) 1)) _ _ s;rw[MA];exact ae h
theorem JE(xs:Array I)(i k:Nat):((List.range k).filterMap λ(m:Nat)=>xs[((i:Int)+(m:Int)*1).toNat]?).toArray=((xs.toList.drop i).take k).toArray:=by
 have e:(λ(m:Nat)=>xs[((i:Int)+m*1).toNat]?)=λm=>xs[i+m]?:=by grind
 rw[e];have:=pick_run xs i k;rw[List.filterMap_map]at this;have a:((λx=>xs[x]?)∘λx=>i+x)=λm=>xs[i+m]?:=rfl
 simp_all
theorem fW{t:Y}{lo b:Option Int}(c:IsTup s.heap t aC)(hs:s.heap.IsSliceOf sl vl vu .none)(j:IsPart vl lo)(i:IsPart vu b)(k:¬(bS aC.size 0 lo=0/\bS aC.size aC.size b=aC.size))
  (h:Q (.ref s.heap.objs.size) {s with heap:=s.heap.push {cls:=.type "tuple",data:=.seq ((aC.toList.drop (bS aC.size 0 lo)).take (bS aC.size aC.size b-bS aC.size 0 lo)).toArray}})
  (l:aC.size<=sizeLine):wpAny (model prog w) A (getItem (.ref t) (.ref sl)) Q E s:=by
 have a:sizeOk (.seq ((aC.toList.drop (bS aC.size 0 lo)).take (bS aC.size aC.size b-bS aC.size 0 lo)).toArray):=by show((aC.toList.drop (bS aC.size 0 lo)).take (bS aC.size aC.size b-bS aC.size 0 lo)).toArray.size<=sizeLine;rw[cx,bu,List.length_drop,Array.length_toList];omega
 have p:bS aC.size aC.size b<=aC.size:=Ge _ _ (aj _) b;obtain⟨os,d,f,m⟩:=id hs;have g:s.TypeIs (.ref sl) "slice":=⟨os,d,f⟩
 unfold getItem
 try with_reducible refine wpAny_holding ?_
 first|refine aa (ae ?_)|skip
 refine aa (wpAny_sequenceKey c.typeIs (by decide) ?_);refine aa (wpAny_callSpecial?_slot (name:=Str.ofString "__getitem__") c.typeIs PyProof.Rows.slot_tuple_getitem (cy PyProof.Rows.slot_tuple_getitem c.typeIs entry_tuple_getitem ?_ (args_tuple_getitem _ _)))
 show wpAny _ _ (Builtin.Tuple.tupleItemsOf (.ref t)>>=_) _ _ s;refine aa (tupleItemsOf_ c ?_);refine aa (wpAny_typeOf g ?_);rw[if_pos (by decide)];refine aa (Yx hs j i ?_);have e:¬((((bS aC.size 0 lo:Nat):Int)==0 && (1:Int)==1 && (bS aC.size aC.size b-bS aC.size 0 lo)==aC.size)=true):=by intro q;rw[cp,cp]at q;have o:((bS aC.size 0 lo:Nat):Int)=0:=eq_of_beq q.1.1;have n:bS aC.size aC.size b-bS aC.size 0 lo=aC.size:=eq_of_beq q.2;exact k ⟨by omega,by omega⟩
 show wpAny _ _ (if(((bS aC.size 0 lo:Nat):Int)==0 && (1:Int)==1 && (bS aC.size aC.size b-bS aC.size 0 lo)==aC.size)=true then _ else _) _ _ s;rw[if_neg e,JE];first|exact aa (m:=Builtin.Tuple.tupleExact _) (df (ae ⟨_,J,ae h⟩) a)|exact aa (m:=Builtin.Tuple.tupleExact _) (df (aa (ae (ae ⟨_,J,ae h⟩))) a)|exact aa (aa (m:=Builtin.Tuple.tupleExact _) (df (ae (ae ⟨_,J,ae h⟩)) a))|exact aa (aa (m:=Builtin.Tuple.tupleExact _) (df (ae ⟨_,J,ae h⟩) a))
end
end HT
namespace L2
open PySem PySem.Spec PyProof.Rows
variable{A:Around}{X:Cx}{e:Expr}{H:Hp}{i:Int}{pins:List (Addr×Obj)}{es:List Expr}{ns:List Int}{xs ys:List V}{its dO us:List Value}{j t':Nat}{aE:Pos}{s:Shared}{σ:St}{x:V}{u v:Value}{E:Value->Shared->Prop}
abbrev TO:=St->Hp->(Option Int->Hp->Prop)->Prop
def PO(X:Cx)(e:Option Expr)(t:TO):Prop:=
 ∀ (pins:List (Addr×Obj)) (s:Shared) (σ:St) (H:Hp) (Q:Option Int->Hp->Prop),Inv X pins σ H s->t σ H Q->
   wpAny (model X.prog X.w) X.A (evalPart e X.env) (λu s'=>∃o H',Inv X pins σ H' s'/\IsPart u o/\Q o H') X.xe s
def Iz:TO:=λ_ H Q=>Q none H
inductive gU(Q:Option Int->Hp->Prop)(x:V)(H1:Hp):Prop|mk:∀i,x=.int i->Q (some i) H1->gU Q x H1
def Fb(t:TE):TO:=λσ H Q=>t σ H λx H1=>gU Q x H1
theorem Mh:∀{a:List Value},yu (ns.map V.int) a->IntsAre a ns:=by induction ns with|nil=>intro a r;rw[List.map_nil]at r;cases r;exact .nil| cons n ns d=>intro a r;rw[c8]at r;cases r with| cons c b=>obtain⟨t,e⟩:=c;subst e;exact .cons n t (d b)
section
variable{te:TE}{lo hi:Option Expr}{tl th:TO}{p2:Pos}
theorem xn:PO X none Iz:=by intro a s b H Q I h;rw[evalPart_none];exact ae ⟨none,H,I,.none,h⟩
theorem y1(h:PE X e te):PO X (some e) (Fb te):=by intro a s b H Q I f;rw[evalPart_some];refine aF (h a s b H _ I f) λu k ⟨x,j,g,c,d⟩=>?_;obtain⟨i,rfl,q⟩:=d;obtain⟨t,rfl⟩:=c;exact⟨some i,j,g,.int i t,q⟩
inductive rL(X:Cx)(pins:List (Addr×Obj))(s:Shared)(σ:St)(v:Value)(sl:Addr)(Q:VK):Prop|mk:∀T id,typeLookup (.type T) "__getitem__"=pure (some (.builtin id))->s.TypeIs v T->wpAny (model X.prog X.w) X.A (getItem v (.ref sl)) (EP X pins σ Q) X.xe s->rL X pins s σ v sl Q
def pZ(X:Cx)(r:V->Option Int->Option Int->Hp->VK->Prop):Prop:=
 ∀ (pins:List (Addr×Obj)) (s:Shared) (σ:St) (H:Hp) (x:V) (v vl vu:Value) (lo hi:Option Int) (sl:Addr) (Q:VK),Inv X pins σ H s->yq x v->s.heap.IsSliceOf sl vl vu .none->IsPart vl lo->IsPart vu hi->r x lo hi H Q->
   rL X pins s σ v sl Q
def N3(r:V->Option Int->Option Int->Hp->VK->Prop)(Z:TE)(F U:TO):TE:=λσ H Q=>Z σ H λx H1=>F σ H1 λl H2=>U σ H2 λu H3=>r x l u H3 Q
theorem yx{r:V->Option Int->Option Int->Hp->VK->Prop}(A:pZ X r)(he:PE X e te)(B:PO X lo tl)(y:PO X hi th):PE X (.Subscript e (.Slice lo hi none p2) aE) (N3 r te tl th):=by intro a s c H Q I h;refine Subscript_ (aF (he a s c H _ I h) λv k ⟨x,L,G,m,p⟩=>?_);refine wpAny_Slice (aF (B a k c L _ G p) λg j ⟨l,K,F,w,o⟩=>aF (y a j c K _ F o) λf d ⟨u,i,E,t,n⟩=>?_);rw[evalPart_none];refine ae ?_;have D:Inv X a c i {d with heap:=d.heap.push {cls:=.type "slice",data:=.fields #[g,f,.none]}}:=E.kept λb M q=>be _ q;obtain⟨T,id,hT,z,C⟩:=A a {d with heap:=d.heap.push {cls:=.type "slice",data:=.fields #[g,f,.none]}} c i x v g f l u d.heap.objs.size Q D m (Heap.IsSliceOf.new ..) w t n;exact tail_any z hT C (by rfl)
noncomputable def Kl(xs:List V)(lo F:Option Int):List V:=(xs.drop (HT.bS xs.length 0 lo)).take (HT.bS xs.length xs.length F-HT.bS xs.length 0 lo)
theorem Ke(xs:O V)(lo a:Option Int):(Kl xs lo a).length<=xs.length:=by unfold Kl;rw[bu,List.length_drop];omega
inductive rn(K:W.Frag)(x:V)(lo hi:Option Int)(H:Hp)(Q:VK):Prop|mk:∀a xs,x=.ref a->aG K H a xs->¬(HT.bS xs.length 0 lo=0/\HT.bS xs.length xs.length hi=xs.length)->(∀p,H p=none->Q (.ref p) (upd H p (.tup (Kl xs lo hi))))->rn K x lo hi H Q
theorem sS:pZ X (rn X.K):=by
 intro f s o H x v t p lo i u Q I j n l k h;obtain⟨a,c,rfl,hx,y,q⟩:=h;cases j;obtain⟨e,r,g,m⟩:=I.tuple hx;have d:e.toArray.size=c.length:=by rw[cx];exact r.length.symm
 refine⟨"tuple",_,PyProof.Rows.slot_tuple_getitem.lookup,g.typeIs,?_⟩;refine HT.fW g n l k (by simp_all) ?_ (by omega);rw[d];refine⟨.ref s.heap.objs.size,_,I.laid (λb w q=>be _ q) (aj _) ?_,J,q _ (I.hok.fresh (aj _))⟩;exact⟨cr (Ke c lo i) m,_,(r.drop (HT.bS c.length 0 lo)).take (HT.bS c.length c.length i-HT.bS c.length 0 lo),IsTup.new _ _,gx.push⟩
inductive l8(K:W.Frag)(x y:V)(H:Hp)(Q:VK):Prop|mk:∀a b xs ys,x=.ref a->y=.ref b->aG K H a xs->aG K H b ys->xs≠[]->xs.length+ys.length<=sizeLine->(ys=[]->Q (.ref a) H)->(ys≠[]->∀p,H p=none->Q (.ref p) (upd H p (.tup (xs++ys))))->l8 K x y H Q
theorem yu.nil_iff(r:yu xs us):us=[]↔xs=[]:=by cases r with|nil=>simp|cons _ _=>simp
theorem AT:bZ X (binaryOp .Add) (l8 X.K):=by intro e s r H x y v u Q I i g h;obtain⟨a,b,A,t,rfl,rfl,p,o,hx,C,k,j⟩:=h;cases i;cases g;obtain⟨n,d,m,_⟩:=I.tuple p;obtain⟨f,c,l,_⟩:=I.tuple o;refine HT.tM m l (λz=>hx (d.nil_iff.mp z)) (λz=>⟨.ref a,H,I,J,k (c.nil_iff.mp z)⟩) (λz=>?_) (by rw[<-d.length,<-c.length];omega);refine⟨.ref s.heap.objs.size,_,I.laid (λb B q=>be _ q) (aj _) ?_,J,j (λw=>z (c.nil_iff.mpr w)) _ (I.hok.fresh (aj _))⟩;exact⟨by simp_all,_,d.append c,IsTup.new _ _,gx.push⟩
end
noncomputable def jA(n:Nat)(i:Int):Option Nat:=if 0<=i then(if i<n then some i.toNat else none)else if -(n:Int)<=i then some (i+n).toNat else none
noncomputable def gw{F:Type}(xs:List F)(i:Int):Option F:=(jA xs.length i).bind λj=>xs[j]?
theorem Bd{n:Nat}(h:jA n i=some j):seqIndex? i n=some j/\j<n/\ -(n:Int)<=i/\i<n:=by
 unfold jA at h;by_cases b:0<=i;rw[if_pos b]at h;by_cases a:i<n;rw[if_pos a]at h;have e:=Option.some.inj h;exact⟨by rw[seqIndex_of b a,e],by omega,by omega,a⟩
 simp_all
 rw[if_neg b]at h;by_cases a: -n<=i;rw[if_pos a]at h;have e:=Option.some.inj h;exact⟨by rw[seqIndex_neg (by omega) a,e],by omega,a,by omega⟩
 simp_all
theorem AA{a:Type}{xs:List a}{v:a}(h:gw xs i=some v):∃j,seqIndex? i xs.length=some j/\xs[j]?=some v/\j<xs.length/\ -(xs.length:Int)<=i/\i<xs.length:=by
 unfold gw at h;cases e:jA xs.length i with|none=>simp_all| some j=>
   rw[e]at h;obtain⟨f,d,c,b⟩:=Bd e
   simp_all
theorem wx{a:Type}{xs:O a}{v:a}(h:xs[j]?=some v):gw xs (j:Int)=some v:=by
 have b:=(ci.mp h).1;have e:jA xs.length j=some j:=by
  unfold jA
  simp_all
 unfold gw;simp_all
def Ay(b:Expr):Prop:=∀o i,subscripted b false o i=operate [o,i] (getItem o i)
def qA(X:Cx)(r:R2):Prop:=
 ∀ (aQ F:Expr) (pins:List (Addr×Obj)) (s:Shared) (σ:St) (H:Hp) (x y:V) (v u:Value) (Q:VK),Inv X pins σ H s->yq x v->yq y u->r x y H Q->
   subscripted F false v u=operate [v,u] (getItem v u)->wpAny (model X.prog X.w) X.A (subscriptTail aQ F v u) (EP X pins σ Q) X.xe s
def tU(X:Cx)(id:String)(r:V->List V->Hp->VK->Prop):Prop:=
 ∀ (pins:List (Addr×Obj)) (s:Shared) (σ:St) (H:Hp) (x:V) (xs:List V) (v:Value) (us:List Value) (Q:VK),Inv X pins σ H s->yq x v->yu xs us->r x xs H Q->
   wpAny (model X.prog X.w) X.A (call (.builtin id) (v::us)) (EP X pins σ Q) X.xe s
section
variable{a b:Expr}{ta tb:TE}
theorem zp{r:R2}(i:qA X r)(k:PE X a ta)(j:PE X b tb)(hs:Ay b:=by exact λ_ _=>rfl):PE X (.Subscript a b aE) (sZ r ta tb):=by intro c s d H Q I h;exact Subscript_ (ub k j I h λv u e x y m l g f q=>i a b c e d m x y v u Q l g f q (hs _ _))
inductive rB(K:W.Frag)(x y:V)(H:Hp)(Q:VK):Prop|mk:∀p xs i v,x=.ref p->y=.int i->aM K H p xs->gw xs i=some v->Q v H->rB K x y H Q
inductive dW(K:W.Frag)(x y:V)(H:Hp)(Q:VK):Prop|mk:∀p xs i v,x=.ref p->y=.int i->aG K H p xs->gw xs i=some v->Q v H->dW K x y H Q
theorem qg:qA X (rB X.K):=by
 intro R c a s m H x y v u Q I o n h g;obtain⟨p,G,i,z,rfl,rfl,A,C,q⟩:=h;cases o;obtain⟨t,rfl⟩:=n;obtain⟨f,r,e,K⟩:=I.list A;obtain⟨j,k,F,N,E,D⟩:=AA C;obtain⟨w,P,d⟩:=r.get F;have M:=r.length;have L:=Vs;have b:EP X a m Q w s:=⟨z,H,I,d,q⟩
 by_cases l:0<=i;have B:i.toNat=j:=by
  rw[seqIndex_of l D]at k
  simp_all
 exact item_listR e.isList l (by omega) (by simp_all) b g;have B:(i+f.toArray.size).toNat=j:=by
  rw[seqIndex_neg (by omega) E]at k
  simp_all
 exact subscriptTail_builtinR e.isList.typeIs slot_list_getitem.lookup
  (wpAny_getItem_list_neg e.isList (by omega) (by simp_all) (by omega) (by simp_all) ⟨J,b⟩) g
theorem zx:qA X (dW X.K):=by
 intro N b a s f H x y v u Q I k g h m;obtain⟨p,C,i,z,rfl,rfl,n,A,q⟩:=h;cases k;obtain⟨t,rfl⟩:=g;obtain⟨l,r,e,D⟩:=I.tuple n;obtain⟨j,L,B,K,G,F⟩:=AA A;obtain⟨w,M,c⟩:=r.get B;have o:=r.length;have E:=Vs;have d:EP X a f Q w s:=⟨z,H,I,c,q⟩
 exact subscriptTail_builtinR e.typeIs slot_tuple_getitem.lookup
  (getItem_tuple e (by omega) (by omega) (by rw[cx,<-o];omega) (by simp_all) ⟨J,d⟩) m
theorem MK(a:O I)(n j:Nat)(u:I):Obj.mapSeq (·.setIfInBounds j u) {cls:=.type "list",data:=.seq a.toArray n}={cls:=.type "list",data:=.seq (a.set j u).toArray n}:=by simp[Obj.mapSeq]
theorem Inv.lst{a:O (Y×Obj)}{b:St}{H:Hp}{s:Shared}{p:Y}{xs:O V}(I:Inv X a b H s)(h:H p=some (.lst xs)):∃(its:O Value)(n:Nat),yu xs its/\s.heap.get? p=some {cls:=.type "list",data:=.seq its.toArray n}/\xs.length<=sizeLine:=by
 obtain⟨z,its,n,r,e⟩:=I.hok p _ h
 simp_all
theorem Inv.lstUpd{p:Y}{n a:Nat}{f:Obj->Obj}(I:Inv X pins σ H s)(h:H p=some (.lst xs))(d:s.heap.get? p=some {cls:=.type "list",data:=.seq its.toArray n}) (c:f {cls:=.type "list",data:=.seq its.toArray n}={cls:=.type "list",data:=.seq dO.toArray a}) (r:yu ys dO) (hz:ys.length<=sizeLine) (t:Nat):
  Inv X pins σ (upd H p (.lst ys)) {s with heap:=s.heap.update p f,toks:=t}:=by
 have e:(s.heap.update p f).get? p=some {cls:=.type "list",data:=.seq dO.toArray a}:=by rw[Heap.get?_update_self f d (by rw[c]<;>rfl),c]
 refine I.write (by rw[h];trivial) (.inl J) (λb u g q=>(Heap.get?_update_other _ _ (au g)).trans q) ⟨_,e⟩ ?_;exact⟨hz,dO,a,r,e⟩
inductive lS(o i v:V)(H:Hp)(Q:Hp->Prop):Prop|mk:∀p xs k j,o=.ref p->i=.int k->H p=some (.lst xs)->jA xs.length k=some j->Q (upd H p (.lst (xs.set j v)))->lS o i v H Q
theorem Yy:ua X lS:=by
 intro c s z H o i v B C u Q I l m g h;obtain⟨p,A,k,j,rfl,rfl,d,w,q⟩:=h;cases l;obtain⟨t,rfl⟩:=m;obtain⟨a,n,r,b,D⟩:=I.lst d;obtain⟨e,G,y,x⟩:=Bd w;have F:=r.length;have E:=Vs;have K:=
  I.lstUpd d b (MK a n j u) (r.set g j) (by simp_all) s.toks
 by_cases f:0<=k;have hk:k.toNat=j:=by
  rw[seqIndex_of f x]at e
  simp_all
 exact W.ki_setAt b f (by omega) (by simp_all) (by grind);have hk:(k+a.toArray.size).toNat=j:=by
  rw[seqIndex_neg (by omega) y]at e
  simp_all
 exact W.ki_setBack b (by omega) (by simp_all) (by omega) (by grind)
theorem NC(lo a:Option Int)(n:Nat):(sliceBounds lo a none n).1=((HT.bS n 0 lo:Nat):Int)/\(sliceBounds lo a none n).2.1=((HT.bS n n a:Nat):Int)/\(sliceBounds lo a none n).2.2=1:=by
 refine⟨?_,?_,J⟩;cases lo with|none=>rfl| some i=>
   simp only[sliceBounds,HT.bS,Option.getD_none,show(1)>0 by decide,if_true]
   grind
 cases a with|none=>rfl| some i=>
   simp only[sliceBounds,HT.bS,Option.getD_none,show(1)>0 by decide,if_true]
   grind
theorem NR(a:O I)(lo b:Option Int):slicePick a.toArray lo b none=((a.drop (HT.bS a.length 0 lo)).take (HT.bS a.length a.length b-HT.bS a.length 0 lo)).toArray:=by obtain⟨e,d,c⟩:=NC lo b a.toArray.size;unfold slicePick;rw[e,d,c];simp only[sliceRange_one,pick_run,cx]<;>rfl
inductive rp(K:W.Frag)(x:V)(lo hi:Option Int)(H:Hp)(Q:VK):Prop|mk:∀a xs,x=.ref a->aM K H a xs->(∀p,H p=none->Q (.ref p) (upd H p (.lst (Kl xs lo hi))))->rp K x lo hi H Q
theorem HW:pZ X (rp X.K):=by intro e s o H x v t p lo g u Q I i n k j h;obtain⟨a,c,rfl,hx,q⟩:=h;cases i;obtain⟨l,r,f,m⟩:=I.list hx;have d:=r.length;refine⟨"list",_,slot_list_getitem.lookup,f.isList.typeIs,?_⟩;refine wpAny_getItem_list_slice f.isList n k j .none (by simp) ?_ (by simp_all);rw[NR,<-d];refine⟨.ref s.heap.objs.size,_,I.laid (λb w q=>be _ q) (aj _) ?_,J,q _ (I.hok.fresh (aj _))⟩;exact⟨cr (Ke c lo g) m,_,0,(r.drop (HT.bS c.length 0 lo)).take (HT.bS c.length c.length g-HT.bS c.length 0 lo),bx _ J⟩
noncomputable def Qs:V->Bool|.non=>true|.bl _=>true|.int _=>true|.str _=>true|_=>false
noncomputable def mh:V->V->Bool|.non,.non=>true|.bl a,.bl b=>a==b|.bl a,.int b=>(if a then 1 else 0)==b|.int a,.bl b=>a==(if b then 1 else 0)|.int a,.int b=>a==b|.str a,.str b=>a==b|_,_=>false
theorem FS{y:V}(e:yq y u)(c:yq x v)(g:Qs y=true)(f:Qs x=true):SeqAt.EqAt A s u v (mh y x):=by
 cases y with
 | non=>
   cases e;cases x with
   |non=>cases c;exact SeqAt.EqAt.same _
   |bl b=>cases c;exact SeqAt.EqAt.none_bool b
   |int b=>obtain⟨t,rfl⟩:=c;exact SeqAt.EqAt.none_int b t
   |str b=>obtain⟨t,rfl⟩:=c;exact SeqAt.EqAt.none_str b t
   |_=>exact absurd (f) c7
 | bl a=>
   cases e;cases x with
   |non=>cases c;exact SeqAt.EqAt.bool_none a
   |bl b=>cases c;exact SeqAt.EqAt.bool_bool a b
   |int b=>obtain⟨t,rfl⟩:=c;exact SeqAt.EqAt.bool_int a b t
   |str b=>obtain⟨t,rfl⟩:=c;exact SeqAt.EqAt.bool_str a b t
   |_=>exact absurd (f) c7
 | int a=>
   obtain⟨d,rfl⟩:=e;cases x with
   |non=>cases c;exact SeqAt.EqAt.int_none a d
   |bl b=>cases c;exact SeqAt.EqAt.int_bool a d b
   |int b=>obtain⟨t,rfl⟩:=c;exact SeqAt.EqAt.int_int a d b t
   |str b=>obtain⟨t,rfl⟩:=c;exact SeqAt.EqAt.int_str a d b t
   |_=>exact absurd (f) c7
 | str a=>
   obtain⟨d,rfl⟩:=e;cases x with
   |non=>cases c;exact SeqAt.EqAt.str_none a d
   |bl b=>cases c;exact SeqAt.EqAt.str_bool a d b
   |int b=>obtain⟨t,rfl⟩:=c;exact SeqAt.EqAt.str_int a d b t
   |str b=>obtain⟨t,rfl⟩:=c;exact SeqAt.EqAt.str_str a d b t
   |_=>exact absurd (f) c7
 |_=>exact absurd (g) c7
noncomputable def fF(x:V)(u:Value):Bool:=match u with|.none=>mh .non x|.bool b=>mh (.bl b) x|.int i _=>mh (.int i) x|.str z _=>mh (.str z) x|_=>false
theorem uD{y:V}(r:yq y u)(f:Qs y=true):fF x u=mh y x:=by cases y with|non=>cases r;rfl|bl b=>cases r;rfl|int i=>obtain⟨t,rfl⟩:=r;rfl|str z=>obtain⟨t,rfl⟩:=r;rfl|_=>exact absurd (f) c7
theorem wB{x:V}:∀{xs:List V}{a:List Value},yu xs a->xs.all Qs=true->a.any (fF x)=xs.any λy=>mh y x|_,_,.nil,_=>rfl| y::xs,u::a,.cons r t,f=>by rw[List.all_cons,cp]at f;rw[List.any_cons,List.any_cons,uD r f.1,wB t f.2]
theorem We{A:Around}{s:Shared}{x:V}{v:Value}(c:yq x v)(d:Qs x=true):∀{xs:List V}{b:List Value},yu xs b->xs.all Qs=true->∀u∈b,SeqAt.EqAt A s u v (fF x u)|_,_,.nil,_=>λu a=>by grind| y::xs,u::b,.cons r t,f=>λe a=>by rw[List.all_cons,cp]at f;rcases ak.mp a with rfl|a;rw[uD r f.1];exact FS r c f.1 d;exact We c d t f.2 e a
noncomputable def md(x:V)(xs:List V):Bool:=xs.any λy=>mh y x
inductive Dh(K:W.Frag)(neg:Bool)(x y:V)(H:Hp)(Q:VK):Prop|mk:∀p xs,y=.ref p->(aM K H p xs\/aG K H p xs)->Qs x=true->xs.all Qs=true->Q (.bl (if neg then !md x xs else md x xs)) H->Dh K neg x y H Q
theorem Y1:bZ X (compareOp .In) (Dh X.K false):=by intro f s l H x y v u Q I e i h;obtain⟨p,m,rfl,b,g,c,q⟩:=h;cases i;rcases b with b|b;obtain⟨a,r,d,j⟩:=I.list b;refine SeqAt.in_listAt (fF x) d.isList (λw k=>We e g r c w (by simp_all)) ⟨.bl _,H,I,J,?_⟩;rw[show a.toArray.any (fF x)=a.any (fF x) by simp,wB r c];exact q;obtain⟨a,r,d,j⟩:=I.tuple b;refine SeqAt.in_tupleAt (fF x) d (λw k=>We e g r c w (by simp_all)) ⟨.bl _,H,I,J,?_⟩;rw[show a.toArray.any (fF x)=a.any (fF x) by simp,wB r c];exact q
theorem ym:Zg X (.builtin "len") (λxs H Q=>∃p ys,xs=[.ref p]/\(aM X.K H p ys\/aG X.K H p ys)/\Q (.int ys.length) H):=by intro f s j H xs k Q I r h;obtain⟨p,ys,rfl,b,q⟩:=h;obtain⟨u,rfl,g⟩:=Z7 r;cases g;have l:=Vs;rcases b with b|b;obtain⟨e,c,d,i⟩:=I.list b;have a:=c.length;exact Calls.call_len_list d.isList (by grind) ⟨.int ys.length,H,I.tok _,⟨s.toks+1,by rw[cx,a]⟩,q⟩;obtain⟨e,c,d,i⟩:=I.tuple b;have a:=c.length;exact len_tuple d (by grind) ⟨.int ys.length,H,I.tok _,⟨s.toks+1,by rw[cx,a]⟩,q⟩
theorem Qx:Zg X (.builtin "len") (λxs H Q=>∃z,xs=[.str z]/\z.length<=sizeLine/\Q (.int z.length) H):=by intro a s b H xs c Q I r h;obtain⟨z,rfl,d,q⟩:=h;obtain⟨u,rfl,t,rfl⟩:=Z7 r;have e:=Vs;exact len_str (by omega) ⟨.int z.length,H,I.tok _,⟨_,J⟩,q⟩
theorem Qw:Zg X (.type "list") (λxs H Q=>∃p ys,xs=[.ref p]/\(aM X.K H p ys\/aG X.K H p ys)/\∀l,H l=none->Q (.ref l) (upd H l (.lst ys))):=by
 intro g s A H xs C Q I r h;obtain⟨p,ys,rfl,k,q⟩:=h;obtain⟨u,rfl,B⟩:=Z7 r;cases B;have t:∀(a:O Value),yu ys a->ys.length<=sizeLine->∀(c:Heap)(f:Nat),(∀b z,s.heap.get? b=some z->c.get? b=some z)->
   c.get? s.heap.objs.size=some {cls:=.type "list",dict:=none,data:=.seq a.toArray f,slots:=#[]}->EP X g A Q (.ref s.heap.objs.size) {s with heap:=c}:=λa d j c f i e=>⟨.ref s.heap.objs.size,_,I.laid i (aj _) (show qy X.prog X.w _ c _ (.lst ys)from⟨j,a,f,d,e⟩),J,q _ (I.hok.fresh (aj _))⟩
 rcases k with k|k;obtain⟨a,d,v,j⟩:=I.list k;have m:=d.length;obtain⟨o,w,y,n,x⟩:=v.isList;exact call_list_seq p (.inl J) w y x (λc f i e=>t a d j c f i e) (by simp_all);obtain⟨a,d,v,j⟩:=I.tuple k;have m:=d.length;obtain⟨o,w,y,n,x⟩:=v;exact call_list_seq p (.inr J) w y x (λc f i e=>t a d j c f i e) (by simp_all)
theorem Zu:Zg X (.type "tuple") (λxs H Q=>∃p ys,xs=[.ref p]/\((aM X.K H p ys/\∀l,H l=none->Q (.ref l) (upd H l (.tup ys)))\/(aG X.K H p ys/\Q (.ref p) H))):=by
 intro g s w H xs x Q I r h;obtain⟨p,ys,rfl,h⟩:=h;obtain⟨u,rfl,m⟩:=Z7 r;cases m;rcases h with⟨f,q⟩|⟨f,q⟩;obtain⟨a,c,d,i⟩:=I.list f;have j:=c.length;refine call_tuple_list d.isList (λt n=>?_) (by simp_all);have k:=I.kept (t':=s.toks) n;have v:=
  k.laid (t':=s.toks) (λb o e=>be _ e) (aj _) (show qy X.prog X.w _ _ _ (.tup ys)from⟨i,a,c,IsTup.new _ _,gx.push⟩)
 exact⟨.ref t.objs.size,_,v,J,q _ (k.hok.fresh (aj _))⟩;obtain⟨a,c,d,i⟩:=I.tuple f;exact call_tuple_same d ⟨.ref p,H,I,J,q⟩
def xV(K:W.Frag)(T:String)(x:V)(H:Hp):Prop:=match x with|.str _=>T="str"|.int _=>T="int"|.ref p=>(T="list"/\∃xs,aM K H p xs)\/(T="tuple"/\∃o,K.lookup p=some o/\o.cls=.type "tuple"/\o.dict=none)\/
  (T="dict"/\((∃kvs,H p=some (.dK kvs))\/∃kvs,H p=some (.dT kvs)))\/(T="set"/\∃S n,H p=some (.set S n))|_=>False
theorem As{T:String}(I:Inv X pins σ H s)(r:yq x v)(d:xV X.K T x H):s.TypeIs v T/\∀a,v=.ref a->∃j,s.heap.get? a=some j/\j.dict=none:=by
 cases x with| str z=>
   obtain⟨t,rfl⟩:=r;cases(d);exact⟨typeIs_str s z t,λ_ e=>nomatch e⟩| int i=>
   obtain⟨t,rfl⟩:=r;cases(d);exact⟨typeIs_int s i t,λ_ e=>nomatch e⟩| ref p=>
   cases r;rcases d with⟨rfl,u,m⟩|⟨rfl,o,hk,q,k⟩|⟨rfl,hk⟩|⟨rfl,S,n,hk⟩;obtain⟨l,_,h,_⟩:=I.list m;refine⟨h.isList.typeIs,λa e=>?_⟩;cases e;obtain⟨o,n,e,c,k,_⟩:=h
   simp_all
   refine⟨⟨o,I.kIn p o hk,q⟩,λa e=>?_⟩;cases e;exact⟨o,I.kIn _ o hk,k⟩;have z:∃o,s.heap.get? p=some o/\o.ExactDict:=by
    rcases hk with⟨f,hk⟩|⟨f,hk⟩;obtain⟨_,_,_,_,o,_,_,e,b,_⟩:=I.hok p _ hk
    simp_all
    obtain⟨_,_,_,_,o,_,_,e,b,_⟩:=I.hok p _ hk
    simp_all
   obtain⟨o,e,b⟩:=z;refine⟨⟨o,e,b.1⟩,λa g=>?_⟩;cases g;exact⟨o,e,b.2.1⟩;obtain⟨o,_,_,_,e,b,_⟩:=I.hok p _ hk;refine⟨⟨o,e,b.1⟩,λa g=>?_⟩;cases g;exact⟨o,e,b.2.1⟩|_=>exact False.elim d
def DS(K:W.Frag)(T:String)(r:V->List V->Hp->VK->Prop)(to:TE):TE:=λσ H Q=>to σ H λx H1=>xV K T x H1/\r x [] H1 Q
def N6(K:W.Frag)(T:String)(r:V->List V->Hp->VK->Prop)(to:TE)(t:TA):TE:=λσ H Q=>to σ H λx H1=>xV K T x H1/\t σ H1 λxs H2=>r x xs H2 Q
variable{o:Expr}{to:TE}{t:TA}{name:Str}{apos cpos:Pos}{T id:String}{r:V->List V->Hp->VK->Prop}
theorem FG(m:PlainAttrs T)(d:Slot T name id)(e:typeOf (.builtin id)=pure (.type "method_descriptor"))(p:tU X id r)(n:PE X o to)(c:attributeBase o name X.env (eval o X.env)=eval o X.env:=by rfl) (b:(apos.endLine==cpos.line)=true:=by rfl):PE X (.Call (.Attribute o name apos) [] [] cpos) (DS X.K T r to):=by intro a s f H Q I h;refine wpAny_Call_method0_late c b (aF (n a s f H _ I h) λv k ⟨x,u,i,g,j,l⟩=>?_);obtain⟨t,q⟩:=As i g j;exact⟨T,id,m,d,e,t,q,Calls.callWith_builtin J (PySem.evalArgs_none (p a k f u x [] v [] Q i g .nil l))⟩
theorem Zi(B:PlainAttrs T)(d:Slot T name id)(j:typeOf (.builtin id)=pure (.type "method_descriptor"))(D:tU X id r)(C:PE X o to)(E:PA X (e::es) t)(c:attributeBase o name X.env (eval o X.env)=eval o X.env:=by rfl)
  (f:((backTo cpos (starEach (e::es) X.env)).all (λx=> !x.1) && (backToKw cpos (keywordEach [] X.env)).all (λx=>x.1.isSome) && decide ((e::es).length+([]:O Keyword).length+(if([]:O Keyword).isEmpty then 0 else 1)<30))=true:=by rfl)
  (b:(apos.endLine==cpos.line)=true:=by rfl) (hs:starEach (e::es) X.env=(false,eval e X.env)::starEach es X.env:=by rfl) (g:(backTo cpos (starEach es X.env)).any (·.1)=false:=by rfl):
  PE X (.Call (.Attribute o name apos) (e::es) [] cpos) (N6 X.K T r to t):=by intro a s i H Q I h;refine wpAny_Call_method_late c f b J (aF (C a s i H _ I h) λv w ⟨x,M,m,k,q,A⟩=>?_);obtain⟨G,F⟩:=As m k q;refine⟨T,id,B,d,j,G,F,?_⟩;have l:=E cpos a w i M _ m A;rw[hs]at l⊢;refine Calls.callWith_builtin (by simp_all) (Calls.evalArgs_plain ?_);exact aF l λp u ⟨n,L,K,y,z⟩=>D a u i L x n v p Q K k y z
/-xs.append(e),list.index on a module's tuple .. are MtR facts of 06m -/
end
def yF(X:Cx)(id:String)(r:V->List V->Hp->VK->Prop):Prop:=
 ∀ (pins:List (Addr×Obj)) (s:Shared) (σ:St) (H:Hp) (x:V) (xs:List V) (v:Value) (us:List Value) (Q:VK),Inv X pins σ H s->yq x v->yu xs us->r x xs H Q->
   wpAny (model X.prog X.w) X.A (call (.builtin id) (v::us)) (EP X pins σ Q) X.xe s
theorem yu.one:∀{x:V}{a:List Value},yu [x] a->∃u,a=[u]/\yq x u|_,_,.cons r .nil=>⟨_,J,r⟩
theorem yu.zero:∀{a:List Value},yu [] a->a=[]|_,.nil=>rfl
theorem yu.dropLast{xs:List V}{a:List Value}(h:yu xs a):yu xs.dropLast a.dropLast:=by induction h with|nil=>exact .nil| cons r t b=>cases t with|nil=>grind|cons q c=>exact .cons r b
theorem yu.rep{xs:List V}{a:List Value}(h:yu xs a):∀k:Nat,yu (List.replicate k xs).flatten (List.replicate k a).flatten|0=>.nil| k+1=>by rw[List.replicate_succ,List.replicate_succ,List.flatten_cons,List.flatten_cons];exact yu.append h (yu.rep h k)
theorem Mf{a:Type}(l:O a):l.eraseIdx (l.length-1)=l.dropLast:=by simp
theorem Jr(a:List Value):∀(k:Nat)(b:List Value),List.foldl (λd c=>d++c) b.toArray (List.replicate k a.toArray)=(b++(List.replicate k a).flatten).toArray
 |0,b=>by simp
 | k+1,b=>by
   have e:b.toArray++a.toArray=(b++a).toArray:=by simp
   have f:(b++a)++(List.replicate k a).flatten=b++(List.replicate (k+1) a).flatten:=by rw[List.replicate_succ,List.flatten_cons,List.append_assoc]
   rw[<-f,<-Jr a k (b++a),<-e,List.replicate_succ,List.foldl_cons]
section
variable{l b:Addr}{zs:List V}
theorem Inv.lset{n:Nat}{f:Array Value->Array Value}(I:Inv X pins σ H s)(g:H l=some (.lst xs))(e:s.heap.get? l=some {cls:=.type "list",data:=.seq its.toArray n}) (c:f its.toArray=dO.toArray) (a:yu ys dO) (hz:ys.length<=sizeLine):
  Inv X pins σ (upd H l (.lst ys)) {s with heap:=s.heap.update l (Obj.mapSeq f),toks:=t'}:=by have q:=PySem.IsL.update e f;rw[c]at q;refine I.write (by rw[g];exact trivial) (.inl J) (λh u d b=>(Heap.get?_update_other s.heap (Obj.mapSeq f) (au d)).trans b) ⟨_,q⟩ ?_;exact⟨hz,dO,_,a,q⟩
theorem Inv.lnew(I:Inv X pins σ H s)(a:yu ys its)(hz:ys.length<=sizeLine):Inv X pins σ (upd H s.heap.objs.size (.lst ys)) {s with heap:=s.heap.push {cls:=.type "list",data:=.seq its.toArray},toks:=t'}:=
 I.laid (λ_ _ q=>be _ q) (aj _) ⟨hz,its,0,a,bx _ J⟩
theorem Inv.fresh(I:Inv X pins σ H s):H s.heap.objs.size=none:=I.hok.fresh (aj _)
theorem Inv.lstM(I:Inv X pins σ H s)(a:H l=some (.lst xs)):xs.length<=sizeLine/\∃(its:O Value)(n:Nat),yu xs its/\xs.length=its.length/\s.heap.get? l=some {cls:=.type "list",data:=.seq its.toArray n}:=by obtain⟨z,its,n,r,e⟩:=I.hok l _ a;exact⟨z,its,n,r,r.length,e⟩
theorem BA{n:Nat}(h:n<=sizeLine):Builtin.List.listTooLong n=false:=by
 unfold Builtin.List.listTooLong
 simp_all
end
section
inductive fS(x:V)(vs:List V)(H:Hp)(Q:VK):Prop|mk:∀l xs y,x=.ref l->vs=[y]->H l=some (.lst xs)->xs.length<sizeLine->Q .non (upd H l (.lst (xs++[y])))->fS x vs H Q
theorem vi:yF X "list.append" fS:=by
 intro b s i H x k v m Q I d f h;obtain⟨l,j,y,rfl,rfl,c,o,q⟩:=h;cases d;obtain⟨u,rfl,g⟩:=f.one;obtain⟨z,a,n,r,p,e⟩:=I.lstM c;refine call_meets F.slot_list_append ⟨_,e,J⟩ F.entry_list_append (F.args_list_append_2 _ _) (list_append l a.toArray n u (by simp_all)) ⟨e,?_⟩;refine⟨.non,_,I.lset c e (by simp) (r.append (.cons g .nil)) ?_,J,q⟩
 grind
inductive fR(x:V)(vs:List V)(H:Hp)(Q:VK):Prop|mk:∀l b xs zs,x=.ref l->vs=[.ref b]->H l=some (.lst xs)->H b=some (.lst zs)->xs.length+zs.length<=sizeLine->Q .non (upd H l (.lst (xs++zs)))->fR x vs H Q
theorem Cs:yF X "list.extend" fR:=by
 intro g s A H x E v G Q I j k h;obtain⟨l,b,D,B,rfl,rfl,i,w,K,q⟩:=h;cases j;obtain⟨u,rfl,m⟩:=k.one;cases m;obtain⟨z,c,n,r,L,e⟩:=I.lstM i;obtain⟨C,a,p,o,t,y⟩:=I.lstM w;have f:c.toArray.size+a.toArray.size<=sizeLine:=by simp_all
 have d:¬(!c.toArray.isEmpty && Builtin.List.listTooLong (c.toArray.size+a.toArray.size))=true:=by rw[BA f,Bool.and_false];simp
 refine call_meets F.slot_list_extend ⟨_,e,J⟩ F.entry_list_extend (F.args_list_extend_2 _ _)
  (AutoSeq1.list_extend_list_list_0 l c.toArray n b a.toArray p d (by omega) (by omega)) ⟨e,y,?_⟩
 refine⟨.non,_,I.lset i e (by simp) (r.append o) ?_,J,q⟩
 simp_all
inductive rA(x:V)(vs:List V)(H:Hp)(Q:VK):Prop|mk:∀l xs y,x=.ref l->vs=[]->H l=some (.lst xs)->xs[xs.length-1]?=some y->Q y (upd H l (.lst xs.dropLast))->rA x vs H Q
theorem Ft:yF X "list.pop" rA:=by
 intro d s m H x p v t Q I g i h;obtain⟨l,o,y,rfl,rfl,f,k,q⟩:=h;cases g;have c:=i.zero;subst c;obtain⟨z,a,n,r,A,e⟩:=I.lstM f;obtain⟨u,w,j⟩:=r.get k;have b:a.toArray[a.toArray.size-1]?=some u:=by simp_all
 refine call_meets F.slot_list_pop ⟨_,e,J⟩ F.entry_list_pop (F.args_list_pop_1 _) (MeetsSeq.list_pop_last l a.toArray n u b (by simp_all)) ⟨e,?_⟩;refine⟨y,_,I.lset f e ?_ r.dropLast ?_,j,q⟩;rw[cx,List.eraseIdxIfInBounds_toArray,Mf]
 grind
inductive rD(x y:V)(H:Hp)(Q:VK):Prop|mk:∀l b xs zs,x=.ref l->y=.ref b->H l=some (.lst xs)->H b=some (.lst zs)->xs.length+zs.length<=sizeLine->(∀p,H p=none->Q (.ref p) (upd H p (.lst (xs++zs))))->rD x y H Q
theorem Yg:bZ X (binaryOp .Add) rD:=by
 intro d s t H x y v u Q I g f h;obtain⟨l,b,B,w,rfl,rfl,k,m,D,q⟩:=h;cases g;cases f;obtain⟨z,c,n,r,E,e⟩:=I.lstM k;obtain⟨A,a,C,i,j,p⟩:=I.lstM m;refine P.add_list e p ?_ (by simp_all);have o:c.toArray++a.toArray=(c++a).toArray:=by simp
 rw[o];exact⟨.ref _,_,I.lnew (r.append i) (by simp_all),J,q _ I.fresh⟩
inductive rw(x y:V)(H:Hp)(Q:VK):Prop|mk:∀l k xs,x=.ref l->y=.int k->H l=some (.lst xs)-> -(2^63)<=k->k<2^63->xs.length*k.toNat<=sizeLine->(∀p,H p=none->Q (.ref p) (upd H p (.lst (List.replicate k.toNat xs).flatten)))->rw x y H Q
theorem Bh{a:Type}(xs:O a)(k:Nat):(List.replicate k xs).flatten.length=k*xs.length:=by simp
theorem Aq:bZ X (binaryOp .Mult) rw:=by
 intro j s K H x y v u Q I B A h;obtain⟨l,k,L,rfl,rfl,C,E,D,N,q⟩:=h;cases B;obtain⟨t,rfl⟩:=A;obtain⟨z,b,n,r,P,e⟩:=I.lstM C;have f:b.toArray.size*k.toNat<=sizeLine:=by simp_all
 have i:¬b.toArray.size*k.toNat>(2^63-1)/8:=by
  have:sizeLine<=(2^63-1)/8:=by decide
  omega
 have g:¬(!Builtin.List.listFitsIndex k)=true:=by rw[fitsIndex_both E D];simp
 have c:¬Builtin.List.listTooLong (b.toArray.size*k.toNat)=true:=by rw[BA f];simp
 have d:List.foldl (λp o=>p++o) #[] (List.replicate (if b.toArray.isEmpty=true then 0 else k.toNat) b.toArray)=(List.replicate k.toNat b).flatten.toArray:=by
  have G:=λm=>by have:=Jr b m [];rw[List.nil_append]at this;exact this
  rw[G];cases b with|nil=>simp|cons a M=>rfl
 refine wpAny_binaryOp_repeat_ref (by rfl) ⟨_,e,J⟩ (λw=>typeIs_int w k t) noFill_list_mul F.fills_int_mul F.slot_int_rmul repeat_list F.slot_int_index.lookup
  (call_meets F.slot_int_rmul (typeIs_int s k t) F.entry_int_rmul (F.args_int_rmul_2 _ _) (int___rmul___int_list k t l b.toArray n) ⟨e,J,⟨_,e,J⟩,call_meets F.slot_list_mul ⟨_,e,J⟩ F.entry_list_mul (F.args_list_mul_2 _ _) (AutoListH.list___mul___list_int_3 l b.toArray n k t g i c) ⟨e,?_⟩⟩)
 rw[d];exact⟨.ref _,_,I.lnew (r.rep k.toNat) (by rw[Bh,Nat.mul_comm];omega),J,q _ I.fresh⟩
end
section
variable{prog:Program}{w:World}
end
section
end
end L2
namespace Att
open PySem PySem.W PySem.Calls PyProof.Rows
variable{A:Around}{h:Heap}{mR:List Value}{q:Program}{s:Shared}{E:Value->Shared->Prop}
theorem Ki{P:Params}:∀(c:List Int)(vs:List Value),WellAll P h vs (c.map WData.int)->IntsAre vs c:=by intro c;induction c with| nil=>intro vs w;rw[List.map_nil]at w;cases w;exact .nil| cons n c d=>intro vs w;rw[c8]at w;cases w with| cons a b=>cases a;exact .cons _ _ (d _ b)
theorem LV{l:OpenLaw}{n:Nat}(v:l.most=some n){P:Params}{b:List WData}(c:l.row.toRowW.claim.pre b=true) (g:WellAll P h mR b):
  ∃a vs ns,mR=[Value.ref a]/\b=[WData.list (ns.map WData.int)]/\h.get? a=some {cls:=.type "list",data:=.seq vs.toArray}/\IntsAre vs ns/\ns.length<=n:=by
 have i:=(pre_splitW c).1;have j:l.pre.holds [] {args:=b}=true:=(pre_splitW c).2;obtain⟨d,r,rfl,t,s⟩:=hasAllW_cons i;obtain rfl:=hasAllW_nil s;obtain⟨u,rfl,q⟩:=hasW_list t;obtain⟨ns,rfl⟩:=items_int q;have e:ns.length<=n:=by
  unfold OpenLaw.pre at j;have k:(WTm.not (.lt (.lit (.int n)) (.len (.arg 0)))).holds [] {args:=[.list (ns.map .int)]}=true:=by
   have k:=(holds_andW j).1
   simp_all
  have w:=condW_of k (w_not (w_lt w_lit (w_len_list (w_arg J))))
  simp_all
 cases g with| cons o m=>cases m;cases o with|list p f=>exact⟨_,_,ns,J,J,p,Ki ns _ f,e⟩
theorem Lu(l:OpenLaw)(a:O WData):l.row.toRowW.claim.post a (.bool true) a=true:=
 postW_of
  (show WShape.has [] (.bool true) .bool=true by rfl)
  (w_eq_bool (w_res J) w_lit) J
theorem mn{l:OpenLaw}{n:Nat}{e:O Str}{E:(Str->Option I)->Heap->Prop}{D:World->Heap->Prop}{d:DefRec}(L:l.most=some n) (y:d.params.defaults=[])
  (call:∀(w:World) (c b:Shared) (mg u:Str->Option I) (m:Addr) (o:Obj) (t s h:I) (a:Addr) (vs:O I) (p:O Int),Ground q e [] E w c mg u b.heap->D w b.heap->
   b.heap.get? m=some o->o.data=.func (docDef d.name d.params d.body d.scope t s h)->b.heap.CodeRec s d.name->mg d.name=some (.ref m)->
   b.heap.get? a=some {cls:=.type "list",data:=.seq vs.toArray}->IntsAre vs p->p.length<=n->b.gens=#[]->
   codeAny (model l.prog w) callerA (.call (.ref m) ⟨[.ref a],[]⟩) (λr s'=>r=.ok (.ret (.bool true))/\OldK b.heap s'.heap/\s'.os=b.os/\AllBare s'.gens) b):
  WalkO q e E D l.row.toRowW d [] (λf vs=>PySem.call f vs):=by intro w c b mg u G Y m o t s h W kV K Q z B x P C X as i A F v N;obtain rfl:W=.none:=Dflts.none B y;obtain rfl:kV=.none:=Dflts.noKw B;obtain⟨a,vs,p,rfl,rfl,j,g,k⟩:=LV L i v;refine enter_call (codeAny_mono (call w c b mg u m o t s h a vs p G Y K (fd_plain Q) z x j g k P) λr s' H=>?_);obtain⟨rfl,U,S,R⟩:=H;exact⟨.inl ⟨.bool true,.bool true,[],J,λ_=>rfl,.bool true,Lu l _,λ_=>⟨List.Pairwise.nil,λ_ M=>(nomatch M)⟩⟩,U,S,R⟩
section
variable{prog:Program}{w:World}{K:Frag}
end
end Att
namespace L2
open PySem PySem.Spec PyProof.Rows
variable{a c f it:Addr}{A:Around}{osl sl:Array (Option Value)}{its:Array Value}{X:Cx}{D:Ends}{env:Env}{tg:Expr}{fd:FuncData}{h':Heap}{H H' H2:Hp}{lo:Int}{pins bU:List (Addr×Obj)}{fp:List Addr}{eV gg:List Expr}{ns:List Int}{cap:List Nat}{ps:List Str}{xs:List V}{us vs:List Value}{i:Nat}{v:Option Value}{aE:Pos}{P prog q:Program}{R:Result->Shared->Prop}{scope:Scope}{s s':Shared}{sp:Sp}{σ σ':St}{st:Stmt}{qual x:Str}{mb mg:Str->Option Value}{ta:TA}{te:TE}{g:TG}{tb:TS}{tc:TT}{bV:Value}{E Ex Q:Value->Shared->Prop}{w:World}
theorem CD:∀{vs:List Value}{a:List Int},IntsAre vs a->yu (a.map V.int) vs|_,_,.nil=>.nil|_,_,.cons n t h=>.cons ⟨t,J⟩ (CD h)
def t9(H:Hp):Prop:=∀b,H b=none\/∃o xs,H b=some (.frz o (.lst xs))
theorem IH {K:W.Frag} {CX:gy} {k:Nat} {R:Addr} {c:Shared}(KX:K.In c.heap) (y:c.heap.Ns mainGlobals mg) (l:c.heap.Ns builtinsNs mb) (M:∀x:Str,x≠"__name__"->mb x=bootBuiltins x) (A:c.heap.NoLimit) (hg:c.gens=#[])
  (N:c.heap.get? a=some {cls:=.type "list",data:=.seq vs.toArray}) (X:IntsAre vs ns) (hl:ns.length<=sizeLine) (hr:aP k callerA)
  (F:∀base:Heap,K.In base->base.Ns mainGlobals mg->cF P w K mg base CX k R fd [x] sp) (j:∀(s:Shared)(u:Value),BindsTo s fd ⟨[u],[]⟩ [(x,u)])
  (L:∀H:Hp,t9 H->aM K H a (ns.map V.int)->sp [.ref a] H (λv _=>v=.bl true) λ_ _ _=>False)
  (Q:∀H e s',CX [] H c (λ_ _ _=>False) e s'->False):
  codeAny (model P w) callerA (.call (.ref R) ⟨[.ref a],[]⟩) (λr s'=>r=.ok (.ret (.bool true))/\OldK c.heap s'.heap/\s'.os=c.os/\AllBare s'.gens) c:=by
 have rv:=CD X;have U:=X.length;have i:∀H:Hp,t9 H->aM K H a (ns.map V.int)->cA P w H c.heap->(∀b,H b≠none->b=a)->(H a≠none->K.lookup a=none)->
   codeAny (model P w) callerA (.call (.ref R) ⟨[.ref a],[]⟩) (λr s'=>r=.ok (.ret (.bool true))/\OldK c.heap s'.heap/\s'.os=c.os/\AllBare s'.gens) c:=by
  intro H Z hS t hA hK;have f:∀{b:Addr}{o:Obj},c.heap.get? b=some o->H b=none->(lm c.heap H).get? b=some o:=λe n=>I0 e n;have G:∀{b:Addr}{o:Obj}{D:Array DictEntry}{E:Nat},c.heap.get? b=some o->o.data=.dict D E->H b=none:=λ{b o D E} e d=>by grind
  have g:∀{b:Addr}{m:Str->Option Value},c.heap.Ns b m->(lm c.heap H).Ns b m:=λ{b m} ⟨o,D,E,e,d,r⟩=>⟨o,D,E,f e (G e d),d,r⟩
  have B:=λb o e=>f (KX b o e) (by grind)
  have hM:Mod K mg (lm c.heap H):=⟨B,g y,⟨mb,g l,M⟩,let⟨mc,h1,h2⟩:=A;⟨mc,g h1,h2⟩⟩
  have e0:fI P w K mg (lm c.heap H) callerA [] c H:=⟨J,hM,λb o e=>HX e,Nat.le_of_eq (LE _ _),trivial,λb l=>absurd (show b∈[]from l) (by simp),t,.of_eq hg⟩
  refine codeAny_mono ((F _ B (g y)).run callerA [] c H ⟨[.ref a],[]⟩ [.ref a] [.ref a] _ _ hr e0 (j c (.ref a)) (.cons J .nil) (L H Z hS)) λr s' h=>?_;cases r with|error e=>exact(Q H e s' h).elim| ok fl=>
    cases fl with|next=>exact False.elim h|brk=>exact False.elim h|cont=>exact False.elim h| ret u=>
      obtain⟨v,H',os,C,S,p,r',q⟩:=h;have q':=q;subst q';obtain rfl:u=Value.bool true:=r';refine⟨J,OldK.of_keep λb o e=>?_,os,C⟩;cases q:H b with|none=>exact S.keep b o e q (by intro z;exact absurd (show b∈[]from z) (by simp)) (by simp)| some u=>
        rcases Z b with z|⟨ob,xs,z⟩
        simp_all
        have z2:=S.frzs b ob _ z;obtain⟨e1,_⟩:=t b _ z;obtain⟨e2,_⟩:=p b _ z2
        simp_all
 cases hk:K.lookup a with| some o=>
   have e:=KX a o hk;rw[N]at e;cases e;refine i (λ_=>none) (λ_=>.inl J) (.inr ⟨_,vs.toArray,_,hk,J,J,J,by simp_all,by omega⟩) (λb u z=>by simp_all) (λb z=>absurd J z) λz=>absurd J z| none=>
   refine i (λb=>if b=a then some (.frz {cls:=.type "list",data:=.seq vs.toArray} (.lst (ns.map V.int)))else none) (λb=>?_) (.inl (.inr ⟨{cls:=.type "list",data:=.seq vs.toArray},if_pos J⟩)) (λb u z=>?_) (λb z=>?_) λ_=>hk
   grind
   by_cases l:b=a;have z':=(if_pos l).symm.trans z;cases z';subst l;exact⟨N,by simp_all,vs,_,rv,N⟩
   simp_all
   simp_all
theorem sX{l:W.OpenLaw}{n k:Nat}{c:O Str}{Z:(Str->Option I)->Heap->Prop}{C:World->Heap->Prop}{d:DefRec}{K:Params->W.Frag}{CX:World->gy}{sp:World->Sp}(L:l.most=some n) (t:n<=sizeLine) (z:d.params.defaults=[]) (E:aP k callerA)
  (Q:∀(w:World)(h:Heap),C w h->(K w.params).In h)
  (F :∀(w:World) (mg:Str->Option I) (p:Addr) (h:Heap),(K w.params).In h->h.Ns mainGlobals mg->mg d.name=some (.ref p)-> ∃ fd:FuncData,(∀(s:Shared) (u:I),BindsTo s fd ⟨[u],[]⟩ [(x,u)])/\
     ∀base:Heap,(K w.params).In base->base.Ns mainGlobals mg->cF l.prog w (K w.params) mg base (CX w) k p fd [x] (sp w))
  (r:∀(w:World)(H:Hp)(a:Addr)(m:O Int),m.length<=n->t9 H->aM (K w.params) H a (m.map V.int)->sp w [.ref a] H (λv _=>v=.bl true) λ_ _ _=>False)
  (A:∀(w:World)(H:Hp)(s:Shared)(e:I)(s':Shared),CX w [] H s (λ_ _ _=>False) e s'->False):
  W.WalkO q c Z C l.row.toRowW d [] (λf vs=>PySem.call f vs):=by refine Att.mn L z λw B i mg mb p o pm cd X a vs m G Y ho hd N y j g b M=>?_;have D:=Q w _ Y;obtain⟨fd,P,U⟩:=F w mg p _ D G.T.g y;exact IH D G.T.g G.T.b G.T.builtins G.T.nolimit M j g (cr b t) E U P (λH S R=>r w H a m b S R) λH e s'=>A w H i e s'
noncomputable def jr(s:Stmt):Arguments:=match s with|.FunctionDef _ a _ _ _ _ _ _ _ _=>a|_=>{posonlyargs:=[],args:=[],vararg:=none,kwonlyargs:=[],kw_defaults:=[],kwarg:=none,defaults:=[]}
noncomputable def xj(s:Stmt):List Stmt:=match s with|.FunctionDef _ _ b _ _ _ _ _ _ _=>b|_=>[]
noncomputable def zk(s:Stmt):Scope:=match s with|.FunctionDef _ _ _ _ _ _ sc _ _ _=>sc|_=>{kind:=.function,names:=[],isGenerator:=false,isCoroutine:=false}
abbrev fZ:gy:=λ_ _ _ _ _ _=>False
abbrev E0:XK:=λ_ _ _=>False
theorem rZ:Xo fZ X E0:=λ_ _ _ _ _ _ _ h=>h.elim
structure gm(K:W.Frag)(x qual:Str)(st:Stmt)(f:Addr)(fd:FuncData):Prop where
 ex:∃(oc:Value)(od:Option Addr)(kV doc pm:Value)(an:Option Addr)(cdv ct:Value)(osl:Array (Option Value)),fd=W.fnOf x qual (jr st) (xj st) (zk st) .none kV doc pm an cdv ct/\K.lookup f=some ⟨oc,od,.func fd,osl⟩/\W.codeIn K cdv qual=true
 kp:W.keepIn K (.ref f)=true
section
variable{K:W.Frag}{base:Heap}
theorem gm.ok{N:O Str}{k:Nat}(F:gm K x qual st f fd)(S:aA N ps (zk st))(b:∀vs H Q E,sp vs H Q E->vs.length=ps.length)(a:∀(cdv:I) (A:Around) (outer:O Env) (s:Shared) (H:Hp) (vs:O V) (Q:VK) (E:XK),aP k (A.deeper (envOfC qual (zk st) s.heap.objs.size f cdv))->sp vs H Q E-> ∃t,dZ (Xl fZ P w K mg base N qual (zk st) f cdv A outer s H E).nox (xj st) t/\t (.of Q) (start N vs) H):cF P w K mg base fZ (k+1) f fd ps sp:=by obtain⟨n,m,kV,j,l,p,cdv,o,e,rfl,g,d⟩:=F.ex;refine zK g d S b λA outer s H vs Q E i c=>?_;obtain⟨t,h,q⟩:=a cdv A outer s H vs Q E i c;exact⟨t,h.nox,q⟩
theorem gm.binds(F:gm K x qual st f fd)(h:∀(kV a c:I)(e:Option Y)(cdv d:I)(b:O I),b.length=ps.length->bindArgs (W.fnOf x qual (jr st) (xj st) (zk st) .none kV a c e cdv d) ⟨b,[]⟩=pure (ps.zip b)):Y6 K fd ps []:=by obtain⟨k,j,kV,a,c,e,cdv,d,g,rfl,l,i⟩:=F.ex;exact .all (h kV a c e cdv d)
theorem uF{h:I}{g e:Option Y}{kV a b cdv d:I}(l:K.lookup f=some ⟨h,g,.func (W.fnOf x qual (jr st) (xj st) (zk st) .none kV a b e cdv d),osl⟩)(c:W.codeIn K cdv qual=true) (k:W.keepIn K (.ref f)=true):gm K x qual st f (W.fnOf x qual (jr st) (xj st) (zk st) .none kV a b e cdv d):=⟨⟨h,g,kV,a,b,e,cdv,d,osl,J,l,c⟩,k⟩
end
theorem Z0{k:Nat}(a:aP k A):A.units+1<cLine:=eh (fg (by decide) _) a.units
theorem wa{n:Nat}(h:n<=1000):n<sizeLine:=eh h (by decide)
section
theorem pv(i:Nat)(d:X.N[i]?=some x:=by rfl)(b:oX X.env.scope x:=by first|exact Or.inl J|exact Or.inr (Or.inl J)|exact Or.inr (Or.inr J))(c:(x==("__debug__":Str))=false:=by decide)
 (a:(x==("__classdict__":Str))=false:=by decide):PE X (.Name x aE) (kF i):=uV d b c a
theorem KE:Zg X (.builtin "len") (λxs H Q=>∃a kvs,xs=[V.ref a]/\H a=some (.dK kvs)/\Q (.int kvs.length) H):=by intro b s f H xs g Q I r h;obtain⟨a,kvs,rfl,d,q⟩:=h;obtain⟨u,rfl,c⟩:=Z7 r;cases c;exact D6 I (.inl d) λt i e=>⟨.int kvs.length,H,e,⟨t,J⟩,q⟩
end
theorem yy{A B:Prop}(h:B):if false=true then A else B:=by simp_all
theorem y3{A B:Prop}(h:A):if true=true then A else B:=by simp_all
theorem jy{c A B:Prop}[Decidable c](b:c->A)(a:¬c->B):if c then A else B:=by simp_all
def zi(H F:Hp):Prop:=∀b o,H b=some o->F b=some o
theorem zi.refl(H:Hp):zi H H:=λ_ _ h=>h
theorem zi.trans{d:Hp}(a:zi H d)(b:zi d H2):zi H H2:=λc o h=>b c o (a c o h)
theorem zi.seq{K:W.Frag}(e:zi H H')(h:aM K H a xs):aM K H' a xs:=by rcases h with(h|⟨o,h⟩)|h;exact .inl (.inl (e _ _ h));exact .inl (.inr ⟨o,e _ _ h⟩);exact .inr h
section
variable{κ:Type}[DecidableEq κ]
theorem wI{kvs:O (κ×V)}{k:κ}{v:V}(h:xa kvs k=some v):k∈kvs.map (·.1):=by
 have q:(kvs.any λa=>decide (a.1=k))=true:=by rw[Z8,h];rfl
 simp_all
end
section
theorem NA{B a D:Expr}{y t:Value}(I:Nat->Shared->Prop)(z:∀e s',Ex e s'->notedBy (model prog w) A env (λx u=>R (.error x) u) e s')(l:∀n s,I n s->wpAny (model prog w) A (pyNext y) (λr b=>match r with
   |none=>R (.ok .next) b
   | some v=>wpAny (model prog w) A (letOwnedTupleGo a y v) (λ_ s₂=>wpAny (model prog w) A (assign a env v) (λ_ s₂=> wpAny (model prog w) A (forIn gg true λc r=>if r=true then do let ok<-isTrue c env (eval c env);pure (ForInStep.yield ok)else pure (ForInStep.yield r)) (λok f=> if ok=true then wpAny (model prog w) A (eval B env) (λx j=>wpAny (model prog w) A (call (.builtin "list.append") [t,x]) (λ_ i=>∃m,m<n/\I m i) (λ_ _=>False) j) Ex f
     else∃m,m<n/\I m f) (λ_ _=>False) s₂) (λ_ _=>False) s₂) (λ_ _=>False) b) (λ_ _=>False) s)
  (n:Nat) (h:I n s):
  codeAny (model prog w) A (.compLoop (.ListComp B [⟨a,D,gg,0⟩] scope aE) 0 y t env) R s:=by
 refine codeAny_loop J I (λn s C=>?_) n h;refine wpAny_noted ?_;rw[compTurn_list];refine aa (wpAny_standAt (aa (cz (l n s C) (λr b d=>?_) λ_ _ g=>g.elim)));cases r with
 |none=>exact ae d
 | some v=>
   refine aa (cz d (λ_ b d=>?_) λ_ _ g=>g.elim);refine aa (cz d (λ_ s₂ q=>aa (cz q (λok f k=>?_) λ_ _ g=>g.elim)) λ_ _ g=>g.elim);cases ok with
   |false=>exact ae ⟨J,k⟩
   | true=>exact aa (aa (cz k (λx j p=>aa (cz p (λ_ i o=>ae (ae ⟨J,o⟩)) λ_ _ g=>g.elim)) z))
end
noncomputable def eJ(F:Env):List (Str×NameKind)->List (Str×Addr)->List (Str×Addr)|[],U=>U|(n,k)::r,U=>if k==.free then eJ F r ((n,(F.cells.lookup n).getD 0)::U)else eJ F r U
theorem Wo(i:∀x∈scope.names,x.2=.free->∃c,env.cells.lookup x.1=some c):closureFor scope env=pure (eJ env scope.names []):=by
 have go:∀(l:O (Str×NameKind))(b:O (Str×Y)),(∀x∈l,x.2=.free->∃c,env.cells.lookup x.1=some c)->
   (forIn (m:=Sem) l b λx r=>(if(x.2==NameKind.free)=true then do let a<-cellOf env x.1;pure (ForInStep.yield ((x.1,a)::r))else pure (ForInStep.yield r)))=pure (eJ env l b):=by
  intro l;induction l with|nil=>intro b _;rfl| cons p r f=>
    obtain⟨n,k⟩:=p;intro b h;have g:=λx hx=>h x (bn _ hx);rw[List.forIn_cons];by_cases hk:k=.free;subst hk;obtain⟨c,j⟩:=h (n,.free) bo J;have e:cellOf env n=pure c:=by unfold cellOf;rw[j]
    rw[if_pos (by rfl),e,pure_bind,pure_bind];dsimp only;rw[f _ g];show _=pure (if(NameKind.free==.free)=true then eJ env r ((n,(env.cells.lookup n).getD 0)::b)else eJ env r b)
    simp_all
    have d:(k==NameKind.free)=false:=by simp_all
    rw[d,if_neg c7,pure_bind];dsimp only;rw[f _ g];show _=pure (if(k==.free)=true then eJ env r ((n,(env.cells.lookup n).getD 0)::b)else eJ env r b);rw[d,if_neg c7]
 have e:=go scope.names [] i;unfold closureFor
 simp_all
theorem Vy{a:Env}{x:Str}{c:Addr}:∀{l:List (Str×NameKind)}{b:List (Str×Addr)},(∀x∈l,x.2=.free->∃c,a.cells.lookup x.1=some c)->(eJ a l b).lookup x=some c->b.lookup x=some c\/a.cells.lookup x=some c
 |[],b,_,h=>.inl h
 | (n,k)::r,b,e,h=>by
   have d:=λx hx=>e x (bn _ hx);unfold eJ at h;split at h
   rename_i hk
   obtain⟨g,f⟩:=e (n,k) bo (by simp_all);rcases Vy d h with q|q
   grind
   simp_all
   exact Vy d h
theorem Qv{b:Env}{x:Str}:∀{l:List (Str×NameKind)}{a:List (Str×Addr)},(x,NameKind.free)∈l\/(∃c,a.lookup x=some c)->∃c,(eJ b l a).lookup x=some c
 | [],a,h=>by rcases h with h|h;cases h;exact h
 | (n,k)::r,a,h=>by
   unfold eJ;split
   rename_i hk
   have hk:k=.free:=by simp_all
   subst hk;refine Qv ?_;rcases h with h|⟨c,h⟩;rcases ak.mp h with h|h
   simp_all
   simp_all
   grind
   rename_i hk
   refine Qv ?_
   grind
theorem Qd(a:∀y∈scope.names,y.2≠ .cell)(h:(relabel scope env).names.lookup x=some .cell\/(relabel scope env).names.lookup x=some .free):(x,NameKind.free)∈scope.names:=by
 have go:∀(l:O (Str×NameKind)),(∀y∈l,y.2≠ .cell)->∀k,(k=NameKind.cell\/k=.free)->
   (l.map λ(n,k)=>if(k==NameKind.free && env.scope.kind==.function && env.kindOf n==some .cell)then(n,NameKind.cell)else(n,k)).lookup x=some k->(x,NameKind.free)∈l:=by intro l;induction l with|nil=>simp| cons p r b=>grind
 rcases h with h|h;exact go scope.names a _ (.inl J) h;exact go scope.names a _ (.inr J) h
abbrev jO(F:List Value):Obj:={cls:=.type "list",data:=.seq F.toArray F.length}
theorem LM(a:O I)(u:I):({cls:=.type "list",data:=.seq (a.toArray.push u) (a.length+1)}:Obj)=jO (a++[u]):=by simp
noncomputable def cB(k:Nat)(cap:List Nat)(F:St):St:=List.replicate k none++cap.map λj=>(F[j]?).getD none
noncomputable def mr(own:List Str)(cap:List Nat)(N:List Str):List Str:=own++cap.map λj=>(N[j]?).getD Str.empty
noncomputable def ja(X:Cx)(own:List Str)(cap:List Nat)(F:Scope)(C:Addr)(fp:List Addr)(U:Shared)(Z:Hp):Cx:={X with N:=mr own cap X.N,s₀:=U,H₀:=Z,env:=compEnvC F (eJ X.env F.names []) C X.env,outer:=X.stack,ex:=fp,fn:=λ_=>false,pn:=[],xe:=λ_ _=>False}
def pF(X:Cx)(F:Scope):List Nat->Prop|[]=>True|j::r=>(∃x,X.N[j]?=some x/\(X.env.scope.names.lookup x=some .cell\/X.env.scope.names.lookup x=some .free)/\(relabel F X.env).names.lookup x≠some .local)/\pF X F r
theorem pF.mem{X:Cx}{c:Scope}:∀{cap:List Nat},pF X c cap->∀j∈cap,∃x,X.N[j]?=some x/\(X.env.scope.names.lookup x=some .cell\/X.env.scope.names.lookup x=some .free)/\(relabel c X.env).names.lookup x≠some .local|[],_,_,h=>nomatch h| _::_,⟨a,b⟩,j,h=>by rcases ak.mp h with rfl|h;exact a;exact pF.mem b j h
structure aW(X:Cx)(own:List Str)(cap:List Nat)(scope:Scope):Prop where
 kind:scope.kind=.function
 free:∀x∈scope.names,x.2=.free->X.env.kindOf x.1=some .cell\/X.env.kindOf x.1=some .free
 cell:∀x∈scope.names,x.2≠ .cell
 names:∀x∈scope.names,x.2=.local->scope.names.lookup x.1=some .local
 cap:pF X scope cap
section
variable{H₂:Hp}{s₂:Shared}{own:List Str}{C:Addr}
theorem aW.has(S:aW X own cap scope)(a:X.Ok):∀x∈scope.names,x.2=.free->∃c,X.env.cells.lookup x.1=some c:=λx hx hk=>a.has _ (S.free x hx hk)
theorem aW.look(S:aW X own cap scope)(a:X.Ok)(h:(eJ X.env scope.names []).lookup x=some c):X.env.cells.lookup x=some c:=by rcases Vy (S.has a) h with q|q;cases q;omega
theorem Un.cellK{f a:O Y}{h:Heap}(u:Un f a H H' h h')(n:H c=none)(hx:c ∉ a)(z:h.IsCell c v):h'.IsCell c v:=by obtain⟨o,b,d⟩:=z;obtain⟨g,e⟩:=u.any b n hx;exact⟨_,e,d⟩
theorem KK(I:Inv X pins σ H₂ s₂)(S:aW X own cap scope)(f:∀b∈fp,Ko X pins H₂ b)(g:s₂.heap.objs.size<=C)(d:∀b∈fp,b<s₂.heap.objs.size):(ja X own cap scope C fp s₂ H₂).Ok where
 mod:=I.ok.mod
 kind:=S.kind
 glob:=I.ok.glob
 blt:=I.ok.blt
 above:=g
 inj:=λx y c j i=>I.ok.inj x y c (S.look I.ok j) (S.look I.ok i)
 has:=λx h=>Qv (.inl (Qd S.cell h))
 cab:=λx c h=>by cases h
 hd:=I.ok.hd
 frames:=I.ok.frames
 stk:=.inl J
 exf:=λb a=>⟨bj (ca (d b a) g),λx c h=>(f b a).2.2.2.2.1 x c (S.look I.ok h)⟩
 bs:=I.bs
 bsz:=cr I.ok.bsz I.sz
 noex:=λb o e a=>by rcases(f b a).2.2.2.1 with z|z;exact I.ok.noex b o e z;exact absurd (ca (ax e) (cr I.ok.bsz z)) (dc _)
 exfs:=λb a z=>by rcases ak.mp (I.stkSub b z)with e|e;exact(f b a).2.1 e;exact(f b a).2.2.1 e
 funs:=I.stack
 frf:=λb a=>I.stkFree b a
theorem Bo(I:Inv X pins σ H₂ s₂)(S:aW X own cap scope)(f:∀b∈fp,Ko X pins H₂ b){E:List Addr}(u:Un E fp H₂ H' s₂.heap h')(m:Str->Option Value):∀(i:Nat)(x:Str)(v:V),(mr own cap X.N)[i]?=some x->(cB own.length cap σ)[i]?=some (some v)->oX (relabel scope X.env) x->∃q,yq v q/\yO (compEnvC scope (eJ X.env scope.names []) C X.env) h' m x q:=by
 intro i x v a d D;unfold cB at d;unfold mr at a;by_cases B:i<own.length
 grind
 rw[List.getElem?_append_right (by simpa using B)]at d a;rw[fh]at d;rw[bi]at a d;cases e:cap[i-own.length]? with|none=>simp_all| some j=>
   rw[e]at a d;obtain⟨y,s,hk,k⟩:=S.cap.mem j (bq e);have a:(X.N[j]?).getD Str.empty=x:=Option.some.inj a;rw[s]at a;have a:y=x:=a;subst a;have d:(σ[j]?).getD none=some v:=Option.some.inj d;have o:σ[j]?=some (some v):=by grind
   obtain⟨F,G,A⟩:=I.loc;obtain⟨q,r,l⟩:=A j y v s o (.inr hk);refine⟨q,r,?_⟩;rcases l with⟨p,_⟩|⟨_,c,n,z⟩;have p:X.env.scope.names.lookup y=some .local:=p
   simp_all
   have g:=D.resolve_left k;obtain⟨H,h⟩:=Qv (.inl (Qd S.cell g));have t:=S.look I.ok h;rw[n]at t;cases t;exact .inr ⟨g,c,h,u.cellK (I.freeC y c n) (λw=>(f c w).2.2.2.2.1 y c n J) z⟩
theorem Co(I:Inv X pins σ H₂ s₂)(S:aW X own cap scope)(f:∀b∈fp,Ko X pins H₂ b)(J:Inv (ja X own cap scope C fp s₂ H₂) bU σ' H' s'):Inv (ja X own cap scope C fp s₂ H₂) bU (cB own.length cap σ) H' s':=by obtain⟨m,a,_⟩:=id J.loc;refine⟨J.ok,J.os,J.bare,J.base,⟨m,a,Bo I S f J.base m⟩,J.cell,J.free,J.freeC,J.pin,J.hok,?_⟩;unfold cB;show _=(mr own cap X.N).length;unfold mr;simp
theorem Bn{D:Y}{h:O V}(I:Inv X pins σ H₂ s₂)(f:∀b∈fp,Ko X pins H₂ b)(J:Inv (ja X own cap scope C fp s₂ H₂) bU σ' H' s')(hs:Heap.SameBut C s'.heap h') (A:s₂.heap.objs.size<=C) (y:s₂.heap.objs.size<=D) (k:D≠C) (w:s'.heap.get? D=some (jO us)) (g:H' D=none) (x:h.length<=sizeLine) (r:yu h us):
  Inv X pins σ (upd H' D (.lst h)) {s' with heap:=h'}:=by
 have same:∀b o,b≠C->s'.heap.get? b=some o->h'.get? b=some o:=λb o a e=>(hs.2 b a).trans e;have m:∀b o,s₂.heap.get? b=some o->b≠C/\b≠D:=λb o e=>⟨bj (ca (ax e) A),bj (ca (ax e) y)⟩
 have u:=J.base;have P:H' C=none:=J.free;have j:cA X.prog X.w (upd H' D (.lst h)) h':=by
  intro b s e;by_cases a:b=D;subst a;rw[zf]at e;cases e;exact⟨x,us,us.length,r,same b _ k w⟩;rw[upd_ne a]at e;have t:∀c l,H' c=some l->c≠C:=λc l z q=>by simp_all
  refine(J.hok b s e).stay (λc v F q=>same c v ?_ q) (λc q=>?_) λc i q=>?_
  grind
  rw[upd_ne (zn q g)];exact q;rw[upd_ne (zn q g)];exact q
 refine I.call' (ch:=fp) J.os ⟨λb o e n a hx=>?_,λb o e n a hx=>?_,λb o e n hx=>?_,λb o e hx=>?_,λb i e=>?_,λb o i e=>?_,λb p e=>?_⟩ j J.bare λb a=>?_;exact same b o (m b o e).1 (u.keep b o e n a hx);obtain⟨B,q⟩:=u.slot b o e n a hx
 simp_all
 rw[upd_ne (m b o e).2];exact u.free b o e n hx;obtain⟨E,q⟩:=u.there b o e hx
 simp_all
 have q:=u.tups b i e;rw[upd_ne (zn q g)];exact q;have q:=u.frzs b o i e;rw[upd_ne (zn q g)];exact q;obtain⟨d,q⟩:=u.tbls b p e;exact⟨d,by rw[upd_ne (zn q g)];exact q⟩;obtain⟨N,M,L,K,H,G⟩:=f b a
 grind
end
def qD(X:Cx)(F:List Expr)(t:TT):Prop:=
 ∀ (pins:List (Addr×Obj)) (s:Shared) (σ:St) (H:Hp) (Q:Bool->Hp->Prop),Inv X pins σ H s->t σ H Q->
   wpAny (model X.prog X.w) X.A (forIn F true λc r=>if r=true then do let ok<-isTrue c X.env (eval c X.env);pure (ForInStep.yield ok)else pure (ForInStep.yield r)) (TP X pins σ Q) X.xe s
def ug:TT:=λ_ H Q=>Q true H
theorem qr:qD X [] ug:=by intro a s b H Q I h;exact ae ⟨H,I,h⟩
theorem Yo{c:Expr}{t:TT}(h:PT X c t):qD X [c] t:=by intro a s d H Q I f;rw[List.forIn_cons];rw[if_pos J];refine aa (aa (aF (h a s d H Q I f) λb j ⟨i,g,e⟩=>?_));refine ae ?_;dsimp only;rw[List.forIn_nil];exact ae ⟨i,g,e⟩
inductive cM(J:It)(g:TG)(tc:TT)(te:TE)(k:Nat)(cap:List Nat)(σ:St)(H:Hp)(Q:VK):Prop| mk:∀W:Nat->Nat->List V->Hp->Prop,(∃m,W 0 m [] H)->(∀i m ys H,W i m ys H-> (J.stop i H/\ys.length<=sizeLine/\∀p,H p=none->Q (.ref p) (upd H p (.lst ys)))\/
   (J.go i H/\ys.length<=sizeLine/\∃N:List V->Hp->Prop,(∀ys' H',N ys' H'->∃m',m'<m/\W (i+1) m' ys' H')/\∀x H',J.yld i H x H'->g x (cB k cap σ) H' λσ2 H2=>tc σ2 H2 λb H3=>if b=true then te σ2 H3 λy H4=>N (ys++[y]) H4 else N ys H3))->cM J g tc te k cap σ H Q
def Da(F:TI)(g:TG)(Z:TT)(U:TE)(k:Nat)(cap:List Nat):TE:=λσ H Q=>F σ H λJ H1=>cM J g Z U k cap σ H1 Q
section
variable{own:List Str}{cD gr:Expr}{wi:TI}
theorem Bv{Zw:Cx->O Str->O Nat->Scope->Y->O Y->Shared->Hp->I->Shared->Prop}{f:Shared}{tn:Nat->Heap->Prop}{J:It}{W:Nat->Nat->O V->Hp->Prop}{m0:Nat}{QQ:O V->Hp->Prop}{RR:I->Y->Result->Shared->Prop}(hc:X.calm=true) (S:aW X own cap scope)
  (hg:∀C fp s₂ H₂,PG (ja X own cap scope C fp s₂ H₂) tg g) (ht:∀C fp s₂ H₂,qD (ja X own cap scope C fp s₂ H₂) gg tc) (he:∀C fp s₂ H₂,PE ((ja X own cap scope C fp s₂ H₂).wish (Zw X own cap scope C fp s₂ H₂)) gr te)
  (B:Inv X pins σ H2 f) (T:dF X.prog X.w X.K tg J fp it tn) (a6:tn 0 f.heap) (f2:∀b∈fp,Ko X pins H2 b) (w0:W 0 m0 [] H2)
  (a1:∀i m k H,W i m k H-> (J.stop i H/\k.length<=sizeLine/\QQ k H)\/
   (J.go i H/\k.length<=sizeLine/\∃N:O V->Hp->Prop,(∀aS s,N aS s->∃m',m'<m/\W (i+1) m' aS s)/\∀x s,J.yld i H x s->g x (cB own.length cap σ) s λay H2=>tc ay H2 λb H3=>if b=true then te ay H3 λy H4=>N (k++[y]) H4 else N k H3))
  (hZ:∀(D C:Y)(e:I)(s':Shared),Zw X own cap scope C fp f H2 e s'->notedBy (model X.prog X.w) X.A (compEnvC scope (eJ X.env scope.names []) C X.env) (λx bg=>RR (.ref D) C (.error x) bg) e s')
  (bk:∀(D C:Y) (bU:O (Y×Obj)) (bd:St) (s:Hp) (s':Shared) (t:O I) (k:O V),Inv (ja X own cap scope C fp f H2) bU bd s s'->f.heap.objs.size<=C->f.heap.objs.size<=D->D≠C->s'.heap.get? D=some (jO t)->s D=none-> k.length<=sizeLine->yu k t->QQ k s->RR (.ref D) C (.ok .next) s'):
  wpAny (model X.prog X.w) X.A (newList []) (λbc l=>wpAny (model X.prog X.w) X.A (newFunctionEnv scope X.env.globals (eJ X.env scope.names []) [] X.env.qual none .none (some X.env)) (λP a3=>codeAny (model X.prog X.w) X.A (.compStart (.ListComp gr [⟨tg,cD,gg,0⟩] scope aE) 0 (.ref it) bc {P with scope:=relabel scope X.env}) (RR bc P.locals) a3) X.xe l) X.xe f:=by
 refine df (wpAny_newFunctionEnv S.cell (by intro y hy;simp at hy) (λF w j=>?_) S.kind);generalize af:f.heap.push {cls:=.type "list",dict:=none,data:=.seq [].toArray}=g2 at w j⊢;have ap:g2.objs.size=f.heap.objs.size+1:=by rw[<-af,ee]
 have hC:f.heap.objs.size<=g2.objs.size:=by rw[ap];exact Nat.le_succ _
 have ah:f.heap.objs.size≠g2.objs.size:=by rw[ap];exact bj (ez _)
 have below:∀b,b<f.heap.objs.size->b≠g2.objs.size/\b≠f.heap.objs.size:=λb h=>⟨by rw[ap];exact bj (Nat.lt_succ_of_lt h),bj h⟩
 have bV:=λb o e=>j.extBut b o (below b (ax e)).1 (be _ (af▸be _ e));have a9:=j.extBut _ _ ah (be _ (af▸bx _ rfl));have Z:∀b∈fp,b<f.heap.objs.size:=λb h=>by obtain⟨o,e,_⟩:=T.obj _ _ a6 b h;exact ax e
 have A:∀a,f.heap.objs.size<=a->H2 a=none:=λa ha=>B.hok.fresh ha;have ok:=KK B S f2 hC Z;have a7:=T.keep _ _ _ a6 λb h o e=>bV b o e;let K:=ja X own cap scope g2.objs.size fp f H2;have u1:Un (bP X.stack) fp H2 H2 f.heap F:=Un.kept bV;have start:Inv K [(f.heap.objs.size,jO [])] (cB own.length cap σ) H2 {f with heap:=F,toks:=f.toks+([]:O (Str×I)).length}:=by
  refine⟨ok,rfl,B.bare,u1,⟨_,w,Bo B S f2 u1 _⟩,λx c e=>?_,A _ hC,λx c e=>B.freeC x c (S.look B.ok e),λp L=>?_,B.hok.kept bV,?_⟩;obtain⟨v,z⟩:=B.cell x c (S.look B.ok e);obtain⟨o,ho,hd⟩:=z;exact⟨v,o,bV c o ho,hd⟩;have e:p=(f.heap.objs.size,jO []):=by simpa[K,ja]using L
  subst e;refine⟨a9,A _ (aj _),ah,λz=>?_,λv z=>by cases z⟩;obtain⟨_,o,ho,_⟩:=B.stack.mem z;exact absurd (ax ho) (dc _);unfold cB;show _=(mr own cap X.N).length;unfold mr;simp
 have E:∀{D:Y}{o:Obj}{s:Hp},f.heap.objs.size<=D->(∀b∈fp,s b=none)->∀b∈fp,Ko K [(D,o)] s b:=λ{D o s} hD hn b h=>
  ⟨hn b h,(ok.exf b h).1,ok.exfs b h,.inl h,λx c e=>(ok.exf b h).2 x c e,λp L=>by
   have e:p=(D,o):=by simpa[K,ja]using L
   subst e;exact au (bj (ca (Z b h) hD))⟩
 have M:∀l:Shared,l={f with heap:=F,toks:=f.toks+([]:O (Str×I)).length}->
   codeAny (model X.prog X.w) X.A (.compLoop (.ListComp gr [⟨tg,cD,gg,0⟩] scope aE) 0 (.ref it) (.ref f.heap.objs.size) (compEnvC scope (eJ X.env scope.names []) g2.objs.size X.env))
    (RR (.ref f.heap.objs.size) g2.objs.size) l:=by
  rintro l rfl;refine NA (λn s'=>∃i s t k,Inv K [(f.heap.objs.size,jO t)] (cB own.length cap σ) s s'/\tn i s'.heap/\(∀b∈fp,s b=none)/\yu k t/\W i n k s) (hZ _ _) ?_ m0
   ⟨0,H2,[],[],start,a7,λb h=>(f2 b h).1,.nil,w0⟩
  rintro n s3 ⟨i,H3,t,k,I3,a5,bb,rv,w3⟩;rcases a1 i n k H3 w3 with⟨a4,hl,qn⟩|⟨go,hl,N,hN,step⟩;refine aF (T.done K rfl rfl rfl hc i _ s3 _ H3 _ I3 (E (aj _) bb) a5 a4) λr s4 ⟨hr,I4⟩=>?_;subst hr;have G:=I4.pin (f.heap.objs.size,jO t) (dk _ bo);exact bk _ _ _ _ H3 s4 t k I4 hC (aj _) ah G.1 G.2.1 hl rv qn;refine aF (T.item K rfl rfl rfl hc i _ s3 _ H3 _ I3 (E (aj _) bb) a5 go) λr s4 ⟨u,hr,h4⟩=>?_;subst hr;refine aF h4 λ_ s5 ⟨x,H5,I5,r5,y5,R,bw⟩=>?_;have bB:=I5.pinned (E (aj _) bw) (T.obj _ _ R);refine aF (hg _ _ _ _ _ s5 _ H5 x u _ bB r5 (step x H5 y5)) λ_ s6 ⟨aw,H6,I6,q6⟩=>?_;refine aF (ht _ _ _ _ _ s6 aw H6 _ I6 q6) λb s7 ⟨H7,I7,q7⟩=>?_;have a2:∀{av:St}{H8:Hp}{U:Shared},Inv K ([(f.heap.objs.size,jO t)]++qV fp s5.heap) av H8 U->tn (i+1) U.heap/\∀b∈fp,H8 b=none:=λ{av H8 U} Q=>by refine⟨T.keep _ _ _ R λb h o e=>(Q.pin (b,o) (dk _ (dk _ (Xg h e)))).1,λb h=>?_⟩;obtain⟨o,e,d⟩:=T.obj _ _ R b h;exact(Q.pin (b,o) (dk _ (dk _ (Xg h e)))).2.1
  cases b with| false=>
    rw[if_neg c7]at q7;obtain⟨m',hm,w7⟩:=hN _ _ q7;rw[if_neg c7];obtain⟨t7,n7⟩:=a2 I7;exact⟨m',hm,i+1,H7,t,k,Co B S f2 I7.unpinned,t7,n7,rv,w7⟩| true=>
    rw[if_pos rfl]at q7;rw[if_pos rfl];refine cz (he _ _ _ _ _ s7 aw H7 _ (I7.wish _) q7) (λy U h8=>?_) λ_ _ z=>z;obtain⟨z,H8,Q,r8,bh⟩:=h8;have Q:=Q.unwish;obtain⟨m',hm,w8⟩:=hN _ _ bh;obtain⟨t8,n8⟩:=a2 Q;have p8:=Q.pin (f.heap.objs.size,jO t) (dk _ (fb _ bo));have bC:t.length<=sizeLine:=by rw[<-rv.length];exact hl
    refine append_at p8.1 λh9 a8 bl=>?_;have ba:=bl.trans (congrArg some (LM t y));refine⟨m',hm,i+1,H8,t++[y],k++[z],?_,T.keep _ _ _ t8 λb h o e=>(a8.2 b (λq=>?_)).trans e,n8,yu.append rv (.cons r8 .nil),w8⟩;have J0:Inv K [] (cB own.length cap σ) H8 U:=(Co B S f2 Q).pins_of λp L=>by cases L
    have J1:Inv K [] (cB own.length cap σ) H8 {U with heap:=h9,toks:=U.toks}:=J0.turned (λb o h e=>(a8.2 b h).trans e) p8.2.1 p8.2.2.1 (.inr (aj _)) (λx c e q=>by
     obtain⟨v,hv⟩:=B.cell x c (S.look B.ok e);exact absurd (ca hv.lt (by rw[q];exact aj _)) (dc _)) (λp L=>by
     have:p∈[]:=by simpa[K,ja]using L
     cases this)
    exact J1.pins_of λp L=>by
     have e:p=(f.heap.objs.size,jO (t++[y])):=by simpa using L
     subst e;exact⟨ba,p8.2.1,p8.2.2.1,p8.2.2.2.1,λv z=>by cases z⟩
    exact absurd (Z b h) (by rw[q];exact dc _)
 exact codeAny_compStart_list (M _ rfl) (T.self _ 0 _ _ _ a7 (M _ rfl))
theorem kf(E:X.calm=true)(S:aW X own cap scope)(A:PI X tg cD wi)(B:∀C fp s₂ H₂,PG (ja X own cap scope C fp s₂ H₂) tg g) (y:∀C fp s₂ H₂,qD (ja X own cap scope C fp s₂ H₂) gg tc) (he:∀C fp s₂ H₂,PE (ja X own cap scope C fp s₂ H₂) gr te)
  (hs:∀x,foldedSetIterable cD X.env x=pure x:=by intro _;rfl):PE X (.ListComp gr [⟨tg,cD,gg,0⟩] scope aE) (Da wi g tc te own.length cap):=by intro b s r H Q I h;rw[eval_ListComp];refine wpAny_comprehension_free rfl hs (Wo (S.has I.ok)) S.kind S.names (aF (A b s r H _ I h) λv U L=>aF L λw R K=>?_);obtain⟨it,fp,P,J,H2,e,o,T,c,l,W,⟨m0,t⟩,a⟩:=K;subst e;refine Bv (Zw:=λ_ _ _ _ _ _ _ _ _ _=>False) E S B y he o T c l t a (λ_ _ _ _ h=>h.elim) λD C bU p H' Z N M n G F i j k z u q=>?_;obtain⟨m,f,_⟩:=id n.loc;exact⟨m,f,λh' d=>⟨.ref D,_,Bn o l n d G F i j k z u,rfl,q D k⟩⟩
def DU(i:Nat)(F:TE):TS:=λD σ H=>F σ H λx H1=>D.nx (σ.set i (some x)) H1
theorem ut{y:Str}{Q d:Pos}(hc:X.calm=true)(S:aW X own cap scope)(hi:PI X tg cD wi)(hg:∀C fp s₂ H₂,PG (ja X own cap scope C fp s₂ H₂) tg g) (ht:∀C fp s₂ H₂,qD (ja X own cap scope C fp s₂ H₂) gg tc) (he:∀C fp s₂ H₂,PE (ja X own cap scope C fp s₂ H₂) gr te)
  (hN:X.N.Nodup) (hy:X.N[i]?=some y) (U:X.env.scope.names.lookup y=some .local)
  (w:swapsWith (.ListComp gr [⟨tg,cD,gg,0⟩] scope aE) (some (.Name y Q)) d.line X.env=pure true)
  (hs:∀x,foldedSetIterable cD X.env x=pure x:=by intro _;rfl):PS X (.Assign [.Name y Q] (.ListComp gr [⟨tg,cD,gg,0⟩] scope aE) d) (DU i (Da wi g tc te own.length cap)):=by
 intro l s P H D I h;rw[exec_Assign_Name_used _ _ _ _ w];refine aa (wpAny_standAt (aa ?_));refine aa (cz (wpAny_comprehension_free rfl hs (Wo (S.has I.ok)) S.kind S.names (aF (hi l s P H _ I h) λv s1 h1=>aF h1 λah s2 h2=>?_)) (λ_ s' hq=>ae (ae hq)) λ_ _ e=>e)
 obtain⟨it,fp,tn,J,H2,e,f,T,r,Z,W,⟨m0,w0⟩,k⟩:=h2;subst e;refine Bv (Zw:=λ_ _ _ _ _ _ _ _ _ _=>False) hc S hg ht he f T r Z w0 k (λ_ _ _ _ h=>h.elim) λL C bU af H' s' us ys N j hD n K R E rv q=>?_;obtain⟨m,B,_⟩:=id N.loc;have I3:=Bn f Z N ⟨rfl,λ_ _=>rfl⟩ j hD n K R E rv;refine wpAny_assign_Name (CA I3 hN hy (.inl U) (v:=.ref L) rfl (λs5 I5 F=>?_) (.inr U));have M:(upd H' L (.lst ys)) C=none:=by rw[upd_ne (au n)];exact N.free
 have t:∀a,(a=X.env.locals\/X.env.cells.lookup y=some a)->C≠a:=λa G z=>by rcases G with e|e;exact absurd (ca f.lt (by rw[<-e,<-z];exact j)) (dc _);obtain⟨v,u⟩:=f.cell y a e;exact absurd (ca u.lt (by rw[<-z];exact j)) (dc _)
 obtain⟨a,sb,G⟩:=F;refine⟨m,B.sameBut sb (t a G),λh6 A=>?_⟩;refine⟨P.set i (some (.ref L)),_,?_,q L R⟩;refine I5.turned (λb o hb e=>(A.2 b hb).trans e) M ?_ (.inr (cr f.sz j)) (λx c e z=>?_) λp hp z=>?_;exact λz=>absurd (ca f.lt (by rw[<-z];exact j)) (dc _);obtain⟨v,u⟩:=f.cell x c e;exact absurd (ca u.lt (by rw[z];exact j)) (dc _);exact absurd (ca (ax (f.pin p hp).1) (by rw[z];exact j)) (dc _)
end
section
inductive oq(K:W.Frag)(xs:List V)(H:Hp)(Q:VK):Prop|mk:∀x n t b,xs=[x,.ty n]->cX K H x t->W.kitOne K t (.type n)=some b->Q (.bl b) H->oq K xs H Q
theorem Ii:Zg X (.builtin "isinstance") (oq X.K):=by intro a s i H j k Q I r h;obtain⟨x,n,t,b,rfl,c,e,q⟩:=h;obtain⟨u,l,rfl,g,f⟩:=qM r;cases(f);exact LG I g c e λd=>⟨.bl b,H,I.tok d,J,q⟩
theorem Ct:bZ X (compareOp .LtE) (λx y H Q=>∃i j,x=.str i/\y=.str j/\Q (.bl (!decide (j.cps.toList<i.cps.toList))) H):=by intro a s d H x y v u Q I c b h;obtain⟨i,j,rfl,rfl,q⟩:=h;obtain⟨t,rfl⟩:=c;obtain⟨e,rfl⟩:=b;exact P.le_str (xy I q J)
theorem Hk(g:X.A.units<cLine):bZ X (compareOp .NotEq) (λx y H Q=>∃a b xs,x=.ref a/\y=.ref b/\aM X.K H a xs/\aM X.K H b []/\Q (.bl (!xs.isEmpty)) H):=by intro d s p H x y v u Q I k j h;obtain⟨a,b,xs,rfl,rfl,o,n,q⟩:=h;cases k;cases j;obtain⟨D,c,f,w⟩:=I.list o;obtain⟨C,l,e,t⟩:=I.list n;cases l;cases xs with| nil=>cases c;exact SeqAt.RcNeAt.lists (e:=λ_=>true) f.isList e.isList J g (λi m=>absurd m (fe i)) X.prog X.w _ _ ⟨.bl false,H,I,J,q⟩| cons z r=>cases c with| cons B A=>exact SeqAt.RcNeAt.lists_lengths f.isList e.isList (by simp) g X.prog X.w _ _ ⟨.bl true,H,I,J,q⟩
theorem Zf(A:X.calm=true):Zg X (.builtin "all") (λxs H Q=>∃(a:Addr)(bs:List Bool),xs=[.ref a]/\aM X.K H a (bs.map V.bl)/\Q (.bl (bs.all id)) H):=by
 intro m s D H xs E Q I r h;obtain⟨a,bs,rfl,n,q⟩:=h;obtain⟨u,rfl,t⟩:=Z7 r;cases t;obtain⟨c,j,p,K⟩:=I.list n;have k:a<s.heap.objs.size:=by obtain⟨_,e,_⟩:=p.isList;exact ax e
 have l:=j.length;rw[ag]at l;refine call_all_walk (wpAny_pyIter_list p.isList ?_);refine⟨s.heap.objs.size,_,_,_,_,_,λi=>(bs[i]?).getD false,J,Walks.list (A:=X.A.in1) (I.ok.hd A) s.heap.objs.size a (bj k) c.toArray,⟨⟨_,bx _ J,J,J⟩,p.isList.push _⟩,?_,λL F hk=>?_⟩;intro i v G M N g f;have g:c[i]?=some v:=by simpa using g
 cases e:bs[i]? with| none=>have:=List.getElem?_eq_none_iff.mp e;have C:c[i]?=none:=List.getElem?_eq_none_iff.mpr (by omega);rw[C]at g;cases g| some b=>obtain⟨u,y,w⟩:=j.get (by rw[bi,e];rfl);rw[y]at g;cases g;cases(w);dsimp only at f;rw[e]at f;exact ae f
 have e:((List.range c.toArray.size).all λi=>(bs[i]?).getD false)=bs.all id:=by rw[cx,<-l];clear q n j l;rw[Bool.eq_iff_iff,dy,dy];constructor;intro h x hx;obtain⟨i,d,rfl⟩:=List.mem_iff_getElem.mp hx;have:=h i (du.mpr d);simpa[d]using this;intro h i d;have d:=du.mp d;have:=h (bs[i]) (List.getElem_mem d);simpa[d]using this
 rw[e];refine⟨.bl (bs.all id),H,I.kept λb o e=>hk b o (λB=>?_) (be _ e),J,q⟩;have z:b=s.heap.objs.size:=by simpa using B
 exact absurd (ax e) (by rw[z];exact dc _)
theorem Cm(Z:X.calm=true):Zg X (.builtin "sum") (λxs H Q=>∃(a:Y)(ns:O Int),xs=[.ref a]/\aM X.K H a (ns.map V.int)/\(∀n∈ns,0<=n)/\ns.sum<2^63/\Q (.int ns.sum) H):=by
 intro E s σ H xs us Q I r h;obtain⟨a,ns,rfl,U,C,h1,q⟩:=h;obtain⟨u,rfl,P⟩:=Z7 r;cases P;obtain⟨c,D,p,hz⟩:=I.list U;have f:a<s.heap.objs.size:=by obtain⟨_,e,_⟩:=p.isList;exact ax e
 have G:=D.length;rw[ag]at G;have w:∀k,k<=ns.length->preSum (λi=>(ns[i]?).getD 0) k=(ns.take k).sum:=by intro k;induction k with|zero=>intro _;rfl| succ k x=>intro hk;have this:ns[k]?=some ns[k]:=br (by omega);rw[preSum,x (by omega),de,this,List.sum_append];simp
 have F:∀(l:O Int),(∀n∈l,0<=n)->0<=l.sum:=by intro l;induction l with|nil=>intro _;exact Int.le_refl _| cons a r x=>intro h;have h1:=h a bo;have h2:=x λn d=>h n (bn _ d);rw[List.sum_cons];omega
 have M:∀k,(ns.take k).sum<=ns.sum:=by
  intro k;have e:ns.sum=(ns.take k).sum+(ns.drop k).sum:=by rw[<-List.sum_append,List.take_append_drop]
  have:=F (ns.drop k) λn d=>C n (List.mem_of_mem_drop d);omega
 refine call_sum_walk (wpAny_pyIter_list p.isList ?_);refine⟨s.heap.objs.size,_,_,_,_,_,λi=>(ns[i]?).getD 0,J,Walks.list (A:=X.A.in1) (I.ok.hd Z) s.heap.objs.size a (bj f) c.toArray,⟨⟨_,bx _ J,J,J⟩,p.isList.push _⟩,?_,?_,?_,λh' L N hk=>?_⟩;intro b B;rw[ee];rcases ak.mp B with z|z;rw[z];exact ez _;have z:b=a:=by simpa using z
 rw[z];exact Nat.lt_succ_of_lt f;intro i v m;have m:c[i]?=some v:=by simpa using m
 have K:i<ns.length:=by have:=(ci.mp m).1;omega
 obtain⟨u,S,R⟩:=D.get (by rw[bi,br K];rfl);rw[S]at m;cases m;obtain⟨t,rfl⟩:=(R)
 exact⟨t,by dsimp only;rw[br K];rfl⟩;intro j g;rw[cx]at g;have g:j<ns.length:=by omega
 have W:=List.getElem_mem g;have A:=w (j+1) (by omega);have y:=w j (by omega);have h3:=M (j+1);have h5:=F (ns.take j) λn d=>C n (List.mem_of_mem_take d);have h6:=C _ W;rw[preSum,y,br g]at A;have A:(ns.take j).sum+ns[j]=(ns.take (j+1)).sum:=A;refine⟨?_,?_⟩;dsimp only;rw[br g];unfold InLong;omega;rw[w (j+1) (by omega)];unfold InLong;omega;have e:preSum (λi=>(ns[i]?).getD 0) c.toArray.size=ns.sum:=by rw[cx,<-G,w _ (aj _),dg]
 rw[e];refine⟨.int ns.sum,H,I.kept λb o e=>hk b o (λB=>?_) (be _ e),⟨N,J⟩,q⟩;have z:b=s.heap.objs.size:=by simpa using B
 exact absurd (ax e) (by rw[z];exact dc _)
end
section
theorem Ml{t:Y}{v:I}(a:s.heap.IsTupleIter it t i)(e:s.heap.IsTuple t its)(d:its[i]?=some v)(k:∀g,g.IsTupleIter it t (i+1)->Heap.SameBut it s.heap g->Q v {s with heap:=g}):wpAny (model prog w) A (Builtin.SmallTypes.nextOf (.ref it)) Q E s:=by obtain⟨o,c,h,b⟩:=id a;obtain⟨l,f,_,m,j⟩:=e;unfold Builtin.SmallTypes.nextOf;refine aa (wpAny_callSpecial?_slot a.typeIs PySem.F.slot_tuple_iterator_next (cy PySem.F.slot_tuple_iterator_next a.typeIs PySem.F.entry_tuple_iterator_next ?_ (PySem.F.args_tuple_iterator_next_1 _)));show wpAny _ _ (field (.ref it) 0>>=_) _ _ s;refine aa (wpAny_field c b J ?_);rw[if_neg (λz=>by grind)];refine aa (wpAny_field c b J ?_);refine aa (wpAny_seqItems f j ?_);simp only[cj,d];refine aa (wpAny_setField c b (by simp) (ae ⟨v,J,ae (k _ ⟨_,Heap.get?_update_self _ c (Obj.isFreed_of_fields (Obj.data_mapFields b _)),(Obj.cls_mapFields ..).trans h,?_⟩ (Heap.SameBut.update ..))⟩));rw[Obj.data_mapFields b];rfl
theorem NH{t:Y}(d:A.handled=none)(a:s.heap.IsTupleIter it t i)(f:s.heap.IsTuple t its)(e:its[i]?=none)(k:∀g x,Heap.ExtBut it s.heap g->(∃o,g.get? x=some o/\o.cls=.type "StopIteration")->E (.ref x) {s with heap:=g}):wpAny (model prog w) A (Builtin.SmallTypes.nextOf (.ref it)) Q E s:=by
 obtain⟨o,c,n,b⟩:=id a;obtain⟨l,h,_,m,j⟩:=f;unfold Builtin.SmallTypes.nextOf;refine aa (wpAny_callSpecial?_slot a.typeIs PySem.F.slot_tuple_iterator_next (cy PySem.F.slot_tuple_iterator_next a.typeIs PySem.F.entry_tuple_iterator_next ?_ (PySem.F.args_tuple_iterator_next_1 _)));show wpAny _ _ (field (.ref it) 0>>=_) _ _ s;refine aa (wpAny_field c b J ?_);rw[if_neg (λz=>by grind)];refine aa (wpAny_field c b J ?_);refine aa (wpAny_seqItems h j ?_);simp only[cj,e];refine aa (wpAny_rule (aa (wpAny_setField c b (by simp) ?_)));refine aa ?_;simp only[newExc,newTuple];refine aa (df ?_ (by size_fits));refine aa (wpAny_of_eq (by rfl) ?_);refine df ?_ (by size_fits);simp only[raiseNew];refine aa (wpAny_handled ?_);first|rw[(d)]|rw[d]
 exact aa (ae (wpAny_throw (k _ _ (((Heap.SameBut.update ..).extBut.push _).push _) ⟨_,bx _ J,J⟩)))
theorem Md{e t:Y}{v:I}{Q:Option I->Shared->Prop}(he:IsEnum s.heap e it i bV)(W:s.heap.IsTupleIter it t i)(ht:s.heap.IsTuple t its)(Z:its[i]?=some v)(m:e≠it)(k:∀g,IsEnumOut g e it ((i:Int)+1) v s.heap.objs.size->g.IsTupleIter it t (i+1)->g.get? s.heap.objs.size=some {cls:=.type "tuple",data:=.seq #[.int i s.toks,v]}->g.objs.size=s.heap.objs.size+1-> (∀b o,b≠e->b≠it->s.heap.get? b=some o->g.get? b=some o)->Q (some (.ref s.heap.objs.size)) {s with heap:=g,toks:=s.toks+1}):wpAny (model prog w) A (pyNext (.ref e)) Q E s:=by
 have hT:s.TypeIs (.ref e) "enumerate":=⟨_,he,J⟩
 unfold pyNext;refine aa (wpAny_attempt (wpAny_callSpecial?_slot hT PySem.F.slot_enumerate_next (cy PySem.F.slot_enumerate_next hT PySem.F.entry_enumerate_next ?_ (PySem.F.args_enumerate_next_1 _))));obtain⟨M,gs,d,L,os⟩:=s;show wpAny _ _ (field (.ref e) 2>>=_) _ _ _;refine aa (wpAny_field he J J ?_);refine aa (Ml W ht Z λg1 z l=>?_);replace l:=l;have y:=(l.2 e m).trans he;refine aa (wpAny_field y J J ?_);refine aa (wpAny_field y J J ?_);refine aa (wpAny_mkInt ?_);refine aa (wpAny_setField_rec y (by simp) λg2 x j=>?_);replace j:=j;replace x:=x;refine aa (wpAny_setField_rec x (by simp) λN u h=>?_);replace h:=h;replace u:=u;refine aa (wpAny_newTuple ?_);have q:IsEnum (N.push {cls:=.type "tuple",data:=.seq #[.int i L,v]}) e it (i+1) bV:=be _ u;generalize n:N.push {cls:=.type "tuple",data:=.seq #[.int i L,v]}=K at q;have p:N.objs.size=M.objs.size:=by rw[h.1,j.1,l.1]
 have C:=ax he;have S:K.get? M.objs.size=some {cls:=.type "tuple",data:=.seq #[.int i L,v]}:=by rw[<-n,<-p];exact bx _ J
 have R:K.objs.size=M.objs.size+1:=by rw[<-n,ee,p]
 have U:∀b o,b≠e->b≠it->M.get? b=some o->K.get? b=some o:=λb o B P X=>by rw[<-n];exact be _ (h.extBut b o B (j.extBut b o B (l.extBut b o P X)))
 have H:K.IsTupleIter it t (i+1):=by rw[<-n];obtain⟨o,ho,r⟩:=(z.extBut j.extBut (au m)).extBut h.extBut (au m);exact⟨o,be _ ho,r⟩
 show wpAny _ _ (Builtin.SmallTypes.ownedTupleIsFree (.ref e)>>=_) _ _ ⟨K,gs,d,L+1,os⟩;rw[p];clear n u h x j y l z p N g2 g1;refine aa ?_;unfold Builtin.SmallTypes.ownedTupleIsFree;refine aa (wpAny_field q J J (ae ?_));simp only[if_true];refine aa (wpAny_rule (aa (wpAny_field q J J (aa (wpAny_setField_rec q (by simp) λg5 G f=>?_)))));replace f:=f;replace G:=G;refine aa ?_;unfold Builtin.SmallTypes.ownedTupleHandOut;refine aa (wpAny_setField_rec G (by simp) λg6 F c=>?_);replace c:=c;replace F:=F;refine wpAny_setField_rec F (by simp) λg7 D a=>?_;replace a:=a;replace D:=D;refine aa (wpAny_letGo (ae ⟨_,J,ae (k g7 D ?_ ?_ ?_ ?_)⟩));exact((H.extBut f.extBut (au m)).extBut c.extBut (au m)).extBut a.extBut (au m);exact a.extBut _ _ (dm C) (c.extBut _ _ (dm C) (f.extBut _ _ (dm C) S));rw[a.1,c.1,f.1,R];exact λb o B P X=>a.extBut b o B (c.extBut b o B (f.extBut b o B (U b o B P X)))
theorem KS{e t:Y}{Q:Option I->Shared->Prop}(f:A.handled=none)(he:IsEnum s.heap e it i bV)(a:s.heap.IsTupleIter it t i)(c:s.heap.IsTuple t its)(b:its[i]?=none)(k:∀g,Heap.ExtBut it s.heap g->Q none {s with heap:=g}):wpAny (model prog w) A (pyNext (.ref e)) Q E s:=by
 have hT:s.TypeIs (.ref e) "enumerate":=⟨_,he,J⟩
 unfold pyNext;refine aa (wpAny_attempt (wpAny_callSpecial?_slot hT PySem.F.slot_enumerate_next (cy PySem.F.slot_enumerate_next hT PySem.F.entry_enumerate_next ?_ (PySem.F.args_enumerate_next_1 _))));show wpAny _ _ (field (.ref e) 2>>=_) _ _ _;refine aa (wpAny_field he J J ?_);refine aa (NH f a c b λg x hx ⟨o,d,h⟩=>?_);exact aa (dz ⟨o,d,h⟩ isSubtype_stop (ae (k _ hx)))
theorem IN(t:Y)(a:Array I)(n:Nat)(f:Option Y)(l:Array (Option I)):
  Meets (Builtin.«enumerate.__new__» ⟨[.type "enumerate",.ref t],[]⟩) (λ_ R s=>s.heap.get? t=some {cls:=.type "tuple",dict:=f,data:=.seq a n,slots:=l}/\ R (.ok (.ret (.ref (s.heap.push {cls:=.type "tuple_iterator",data:=.fields #[.ref t,.int 0 0]}).objs.size)))
     {s with heap:=(s.heap.push {cls:=.type "tuple_iterator",data:=.fields #[.ref t,.int 0 0]}).push {cls:=.type "enumerate",data:=.fields #[.none,.bool false,.ref s.heap.objs.size,rawInt 0,.none,.none]}}):=
 .of_wp λi w A R s h=>by
  obtain⟨m,g,d,k,os⟩:=s;obtain⟨b,h⟩:=h;have j:=sub_enumerate;have e:Heap.IsTuple (Shared.heap ⟨m,g,d,k,os⟩) t a:=⟨_,b,J,n,J⟩
  wp_walk using AutoSeq1.wpAny_loadPart' b
  refine wpAny_stack_any λst=>ae ?_;split
  rename_i c _ _ _ _ _
  cases(c==Value.type "enumerate")
  wp_walk using AutoSeq1.wpAny_loadPart' b,wpAny_pyIter_tuple e
  exact⟨_,J,h⟩
  wp_walk using AutoSeq1.wpAny_loadPart' b,wpAny_pyIter_tuple e
  exact⟨_,J,h⟩
  wp_walk using AutoSeq1.wpAny_loadPart' b,wpAny_pyIter_tuple e
  exact⟨_,J,h⟩
theorem L4{t:Y}(m:s.heap.IsTuple t its)(k:∀g,IsEnum g (s.heap.objs.size+1) s.heap.objs.size 0 .none->g.IsTupleIter s.heap.objs.size t 0->g.objs.size=s.heap.objs.size+2->(∀b o,s.heap.get? b=some o->g.get? b=some o)->Q (.ref (s.heap.objs.size+1)) {s with heap:=g}):
  wpAny (model prog w) A (call (.type "enumerate") [.ref t]) Q E s:=by
 obtain⟨⟨c,h,r,l⟩,p,f,n,d⟩:=m;replace f:=f;replace d:=d;subst f d;refine callType_new PySem.F.called_enumerate (by rfl) (PySem.F.typeCall_enumerate_1 _) (PySem.F.newCall_enumerate_1 _) (λa=>PySem.F.args_object_init_2 a _) PySem.F.entry_enumerate_new (IN t its n h l) ⟨p,?_⟩;have i:(s.heap.push {cls:=.type "tuple_iterator",data:=.fields #[.ref t,.int 0 0]}).objs.size=s.heap.objs.size+1:=ee ..;rw[i];have j:IsEnum ((s.heap.push {cls:=.type "tuple_iterator",data:=.fields #[.ref t,.int 0 0]}).push {cls:=.type "enumerate",data:=.fields #[.none,.bool false,.ref s.heap.objs.size,rawInt 0,.none,.none]}) (s.heap.objs.size+1) s.heap.objs.size 0 .none:=by
  have q:=bx (s.heap.push {cls:=.type "tuple_iterator",data:=.fields #[.ref t,.int 0 0]}) (o:={cls:=.type "enumerate",data:=.fields #[.none,.bool false,.ref s.heap.objs.size,rawInt 0,.none,.none]}) J
  grind
 refine⟨⟨_,j,J⟩,k _ j ⟨_,be _ (bx _ J),J,J⟩ (by rw[ee,i]) λb o e=>be _ (be _ e)⟩
end
noncomputable def tY(K:W.Frag)(a:Addr):It:=⟨λi H=>∃xs x,aG K H a xs/\xs[i]?=some x,λi H x H'=>∃p y,x=.ref p/\H p=none/\H'=upd H p (.tup [.int i,y])/\∀xs,aG K H a xs->xs[i]?=some y,λi H=>∃xs,aG K H a xs/\xs.length<=i⟩
theorem LN{K:W.Frag}{k1}(a e f:Y)(L:e≠f)(l:sizeLine≥2):dF P w K (.Tuple eV k1 aE) (tY K a) [e,f] e (λi h=>(∃bV,IsEnum h e f i bV)/\h.IsTupleIter f a i) where
 mem:=by simp
 obj:=λi h st b l=>by
  obtain⟨⟨bV,A⟩,D⟩:=st;rcases ak.mp l with z|z
  simp_all
  have z:b=f:=by simp_all
  rw[z];obtain⟨o,F,c,d⟩:=D
  simp_all
 keep:=λi h h' st k=>by obtain⟨⟨bV,A⟩,o,F,r⟩:=st;exact⟨⟨bV,k e (by simp) _ A⟩,o,k f (by simp) o F,r⟩
 item:=by
  intro X hP hw hK hc i B s σ H E I Q st hg;subst hP hw hK;obtain⟨xs,x,G,hx⟩:=hg;obtain⟨Z,S,p,hz⟩:=I.tuple G;obtain⟨u,hu,ru⟩:=S.get hx;obtain⟨⟨bV,A⟩,D⟩:=st;obtain⟨f0,f1,f2,f3,f4,f5⟩:=Q e (by simp);obtain⟨g0,g1,g2,g3,g4,g5⟩:=Q f (by simp);refine Md A D (p) (by simpa using hu) L λg ho ah hT ay hk=>?_;refine⟨.ref s.heap.objs.size,J,wpAny_letOwnedTupleGo_enum ho λg' aS C=>?_⟩;have M:=dm (ax A);have ap:s.heap.objs.size≠f:=by obtain⟨o,F,_⟩:=D;exact dm (ax F)
  have y:=λb o N U z=>(C.2 b N).trans (hk b o N U z);have av:=(C.2 _ M).trans hT;have j:=I.hok.fresh (aj _);have aw:∀b o,H b=some o->b≠e/\b≠f:=λb o z=>⟨(λq=>by simp_all),(λq=>by simp_all)⟩
  have I1:Inv X B σ (upd H s.heap.objs.size (.tup [.int i,x])) {s with heap:=g',toks:=s.toks+1}:=by
   refine I.step (ch:=[e,f]) (λb l=>?_) (λb o N U t z _=>y b o (λq=>t (by grind)) (λq=>t (by grind)) z)
    (λb o N U t z _=>⟨o.slots,y b o (λq=>t (by grind)) (λq=>t (by grind)) z⟩) (λb o t z n=>?_) (λb o t z=>⟨o,y b o (λq=>t (by grind)) (λq=>t (by grind)) z⟩)
    (λb R z=>by rw[upd_ne (zn z j)];exact z) (λb o R z=>by rw[upd_ne (zn z j)];exact z) (λb ps z=>⟨#[],by rw[upd_ne (zn z j),z];simp⟩) (λm hm=>?_) (λb ob z=>?_) I.bare
   grind
   rw[upd_ne (bj (ax z))];exact n;obtain⟨o,es,ep,af,r⟩:=hm;exact⟨o,es,ep,y _ o (au f1) (au g1) af,r⟩;by_cases l:b=s.heap.objs.size;subst l;rw[zf]at z;cases z;exact⟨by omega,[.int i s.toks,u],.cons ⟨_,J⟩ (.cons ru .nil),⟨_,av,J,_,J⟩,λq G=>by simp_all⟩
   rw[upd_ne l]at z;refine(I.hok b ob z).stay (λc v hc q=>?_) (λc q=>by rw[upd_ne (zn q j)];exact q) λc R q=>by rw[upd_ne (zn q j)];exact q
   grind
  refine⟨.ref s.heap.objs.size,_,I1,J,⟨_,x,J,j,J,λR hy=>by rw[I.tuple_inj hy G];omega⟩,⟨⟨u,by grind⟩,?_⟩,λb l=>?_⟩;obtain⟨o,F,r⟩:=ah;exact⟨o,(C.2 f (au L)).trans F,r⟩;rcases ak.mp l with q|q;rw[q,upd_ne (au M)];omega;have q:b=f:=by simp_all
  rw[q,upd_ne (au ap)];omega
 done:=by intro X hP hw hK hc i B s σ H E I Q st hg;subst hP hw hK;obtain⟨xs,G,hx⟩:=hg;obtain⟨Z,S,p,hz⟩:=I.tuple G;obtain⟨⟨bV,A⟩,D⟩:=st;obtain⟨g0,g1,g2,g3,g4,g5⟩:=Q f (by simp);have hl:=S.length;exact KS (I.ok.hd hc) A D (p) (by simp_all) λg eb=>⟨J,I.turned (λb o l z=>eb b o l z) g0 g1 g3 g4 g5⟩
 self:=λ_ _ _ _ _ st h=>by obtain⟨⟨bV,A⟩,_⟩:=st;exact wpAny_pyIter_enum A h
section
inductive jF(K:W.Frag)(R:It->Hp->Prop)(vs:List V)(H1:Hp):Prop|mk:∀a xs,vs=[.ref a]->aG K H1 a xs->R (tY K a) H1->jF K R vs H1
def EL(K:W.Frag)(ta:TA):TI:=λσ H R=>ta σ H λvs H1=>jF K R vs H1
theorem Kt{k1}{C:Pos}{a:Expr}{p:Pos}(y:Gl X "enumerate")(w:X.mg "enumerate"=none)(B:PA X [a] ta)(hs:starEach [a] X.env=[(false,eval a X.env)]:=by rfl):PI X (.Tuple eV k1 C) (.Call (.Name "enumerate" p) [a] [] aE) (EL X.K ta):=by
 intro f s j H R I h;refine Call_ (Wf I y w boot_enumerate (PyProof.Rows.callWith_type1 (aF (B aE f s j H _ I h) λG c ⟨F,D,d,l,m⟩=>?_) hs J));obtain⟨t,E,e,v,q⟩:=m;subst e;obtain⟨u,rfl,k⟩:=Z7 l;cases k;obtain⟨o,K,n,L⟩:=d.tuple v;refine L4 (n) λg i x r hk=>?_;refine wpAny_pyIter_enum i ?_;refine⟨c.heap.objs.size+1,[c.heap.objs.size+1,c.heap.objs.size],_,_,D,J,d.kept hk,LN t (c.heap.objs.size+1) c.heap.objs.size (Nat.succ_ne_self _) (by rw[sizeLine_eq];omega),⟨⟨_,i⟩,x⟩,λb A=>?_,q⟩;rcases ak.mp A with z|z;rw[z];exact d.fpOk (Nat.le_succ _) (d.hok.fresh (Nat.le_succ _));have z:b=c.heap.objs.size:=by simp_all
 rw[z];exact d.fpOk (aj _) (d.hok.fresh (aj _))
end
theorem xC{K:W.Frag}(Pv:Nat->St->Hp->Prop)(l:Pv 0 σ H)(h:∀i σ H,i<=xs.length->Pv i σ H->aG K H a xs)(hs:∀i x σ H p,xs[i]?=some x->Pv i σ H->H p=none->g (.ref p) σ (upd H p (.tup [.int i,x])) λb H2=>tb (D.lp (Pv (i+1))) b H2) (k:∀σ H,Pv xs.length σ H->D.nx σ H):
  cV g tb D σ (tY K a) H:=by
 refine⟨λi m σ H=>m=xs.length-i/\i<=xs.length/\Pv i σ H,⟨xs.length,by simp,bf _,l⟩,?_⟩;rintro i m σ H ⟨rfl,j,p⟩;have q:=h i σ H j p;by_cases c:i<xs.length;refine .inr ⟨⟨xs,xs[i],q,by simp⟩,Pv (i+1),λf n d=>⟨xs.length-(i+1),by omega,J,c,d⟩,λx n y=>?_⟩;obtain⟨d,o,rfl,s,rfl,r⟩:=y
 grind
 have e:i=xs.length:=by omega
 subst e;exact .inl ⟨⟨xs,q,aj _⟩,k σ H p⟩
noncomputable def yJ(lo:Int)(n:Nat):It:=⟨λi _=>i<n,λi H x H'=>H'=H/\x=.int (lo-i),λi _=>n<=i⟩
theorem LY{K:W.Frag}(c:Y)(lo:Int)(n:Nat):dF P w K tg (yJ lo n) [c] c (λi h=>IsRangeIter h c (lo+(i:Nat)*(-1)) ((n:Int)-(i:Nat)) (-1)) where
 mem:=by simp
 obj:=λi h st b f=>by simp_all
 keep:=λi h r st k=>k c (by simp) _ st
 item:=by
  intro X p j q m i a s B H E I g st l;subst p j q;obtain⟨A,z,G,y,x,u⟩:=g c (by simp);refine(Walks.range (I.ok.hd m) c lo (-1) n).item i s _ _ l st λv r C F d D=>?_;obtain⟨t,rfl⟩:=F;have M:Inv X a B H {s with heap:=r,toks:=C}:=I.turned (λb o f e=>D b o (by simp_all) e) A z y x u;refine⟨_,J,dP d J J (by rfl) ⟨.int (lo-i),H,M,⟨t,?_⟩,⟨J,J⟩,d,λb f=>(g b f).1⟩⟩
  grind
 done:=by intro X p j q m i a s B H E I g st l;subst p j q;obtain⟨A,z,G,y,x,u⟩:=g c (by simp);exact wpAny_pyNext_range_end (I.ok.hd m) st (by have:n<=i:=l;omega) λr L=>⟨J,I.turned (λb o f e=>L b o f e) A z y x u⟩
 self:=λ_ _ _ _ _ st h=>wpAny_pyIter_rangeiter st h
section
inductive jG(R:It->Hp->Prop)(vs:List V)(H1:Hp):Prop|mk:∀n:Nat,vs=[.int ((n:Int)-1),.int (-1),.int (-1)]->(n:Int)<2^62->R (yJ ((n:Int)-1) n) H1->jG R vs H1
def EK(ta:TA):TI:=λσ H R=>ta σ H λvs H1=>jG R vs H1
theorem Hs {a b c:Expr} {p:Pos} (C:Gl X "range") (B:X.mg "range"=none) (E:PA X [a,b,c] ta) (hs:starEach [a,b,c] X.env=[(false,eval a X.env),(false,eval b X.env),(false,eval c X.env)]:=by rfl)
  (g:starEach [b,c] X.env=[(false,eval b X.env),(false,eval c X.env)]:=by rfl):
  PI X tg (.Call (.Name "range" p) [a,b,c] [] aE) (EK ta):=by
 intro d s m H R I h;refine Call_ (Wf I C B boot_range (PyProof.Rows.callWith_type1 (aF (E aE d s m H _ I h) λM j ⟨L,v,K,y,A⟩=>?_) (by rw[hs,g]) (by rw[g];rfl)));obtain⟨n,e,N,q⟩:=A;subst e;cases y with| cons r f=>
   cases f with| cons z f=>
     cases f with| cons k f=>
       cases f;obtain⟨t,rfl⟩:=r;obtain⟨w,rfl⟩:=z;obtain⟨i,rfl⟩:=k;refine call_range_3 (by decide) ?_ (.inl (PyProof.noPylong_small (by omega)));have u:Builtin.Range.rangeSize (n-1) (-1) (-1)=n:=by
        unfold Builtin.Range.rangeSize
        grind
       have x:Builtin.Range.small (n-1) (-1) (-1)=true:=by
        unfold Builtin.Range.small;simp only[u,Builtin.Range.rangeFitsLong,cp,Bool.or_eq_true,decide_eq_true_eq,beq_iff_eq]
        grind
       refine wpAny_pyIter_range (IsRange.new ..) x ?_;rw[u];have l:Inv X d m v {j with heap:=j.heap.push {cls:=.type "range",data:=.fields #[.int (n-1) t,.int (-1) w,.int (-1) i]},toks:=j.toks}:=K.kept λb o e=>be _ e;refine⟨_,[_],_,_,v,J,l.kept λb o e=>be _ e,LY _ (n-1) n,?_,λb D=>?_,q⟩;have G:n-1+((0:Nat):Int)*(-1)=n-1:=by omega
       have F:n-((0:Nat):Int)=n:=by omega
       rw[G,F];exact bx _ J;have e:=ai.mp D;rw[e];exact l.fpOk (aj _) (l.hok.fresh (aj _))
end
theorem IV{n:Nat}(Pv:Nat->St->Hp->Prop)(h:Pv 0 σ H)(hs:∀i σ H,i<n->Pv i σ H->g (.int (lo-i)) σ H λb H2=>tb (D.lp (Pv (i+1))) b H2) (f:∀σ H,Pv n σ H->D.nx σ H):
  cV g tb D σ (yJ lo n) H:=by
 refine⟨λi m σ H=>m=n-i/\i<=n/\Pv i σ H,⟨n,by simp,bf _,h⟩,?_⟩;rintro i m σ H ⟨rfl,k,p⟩;by_cases a:i<n;refine .inr ⟨a,Pv (i+1),λc j d=>⟨n-(i+1),by omega,J,a,d⟩,λx j y=>?_⟩;obtain⟨e,y⟩:=y
 simp_all
 have e:i=n:=by omega
 subst e;exact .inl ⟨aj _,f σ H p⟩
theorem Jt:entryFor table "dict.update.loop"=some Builtin.«dict.update.loop»:=entryFor_of_tree (by kernel_rfl)
theorem Z5:plainId "dict.update.loop"=true:=by decide+kernel
theorem Ld:typeLookup (.type "tuple") "keys"=pure none:=am_miss_of_fast (by decide+kernel)
section
set_option maxRecDepth 8000 in
theorem NF{xs:Array Value}{k:Nat}{u:Tok}(hx:s.heap.get? a=some {cls:=.type "tuple",dict:=none,data:=.seq xs k,slots:=sl})(hA:A.handled=none)
  (h:∀h' tk e,Heap.NewExcOf s.heap h' e "AttributeError"->E (.ref e) {s with heap:=h',toks:=tk}):wpAny (model prog w) A (getAttrBy (.ref a) (.str "keys" u) false) Q E s:=by
 obtain⟨hp,g,d,tk,os⟩:=s;have hT:∀tk',(⟨hp,g,d,tk',os⟩:Shared).TypeIs (.ref a) "tuple":=λ_=>⟨_,hx,rfl⟩
 have f1:=sub_AttributeError;have f3:=PySem.F.slot_tuple_getattribute.lookup;have f4:=PySem.F.slot_tuple_getattribute.bind (.ref a);have f5:=am_tuple_getattr_none;unfold getAttrBy
 repeat(any_goals (first|assumption|exact hT _|((with_reducible show wpAny _ _ (call (Value.builtin "tuple.__getattribute__") _ _) _ _ _);refine call_meets PySem.F.slot_tuple_getattribute (hT _) am_entry_tuple_getattribute (PySem.F.args_tuple_getattribute_2 _ _) (meets_getattribute_miss_tuple a xs k sl "keys" _ Ld (by decide+kernel) (by size_fits)) ⟨hx,hA,λh' tk' e hx'=>?_⟩)|wp_step))
 obtain⟨t',u',he⟩:=hx'.there;show wpAny _ _ (getattributeRaised _ _ _ _ _ _ _) _ _ _;unfold getattributeRaised
 repeat(any_goals (first|assumption|wp_step))
 exact h _ _ _ hx'.of
theorem MN{xs:Array I}{k:Nat}{Q:Option I->Shared->Prop}(hx:s.heap.get? a=some {cls:=.type "tuple",dict:=none,data:=.seq xs k,slots:=sl})(g:A.handled=none)
  (h:∀h' tk,(∀b o,s.heap.get? b=some o->h'.get? b=some o)->Q none {s with heap:=h',toks:=tk}):wpAny (model prog w) A (getAttr? (.ref a) "keys") Q E s:=by unfold getAttr? getAttrBy?;refine aa (wpAny_mkText ?_);refine aa (wpAny_attempt (NF hx g λh' tk e x=>?_));obtain⟨c,r,d,f,_⟩:=x.there;refine aa (dz ⟨_,d,f⟩ sub_AttributeError ?_);exact ae (h _ _ x.keeps)
end
section
inductive iX(xs:List V)(H:Hp)(Q:VK):Prop|mk:∀(a:Addr),xs=[.ref a]->H a=some (.tup [])->(∀p,H p=none->Q (.ref p) (upd H p (.dK [])))->iX xs H Q
theorem L3(D:X.calm=true):Zg X (.type "dict") iX:=by
 intro p s S H U W Q I r h;obtain⟨a,rfl,E,q⟩:=h;obtain⟨u,rfl,x⟩:=Z7 r;cases x;obtain⟨hz,C,y,⟨⟨cc,cd,R,P⟩,w,K,n,G⟩,B⟩:=(I.hok a _ E)
 have F:=B _ w;subst K G F;cases y;have v:=I.ok.hd D;refine callType_codes (Q₁:=λi d=>i=.ref s.heap.objs.size/\d={s with heap:=s.heap.push {cls:=.type "dict",data:=.dict #[]}}) PySem.F.kt_called_dict (PySem.F.kt_typeCall_dict_1 _) PySem.F.entry_dict_init (kt_code_dict_new _ ⟨J,J⟩) ?_;rintro i d ⟨rfl,rfl⟩;have c:(s.heap.push {cls:=.type "dict",data:=.dict #[]}).DictOf (yn X.prog X.w) s.heap.objs.size []:=Heap.DictOf.new s.heap;have f:=be {cls:=.type "dict",data:=.dict #[]} w;refine⟨c.typeIs,PySem.F.args_dict_init_2 _ _,?_⟩;unfold Builtin.«dict.__init__»;refine aa ?_;unfold Builtin.Dict.selfAndRest;refine aa (wpAny_notOrdered_dict c.typeIs (ae ?_));show wpAny _ _ (Builtin.Dict.updateFrom "dict.__init__" s.heap.objs.size (.ref a) [] .none) _ _ _;unfold Builtin.Dict.updateFrom;refine aa (wpAny_typeOf ⟨_,f,J⟩ ?_);rw[if_pos (by decide)];refine aa (MN f v λg Z hk=>?_);simp only[Option.isNone_none,if_true];refine aa (wpAny_rule ?_);have j:g.IsTuple a #[]:=⟨_,hk _ _ f,J,n,J⟩
 refine aa (wpAny_pyIter_tuple j (ae ⟨plainId_quiet Z5 _,codeAny_builtin Jt ?_⟩));obtain⟨o,L,M,t,A⟩:=c;have k:=ax (hk _ _ t);rw[Around.under_plainId Z5 _];refine aa (wpAny_pyNext_tuple_end v ⟨_,bx _ J,J,J⟩ (j.push _) J λh' N=>aa (ae (ae ⟨J,?_⟩)));have m:=λb o l e=>N b o (bj l) (be _ e);have keep:=λb o e=>m b o (Nat.lt_trans (ax e) k) (hk _ _ (be _ e));obtain⟨_,z,_⟩:=wX (P:=X.prog) (w:=X.w) (H:=H) s.heap I.big;exact⟨.ref s.heap.objs.size,_,I.laid keep (aj _) (sR (bf _) z .nil ⟨o,L,M,m _ _ k (hk _ _ t),A⟩),J,q _ (I.hok.fresh (aj _))⟩
end
noncomputable def tW(x:Str):It:=⟨λi _=>i<x.cps.size,λi H v H'=>H'=H/\∃c,x.cps[i]?=some c/\v=.str ⟨#[c]⟩,λi _=>x.cps.size<=i⟩
theorem KA{K:W.Frag}{q:String}(a:Y)(x:Str)(t:Tok)(n:q="str_ascii_iterator"\/q="str_iterator"):dF P w K tg (tW x) [a] a (λi h=>i<=x.cps.size/\h.IsStrIter a q x t i) where
 mem:=by simp
 obj:=λi h st b C=>by
  have e:b=a:=by simp_all
  subst e;obtain⟨_,o,e,c,d⟩:=st
  simp_all
 keep:=λi h g st k=>by obtain⟨z,o,e,r⟩:=st;exact⟨z,o,k a (by simp) o e,r⟩
 item:=by
  intro X Z S hK B i j s R H E I F st p;subst Z S hK;obtain⟨z,st⟩:=st;obtain⟨Q,N,f2,M,L,G⟩:=F a (by simp);have D:∀(g:Heap)(l:Nat)(v:Value),SignAt x i v->g.IsStrIter a q x t (i+1)->(∀b o,b ∉ [a]->s.heap.get? b=some o->g.get? b=some o)->
    ∃u,some v=some u/\wpAny (model X.prog X.w) X.A (letOwnedTupleGo tg (.ref a) u) (λ_ s2=>∃y H',Inv X j R H' s2/\yq y u/\(tW x).yld i H y H'/\(i+1<=x.cps.size/\s2.heap.IsStrIter a q x t (i+1))/\∀b∈[a],H' b=none) E {s with heap:=g,toks:=l}:=by intro g l v A f m;obtain⟨c,u,U,rfl⟩:=A;have I1:Inv X j R H {s with heap:=g,toks:=l}:=I.turned (λb o C e=>m b o (by simp_all) e) Q N M L G;obtain⟨o,e1,e2,e3⟩:=id f;refine⟨_,J,dP e1 e2 e3 (by grind) ⟨.str ⟨#[c]⟩,H,I1,⟨u,J⟩,⟨J,c,U,J⟩,⟨p,f⟩,λb C=>(F b C).1⟩⟩
  rcases n with rfl|rfl;exact(Walks.strAscii (I.ok.hd B) a x t).item i s _ _ p st λv g l A f m=>D g l v A f m;exact(Walks.strWide (I.ok.hd B) a x t).item i s _ _ p st λv g l A f m=>D g l v A f m
 done:=by
  intro X Z S hK B i j s R H E I F st p;subst Z S hK;obtain⟨z,st⟩:=st;have p:x.cps.size<=i:=p;have e:i=x.cps.size:=by omega
  subst e;obtain⟨Q,N,f2,M,L,G⟩:=F a (by simp);rcases n with rfl|rfl;exact(Walks.strAscii (I.ok.hd B) a x t).done s _ _ st λg l m=>⟨J,I.turned (λb o C e=>m b o (by simp_all) e) Q N M L G⟩
  exact(Walks.strWide (I.ok.hd B) a x t).done s _ _ st λg l m=>⟨J,I.turned (λb o C e=>m b o (by simp_all) e) Q N M L G⟩
 self:=λ_ _ _ _ _ st h=>by rcases n with rfl|rfl;exact wpAny_pyIter_striter_ascii st.2 h;exact wpAny_pyIter_striter_wide st.2 h
section
inductive mf(R:It->Hp->Prop)(v:V)(H1:Hp):Prop|mk:∀x,v=.str x->R (tW x) H1->mf R v H1
def Ed(F:TE):TI:=λσ H R=>F σ H λv H1=>mf R v H1
theorem FH{l:Expr}{j:TE}(r:PE X l j):PI X tg l (Ed j):=by
 intro a s i H R I h;refine aF (r a s i H _ I h) λv c ⟨x,u,g,n,p⟩=>?_;obtain⟨y,e,q⟩:=p;subst e;obtain⟨t,rfl⟩:=n;have k:∀d,(d="str_ascii_iterator"\/d="str_iterator")->tS X a i tg R (.ref c.heap.objs.size) {c with heap:=c.heap.push {cls:=.type d,data:=.fields #[.str y t,.int 0 0]}}:=λd f=>by
  refine⟨c.heap.objs.size,[c.heap.objs.size],_,_,u,J,g.kept λb o e=>be _ e,KA _ y t f,⟨bf _,_,bx _ J,J,J⟩,λb w=>?_,q⟩;have e:b=c.heap.objs.size:=by simp_all
  subst e;exact g.fpOk (aj _) (g.hok.fresh (aj _))
 cases m:y.cps.all (· <128);exact wpAny_pyIter_wide m (k _ (.inr J));exact wpAny_pyIter_ascii m (k _ (.inl J))
end
section
variable{K:W.Frag}{k:Nat}{Q:VK}
theorem Wg(Pv:Nat->O V->Hp->Prop)(s:Pv 0 [] H)(n:∀i ys H,i<=xs.length->Pv i ys H->aG K H a xs/\ys.length<=sizeLine)(hs:∀i x ys H,xs[i]?=some x->Pv i ys H->g x (cB k cap σ) H λc H2=>tc c H2 λb h=>if b=true then te c h λy t=>Pv (i+1) (ys++[y]) t else Pv (i+1) ys h)
  (r:∀ys H,Pv xs.length ys H->∀p,H p=none->Q (.ref p) (upd H p (.lst ys))):cM (tV K a) g tc te k cap σ H Q:=by
 refine⟨λi m ys H=>m=xs.length-i/\i<=xs.length/\Pv i ys H,⟨xs.length,by simp,bf _,s⟩,?_⟩;rintro i m ys H ⟨rfl,o,p⟩;obtain⟨q,f⟩:=n i ys H o p;by_cases d:i<xs.length;refine .inr ⟨⟨xs,xs[i],q,by simp⟩,f,Pv (i+1),λj u l=>⟨xs.length-(i+1),by omega,J,d,l⟩,λx u y=>?_⟩;obtain⟨e,y⟩:=y
 grind
 have e:i=xs.length:=by omega
 subst e;exact .inl ⟨⟨xs,q,aj _⟩,f,r ys H p⟩
theorem Yj{n:Nat}(Pv:Nat->O V->Hp->Prop)(r:Pv 0 [] H)(l:∀i ys H,i<=n->Pv i ys H->ys.length<=sizeLine)(hs:∀i ys H,i<n->Pv i ys H->g (.int (lo+i)) (cB k cap σ) H λa H2=>tc a H2 λb f=>if b=true then te a f λy s=>Pv (i+1) (ys++[y]) s else Pv (i+1) ys f)
  (q:∀ys H,Pv n ys H->∀p,H p=none->Q (.ref p) (upd H p (.lst ys))):cM (qB lo n) g tc te k cap σ H Q:=by
 refine⟨λi m ys H=>m=n-i/\i<=n/\Pv i ys H,⟨n,by simp,bf _,r⟩,?_⟩;rintro i m ys H ⟨rfl,o,p⟩;have d:=l i ys H o p;by_cases c:i<n;refine .inr ⟨c,d,Pv (i+1),λh t j=>⟨n-(i+1),by omega,J,c,j⟩,λx t y=>?_⟩;obtain⟨e,y⟩:=y
 simp_all
 have e:i=n:=by omega
 subst e;exact .inl ⟨aj _,d,q ys H p⟩
theorem Fr(Pv:Nat->O V->Hp->Prop)(r:Pv 0 [] H)(n:∀i ys H,i<=x.cps.size->Pv i ys H->ys.length<=sizeLine)(hs:∀i c ys H,x.cps[i]?=some c->Pv i ys H->g (.str ⟨#[c]⟩) (cB k cap σ) H λa H2=>tc a H2 λb h=>if b=true then te a h λy s=>Pv (i+1) (ys++[y]) s else Pv (i+1) ys h)
  (q:∀ys H,Pv x.cps.size ys H->∀p,H p=none->Q (.ref p) (upd H p (.lst ys))):cM (tW x) g tc te k cap σ H Q:=by
 refine⟨λi m ys H=>m=x.cps.size-i/\i<=x.cps.size/\Pv i ys H,⟨x.cps.size,by simp,bf _,r⟩,?_⟩;rintro i m ys H ⟨rfl,o,p⟩;have f:=n i ys H o p;by_cases d:i<x.cps.size;refine .inr ⟨d,f,Pv (i+1),λj t l=>⟨x.cps.size-(i+1),by omega,J,d,l⟩,λv t y=>?_⟩;obtain⟨e,c,u,rfl⟩:=y
 simp_all
 have e:i=x.cps.size:=by omega
 subst e;exact .inl ⟨aj _,f,q ys H p⟩
end
inductive T where|non|bl (b:Bool)|int (i:Int)|str (x:Str)|tup (ts:List T)|lst (ts:List T)|dct
inductive yK(H:Hp)(f:List V->HO)(L:List V->Prop)(v:V):Prop|mk:∀a xs,v=.ref a->H a=some (f xs)->L xs->yK H f L v
inductive DA(A:V->Prop)(L:List V->Prop)(xs:List V):Prop|mk:∀v vs,xs=v::vs->A v->L vs->DA A L xs
mutual
noncomputable def Is(H:Hp):T->V->Prop|.non,v=>v=.non|.bl b,v=>v=.bl b|.int i,v=>v=.int i|.str x,v=>v=.str x|.tup ts,v=>yK H .tup (λxs=>IsL H ts xs) v|.lst ts,v=>yK H .lst (λxs=>IsL H ts xs) v|.dct,v=>∃a,v=.ref a/\H a=some (.dK [])
noncomputable def IsL(H:Hp):List T->List V->Prop|[],xs=>xs=[]|t::ts,xs=>DA (λv=>Is H t v) (λvs=>IsL H ts vs) xs
end
variable{p:Addr}{es:Array DictEntry}{kvs:List (aK×V)}{ts:List T}{o:Obj}{v:V}
def yo(H F:Hp):Prop:=∀b xs,H b=some (.tup xs)->F b=some (.tup xs)
theorem zi.tups(s:zi H H'):yo H H':=λb a e=>s b _ e
theorem yo.refl(H:Hp):yo H H:=λ_ _ e=>e
theorem yo.trans{f:Hp}(a:yo H f)(b:yo f H2):yo H H2:=λc d e=>b c d (a c d e)
theorem zi.new(h:H p=none)(o:HO):zi H (upd H p o):=λb u q=>by rw[upd_ne (zn q h)];exact q
theorem yo.upd{H:Hp}{p:Y}{o a:HO}(h:H p=some o)(c:∀xs,o≠ .tup xs):yo H (upd H p a):=λb xs e=>by rw[upd_ne (Wc e h (λz=>c xs z.symm))];exact e
mutual
theorem Is.mono{H H':Hp}(s:zi H H'):∀{t:T}{v:V},Is H t v->Is H' t v|.non,v,h=>h|.bl b,v,h=>h|.int i,v,h=>h|.str x,v,h=>h| .tup ts,v,h=>by obtain⟨a,xs,e,ha,hl⟩:=h;exact⟨a,xs,e,s a _ ha,IsL.mono s hl⟩| .lst ts,v,h=>by obtain⟨a,xs,e,ha,hl⟩:=h;exact⟨a,xs,e,s a _ ha,IsL.mono s hl⟩| .dct,v,h=>by obtain⟨a,e,ha⟩:=h;exact⟨a,e,s a _ ha⟩
theorem IsL.mono{H H':Hp}(s:zi H H'):∀{ts:List T}{xs:List V},IsL H ts xs->IsL H' ts xs|[],xs,h=>h| t::ts,xs,h=>by obtain⟨v,vs,e,h1,h2⟩:=h;exact⟨v,vs,e,Is.mono s h1,IsL.mono s h2⟩
end
mutual
noncomputable def bY:T->Prop|.tup ts=>qu ts|.lst _=>False|.dct=>False|_=>True
noncomputable def qu:List T->Prop|[]=>True|t::ts=>bY t/\qu ts
end
mutual
theorem Is.tups{H H':Hp}(s:yo H H'):∀{t:T}{v:V},bY t->Is H t v->Is H' t v
 |.non,v,_,h=>h
 |.bl b,v,_,h=>h
 |.int i,v,_,h=>h
 |.str x,v,_,h=>h
 | .tup ts,v,f,h=>by
   obtain⟨a,xs,e,ha,hl⟩:=h;have f:qu ts:=by unfold bY at f;exact f
   exact⟨a,xs,e,s a _ ha,IsL.tups s f hl⟩
 |.lst ts,v,f,h=>by unfold bY at f;exact f.elim
 |.dct,v,f,h=>by unfold bY at f;exact f.elim
theorem IsL.tups{H H':Hp}(s:yo H H'):∀{ts:List T}{xs:List V},qu ts->IsL H ts xs->IsL H' ts xs
 |[],xs,_,h=>h
 | t::ts,xs,f,h=>by
   obtain⟨v,vs,e,h1,h2⟩:=h;have f:bY t/\qu ts:=by unfold qu at f;exact f
   exact⟨v,vs,e,Is.tups s f.1 h1,IsL.tups s f.2 h2⟩
end
theorem qu.all:qu ts↔∀t∈ts,bY t:=by induction ts with|nil=>simp[qu]|cons t ts a=>simp[qu,a]
theorem IsL.length{H:Hp}:∀{a:List T}{xs:List V},IsL H a xs->xs.length=a.length|[],xs,h=>by cases h;rfl| t::a,xs,h=>by obtain⟨v,c,rfl,_,b⟩:=h;simp[IsL.length b]
theorem IsL.get{H:Hp}:∀{a:List T}{xs:List V}{i:Nat}{t:T},IsL H a xs->a[i]?=some t->∃v,xs[i]?=some v/\Is H t v|[],_,_,_,_,e=>by simp at e| t ::a,xs,i,j,h,e=>by obtain⟨v,g,rfl,c,b⟩:=h;cases i with|zero=>simp at e;subst e;exact⟨v,J,c⟩| succ i=>obtain⟨w,f,d⟩:=IsL.get b (by simpa using e);exact⟨w,by simpa using f,d⟩
theorem IsL.get'(h:IsL H ts xs)(e:xs[i]?=some v):∃t,ts[i]?=some t/\Is H t v:=by
 have d:=h.length;have a:i<ts.length:=by have:=(ci.mp e).1;omega
 obtain⟨w,b,c⟩:=h.get (br a);rw[e]at b;cases b;exact⟨_,br a,c⟩
theorem IsL.append{H:Hp}:∀{c b:List T}{xs a:List V},IsL H c xs->IsL H b a->IsL H (c++b) (xs++a)|[],b,xs,a,h,k=>by cases h;exact k| t::c,b,xs,a,h,k=>by obtain⟨v,d,rfl,f,e⟩:=h;exact⟨v,d++a,J,f,IsL.append e k⟩
theorem IsL.drop{H:Hp}:∀{a:List T}{xs:List V}(n:Nat),IsL H a xs->IsL H (a.drop n) (xs.drop n)|a,xs,0,h=>h|[],xs,n+1,h=>by cases h;exact rfl| t::a,xs,n+1,h=>by obtain⟨v,c,rfl,d,b⟩:=h;exact IsL.drop n b
theorem IsL.take{H:Hp}:∀{a:List T}{xs:List V}(n:Nat),IsL H a xs->IsL H (a.take n) (xs.take n)|a,xs,0,h=>rfl|[],xs,n+1,h=>by cases h;exact rfl| t::a,xs,n+1,h=>by obtain⟨v,b,rfl,d,c⟩:=h;exact⟨v,b.take n,J,d,IsL.take n c⟩
theorem IsL.one{t:T}(h:Is H t v):IsL H [t] [v]:=⟨v,[],J,h,J⟩
theorem IsL.two{t u:T}{w:V}(h:Is H t v)(k:Is H u w):IsL H [t,u] [v,w]:=⟨v,[w],J,h,w,[],J,k,J⟩
theorem Is.newTup(a:H p=none)(h:IsL H ts xs):Is (upd H p (.tup xs)) (.tup ts) (.ref p):=⟨p,xs,J,zf,IsL.mono (zi.new a _) h⟩
noncomputable def qX:T->String|.non=>"NoneType"|.bl _=>"bool"|.int _=>"int"|.str _=>"str"|.tup _=>"tuple"|.lst _=>"list"|.dct=>"dict"
theorem Is.ty{K:W.Frag}{t:T}(h:Is H t v):cX K H v (.type (qX t)):=by cases t with|non=>cases(h);exact .non|bl b=>cases(h);exact .bl b|int i=>cases(h);exact .int i|str x=>cases(h);exact .str x|tup e=>obtain⟨a,d,rfl,c,_⟩:=h;exact .tup c|lst e=>obtain⟨a,d,rfl,c,_⟩:=h;exact .lst c|dct=>obtain⟨a,rfl,c⟩:=h;exact .dK c
noncomputable def zC:T->Bool|.int _=>true|.bl _=>true|_=>false
noncomputable def Dr:T->Bool|.bl _=>true|_=>false
noncomputable def El:T->Bool|.tup _=>true|_=>false
noncomputable def Ek:T->Bool|.str _=>true|_=>false
theorem GS(K:W.Frag)(t:T):W.kitOne K (.type (qX t)) (.type "int")=some (zC t):=by cases t<;>kernel_rfl
theorem IF(K:W.Frag)(t:T):W.kitOne K (.type (qX t)) (.type "bool")=some (Dr t):=by cases t<;>kernel_rfl
theorem Cq(K:W.Frag)(t:T):W.kitOne K (.type (qX t)) (.type "tuple")=some (El t):=by cases t<;>kernel_rfl
theorem vL(K:W.Frag)(t:T):W.kitOne K (.type (qX t)) (.type "str")=some (Ek t):=by cases t<;>kernel_rfl
def pM:HO->Prop|.dK _=>True|.dT _=>True|_=>False
section
variable{d:Addr}{u u':HO}
theorem Inv.retag(I:Inv X pins σ H s)(e:H d=some u)(h:∀xs,u≠ .tup xs)(l:∀x,u≠ .own x)(k:∀ps,u≠ .tbl ps)(A:∀o v,X.H₀ d≠some (.frz o v))(ok:qy X.prog X.w (upd H d u') s.heap d u'):Inv X pins σ (upd H d u') s:=by
 have a:∀{b},H b=none->b≠d:=λz q=>by simp_all
 refine⟨I.ok,I.os,I.bare,⟨I.base.keep,I.base.slot,λb f q n hx=>?_,I.base.there,λb xs q=>?_,λb f v q=>?_,λb ps q=>?_⟩,I.loc,I.cell,?_,λx c q=>?_,λp m=>?_,λb f q=>?_,I.len⟩;have z:=I.base.free b f q n hx;rw[upd_ne (a z)];exact z;have z:=I.base.tups b xs q;rw[upd_ne (Wc z e (λw=>h xs w.symm))];exact z;have z:=I.base.frzs b f v q;have j:b≠d:=λw=>by simp_all
 rw[upd_ne j];exact z;obtain⟨g,z⟩:=I.base.tbls b ps q;exact⟨g,by rw[upd_ne (Wc z e (λw=>k _ w.symm))];exact z⟩;rw[upd_ne (a I.free)];exact I.free;rw[upd_ne (a (I.freeC x c q))];exact I.freeC x c q;obtain⟨y,t,r⟩:=I.pin p m;exact⟨y,by rw[upd_ne (a t)];omega,r⟩;by_cases i:b=d;subst i;rw[zf]at q;simp_all;rw[upd_ne i]at q;exact(I.hok b f q).stay (λ_ _ _ z=>z) (λc z=>by rw[upd_ne (Wc z e (λw=>l _ w.symm))];exact z) λc xs z=>by rw[upd_ne (Wc z e (λw=>h _ w.symm))];exact z
theorem pM.no(h:pM u):(∀xs,u≠ .tup xs)/\(∀x,u≠ .own x)/\(∀ps,u≠ .tbl ps)/\∀o v,u≠ .frz o v:=by cases u<;>first|exact h.elim|exact⟨(λ_ z=>by cases z),(λ_ z=>by cases z),(λ_ z=>by cases z),λ_ _ z=>by cases z⟩
theorem Inv.nofrz(I:Inv X pins σ H s)(e:H d=some u)(h:pM u):∀o v,X.H₀ d≠some (.frz o v):=λo v q=>by have z:=I.base.frzs d o v q;rw[e]at z;cases z;exact h.no.2.2.2 _ _ J
theorem Inv.freeze(I:Inv X pins σ H s)(e:H d=some u)(h:pM u):∃o,Inv X pins σ (upd H d (.frz o u)) s:=by
 obtain⟨g,f,i,k⟩:=h.no;have ok:=I.hok d u e;have a:∃o,s.heap.get? d=some o:=by cases u<;>first|exact h.elim|(obtain⟨_,_,_,_,o,_,_,b,_⟩:=ok;exact⟨o,b⟩)
 obtain⟨o,b⟩:=a;refine⟨o,I.retag e g f i (I.nofrz e h) ⟨b,ok.stay (λ_ _ _ z=>z) (λc z=>?_) λc j z=>?_⟩⟩;rw[upd_ne (Wc z e (λw=>f _ w.symm))];exact z;rw[upd_ne (Wc z e (λw=>g _ w.symm))];exact z
theorem Inv.thaw(I:Inv X pins σ H s)(e:H d=some (.frz o u))(a:∀o v,X.H₀ d≠some (.frz o v)):Inv X pins σ (upd H d u) s:=by refine I.retag e (λ_ z=>by cases z) (λ_ z=>by cases z) (λ_ z=>by cases z) a ?_;obtain⟨_,ok⟩:=I.hok d _ e;refine ok.stay (λ_ _ _ z=>z) (λc z=>?_) λc b z=>?_;rw[upd_ne (Wc z e (λw=>by cases w))];exact z;rw[upd_ne (Wc z e (λw=>by cases w))];exact z
end
noncomputable def Ff(d:Addr)(o:Obj)(u:HO)(D:Ends):Ends where
 nx:=λσ H=>H d=some (.frz o u)/\D.nx σ (upd H d u)
 rt:=λv H=>H d=some (.frz o u)/\D.rt v (upd H d u)
 bk:=λσ H=>H d=some (.frz o u)/\D.bk σ (upd H d u)
 ct:=λσ H=>H d=some (.frz o u)/\D.ct σ (upd H d u)
inductive rg(ts:TS)(D:Ends)(σ:St)(H:Hp):Prop|mk:∀d u,H d=some u->pM u->(∀o,ts (Ff d o u D) σ (upd H d (.frz o u)))->rg ts D σ H
inductive rc(te:TE)(σ:St)(H:Hp)(Q:VK):Prop|mk:∀d u,H d=some u->pM u->(∀o,te σ (upd H d (.frz o u)) λv H'=>H' d=some (.frz o u)/\Q v (upd H' d u))->rc te σ H Q
section
theorem uX{l:TS}(h:PS X st l):PS X st (rg l):=by intro c s n H D I p;obtain⟨d,u,e,m,q⟩:=p;obtain⟨o,t⟩:=I.freeze e m;have g:=I.nofrz e m;refine aF (h c s n _ _ t (q o)) λf w i=>?_;cases f with|next=>obtain⟨a,j,J,b,k⟩:=i;exact⟨a,_,J.thaw b g,k⟩|brk=>obtain⟨a,j,J,b,k⟩:=i;exact⟨a,_,J.thaw b g,k⟩|cont=>obtain⟨a,j,J,b,k⟩:=i;exact⟨a,_,J.thaw b g,k⟩|ret v=>obtain⟨x,a,j,J,r,b,k⟩:=i;exact⟨x,a,_,J.thaw b g,r,k⟩
theorem qT{e:Expr}(h:PE X e te):PE X e (rc te):=by intro a s c H Q I g;obtain⟨d,u,e,b,q⟩:=g;obtain⟨o,j⟩:=I.freeze e b;have f:=I.nofrz e b;exact aF (h a s c _ _ j (q o)) λv l ⟨x,m,J,r,i,k⟩=>⟨x,_,J.thaw i f,r,k⟩
end
theorem Ap{k:aK}{u:I}(h:(yn P w).is k u=true):yq (kV k) u:=by rcases vp h with⟨i,t,rfl,rfl⟩|⟨x,t,rfl,rfl⟩;exact⟨t,J⟩;exact⟨t,J⟩
theorem KV.get:∀{kvs:List (aK×V)}{vs:List (aK×Value)}{i:Nat}{a:aK×V},KV kvs vs->kvs[i]?=some a->∃u,vs[i]?=some (a.1,u)/\yq a.2 u:=by intro kvs vs i a r;unfold KV at r;induction r generalizing i with|nil=>simp| @cons p q c b h t d=>grind
noncomputable def yI(d:Addr)(o:Obj)(kvs:List (aK×V)):It:=⟨λi H=>H d=some (.frz o (.dK kvs))/\i<kvs.length,λi H x H'=>H'=H/\∃F,kvs[i]?=some F/\x=kV F.1,λi H=>H d=some (.frz o (.dK kvs))/\kvs.length<=i⟩
theorem AI{h:Heap}{d:Y}{i:Nat}(j:cA P w H h)(e:H d=some (.frz o (.dK kvs)))(b:o.data=.dict es i):∃vs,KV kvs vs/\h.DictAt (yn P w) d vs i:=by obtain⟨g,p,q,vs,a,n,l,m,f,k,c,r⟩:=j d _ e;rw[g]at f;cases f;rw[b]at c;cases c;exact⟨vs,a,o,es,g,k,b,r⟩
theorem LO{K:W.Frag}(d g:Y)(o:Obj)(kvs:O (aK×V))(es:Array DictEntry)(R:Nat)(L:o.data=.dict es R):dF P w K tg (yI d o kvs) [g] g (λi h=>h.IsKeyIter g d i kvs.length R) where
 mem:=by simp
 obj:=λi h st b j=>by
  have e:b=g:=by simp_all
  subst e;obtain⟨o,e,c,dd⟩:=st
  simp_all
 keep:=λi h Q st k=>st.at λo e=>k g (by simp) o e
 item:=by intro X x r y N i l s S H E I p st u;subst x r y;obtain⟨z,M⟩:=u;obtain⟨U,a,G⟩:=AI I.hok z L;obtain⟨F,D,f2,C,B,A⟩:=p g (by simp);have t:=a.length;have m:=br M;obtain⟨v,hv,rv⟩:=a.get m;refine wpAny_pyNext_dict_item (by simp_all) G hv λq Q n f Z=>?_;rw[<-t]at f;have I1:=I.turned (t':=s.toks) (λb o j e=>(Z.2 b j).trans e) F D C B A;obtain⟨o1,e1,c1,d1⟩:=id f;exact⟨q,J,dP e1 c1 d1 (by rfl) ⟨kV kvs[i].1,H,I1,Ap n,⟨J,_,m,J⟩,f,λb j=>(p b j).1⟩⟩
 done:=by intro X x r y N i l s S H E I p st u;subst x r y;obtain⟨z,M⟩:=u;obtain⟨U,a,G⟩:=AI I.hok z L;obtain⟨F,D,f2,C,B,A⟩:=p g (by simp);have t:=a.length;exact wpAny_pyNext_dict_end (I.ok.hd N) (by rw[<-t];omega) G (List.getElem?_eq_none_iff.mpr (by omega)) λQ eb=>⟨J,I.turned (λb o j e=>eb b o j e) F D C B A⟩
 self:=λ_ _ _ _ _ st h=>wpAny_pyIter_keyiter st h
section
inductive jE(R:It->Hp->Prop)(v:V)(H1:Hp):Prop|mk:∀d o kvs,v=.ref d->H1 d=some (.frz o (.dK kvs))->R (yI d o kvs) H1->jE R v H1
def EM(F:TE):TI:=λσ H R=>F σ H λv H1=>jE R v H1
theorem Hu{l:Expr}{j:TE}(z:PE X l j):PI X tg l (EM j):=by
 intro a s t H R I h;refine aF (z a s t H _ I h) λv f ⟨x,E,c,u,w⟩=>?_;obtain⟨d,o,i,e,A,q⟩:=w;subst e;cases u;obtain⟨n,K,B,F,g,G,p,D,m,C,k,r⟩:=c.hok d _ A;rw[n]at m;cases m;have y:=g.length;refine wpAny_pyIter_dict B ⟨o,p,n,C,k,r⟩ ?_;refine⟨f.heap.objs.size,[f.heap.objs.size],_,_,E,J,c.kept λb o e=>be _ e,LO d _ o i p D k,⟨_,bx _ J,J,by simp_all⟩,λb L=>?_,q⟩;have e:b=f.heap.objs.size:=by simp_all
 subst e;exact c.fpOk (aj _) (c.hok.fresh (aj _))
end
section
variable{d:Addr}{k:Nat}{Q:VK}
theorem GX(Pv:Nat->O V->Hp->Prop)(u:Pv 0 [] H)(r:∀i ys H,i<=kvs.length->Pv i ys H->H d=some (.frz o (.dK kvs))/\ys.length<=sizeLine)(hs:∀i f ys H,kvs[i]?=some f->Pv i ys H->g (kV f.1) (cB k cap σ) H λa H2=>tc a H2 λb j=>if b=true then te a j λy v=>Pv (i+1) (ys++[y]) v else Pv (i+1) ys j)
  (t:∀ys H,Pv kvs.length ys H->∀p,H p=none->Q (.ref p) (upd H p (.lst ys))):cM (yI d o kvs) g tc te k cap σ H Q:=by
 refine⟨λi m ys H=>m=kvs.length-i/\i<=kvs.length/\Pv i ys H,⟨kvs.length,by simp,bf _,u⟩,?_⟩;rintro i m ys H ⟨rfl,s,p⟩;obtain⟨q,h⟩:=r i ys H s p;by_cases c:i<kvs.length;refine .inr ⟨⟨q,c⟩,h,Pv (i+1),λl w n=>⟨kvs.length-(i+1),by omega,J,c,n⟩,λx w y=>?_⟩;obtain⟨e,f,hk,z⟩:=y
 grind
 have e:i=kvs.length:=by omega
 subst e;exact .inl ⟨⟨q,aj _⟩,h,t ys H p⟩
end
theorem wJ:∀{xs:List V}{a:List Value},xs.length=a.length->(∀(j:Nat) x u,xs[j]?=some x->a[j]?=some u->yq x u)->yu xs a|[],[],_,_=>.nil|x::xs,u::a,b,h=>.cons (h 0 x u J J) (wJ (by simp_all) λj y v d c=>h (j+1) y v (by simp_all) (by simp_all))|[],_::_,b,_=>by grind|_::_,[],b,_=>by grind
section
end
noncomputable def off(S:Addr->Prop)(H:Hp):Hp:=λb=>@ite _ (S b) (Classical.propDecidable _) none (H b)
theorem Zt{S:Y->Prop}{b:Y}{o:HO}:off S H b=some o↔¬S b/\H b=some o:=by unfold off;simp
theorem Yh{S:Y->Prop}(s:zi H H'):zi (off S H) (off S H'):=λb o e=>by rw[Zt]at e⊢;exact⟨e.1,s _ _ e.2⟩
theorem Fv{S:Y->Prop}:zi (off S H) H:=λb o e=>(Zt.mp e).2
def Sd(S:Addr->Prop)(H:Hp):Prop:=∀b,S b->H b≠none
theorem Sd.same{S:Addr->Prop}(d:Sd S H)(s:zi H H'):Sd S H':=λb a z=>by cases e:H b with|none=>exact d b a e|some o=>rw[s _ _ e]at z;cases z
theorem Bk{S:Y->Prop}{o:HO}(d:Sd S H)(h:H p=none):off S (upd H p o) p=some o:=Zt.mpr ⟨λz=>d p z h,zf⟩
theorem IO(H:Hp):off (λ_=>False) H=H:=by funext b;unfold off;simp
theorem Is.off{S:Y->Prop}{H:Hp}{t:T}{v:V}(h:Is (off S H) t v):Is H t v:=h.mono Fv
theorem Is.off0{t:T}(h:Is H t v):Is (L2.off (λ_=>False) H) t v:=by rw[IO];exact h
theorem Is.nt{S:Y->Prop}(d:Sd S H)(a:H p=none)(h:IsL (L2.off S H) ts xs):Is (L2.off S (upd H p (.tup xs))) (.tup ts) (.ref p):=⟨p,xs,J,Bk d a,IsL.mono (Yh (zi.new a _)) h⟩
theorem Is.nl{S:Y->Prop}(d:Sd S H)(a:H p=none)(h:IsL (L2.off S H) ts xs):Is (L2.off S (upd H p (.lst xs))) (.lst ts) (.ref p):=⟨p,xs,J,Bk d a,IsL.mono (Yh (zi.new a _)) h⟩
theorem IsL.rep{H:Hp}{a:List T}{xs:List V}(h:IsL H a xs):∀n:Nat,IsL H (List.replicate n a).flatten (List.replicate n xs).flatten|0=>rfl| n+1=>by rw[List.replicate_succ,List.replicate_succ,List.flatten_cons,List.flatten_cons];exact IsL.append h (IsL.rep h n)
end L2
namespace HT
open PySem PyProof.Rows
open PySem.SeqAt
open PySem.AutoSeq1 (wpAny_loadPart')
open PySem.MeetsSeq PySem.MeetsSeq2 PySem.MeetsSeq3
variable{A:Around}{aC:Array Value}{ws:List Value}{s:Shared}{E Q:Value->Shared->Prop}
section
variable{prog:Program}{w:World}
theorem rG{t b:Y}(p:IsTup s.heap t ([]:O I).toArray)(q:IsTup s.heap b ws.toArray)(h:Q (.ref b) s):wpAny (model prog w) A (binaryOp .Add (.ref t) (.ref b)) Q E s:=by
 obtain⟨⟨u,r,k,m⟩,g,j,n,i⟩:=id p;obtain⟨⟨l,f,data2,e⟩,a,d,o,c⟩:=id q;simp only at j i d c;subst j i d c;exact concat_meets ⟨_,g,J⟩ ⟨_,a,J⟩ noFill_tuple_add seq_tuple_add PySem.F.slot_tuple_add PySem.F.entry_tuple_add (PySem.F.args_tuple_add_2 _ _)
  (tuple_addW0 t b [].toArray ws.toArray n o r f m e J) ⟨g,a,h⟩
theorem fX{t d:Y}{j i:I}{lo c:Option Int}(b:IsTup s.heap t aC)(hs:s.heap.IsSliceOf d j i .none)(l:IsPart j lo)(k:IsPart i c)(n:bS aC.size 0 lo=0/\bS aC.size aC.size c=aC.size) (h:Q (.ref t) s):wpAny (model prog w) A (getItem (.ref t) (.ref d)) Q E s:=by
 obtain⟨os,e,f,m⟩:=id hs;have g:s.TypeIs (.ref d) "slice":=⟨os,e,f⟩
 unfold getItem
 try with_reducible refine wpAny_holding ?_
 first|refine aa (ae ?_)|skip
 refine aa (wpAny_sequenceKey b.typeIs (by rfl) ?_);refine aa (wpAny_callSpecial?_slot b.typeIs PyProof.Rows.slot_tuple_getitem (cy PyProof.Rows.slot_tuple_getitem b.typeIs entry_tuple_getitem ?_ (args_tuple_getitem _ _)))
 show wpAny _ _ (Builtin.Tuple.tupleItemsOf (.ref t)>>=_) _ _ s;refine aa (tupleItemsOf_ b ?_);refine aa (wpAny_typeOf g ?_);rw[if_pos (by rfl)];refine aa (Yx hs l k ?_);have a:(((bS aC.size 0 lo):Int)==0 && (1:Int)==1 && (bS aC.size aC.size c-bS aC.size 0 lo)==aC.size)=true:=by simp_all
 show wpAny _ _ (if(((bS aC.size 0 lo):Int)==0 && (1)==1 && (bS aC.size aC.size c-bS aC.size 0 lo)==aC.size)=true then _ else _) _ _ s;rw[if_pos a];refine aa ?_;unfold Builtin.Tuple.tupleIsExact;refine aa (wpAny_typeOf b.typeIs (ae ?_));rw[if_pos (by rfl)];exact aa (wpAny_rule (ae ⟨_,J,ae h⟩))
theorem gd:fillsNumberSlot (.type "tuple") "mul"=pure false:=PySem.fillsNumberSlot_seq PySem.F.slot_tuple_mul.lookup (by rfl) PySem.F.slot_tuple_rmul.lookup (by rfl)
theorem lc:seqRepeat? (.type "tuple")=pure (some (.builtin "tuple.__mul__")):=by rfl
theorem iI(a:Int)(t:Tok)(l:Y)(g:Array I)(n:Nat)(dd:Option Y)(d:Array (Option I)):Meets (Builtin.«int.__rmul__» ⟨[.int a t,.ref l],[]⟩) (λ_ R s=>s.heap.get? l=some {cls:=.type "tuple",dict:=dd,data:=.seq g n,slots:=d}/\R (.ok (.ret Value.notImplemented)) s):=
 .of_wp λb w A R e f=>by
  obtain⟨i,k,m,h,os⟩:=e;obtain⟨j,c⟩:=f
  wp_walk
  simp_all
theorem jV(l:Y)(a:Array I)(n:Nat)(dd:Option Y)(f:Array (Option I))(x:Int)(u:Tok)(e:¬a.isEmpty=true)(C:2<=x)(o:x<=1000)(m:a.size<=1000):Meets (Builtin.«tuple.__mul__» ⟨[.ref l,.int x u],[]⟩) (λ_ R s=>s.heap.get? l=some {cls:=.type "tuple",dict:=dd,data:=.seq a n,slots:=f}/\ R (.ok (.ret (Value.ref s.heap.objs.size))) {s with heap:=s.heap.push {cls:=Value.type "tuple",data:=Data.seq (List.foldl (λc b=>c++b) #[] (List.replicate x.toNat a))},toks:=s.toks}):=
 .of_wp λd w A R s h=>by
  obtain⟨j,D,E,y,os⟩:=s;obtain⟨k,h⟩:=h;have v:¬(decide (x< -(2^63)) ||decide (x≥2^63))=true:=by simp;omega
  have t:¬(a.isEmpty ||x==1)=true:=by intro z;rw[Bool.or_eq_true]at z;rcases z with z|z;exact e z;have:=eq_of_beq z;omega
  have r:¬(decide (x<=0) ||a.isEmpty)=true:=by intro z;rw[Bool.or_eq_true]at z;rcases z with z|z;have:=c9 z;omega;exact e z
  have B:a.size*x<=1000*1000:=Int.mul_le_mul (by omega) o (by omega) (by decide);have q:¬a.size*x>(2^63-1)/8:=by omega
  have p:¬Builtin.Tuple.tupleTooMany (a.size*x)=true:=by unfold Builtin.Tuple.tupleTooMany;intro z;have z:=c9 z;rw[sizeLine_eq]at z;omega
  have i:IsTup j l a:=⟨_,k,J,n,J⟩
  have g:sizeOk (.seq (List.foldl (λc b=>c++b) #[] (List.replicate x.toNat a))):=by show _<=sizeLine;rw[AutoListH.size_joined,sizeLine_eq];have:=Nat.mul_le_mul (show x.toNat<=1000 by omega) m;simp only[Array.size_empty];omega
  wp_walk
  refine wpAny_ite_split (λz=>absurd z v) (λ_=>?_);refine aa (tupleItemsOf_ i ?_);refine wpAny_ite_split (λz=>absurd z t) (λ_=>?_);refine wpAny_ite_split (λz=>absurd z r) (λ_=>?_);refine wpAny_ite_split (λz=>absurd z q) (λ_=>?_);refine wpAny_ite_split (λz=>absurd z p) (λ_=>?_);exact aa (df (ae ⟨_,J,h⟩) g)
end
end HT
namespace L2
open PySem PySem.Spec PyProof.Rows
variable{C L N' a f:Addr}{A:Around}{vs:Array Value}{ab jY hdct dB:Bool}{CX:gy}{X:Cx}{env:Env}{e:Expr}{fd:FuncData}{base h h':Heap}{H H₀:Hp}{pins:List (Addr×Obj)}{outer:List Env}{es:List Expr}{N ps sn jS:List Str}{args bm pX jX sub dU:List Value}{oe:Obj}{dd cY:Option Addr}{aE:Pos}{P:Program}{sc scope:Scope}{s s₀:Shared}{sp:Sp}{σ:St}{qual x:Str}{mg:Str->Option Value}{newId dM:String}{Q:Unit->Shared->Prop}{cd:Value}{E Ex:Value->Shared->Prop}{w:World}
section
variable{S:Addr->Prop}
inductive fD(S:Addr->Prop)(x y:V)(H:Hp)(Q:VK):Prop|mk:∀ts us,Is (off S H) (.tup ts) x->Is (off S H) (.tup us) y->Sd S H->ts.length+us.length<=sizeLine->(∀v H',zi H H'->Is (off S H') (.tup (ts++us)) v->Q v H')->fD S x y H Q
theorem xU:bZ X (binaryOp .Add) (fD S):=by intro c s z H x y v u Q I m l h;obtain⟨M,L,⟨a,g,rfl,w,j⟩,⟨b,k,rfl,t,i⟩,d,P,q⟩:=h;have f:=(Zt.mp w).2;have e:=(Zt.mp t).2;have K:=j.length;have G:=i.length;by_cases hx:g=[];subst hx;have F:=fi.mp (by simpa using K.symm);subst F;cases m;cases l;obtain⟨D,A,C,_⟩:=I.tuple (aG.of f);obtain⟨n,N,B,_⟩:=I.tuple (aG.of e);cases A;exact HT.rG C B ⟨.ref b,H,I,J,q _ H (zi.refl H) ⟨b,k,J,t,i⟩⟩;refine AT c s z H (.ref a) (.ref b) v u Q I m l ⟨a,b,g,k,J,J,aG.of f,aG.of e,hx,by omega,λo=>?_,λo p r=>q _ _ (zi.new r _) (Is.nt d r (IsL.append j i))⟩;have E:=fi.mp (by rw[<-G,o];rfl);subst E;refine q _ H (zi.refl H) ?_;rw[cm];exact⟨a,g,J,w,j⟩
inductive fE(S:Addr->Prop)(x y:V)(H:Hp)(Q:VK):Prop|mk:∀ts us,Is (off S H) (.lst ts) x->Is (off S H) (.lst us) y->Sd S H->ts.length+us.length<=sizeLine->(∀v H',zi H H'->Is (off S H') (.lst (ts++us)) v->Q v H')->fE S x y H Q
theorem JV:bZ X (binaryOp .Add) (fE S):=by intro c s i H x y v u Q I m l h;obtain⟨t,r,⟨a,k,rfl,o,g⟩,⟨b,j,rfl,n,f⟩,d,w,q⟩:=h;have A:=g.length;have z:=f.length;exact Yg c s i H (.ref a) (.ref b) v u Q I m l ⟨a,b,k,j,J,J,(Zt.mp o).2,(Zt.mp n).2,by omega,λp e=>q _ _ (zi.new e _) (Is.nl d e (IsL.append g f))⟩
noncomputable def Zq{F:Type}(xs:List F)(lo U:Option Int):List F:=(xs.drop (HT.bS xs.length 0 lo)).take (HT.bS xs.length xs.length U-HT.bS xs.length 0 lo)
theorem Aa{a:O T}{xs:O V}(h:IsL H a xs)(lo b:Option Int):IsL H (Zq a lo b) (Kl xs lo b):=by unfold Zq Kl;rw[h.length];exact IsL.take _ (IsL.drop _ h)
inductive lQ(S:Addr->Prop)(x:V)(lo hi:Option Int)(H:Hp)(Q:VK):Prop|mk:∀ts,Is (off S H) (.tup ts) x->Sd S H->(∀v H',zi H H'->Is (off S H') (.tup (Zq ts lo hi)) v->Q v H')->lQ S x lo hi H Q
theorem uA:pZ X (lQ S):=by
 intro c s B H x v D C lo g E Q I m u o n h;obtain⟨l,⟨a,b,rfl,z,k⟩,d,q⟩:=h;have f:=(Zt.mp z).2;have A:=k.length;by_cases j:HT.bS b.length 0 lo=0/\HT.bS b.length b.length g=b.length;cases m;obtain⟨i,r,t,F⟩:=I.tuple (aG.of f);have y:i.toArray.size=b.length:=by rw[cx];exact r.length.symm
 refine⟨"tuple",_,PyProof.Rows.slot_tuple_getitem.lookup,t.typeIs,?_⟩;refine HT.fX t u o n (by simp_all) ⟨.ref a,H,I,J,q _ H (zi.refl H) ?_⟩;have e:Zq l lo g=l:=by unfold Zq;rw[<-A,j.1,j.2,A,List.drop_zero,Nat.sub_zero,dg]
 rw[e];exact⟨a,b,J,z,k⟩;exact sS c s B H (.ref a) v D C lo g E Q I m u o n ⟨a,b,J,aG.of f,j,λp w=>q _ _ (zi.new w _) (Is.nt d w (Aa k lo g))⟩
inductive iM(S:Addr->Prop)(x y:V)(H:Hp)(Q:VK):Prop|mk:∀ts k,Is (off S H) (.tup ts) x->y=.int k->Sd S H->ts≠[]->ts.length<=10->2<=k->k<=1000->(∀v H',zi H H'->Is (off S H') (.tup (List.replicate k.toNat ts).flatten) v->Q v H')->iM S x y H Q
theorem JX:bZ X (binaryOp .Mult) (iM S):=by
 intro l s W H x y v u Q I G E h;obtain⟨Z,k,⟨a,A,rfl,N,m⟩,rfl,d,M,hz,R,P,q⟩:=h;cases G;obtain⟨t,rfl⟩:=E;have e1:=m.length;have i:=(Zt.mp N).2;obtain⟨c,r,L,K⟩:=I.tuple (aG.of i);have e2:=r.length;obtain⟨⟨U,w,z,j⟩,e,p,n,o⟩:=id L;simp only at p o;subst p o;have g:¬c.toArray.isEmpty=true:=by grind
 have f:List.foldl (λC B=>C++B) #[] (List.replicate k.toNat c.toArray)=(List.replicate k.toNat c).flatten.toArray:=by
  have:=Jr c k.toNat []
  simp_all
 refine wpAny_binaryOp_repeat_ref (by rfl) ⟨_,e,J⟩ (λD=>typeIs_int D k t) HT.gd F.fills_int_mul F.slot_int_rmul HT.lc F.slot_int_index.lookup
  (call_meets F.slot_int_rmul (typeIs_int s k t) F.entry_int_rmul (F.args_int_rmul_2 _ _) (HT.iI k t a c.toArray n w j) ⟨e,J,⟨_,e,J⟩,call_meets F.slot_tuple_mul ⟨_,e,J⟩ F.entry_tuple_mul (F.args_tuple_mul_2 _ _) (HT.jV a c.toArray n w j k t g R P (by grind)) ⟨e,?_⟩⟩)
 rw[f];refine⟨.ref _,_,I.laid (λb ob q=>be _ q) (aj _) ?_,J,q _ _ (zi.new I.fresh _) (Is.nt d I.fresh (IsL.rep m _))⟩;refine⟨?_,_,r.rep k.toNat,IsTup.new _ _,gx.push⟩;rw[Bh];exact cr (Nat.mul_le_mul (show k.toNat<=1000 by omega) (show A.length<=10 by omega)) (by decide)
end
inductive Tm where|var (i:Nat)|con (t:T)|add (a b:Tm)|mul (a b:Tm)|tup (ts:List Tm)|lst (ts:List Tm)|upto (a b:Tm)|frm (a b:Tm)|ix (a b:Tm)
noncomputable def Qt:Option T->Option T->Option T|some (.int i),some (.int j)=>some (.int (i+j))|some (.tup ts),some (.tup us)=>if ts.length+us.length<=1000 then some (.tup (ts++us))else none|some (.lst ts),some (.lst us)=>if ts.length+us.length<=1000 then some (.lst (ts++us))else none|_,_=>none
noncomputable def ue:Option T->Option T->Option T|some (.tup ts),some (.int k)=>if 1<=ts.length/\ts.length<=10/\2<=k/\k<=1000 then some (.tup (List.replicate k.toNat ts).flatten)else none|_,_=>none
noncomputable def uk:Option T->Option T->Option T|some (.tup ts),some (.int i)=>some (.tup (Zq ts none (some i)))|_,_=>none
noncomputable def uc:Option T->Option T->Option T|some (.tup ts),some (.int i)=>some (.tup (Zq ts (some i) none))|_,_=>none
noncomputable def xZ:Option T->Option T->Option T|some (.tup ts),some (.int i)=>if 0<=i then ts[i.toNat]? else none|_,_=>none
noncomputable def qF:Option (List T)->Option T|some ts=>if ts.length<=1000 then some (.tup ts)else none|none=>none
noncomputable def ud:Option (List T)->Option T|some ts=>if ts.length<=1000 then some (.lst ts)else none|none=>none
noncomputable def mG:Option T->Option (List T)->Option (List T)|some t,some ts=>some (t::ts)|_,_=>none
abbrev kD:=List (Nat×T)
mutual
noncomputable def Tm.den(l:kD):Tm->Option T|.var i=>l.lookup i|.con t=>some t|.add a b=>Qt (a.den l) (b.den l)|.mul a b=>ue (a.den l) (b.den l)|.upto a b=>uk (a.den l) (b.den l)|.tup ts=>qF (Tm.denL l ts)|.lst ts=>ud (Tm.denL l ts)|.frm a b=>uc (a.den l) (b.den l)|.ix a b=>xZ (a.den l) (b.den l)
noncomputable def Tm.denL(l:kD):List Tm->Option (List T)|[]=>some []|t::r=>mG (t.den l) (Tm.denL l r)
end
def mF(S:Addr->Prop)(l:kD)(F:St)(H:Hp):Prop:=Sd S H/\∀p∈l,∃v,F[p.1]?=some (some v)/\Is (off S H) p.2 v
theorem mF.same{S:Y->Prop}{l:kD}{a:St}{H b:Hp}(e:mF S l a H)(s:zi H b):mF S l a b:=⟨e.1.same s,λp c=>by obtain⟨v,f,d⟩:=e.2 p c;exact⟨v,f,d.mono (Yh s)⟩⟩
inductive pP(S:Addr->Prop)(tm:Tm)(σ:St)(H:Hp)(Q:VK):Prop|mk:∀l t,mF S l σ H->tm.den l=some t->(∀v H',zi H H'->Is (off S H') t v->Q v H')->pP S tm σ H Q
inductive qZ(S:Addr->Prop)(tms:List Tm)(σ:St)(H:Hp)(Q:List V->Hp->Prop):Prop|mk:∀l ts,mF S l σ H->Tm.denL l tms=some ts->(∀vs H',zi H H'->IsL (off S H') ts vs->Q vs H')->qZ S tms σ H Q
noncomputable def rW(F:Scope)(x:Str):Bool:=match F.names.lookup x with|some .local=>true|some .cell=>true|some .free=>true|_=>false
noncomputable def jN(g:Expr->Option Tm):List Expr->Option (List Tm)|[]=>some []| e::r=>match g e,jN g r with|some t,some ts=>some (t::ts)|_,_=>none
noncomputable def mB(f:Tm->Tm->Tm):Option Tm->Option Tm->Option Tm|some a,some b=>some (f a b)|_,_=>none
noncomputable def pR(x:Str):Nat->List Str->Option Nat|_,[]=>none|i,y::r=>if y=x then some i else pR x (i+1) r
theorem A0{x:Str}:∀{r pre:List Str}{i j:Nat},i=pre.length->pR x i r=some j->(pre++r)[j]?=some x
 |[],pre,i,j,a,h=>by cases h
 | y::r,pre,i,j,a,h=>by
   unfold pR at h;split at h
   simp_all
   have:=A0 (pre:=pre++[y]) (by simp[a]) h
   simp_all
noncomputable def DL:Const->Option Tm|.int i=>some (.con (.int i))|.bool b=>some (.con (.bl b))|.str x=>some (.con (.str x))|.none=>some (.con .non)|_=>none
noncomputable def cI:Expr->Option Int
 | .Constant c _ _=>match c with
   |.int i=>some i
   |_=>none
 |_=>none
noncomputable def yS:Option Int->Option Int->Option Tm|some i,some j=>if 0<=j/\j<=1000/\i.natAbs<2^64 then some (.con (.int (i^j.toNat)))else none|_,_=>none
noncomputable def yR(g:Expr->Option Tm)(a:Expr):Option Expr->Option Expr->Option Expr->Option Tm|none,some b,none=>mB Tm.upto (g a) (g b)|some b,none,none=>mB Tm.frm (g a) (g b)|_,_,_=>none
noncomputable def DK(g:Expr->Option Tm)(a:Expr)(o:Operator)(b:Expr):Option Tm:=match o with|.Add=>mB Tm.add (g a) (g b)|.Mult=>mB Tm.mul (g a) (g b)|.Pow=>yS (cI a) (cI b)|_=>none
noncomputable def DM(g:Expr->Option Tm)(a i:Expr):Option Tm:=match i with|.Slice lo hi st _=>yR g a lo hi st|_=>mB Tm.ix (g a) (g i)
noncomputable def dS(U:Str->Bool)(N:List Str)(F:Scope):Nat->Expr->Option Tm
 |0,_=>none
 | f +1,e=>match e with
   |.Constant c _ _=>DL c
   |.Name x _=>if rW F x && !(x==("__debug__":Str)) && !(x==("__classdict__":Str))then(pR x 0 N).map Tm.var else none
   |.Tuple es _ _=>(jN (dS U N F f) es).map Tm.tup
   |.List es _=>(jN (dS U N F f) es).map Tm.lst
   | .UnaryOp o a _=>match o with
     |.USub=>(cI a).map λi=>.con (.int (-i))
     |_=>none
   |.BinOp a o b _=>DK (dS U N F f) a o b
   |.Subscript a b _=>DM (dS U N F f) a b
   |_=>none
theorem uN{i:Int}(h:cI e=some i):∃k p,e=.Constant (.int i) k p:=by
 cases e with
 |Constant c k p=>cases c<;>first|exact⟨k,p,by cases h;rfl⟩|cases h
 |_=>cases h
section
variable{S:Addr->Prop}{aL:Str->Bool}
theorem PE.weak{t t':TE}(h:PE X e t)(w:∀σ H Q,t' σ H Q->t σ H Q):PE X e t':=λa s σ H Q I q=>h a s σ H Q I (w σ H Q q)
theorem PA.weak{t t':TA}(h:PA X es t)(w:∀σ H Q,t' σ H Q->t σ H Q):PA X es t':=λb a s σ H Q I q=>h b a s σ H Q I (w σ H Q q)
theorem Wp{f:Tm->Tm->Tm}{d c:Option Tm}{e:Tm}(h:mB f d c=some e):∃a b,d=some a/\c=some b/\e=f a b:=by cases d with|none=>cases h| some a=>cases c with|none=>cases h|some b=>cases h;simp
theorem FZ(h:rW sc x=true):oX sc x:=by
 unfold rW at h;unfold oX
 grind
theorem Ih{f:Nat}{a:Tm}(h:dS aL N sc f e=some a):starEach (e::es) env=(false,eval e env)::starEach es env:=by cases f with|zero=>cases h|succ f=>cases e<;>first|rfl|(exact absurd h (by simp[dS]))
theorem EQ{f:Nat}{a:Tm}(h:dS aL N sc f e=some a):Ay e:=by cases f with|zero=>cases h|succ f=>cases e<;>first|(intro _ _;rfl)|(exact absurd h (by simp[dS]))
theorem C8{i:Nat}{t:T}:∀{l:kD},l.lookup i=some t->(i,t)∈l
 |[],h=>by cases h
 | (j,u)::r,h=>by
   rw[List.lookup_cons]at h;split at h
   simp_all
   exact bn _ (C8 h)
theorem Q5{Q:VK}{t:T}{v:V}(h:pP S (.con t) σ H Q)(a:∀H,Is H t v):Q v H:=by obtain⟨l,c,e,b,q⟩:=h;cases b;exact q v H (zi.refl H) (a _)
theorem vG{a b:Tm}{l:kD}{ta tb:T}{R:V->V->Hp->Prop}(e:mF S l σ H)(g:a.den l=some ta)(f:b.den l=some tb)(q:∀x y H2,zi H H2->Is (off S H2) ta x->Is (off S H2) tb y->R x y H2):pP S a σ H λx H1=>pP S b σ H1 λy H2=>R x y H2:=
 ⟨l,ta,e,g,λx H1 d i=>⟨l,tb,e.same d,f,λy H2 c h=>q x y H2 (d.trans c) (i.mono (Yh c)) h⟩⟩
def Et(S:Addr->Prop):R2:=λx y H Q=>jT (λi j=>.int (i+j)) x y H Q\/fD S x y H Q\/fE S x y H Q
theorem Ie:bZ X (binaryOp .Add) (Et S):=wb.or (xU.or JV)
theorem xk{n:Nat}(h:n<=1000):n<=sizeLine:=cr h (by decide)
inductive lT(S:Addr->Prop)(x y:V)(H:Hp)(Q:VK):Prop|mk:∀ts i t,Is (off S H) (.tup ts) x->y=.int i->0<=i->ts[i.toNat]?=some t->(∀v,Is (off S H) t v->Q v H)->lT S x y H Q
theorem Em:qA X (lT S):=by
 intro r b c s f H x y v u Q I k j h n;obtain⟨z,i,t,⟨a,g,rfl,p,o⟩,rfl,A,m,q⟩:=h;obtain⟨w,l,d⟩:=o.get m;have e:i=(i.toNat:Int):=by omega
 exact zx r b c s f H (.ref a) (.int i) v u Q I k j ⟨a,g,i,w,J,J,aG.of (Zt.mp p).2,by rw[e];exact wx l,q w d⟩ n
theorem ou (hL:∀x,aL x=true->X.mg x=none/\Gl X x/\X.calm=true):∀(f:Nat) (e:Expr) (E:Tm),dS aL X.N X.env.scope f e=some E->PE X e (pP S E):=by
 intro f;induction f with
 |zero=>intro e E h;cases h
 | succ f K =>
   have af : ∀(C:List Expr) (N:List Tm),jN (dS aL X.N X.env.scope f) C=some N->PA X C (qZ S N):=by
    intro C;induction C with
    | nil=>intro N h;cases h;exact zd.weak λw H Q ⟨l,M,e,d,q⟩=>by cases d;exact q [] H (zi.refl H) J
    | cons e C ah=>
      intro N h;unfold jN at h;cases r:dS aL X.N X.env.scope f e with
      |none=>simp_all
      | some t1=>
        cases B:jN (dS aL X.N X.env.scope f) C with
        |none=>simp_all
        | some t2=>
          rw[r,B]at h;cases h;refine(zc (K e t1 r) (ah t2 B) (Ih r)).weak λw H Q ⟨l,M,e,d,q⟩=>?_;have d:mG (t1.den l) (Tm.denL l t2)=some M:=d;cases g:t1.den l with
          |none=>rw[g]at d;cases d
          | some u1=>
            cases m:Tm.denL l t2 with
            |none=>rw[g,m]at d;cases d
            | some u2=>rw[g,m]at d;cases d;exact⟨l,u1,e,g,λx H1 u i1=>⟨l,u2,e.same u,m,λxs H2 n i2=>q _ H2 (u.trans n) ⟨x,xs,J,i1.mono (Yh n),i2⟩⟩⟩
   intro e E h;cases e with
   | Constant c k p=>
     cases c with
     |int i=>cases h;exact zg.weak λw H Q q=>Q5 q λ_=>rfl
     |bool b=>cases h;exact wr.weak λw H Q q=>Q5 q λ_=>rfl
     |str x=>cases h;exact zo.weak λw H Q q=>Q5 q λ_=>rfl
     |none=>cases h;exact X9.weak λw H Q q=>Q5 q λ_=>rfl
     |_=>cases h
   | Name x aE=>
     replace h:(if rW X.env.scope x && !(x==("__debug__":Str)) && !(x==("__classdict__":Str))then(pR x 0 X.N).map Tm.var else none)=some E:=h;split at h
     rename_i hv
     simp only[cp,Bool.not_eq_true']at hv;cases Z:pR x 0 X.N with
     |none=>simp_all
     | some i=>
       rw[Z]at h;cases h;have hN:X.N[i]?=some x:=by simpa using A0 (pre:=[]) J Z
       refine(uV hN (FZ hv.1.1) hv.1.2 hv.2).weak λw H Q ⟨l,t,e,d,q⟩=>?_;obtain⟨v,r,B⟩:=e.2 _ (C8 d);exact zN r (q v H (zi.refl H) B)
     grind
   | Tuple C _ _=>
     replace h:(jN (dS aL X.N X.env.scope f) C).map Tm.tup=some E:=h;cases r:jN (dS aL X.N X.env.scope f) C with
     |none=>simp_all
     | some M=>
       rw[r]at h;cases h;refine(qd (af C M r)).weak λw H Q ⟨l,t,e,d,q⟩=>?_;have d:qF (Tm.denL l M)=some t:=d;cases g:Tm.denL l M with
       |none=>rw[g]at d;cases d
       | some A=>
         rw[g]at d;unfold qF at d;split at d
         rename_i s
         cases s;split at d
         rename_i L
         cases d;exact⟨l,A,e,g,λxs H1 u i1=>⟨by rw[i1.length];exact xk L,λp Z=>q _ _ (u.trans (zi.new Z _)) (Is.nt (e.1.same u) Z i1)⟩⟩
         simp_all
         simp_all
   | List C _=>
     replace h:(jN (dS aL X.N X.env.scope f) C).map Tm.lst=some E:=h;cases r:jN (dS aL X.N X.env.scope f) C with
     |none=>simp_all
     | some M=>
       rw[r]at h;cases h;refine(jk (af C M r)).weak λw H Q ⟨l,t,e,d,q⟩=>?_;have d:ud (Tm.denL l M)=some t:=d;cases g:Tm.denL l M with
       |none=>rw[g]at d;cases d
       | some A=>
         rw[g]at d;unfold ud at d;split at d
         rename_i s
         cases s;split at d
         rename_i L
         cases d;exact⟨l,A,e,g,λxs H1 u i1=>⟨by rw[i1.length];exact xk L,λp Z=>q _ _ (u.trans (zi.new Z _)) (Is.nl (e.1.same u) Z i1)⟩⟩
         simp_all
         simp_all
   | UnaryOp o a p=>
     cases o with
     | USub=>
       replace h:(cI a).map (λi=>Tm.con (.int (-i)))=some E:=h;cases hc:cI a with
       |none=>rw[hc]at h;cases h
       | some i=>obtain⟨k,p',rfl⟩:=uN hc;rw[hc]at h;cases h;exact(se sU zg).weak λw H Q q=>⟨_,J,Q5 q λ_=>rfl⟩
     |_=>cases h
   | BinOp x o y p=>
     cases o with
     | Add =>
       obtain⟨a,b,r,B,rfl⟩:=Wp h;refine(ye (Ie (S:=S)) (K _ a r) (K _ b B)).weak λw H Q ⟨l,t,e,d,q⟩=>?_;have d:Qt (a.den l) (b.den l)=some t:=d;cases g:a.den l with
       |none=>rw[g]at d;cases d
       | some P=>
         cases m:b.den l with
         |none=>rw[g,m]at d;cases P<;>cases d
         | some tb=>
           rw[g,m]at d;refine vG e g m λx y H2 n G F=>?_;unfold Qt at d;split at d
           rename_i i j s D
           cases s;cases D;cases d;exact .inl ⟨i,j,G,F,q _ H2 n J⟩
           rename_i A ws s D
           cases s;cases D;split at d
           rename_i L
           cases d;exact .inr (.inl ⟨A,ws,G,F,e.1.same n,xk L,λv W R U=>q v W (n.trans R) U⟩)
           simp_all
           rename_i A ws s D
           cases s;cases D;split at d
           rename_i L
           cases d;exact .inr (.inr ⟨A,ws,G,F,e.1.same n,xk L,λv W R U=>q v W (n.trans R) U⟩)
           simp_all
           simp_all
     | Mult=>
       obtain⟨a,b,r,B,rfl⟩:=Wp h;refine(ye (JX (S:=S)) (K _ a r) (K _ b B)).weak λw H Q ⟨l,t,e,d,q⟩=>?_;have d:ue (a.den l) (b.den l)=some t:=d;cases g:a.den l with
       |none=>rw[g]at d;cases d
       | some P=>
         cases m:b.den l with
         |none=>rw[g,m]at d;cases P<;>cases d
         | some tb=>
           rw[g,m]at d;refine vG e g m λx y H2 n G F=>?_;unfold ue at d;split at d
           rename_i A k s D
           cases s;cases D;split at d
           rename_i L
           cases d;exact⟨A,k,G,F,e.1.same n,(λz=>by simp_all),L.2.1,L.2.2.1,L.2.2.2,λv W R U=>q v W (n.trans R) U⟩
           simp_all
           simp_all
     | Pow =>
       replace h:yS (cI x) (cI y)=some E:=h;cases hx:cI x with
       |none=>rw[hx]at h;cases h
       | some i=>
         cases hy:cI y with
         |none=>rw[hx,hy]at h;cases h
         | some j=>
           obtain⟨k,p1,rfl⟩:=uN hx;obtain⟨k2,p2,rfl⟩:=uN hy;rw[hx,hy]at h;replace h:(if 0<=j/\j<=1000/\i.natAbs<2^64 then some (Tm.con (.int (i^j.toNat)))else none)=some E:=h;split at h
           rename_i hc
           cases h;exact(ye FB zg zg).weak λw H Q q=>⟨_,_,J,J,⟨hc.1,by omega,hc.2.2⟩,Q5 q λ_=>rfl⟩
           cases h
     |_=>cases h
   | Subscript x i p=>
     by_cases hs:∃lo hi st q,i=.Slice lo hi st q;obtain⟨lo,hi,st,q0,rfl⟩:=hs;replace h:yR (dS aL X.N X.env.scope f) x lo hi st=some E:=h;cases lo with
     | none=>
       cases hi with
       |none=>cases h
       | some y=>
         cases st with
         |some _=>cases h
         | none=>
           obtain⟨a,b,r,B,rfl⟩:=Wp h;refine(yx (uA (S:=S)) (K _ a r) xn (y1 (K _ b B))).weak λw H Q ⟨l,t,e,d,q⟩=>?_;have d:uk (a.den l) (b.den l)=some t:=d;cases g:a.den l with
           |none=>rw[g]at d;cases d
           | some P=>
             cases m:b.den l with
             |none=>rw[g,m]at d;cases P<;>cases d
             | some tb=>
               rw[g,m]at d;unfold uk at d;split at d
               rename_i A k s D
               cases s;cases D;cases d;refine⟨l,_,e,g,λx H1 u G=>?_⟩;refine⟨l,_,e.same u,m,λy H2 n F=>⟨k,F,A,G.mono (Yh n),(e.1.same u).same n,λv W R U=>q v W (u.trans (n.trans R)) U⟩⟩
               simp_all
     | some y=>
       cases hi with
       |some _=>cases h
       | none=>
         cases st with
         |some _=>cases h
         | none=>
           obtain⟨a,b,r,B,rfl⟩:=Wp h;refine(yx (uA (S:=S)) (K _ a r) (y1 (K _ b B)) xn).weak λw H Q ⟨l,t,e,d,q⟩=>?_;have d:uc (a.den l) (b.den l)=some t:=d;cases g:a.den l with
           |none=>rw[g]at d;cases d
           | some P=>
             cases m:b.den l with
             |none=>rw[g,m]at d;cases P<;>cases d
             | some tb=>
               rw[g,m]at d;unfold uc at d;split at d
               rename_i A k s D
               cases s;cases D;cases d;refine⟨l,_,e,g,λx H1 u G=>?_⟩;refine⟨l,_,e.same u,m,λy H2 n F=>⟨k,F,A,G.mono (Yh n),(e.1.same u).same n,λv W R U=>q v W (u.trans (n.trans R)) U⟩⟩
               simp_all
     replace h:mB Tm.ix (dS aL X.N X.env.scope f x) (dS aL X.N X.env.scope f i)=some E:=by cases i<;>first|exact h|exact absurd ⟨_,_,_,_,J⟩ hs
     obtain⟨a,b,r,B,rfl⟩:=Wp h;refine(zp (Em (S:=S)) (K _ a r) (K _ b B) (EQ B)).weak λw H Q ⟨l,t,e,d,q⟩=>?_;have d:xZ (a.den l) (b.den l)=some t:=d;cases g:a.den l with
     |none=>rw[g]at d;cases d
     | some P=>
       cases m:b.den l with
       |none=>rw[g,m]at d;cases P<;>cases d
       | some tb=>
         rw[g,m]at d;refine vG e g m λx y H2 n G F=>?_;unfold xZ at d;split at d
         rename_i A k s D
         cases s;cases D;split at d
         rename_i h0
         exact⟨A,k,t,G,F,h0,d,λv iv=>q v H2 n iv⟩
         simp_all
         simp_all
   |_=>cases h
noncomputable def Di:Str->Bool:=λ_=>false
inductive mS(tm:Tm)(σ:St)(H:Hp)(Q:VK):Prop|mk:∀S,pP S tm σ H Q->mS tm σ H Q
theorem Xs(b:Tm)(d:dS Di X.N X.env.scope 12 e=some b:=by kernel_rfl):PE X e (mS b):=λa s c H Q I ⟨S,h⟩=>ou (λ_ z=>by cases z) 12 e b d a s c H Q I h
end
theorem qy.at{o:HO}(x:qy P w H h a o):∃b,h.get? a=some b:=by cases o with|lst d=>obtain⟨_,_,_,_,e⟩:=x;exact⟨_,e⟩|tup d=>obtain⟨_,_,_,⟨b,e,_⟩,_⟩:=x;exact⟨_,e⟩|dK c=>obtain⟨_,_,_,_,o,_,_,e,_⟩:=x;exact⟨_,e⟩|dT c=>obtain⟨_,_,_,_,o,_,_,e,_⟩:=x;exact⟨_,e⟩|set S n=>obtain⟨o,_,_,_,e,_⟩:=x;exact⟨_,e⟩|ins C l g=>obtain⟨_,_,_,e,_⟩:=x;exact⟨_,e⟩|own y=>exact x|xd g=>obtain⟨_,⟨_,_,_,e,_⟩,_⟩:=x;exact⟨_,e⟩|rng lo k=>obtain⟨_,_,_,e⟩:=x;exact⟨_,e⟩|frz b u=>obtain⟨e,_⟩:=x;exact⟨_,e⟩|tbl j=>exact⟨_,(x)⟩|met f y=>exact⟨_,(x)⟩|ext i=>obtain⟨_,⟨o,e⟩,_⟩:=x;exact⟨_,e⟩
inductive eB(h:Heap)(a:Addr)(C:Value)(T:Addr):Prop|mk:∀oe vs oT ts a0,h.get? a=some oe->(oe.cls=C/\vs[0]?=some a0)->oe.data=.fields vs->vs[1]?=some (.ref T)->T≠a->h.get? T=some oT->oT.data=.fields ts->ts[3]?=some .none->eB h a C T
theorem Yr{h base a:Heap}:∀{l:List Env},h.FunFrames base l->(∀b∈bP l,a.get? b=none)->h.FunFrames a l
 |[],_,_=>trivial
 | m::r,d,k=>by
   obtain⟨j,⟨L,o,c,n,i,g⟩,f⟩:=d;refine⟨j,⟨L,o,c,k L ?_,i,g⟩,Yr f λb e=>k b ?_⟩;unfold bP
   simp_all
   unfold bP;rw[List.filterMap_cons,c];exact bn _ e
section
variable{M:Model}{e T0:Addr}{cls a0:Value}
theorem M7(i:A.frames=some (env::outer))(g:s.heap.FunFrames base (env::outer))(v:env.frame=some L)(he:s.heap.get? e=some oe)(w:oe.data=.fields vs)(y:vs[1]?=some .none)(B:vs[0]?=some a0)(h:∀h' T,eB h' e oe.cls T->s.heap.get? T=none->(∀b o,s.heap.get? b=some o->b≠e->b ∉ bP (env::outer)->h'.get? b=some o)-> (∀b∈bP (env::outer),∀o,s.heap.get? b=some o->∃sl,h'.get? b=some {o with slots:=sl})->Q () {s with heap:=h'}):wpAny M A (leaving env (.ref e)) Q E s:=by
 refine wpAny_leaving_firstW i (Yr g λb j=>W.hideAll_none _ (bn _ j)) v he (λb o q=>W.of_hideAll _ q) (W.hideAll_none _ bo) w y B λh' x=>?_;obtain⟨m,R,l,k⟩:=x;obtain⟨c,a,T,p,n,P,N,K,H,S,G,F,D,C⟩:=l;refine h h' T ⟨c,a,p,n,_,P,N,K,H,G,F,D,C⟩ ?_ (λb o q u t=>m b o (W.hideAll_get _ q λz=>(ak.mp z).elim u t)) (λb j o q=>k b o q ?_);cases q:s.heap.get? T with|none=>rfl| some o=>
   exfalso;by_cases hT:T∈e::bP (env::outer);rcases ak.mp hT with z|z
   grind
   obtain⟨_,r,d,f⟩:=g.mem z
   grind
   have:=W.hideAll_get _ q hT
   simp_all
 obtain⟨_,r,d,f⟩:=g.mem j
 simp_all
theorem MF(k:A.frames=some (env::outer))(j:s.heap.FunFrames base (env::outer))(D:env.frame=some L)(C:eB s.heap e cls T0)(h:∀h' T,eB h' e cls T->(s.heap.get? T=none\/T=T0)->(∀b o,s.heap.get? b=some o->b≠e->b≠T0->b ∉ bP (env::outer)->h'.get? b=some o)-> (∀b∈bP (env::outer),∀o,s.heap.get? b=some o->∃sl,h'.get? b=some {o with slots:=sl})->Q () {s with heap:=h'}):wpAny M A (leaving env (.ref e)) Q E s:=by
 obtain⟨u,r,f,c,a0,U,S,R,P,N,K,H,G⟩:=C;refine wpAny_leaving_nextW k (Yr j λb l=>W.hideAll_none _ (bn _ (bn _ l))) D
  ⟨u,r,T0,f,c,U,S,R,P,W.hideAll_none _ (bn _ bo),N,K,H,G⟩ (λb o q=>W.of_hideAll _ q) (W.hideAll_none _ bo) λh' F=>?_
 obtain⟨p,x2,n,m⟩:=F;obtain⟨d,a,T,v,t,a1,a2,a3,a4,a5,a6,a7,Z,X⟩:=n;refine h h' T ⟨d,a,v,t,_,a1,a2,a3,a4,a6,a7,Z,X⟩ ?_ (λb o q B y x=>p b o (W.hideAll_get _ q λz=>(ak.mp z).elim B λz=>(ak.mp z).elim y x)) (λb l o q=>m b o q ?_);cases q:s.heap.get? T with|none=>simp| some o=>
   by_cases hT:T∈e::T0::bP (env::outer);rcases ak.mp hT with z|z
   simp_all
   rcases ak.mp z with z|z
   simp_all
   exfalso;obtain⟨_,w,g,i⟩:=j.mem z
   grind
   have:=W.hideAll_get _ q hT
   simp_all
 obtain⟨_,w,g,i⟩:=j.mem l
 simp_all
end
inductive ft(P:Program)(w:World)(outer:List Env)(H:Hp)(s:Shared)(E:XK)(e:Value)(s':Shared):Prop|mk:∀a C T H',e=.ref a->eB s'.heap a (.ref C) T->s.heap.get? a=none->s.heap.get? T=none->H' a=none->H' T=none->s'.os=s.os->AllBare s'.gens->Un (bP outer) [] H H' s.heap s'.heap->cA P w H' s'.heap->E (.ref C) none H'->ft P w outer H s E e s'
section
variable{K:W.Frag}{E:XK}
theorem Il{T:Y}{Z:Y->Prop}(I:Inv (Xl CX P w K mg base N qual scope f cd A outer s₀ H₀ E) pins σ H s)(t:eB h' a (.ref C) T)(l:H a=none)(m:H T=none)(j:s₀.heap.get? a=none) (k:s₀.heap.get? T=none) (hZ:∀b,Z b->H b=none/\s₀.heap.get? b=none)
  (k1:∀b o,s.heap.get? b=some o->¬Z b->b ∉ bP (envOfC qual scope s₀.heap.objs.size f cd::outer)->h'.get? b=some o)
  (k2:∀b∈bP (envOfC qual scope s₀.heap.objs.size f cd::outer),∀o,s.heap.get? b=some o->∃sl,h'.get? b=some {o with slots:=sl}) (q:E (.ref C) none H):
  ft P w outer H₀ s₀ E (.ref a) {s with heap:=h'}:=by
 have g:∀{b:Y},b∈bP (envOfC qual scope s₀.heap.objs.size f cd::outer)->b=s₀.heap.objs.size\/b∈bP outer:=λ{b} d=>by
  have e:bP (envOfC qual scope s₀.heap.objs.size f cd::outer)=s₀.heap.objs.size::bP outer:=rfl
  simp_all
 have i:∀{b:Y},b∈bP outer->b∈bP (envOfC qual scope s₀.heap.objs.size f cd::outer):=λ{b} d=>bn _ d;have u:=I.base;have y:∀{b:Y}{o:Obj},s₀.heap.get? b=some o->¬Z b/\(b ∉ bP outer->b ∉ bP (envOfC qual scope s₀.heap.objs.size f cd::outer)):=λ{b o} e=>⟨(λz=>by simp_all),λn z=>(g z).elim (λz=>absurd (ax e) (by simp_all)) n⟩
 refine⟨a,C,T,H,J,t,j,k,l,m,I.os,I.bare,⟨λb o e n d hx=>?_,λb o e n d hx=>?_,u.free,λb o e hx=>?_,u.tups,u.frzs,u.tbls⟩,λb o e=>?_,q⟩;obtain⟨r,p⟩:=y e;exact k1 b o (u.keep b o e n d hx) r (p d);obtain⟨sl,x⟩:=u.slot b o e n d hx
 grind
 obtain⟨D,x⟩:=u.there b o e hx
 grind
 refine(I.hok b o e).stay (λc v F z=>?_) (λc z=>z) λc B z=>z;have h:H c≠none:=by grind
 refine k1 c v z (λz=>h (hZ c z).1) λz=>h (I.stkFree c z)
theorem AD{T c:Y}(I:Inv (Xl CX P w K mg base N qual scope f cd A outer s₀ H₀ E) pins σ H s)(l:eB h' a (.ref C) T)(i:H a=none)(k:H T=none)(j:H c=none)(d:s₀.heap.get? a=none) (h:s₀.heap.get? T=none) (g:s₀.heap.get? c=none)
  (k1:∀b o,s.heap.get? b=some o->b≠a->b≠c->b ∉ bP (envOfC qual scope s₀.heap.objs.size f cd::outer)->h'.get? b=some o)
  (k2:∀b∈bP (envOfC qual scope s₀.heap.objs.size f cd::outer),∀o,s.heap.get? b=some o->∃sl,h'.get? b=some {o with slots:=sl}) (q:E (.ref C) none H):
  ft P w outer H₀ s₀ E (.ref a) {s with heap:=h'}:=
 Il (Z:=λb=>b=a\/b=c) I l i k d h (λb m=>by grind) (λb o e n=>k1 b o e (λz=>n (.inl z)) λz=>n (.inr z)) k2 q
theorem ID{i:Heap}(I:Inv (Xl (ft P w) P w K mg base N qual scope f cd A outer s₀ H₀ E) pins σ H s)(m:Heap.MadeExcOf s.heap i a (.ref C) args)(q:E (.ref C) none H):(Xl (ft P w) P w K mg base N qual scope f cd A outer s₀ H₀ E).xe (.ref a) {s with heap:=i}:=by
 have g:=I.kept (t':=s.toks) m.keeps;obtain⟨t,r,v,B⟩:=m.there;have d:∀{b:Y},s.heap.get? b=none->s₀.heap.get? b=none:=λ{b} e=>by
  cases z:s₀.heap.get? b with|none=>rfl| some o=>
    obtain⟨u,D⟩:=(show Un (bP outer) [] H₀ H s₀.heap s.heap from I.base).there b o z (by simp)
    simp_all
 have c:∀{b:Y},s.heap.get? b=none->H b=none:=λ{b} e=>by
  cases z:H b with|none=>rfl| some o=>
    exfalso;have hx:=I.hok b o z;have x:=qy.at hx
    simp_all
 refine M7 g.ok.frames g.stack J r J J J λy T p hT n l=>?_;have h:s.heap.get? T=none:=by cases z:s.heap.get? T with|none=>rfl| some o=>rw[m.keeps T o z]at hT;omega
 exact AD g p (c m.new) (c h) (c m.new) (d m.new) (d h) (d m.new) (λb o e k _ j=>n b o e k j) l q
end
section
variable{K:W.Frag}{E:XK}
theorem Qu:Xo (ft P w) (Xl (ft P w) P w K mg base N qual scope f cd A outer s₀ H₀ E) E:=by
 intro B W H s e L I hx;obtain⟨a,C,T,x,rfl,U,M,F,r,j,os,l,G,p,q⟩:=hx;obtain⟨S,g,d,t,n⟩:=L;obtain rfl:n=s.os:=os;have m:=I.call (d':=d) (t':=t) G p l (λb z=>absurd z (by simp));have c:∀{b:Y},s.heap.get? b=none->s₀.heap.get? b=none:=λ{b} e=>by cases z:s₀.heap.get? b with|none=>rfl| some o=>obtain⟨D,h⟩:=(show Un (bP outer) [] H₀ H s₀.heap s.heap from I.base).there b o z (by simp);rw[e]at h;cases h
 refine MF m.ok.frames m.stack J U λX i v u R Q=>?_;have k:x i=none/\s₀.heap.get? i=none:=by
  rcases u with z|z;refine⟨?_,?_⟩;cases y:x i with|none=>rfl| some o=>
    exfalso;obtain⟨D,h⟩:=qy.at (m.hok i o y)
    rw[z]at h;cases h
  cases y:s₀.heap.get? i with|none=>rfl| some o=>exfalso;obtain⟨D,h⟩:=(show Un (bP outer) [] H₀ x s₀.heap S from m.base).there i o y (by simp);rw[z]at h;cases h
  rw[z];exact⟨j,c F⟩
 exact AD m v r k.1 j (c M) k.2 (c F) R Q q
end
structure dA(K:W.Frag)(mg:Str->Option Value)(base:Heap)(x:Str)(C:Addr):Prop where
 cls:OwnCls x C [.type "ValueError",.type "Exception",.type "BaseException",.type "object"] "ValueError.__new__" mg base
 keep:W.keepIn K (.ref C)=true
def FX(E:XK)(C:Addr):TS:=λ_ _ H=>E (.ref C) none H
theorem B6{K:W.Frag}{E:XK}{u a p:Pos} {k:Nat} {l:Str} (O:dA K mg base x C) (Q:Gl (Xl (ft P w) P w K mg base N qual scope f cd A outer s₀ H₀ E) x) (R:(x==("__debug__":Str))=false:=by decide):
  PS (Xl (ft P w) P w K mg base N qual scope f cd A outer s₀ H₀ E) (.Raise (some (.Call (.Name x u) [.Constant (.str l) k p] [] a)) none aE) (FX E C):=by
 intro b s o H D I h;obtain⟨tl,Nn,v,q,Z,c,t,sub,ab,i,X,G,F,B,z,y,mN,U,S,g,T⟩:=O.cls.obj;refine wpAny_Raise_call_subU (C:=C) (nm:=v) (q:=q) (N:=Nn) (bs:=Z) (hdct:=c) (sn:=t) (sub:=sub) (ab:=ab) (col:=i) (dd:=X) (k0:=G) (k1:=F) (k2:=B) (k3:=z) (k5:=y)
  PySem.F.excBase_ValueError (by decide+kernel) PySem.F.excBase_ValueError (T.hasType PySem.F.excBase_ValueError.hasBase) (I.ok.hd J) J g ?_
 refine W0 I Q O.cls.bound ⟨J,?_⟩ R;refine Calls.evalArgs_plain (aF ((zc zo zd) a b s o H (λj n=>j=[.str l]/\n=H) I ⟨J,J⟩) λus s1 L=>?_);obtain⟨j,n,d,r,rfl,rfl⟩:=L;have M:=r.length;exact⟨J,by rw[<-M];show 1<=sizeLine;decide,d.bk _ _ U,S.keeps d.bk,T.keeps d.bk,λh' e m=>ID d m h⟩
section
variable{M:Model}{g:Array GenState}{d:Drawn}{t:Nat}{os:OsState}{e:Addr}{Q:Bool->Shared->Prop}
theorem NL{nm q:Str}{N:Y}{bs:O I}{col:Option Bool}{k0 k1 k2 k3 k5:Option I}{nm' q':Str} {D:Y} {col':Option Bool} {j0 j1 j2 j3 j5:Option I}
  (l:h.get? C=some (excClassObj nm q C N bs bm hdct sn sub ab col dd k0 k1 k2 k3 k5 newId)) (j:h.get? D=some (excClassObj nm' q' D N' jX pX dB jS dU jY col' cY j0 j1 j2 j3 j5 dM))
  (he:h.get? e=some oe) (b:oe.cls=.ref C) (a:pX.contains (.type "BaseException")=true) (c:(Value.ref C::bm).contains (.ref D)=true)
  (k:Q true ⟨h,g,d,t,os⟩):wpAny M A (excMatches (.ref e) (.ref D)) Q E ⟨h,g,d,t,os⟩:=by
 have i:(Value.ref D::pX).contains (.type "BaseException")=true:=by rw[List.contains_cons,a,Bool.or_true]
 have f:=tc_notTuple;unfold excMatches
 repeat(first|(with_reducible refine wpAny_loadPart_at he ?_;rw[b])|with_reducible refine wpAny_loadPart_at j ?_|(with_reducible refine wpAny_isSubtype_exc j ?_;rw[i])|(with_reducible refine wpAny_isSubtype_exc l ?_;rw[c])|wp_step)
 exact k
end
section
variable{E:XK}{s':Shared}{e:Value}{R:Shared->Prop}
theorem IG(I:Inv X pins σ H s)(A:X.stack=env::outer)(hf:env.frame=some L)(hP:X.prog=P)(hw:X.w=w)(hx:ft P w X.stack H s E e s')(k:∀(a C T:Y) (m:Hp) (B:Shared),e=.ref a->E (.ref C) none m->Inv X pins σ m B->eB B.heap a (.ref C) T->m a=none->s.heap.get? a=none-> (∀(A':Around)(af:Value->Shared->Prop)(R':Shared->Prop),(∀F,Inv X pins σ m F->(∃oe,F.heap.get? a=some oe/\oe.cls=.ref C)->R' F)->wpAny (model P w) A' (setFlight (.ref a) none) (λ_ F=>R' F) af B)->R B):
  wpAny (model P w) X.A (noteFrame e env) (λ_ s2=>wpAny (model P w) X.A (setFlight e none) (λ_ B=>R B) Ex s2) Ex s':=by
 subst hP hw;obtain⟨a,C,T,m,rfl,fl,na,nT,S,a5,os,x,p,N,q⟩:=hx;obtain⟨D,g,d,t,aS⟩:=s';obtain rfl:aS=s.os:=os;have I':=I.call (d':=d) (t':=t) p N x (λb z=>absurd z (by simp));obtain⟨oe,vs,a3,av,a0,b1,b2,b3,b4,b5,b6,b7,b8⟩:=id fl;have hl:D.FunFrames X.base (env::outer):=by have:=I'.stack;rw[A]at this;exact this
 have a7:X.A.frames=some (env::outer):=by rw[<-A];exact I'.ok.frames
 have u:bP X.stack=bP (env::outer):=by rw[A]
 have a8:Heap.FlyingW (W.hideAll D (a::T::bP (env::outer))) (env::outer) a (.ref C) a0 D:=⟨λb o z=>W.of_hideAll _ z,W.hideAll_none _ bo,Yr hl λb f=>W.hideAll_none _ (bn _ (bn _ f)),⟨oe,vs,T,a3,av,b1,b2,b3,b4,W.hideAll_none _ (bn _ bo),b5,b6,b7,b8⟩⟩
 refine wpAny_looks_onW a7 hf a8 λh2 U u2=>?_;refine wpAny_landsW U λl h u3=>?_;have go:∀l:Heap,Heap.FlyingW (W.hideAll D (a::T::bP (env::outer))) (env::outer) a (.ref C) a0 l->D.UpToSlots l->Inv X pins σ m ⟨l,g,d,t,s.os⟩/\∃Z,eB l a (.ref C) Z:=λl h up=>by
  obtain⟨c1,c2,c3,a2,ah,Z,a4,aw,d1,d2,d3,d4,d5,d6,d7,d8,d9⟩:=h;have j:=λb o z K G n3=>c1 b o (W.hideAll_get _ z λy=>(ak.mp y).elim K λy=>(ak.mp y).elim G n3);have i:∀b∈bP (env::outer),∀o,D.get? b=some o->∃sl,l.get? b=some {o with slots:=sl}:=λb f o z=>by obtain⟨_,o2,Q,a6⟩:=hl.mem f;rw[z]at Q;cases Q;exact up b o z a6
  have ne:∀{b:Y}{o:Obj},s.heap.get? b=some o->b≠a/\b≠T:=λ{b o} z=>⟨(λy=>by rw[y,na]at z;cases z),(λy=>by rw[y,nT]at z;cases z)⟩
  have ap:Un (bP X.stack) [] H m s.heap l:=by rw[u]at p⊢;refine⟨λb o z n f hx=>?_,λb o z n f hx=>?_,p.free,λb o z hx=>?_,p.tups,p.frzs,p.tbls⟩;obtain⟨K,G⟩:=ne z;exact j b o (p.keep b o z n f hx) K G f;obtain⟨sl,e1⟩:=p.slot b o z n f hx;obtain⟨ay,e2⟩:=i b f _ e1;exact⟨ay,e2⟩;obtain⟨o1,e1⟩:=p.there b o z hx;obtain⟨K,G⟩:=ne z;by_cases f:b∈bP (env::outer);obtain⟨sl,e2⟩:=i b f o1 e1;exact⟨_,e2⟩;exact⟨o1,j b o1 e1 K G f⟩
  have M:cA X.prog X.w m l:=λb o z=>by
   refine(N b o z).stay (λc v hc y=>?_) (λc y=>y) λc xs y=>y;have tr:m c≠none:=by rcases hc with rfl|hc;rw[z];intro y;cases y;rw[hc];intro y;cases y
   refine j c v y (λy=>tr (by rw[y];exact S)) (λy=>tr (by rw[y];exact a5)) λy=>tr (I'.stkFree c (by rw[u];exact y))
  have I3:=I.call (d':=d) (t':=t) ap M x (λb z=>absurd z (by simp));exact⟨I3,Z,a2,ah,a4,aw,a0,d1,d2,d3,d4,d6,d7,d8,d9⟩
 obtain⟨I3,Z,a9⟩:=go l h (u2.trans u3);refine k a C Z m _ J q I3 a9 S na λA' af R' r=>?_;obtain⟨f1,f2,f3,f4⟩:=h;refine wpAny_setFlight_noneW f1 f3 f4.at λh4 k1 k2 k3 k4=>?_;obtain⟨I4,T4,a1,ba,_,_,_,e4,⟨e5,_⟩,_⟩:=go h4 ⟨k1,f2,k2,k3⟩ ((u2.trans u3).trans λb o f hn=>⟨o.slots,k4 b o f hn⟩);exact r _ I4 ⟨a1,e4,e5⟩
end
section
theorem GL{M:Model}{i:Nat}(I:Inv X pins σ H s)(hN:X.N.Nodup)(K:X.N[i]?=some x)(hk:X.env.scope.names.lookup x=some .local)(h:∀s',Inv X pins (σ.set i none) H s'->Q () s'):wpAny M A (do bindName X.env x .none;unbindBehindTheSuite X.env x aE) Q E s:=by
 obtain⟨m,G,hl⟩:=id I.loc;have l:(X.env.scope.kind==.class ||(X.env.scope.kind==.module && X.env.locals !=X.env.globals))=false:=by rw[I.ok.kind];rfl
 have g:i<σ.length:=by rw[I.len];exact(ci.mp K).1
 have r:=I.cne;refine wpAny_nameGoes_keeps hk G l λh' v w a=>?_;obtain⟨oL,_,_,af,_⟩:=id G;refine h _ ⟨I.ok,I.os,I.bare,⟨λb o e n C hx=>?_,λb o e n C hx=>?_,I.base.free,λb o e hx=>?_,I.base.tups,I.base.frzs,I.base.tbls⟩,⟨_,w,λj y L f u e3=>?_⟩,λy c e=>?_,I.free,I.freeC,λp Z=>?_,λb S e=>?_,by simpa using I.len⟩;exact(a.2 b (bj (ca (ax e) I.ok.above))).trans (I.base.keep b o e n C hx);obtain⟨P,f⟩:=I.base.slot b o e n C hx;exact⟨P,(a.2 b (bj (ca (ax e) I.ok.above))).trans f⟩;obtain⟨U,f⟩:=I.base.there b o e hx;exact⟨U,(a.2 b (bj (ca (ax e) I.ok.above))).trans f⟩;by_cases B:j=i;subst B;rw[List.getElem?_set_self g]at u;cases u;rw[List.getElem?_set_ne (au B)]at u;obtain⟨N,R,q⟩:=hl j y L f u e3;refine⟨N,R,?_⟩;rcases q with⟨k,e⟩|⟨k,c,e,z⟩;refine .inl ⟨k,?_⟩;have:y≠x:=λe=>B (xR hN f (e▸K));simp[this,e];exact .inr ⟨k,c,e,z.sameBut a (r y c e)⟩;obtain⟨D,z⟩:=I.cell y c e;exact⟨D,z.sameBut a (r y c e)⟩;obtain⟨e,n,F,W,d⟩:=I.pin p Z;exact⟨(a.2 p.1 F).trans e,n,F,W,d⟩;refine(I.hok b S e).stay (λc D t q=>(a.2 c ?_).trans q) (λ_ q=>q) λ_ _ q=>q;rintro rfl;rcases t with rfl|t;rw[I.free]at e;cases e;rw[I.free]at t;cases t
end
abbrev Cx.held(X:Cx)(e:Value):Cx:={X with A:=X.A.mark (some e),calm:=false}
theorem Inv.held{X:Cx}{a:O (Y×Obj)}{b:St}{H:Hp}{s:Shared}{e:Value}(I:Inv X a b H s):Inv (X.held e) a b H s:=⟨⟨I.ok.mod,I.ok.kind,I.ok.glob,I.ok.blt,I.ok.above,I.ok.inj,I.ok.has,I.ok.cab,(λz=>by cases z),I.ok.frames,I.ok.stk,I.ok.exf,I.ok.bs,I.ok.bsz,I.ok.noex,I.ok.exfs,I.ok.funs,I.ok.frf⟩,I.os,I.bare,I.base,I.loc,I.cell,I.free,I.freeC,I.pin,I.hok,I.len⟩
theorem Inv.unheld{e:Value}(a:X.calm=true->X.A.handled=none)(I:Inv (X.held e) pins σ H s):Inv X pins σ H s:=⟨⟨I.ok.mod,I.ok.kind,I.ok.glob,I.ok.blt,I.ok.above,I.ok.inj,I.ok.has,I.ok.cab,a,I.ok.frames,I.ok.stk,I.ok.exf,I.ok.bs,I.ok.bsz,I.ok.noex,I.ok.exfs,I.ok.funs,I.ok.frf⟩,I.os,I.bare,I.base,I.loc,I.cell,I.free,I.freeC,I.pin,I.hok,I.len⟩
theorem Kj{prog:Program}{e D:Y}{t:Expr}{n:Str}{i:Stmt}{b:O Stmt}{jh:O ExceptHandler}{Q:Flow->Shared->Prop}{nm q:Str} {N:Y} {bs:O I} {col:Option Bool} {k0 k1 k2 k3 k5:Option I}
  {nm' q':Str} {col':Option Bool} {j0 j1 j2 j3 j5:Option I}
  (j:pX.contains (.type "BaseException")=true) (r:(Value.ref C::bm).contains (.ref D)=true)
  (h :wpAny (model prog w) (A.mark (some (.ref e))) (eval t env) (λc a=>c=.ref D/\a.heap.get? C=some (excClassObj nm q C N bs bm hdct sn sub ab col dd k0 k1 k2 k3 k5 newId)/\ a.heap.get? D=some (excClassObj nm' q' D N' jX pX dB jS dU jY col' cY j0 j1 j2 j3 j5 dM)/\(∃oe,a.heap.get? e=some oe/\oe.cls=.ref C)/\
   wpAny (model prog w) (A.mark (some (.ref e))) (setFlight (.ref e) none) (λ_ s₂=> wpAny (model prog w) (A.mark (some (.ref e))) (storeName env n (.ref e)) (λ_ m=> wpAny (model prog w) (A.mark (some (.ref e))) (execs (i::b) env)
      (λf l=>wpAny (model prog w) A (do bindName env n .none;unbindBehindTheSuite env n aE) (λ_ k=>Q f k) E l)
      (AsSuiteRaised (model prog w) (A.mark (some (.ref e))) env n aE (notedBy (model prog w) (A.mark (some (.ref e))) env (cameBackBy (model prog w) A env E))) m) (notedBy (model prog w) (A.mark (some (.ref e))) env (cameBackBy (model prog w) A env E)) s₂) (notedBy (model prog w) (A.mark (some (.ref e))) env (cameBackBy (model prog w) A env E)) a) (notedBy (model prog w) (A.mark (some (.ref e))) env (cameBackBy (model prog w) A env E)) s):
  wpAny (model prog w) A (handleBy (.ref e) env (.ExceptHandler (some t) (some n) (i::b) aE::jh)) Q E s:=by refine wpAny_handleBy_cons (codeAny_handlers_test (cz h (λc a o=>?_) λ_ _ y=>y)) (by intro q;cases q);obtain⟨rfl,x,v,⟨oe,u,p⟩,hk⟩:=o;obtain⟨B,g,d,z,os⟩:=a;exact NL x v u p j r (codeAny_handlers_suite_as hk)
noncomputable def pj(a C:Addr):HO:=.ext λh=>∃o,h.get? a=some o/\o.cls=.ref C
section
theorem Inv.track(I:Inv X pins σ H s)(B:∃o,s.heap.get? a=some o/\o.cls=.ref C)(f:H a=none)(hs:X.s₀.heap.get? a=none)(y:a≠X.env.locals)(A:∀x c,X.env.cells.lookup x=some c->c≠a)(w:∀p∈X.pn++pins,p.1≠a):Inv X pins σ (upd H a (pj a C)) s:=by have u:=I.base;refine⟨I.ok,I.os,I.bare,⟨u.keep,u.slot,λb o e n hx=>?_,u.there,λb h e=>?_,λb o v e=>?_,λb t e=>?_⟩,I.loc,I.cell,?_,λx c e=>?_,λp j=>?_,λb o e=>?_,I.len⟩;rw[upd_ne (λz=>by simp_all)];exact u.free b o e n hx;rw[upd_ne (zn (u.tups b h e) f)];exact u.tups b h e;rw[upd_ne (zn (u.frzs b o v e) f)];exact u.frzs b o v e;obtain⟨d,z⟩:=u.tbls b t e;exact⟨d,by rw[upd_ne (zn z f)];exact z⟩;rw[upd_ne (au y)];exact I.free;rw[upd_ne (A x c e)];exact I.freeC x c e;obtain⟨g,m,D⟩:=I.pin p j;exact⟨g,by rw[upd_ne (w p j)];omega,D⟩;by_cases l:b=a;subst l;rw[zf]at e;cases e;obtain⟨i,g,m⟩:=B;exact⟨⟨i,g,m⟩,⟨i,g⟩,λg1 E ⟨o,r,q⟩ k=>⟨o,k o r,q⟩⟩;rw[upd_ne l]at e;exact(I.hok b o e).stay (λ_ _ _ z=>z) (λc z=>by rw[upd_ne (zn z f)];exact z) λc h z=>by rw[upd_ne (zn z f)];exact z
end
abbrev Cx.pinned(X:Cx)(pn:List (Addr×Obj)):Cx:={X with pn:=pn}
theorem Inv.pinIn(I:Inv X pins σ H s):Inv (X.pinned (X.pn++pins)) [] σ H s:=⟨⟨I.ok.mod,I.ok.kind,I.ok.glob,I.ok.blt,I.ok.above,I.ok.inj,I.ok.has,I.ok.cab,I.ok.hd,I.ok.frames,I.ok.stk,I.ok.exf,I.ok.bs,I.ok.bsz,I.ok.noex,I.ok.exfs,I.ok.funs,I.ok.frf⟩,I.os,I.bare,I.base,I.loc,I.cell,I.free,I.freeC,(λp a=>I.pin p (by simp_all)),I.hok,I.len⟩
theorem Inv.pinOut{b:O (Y×Obj)}(I:Inv (X.pinned (X.pn++pins)) b σ H s):Inv X pins σ H s:=⟨⟨I.ok.mod,I.ok.kind,I.ok.glob,I.ok.blt,I.ok.above,I.ok.inj,I.ok.has,I.ok.cab,I.ok.hd,I.ok.frames,I.ok.stk,I.ok.exf,I.ok.bs,I.ok.bsz,I.ok.noex,I.ok.exfs,I.ok.funs,I.ok.frf⟩,I.os,I.bare,I.base,I.loc,I.cell,I.free,I.freeC,(λp a=>I.pin p (fb _ a)),I.hok,I.len⟩
inductive Under(base:Heap)(C D:Addr):Prop|mk:∀nm q N bs bm hdct sn sub ab col dd k0 k1 k2 k3 k5 newId,base.get? C=some (excClassObj nm q C N bs bm hdct sn sub ab col dd k0 k1 k2 k3 k5 newId)->(Value.ref C::bm).contains (.ref D)=true->Under base C D
inductive fY(base:Heap)(D:Addr):Prop|mk:∀nm q N bs bm hdct sn sub ab col dd k0 k1 k2 k3 k5 newId,base.get? D=some (excClassObj nm q D N bs bm hdct sn sub ab col dd k0 k1 k2 k3 k5 newId)->bm.contains (.type "BaseException")=true->fY base D
section
variable{K:W.Frag}
theorem gm.okX{st:Stmt}{k:Nat}(F:gm K x qual st f fd)(S:aA N ps (zk st))(b:∀vs H Q E,sp vs H Q E->vs.length=ps.length)(a:∀(cdv:I) (A:Around) (outer:O Env) (s:Shared) (H:Hp) (vs:O V) (Q:VK) (E:XK),aP k (A.deeper (envOfC qual (zk st) s.heap.objs.size f cdv))->sp vs H Q E-> ∃t,dZ (Xl (ft P w) P w K mg base N qual (zk st) f cdv A outer s H E) (xj st) t/\t (.of Q) (start N vs) H):cF P w K mg base (ft P w) (k+1) f fd ps sp:=by obtain⟨m,l,kV,i,j,o,cdv,n,e,rfl,g,d⟩:=F.ex;exact zK g d S b λA outer s H vs Q E h c=>a cdv A outer s H vs Q E h c
inductive fG(P:Program)(w:World)(K:W.Frag)(mg:Str->Option Value)(base:Heap)(x:Str)(k:Nat)(ps:List Str)(sp:Sp):Prop|mk:∀f fd,cF P w K mg base (ft P w) k f fd ps sp->Y6 K fd ps []->W.keepIn K (.ref f)=true->mg x=some (.ref f)->fG P w K mg base x k ps sp
theorem sO{k:Nat}{E:XK}{p:Pos}{t:TA}(h:fG X.prog X.w X.K X.mg X.base x k ps sp)(hx:Xo (ft X.prog X.w) X E)(c:aP k X.A)(j:PA X (e::es) t)(g:Gl X x:=by rfl)
  (b:(x==("__debug__":Str))=false:=by decide) (he:starEach (e::es) X.env=(false,eval e X.env)::starEach es X.env:=by rfl) (a:(backTo aE (starEach es X.env)).any (·.1)=false:=by rfl):
  PE X (.Call (.Name x p) (e::es) [] aE) (qK sp [] E t):=by obtain⟨f,l,F,i,hk,d⟩:=h;exact AX F c g d hk i .nil hx j b he a
end
end L2
namespace PySem
open Sem (wp)
noncomputable def qn:List Str:=["__class__","__getattribute__","__getattr__","__init__"]
inductive bQ(h:Heap)(bmB:List Value):List Value->Prop|base:bQ h bmB bmB|own {A:Addr} {c0:Value} {dd:Option Addr} {cd:ClassData} {sl:Array (Option Value)} {mA:Str->Option Value} {tl:List Value}:
  h.get? A=some {cls:=c0,dict:=dd,data:=.cls cd,slots:=sl}->h.Ns cd.ns mA->(∀n∈qn,mA n=none)->bQ h bmB tl->bQ h bmB (.ref A::tl)
theorem bQ.hasType{h:Heap}{a c:List Value}(T:bQ h a c){X:String}{b:Bool}(e:a.contains (.type X)=b):c.contains (.type X)=b:=by induction T with|base=>exact e|own _ _ _ _ d=>rw[List.contains_cons,d];rfl
abbrev vE:List Value:=[.type "ValueError",.type "Exception",.type "BaseException",.type "object"]
theorem M8:typeLookup (.type "ValueError") "__class__"=pure (some (.builtin "object.__class__")):=by rw[typeLookup_type,builtinLookup_eq_fast];kernel_rfl
section
variable{M:Model}{prog:Program}{w:World}{A:Around}{E:Value->Shared->Prop}{h:Heap}{g:Array GenState}{d:Drawn}{t:Nat}{os:OsState}{a:Addr}{o:Obj}{nm q:Str} {C N:Addr} {bs bm:List Value} {hdct:Bool} {sn:List Str} {sub:List Value} {ab:Bool} {col:Option Bool} {dd:Option Addr} {k0 k1 k2 k3 k5:Option Value} {newId:String} {mN:Str->Option Value}
theorem Gb{c:List Value}{n:Str}{y:Option Value}{Q:Option Value->Shared->Prop}(i:n∈qn)(T:bQ h vE c)(a:lookupAlong vE n=pure y)(f:Q y ⟨h,g,d,t,os⟩):wpAny M A (lookupAlong c n) Q E ⟨h,g,d,t,os⟩:=by induction T with|base=>rw[a];exact ae f| own k j b _ e=>rw[lookupAlong_cons];refine aa (wpAny_classOwn_cls k j ?_);rw[b n i];exact e
theorem vD{n:Str}{y:Option I}{Q:Option I->Shared->Prop}(c:n∈qn)(e:h.get? C=some (excClassObj nm q C N bs bm hdct sn sub ab col dd k0 k1 k2 k3 k5 newId)) (j:h.Ns N mN) (b:∀n∈qn,mN n=none) (T:bQ h vE bm)
  (f:typeLookup (.type "ValueError") n=pure y) (i:Q y ⟨h,g,d,t,os⟩):wpAny M A (typeLookup (.ref C) n) Q E ⟨h,g,d,t,os⟩:=by
 have a:lookupAlong vE n=pure y:=by rw[typeLookup_eq,F.excBase_ValueError.mroIs]at f;exact f
 rw[typeLookup_eq];refine aa (wpAny_mroOf_exc e ?_);rw[lookupAlong_cons];refine aa (wpAny_classOwn_exc e j ?_);rw[b n c];exact Gb c T a i
theorem Ij{R:Result->Shared->Prop}(f:h.get? C=some (excClassObj nm q C N bs bm hdct sn sub ab col dd k0 k1 k2 k3 k5 newId))(T:bQ h vE bm)(hx:h.get? a=some o) (e:o.cls=.ref C) (i:R (.ok (.ret (.ref C))) ⟨h,g,d,t,os⟩):
  codeAny (model prog w) A (.call (.builtin "getset_descriptor.__get__") ⟨[.builtin "object.__class__",.ref a,.ref C],[]⟩) R ⟨h,g,d,t,os⟩:=by
 have c:=F.typeOf_object_class;have b:(Value.ref C::bm).contains (.type (".".intercalate ("object.__class__".cutAt '.').dropLast))=true:=by rw[F.owner_object_class,List.contains_cons,T.hasType (b:=true) (by decide+kernel)];rfl
 refine codeAny_call_builtin F.slot_gs_get.plain F.entry_gs_get (F.slot_gs_get.check _ _ _ _ _ _ _ _ c (F.args_gs_get _ _ _) ?_)
 repeat(any_goals (first|assumption|(with_reducible refine wpAny_loadPart_at hx ?_;rw[e])|(with_reducible refine wpAny_isSubtype_exc f ?_;rw[b])|wp_step))
 refine⟨Code.quiet_builtin _ (by decide+kernel),codeAny_builtin F.entry_object_class ?_⟩
 repeat(any_goals (first|assumption|(with_reducible refine wpAny_loadPart_at hx ?_;rw[e])|wp_step))
end
section
variable{M:Model}{prog:Program}{w:World}{A:Around}{E:Value->Shared->Prop}{h:Heap}{g:Array GenState}{d:Drawn}{t:Nat}{os:OsState}{a:Addr}{o:Obj}{nm q:Str} {C N:Addr} {bs bm:List Value} {hdct:Bool} {sn:List Str} {sub:List Value} {ab:Bool} {col:Option Bool} {dd:Option Addr} {k0 k1 k2 k3 k5:Option Value} {newId:String} {mN:Str->Option Value}
theorem L8{i:Tok}{Q:Fin->Shared->Prop}(f:h.get? C=some (excClassObj nm q C N bs bm hdct sn sub ab col dd k0 k1 k2 k3 k5 newId))(k:h.Ns N mN)(b:∀n∈qn,mN n=none)(T:bQ h vE bm)(hx:h.get? a=some o) (e:o.cls=.ref C) (l:Q (.done (.ret (.ref C))) ⟨h,g,d,t,os⟩):
  wpAny (model prog w) A (Builtin.«object.__getattribute__» ⟨[.ref a,.str "__class__" i],[]⟩) Q E ⟨h,g,d,t,os⟩:=by
 have j:(⟨h,g,d,t,os⟩:Shared).TypeIs (.builtin "object.__class__") "getset_descriptor":=F.typeOf_object_class;have r:=F.typeOf_object_class;have p:=F.slot_gs_get.lookup;have m:=F.slot_gs_set.lookup;have c:("__class__":Str)∈qn:=.head _
 repeat(any_goals (first|assumption|(with_reducible refine wpAny_loadPart_at hx ?_;rw[e])|with_reducible refine vD c f k b T M8 ?_|wp_step))
 refine Ij f T hx e ?_
 repeat(any_goals (first|assumption|wp_step))
theorem L7{b:I}{Q:Unit->Shared->Prop}(j:h.get? C=some (excClassObj nm q C N bs bm hdct sn sub ab col dd k0 k1 k2 k3 k5 newId))(T:bQ h vE bm)(hx:h.get? a=some o) (i:o.cls=.ref C) (f:Q () ⟨h,g,d,t,os⟩):wpAny M A (checkBuiltinCall "BaseException.__getattribute__" ⟨[.ref a,b],[]⟩) Q E ⟨h,g,d,t,os⟩:=by
 have hk:builtinKind "BaseException.__getattribute__"=some .slot:=by decide+kernel
 have c:splitId "BaseException.__getattribute__"=some ("BaseException","__getattribute__"):=by decide+kernel
 have e:(Value.ref C::bm).contains (.type "BaseException")=true:=by rw[List.contains_cons,T.hasType (X:="BaseException") (b:=true) (by decide+kernel)];rfl
 have k:=F.args_bexc_ga (.ref a) b;simp only[checkBuiltinCall,hk,c];refine aa ?_
 . unfold isInstance
   repeat(first|(with_reducible refine wpAny_loadPart_at hx ?_;rw[i])|(with_reducible refine wpAny_isSubtype_exc j ?_;rw[e])|wp_step)
   exact f
theorem KJ{f:Tok}{R:Result->Shared->Prop}(e:h.get? C=some (excClassObj nm q C N bs bm hdct sn sub ab col dd k0 k1 k2 k3 k5 newId))(j:h.Ns N mN)(b:∀n∈qn,mN n=none)(T:bQ h vE bm)(hx:h.get? a=some o) (c:o.cls=.ref C) (i:R (.ok (.ret (.ref C))) ⟨h,g,d,t,os⟩):
  codeAny (model prog w) A (.call (.builtin "BaseException.__getattribute__") ⟨[.ref a,.str "__class__" f],[]⟩) R ⟨h,g,d,t,os⟩:=
 codeAny_call_builtin F.attrBase_ValueError.ga.plain F.entry_bexc_ga (L7 e T hx c (L8 e j b T hx c i))
theorem Hj{l:Tok}{Q:I->Shared->Prop}(j:h.get? C=some (excClassObj nm q C N bs bm hdct sn sub ab col dd k0 k1 k2 k3 k5 newId))(i:h.Ns N mN)(b:∀n∈qn,mN n=none)(T:bQ h vE bm)(hx:h.get? a=some o) (k:o.cls=.ref C) (p:Q (.ref C) ⟨h,g,d,t,os⟩):
  wpAny (model prog w) A (getAttrBy (.ref a) (.str "__class__" l) false) Q E ⟨h,g,d,t,os⟩:=by
 have r:=F.attrBase_ValueError.ga.bind (.ref a);have c:(Value.builtin "BaseException.__getattribute__"==Value.builtin "object.__getattribute__")=false:=by decide+kernel
 have m:(onTheHeap (Value.ref C) && Value.builtin "BaseException.__getattribute__"==Value.builtin "object.__getattribute__")=false:=by rw[c];rfl
 have f:("__getattribute__":Str)∈qn:=.tail _ (.head _);have e:("__getattr__":Str)∈qn:=.tail _ (.tail _ (.head _))
 repeat(any_goals (first|assumption|(with_reducible refine wpAny_loadPart_at hx ?_;rw[k])|with_reducible refine vD f j i b T F.attrBase_ValueError.ga.lookup ?_|with_reducible refine vD e j i b T F.attrBase_ValueError.noGetattr ?_|wp_step))
 refine KJ j i b T hx k ?_
 repeat(any_goals (first|assumption|wp_step))
theorem KI{Q:Option I->Shared->Prop}(f:h.get? C=some (excClassObj nm q C N bs bm hdct sn sub ab col dd k0 k1 k2 k3 k5 newId))(e:h.Ns N mN)(b:∀n∈qn,mN n=none)(T:bQ h vE bm)(hx:h.get? a=some o) (c:o.cls=.ref C) (i:Q (some (.ref C)) ⟨h,g,d,t+1,os⟩):wpAny (model prog w) A (getAttr? (.ref a) "__class__") Q E ⟨h,g,d,t,os⟩:=by
 unfold getAttr? getAttrBy?
 repeat(any_goals (first|assumption|with_reducible apply Hj f e b T hx c|wp_step))
end
end PySem
namespace L2
open PySem PySem.Spec PyProof.Rows
variable{C a:Addr}{A:Around}{X:Cx}{H:Hp}{pins:List (Addr×Obj)}{es gg:List Expr}{ns:List Int}{cap:List Nat}{prog:Program}{s:Shared}{σ:St}{mg:Str->Option Value}{E:Value->Shared->Prop}{w:World}
inductive jL(K:W.Frag)(C:Addr):Prop|mk:∀nm q N bs bm hdct sn sub ab col dd k0 k1 k2 k3 k5 newId,K.lookup C=some (excClassObj nm q C N bs bm hdct sn sub ab col dd k0 k1 k2 k3 k5 newId)->(∀h:Heap,K.In h->(∃mN,h.Ns N mN/\∀n∈qn,mN n=none)/\bQ h vE bm)->jL K C
theorem BJ{K:W.Frag}(k:jL K C):W.KitX K (.ref a) (.ref C) (λh=>∃o,h.get? a=some o/\o.cls=.ref C):=by obtain⟨U,q,N,bs,bm,u,P,sub,ab,H,G,k0,k1,k2,k3,k5,b,c,r⟩:=k;refine⟨λM h X ⟨o,l,j⟩=>?_,λM h X p=>?_,λh L G B n R X f=>?_,λ{m w A E Q s} X p D=>?_⟩;exact j▸(W.Looks.ld l).andThen .now;intro A' Q' E' S y x;unfold isType loadHead;exact aa (wpAny_loadPart (y _ _ (X _ _ c)) (ae x));refine Bool.eq_false_iff.mpr λz=>?_;have e:=Value.ref.inj (beq_iff_eq.mp z);subst e;have z:=Option.some.inj ((X _ _ c).symm.trans f);have v:Value.type "type"=Value.type "tuple":=congrArg Obj.cls z;exact absurd v (by decide);obtain⟨o,l,j⟩:=p;obtain⟨⟨Z,F,i⟩,T⟩:=r s.heap X;obtain⟨hh,g,d,t,os⟩:=s;exact KI (X _ _ c) F i T l j D
inductive lf(K:W.Frag)(xs:List V)(H:Hp)(Q:VK):Prop|mk:∀a C b,H a=some (pj a C)->jL K C->((∃D,xs=[.ref a,.ref D]/\W.kitOne K (.ref C) (.ref D)=some b)\/(∃n,xs=[.ref a,.ty n]/\W.kitOne K (.ref C) (.type n)=some b))->Q (.bl b) H->lf K xs H Q
theorem Ck:Zg X (.builtin "isinstance") (lf X.K):=by
 intro g s l H m o Q I r h;obtain⟨a,C,b,j,k,h,q⟩:=h;obtain⟨p,_,_⟩:=(I.hok a _ j)
 rcases h with⟨D,rfl,e⟩|⟨n,rfl,e⟩;obtain⟨u,i,rfl,f,d⟩:=qM r;cases(f);cases(d);exact W.kia_one (BJ k) I.kIn p e (λz=>nomatch z) λc=>⟨.bl b,H,I.tok c,J,q⟩
 obtain⟨u,i,rfl,f,d⟩:=qM r;cases(f);cases(d);exact W.kia_one (BJ k) I.kIn p e (λz=>nomatch z) λc=>⟨.bl b,H,I.tok c,J,q⟩
structure bF(K:W.Frag)(C D:Addr):Prop where
 c:∃nm q N bs hdct sn sub ab col dd k0 k1 k2 k3 k5,K.lookup C=some (excClassObj nm q C N bs (.ref D::vE) hdct sn sub ab col dd k0 k1 k2 k3 k5 "ValueError.__new__")/\W.nsOkIn K N=true/\∀n∈qn,W.nsIn K N n=some none
 d:∃nm q N bs hdct sn sub ab col dd k0 k1 k2 k3 k5,K.lookup D=some (excClassObj nm q D N bs vE hdct sn sub ab col dd k0 k1 k2 k3 k5 "ValueError.__new__")/\W.nsOkIn K N=true/\∀n∈qn,W.nsIn K N n=some none
section
variable{K:W.Frag}{D:Addr}{base:Heap}{x:Str}
theorem bF.err(t:bF K C D):jL K C:=by obtain⟨p,q,N,Q,e,m,sub,R,l,H,w,v,u,s,r,k,d,g⟩:=t.c;obtain⟨i,o,S,y,M,z,L,x,f,P,G,F,E,B,A,j,a,b⟩:=t.d;exact⟨_,_,_,_,_,_,_,_,_,_,_,_,_,_,_,_,_,k,λh X=>⟨⟨h.nsMap N,.of_isNs (W.isNs_of_in X d),λn c=>W.nsMap_none_of_in X d (g n c)⟩,.own (X _ _ j) (.of_isNs (W.isNs_of_in X a)) (λn c=>W.nsMap_none_of_in X a (b n c)) .base⟩⟩
theorem bF.is(t:bF K C D)(X:K.In base):fY base D:=by obtain⟨b,d,p,f,n,g,m,e,a,o,l,k,j,i,h,c,_⟩:=t.d;exact⟨_,_,_,_,_,_,_,_,_,_,_,_,_,_,_,_,_,X _ _ c,by decide+kernel⟩
theorem bF.under(t:bF K C D)(X:K.In base):Under base C D:=by obtain⟨e,q,N,l,a,d,sub,m,c,k,j,i,h,g,f,b,_⟩:=t.c;exact⟨_,_,_,_,_,_,_,_,_,_,_,_,_,_,_,_,_,X _ _ b,by simp⟩
theorem bF.own(t:bF K C D)(X:K.In base)(k:mg x=some (.ref C))(hk:W.keepIn K (.ref C)=true):dA K mg base x C:=by obtain⟨o,q,N,Q,e,m,sub,R,l,H,v,u,s,r,p,j,c,g⟩:=t.c;obtain⟨h,n,S,y,M,z,L,w,f,P,G,F,E,B,A,i,a,b⟩:=t.d;have d:("__init__":Str)∈qn:=.tail _ (.tail _ (.tail _ (.head _)));exact⟨⟨k,_,_,_,_,_,_,_,_,_,_,_,_,_,_,_,_,_,X _ _ j,.of_isNs (W.isNs_of_in X c),W.nsMap_none_of_in X c (g _ d),.own (X _ _ i) (.of_isNs (W.isNs_of_in X a)) (W.nsMap_none_of_in X a (b _ d)) .base⟩,hk⟩
end
section
variable{e cD gr tg:Expr}{t:TE}{scope:Scope}{own:List Str}{aE:Pos}
end
mutual
noncomputable def aT:T->PyData|.non=>.none|.bl b=>.bool b|.int i=>.int i|.str x=>.str x|.tup ts=>.tuple (jd ts)|.lst ts=>.list (jd ts)|.dct=>.dict []
noncomputable def jd:List T->List PyData|[]=>[]|t::r=>aT t::jd r
end
section
mutual
theorem Yd(I:Inv X pins σ H s):∀{t:T}{v:V}{u:Value},(aT t).canLay0=true->Is H t v->yq v u->∃as,Reads s.heap u (aT t) as
 | .non,v,u,_,h,r=>by cases(show v=.non from h);cases(show u=Value.none from r);exact⟨_,by unfold aT;exact .none⟩
 | .bl b,v,u,_,h,r=>by cases(show v=.bl b from h);cases(show u=Value.bool b from r);exact⟨_,by unfold aT;exact .bool b⟩
 | .int i,v,u,_,h,r=>by
   cases(show v=.int i from h);obtain⟨t,rfl⟩:=(show∃t,u=Value.int i t from r)
   exact⟨_,by unfold aT;exact .int i t⟩
 | .str x,v,u,_,h,r=>by
   cases(show v=.str x from h);obtain⟨t,rfl⟩:=(show∃t,u=Value.str x t from r)
   exact⟨_,by unfold aT;exact .str x t⟩
 | .tup ts,v,u,l,h,r=>by obtain⟨a,xs,rfl,ha,hl⟩:=h;cases(show u=Value.ref a from r);obtain⟨its,rv,⟨o,e,c,n,d⟩,_⟩:=I.tuple (aG.of ha);obtain⟨as,ra⟩:=X3 I (by unfold aT PyData.canLay0 at l;exact l) hl rv;exact⟨_,by unfold aT;exact .tuple e c d (by simpa using ra)⟩
 | .lst ts,v,u,l,h,r=>by obtain⟨a,xs,rfl,ha,hl⟩:=h;cases(show u=Value.ref a from r);obtain⟨its,rv,⟨o,n,e,c,_,d⟩,_⟩:=I.list (aM.of ha);obtain⟨as,ra⟩:=X3 I (by unfold aT PyData.canLay0 at l;exact l) hl rv;exact⟨_,by unfold aT;exact .list e c d (by simpa using ra)⟩
 |.dct,v,u,l,h,r=>by unfold aT PyData.canLay0 at l;cases l
theorem X3(I:Inv X pins σ H s):∀{ts:List T}{xs:List V}{us:List Value},PyData.canLayAll0 (jd ts)=true->IsL H ts xs->yu xs us->∃as,ReadsAll s.heap us (jd ts) as| [],xs,us,_,h,r=>by cases(show xs=[]from h);cases r;exact⟨_,by unfold jd;exact .nil⟩| t ::ts,xs,us,l,h,r=>by obtain⟨v,vs,rfl,h1,h2⟩:=h;cases r with| cons r1 r2=>unfold jd PyData.canLayAll0 at l;rw[cp]at l;obtain⟨as,ra⟩:=Yd I l.1 h1 r1;obtain⟨bs,rb⟩:=X3 I l.2 h2 r2;exact⟨_,by unfold jd;exact .cons ra rb⟩
end
end
inductive xX(f:Bool->Bool)(x y:V)(H:Hp)(Q:VK):Prop|mk:∀t u,Is H t x->Is H u y->(aT t).canLay0=true->(aT u).canLay0=true->(aT t).depth<=20->Q (.bl (f (PyData.eqv (aT t) (aT u)))) H->xX f x y H Q
section
theorem Hl(n:X.A.units+64<cLine):bZ X (compareOp .NotEq) (xX (!·)):=by intro a s l H x y v u Q I f e h;obtain⟨t,m,k,j,c,b,d,q⟩:=h;obtain⟨as,i⟩:=Yd I c k f;obtain⟨o,g⟩:=Yd I b j e;exact SeqAt.compareNe_reads i g c b (by omega) ⟨.bl _,H,I,J,q⟩
theorem vQ(n:X.A.units+64<cLine):bZ X (compareOp .Eq) (xX id):=by intro a s l H x y v u Q I f e h;obtain⟨t,m,k,j,c,b,d,q⟩:=h;obtain⟨as,i⟩:=Yd I c k f;obtain⟨o,g⟩:=Yd I b j e;exact SeqAt.rcAt_reads i g c b (by omega) X.prog X.w _ _ ⟨.bl _,H,I,J,q⟩
end
noncomputable def iT(F:List Int):List T:=F.map T.int
theorem CL:(iT ns).length=ns.length:=ag ..
theorem Q4:∀ns:List Int,jd (iT ns)=ns.map PyData.int|[]=>by rfl| n::r=>by show jd (T.int n::iT r)=_;unfold jd;rw[Q4 r];rfl
theorem BK:∀ns:List Int,PyData.canLayAll0 (jd (iT ns))=true|[]=>rfl| n::r=>by show PyData.canLayAll0 (jd (T.int n::iT r))=true;unfold jd aT PyData.canLayAll0;rw[BK r];rfl
theorem CV:∀ns:List Int,PyData.depthAll (jd (iT ns))=0|[]=>rfl| n::r=>by show PyData.depthAll (jd (T.int n::iT r))=0;unfold jd aT PyData.depthAll;rw[CV r];rfl
theorem Ir:∀ns c:List Int,PyData.eqvAll (jd (iT ns)) (jd (iT c))=decide (ns=c):=λns c=>by
 rw[Q4,Q4];induction ns generalizing c with|nil=>cases c<;>rfl| cons a r d=>
   cases c with|nil=>rfl| cons b q=>
     simp only[c8,PyData.eqvAll,PyData.eqv,d q]
     grind
theorem IsL.ints{H:Hp}:∀{a:List Int}{xs:List V},IsL H (iT a) xs↔xs=a.map V.int|[],xs=>Iff.rfl| n::r,xs=>by constructor;rintro⟨v,d,rfl,c,b⟩;rw[IsL.ints.mp b,(c)];rfl;rintro rfl;exact⟨_,_,J,J,IsL.ints.mpr J⟩
theorem GV(a:O Int):(aT (.tup (iT a))).canLay0=true:=by unfold aT PyData.canLay0;exact BK a
noncomputable def tt(F U:List Int):T:=.tup [.tup (iT F),.tup (iT U)]
section
end
section
inductive lX(K:W.Frag)(o i:V)(H:Hp)(Q:VK):Prop|mk:∀p xs k v,o=.ref p->i=.int k->0<=k->aM K H p xs->xs[k.toNat]?=some v->Q v H->lX K o i H Q
theorem IW:yP X (lX X.K):=by intro b s n H o i x y Q I d e h;obtain⟨p,u,k,v,rfl,rfl,m,j,l,q⟩:=h;cases(d);obtain⟨t,rfl⟩:=e;obtain⟨g,r,f,z⟩:=I.list j;obtain⟨w,c,a⟩:=r.get l;have B:=r.length;have A:=Vs;have hk:=(ci.mp c).1;exact wpAny_getItem_list f.isList m (by omega) (by simpa using c) ⟨v,H,I,a,q⟩
inductive lZ(x:V)(ys:List V)(H:Hp)(Q:VK):Prop|mk:∀(l:Addr)(bs:List Bool),x=.ref l->ys=[.bl true]->H l=some (.lst (bs.map V.bl))->Q (.int ((bs.countP id:Nat):Int)) H->lZ x ys H Q
theorem wZ:∀bs:List Bool,(bs.map V.bl).all Qs=true|[]=>rfl|b::r=>by rw[c8,List.all_cons,wZ r];rfl
theorem wE:∀{bs:List Bool}{a:List Value},yu (bs.map V.bl) a->a.map (fF (.bl true))=bs|[],_,.nil=>rfl| b::r,_,.cons h t=>by rw[c8,wE t,uD h J];cases b<;>rfl
theorem Le:tU X "list.count" lZ:=by
 intro b s m H x o v p Q I d f h;obtain⟨l,c,rfl,rfl,k,q⟩:=h;cases(d);obtain⟨u,rfl,g⟩:=f.one;cases(g);obtain⟨z,a,n,r,t,e⟩:=I.lstM k;have j:a.toArray.toList.countP (fF (.bl true))=c.countP id:=by
  rw[List.toList_toArray]
  conv=>rhs;rw[<-wE r,List.countP_map]
  rfl
 refine call_meets PySem.F.slot_list_count ⟨_,e,J⟩ PySem.F.entry_list_count (PySem.F.args_list_count_2 _ _) (SeqAt.list_countAt l a.toArray n none #[] (.bool true) (fF (.bl true))) ⟨e,λy i=>We (x:=.bl true) J J r (wZ c) y (by simpa using i),?_⟩;rw[j];exact⟨.int _,H,I.tok _,⟨_,J⟩,q⟩
inductive lW(x:V)(ys:List V)(H:Hp)(Q:VK):Prop|mk:∀(l:Addr)(bs:List Bool)(j:Nat),x=.ref l->ys=[.bl true]->H l=some (.lst (bs.map V.bl))->bs[j]?=some true->(∀m,m<j->bs[m]?=some false)->Q (.int ((j:Nat):Int)) H->lW x ys H Q
theorem Lf:tU X "list.index" lW:=by
 intro k s F H x G v K Q I p t h;obtain⟨l,i,j,rfl,rfl,D,o,d,q⟩:=h;cases(p);obtain⟨u,rfl,w⟩:=t.one;cases(w);obtain⟨z,a,n,r,B,e⟩:=I.lstM D;rw[ag]at B z;have C:=(ci.mp o).1;have L:=Vs;have b:∀m (c:m<a.toArray.size),i[m]?=some (fF (.bl true) a.toArray[m]):=λm c=>by
  have E:=wE r;have f:m<a.length:=by simpa using c
  have:i[m]?=(a.map (fF (.bl true)))[m]?:=by rw[E]
  rw[this,bi,br f];simp
 refine call_meets PySem.F.slot_list_index ⟨_,e,J⟩ PySem.F.entry_list_index (PySem.F.args_list_index_2 _ _) (SeqAt.list_indexAt l a.toArray n none #[] (.bool true) (fF (.bl true)) j (by rw[cx];omega) (by omega) ?_ ?_) ⟨e,λy A=>We (x:=.bl true) J J r (wZ i) y (by simpa using A),?_⟩;have:=b j (by rw[cx];omega);rw[o]at this;exact(Option.some.inj this).symm;intro m c g;have:=b m c;rw[d m g]at this;exact(Option.some.inj this).symm;exact⟨.int _,H,I.tok _,⟨_,J⟩,q⟩
end
section
end
section
end
section
end
section
variable{b:Addr}{xs zs:List V}{g:TG}{tc:TT}{te:TE}{k:Nat}{Q:VK}
end
section
open Classical in
end
section
variable{o e:Expr}{to:TE}{t:TA}{name:Str}{apos cpos:Pos}{id:String}{r:V->List V->Hp->VK->Prop}
end
inductive rj(f:Bool->Bool)(x y:V)(H:Hp)(Q:VK):Prop|mk:∀t u,Is H t x->Is H u y->(aT t).canLay0=true->(aT u).canLay0=true->(aT u).depth<=20->Q (.bl (f (PyData.eqv (aT t) (aT u)))) H->rj f x y H Q
section
theorem JW(n:X.A.units+64<cLine):bZ X (compareOp .Eq) (rj id):=by intro a s l H x y v u Q I f e h;obtain⟨t,m,k,j,c,b,d,q⟩:=h;obtain⟨as,i⟩:=Yd I c k f;obtain⟨o,g⟩:=Yd I b j e;exact SeqAt.rcAt_reads i g c b (by omega) X.prog X.w _ _ ⟨.bl _,H,I,J,q⟩
end
end L2
namespace L2
open PySem PySem.Spec PyProof.Rows PySem.W
variable{A:Around}{p:Array Nat}{h:Heap}{gs:List (List Int)}{g:List Int}{vs:List Value}{prog:Program}{s:Shared}{E Q:Value->Shared->Prop}{w:World}
noncomputable def yp(lt:Nat->Nat->Bool){F:Type}:KasT F->F|.ret a=>a|.ask i j k=>yp lt (k (lt i j))
def Zd(n:Nat)(lt:Nat->Nat->Bool){F:Type}:KasT F->Prop|.ret _=>True|.ask i j k=>i<n/\j<n/\Zd n lt (k (lt i j))
section
variable{n:Nat}{lt:Nat->Nat->Bool}
theorem kh{a b:Type}{f:a->KasT b}:∀t:KasT a,yp lt (t.bind f)=yp lt (f (yp lt t))|.ret _=>rfl|.ask i j k=>kh (k (lt i j))
theorem Zo{a b:Type}{f:a->KasT b}:∀{t:KasT a},Zd n lt t->Zd n lt (f (yp lt t))->Zd n lt (t.bind f)|.ret _,_,h=>h|.ask i j k,h,g=>⟨h.1,h.2.1,Zo h.2.2 g⟩
theorem BI{b:Type}{a:Nat->Nat->(Bool->Shared->Prop)->Shared->Prop}{Q:b->Shared->Prop}{s:Shared}(c:∀i j,i<n->j<n->∀C:Bool->Shared->Prop,C (lt i j) s->a i j C s):∀{t:KasT b},Zd n lt t->Q (yp lt t) s->t.kasWp a Q s|.ret _,_,q=>q|.ask i j k,h,q=>c i j h.1 h.2.1 _ (BI c h.2.2 q)
def qf(n:Nat)(p:Array Nat):Prop:=p.toList.Perm (List.range n)
theorem qf.bd(h:qf n p)(b:0<n)(k:Nat):p.getD k 0<n:=by
 by_cases hk:k<p.size;have e:p.getD k 0=p[k]:=by simp[Array.getD,hk]
 rw[e];have a:p[k]∈p.toList:=by simp
 exact du.mp (h.mem_iff.mp a);have e:p.getD k 0=0:=by simp[Array.getD,hk]
 rw[e];exact b
theorem qf.rev(h:qf n p)(i j:Nat):qf n (kas_rev p i j):=(mirror_perm p i j _).toList.trans h
theorem qf.bub(h:qf n p)(i j:Nat):qf n (bubble p i j):=(bubble_perm p i j).toList.trans h
theorem uJ(a:0<n){p:Array Nat}(h:qf n p):∀f m,Zd n lt (kas_asc p f m)|0,_=>trivial| f+1,m=>by refine⟨h.bd a _,h.bd a _,?_⟩;dsimp only;split;trivial;exact uJ a h f (m+1)
theorem Kx(c:0<n):∀f {p:Array Nat} m q,qf n p->Zd n lt (kas_desc f p m q)/\qf n (yp lt (kas_desc f p m q)).1|0,_,_,_,h=>⟨trivial,h⟩| f+1,p,m,q,h=>by unfold kas_desc;show(_/\_/\Zd n lt (ite _ _ _))/\qf n (yp lt (ite _ _ _:KasT (Array Nat×Nat×Nat))).1;split;split;obtain⟨a,b⟩:=Kx c f (m+1) 0 (h.rev (m-(q+1)) m);exact⟨⟨h.bd c _,h.bd c _,a⟩,b⟩;obtain⟨a,b⟩:=Kx c f (m+1) 0 h;exact⟨⟨h.bd c _,h.bd c _,a⟩,b⟩;show(_/\_/\(_/\_/\Zd n lt (ite _ _ _)))/\qf n (yp lt (ite _ _ _:KasT (Array Nat×Nat×Nat))).1;split;exact⟨⟨h.bd c _,h.bd c _,h.bd c _,h.bd c _,trivial⟩,h⟩;obtain⟨a,b⟩:=Kx c f (m+1) (q+1) h;exact⟨⟨h.bd c _,h.bd c _,h.bd c _,h.bd c _,a⟩,b⟩
theorem BT(a:0<n)(h:qf n p)(m r:Nat):Zd n lt (kas_tail3 m r p)/\qf n (yp lt (kas_tail3 m r p)).2:=by unfold kas_tail3;refine⟨Zo (uJ a (h.rev 0 m) _ _) trivial,?_⟩;rw[kh];exact h.rev 0 m
theorem Kd(c:0<n)(h:qf n p)(m r:Nat):Zd n lt (kas_descPart m r p)/\qf n (yp lt (kas_descPart m r p)).2:=by
 unfold kas_descPart;obtain⟨a,b⟩:=Kx c (r-(m+1)) (m+1) 0 h;generalize kas_desc (r-(m+1)) p (m+1) 0=t at a b;have d:Zd n lt (if(yp lt t).2.2>0 then kas_tail3 (yp lt t).2.1 r (kas_rev (yp lt t).1 ((yp lt t).2.1-((yp lt t).2.2+1)) (yp lt t).2.1)else kas_tail3 (yp lt t).2.1 r (yp lt t).1)/\
   qf n (yp lt (if(yp lt t).2.2>0 then kas_tail3 (yp lt t).2.1 r (kas_rev (yp lt t).1 ((yp lt t).2.1-((yp lt t).2.2+1)) (yp lt t).2.1)else kas_tail3 (yp lt t).2.1 r (yp lt t).1)).2:=by split;exact BT c (b.rev _ _) _ _;exact BT c b _ _
 refine⟨Zo a d.1,?_⟩;rw[kh];exact d.2
theorem Ik(b:0<n)(h:qf n p)(r:Nat):Zd n lt (kas_count r p)/\qf n (yp lt (kas_count r p)).2:=by
 unfold kas_count;have a:=uJ (lt:=lt) b h (r-1) 1;generalize kas_asc p (r-1) 1=t at a;generalize e:yp lt t=m;have d:Zd n lt (if(m==r)=true then KasT.ret (m,p)else if m>1 then KasT.ask (p.getD 0 0) (p.getD (m-1) 0) λc=>if c=true then KasT.ret (m,p)else kas_descPart m r (kas_rev p 0 m)else kas_descPart m r p)/\
   qf n (yp lt (if(m==r)=true then KasT.ret (m,p)else if m>1 then KasT.ask (p.getD 0 0) (p.getD (m-1) 0) λc=>if c=true then KasT.ret (m,p)else kas_descPart m r (kas_rev p 0 m)else kas_descPart m r p)).2:=by split;exact⟨trivial,h⟩;split;show(_/\_/\Zd n lt (ite _ _ _))/\qf n (yp lt (ite _ _ _:KasT (Nat×Array Nat))).2;split;exact⟨⟨h.bd b _,h.bd b _,trivial⟩,h⟩;obtain⟨x,y⟩:=Kd b (h.rev 0 m) m r;exact⟨⟨h.bd b _,h.bd b _,x⟩,y⟩;exact Kd b h m r
 subst e;refine⟨Zo a d.1,?_⟩;rw[kh];exact d.2
theorem xF(a:0<n){p:Array Nat}(h:qf n p)(k:Nat):∀f l r,Zd n lt (kas_place p k f l r)|0,_,_=>trivial| f+1,l,r=>by unfold kas_place;split;trivial;refine⟨h.bd a _,h.bd a _,?_⟩;dsimp only;split;exact xF a h k f _ _;exact xF a h k f _ _
theorem zX(c:0<n):∀f {p:Array Nat} k,qf n p->Zd n lt (kas_bin f p k)/\qf n (yp lt (kas_bin f p k))|0,_,_,h=>⟨trivial,h⟩| f+1,p,k,h=>by unfold kas_bin;obtain⟨a,b⟩:=zX c f (k+1) (h.bub k (k-yp lt (kas_place p k k 0 k)));refine⟨Zo (xF c h k k 0 k) a,?_⟩;rw[kh];exact b
theorem A8(d:0<n):Zd n lt (kas_sort n)/\qf n (yp lt (kas_sort n)):=by
 unfold kas_sort;have e:qf n (List.toArray (List.range n)):=List.Perm.refl _;obtain⟨a,b⟩:=Ik d e n;generalize kas_count n (List.toArray (List.range n))=t at a b;have c:Zd n lt (if(yp lt t).1<n then kas_bin (n-max (yp lt t).1 1) (yp lt t).2 (max (yp lt t).1 1)else KasT.ret (yp lt t).2)/\
   qf n (yp lt (if(yp lt t).1<n then kas_bin (n-max (yp lt t).1 1) (yp lt t).2 (max (yp lt t).1 1)else KasT.ret (yp lt t).2)):=by split;exact zX d _ _ b;exact⟨trivial,b⟩
 refine⟨Zo a c.1,?_⟩;rw[kh];exact c.2
end
structure oZ(P:Program)(w:World)(h:Heap)(vs:List Value)(κ:SortKind)(lt:Nat->Nat->Bool):Prop where
 kind:∀(A:Around)(s:Shared)(E:Value->Shared->Prop)(Q:SortKind->Shared->Prop),(∀b o,h.get? b=some o->s.heap.get? b=some o)->Q κ s->wpAny (model P w) A (keyKind' vs.toArray) Q E s
 ask:∀i j,i<vs.length->j<vs.length->∀(A:Around)(s:Shared)(E:Value->Shared->Prop)(Q:Bool->Shared->Prop),(∀b o,h.get? b=some o->s.heap.get? b=some o)->Q (lt i j) s->wpAny (model P w) A (keyLt' κ (vs.getD i Value.none) (vs.getD j Value.none)) Q E s
theorem NX{a:Type}(vs:O a)(d:a):(List.range vs.length).map (λi=>vs.getD i d)=vs:=by refine List.ext_getElem (by simp) λi c b=>?_;have e:=br b;simp[e]
section
variable{h0:Heap}{κ:SortKind}{lt:Nat->Nat->Bool}
noncomputable def ku(lt:Nat->Nat->Bool)(vs:List Value):List Value:=if vs.length<2 then vs else(yp lt (kas_sort vs.length)).toList.map λi=>vs.getD i Value.none
theorem V6:(ku lt vs).Perm vs:=by
 unfold ku;split;exact List.Perm.refl _
 rename_i h
 have p:=(A8 (n:=vs.length) (lt:=lt) (by omega)).2;exact(List.Perm.map (λi=>vs.getD i Value.none) p).trans (List.Perm.of_eq (NX vs Value.none))
theorem Nt{a:Y}{n:Nat}{P:PySem.Fin->Shared->Prop}(t:s.heap.get? a=some (seqObj "list" vs.toArray n))(v:vs.length<64)(O:2<=vs.length->oZ prog w h0 vs κ lt)(hk:∀b o,h0.get? b=some o->b≠a/\s.heap.get? b=some o) (h:P (.done (.ret .none)) {s with heap:=sortedHeap s.heap a vs (ku lt vs).toArray}):
  wpAny (model prog w) A (Builtin.«list.sort» ⟨[.ref a],[]⟩) P E s:=by
 rw[list_sort_plain];refine aa (listItems_at t J (aa (listUpdate_at t J ?_ (by rw[cx,sizeLine_eq];omega) (bf _))));have r:=get?_update_seq t (λ_=>(#[]));generalize (if(#[]).size==vs.toArray.size then n else n+1)=z at r;refine aa (seqEpoch_at r J (aa (wpAny_newTuple (aa (wpAny_newList (wpAny_holding ?_) (bf _))) (by show vs.length<=_;rw[sizeLine_eq];omega))));have m:(((s.heap.update a (Obj.mapSeq λ_=>(#[]))).push (seqObj "tuple" vs.toArray 0)).push (seqObj "list" #[] 0)).get? a=some (seqObj "list" #[] z):=be _ (be _ r);have B:∀b o,h0.get? b=some o->(((s.heap.update a (Obj.mapSeq λ_=>(#[]))).push (seqObj "tuple" vs.toArray 0)).push (seqObj "list" #[] 0)).get? b=some o:=λb o e=>by obtain⟨K,z⟩:=hk b o e;exact be _ (be _ (by rw[Heap.get?_update_ne _ _ _ _ K];exact z))
 dsimp only;by_cases q:vs.length<2;have d:vs.toArray.size<2:=by rw[cx];exact q
 have y:ku lt vs=vs:=by unfold ku;rw[if_pos q]
 rw[if_pos d,if_pos d];refine aa (ae ?_);rw[StateT.run_pure];refine aa (ae ?_);have f:(arrOf (SortSt.mk' general' (vs.toArray.zip vs.toArray) #[] 7 none)).map (·.2)=vs.toArray:=by show(vs.toArray.zip vs.toArray).map (·.2)=vs.toArray;refine Array.ext (by simp) λi W G=>by simp
 rw[f];refine aa (seqEpoch_at m J (aa (listUpdate_at m J ?_ (bf _) (by rw[cx,sizeLine_eq];omega))));simp only[bne_self_eq_false,Bool.false_eq_true,if_false];rw[y]at h;exact ae h;have d:¬vs.toArray.size<2:=by rw[cx];exact q
 have O:=O (by omega);have y:ku lt vs=(yp lt (kas_sort vs.length)).toList.map λi=>vs.getD i Value.none:=by unfold ku;rw[if_neg q]
 obtain⟨H,U⟩:=A8 (n:=vs.length) (by omega);rw[if_neg d,if_neg d];refine aa (O.kind _ _ _ _ B ?_);generalize D:({s with heap:=(((s.heap.update a (Obj.mapSeq λ_=>(#[]))).push (seqObj "tuple" vs.toArray 0)).push (seqObj "list" #[] 0))}:Shared)=S at *;have l:S.heap=(((s.heap.update a (Obj.mapSeq λ_=>(#[]))).push (seqObj "tuple" vs.toArray 0)).push (seqObj "list" #[] 0)):=by rw[<-D]
 have run:=kat_run (A:=A) (E:=E) (G:=λp g=>g=S/\p=yp lt (kas_sort vs.length))
  (Q:=λc g=>g=S/\failedOf c=none/\arrOf c=(yp lt (kas_sort vs.length)).map (kas_item (vs.toArray.zip vs.toArray))) J (by omega) v
  (λp c g _ G R F=>⟨F.1,R,by rw[<-F.2];exact G⟩)
  (BI (λi j M L C Q=>O.ask i j M L _ _ _ _ (by rw[l];exact B) Q) H ⟨J,J⟩)
 refine aa (cz run ?_ λ_ _ x=>x);rintro⟨⟨⟩,c⟩ g ⟨rfl,N,u⟩;have f:(arrOf c).map (·.2)=(ku lt vs).toArray:=by rw[y];exact kat_snds J u
 have k:(ku lt vs).length=vs.length:=V6.length_eq;rw[f];rw[<-l]at m;refine aa (seqEpoch_at m J (aa (listUpdate_at m J ?_ (bf _) (by rw[cx,k,sizeLine_eq];omega))));rw[N];simp only[bne_self_eq_false,Bool.false_eq_true,if_false];rw[<-D];exact ae h
theorem LX{l:Y}(g:s.heap.IsList l vs.toArray)(d:vs.length<64)(O:2<=vs.length->oZ prog w s.heap vs κ lt)(h:Q (.ref (s.heap.objs.size+1)) {s with heap:=sortedAll s.heap vs (ku lt vs).toArray}):wpAny (model prog w) A (call (.builtin "sorted") [.ref l]) Q E s:=by
 refine Calls.call_function_entry kind_sorted plain_sorted entry_sorted (args_sorted1 _) ?_;unfold Builtin.«sorted»;refine aa (ae (aa (collect_list g (aa (wpAny_newList ?_ (by rw[sizeLine_eq];omega))) (by rw[sizeLine_eq];omega))));have c:((s.heap.push (seqObj "list" #[] 0)).update s.heap.objs.size (Obj.mapSeq (· ++vs.toArray))).objs.size=s.heap.objs.size+1:=by rw[Heap.size_update,size_push']
 have f:(((s.heap.push (seqObj "list" #[] 0)).update s.heap.objs.size (Obj.mapSeq (· ++vs.toArray))).push (seqObj "list" vs.toArray 0)).get? (s.heap.objs.size+1)=some (seqObj "list" vs.toArray 0):=by rw[<-c];exact bx _ J
 rw[c];refine aa (wpAny_holding (cy slot_list_sort ⟨_,f,J⟩ entry_list_sort (Nt f d O (λb o e=>?_) ⟨_,J,ae ⟨_,J,h⟩⟩) (args_list_sort _)));have a:=ax e;refine⟨bj (Nat.lt_succ_of_lt a),?_⟩;rw[Heap.get?_push_ne _ _ _ (by rw[c];exact bj (Nat.lt_succ_of_lt a)),Heap.get?_update_ne _ _ _ _ (bj a),Heap.get?_push_ne _ _ _ (bj a)];exact e
end
noncomputable def tI(g:List Int):T:=.tup (iT g)
noncomputable def qH(F:Bool):List Int->List Int->Bool|p::r,q::t=>if(p==q)=true then qH F r t else decide (p<q)|_,_=>F
def mz(h:Heap)(v:Value)(g:List Int):Prop:=∃a o n,∃us:List Value,v=.ref a/\h.get? a=some o/\o.cls=.type "tuple"/\o.data=.seq us.toArray n/\yu (g.map V.int) us
theorem Nl{g f:Type}{R:g->f->Prop}:∀{c b:List f},b.Perm c->∀{xs:List g},Paired R xs c->∃a,a.Perm xs/\Paired R a b:=by
 intro c b p;induction p with
 |nil=>exact λh=>⟨_,List.Perm.refl _,h⟩
 | cons u p o=>
   intro xs h;cases h with
   | cons r t=>obtain⟨a,q,x⟩:=o t;exact⟨_::a,q.cons _,.cons r x⟩
 | swap u v l=>
   intro xs h;cases h with
   | cons r t=>cases t with
     |cons k j=>exact⟨_,List.Perm.swap _ _ _,.cons k (.cons r j)⟩
 | trans p q e d=>intro xs h;obtain⟨y,n,w⟩:=d h;obtain⟨i,m,s⟩:=e w;exact⟨i,m.trans n,s⟩
theorem IsL.perm{H:Hp}{xs d:List V}(p:d.Perm xs):∀{a:List T},IsL H a xs->∃b,b.Perm a/\IsL H b d:=by
 induction p with
 |nil=>exact λh=>⟨_,List.Perm.refl _,h⟩
 | cons u p n=>
   intro a h;cases a with
   |nil=>cases h
   | cons t a=>obtain⟨v,w,e,f,c⟩:=h;cases e;obtain⟨b,q,s⟩:=n c;exact⟨t::b,q.cons t,u,_,J,f,s⟩
 | swap u v l=>
   intro a h;cases a with
   |nil=>cases h
   | cons t a=>
     obtain⟨_,_,e,f,c⟩:=h;cases e;cases a with
     |nil=>cases c
     | cons g a=>obtain⟨_,_,e,r,o⟩:=c;cases e;exact⟨g::t::a,List.Perm.swap _ _ _,_,_,J,r,_,_,J,f,o⟩
 | trans p q j i=>intro a h;obtain⟨x,m,f⟩:=i h;obtain⟨g,k,c⟩:=j f;exact⟨g,k.trans m,c⟩
theorem JC{g d:Type}{f:g->d}{j:List d}{l:List d}(p:j.Perm l):∀{xs:List g},l=xs.map f->∃a:List g,j=a.map f/\a.Perm xs:=by
 induction p with
 | nil=>simp
 | cons u p o=>
   intro xs e;cases xs with
   |nil=>cases e
   | cons x xs=>injection e with c b;obtain⟨a,w,q⟩:=o b;exact⟨x::a,by simp_all,q.cons x⟩
 | swap u v l=>
   intro xs e
   match xs,e with
   | x::y::xs,e=>injection e with c b;injection b with s r;exact⟨y::x::xs,by rw[c,s,r];rfl,List.Perm.swap _ _ _⟩
 | trans p q i h=>intro xs e;obtain⟨t,c,n⟩:=h e;obtain⟨k,b,m⟩:=i c;exact⟨k,b,m.trans n⟩
section
theorem Bw{b a:Bool}{Q:Bool->Shared->Prop}:∀{g h:List Int}{f d:List Value}(i:Nat),yu (g.map V.int) f->yu (h.map V.int) d->Q (qH a g h) s->KatLex prog w A b a Q (f.zip d) i s|[],_,_,_,i,.nil,_,q=>q|_::_,[],_,_,i,.cons _ _,.nil,q=>q| p::r,e::t,_,_,i,.cons m l,.cons k j,q=>by obtain⟨x,rfl⟩:=m;obtain⟨y,rfl⟩:=k;refine kat_cons (wpAny_eqBool_int ?_);have q:Q (if(p==e)=true then qH a r t else decide (p<e)) s:=q;by_cases c:(p==e)=true;rw[if_pos c]at q;rw[c];exact kat_yes (Bw (i+1) l j q);rw[if_neg c]at q;rw[Bool.eq_false_iff.mpr c];refine kat_no ?_;cases n:(b && i==0)with|true=>exact oneLt_int q|false=>exact kat_one _ _ (PyProof.Rows.lt_int q)
theorem mz.keep{h':Heap}{v:I}(t:mz h v g)(k:∀b o,h.get? b=some o->h'.get? b=some o):mz h' v g:=by obtain⟨a,o,n,c,e,d,r⟩:=t;exact⟨a,o,n,c,e,k _ _ d,r⟩
theorem C1{h:Heap}:∀{d:List (List Int)}{vs:List Value},Paired (λg v=>mz h v g) d vs->(∀g∈d,g≠[])->∃fs,KatTups h vs fs/\fs.length=vs.length/\∀f∈fs,∃i t,f=Value.int i t
 |_,_,.nil,_=>⟨[],trivial,J,λf c=>by grind⟩
 | g ::d,v::vs,.cons x w,b=>by
   obtain⟨fs,k,l,A⟩:=C1 w λy p=>b y (bn _ p);obtain⟨a,o,n,z,rfl,m,s,q,j⟩:=x;cases g with
   |nil=>simp_all
   | cons i g=>
     cases j with
     | cons r t=>
       rename_i u e
       refine⟨u::fs,KatTups.cons m s q (by simp) k,by grind,λf c=>?_⟩;rcases ak.mp c with rfl|c;obtain⟨t,rfl⟩:=r;simp
       simp_all
theorem Lp(P:Paired (λg v=>mz h v g) gs vs)(d:∀g∈gs,g≠[])(K:2<=vs.length):oZ prog w h vs (tuples' true) (λi j=>qH (decide ((gs.getD i []).length<(gs.getD j []).length)) (gs.getD i []) (gs.getD j [])):=by
 have m:∀i,i<vs.length->mz h (vs.getD i Value.none) (gs.getD i []):=by
  clear d K;induction P with
  |nil=>simp
  | cons r t H=>grind
 constructor;intro A s E Q k q;obtain⟨b,c,l,x⟩:=C1 P d;have y:KatTups s.heap vs b:=by
  clear l x m q K d P
  revert b
  induction vs with
  | nil=>intro b c;cases b with
    |nil=>trivial
    |cons=>exact c.elim
  | cons v vs H=>intro b c;cases b with
    |nil=>exact c.elim
    | cons f b=>obtain⟨⟨a,o,L,n,e,B,r⟩,c⟩:=c;exact⟨⟨a,o,L,n,e,k _ _ B,r⟩,H b c⟩
 refine kat_kind (T:=.type "int") y (by omega) (λv u=>?_) (by rfl) q;obtain⟨i,t,rfl⟩:=x v u;exact Looks.now;intro i j x N A s E Q k q;obtain⟨a,o,n,W,U,B,hc,R,u⟩:=(m i x).keep k;obtain⟨a',X,Z,M,D,z,S,C,p⟩:=(m j N).keep k;rw[U,D];have G:=u.length;have F:=p.length;rw[ag]at G F;refine kat_lt B R z C ?_;rw[cx,cx,<-G,<-F];exact Bw 0 u p q
end
section
variable{X:Cx}
theorem IsL.tupI{b:List (Addr×Obj)}{l:St}{H:Hp}{s:Shared}(I:Inv X b l H s):∀{j:List (List Int)}{xs:List V}{f:List Value},IsL H (j.map tI) xs->yu xs f->Paired (λg v=>mz s.heap v g) j f| [],xs,f,h,r=>by cases(h);cases r;exact .nil| g ::j,xs,f,h,r=>by obtain⟨v,y,rfl,w,u⟩:=h;cases r with| cons p m=>refine .cons ?_ (IsL.tupI I u m);obtain⟨a,x,rfl,t,q⟩:=w;cases(p);obtain⟨i,k,⟨o,e,c,n,d⟩,_⟩:=I.tuple (aG.of t);rw[IsL.ints.mp q]at k;exact⟨a,o,n,i,J,e,c,d,k⟩
inductive iJ(K:W.Frag)(as:List V)(H:Hp)(Q:VK):Prop|mk:∀(p:Addr)(gs:List (List Int))(xs:List V),as=[.ref p]->aM K H p xs->IsL H (gs.map tI) xs->(∀g∈gs,g≠[])->gs.length<64->(∀(gs':List (List Int))(xs':List V)(l:Addr),gs'.Perm gs->IsL H (gs'.map tI) xs'->H l=none->Q (.ref l) (upd H l (.lst xs')))->iJ K as H Q
theorem L6:Zg X (.builtin "sorted") (iJ X.K):=by
 intro x s P H as S Q I r h;obtain⟨p,g,R,rfl,F,t,m,L,q⟩:=h;obtain⟨u,rfl,B⟩:=Z7 r;cases(B);obtain⟨c,l,D,U⟩:=I.list F;have W:=l.length;have f:=t.length;rw[ag]at f;have N:=IsL.tupI I t l;have y:=V6 (lt:=λi j=>qH (decide ((g.getD i []).length<(g.getD j []).length)) (g.getD i []) (g.getD j [])) (vs:=c);refine LX D.isList (by omega) (λM=>Lp N m M) ?_;generalize ku _ c=d at y⊢;obtain⟨a,w,k⟩:=Nl y l;obtain⟨A,C,n⟩:=t.perm w;obtain⟨v,rfl,E⟩:=JC C J;obtain⟨e,K⟩:=sortedAll_at s.heap c d.toArray;have z:a.length=g.length:=by rw[w.length_eq,f]
 exact⟨.ref (s.heap.objs.size+1),upd H (s.heap.objs.size+1) (.lst a),I.laid (λb o G=>sortedAll_old G) (Nat.le_succ _) (⟨by omega,d,e,k,K⟩),J,q v a _ E n (I.hok.fresh (Nat.le_succ _))⟩
end
end L2
namespace L2
open PySem PySem.Spec PyProof.Rows
variable{A:Around}{X:Cx}{es:List Expr}{aE:Pos}{prog:Program}{s:Shared}{E:Value->Shared->Prop}{w:World}
theorem Fn{a:List T}(h:∀t∈a,(aT t).canLay0=true):PyData.canLayAll0 (jd a)=true:=by
 induction a with|nil=>rfl| cons t a b=>
   unfold jd;simp only[PyData.canLayAll0,cp]
   simp_all
section
open Classical in
end
theorem vA(g:O Int):(aT (tI g)).canLay0=true:=GV g
theorem Io(g:O Int):(aT (tI g)).depth<=20:=by unfold tI aT PyData.depth;rw[CV];decide
theorem FT(g a:O Int):PyData.eqv (aT (tI g)) (aT (tI a))=decide (g=a):=by unfold tI aT PyData.eqv;exact Ir g a
section
end
section
end
section
end
section
end
inductive lR(x:V)(lo hi:Option Int)(H:Hp)(Q:VK):Prop|mk:∀ts,Is H (.lst ts) x->(∀p H',zi H H'->H p=none->Is H' (.lst (Zq ts lo hi)) (.ref p)->Q (.ref p) H')->lR x lo hi H Q
inductive l9(x y:V)(H:Hp)(Q:VK):Prop|mk:∀g g',Is H (tI g) x->Is H (tI g') y->g.length+g'.length<=1000->(∀v H',zi H H'->Is H' (tI (g++g')) v->Q v H')->l9 x y H Q
def E8(t:TA):TE:=λσ H Q=>t σ H λxs H1=>xs.length<=1000/\∀p H',zi H1 H'->H1 p=none->H' p=some (.lst xs)->Q (.ref p) H'
def Fe(t:TA):TE:=λσ H Q=>t σ H λxs H1=>xs.length<=1000/\∀p H',zi H1 H'->H1 p=none->H' p=some (.tup xs)->Q (.ref p) H'
section
theorem Ey:pZ X lR:=by intro b s e H x v i g lo d j Q I k n m l h;obtain⟨t,⟨a,f,rfl,r,o⟩,q⟩:=h;exact HW b s e H (.ref a) v i g lo d j Q I k n m l ⟨a,f,J,aM.of r,λp c=>q p _ (zi.new c _) c ⟨p,_,J,zf,(Aa o lo d).mono (zi.new c _)⟩⟩
theorem Ig:bZ X (binaryOp .Add) l9:=by
 intro a s d H x y v u Q I j i h;obtain⟨g,c,l,k,n,q⟩:=h;refine xU a s d H x y v u Q I j i ⟨iT g,iT c,l.off0,k.off0,λb o=>o.elim,by rw[CL,CL];exact xk n,λv p f m=>q v p f ?_⟩;have e:tI (g++c)=.tup (iT g++iT c):=by unfold tI iT;rw[aq]
 rw[e];exact m.off
theorem vf{t:TA}(h:PA X es t):PE X (.List es aE) (E8 t):=by intro a s g H Q I k;refine wpAny_List_spliced (aF (h aE a s g H _ I k) λj c ⟨i,l,f,r,z,q⟩=>⟨by rw[<-r.length];exact xk z,?_⟩);have d:=f.hok.fresh (aj _);exact⟨.ref c.heap.objs.size,upd l c.heap.objs.size (.lst i),f.laid (λb u e=>be _ e) (aj _) ⟨xk z,j,0,r,bx _ J⟩,J,q _ _ (zi.new d _) d zf⟩
theorem yg{t:TA}{j}(h:PA X es t):PE X (.Tuple es j aE) (Fe t):=by intro a s g H Q I l;refine wpAny_Tuple_spliced (aF (h aE a s g H _ I l) λk c ⟨i,m,f,r,z,q⟩=>⟨by rw[<-r.length];exact xk z,?_⟩);have d:=f.hok.fresh (aj _);exact⟨.ref c.heap.objs.size,upd m c.heap.objs.size (.tup i),f.laid (λb u e=>be _ e) (aj _) ⟨xk z,k,r,IsTup.new _ _,gx.push⟩,J,q _ _ (zi.new d _) d zf⟩
end
end L2
namespace L2
open PySem PySem.Spec PyProof.Rows PySem.W
structure Ord(n:Nat)(lt:Nat->Nat->Bool):Prop where
 irr:∀i,lt i i=false
 tr:∀i j k,lt i j=true->lt j k=true->lt i k=true
 tot:∀i j,i<n->j<n->i≠j->lt i j=true\/lt j i=true
section
variable{n:Nat}{lt:Nat->Nat->Bool}
end
section
variable{X:Cx}
end
end L2
namespace L2
open PySem PySem.Spec PyProof.Rows
theorem BW:∀{a:List Value}{b:List Int},IntsAre a b->yu (b.map V.int) a|_,_,.nil=>.nil|_,_,.cons _ _ r=>.cons ⟨_,J⟩ (BW r)
section
variable{X:Cx}
end
end L2
namespace L2
open PySem PySem.Spec PyProof.Rows PySem.W
variable{A:Around}{es:Array DictEntry}{h:Heap}{Q:Option Value->Shared->Prop}{s:Shared}{E:Value->Shared->Prop}
def Zv(h:Heap)(d:Addr)(F:Array DictEntry)(U:Nat):Prop:=∃o,h.get? d=some o/\o.ExactDict/\o.data=.dict F U
section
variable{prog:Program}{w:World}{d it:Addr}{ep i:Nat}
theorem Zv.ty(x:Zv s.heap d es ep):s.TypeIs (.ref d) "dict":=let⟨o,a,b,_⟩:=x;⟨o,a,b.1⟩
theorem Zv.at{h':Heap}(x:Zv h d es ep)(k:∀o,h.get? d=some o->h'.get? d=some o):Zv h' d es ep:=let⟨o,a,r⟩:=x;⟨o,k o a,r⟩
theorem Zv.lt(x:Zv h d es ep):d<h.objs.size:=let⟨_,a,_⟩:=x;ax a
theorem Bs{Q:I->Shared->Prop}(c:(d==sysModules)=false)(x:Zv s.heap d es ep)(e:Q (.ref s.heap.objs.size) {s with heap:=s.heap.push {cls:=.type "dict_keyiterator",data:=.fields #[.ref d,.int 0 0,.int es.size 0,.int ep 0]}}):wpAny (model prog w) A (pyIter (.ref d)) Q E s:=by have hT:=x.ty;obtain⟨o,b,f,a⟩:=id x;refine wpAny_pyIter_slot hT F.slot_dict_iter (cy F.slot_dict_iter hT F.entry_dict_iter ?_ (F.args_dict_iter_1 _));unfold Builtin.«dict.__iter__»;refine aa ?_;unfold Builtin.Dict.dictSlotNone;refine aa (wpAny_notOrdered_dict hT (ae ?_));show wpAny _ _ (Builtin.Dict.showsAll d>>=_) _ _ s;unfold Builtin.Dict.showsAll;rw[if_neg (by rw[c];exact c7)];refine aa (ae (aa (wpAny_dictEntries b a (aa (wpAny_dictEpoch b a ?_)))));refine aa (df (ae ⟨_,J,"dict_keyiterator",_,⟨_,bx _ J,J⟩,F.slot_dict_keyiterator_next.lookup,?_⟩));simpa[rawInt]using e
theorem BF(a:s.heap.IsKeyIter it d i es.size ep)(x:Zv s.heap d es ep)(h:i<es.size)(l:∀h',h'.IsKeyIter it d (i+1) es.size ep->Heap.SameBut it s.heap h'->Q (some es[i].key) {s with heap:=h'}):wpAny (model prog w) A (pyNext (.ref it)) Q E s:=by
 obtain⟨m,f,k,e⟩:=id a;obtain⟨n,b,j,c⟩:=id x;unfold pyNext;refine aa (wpAny_attempt (wpAny_callSpecial?_slot a.typeIs F.slot_dict_keyiterator_next (cy F.slot_dict_keyiterator_next a.typeIs F.entry_dict_keyiterator_next (aa (ae (aa (aa ?_)))) (F.args_dict_keyiterator_next_1 _))))
 first|refine aa (wpAny_typeNameOfWhole_keyiter a.typeIs (ae ?_))|refine aa (wpAny_typeNameOf_keyiter a.typeIs (ae ?_))
 refine aa (wpAny_fieldsOf f e ?_);simp only[show Builtin.Dict_items.ownsTuple "dict_keyiterator"=false from by decide,Bool.false_eq_true,if_false];show wpAny _ _ (if(Value.ref d==Value.none)=true then _ else _) _ _ s;rw[if_neg (show¬((Value.ref d==Value.none)=true)from c7)];refine aa (ae (aa (wpAny_dictEntries b c ?_)));rw[if_neg (by simp)];refine aa (ae (aa (wpAny_dictEpoch b c ?_)));rw[if_neg (by simp)];refine ae ?_;simp only[(by omega),if_false,cj,ff h];refine aa ?_;first|refine aa (wpAny_typeNameOfWhole_keyiter a.typeIs (ae ?_))|refine aa (wpAny_typeNameOf_keyiter a.typeIs (ae ?_))
 refine aa (wpAny_isOneOf_keyiter a.typeIs ?_);show wpAny _ _ (setField (.ref it) 1 (rawInt (i+1))>>=_) _ _ s;refine aa (wpAny_setField f e (by simp) ?_);have g:(s.heap.update it (Obj.mapFields (·.setIfInBounds 1 (rawInt (i+1))))).IsKeyIter it d (i+1) es.size ep:=
  ⟨_,Heap.get?_update_self _ f (Obj.isFreed_of_fields (Obj.data_mapFields e _)),(Obj.cls_mapFields ..).trans k,by rw[Obj.data_mapFields e];simp[rawInt]⟩
 refine aa (wpAny_holding (aa (wpAny_isOneOf_keyiter g.typeIs ?_)));exact ae (ae ⟨_,J,ae (l _ g (Heap.SameBut.update ..))⟩)
theorem AJ(h:A.handled=none)(a:s.heap.IsKeyIter it d i es.size ep)(x:Zv s.heap d es ep)(g:es.size<=i)(k:∀h',Heap.ExtBut it s.heap h'->Q none {s with heap:=h'}):wpAny (model prog w) A (pyNext (.ref it)) Q E s:=by
 obtain⟨l,e,n,f⟩:=id a;obtain⟨m,b,j,c⟩:=id x;unfold pyNext;refine aa (wpAny_attempt (wpAny_callSpecial?_slot a.typeIs F.slot_dict_keyiterator_next (cy F.slot_dict_keyiterator_next a.typeIs F.entry_dict_keyiterator_next (aa (ae (aa (aa ?_)))) (F.args_dict_keyiterator_next_1 _))))
 first|refine aa (wpAny_typeNameOfWhole_keyiter a.typeIs (ae ?_))|refine aa (wpAny_typeNameOf_keyiter a.typeIs (ae ?_))
 refine aa (wpAny_fieldsOf e f ?_);simp only[show Builtin.Dict_items.ownsTuple "dict_keyiterator"=false from by decide,Bool.false_eq_true,if_false];show wpAny _ _ (if(Value.ref d==Value.none)=true then _ else _) _ _ s;rw[if_neg (show¬((Value.ref d==Value.none)=true)from c7)];refine aa (ae (aa (wpAny_dictEntries b c ?_)));rw[if_neg (by simp)];refine aa (ae (aa (wpAny_dictEpoch b c ?_)));rw[if_neg (by simp)];refine ae ?_;simp only[(by omega),if_false,cj,Array.getElem?_eq_none g];refine aa ?_;first|refine aa (wpAny_typeNameOfWhole_keyiter a.typeIs (ae ?_))|refine aa (wpAny_typeNameOf_keyiter a.typeIs (ae ?_))
 show wpAny _ _ (setField (.ref it) 0 .none>>=_) _ _ s;refine aa (wpAny_setField e f (by simp) ?_);refine aa ?_;simp only[newExc,newTuple];refine aa (df (aa (wpAny_of_eq (by first|rfl|(simp only[firstArgMember];rfl)) (df ?_ (by size_fits)))) (by size_fits));simp only[raiseNew];refine aa (wpAny_handled ?_);rw[(h)];refine aa (ae (wpAny_throw ?_));refine aa (dz ⟨_,bx _ J,J⟩ isSubtype_stop ?_);exact ae (k _ (((Heap.SameBut.update ..).extBut.push _).push _))
theorem KQ(n:A.handled=none)(I:Y)(j:d≠I):Walks prog w A I [I,d] [I] es.size (λi v=>∃e,es[i]?=some e/\v=e.key) (λi h=>h.IsKeyIter I d i es.size ep/\Zv h d es ep) where
 sub:=λb a=>by simp at a;simp[a]
 frame:=λ_ _ _ st hk=>⟨st.1.at λo e=>hk I (by simp) o e,st.2.at λo e=>hk d (by simp) o e⟩
 item:=λi s Q E m st g=>BF st.1 st.2 m λl f c=>g _ l s.toks ⟨_,ff m,J⟩ ⟨f,st.2.at λo e=>c.extBut d o j e⟩ λb o a e=>c.extBut b o (λh=>a (by simp[h])) e
 done:=λs Q E st g=>AJ n st.1 st.2 (aj _) λl k=>g l s.toks λb o a e=>k b o (λh=>a (by simp[h])) e
 self:=λ_ _ _ _ st g=>wpAny_pyIter_keyiter st.1 g
theorem Gy(lo:(d==sysModules)=false):KdlSrc prog w "dict" d d es.size (λi v=>∃e,es[i]?=some e/\v=e.key) (λh=>Zv h d es ep) where
 type:=λ_ x=>x.ty
 there:=λ_ x=>⟨x.lt,x.lt⟩
 keep:=λ_ _ x hk=>x.at λo e=>hk d (.inl J) o e
 notList:=by decide
 notTuple:=by decide
 hint:=λ_ _ _ _ x a=>kdl_hint_dict x.ty a
 iter:=λ_ _ b x=>⟨_,_,(λ_ _ a=>Bs lo x a),KQ b _ (bj x.lt),⟨⟨_,bx _ J,J,J⟩,x.at λo e=>be _ e⟩⟩
end
noncomputable def kI(g:List Int):List aK:=g.map Sum.inl
theorem mH(g:O Int):(kI g).map kV=g.map V.int:=by unfold kI;rw[bv];rfl
theorem Zx{g c:List Int}(h:kI g=kI c):g=c:=by unfold kI at h;induction g generalizing c with|nil=>simp_all| cons a g d=>cases c with|nil=>cases h| cons b c=>grind
inductive DB(H:Hp)(d:Addr)(ks:List (List Int)):Prop|mk:∀kvs:List (List aK×V),H d=some (.dT kvs)->kvs.map (·.1)=ks.map kI->DB H d ks
theorem En{H:Hp}{kvs:List (List aK×V)}{xs:List (List aK×Addr×Value)}(b:KT H kvs xs):∀{a:List (List Int)},kvs.map (·.1)=a.map kI->IsL H (a.map tI) (xs.map λx=>V.ref x.2.1):=by
 induction b with
 | nil=>
   intro a k;cases a with
   |nil=>rfl
   |cons=>cases k
 | @cons p x i h f t e=>
   intro a k;cases a with
   |nil=>cases k
   | cons g a=>injection k with c d;refine⟨_,_,J,⟨x.2.1,_,J,f.2.1,?_⟩,e d⟩;have c:p.1=kI g:=c;rw[c,mH];exact IsL.ints.mpr J
section
variable{X:Cx}
inductive iQ(xs:List V)(H:Hp)(Q:VK):Prop|mk:∀d ks,xs=[.ref d]->DB H d ks->(∀ys p H',zi H H'->H p=none->H' p=some (.lst ys)->IsL H' (ks.map tI) ys->Q (.ref p) H')->iQ xs H Q
theorem CQ(K:X.calm=true):Zg X (.type "list") iQ:=by
 intro p s P H c S Q I r h;obtain⟨d,W,rfl,⟨A,e,k⟩,q⟩:=h;obtain⟨u,rfl,y⟩:=Z7 r;cases(y);obtain⟨z,G,c,f,⟨o,es,ep,D,l,g,w,_,_⟩⟩:=zJ I.hok e;have B:=Paired.length f;have F:=size_of_entries w;refine kdl_call (Gy G) (I.ok.hd K) ⟨o,D,l,g⟩ (by omega) λh' U b N hk Z a=>?_;have C:yu (c.map λx=>V.ref x.2.1) b.toList:=wJ (by have i:=a.1;simp_all) λj x v m e2=>by obtain⟨en,i,L⟩:=a.2 j v (by simp_all);rw[entry_at w j]at i;rw[bi]at m;cases M:c[j]? with|none=>simp_all| some R=>rw[M]at m i;cases m;cases i;rw[L];rfl
 have E:=En f k;have t:=I.hok.fresh (aj s.heap.objs.size);have n:=zi.new t (.lst (c.map λx=>V.ref x.2.1));exact⟨.ref s.heap.objs.size,_,I.laid (o:=.lst (c.map λx=>V.ref x.2.1)) hk (aj _) ⟨by simp_all,b.toList,N,C,by omega⟩,J,q _ _ _ n t zf (E.mono n)⟩
end
end L2
namespace L2
open PySem PySem.Spec PyProof.Rows
variable{a:Addr}{A:Around}{sl:Array (Option Value)}{its xs:Array Value}{X:Cx}{Q:Option Value->Shared->Prop}{prog:Program}{R:Result->Shared->Prop}{s:Shared}{E:Value->Shared->Prop}{w:World}
theorem Mj:typeLookup (.type "list") "keys"=pure none:=am_miss_of_fast (by rfl)
section
set_option maxRecDepth 8000 in
theorem Nu{k:Nat}{u:Tok}{Q:Value->Shared->Prop}(hx:s.heap.get? a=some {cls:=.type "list",dict:=none,data:=.seq xs k,slots:=sl})(hA:A.handled=none)
  (h:∀h' tk e,Heap.NewExcOf s.heap h' e "AttributeError"->E (.ref e) {s with heap:=h',toks:=tk}):wpAny (model prog w) A (getAttrBy (.ref a) (.str "keys" u) false) Q E s:=by
 obtain⟨hp,g,d,tk,os⟩:=s;have hT:∀tk',(⟨hp,g,d,tk',os⟩:Shared).TypeIs (.ref a) "list":=λ_=>⟨_,hx,rfl⟩
 have f1:=sub_AttributeError;have f3:=PySem.F.slot_list_getattribute.lookup;have f4:=PySem.F.slot_list_getattribute.bind (.ref a);have f5:=am_list_getattr_none;unfold getAttrBy
 repeat(any_goals (first|assumption|exact hT _|((with_reducible show wpAny _ _ (call (Value.builtin "list.__getattribute__") _ _) _ _ _);refine call_meets PySem.F.slot_list_getattribute (hT _) am_entry_list_getattribute (PySem.F.args_list_getattribute_2 _ _) (meets_getattribute_miss_list a xs k sl "keys" _ Mj (by decide+kernel) (by size_fits)) ⟨hx,hA,λh' tk' e hx'=>?_⟩)|wp_step))
 obtain⟨t',u',he⟩:=hx'.there;show wpAny _ _ (getattributeRaised _ _ _ _ _ _ _) _ _ _;unfold getattributeRaised
 repeat(any_goals (first|assumption|wp_step))
 exact h _ _ _ hx'.of
theorem MG{k:Nat}(hx:s.heap.get? a=some {cls:=.type "list",dict:=none,data:=.seq xs k,slots:=sl})(g:A.handled=none)
  (h:∀h' tk,(∀b o,s.heap.get? b=some o->h'.get? b=some o)->Q none {s with heap:=h',toks:=tk}):wpAny (model prog w) A (getAttr? (.ref a) "keys") Q E s:=by unfold getAttr? getAttrBy?;refine aa (wpAny_mkText ?_);refine aa (wpAny_attempt (Nu hx g λh' tk e x=>?_));obtain⟨c,r,d,f,_⟩:=x.there;refine aa (dz ⟨_,d,f⟩ sub_AttributeError ?_);exact ae (h _ _ x.keeps)
end
abbrev Kn:=List aK×Addr×Value
noncomputable def Ah(xs rows:List Kn):List Kn:=rows.foldl (λF r=>storedH F r.1 r.2.1 r.2.2) xs
theorem Nq(xs:O Kn)(k:O aK)(a:Y)(v:I):(storedH xs k a v).length<=xs.length+1:=by
 unfold storedH
 grind
section
def rX(prog:Program)(w:World)(h:Heap)(d F:Addr)(v:Value)(r:Kn):Prop:=∃b,v=.ref b/\b≠d/\b≠F/\r.2.1≠d/\r.2.1≠F/\h.IsTuple b #[.ref r.2.1,r.2.2]/\(tupleKind (yn prog w)).is h r.1 r.2.1
theorem rX.keep{h h':Heap}{d a:Y}{v:I}{r:Kn}(p:rX prog w h d a v r)(k:∀c o,c≠d->c≠a->h.get? c=some o->h'.get? c=some o):rX prog w h' d a v r:=by obtain⟨b,e,l,j,i,g,⟨o,t,x,n,u⟩,⟨s,y,m,f,q⟩⟩:=p;exact⟨b,e,l,j,i,g,⟨o,k _ _ l j t,x,n,u⟩,⟨s,y,m,k _ _ i g f,q⟩⟩
theorem KP{d p t:Addr}{rows:List Kn}(hu:A.units+1<cLine)(hh:A.handled=none)(B:d≠p)(X:t≠p)(W:t≠d)(hl:its.size=rows.length)(Z:rows.length<=sizeLine):
  ∀ (k i:Nat) (s:Shared) (xs:List Kn),rows.length-i=k->i<=rows.length->xs.length<=i->s.heap.IsListIter p t i->s.heap.IsList t its->s.heap.DictOfH (tupleKind (yn prog w)) d xs->
    (∀(j:Nat) v r,its[j]?=some v->rows[j]?=some r->rX prog w s.heap d p v r)->
    (∀h' tk,h'.DictOfH (tupleKind (yn prog w)) d (Ah xs (rows.drop i))->(∀b o,b≠d->b≠p->s.heap.get? b=some o->h'.get? b=some o)->R (.ok (.ret .none)) {s with heap:=h',toks:=tk})->
    codeAny (model prog w) A (.builtin "dict.update.loop" ⟨[.ref d,.ref p,rawInt i,.none],[]⟩) R s:=by
 intro k;induction k with| zero=>
   intro i s xs hk hi hz f M hd Q hR;have e:i=rows.length:=by omega
   refine codeAny_builtin Jt ?_;rw[Around.under_plainId Z5 _];refine aa (wpAny_pyNext_list_end (hh) f M (Array.getElem?_eq_none (by omega)) λh' eb=>?_);refine aa (ae (ae ?_));refine hR h' s.toks ?_ λb o F l z=>eb b o l z;rw[e,List.drop_length];obtain⟨o,es,ep,U,hc,D,he,C,y⟩:=hd;refine⟨o,es,ep,eb d o B U,hc,D,he,λx hx=>?_,y⟩;obtain⟨N,aC,m,a,n⟩:=C x hx;refine⟨N,aC,m,eb _ _ (λz=>?_) a,n⟩;obtain⟨oi,u,E,_⟩:=f;rw[z,u]at a;cases a;rw[E]at n;exact absurd n.1 (by decide)| succ k ih=>
   intro i s xs hk hi hz f M hd Q hR;have h:i<rows.length:=by omega
   have hx:its[i]?=some its[i]:=ff (by omega);have hr:=br h;have P0:=Q i _ _ hx hr;refine codeAny_builtin Jt ?_;rw[Around.under_plainId Z5 _];refine aa (wpAny_pyNext_list_item f M hx λg K G=>?_);have kg:∀c o,c≠d->c≠p->s.heap.get? c=some o->g.get? c=some o:=λc o _ l z=>G.extBut c o l z;obtain⟨b,hb,a1,aS,ay,aw,L,H⟩:=P0.keep kg;have av:g.DictOfH (tupleKind (yn prog w)) d xs:=by obtain⟨o,es,ep,U,hc,D,he,C,y⟩:=hd;refine⟨o,es,ep,G.extBut d o B U,hc,D,he,λx hx=>?_,y⟩;obtain⟨N,aC,m,a,n⟩:=C x hx;refine⟨N,aC,m,G.extBut _ _ (λz=>?_) a,n⟩;obtain⟨oi,u,E,_⟩:=f;rw[z,u]at a;cases a;rw[E]at n;exact absurd n.1 (by decide)
   rw[hb];refine aa (wpAny_holding (aa (wpAny_tryCatch ?_)));unfold Builtin.Dict.pairItems;refine aa (wpAny_typeOf (Heap.IsTuple.typeIs L) ?_);rw[if_pos (by rfl)];obtain⟨ob,S,_,nb,ah⟩:=L;refine aa (wpAny_seqItems S ah (ae ?_));refine wpAny_holding (wpAny_dictSet_heap (tupleKind_room_in1 hu) H av (λg2 ap q=>?_) (cr (Nat.le_of_lt (eh hz h)) Z));refine ae ⟨plainId_quiet Z5 _,?_⟩;have e1:rawInt (i+1)=rawInt ((i+1:Nat)):=by simp
   have keep:=λc o F l z=>q.extBut c o F (G.extBut c o l z);rw[e1];have lz:=Nq xs rows[i].1 rows[i].2.1 rows[i].2.2;refine ih (i+1) _ _ (by omega) h (by omega) (K.extBut q.extBut (au B)) (M.extBut G.extBut X |>.extBut q.extBut W) ap (λj v r hv P=>(Q j v r hv P).keep keep) λh' tk hD af=>?_;refine hR h' tk ?_ λc o F l z=>af c o F l (keep c o F l z);have e2:=List.drop_eq_getElem_cons h;rw[e2];exact hD
end
inductive dR(H:Hp)(b:Addr)(r:List Int×V):Prop|mk:∀kb,H b=some (.tup [.ref kb,r.2])->H kb=some (.tup (r.1.map V.int))->dR H b r
theorem zR{X:Cx}{c:List (Addr×Obj)}{g:St}{H:Hp}{s:Shared}(I:Inv X c g H s):∀{bs:List Addr}{rows:List (List Int×V)},Paired (dR H) bs rows->∃a:List Kn,a.length=bs.length/\Paired (λ(r:List Int×V) (q:Kn)=>kI r.1=q.1/\H q.2.1=some (.tup (q.1.map kV))/\yq r.2 q.2.2) rows a/\
  ∀(j:Nat) b q,bs[j]?=some b->a[j]?=some q->s.heap.IsTuple b #[.ref q.2.1,q.2.2]/\(tupleKind (yn X.prog X.w)).is s.heap q.1 q.2.1
 |_,_,.nil=>⟨[],J,.nil,λj b q d=>by simp⟩
 | b ::bs,r::rows,.cons h t=>by
   obtain⟨a,y,v,x⟩:=zR I t;obtain⟨kb,d,hk⟩:=h;obtain⟨_,p,k,u,_⟩:=(I.hok b _ d)
   cases k with
   | @cons _ w _ _ o n=>
     cases n with
     | @cons _ i _ _ m l=>
       cases l;cases(o);rw[<-mH]at hk;refine⟨(kI r.1,kb,i)::a,by grind,.cons ⟨J,hk,m⟩ v,λj z q f e=>?_⟩;cases j with
       | zero=>simp at f e;subst f e;exact⟨u,Wj I.hok hk⟩
       |succ j=>grind
section
end
section
end
end L2
namespace L2
open PySem PySem.Spec PyProof.Rows PySem.W
variable{A:Around}{Q:Bool->Shared->Prop}{s:Shared}{E:Value->Shared->Prop}
section
variable{prog:Program}{w:World}{K:Type}[DecidableEq K](knd:KeyKind prog w K)
variable{knd}
theorem Lx{n:Nat}{f:O K}{a:Y}(hk:IsTupleKey knd s.heap f a)(h:Q true s):wpAny (model prog w) A (eqIsQuiet (n+1) (.ref a)) Q E s:=by have hT:=hk.typeIs;obtain⟨o,p,m,g,_,j,i⟩:=hk;unfold eqIsQuiet;refine aa (wpAny_specialOf hT F.slot_tuple_eq.lookup ?_);refine aa (dz hT isSubtype_tuple_tuple ?_);simp only[Bool.not_true,Bool.false_eq_true,if_false];refine aa (wpAny_seqItems g j ?_);refine aa ?_;rw[<-Array.forIn_toList];refine wpAny_forIn_list _ (λjh r c=>r.1=none/\c=s/\∀v∈jh,carriedByValue v=true) _ ?_ ?_ _ _ ⟨J,J,i.byValue⟩;rintro v jh r c ⟨e,rfl,b⟩;rw[eqIsQuiet_byValue _ (b v bo)];refine aa (ae ?_);simp only[Bool.not_true,Bool.false_eq_true,if_false];exact ae ⟨J,J,λu d=>b u (bn _ d)⟩;rintro⟨l,k⟩ c ⟨e,rfl,_⟩;simp only at e;subst e;exact ae h
end
noncomputable def tN(k:List (List Int)):T:=.tup (k.map tI)
abbrev DG:=List (List Int)
variable{kvs:List (DG×V)}{P:Program}
theorem xD:∀(a:List Int),qu (a.map T.int)|[]=>trivial|c::a=>⟨trivial,xD a⟩
section
variable{w:World}{H H':Hp}{d:Addr}
end
section
variable{X:Cx}{o i e aQ:Expr}{aE cO dH:Pos}{td ty tv:TE}
end
end L2
namespace L2
open PySem PySem.Spec PyProof.Rows
variable{A:Around}{R:Result->Shared->Prop}
section
variable{prog:Program}{w:World}{h h':Heap}
end
section
variable{X:Cx}
end
end L2
namespace L2
open PySem PySem.Spec PyProof.Rows PySem.W
variable{a b:Addr}{A:Around}{es:Array DictEntry}{X:Cx}{D:Ends}{e tg:Expr}{h:Heap}{H:Hp}{eV:List Expr}{cap:List Nat}{o:Obj}{apos cpos aE:Pos}{P prog:Program}{s:Shared}{σ:St}{td te:TE}{g:TG}{tb:TS}{tc:TT}{y:V}{u v:Value}{E Q:Value->Shared->Prop}{w:World}
section
variable{K:Type}[DecidableEq K](knd:KeyKind prog w K)
abbrev dC(K:Type):=List K ⊕ K
noncomputable def Vg:dC K->Bool|.inl _=>true|.inr _=>false
def fo(h:Heap):dC K->Value->Prop|.inl k,v=>∃a,v=.ref a/\IsTupleKey knd h k a|.inr k,v=>knd.is k v=true
noncomputable def Vt:dC K->Int|.inl k=>tupleKeyHash knd k|.inr k=>knd.hash k
noncomputable def vK:dC K->Nat|.inl k=>k.length+1|.inr _=>1
inductive cQ(h:Heap):List (dC K)->List Value->Prop|nil:cQ h [] []|cons {k:dC K} {v:Value} {ks:List (dC K)} {vs:List Value}:fo knd h k v->cQ h ks vs->cQ h (k::ks) (v::vs)
def Z1(h:Heap)(F:List (dC K))(a:Addr):Prop:=∃o aC n,h.get? a=some o/\o.cls=.type "tuple"/\o.data=.seq aC n/\cQ knd h F aC.toList
noncomputable def vM(F:List (dC K)):Int:=reduceHash (Builtin.Tuple.tupleHashOf (F.map (Vt knd)))
noncomputable def xQ(F:List (dC K)):Nat:=(F.map vK).sum+1
variable{knd}
theorem fo.inj{h:Heap}{x y:dC K}{v:Value}(hx:fo knd h x v)(c:fo knd h y v):x=y:=by
 cases x with
 | inl k=>
   obtain⟨a,rfl,g⟩:=hx;cases y with
   | inl d=>obtain⟨b,e,f⟩:=c;cases e;rw[g.inj f]
   |inr d=>exact absurd (knd.byValue _ _ c) (λz=>by cases z)
 | inr k=>
   cases y with
   | inl d=>obtain⟨b,rfl,f⟩:=c;exact absurd (knd.byValue _ _ hx) (λz=>by cases z)
   |inr d=>rw[knd.inj _ _ _ hx c]
theorem fo.keeps{h h':Heap}{k:dC K}{v:Value}{d:Addr}{o:Obj}{g i}(x:fo knd h k v)(b:h.get? d=some o)(c:o.data=.dict g i)(hs:Heap.SameBut d h h'):fo knd h' k v:=by cases k with| inl k=>obtain⟨a,e,f⟩:=x;exact⟨a,e,f.keeps b c hs⟩|inr k=>exact x
theorem cQ.inj{h:Heap}{x y:List (dC K)}{vs:List Value}(hx:cQ knd h x vs)(a:cQ knd h y vs):x=y:=by induction hx generalizing y with|nil=>cases a;rfl| cons e _ c=>cases a with|cons d b=>rw[e.inj d,c b]
theorem Z1.typeIs{b:O (dC K)}(x:Z1 knd s.heap b a):s.TypeIs (.ref a) "tuple":=let⟨o,_,_,c,d,_⟩:=x;⟨o,c,d⟩
theorem Z1.inj{h:Heap}{a:Y}{x y:O (dC K)}(hx:Z1 knd h x a)(g:Z1 knd h y a):x=y:=by obtain⟨o,p,n,i,_,k,j⟩:=hx;obtain⟨f,c,m,d,_,b,e⟩:=g;obtain rfl:o=f:=Option.some.inj (i.symm.trans d);rw[k]at b;injection b with l _;subst l;exact j.inj e
theorem cQ.keeps{h h':Heap}{a:List (dC K)}{vs:List Value}{d:Addr}{o:Obj}{g i}(x:cQ knd h a vs)(c:h.get? d=some o)(e:o.data=.dict g i)(hs:Heap.SameBut d h h'):cQ knd h' a vs:=by induction x with|nil=>exact .nil|cons f _ b=>exact .cons (f.keeps c e hs) b
theorem Z1.keeps{h h':Heap}{f:O (dC K)}{a d:Y}{o:Obj}{m p}(x:Z1 knd h f a)(i:h.get? d=some o)(k:o.data=.dict m p)(hs:Heap.SameBut d h h'):Z1 knd h' f a:=by
 obtain⟨g,q,n,b,l,e,j⟩:=x;have c:a≠d:=by grind
 exact⟨g,q,n,(hs.2 a c).trans b,l,e,j.keeps i k hs⟩
theorem Lv{k:dC K}{Q:Int->Shared->Prop}(b:A.units<cLine)(hk:fo knd s.heap k v)(h:Q (Vt knd k) {s with toks:=s.toks+vK k}):wpAny (model prog w) A (pyHash v) Q E s:=by cases k with| inl k=>obtain⟨a,rfl,c⟩:=hk;exact wpAny_pyHash_tuple b c h|inr k=>exact knd.pyHash hk h
theorem KU{x y:dC K}{Q:Bool->Shared->Prop}(e:A.units<cLine)(hs:Vg x=Vg y)(hx:fo knd s.heap x u)(d:fo knd s.heap y v)(h:Q (decide (x=y)) s):wpAny (model prog w) A (eqBool u v) Q E s:=by
 cases x with
 | inl k=>
   cases y with
   | inl c=>
     obtain⟨a,rfl,g⟩:=hx;obtain⟨b,rfl,f⟩:=d;refine wpAny_eqBool_tuple e g f ?_
     simp_all
   |inr c=>cases hs
 | inr k=>
   cases y with
   |inl c=>cases hs
   | inr c=>
     refine knd.eqBool hx d ?_
     simp_all
theorem MC{f:O (dC K)}{Q:Int->Shared->Prop}(u:A.units+2<cLine)(hk:Z1 knd s.heap f a)(h:Q (vM knd f) {s with toks:=s.toks+xQ f}):wpAny (model prog w) A (pyHash (.ref a)) Q E s:=by
 have hT:=hk.typeIs;obtain⟨o,v,n,p,_,r,q⟩:=hk;unfold pyHash;first|unfold pyHashByItsType|skip
 first|refine aa (wpAny_cRoomFor_or (.inr (show A.units<cLine by omega)) ?_)|skip
 refine aa (wpAny_specialOf hT F.slot_tuple_hash.lookup ?_);rw[if_neg (by simp)];refine aa (wpAny_specialOf hT F.slot_tuple_hash.lookup ?_);refine aa (wpAny_callSpecialIfBoundUnlessNone?_slot hT F.slot_tuple_hash (cy F.slot_tuple_hash hT F.entry_tuple_hash ?_ (F.args_tuple_hash_1 _)));show wpAny _ _ (Builtin.Tuple.tupleItemsOf (.ref a)>>=_) _ _ s;refine aa (wpAny_tupleItemsOf p r ?_);refine aa ?_;rw[<-Array.forIn_toList];refine wpAny_forIn_list _
  (λjh b j=>∃d Jm,f=d++Jm/\cQ knd s.heap Jm jh/\b.toList=d.map (Vt knd)/\j={s with toks:=s.toks+(d.map vK).sum})
  _ ?_ ?_ _ _ ⟨[],f,J,q,J,J⟩
 . rintro x jh b j ⟨d,Jm,rfl,l,m,rfl⟩;cases l with| @cons k c e _ t g=>
     refine aa (Lv ?room t ?_)
     case room=>grind
     first|exact ae ⟨d++[k],e,by simp,g,by grind,by grind⟩|exact aa (ae (ae ⟨d++[k],e,by simp,g,by simp[m],by simp[Nat.add_assoc]⟩))
 rintro b j ⟨d,Jm,rfl,l,m,rfl⟩;cases l;rw[cm]at h;show wpAny _ _ (retInt (Builtin.Tuple.tupleHashOf b.toList)) _ _ _;rw[m];refine wpAny_ret_mkInt ?_;show wpAny _ _ (if(decide (-(2)^63<=Builtin.Tuple.tupleHashOf (d.map (Vt knd))) && decide (Builtin.Tuple.tupleHashOf (d.map (Vt knd))<2^63))=true then _ else _) Q E _;unfold vM reduceHash xQ at h;by_cases i:(decide (-(2)^63<=Builtin.Tuple.tupleHashOf (d.map (Vt knd))) && decide (Builtin.Tuple.tupleHashOf (d.map (Vt knd))<2^63))=true;rw[if_pos i];rw[if_pos i]at h;exact ae (by omega);rw[if_neg i];rw[if_neg i]at h;exact aa (wpAny_rule (ae (by omega)))
theorem Nb{x y:List (dC K)}{P:Fin->Shared->Prop}(hu:A.units<cLine)(F:x.map Vg=y.map Vg)(hx:Z1 knd s.heap x a)(X:Z1 knd s.heap y b)(h:P (.done (.ret (.bool (decide (x=y))))) s):wpAny (model prog w) A (Builtin.«tuple.__eq__» ⟨[.ref a,.ref b],[]⟩) P E s:=by
 have W:=X.typeIs;obtain⟨oa,z,na,N,_,U,R⟩:=hx;obtain⟨ob,t,nb,M,_,S,Q⟩:=X;show wpAny _ _ (isInstance (.ref b) (.type "tuple")>>=_) _ _ s;refine aa (dz W isSubtype_tuple_tuple ?_);simp only[Bool.not_true,Bool.false_eq_true,if_false];refine aa (wpAny_tupleItemsOf N U ?_);refine aa (wpAny_tupleItemsOf M S ?_);refine aa ?_;refine wpAny_forIn_list _
  (λjh r B=>r.1=none/\B=s/\∃n l d c,jh=List.zip d c/\cQ knd s.heap n d/\cQ knd s.heap l c/\n.map Vg=l.map Vg/\decide (n=l)=decide (x=y)/\(d.length==c.length)=(z.size==t.size))
  _ ?_ ?_ _ _ ⟨J,J,x,y,z.toList,t.toList,J,R,Q,F,J,by simp⟩
 rintro⟨u,v⟩ jh r B ⟨L,rfl,n,l,d,c,o,i,e,j,g,f⟩;cases i with
 |nil=>simp at o
 | @cons k1 u' D m h1 q=>
   cases e with
   |nil=>grind
   | @cons k2 v' C k h2 p=>
     simp only[List.zip_cons_cons,List.cons.injEq,Prod.mk.injEq]at o;obtain⟨⟨rfl,rfl⟩,rfl⟩:=o;rw[c8,c8]at j;injection j with H G;refine aa (KU hu H h1 h2 ?_);by_cases hk:k1=k2;subst hk;rw[bp J];simp only[Bool.not_true,Bool.false_eq_true,if_false];refine ae ⟨J,J,D,C,m,k,J,q,p,G,?_,by simp_all⟩
     simp_all
     rw[cf hk];simp only[Bool.not_false,if_true];have hf:decide (x=y)=false:=by simp_all
     rw[hf]at h;exact aa (ae (ae (ae h)))
 rintro⟨r1,r2⟩ B ⟨L,rfl,n,l,d,c,o,i,e,j,g,f⟩;simp only at L;subst L;refine ae ?_;have Z:(z.size==t.size)=decide (x=y):=by
  rw[<-g,<-f];cases i with
  | nil=>
    cases e with
    |nil=>simp
    |cons _ _=>simp
  | cons _ _=>
    cases e with
    |nil=>simp
    |cons _ _=>simp at o
 show P (.done (.ret (.bool (z.size==t.size)))) B
 simp_all
theorem Me{x y:O (dC K)}{Q:Bool->Shared->Prop}(g:A.units+2<cLine)(f:x.map Vg=y.map Vg)(hx:Z1 knd s.heap x a)(d:Z1 knd s.heap y b)(h:Q (decide (x=y)) s):wpAny (model prog w) A (eqBool (.ref a) (.ref b)) Q E s:=by
 unfold eqBool
 try with_reducible refine wpAny_holding ?_
 by_cases c:(Value.ref a==Value.ref b)=true;rw[if_pos c];have e:a=b:=by simp_all
 subst e;obtain rfl:=hx.inj d;exact aa (wpAny_rule (ae (by simp_all)))
 . rw[if_neg c];refine aa (wpAny_richCompare_same_room hx.typeIs d.typeIs F.slot_tuple_eq (cy F.slot_tuple_eq hx.typeIs F.entry_tuple_eq (Nb ?room f hx d ⟨_,J,(λe=>nomatch e),wpAny_truthy_bool h⟩) (F.args_tuple_eq_2 _ _)) (by omega))
   grind
theorem JI{n:Nat}{k:dC K}{Q:Bool->Shared->Prop}(hk:fo knd s.heap k v)(h:Q true s):wpAny (model prog w) A (eqIsQuiet (n+1) v) Q E s:=by cases k with| inl k=>obtain⟨a,rfl,b⟩:=hk;exact Lx b h| inr k=>rw[eqIsQuiet_byValue _ (knd.byValue _ _ hk)];exact ae h
theorem Lw{d:List (dC K)}{Q:Bool->Shared->Prop}(hk:Z1 knd s.heap d a)(h:Q true s):wpAny (model prog w) A (eqIsQuiet 8 (.ref a)) Q E s:=by
 have hT:=hk.typeIs;obtain⟨o,p,m,g,_,j,i⟩:=hk;unfold eqIsQuiet;refine aa (wpAny_specialOf hT F.slot_tuple_eq.lookup ?_);refine aa (dz hT isSubtype_tuple_tuple ?_);simp only[Bool.not_true,Bool.false_eq_true,if_false];refine aa (wpAny_seqItems g j ?_);refine aa ?_;rw[<-Array.forIn_toList];refine wpAny_forIn_list _ (λjh r c=>r.1=none/\c=s/\∃d,cQ knd s.heap d jh) _ ?_ ?_ _ _ ⟨J,J,_,i⟩;rintro v jh r c ⟨e,rfl,f,b⟩;cases b with| cons k t=>refine aa (JI k ?_);simp only[Bool.not_true,Bool.false_eq_true,if_false];exact ae ⟨J,J,_,t⟩
 rintro⟨n,l⟩ c ⟨e,rfl,_⟩;simp only at e;subst e;exact ae h
end
structure Shape(K κ:Type) where
 f:κ->List (dC K)
 inj:∀a b,f a=f b->a=b
 one:∀a b,(f a).map Vg=(f b).map Vg
noncomputable def Q6{prog:Program}{w:World}{K F:Type}[DecidableEq K][DecidableEq F](knd:KeyKind prog w K)(S:Shape K F):HeapKind prog w F where
 is:=λh k a=>Z1 knd h (S.f k) a
 hash:=λk=>vM knd (S.f k)
 draws:=λk=>xQ (S.f k)
 room:=λA=>A.units+2<cLine
 inj:=λhx U=>S.inj _ _ (hx.inj U)
 keeps:=λx ho hd hs=>x.keeps ho hd hs
 pyHash:=λZ hk h=>MC Z hk h
 eqBool:=λ{_ _ _ x y _ _ _} Z hx U h=>Me Z (S.one x y) hx U (by
  have e:decide (S.f x=S.f y)=decide (x=y):=by by_cases c:x=y;rw[c];simp;rw[cf c,cf λz=>c (S.inj _ _ z)]
  rw[e];exact h)
 quiet:=λhk h=>Lw hk h
structure bA(κ:Type)[DecidableEq κ] where
 S:Shape aK κ
 tr:κ->T
 fro:∀k,bY (tr k)
 of:∀{P:Program}{w:World}{H:Hp}{h:Heap},cA P w H h->∀{k:κ}{a:Addr},Is H (tr k) (.ref a)->(Q6 (yn P w) S).is h k a
abbrev gQ(F:Type):=F×Addr×Value
section
variable{κ:Type}[DecidableEq κ]{τ:bA κ}
def jR(τ:bA κ)(P:Program)(w:World)(d:Addr)(xs:List (gQ κ)):Heap->Prop:=λh=>∃o es ep,h.get? d=some o/\o.ExactDict/\o.data=.dict es ep/\es.toList=xs.map (entryOfKey (Q6 (yn P w) τ.S))
theorem jR.ok{d:Y}{xs:O (gQ κ)}(x:jR τ P w d xs h):qy P w H h d (.ext (jR τ P w d xs)):=by refine⟨x,?_,λf e y k=>?_⟩;obtain⟨o,_,_,a,_⟩:=x;exact⟨o,a⟩;obtain⟨o,b,c,a,r⟩:=y;exact⟨o,b,c,k o a,r⟩
abbrev KG(τ:bA κ)(H:Hp):List (κ×V)->List (gQ κ)->Prop:=Paired λp q=>p.1=q.1/\Is H (τ.tr p.1) (.ref q.2.1)/\yq p.2 q.2.2
theorem KG.val{kvs:List (κ×V)}{xs:List (gQ κ)}(r:KG τ H kvs xs)(k:κ):Xn (xa kvs k) ((atKey xs k).map (·.2)):=by
 induction r with|nil=>exact True.intro| @cons p q i a h t f=>
   obtain⟨d,_,g⟩:=h;by_cases e:p.1=k;have c:q.1=k:=by rw[<-d,e]
   have b:atKey (q::a) k=some q.2:=by simp[atKey,List.find?_cons,c]
   rw[wz e,b];exact g;have c:¬q.1=k:=λz=>e (d.trans z);have b:atKey (q::a) k=atKey a k:=by simp[atKey,List.find?_cons,c]
   rw[wc e,b];exact f
theorem KG.repl{kvs:List (κ×V)}{xs:List (gQ κ)}(r:KG τ H kvs xs)(k:κ)(d:yq y u):KG τ H (kvs.map λb=>if b.1=k then(b.1,y)else b) (xs.map (putAt k u)):=by induction r with|nil=>exact .nil| @cons p q j i h t f=>rw[c8,c8];refine .cons ?_ f;obtain⟨a,c,g⟩:=h;unfold putAt;by_cases e:p.1=k;rw[if_pos e,if_pos (by rw[<-a,e])];exact⟨a,c,d⟩;rw[if_neg e,if_neg (λz=>e (a.trans z))];exact⟨a,c,g⟩
theorem KG.put{kvs:O (κ×V)}{xs:O (gQ κ)}(r:KG τ H kvs xs)(k:κ)(d:Is H (τ.tr k) (.ref b))(a:yq y u):KG τ H (qo kvs k y) (storedH xs k b u):=by
 have e:(kvs.any λc=>decide (c.1=k))=(atKey xs k).isSome:=by rw[Z8,(r.val k).isSome_eq,Option.isSome_map]
 unfold qo storedH;rw[e];by_cases q:(atKey xs k).isSome=true;rw[if_pos q,if_pos q];exact r.repl k a;rw[if_neg q,if_neg q];exact Paired.snoc r ⟨J,d,a⟩
theorem KG.tups{H a:Hp}{kvs:O (κ×V)}{xs:O (gQ κ)}(r:KG τ H kvs xs)(t:yo H a):KG τ a kvs xs:=Paired.mapP r λ_ _ z=>⟨z.1,z.2.1.tups t (τ.fro _),z.2.2⟩
inductive bH(τ:bA κ)(P:Program)(w:World)(H:Hp)(d:Addr)(kvs:List (κ×V)):Prop|mk:∀xs:List (gQ κ),H d=some (.ext (jR τ P w d xs))->(d==sysModules)=false->kvs.length<=sizeLine->(xs.map (·.1)).Nodup->KG τ H kvs xs->bH τ P w H d kvs
section
variable{H':Hp}{d:Addr}{kvs:List (κ×V)}
theorem bH.same(n:bH τ P w H d kvs)(s:zi H H'):bH τ P w H' d kvs:=by obtain⟨f,e,a,b,c,r⟩:=n;exact⟨f,s _ _ e,a,b,c,Paired.mapP r λ_ _ z=>⟨z.1,z.2.1.mono s,z.2.2⟩⟩
theorem bH.by(n:bH τ P w H d kvs)(t:yo H H')(e:H' d=H d):bH τ P w H' d kvs:=by obtain⟨f,g,a,b,c,r⟩:=n;exact⟨f,e.trans g,a,b,c,r.tups t⟩
theorem bH.tups{o:HO}(n:bH τ P w H d kvs):yo H (upd H d o):=by obtain⟨b,e,_⟩:=n;exact yo.upd e (λa z=>by cases z)
theorem bH.dict(g:cA P w H h)(n:bH τ P w H d kvs):(d==sysModules)=false/\∃xs,KG τ H kvs xs/\xs.length<=sizeLine/\h.DictOfH (Q6 (yn P w) τ.S) d xs:=by
 obtain⟨xs,e,a,b,c,r⟩:=n;obtain⟨⟨o,y,z,v,u,s,k⟩,_⟩:=(g d _ e)
 have C:=Paired.length r;refine⟨a,xs,r,by omega,o,y,z,v,u,s,k,?_,c⟩;have f:∀{l:O (κ×V)}{m:O (gQ κ)},KG τ H l m->∀x∈m,(Q6 (yn P w) τ.S).is h x.1 x.2.1:=by intro l m q;induction q with|nil=>intro x hx;exact nomatch hx| @cons p q B A i t j=>intro x hx;rcases ak.mp hx with e|hx;subst e;rw[<-i.1];exact τ.of g i.2.1;exact j x hx
 exact f r
end
inductive ly(τ:bA κ)(P:Program)(w:World)(f:Bool->Bool)(Q:VK)(y x:V)(H2:Hp):Prop|mk:∀d b kvs k,x=.ref d->y=.ref b->bH τ P w H2 d kvs->Is H2 (τ.tr k) (.ref b)->Q (.bl (f (xa kvs k).isSome)) H2->ly τ P w f Q y x H2
def zA(τ:bA κ)(P:Program)(w:World)(f:Bool->Bool)(F U:TE):TE:=λσ H Q=>F σ H λy H1=>U σ H1 λx H2=>ly τ P w f Q y x H2
inductive gY(τ:bA κ)(P:Program)(w:World)(Q:VK)(x y:V)(H2:Hp):Prop|mk:∀d b kvs k v,x=.ref d->y=.ref b->bH τ P w H2 d kvs->Is H2 (τ.tr k) (.ref b)->xa kvs k=some v->Q v H2->gY τ P w Q x y H2
def EE(τ:bA κ)(P:Program)(w:World)(U F:TE):TE:=λσ H Q=>U σ H λx H1=>F σ H1 λy H2=>gY τ P w Q x y H2
inductive iF(τ:bA κ)(P:Program)(w:World)(D:Ends)(σ:St)(v x y:V)(H3:Hp):Prop|mk:∀d b kvs k,x=.ref d->y=.ref b->bH τ P w H3 d kvs->Is H3 (τ.tr k) (.ref b)->kvs.length<sizeLine->(∀o,bH τ P w (upd H3 d o) d (qo kvs k v)->D.nx σ (upd H3 d o))->iF τ P w D σ v x y H3
def Ev(τ:bA κ)(P:Program)(w:World)(Z F U:TE):TS:=λD σ H=>U σ H λv H1=>Z σ H1 λx H2=>F σ H2 λy H3=>iF τ P w D σ v x y H3
def EF(τ:bA κ)(P:Program)(w:World):TE:=λ_ H Q=>∀p o,H p=none->bH τ P w (upd H p o) p []->Q (.ref p) (upd H p o)
def Iy(τ:bA κ)(P:Program)(w:World)(U F:TE):TE:=λσ H Q=>∀p o,H p=none->bH τ P w (upd H p o) p []->U σ (upd H p o) λx H1=>F σ H1 λy H2=>∃b k,x=.ref b/\Is H2 (τ.tr k) (.ref b)/\bH τ P w H2 p []/\∀o',bH τ P w (upd H2 p o') p [(k,y)]->Q (.ref p) (upd H2 p o')
section
variable{o i aQ:Expr}{cO dH:Pos}{ty tv:TE}
theorem Jg(a:A.units+3<cLine):(Q6 (yn P w) τ.S).room A.in1:=by show A.in1.units+2<cLine;omega
theorem FF(w:X.A.units+3<cLine)(A:PE X i ty)(z:PE X o td):PC X .In i o (zA τ X.prog X.w id ty td):=by intro a s g H Q I h;refine aF (A a s g H _ I h) λt j ⟨y,K,F,l,r⟩=>aF (z a j g K _ F r) λu M ⟨x,G,f,m,d,b,e,k,D,C,n,v,p⟩=>?_;subst D C;obtain rfl:u=Value.ref d:=m;obtain rfl:t=Value.ref b:=l;obtain⟨B,L,c,_,E⟩:=n.dict f.hok;refine wpAny_in_heap (Jg w) (τ.of f.hok v) B E ?_;have q:=(c.val k).isSome_eq;rw[Option.isSome_map]at q;rw[<-q];exact⟨.bl (xa e k).isSome,G,f.tok _,J,p⟩
theorem Lq(w:X.A.units+3<cLine)(A:PE X i ty)(z:PE X o td):PC X .NotIn i o (zA τ X.prog X.w (!·) ty td):=by intro a s g H Q I h;refine aF (A a s g H _ I h) λt j ⟨y,K,F,l,r⟩=>aF (z a j g K _ F r) λu M ⟨x,G,f,m,d,b,e,k,D,C,n,v,p⟩=>?_;subst D C;obtain rfl:u=Value.ref d:=m;obtain rfl:t=Value.ref b:=l;obtain⟨B,L,c,_,E⟩:=n.dict f.hok;refine wpAny_notIn_heap (Jg w) (τ.of f.hok v) B E ?_;have q:=(c.val k).isSome_eq;rw[Option.isSome_map]at q;rw[<-q];exact⟨.bl (!(xa e k).isSome),G,f.tok _,J,p⟩
theorem vV(E:X.A.units+3<cLine)(G:PE X o td)(K:PE X i ty)(hs:t6 i):PE X (.Subscript o i aE) (EE τ X.prog X.w td ty):=by intro a s j H Q I h;refine Ba PySem.F.slot_dict_getitem.lookup hs (aF (G a s j H _ I h) λu q ⟨x,R,N,t,z⟩=>aF (K a q j R _ N z) λB W ⟨y,P,g,r,d,b,A,k,v,M,L,n,C,l,w⟩=>?_);subst M L;obtain rfl:u=Value.ref d:=t;obtain rfl:B=Value.ref b:=r;obtain⟨Z,S,e,_,m⟩:=n.dict g.hok;obtain⟨U,D,c⟩:=Xn.some_of (by rw[<-l];exact e.val k);obtain⟨p,F,f⟩:=Option.map_eq_some_iff.mp D;refine⟨m.typeIs,wpAny_getItem_heap (Jg E) (τ.of g.hok C) m F ?_⟩;rw[f];exact⟨v,P,g.tok _,c,w⟩
theorem Hz(L:X.A.units+3<cLine)(M:PE X o td)(P:PE X i ty)(K:PE X aQ tv)(hs:swapsWith aQ (some (.Subscript o i cO)) aE.line X.env=pure false):PS X (.Assign [.Subscript o i cO] aQ aE) (Ev τ X.prog X.w td ty tv):=by intro a s c H D I h;refine wpAny_Assign_Subscript (aF (K a s c H _ I h) λr w ⟨v,H1,I1,B,F⟩=>aF (M a w c H1 _ I1 F) λu t ⟨x,H2,I2,A,E⟩=>aF (P a t c H2 _ I2 E) λG s3 ⟨y,H3,j,z,d,b,f,k,ex,Z,n,l,hl,C⟩=>?_) hs;subst ex Z;obtain rfl:u=Value.ref d:=A;obtain rfl:G=Value.ref b:=z;obtain⟨Q,xs,e,hz,dd⟩:=n.dict j.hok;refine wpAny_setItem_heap (Jg L) (τ.of j.hok l) dd λh' cY g=>?_;obtain⟨q,es,ep,m,W,U,S,_,R⟩:=cY;obtain⟨p,e0,_⟩:=id n;have N:=qa f k v;refine⟨c,_,Xk j (by rw[e0];exact True.intro) g ⟨q,m⟩ (jR.ok ⟨q,es,ep,m,W,U,S⟩),C _ ⟨_,zf,Q,by omega,R,(e.put k l B).tups n.tups⟩⟩
theorem AM(h:Heap):jR τ P w h.objs.size [] (h.push {cls:=.type "dict",data:=.dict #[]}):=⟨_,#[],0,bx _ J,⟨J,J,J⟩,J,J⟩
theorem Kv:PE X (.Dict [] [] aE) (EF τ X.prog X.w):=λa s b H Q I h=>wpAny_Dict_empty ⟨.ref s.heap.objs.size,_,I.laid (λ_ _ q=>be _ q) (aj _) (AM s.heap).ok,J,h _ _ (I.hok.fresh (aj _)) ⟨[],zf,beq_eq_false_iff_ne.mpr (au (bj I.big)),bf _,List.nodup_nil,.nil⟩⟩
theorem Lr{v:Expr}(hu:X.A.units+3<cLine)(he:PE X e te)(E:PE X v tv):PE X (.Dict [some e] [v] aE) (Iy τ X.prog X.w te tv):=by
 intro a s h H Q I q;have G:=I.hok.fresh (aj s.heap.objs.size);have c:(s.heap.objs.size==sysModules)=false:=beq_eq_false_iff_ne.mpr (au (bj I.big));have I1:=I.laid (a:=s.heap.objs.size) (o:=.ext (jR τ X.prog X.w s.heap.objs.size [])) (t':=s.toks) (λ_ _ q=>be _ q) (aj _) (AM s.heap).ok;rw[arm_eval_Dict];refine aa (wpAny_standAt ?_);let r:Sem Value:=do let x<-eval v X.env;standAt aE;pure x
 show wpAny _ _ (dictDisplay ([(eval e X.env,r)].map λp=>(some p.1,p.2))) _ _ _;rw[dictDisplay_pairs _ (by simp) (by simp)];refine aa ?_;unfold subDict;refine aa (wpAny_alloc (aa (wpAny_holding ?_)));rw[if_pos (by simp)];refine aa (evalPairs_cons ?_);refine aF (he a _ h _ _ I1 (q _ _ G ⟨[],zf,c,bf _,List.nodup_nil,.nil⟩)) λu w ⟨x,H1,Z,A,D⟩=>?_;refine aa (aF (E a w h H1 _ Z D) λt s2 ⟨y,H2,g,z,b,k,R,j,n,C⟩=>?_);subst R;obtain rfl:u=Value.ref b:=A;refine aa (wpAny_standAt (ae (evalPairs_nil ?_)));refine wpAny_holding ?_;rw[List.forIn_cons];obtain⟨K,o,B,_,f⟩:=n.dict g.hok;cases B;obtain⟨m,U,_⟩:=id n;refine aa (aa (aa (wpAny_dictSet_heap (k:=k) (knd:=Q6 (yn X.prog X.w) τ.S) (show X.A.units+2<cLine by omega) (τ.of g.hok j) f (λh' W F=>ae ?_) (by rw[List.length_nil];exact bf _))));dsimp only;rw[List.forIn_nil];refine ae (ae (ae (ae ?_)));obtain⟨i,S,d,l,P,N,M,_,L⟩:=W;refine⟨.ref s.heap.objs.size,_,Xk g (by rw[U];exact True.intro) F ⟨i,l⟩ (jR.ok (xs:=storedH [] k b t) ⟨i,S,d,l,P,N,M⟩),J,C _ ⟨_,zf,K,by show 1<=sizeLine;decide,L,?_⟩⟩;exact(KG.put (kvs:=[]) (xs:=[]) .nil k j z).tups n.tups
end
end
theorem Jk{b c:Type}(f:b->c):∀(l:List b)(j:Nat),(l.eraseIdx j).map f=(l.map f).eraseIdx j|[],_=>rfl|_::_,0=>rfl| a::l,j+1=>by show f a::(l.eraseIdx j).map f=f a::(l.map f).eraseIdx j;rw[Jk f l j]
section
variable{K:Type}[DecidableEq K]{knd:HeapKind prog w K}
theorem Kg{d:Y}{xs:O (K×Y×I)}{k:K}{dflt:I}(t:knd.room A)(b:knd.is s.heap k a)(C:s.heap.DictOfH knd d xs)(c:∀p,atKey xs k=some p->Q p.2 {s with toks:=s.toks+knd.draws k})
  (i:atKey xs k=none->∀h',h'.DictOfH knd d (storedH xs k a dflt)->Heap.SameBut d s.heap h'->Q dflt {s with heap:=h',toks:=s.toks+knd.draws k}) (B:xs.length<=sizeLine):
  wpAny (model prog w) A (dictSetDefault d (.ref a) dflt) Q E s:=by
 obtain⟨o,G,F,g,D,f,m,l,r⟩:=C;unfold dictSetDefault
 try with_reducible refine wpAny_holding ?_
 refine aa (knd.pyHash t b ?_);refine aa (wpAny_dictFind_heap t b g f m l r ?_ ?_);intro h;have n:=atKey_none_of_get h;refine aa (wpAny_rule (aa (wpAny_updateDictKeys (hz:=by have e:=size_of_entries m;omega) g f (ae (i n _ ⟨_,_,F+1,Heap.get?_update_self _ g (Obj.isFreed_of_dict (Obj.data_mapDictKeys f _)),D.mapDictKeys _,Obj.data_mapDictKeys f _,?_,?_,?_⟩ (Heap.SameBut.update ..))))))
 rw[storedH_new n];simp[m,entryOfKey];rw[storedH_new n];intro x hx;rcases ce.mp hx with hx|hx;exact knd.keeps (l x hx) g f (Heap.SameBut.update ..);rw[ai.mp hx];exact knd.keeps b g f (Heap.SameBut.update ..);rw[storedH_new n,aq,List.nodup_append];refine⟨r,by simp,λx hx y v z=>?_⟩;have q:y=k:=by simpa using v
 exact not_mem_keys_of_get h (q▸z▸hx);intro j p u;refine aa (wpAny_dictEntries g f ?_);rw[entry_at m j,u];exact aa (wpAny_rule (ae (c p (atKey_of_get r u))))
theorem ND{d:Y}{xs:O (K×Y×I)}{k:K}{Q:Option DictEntry->Shared->Prop}(t:knd.room A)(b:knd.is s.heap k a)(z:s.heap.DictOfH knd d xs)(f:atKey xs k=none->Q none {s with toks:=s.toks+knd.draws k})
  (c:∀j p,xs[j]?=some (k,p)->∀h',h'.DictOfH knd d (xs.eraseIdx j)->Heap.SameBut d s.heap h'->Q (some (entryOfKey knd (k,p))) {s with heap:=h',toks:=s.toks+knd.draws k}) (y:xs.length<=sizeLine):
  wpAny (model prog w) A (Builtin.Dict.takeOut d (.ref a)) Q E s:=by
 obtain⟨o,C,D,h,B,g,m,i,u⟩:=z;unfold Builtin.Dict.takeOut
 try with_reducible refine wpAny_holding ?_
 refine aa (knd.pyHash t b ?_);refine aa (wpAny_dictFind_heap t b h g m i u ?_ ?_);intro n;exact ae (f (atKey_none_of_get n));intro j p r;refine aa (wpAny_dictEntries h g ?_);rw[entry_at m j,r];refine aa (wpAny_updateDictKeys (hz:=by have e:=size_of_entries m;omega) h g (ae (c j p r _ ⟨_,_,D+1,Heap.get?_update_self _ h (Obj.isFreed_of_dict (Obj.data_mapDictKeys g _)),B.mapDictKeys _,Obj.data_mapDictKeys g _,?_,?_,?_⟩ (Heap.SameBut.update ..))))
 rw[Jk,<-m];obtain⟨l⟩:=C;have q:j<l.length:=by have G:=(ci.mp r).1;have v:=congrArg List.length m;rw[ag]at v;have F:l.length=xs.length:=v;omega
 simp[Array.eraseIdxIfInBounds_eq,q];intro x hx;exact knd.keeps (i x (List.mem_of_mem_eraseIdx hx)) h g (Heap.SameBut.update ..);rw[Jk];exact u.sublist (List.eraseIdx_sublist ..)
end
section
variable{κ:Type}[DecidableEq κ]{τ:bA κ}
theorem KG.erase {kvs:List (κ×V)} {xs:List (gQ κ)} (r:KG τ H kvs xs) (u:(xs.map (·.1)).Nodup) {j:Nat} {k:κ} {p:Addr×Value} (f:xs[j]?=some (k,p)):KG τ H (pK kvs k) (xs.eraseIdx j):=by
 induction r generalizing j with
 |nil=>rw[List.getElem?_nil]at f;cases f
 | @cons a q y n h t s=>
   have d:=cu.mp u;unfold pK;rw[List.filter_cons];cases j with
   | zero=>
     rw [List.getElem?_cons_zero]at f;cases f;have e:=h.1;rw[if_neg (by simp[e])];have keep:∀{l:List (κ×V)} {m:List (gQ κ)},KG τ H l m->k ∉ m.map (·.1)->(l.filter λo=>decide (o.1≠k))=l:=by
      intro l m q;induction q with
      |nil=>exact λ_=>rfl
      | @cons b c B A w x g=>intro hk;have i:b.1≠k:=λz=>hk (ak.mpr (.inl (z.symm.trans w.1)));rw[List.filter_cons,if_pos (by simp[i]),g λz=>hk (bn _ z)]
     rw[keep t d.1];exact t
   | succ j=>
     rw[List.getElem?_cons_succ]at f;have i:a.1≠k:=λz=>by have v:k∈n.map (·.1):=List.mem_map_of_mem (bq f);exact d.1 (by show q.1∈_;rw[<-h.1,z];exact v)
     rw[if_pos (by simp[i])];exact .cons h (s d.2 f)
theorem bH.typ{d:Y}{kvs:O (κ×V)}(b:cA P w H h)(n:bH τ P w H d kvs):∃o,h.get? d=some o/\o.cls=.type "dict"/\o.dict=none:=by obtain⟨_,e,_,_,o,f,g,c,a,_⟩:=n.dict b;exact⟨o,c,a.1,a.2.1⟩
inductive fM(τ:bA κ)(P:Program)(w:World)(Q:VK)(d:Addr)(y z:V)(H3:Hp):Prop|mk:∀b kvs k,y=.ref b->bH τ P w H3 d kvs->Is H3 (τ.tr k) (.ref b)->(∀v,xa kvs k=some v->∀o,bH τ P w (upd H3 d o) d (pK kvs k)->Q v (upd H3 d o))->(xa kvs k=none->Q z H3)->fM τ P w Q d y z H3
inductive eN(τ:bA κ)(P:Program)(w:World)(ty tx:TE)(σ:St)(Q:VK)(x:V)(H1:Hp):Prop|mk:∀d kvs0,x=.ref d->bH τ P w H1 d kvs0->(ty σ H1 λy H2=>tx σ H2 λz H3=>fM τ P w Q d y z H3)->eN τ P w ty tx σ Q x H1
def Gm(τ:bA κ)(P:Program)(w:World)(Z F U:TE):TE:=λσ H Q=>Z σ H λx H1=>eN τ P w F U σ Q x H1
variable{o f:Expr}{ty tx:TE}
theorem I9(hu:X.A.units+4<cLine)(ho:PE X o td)(he:PE X e ty)(hf:PE X f tx)(m:M2 X o "pop" apos e f cpos):PE X (.Call (.Attribute o "pop" apos) [e,f] [] cpos) (Gm τ X.prog X.w td ty tx):=by
 intro g s B H Q I h;refine wpAny_Call_method m.base m.few m.line PySem.F.plainAttrs_dict PySem.F.slot_dict_pop PySem.F.type_dict_pop (aF (ho g s B H _ I h) λu s1 ⟨x,H1,I1,rx,d,U,ex,n0,q1⟩=>?_);subst ex;obtain rfl:u=Value.ref d:=rx;obtain⟨S,M,t1,t2⟩:=n0.typ I1.hok;refine⟨⟨S,M,t1⟩,λb q=>by cases q;exact⟨S,M,t2⟩,?_⟩;rw[m.trees];refine Calls.callWith_builtin J (Calls.evalArgs_plain (Calls.spliced_cons (aF (he g s1 B H1 _ I1 q1) λiv s2 ⟨y,H2,I2,ry,q2⟩=>Calls.spliced_cons (aF (hf g s2 B H2 _ I2 q2) λfv s3 ⟨z,H3,w,N,b,i,k,ey,n,ik,q3,P⟩=>Calls.spliced_nil ?_))))
 subst ey;obtain rfl:iv=Value.ref b:=ry;obtain⟨F,L,r,hz,A⟩:=n.dict w.hok;refine cy PySem.F.slot_dict_pop A.typeIs PySem.F.entry_dict_pop ?_ (PySem.F.args_dict_pop_3 _ _ _);unfold Builtin.«dict.pop»;refine aa ?_;unfold Builtin.Dict.keyAndDefault;refine aa (wpAny_notOrdered_dict A.typeIs ?_);refine ae ?_;obtain⟨o1,es,ep,C,av,E,D,ap,Z⟩:=id A;have a:atKey L k=none->xa i k=none:=λl=>by have q:=(r.val k).isSome_eq;rw[l]at q;cases c:xa i k with|none=>rfl|some p=>rw[c]at q;cases q
 dsimp only;rw[if_neg (by exact c7)];refine aa (wpAny_dictEntries C E (aa (ae ?_)));by_cases em:es.isEmpty=true;rw[if_pos em];refine aa (wpAny_rule (aa (ae ?_)));have x0:L=[]:=by
  have h1:=size_of_entries D;have h2:es.size=0:=by simpa using em
  exact fi.mp (by omega)
 rw[if_pos (show none.isNone=true from rfl)];refine aa (wpAny_missedRemoval_other F ?_);exact aa (wpAny_rule (ae ⟨fv,J,z,H3,w,N,P (a (by rw[x0];rfl))⟩));rw[if_neg em];refine aa (ND (Jg (by omega)) (τ.of w.hok ik) A (λl=>?_) (λj p hj h' cY hs=>?_) hz);rw[if_pos (show none.isNone=true from rfl)];refine aa (wpAny_missedRemoval_other F ?_);exact aa (wpAny_rule (ae ⟨fv,J,z,H3,w.tok _,N,P (a l)⟩));rw[if_neg (show¬(some (entryOfKey _ (k,p))).isNone=true from c7)];have hv:=atKey_of_get Z hj;have t:=r.val k;rw[hv]at t;obtain⟨R,G,K,W,h2,h3,h4,_,h5⟩:=cY;obtain⟨af,e0,_⟩:=id n;cases c:xa i k with|none=>rw[c]at t;exact t.elim| some v=>rw[c]at t;have ah:=Iq i k;refine aa (wpAny_letGo (ae ⟨p.2,J,v,_,Xk w (by rw[e0];exact True.intro) hs ⟨R,W⟩ (jR.ok ⟨R,G,K,W,h2,h3,h4⟩),t,q3 v c _ ⟨_,zf,F,by omega,h5,(r.erase Z hj).tups n.tups⟩⟩))
end
section
variable{κ:Type}[DecidableEq κ]{τ:bA κ}
inductive fK(τ:bA κ)(P:Program)(w:World)(Q:VK)(d:Addr)(y z:V)(H3:Hp):Prop|mk:∀b kvs k,y=.ref b->bH τ P w H3 d kvs->Is H3 (τ.tr k) (.ref b)->kvs.length<sizeLine->(∀v,xa kvs k=some v->Q v H3)->(xa kvs k=none->∀o,bH τ P w (upd H3 d o) d (qo kvs k z)->Q z (upd H3 d o))->fK τ P w Q d y z H3
inductive eM(τ:bA κ)(P:Program)(w:World)(ty tx:TE)(σ:St)(Q:VK)(x:V)(H1:Hp):Prop|mk:∀d kvs0,x=.ref d->bH τ P w H1 d kvs0->(ty σ H1 λy H2=>tx σ H2 λz H3=>fK τ P w Q d y z H3)->eM τ P w ty tx σ Q x H1
def FV(τ:bA κ)(P:Program)(w:World)(Z F U:TE):TE:=λσ H Q=>Z σ H λx H1=>eM τ P w F U σ Q x H1
variable{o f:Expr}{ty tx:TE}
theorem JA(hu:X.A.units+4<cLine)(ho:PE X o td)(he:PE X e ty)(hf:PE X f tx)(m:M2 X o "setdefault" apos e f cpos):PE X (.Call (.Attribute o "setdefault" apos) [e,f] [] cpos) (FV τ X.prog X.w td ty tx):=by
 intro a s r H Q I h;refine wpAny_Call_method m.base m.few m.line PySem.F.plainAttrs_dict PySem.F.slot_dict_setdefault PySem.F.type_dict_setdefault (aF (ho a s r H _ I h) λu s1 ⟨x,H1,P,rx,d,G,ex,n0,q1⟩=>?_);subst ex;obtain rfl:u=Value.ref d:=rx;obtain⟨F,C,U,S⟩:=n0.typ P.hok;refine⟨⟨F,C,U⟩,λb q=>by cases q;exact⟨F,C,S⟩,?_⟩;rw[m.trees];refine Calls.callWith_builtin J (Calls.evalArgs_plain (Calls.spliced_cons (aF (he a s1 r H1 _ P q1) λiv Z ⟨y,H2,I2,ry,q2⟩=>Calls.spliced_cons (aF (hf a Z r H2 _ I2 q2) λN W ⟨z,H3,l,D,b,i,k,ey,n,K,hl,q3,q4⟩=>Calls.spliced_nil ?_))))
 subst ey;obtain rfl:iv=Value.ref b:=ry;obtain⟨M,xs,j,hz,B⟩:=n.dict l.hok;refine cy PySem.F.slot_dict_setdefault B.typeIs PySem.F.entry_dict_setdefault ?_ (PySem.F.args_dict_setdefault_3 _ _ _);unfold Builtin.«dict.setdefault»;refine aa ?_;unfold Builtin.Dict.keyAndDefault;refine aa (wpAny_notOrdered_dict B.typeIs ?_);refine ae ?_;show wpAny _ _ (if(d==sysModules)=true then _ else(dictSetDefault d (.ref b) N>>=_)) _ _ W;rw[if_neg (by rw[M];exact c7)];have g:=j.val k;refine aa (Kg (Jg (by omega)) (τ.of l.hok K) B (λp hp=>?_) (λt h' cY hs=>?_) hz);rw[hp]at g;cases c:xa i k with|none=>rw[c]at g;exact g.elim| some v=>rw[c]at g;exact ae ⟨p.2,J,v,H3,l.tok _,g,q3 v c⟩
 rw[t]at g;cases c:xa i k with|some v=>rw[c]at g;exact g.elim| none=>obtain⟨E,w,A,L,h2,h3,h4,_,h5⟩:=cY;obtain⟨R,e0,_⟩:=id n;have af:=qa i k z;exact ae ⟨N,J,z,_,Xk l (by rw[e0];exact True.intro) hs ⟨E,L⟩ (jR.ok ⟨E,w,A,L,h2,h3,h4⟩),D,q4 c _ ⟨_,zf,M,by omega,h5,(j.put k K D).tups n.tups⟩⟩
end
section
theorem AQ{i:Int}{v:V}(a:Is H (.int i) v)(r:yq v u):fo (yn P w) h (.inr (.inl i)) u:=by cases(a);exact Qn r
theorem GP{x:Str}{v:V}(a:Is H (.str x) v)(r:yq v u):fo (yn P w) h (.inr (.inr x)) u:=by cases(a);exact Qn r
theorem GQ(d:cA P w H h){g:O Int}{v:V}(a:Is H (tI g) v)(r:yq v u):fo (yn P w) h (.inl (kI g)) u:=by obtain⟨b,f,rfl,c,e⟩:=a;rw[IsL.ints.mp e,<-mH]at c;cases(r);exact⟨b,J,Wj d c⟩
theorem Bj(j:cA P w H h){c b:T}{k1 k2:dC aK}(i:Is H (.tup [c,b]) (.ref a))(s:∀v u,Is H c v->yq v u->fo (yn P w) h k1 u)(q:∀v u,Is H b v->yq v u->fo (yn P w) h k2 u):Z1 (yn P w) h [k1,k2] a:=by
 obtain⟨D,z,e,p,hx⟩:=i;cases e;obtain⟨_,k,r,⟨o,g1,x,n,t⟩,_⟩:=(j a _ p)
 obtain⟨C,A,rfl,m,B,d,rfl,l,y⟩:=hx;cases(y);cases r with| cons g r=>cases r with| cons f r=>cases r;exact⟨o,_,n,g1,x,t,by simpa using cQ.cons (s _ _ m g) (.cons (q _ _ l f) .nil)⟩
end
noncomputable def pU:bA (Str×Int) where
 S := { f:=λp=>[.inr (.inr p.1),.inr (.inl p.2)]
        inj:=λa b e=>by
         injection e with e1 e2;injection e2 with e2 _;injection e1 with e1;injection e1 with e1;injection e2 with e2;injection e2 with e2;exact Prod.ext e1 e2
        one:=λ_ _=>rfl}
 tr:=λp=>.tup [.str p.1,.int p.2]
 fro:=λ_=>⟨trivial,trivial,trivial⟩
 of:=λok _ _ i=>Bj ok i (λ_ _=>GP) (λ_ _=>AQ)
noncomputable def eF:bA (List Int×Int) where
 S := { f:=λp=>[.inl (kI p.1),.inr (.inl p.2)]
        inj:=λa b e=>by
         injection e with e1 e2;injection e2 with e2 _;injection e1 with e1;injection e2 with e2;injection e2 with e2;exact Prod.ext (Zx e1) e2
        one:=λ_ _=>rfl}
 tr:=λp=>.tup [tI p.1,.int p.2]
 fro:=λp=>⟨xD p.1,trivial,trivial⟩
 of:=λok _ _ i=>Bj ok i (λ_ _=>GQ ok) (λ_ _=>AQ)
section
variable{d it v:Addr}{ep i:Nat}{ok ov:Value}
theorem Gv(b:(d==sysModules)=false)(x:Zv s.heap d es ep)(a:Q (.ref s.heap.objs.size) {s with heap:=s.heap.push {cls:=.type "dict_items",data:=.fields #[.ref d]}}):wpAny (model prog w) A (call (.builtin "dict.items") [.ref d]) Q E s:=by have hT:=x.ty;refine cy F.slot_dict_items hT F.entry_dict_items ?_ (F.args_dict_items_1 _);unfold Builtin.«dict.items»;refine aa ?_;unfold Builtin.Dict.noArgs;refine aa (wpAny_notOrdered_dict hT (ae ?_));unfold Builtin.Dict.showsAll;rw[if_neg (by simp_all)];exact aa (ae (aa (df (ae ⟨_,J,a⟩))))
theorem Gs(b:s.heap.IsItemsView v d)(x:Zv s.heap d es ep)(h:Q (.ref s.heap.objs.size) {s with heap:=s.heap.push {cls:=.type "dict_itemiterator",data:=.fields #[.none,.bool false,.ref d,.int 0 0,.int es.size 0,.int ep 0,.none,.none]}}):wpAny (model prog w) A (pyIter (.ref v)) Q E s:=by
 obtain⟨i,c,g,e⟩:=id b;obtain⟨o,f,j,a⟩:=id x;refine wpAny_pyIter_slot b.typeIs F.slot_dict_items_iter (cy F.slot_dict_items_iter b.typeIs F.entry_dict_items_iter ?_ (F.args_dict_items_iter_1 _));unfold Builtin.«dict_items.__iter__»;refine aa (ae (aa ?_));unfold Builtin.Dict_items.dictOf;refine aa (wpAny_field c e J (ae (aa ?_)));unfold Builtin.Dict_items.newIterator;refine aa (wpAny_dictEntries f a (aa (wpAny_dictEpoch f a ?_)));simp only[show Builtin.Dict_items.ownsTuple "dict_itemiterator"=true by rfl,if_true];refine df (ae ⟨_,J,"dict_itemiterator",_,⟨_,bx _ J,J⟩,F.slot_dict_itemiterator_next.lookup,?_⟩)
  (by simp only[sizeOk,Builtin.Dict_items.ownedTupleFields,cx,az,dj,List.length_nil,sizeLine_eq];omega)
 simpa[rawInt,Builtin.Dict_items.ownedTupleFields]using h
theorem Gq{Q:Option I->Shared->Prop}(z:IsItemIter s.heap it d i es.size ep ok ov)(x:Zv s.heap d es ep)(Z:i<es.size)(hQ:∀h',IsItemIterOut h' it d (i+1) es.size ep es[i].key es[i].val s.heap.objs.size->h'.get? s.heap.objs.size=some {cls:=.type "tuple",data:=.seq #[es[i].key,es[i].val]}->h'.objs.size=s.heap.objs.size+1-> (∀b o,b≠it->s.heap.get? b=some o->h'.get? b=some o)->Q (some (.ref s.heap.objs.size)) {s with heap:=h'}):wpAny (model prog w) A (pyNext (.ref it)) Q E s:=by
 obtain⟨K,g,P,N,os⟩:=s;obtain⟨od,L,af,M⟩:=id x;have hT:Shared.TypeIs ⟨K,g,P,N,os⟩ (.ref it) "dict_itemiterator":=⟨_,z,J⟩
 unfold pyNext;refine aa (wpAny_attempt (wpAny_callSpecial?_slot hT F.slot_dict_itemiterator_next (cy F.slot_dict_itemiterator_next hT F.entry_dict_itemiterator_next (aa (ae (aa (aa ?_)))) (F.args_dict_itemiterator_next_1 _))));first|refine aa (wpAny_typeNameOfWhole_itemiter hT (ae ?_))|refine aa (wpAny_typeNameOf_itemiter hT (ae ?_))
 refine aa (wpAny_fieldsOf z J ?_);simp only[show Builtin.Dict_items.ownsTuple "dict_itemiterator"=true by rfl,if_true];show wpAny _ _ (if(Value.ref d==Value.none)=true then _ else _) _ _ _;rw[if_neg (show¬((Value.ref d==Value.none)=true)from c7)];refine aa (ae (aa (wpAny_dictEntries L M ?_)));rw[if_neg (by simp)];refine aa (ae (aa (wpAny_dictEpoch L M ?_)));rw[if_neg (by simp)];refine ae ?_;simp only[(by omega),if_false,cj,ff Z];refine aa ?_;first|refine aa (wpAny_typeNameOfWhole_itemiter hT (ae ?_))|refine aa (wpAny_typeNameOf_itemiter hT (ae ?_))
 refine aa (wpAny_isOneOf_itemiter hT ?_);show wpAny _ _ (setField (.ref it) 3 (rawInt (i+1))>>=_) _ _ ⟨K,g,P,N,os⟩;refine aa (wpAny_setField_rec z (by simp) λp f a=>?_);replace a:=a;replace f:IsItemIter p it d (i+1) es.size ep ok ov:=by
  have e:((i+1:Nat))=i+1:=by omega
  unfold IsItemIter;rw[e];simpa[rawInt]using f
 have v:Shared.TypeIs ⟨p,g,P,N,os⟩ (.ref it) "dict_itemiterator":=⟨_,f,J⟩
 refine aa (wpAny_holding (aa (wpAny_isOneOf_itemiter v (aa (wpAny_isOneOf_itemiter v ?_)))));unfold Builtin.Dict_items.pairFromOwner;refine aa (wpAny_newTuple ?_);have c:IsItemIter (p.push {cls:=.type "tuple",data:=.seq #[es[i].key,es[i].val]}) it d (i+1) es.size ep ok ov:=be _ f;generalize n:p.push {cls:=.type "tuple",data:=.seq #[es[i].key,es[i].val]}=y at c;have h:=a.1;have R:=dm (ax (z));have D:y.get? K.objs.size=some {cls:=.type "tuple",data:=.seq #[es[i].key,es[i].val]}:=by rw[<-n,<-h];exact bx _ J
 have C:y.objs.size=K.objs.size+1:=by rw[<-n,ee,h]
 have G:∀b o,b≠it->K.get? b=some o->y.get? b=some o:=λb o B e=>by rw[<-n];exact be _ (a.extBut b o B e)
 show wpAny _ _ (Builtin.Dict_items.ownedTupleIsFree (.ref it)>>=_) _ _ ⟨y,g,P,N,os⟩;rw[h];clear n f a v h p;refine aa ?_;unfold Builtin.Dict_items.ownedTupleIsFree;refine aa (wpAny_field c J J (ae ?_));simp only[if_true];refine aa (wpAny_field c J J (aa (wpAny_field c J J ?_)));refine aa (wpAny_setField_rec c (by simp) λX u m=>?_);replace u:=u;refine aa (wpAny_setField_rec u (by simp) λW t l=>?_);replace t:=t;refine aa (wpAny_setField_rec t (by simp) λU r k=>?_);replace r:=r;refine aa (wpAny_setField_rec r (by simp) λH q j=>?_);replace q:=q;replace m:=m;replace l:=l;replace k:=k;replace j:=j;have S:=λb o B e=>j.extBut b o B (k.extBut b o B (l.extBut b o B (m.extBut b o B e)));refine aa (wpAny_letGo (ae (ae ⟨_,J,ae (hQ H q (S _ _ R D) ?_ λb o B e=>S b o B (G b o B e))⟩)));rw[j.1,k.1,l.1,m.1,C]
theorem FN{Q:Option I->Shared->Prop}(f:A.handled=none)(a:IsItemIter s.heap it d i es.size ep ok ov)(x:Zv s.heap d es ep)(e:es.size<=i)(h:∀h',Heap.ExtBut it s.heap h'->Q none {s with heap:=h'}):wpAny (model prog w) A (pyNext (.ref it)) Q E s:=by
 obtain⟨j,b,g,c⟩:=id x;have hT:s.TypeIs (.ref it) "dict_itemiterator":=⟨_,a,J⟩
 unfold pyNext;refine aa (wpAny_attempt (wpAny_callSpecial?_slot hT F.slot_dict_itemiterator_next (cy F.slot_dict_itemiterator_next hT F.entry_dict_itemiterator_next (aa (ae (aa (aa ?_)))) (F.args_dict_itemiterator_next_1 _))));first|refine aa (wpAny_typeNameOfWhole_itemiter hT (ae ?_))|refine aa (wpAny_typeNameOf_itemiter hT (ae ?_))
 refine aa (wpAny_fieldsOf a J ?_);simp only[show Builtin.Dict_items.ownsTuple "dict_itemiterator"=true by rfl,if_true];show wpAny _ _ (if(Value.ref d==Value.none)=true then _ else _) _ _ s;rw[if_neg (show¬((Value.ref d==Value.none)=true)from c7)];refine aa (ae (aa (wpAny_dictEntries b c ?_)));rw[if_neg (by simp)];refine aa (ae (aa (wpAny_dictEpoch b c ?_)));rw[if_neg (by simp)];refine ae ?_;simp only[(by omega),if_false,cj,Array.getElem?_eq_none e];refine aa ?_;first|refine aa (wpAny_typeNameOfWhole_itemiter hT (ae ?_))|refine aa (wpAny_typeNameOf_itemiter hT (ae ?_))
 show wpAny _ _ (setField (.ref it) 2 .none>>=_) _ _ s;refine aa (wpAny_setField a J (by simp) ?_);refine aa ?_;simp only[newExc,newTuple];refine aa (df (aa (wpAny_of_eq (by rfl) (df ?_ (by size_fits)))) (by size_fits));simp only[raiseNew];refine aa (wpAny_handled ?_);rw[(f)];refine aa (ae (wpAny_throw ?_));refine aa (dz ⟨_,bx _ J,J⟩ isSubtype_stop ?_);exact ae (h _ (((Heap.SameBut.update ..).extBut.push _).push _))
theorem Gu(a:IsItemIter s.heap it d i es.size ep ok ov)(h:Q (.ref it) s):wpAny (model prog w) A (pyIter (.ref it)) Q E s:=kcp_self a h
end
noncomputable def tX(d:Addr)(o:Obj)(kvs:List (List aK×V)):It:=⟨λi H=>H d=some (.frz o (.dT kvs))/\i<kvs.length,λi H v H'=>∃p b F,v=.ref p/\H p=none/\kvs[i]?=some F/\H b=some (.tup (F.1.map kV))/\H'=upd H p (.tup [.ref b,F.2]),λi H=>H d=some (.frz o (.dT kvs))/\kvs.length<=i⟩
theorem W7{d:Y}{kvs:O (O aK×V)}(u:cA P w H h)(e:H d=some (.frz o (.dT kvs))):(d==sysModules)=false/\h.get? d=some o/\o.ExactDict/\∃es ep,o.data=.dict es ep/\es.size=kvs.length/\∀i f,kvs[i]?=some f->∃(hi:i<es.size)(b:Y),es[i].key=.ref b/\H b=some (.tup (f.1.map kV))/\yq f.2 es[i].val:=by
 obtain⟨A,_⟩:=u d _ e;obtain⟨z,E,g,n,⟨F,es,ep,x,t,k,y,_,_⟩⟩:=Kc u (.inr ⟨o,e⟩);rw[A]at x;cases x;have C:=Paired.length n;have D:=size_of_entries y;refine⟨E,A,t,es,ep,k,by omega,λi f hk=>?_⟩;have hi:i<kvs.length:=by grind
 have j:i<es.size:=by omega
 have s:g[i]?=some g[i]:=br (by omega);have v:f.1=g[i].1/\H g[i].2.1=some (.tup (f.1.map kV))/\yq f.2 g[i].2.2:=by
  have B:∀{l:O (O aK×V)}{m:O (O aK×Y×I)},KT H l m->∀{i:Nat}{p q},l[i]?=some p->m[i]?=some q->p.1=q.1/\H q.2.1=some (.tup (p.1.map kV))/\yq p.2 q.2.2:=by intro l m r;induction r with|nil=>simp| cons a _ G=>grind
  grind
 have c:=entry_at y i;rw[s,ff j]at c;have c:=Option.some.inj c;exact⟨j,g[i].2.1,by rw[c];rfl,v.2.1,by rw[c];exact v.2.2⟩
theorem MP{K:Frag}{k1}(d u:Y)(o:Obj)(kvs:O (O aK×V))(A:Array DictEntry)(M:Nat)(j:o.data=.dict A M):dF P w K (.Tuple eV k1 aE) (tX d o kvs) [u] u (λi h=>∃ok ov,IsItemIter h u d i A.size M ok ov) where
 mem:=by simp
 obj:=λi h st b G=>by grind
 keep:=λi h h' ⟨ok,ov,st⟩ k=>⟨ok,ov,k u (by simp) _ st⟩
 item:=by
  intro X hP N hK x i t s σ H E I Z st W;subst hP N hK;obtain⟨hH,U⟩:=W;obtain⟨ok,ov,st⟩:=st;obtain⟨hd,h0,v,ap,av,a,Q,C⟩:=W7 I.hok hH;rw[j]at a;cases a;obtain⟨S,b,D,G,rv⟩:=C i kvs[i] (br U);obtain⟨f0,L,f2,f3,f4,f5⟩:=Z u (by simp);refine Gq st ⟨o,h0,v,j⟩ S λg gi gT gz gk=>?_;refine⟨.ref s.heap.objs.size,J,wpAny_letOwnedTupleGo_items gi λg' ah p=>?_⟩;replace p:=p;have f:=I.hok.fresh (aj _);have B:=dm (ax st);have l:=λc o n e=>p.extBut c o n (gk c o n e);have af:=p.extBut _ _ B gT;have aw:∀c o,H c=some o->c≠u:=λc o e z=>by simp_all
  have I1:Inv X t σ (upd H s.heap.objs.size (.tup [.ref b,kvs[i].2])) {s with heap:=g',toks:=s.toks}:=by
   refine I.step (λc x=>by rw[ai.mp x];exact⟨f3,L,f4,f5⟩) (λc o n1 n2 y e _=>l c o (λz=>y (by grind)) e)
    (λc o n1 n2 y e _=>⟨o.slots,l c o (λz=>y (by grind)) e⟩) (λc o y e n=>by rw[upd_ne (bj (ax e))];exact n) (λc o y e=>⟨o,l c o (λz=>y (by grind)) e⟩)
    (λc zs e=>by rw[upd_ne (zn e f)];exact e) (λc o zs e=>by rw[upd_ne (zn e f)];exact e) (λc ps e=>⟨#[],by rw[upd_ne (zn e f),e];simp⟩) (λm hm=>?_) (λc ob e=>?_) I.bare
   obtain⟨o,A,M,R,r⟩:=hm;exact⟨o,A,M,l _ o (au L) R,r⟩;by_cases F:c=s.heap.objs.size;subst F;rw[zf]at e;cases e;exact⟨by show 2<=sizeLine;rw[sizeLine_eq];omega,[A[i].key,A[i].val],.cons D (.cons rv .nil),⟨_,af,J,_,J⟩,λq hq=>by simp_all⟩
   rw[upd_ne F]at e;refine(I.hok c ob e).stay (λd o x q=>?_) (λd q=>by rw[upd_ne (zn q f)];exact q) λd zs q=>by rw[upd_ne (zn q f)];exact q
   grind
  exact⟨.ref s.heap.objs.size,_,I1,J,⟨_,b,_,J,f,br U,G,J⟩,⟨_,_,ah⟩,λc x=>by rw[ai.mp x,upd_ne (au B)];omega⟩
 done:=by intro X hP N hK x i t s σ H E I Z st W;subst hP N hK;obtain⟨hH,U⟩:=W;obtain⟨ok,ov,st⟩:=st;obtain⟨hd,h0,v,ap,av,a,Q,_⟩:=W7 I.hok hH;rw[j]at a;cases a;obtain⟨f0,L,f2,f3,f4,f5⟩:=Z u (by simp);exact FN (I.ok.hd x) st ⟨o,h0,v,j⟩ (by omega) λh' eb=>⟨J,I.turned (λb o G e=>eb b o G e) f0 L f3 f4 f5⟩
 self:=λ_ _ _ _ _ ⟨ok,ov,st⟩ h=>Gu st h
section
variable{o:Expr}{dH:Pos}{k1:_}
inductive fU(R:It->Hp->Prop)(x:V)(H1:Hp):Prop|mk:∀d ob kvs,x=.ref d->H1 d=some (.frz ob (.dT kvs))->R (tX d ob kvs) H1->fU R x H1
def Fh(to:TE):TI:=λσ H R=>to σ H λx H1=>fU R x H1
theorem X8{to:TE}(C:PE X o to)(g:attributeBase o "items" X.env (eval o X.env)=eval o X.env:=by rfl)(f:(apos.endLine==cpos.line)=true:=by rfl):PI X (.Tuple eV k1 dH) (.Call (.Attribute o "items" apos) [] [] cpos) (Fh to):=by
 intro j s y H R I h;refine wpAny_Call_method0_late g f (aF (C j s y H _ I h) λv i ⟨x,K,m,z,d,n,p,F,D,q⟩=>?_);subst F;cases z;obtain⟨B,w,l,r,t,c,A,_⟩:=W7 m.hok D;have u:Zv i.heap d r t:=⟨n,w,l,c⟩
 refine⟨"dict","dict.items",PySem.F.plainAttrs_dict,PySem.F.slot_dict_items,PySem.F.type_dict_items,u.ty,λa e=>?_,Calls.callWith_builtin J (PySem.evalArgs_none (Gv B u ?_))⟩;cases e;exact⟨n,w,l.2.1⟩;refine Gs ⟨_,bx _ J,J,J⟩ (u.at λo e=>be _ e) ?_;have G:=m.kept (t':=i.toks) (h':=(i.heap.push {cls:=.type "dict_items",data:=.fields #[.ref d]}).push {cls:=.type "dict_itemiterator",data:=.fields #[.none,.bool false,.ref d,.int 0 0,.int r.size 0,.int t 0,.none,.none]}) λb o e=>be _ (be _ e);have k:i.heap.objs.size<=(i.heap.push {cls:=.type "dict_items",data:=.fields #[.ref d]}).objs.size:=by simp
 refine⟨_,[(i.heap.push {cls:=.type "dict_items",data:=.fields #[.ref d]}).objs.size],_,_,K,J,G,MP d _ n p r t c,⟨_,_,bx _ J⟩,λb E=>?_,q⟩;rw[ai.mp E];exact m.fpOk k (m.hok.fresh k)
end
theorem CH{d:Y}{kvs:O (O aK×V)}(Pv:Nat->St->Hp->Prop)(s:Pv 0 σ H)(l:∀i σ H,i<=kvs.length->Pv i σ H->H d=some (.frz o (.dT kvs)))(hs:∀i c σ H,kvs[i]?=some c->Pv i σ H->∀p b,H p=none->H b=some (.tup (c.1.map kV))->g (.ref p) σ (upd H p (.tup [.ref b,c.2])) λf H2=>tb (D.lp (Pv (i+1))) f H2) (r:∀σ H,Pv kvs.length σ H->D.nx σ H):
  cV g tb D σ (tX d o kvs) H:=by
 refine⟨λi m σ H=>m=kvs.length-i/\i<=kvs.length/\Pv i σ H,⟨kvs.length,by simp,bf _,s⟩,?_⟩;rintro i m σ H ⟨rfl,n,p⟩;have q:=l i σ H n p;by_cases a:i<kvs.length;refine .inr ⟨⟨q,a⟩,Pv (i+1),λh t j=>⟨kvs.length-(i+1),by omega,J,a,j⟩,λx t y=>?_⟩;obtain⟨u,b,c,rfl,k,hk,v,rfl⟩:=y
 grind
 have e:i=kvs.length:=by omega
 subst e;exact .inl ⟨⟨q,aj _⟩,r σ H p⟩
noncomputable def jQ(rows:List (List Int×V))(kvs:List (List aK×V)):List (List aK×V):=rows.foldl (λF r=>qo F (kI r.1) r.2) kvs
inductive iV(as:List V)(H:Hp)(Q:VK):Prop|mk:∀(p:Addr)(bs:List Addr)(rows:List (List Int×V)),as=[.ref p]->H p=some (.lst (bs.map V.ref))->Paired (dR H) bs rows->(∀d H',zi H H'->H d=none->H' d=some (.dT (jQ rows []))->Q (.ref d) H')->iV as H Q
theorem Cr{H:Hp}:∀{rows:List (List Int×V)}{d:List Kn}{kvs:List (List aK×V)}{xs:List Kn},Paired (λ(r:List Int×V) (q:Kn)=>kI r.1=q.1/\H q.2.1=some (.tup (q.1.map kV))/\yq r.2 q.2.2) rows d->KT H kvs xs->
  KT H (jQ rows kvs) (Ah xs d)/\(jQ rows kvs).length<=kvs.length+rows.length
 |_,_,kvs,_,.nil,r=>⟨r,aj _⟩
 | r::rows,q::d,kvs,xs,.cons h t,f=>by
   obtain⟨g,j,i⟩:=h;have b:=f.put q.1 j i;rw[<-g]at b;obtain⟨a,c⟩:=Cr t b;have e:storedH xs (kI r.1) q.2.1 q.2.2=storedH xs q.1 q.2.1 q.2.2:=by rw[g]
   rw[e]at a;refine⟨a,cr c ?_⟩;have:=qa kvs (kI r.1) r.2
   grind
section
theorem CO(hc:X.calm=true)(hu:X.A.units+8<cLine):Zg X (.type "dict") iV:=by
 intro af s σ H as us Q I r h;obtain⟨p,F,k,rfl,hp,U,q⟩:=h;obtain⟨u,rfl,rx⟩:=Z7 r;cases(rx);obtain⟨hz,f,n,rv,h1⟩:=(I.hok p _ hp)
 have hh:=I.ok.hd hc;obtain⟨rh,aw,z,l⟩:=zR I U;have R:f.length=F.length:=by have:=rv.length;simp_all
 have av:F.length<=sizeLine:=by simp_all
 refine callType_codes (Q₁:=λw i=>w=.ref s.heap.objs.size/\i={s with heap:=s.heap.push {cls:=.type "dict",data:=.dict #[]}}) PySem.F.kt_called_dict (PySem.F.kt_typeCall_dict_1 _) PySem.F.entry_dict_init (kt_code_dict_new _ ⟨J,J⟩) ?_;rintro w i ⟨rfl,rfl⟩;have c:(s.heap.push {cls:=.type "dict",data:=.dict #[]}).DictOfH (tupleKind (yn X.prog X.w)) s.heap.objs.size []:=Heap.DictOfH.new s.heap;have E:=c.typeIs (s:={s with heap:=s.heap.push {cls:=.type "dict",data:=.dict #[]}});have t:(s.heap.push {cls:=.type "dict",data:=.dict #[]}).get? p=some {cls:=.type "list",dict:=none,data:=.seq f.toArray n,slots:=#[]}:=be _ h1;have D:=ax h1;refine⟨E,PySem.F.args_dict_init_2 _ _,?_⟩;unfold Builtin.«dict.__init__»;refine aa ?_;unfold Builtin.Dict.selfAndRest;refine aa (wpAny_notOrdered_dict E (ae ?_));show wpAny _ _ (Builtin.Dict.updateFrom "dict.__init__" s.heap.objs.size (.ref p) [] .none) _ _ _;unfold Builtin.Dict.updateFrom;refine aa (wpAny_typeOf ⟨_,t,J⟩ ?_);rw[if_pos (by rfl)];refine aa (MG t hh λg tk hk=>?_);simp only[Option.isNone_none,if_true];refine aa (wpAny_rule ?_);have y:g.IsList p f.toArray:=⟨_,hk _ _ t,J,n,J⟩
 refine aa (wpAny_pyIter_list y (ae ⟨plainId_quiet Z5 _,?_⟩));have d:s.heap.objs.size+1<=g.objs.size:=by obtain⟨o,G,K,C,_⟩:=c;exact ax (hk _ _ C)
 have S:(g.push {cls:=.type "list_iterator",data:=.fields #[.ref p,.int 0 0]}).DictOfH (tupleKind (yn X.prog X.w)) s.heap.objs.size []:=by obtain⟨o,G,K,C,a1,a2,Z,_,W⟩:=c;exact⟨o,G,K,be _ (hk _ _ C),a1,a2,Z,(λx hx=>by grind),W⟩
 have L:∀b o,s.heap.get? b=some o->(g.push {cls:=.type "list_iterator",data:=.fields #[.ref p,.int 0 0]}).get? b=some o:=λb o e=>be _ (hk _ _ (be _ e));refine KP (A:=X.A.in1) (rows:=rh) (by grind) hh (bj (Nat.lt_of_succ_le d)) (bj (Nat.lt_trans D (Nat.lt_of_succ_le d))) (bj D) (by simp_all) (by omega) rh.length 0 _ [] (by omega) (bf _) (aj _)
  ⟨_,bx _ J,J,J⟩ (y.push _) S (λj v r N hr=>?_) λh' ap hD hK=>?_
 have N:f[j]?=some v:=by simp_all
 have hj:j<F.length:=by grind
 obtain⟨u,P,ru⟩:=rv.get (by rw[bi,br hj];rfl);rw[P]at N;cases N;cases(ru);obtain⟨⟨ob,B,rr⟩,⟨ok,aC,m,A,rk⟩⟩:=l j F[j] r (br hj) hr;have l1:=ax B;have l2:=ax A;exact⟨F[j],J,bj l1,bj (Nat.lt_trans l1 (Nat.lt_of_succ_le d)),bj l2,bj (Nat.lt_trans l2 (Nat.lt_of_succ_le d)),⟨ob,L _ _ B,rr⟩,⟨ok,aC,m,L _ _ A,rk⟩⟩;refine⟨J,?_⟩;have keep:=λb o e=>hK b o (bj (ax e)) (bj (Nat.lt_trans (ax e) (Nat.lt_of_succ_le d))) (L b o e);obtain⟨M,ah⟩:=Cr z .nil;have ay:=Paired.length z;have a:=I.hok.fresh (aj s.heap.objs.size);have sm:=zi.new a (.dT (jQ k []));obtain⟨_,zz,_⟩:=Br (P:=X.prog) (w:=X.w) (H:=H) s.heap I.big;obtain⟨o,G,K,C,a1,a2,Z,_,W⟩:=hD;refine⟨.ref s.heap.objs.size,_,I.laid (o:=.dT (jQ k [])) keep (aj _) ⟨?_,zz,_,M.keeps λb ys e=>sm _ _ e,o,G,K,C,a1,a2,Z,W⟩,J,q _ _ sm a zf⟩
 grind
end
section
variable{d:Addr}{kvs:List (List aK×V)}{k:Nat}{Q:VK}
theorem xP(Pv:Nat->O V->Hp->Prop)(v:Pv 0 [] H)(s:∀i ys H,i<=kvs.length->Pv i ys H->H d=some (.frz o (.dT kvs))/\ys.length<=sizeLine)(hs:∀i f ys H,kvs[i]?=some f->Pv i ys H->∀p b,H p=none->H b=some (.tup (f.1.map kV))->g (.ref p) (cB k cap σ) (upd H p (.tup [.ref b,f.2])) λa H2=>tc a H2 λb j=>if b=true then te a j λy w=>Pv (i+1) (ys++[y]) w else Pv (i+1) ys j)
  (u:∀ys H,Pv kvs.length ys H->∀p,H p=none->Q (.ref p) (upd H p (.lst ys))):cM (tX d o kvs) g tc te k cap σ H Q:=by
 refine⟨λi m ys H=>m=kvs.length-i/\i<=kvs.length/\Pv i ys H,⟨kvs.length,by simp,bf _,v⟩,?_⟩;rintro i m ys H ⟨rfl,t,p⟩;obtain⟨q,h⟩:=s i ys H t p;by_cases c:i<kvs.length;refine .inr ⟨⟨q,c⟩,h,Pv (i+1),λl z n=>⟨kvs.length-(i+1),by omega,J,c,n⟩,λx z y=>?_⟩;obtain⟨A,b,f,rfl,r,hk,B,rfl⟩:=y
 grind
 have e:i=kvs.length:=by omega
 subst e;exact .inl ⟨⟨q,aj _⟩,h,u ys H p⟩
end
noncomputable def rP(d:Addr)(o:Obj)(kvs:List (List aK×V)):It:=⟨λi H=>H d=some (.frz o (.dT kvs))/\i<kvs.length,λi H v H'=>H'=H/\∃b F,v=.ref b/\kvs[i]?=some F/\H b=some (.tup (F.1.map kV)),λi H=>H d=some (.frz o (.dT kvs))/\kvs.length<=i⟩
theorem MQ{K:Frag}(d j:Y)(o:Obj)(kvs:O (O aK×V))(S:Array DictEntry)(ep:Nat)(f:o.data=.dict S ep):dF P w K tg (rP d o kvs) [j] j (λi h=>h.IsKeyIter j d i S.size ep) where
 mem:=by simp
 obj:=λi h st b g=>by
  have e:b=j:=by simpa using g
  subst e;obtain⟨o,e,c,dd⟩:=st;exact⟨o,e,λv z=>by rw[dd]at z;cases z⟩
 keep:=λi h Z st k=>st.at λo e=>k j (by simp) o e
 item:=by intro X B t C W i n s σ H E I r st A;subst B t C;obtain⟨D,y⟩:=A;obtain⟨hd,F,l,R,U,a,u,p⟩:=W7 I.hok D;rw[f]at a;cases a;obtain⟨x,b,q,g,rv⟩:=p i kvs[i] (br y);obtain⟨Q,N,f2,M,L,G⟩:=r j (by simp);refine BF st ⟨o,F,l,f⟩ x λZ m sb=>?_;have I1:=I.turned (t':=s.toks) (λb o g e=>(sb.2 b g).trans e) Q N M L G;obtain⟨o1,e1,c1,d1⟩:=id m;exact⟨S[i].key,J,dP e1 c1 d1 (by decide) ⟨.ref b,H,I1,q,⟨J,b,_,J,br y,g⟩,m,λb g=>(r b g).1⟩⟩
 done:=by intro X B t C W i n s σ H E I r st A;subst B t C;obtain⟨D,y⟩:=A;obtain⟨hd,F,l,R,U,a,u,_⟩:=W7 I.hok D;rw[f]at a;cases a;obtain⟨Q,N,f2,M,L,G⟩:=r j (by simp);exact AJ (I.ok.hd W) st ⟨o,F,l,f⟩ (by omega) λZ eb=>⟨J,I.turned (λb o g e=>eb b o g e) Q N M L G⟩
 self:=λ_ _ _ _ _ st h=>wpAny_pyIter_keyiter st h
section
inductive fT(R:It->Hp->Prop)(v:V)(H1:Hp):Prop|mk:∀d o kvs,v=.ref d->H1 d=some (.frz o (.dT kvs))->R (rP d o kvs) H1->fT R v H1
def Fi(F:TE):TI:=λσ H R=>F σ H λv H1=>fT R v H1
theorem B5{l:Expr}{k:TE}(t:PE X l k):PI X tg l (Fi k):=by
 intro c s m H R I h;refine aF (t c s m H _ I h) λv g ⟨x,C,f,n,d,o,i,z,u,q⟩=>?_;subst z;cases n;obtain⟨r,y,j,A,B,a,p,_⟩:=W7 f.hok u;refine Bs r ⟨o,y,j,a⟩ ?_;refine⟨g.heap.objs.size,[g.heap.objs.size],_,_,C,J,f.kept λb o e=>be _ e,MQ d _ o i A B a,⟨_,bx _ J,J,J⟩,λb w=>?_,q⟩;have e:b=g.heap.objs.size:=by simpa using w
 subst e;exact f.fpOk (aj _) (f.hok.fresh (aj _))
end
theorem KW{d:Y}{kvs:O (O aK×V)}(Pv:Nat->St->Hp->Prop)(s:Pv 0 σ H)(k:∀i σ H,i<=kvs.length->Pv i σ H->H d=some (.frz o (.dT kvs)))(hs:∀i c σ H b,kvs[i]?=some c->Pv i σ H->H b=some (.tup (c.1.map kV))->g (.ref b) σ H λf H2=>tb (D.lp (Pv (i+1))) f H2) (n:∀σ H,Pv kvs.length σ H->D.nx σ H):
  cV g tb D σ (rP d o kvs) H:=by
 refine⟨λi m σ H=>m=kvs.length-i/\i<=kvs.length/\Pv i σ H,⟨kvs.length,by simp,bf _,s⟩,?_⟩;rintro i m σ H ⟨rfl,l,p⟩;have q:=k i σ H l p;by_cases a:i<kvs.length;refine .inr ⟨⟨q,a⟩,Pv (i+1),λh u j=>⟨kvs.length-(i+1),by omega,J,a,j⟩,λx u y=>?_⟩;obtain⟨e,b,c,t,hk,r⟩:=y;subst e t;exact hs i c σ _ b hk p r;have e:i=kvs.length:=by omega
 subst e;exact .inl ⟨⟨q,aj _⟩,n σ H p⟩
section
variable{d:Addr}{kvs:List (List aK×V)}{k:Nat}{Q:VK}
theorem IJ(Pv:Nat->O V->Hp->Prop)(v:Pv 0 [] H)(r:∀i ys H,i<=kvs.length->Pv i ys H->H d=some (.frz o (.dT kvs))/\ys.length<=sizeLine)(hs:∀i f ys H b,kvs[i]?=some f->H b=some (.tup (f.1.map kV))->Pv i ys H->g (.ref b) (cB k cap σ) H λa H2=>tc a H2 λb j=>if b=true then te a j λy z=>Pv (i+1) (ys++[y]) z else Pv (i+1) ys j)
  (t:∀ys H,Pv kvs.length ys H->∀p,H p=none->Q (.ref p) (upd H p (.lst ys))):cM (rP d o kvs) g tc te k cap σ H Q:=by
 refine⟨λi m ys H=>m=kvs.length-i/\i<=kvs.length/\Pv i ys H,⟨kvs.length,by simp,bf _,v⟩,?_⟩;rintro i m ys H ⟨rfl,s,p⟩;obtain⟨q,h⟩:=r i ys H s p;by_cases c:i<kvs.length;refine .inr ⟨⟨q,c⟩,h,Pv (i+1),λl A n=>⟨kvs.length-(i+1),by omega,J,c,n⟩,λx A y=>?_⟩;obtain⟨e,b,f,w,hk,u⟩:=y;subst e w;exact hs i f ys _ b hk u p;have e:i=kvs.length:=by omega
 subst e;exact .inl ⟨⟨q,aj _⟩,h,t ys H p⟩
end
end L2
namespace L2
open PySem PySem.Spec PyProof.Rows
variable{a b:Addr}{A:Around}{its:Array Value}{X:Cx}{e:Expr}{OK:Heap->Prop}{H:Hp}{eV es:List Expr}{cap:List Nat}{dX:List Stmt}{ps:List Str}{xs zs:List V}{i:Nat}{Q:Option Value->Shared->Prop}{aE:Pos}{P prog:Program}{s:Shared}{σ:St}{x:Str}{te:TE}{g:TG}{tc:TT}{bV:Value}{E:Value->Shared->Prop}{w:World}
section
theorem Mc{e a t:Y}{v:I}(he:IsEnum s.heap e a i bV)(d:s.heap.IsListIter a t i)(h:s.heap.IsList t its)(f:its[i]?=some v)(c:e≠a)(k:∀g,IsEnumOut g e a ((i:Int)+1) v s.heap.objs.size->g.IsListIter a t (i+1)->g.get? s.heap.objs.size=some {cls:=.type "tuple",data:=.seq #[.int i s.toks,v]}->g.objs.size=s.heap.objs.size+1-> (∀b o,b≠e->b≠a->s.heap.get? b=some o->g.get? b=some o)->Q (some (.ref s.heap.objs.size)) {s with heap:=g,toks:=s.toks+1}):wpAny (model prog w) A (pyNext (.ref e)) Q E s:=by
 have hT:s.TypeIs (.ref e) "enumerate":=⟨_,he,J⟩
 unfold pyNext;refine aa (wpAny_attempt (wpAny_callSpecial?_slot hT PySem.F.slot_enumerate_next (cy PySem.F.slot_enumerate_next hT PySem.F.entry_enumerate_next ?_ (PySem.F.args_enumerate_next_1 _))));exact enumerate_next_item he d h f c λg p n m l j=>ae (k g p n m l j)
theorem KR{e a t:Y}(h:A.handled=none)(he:IsEnum s.heap e a i bV)(b:s.heap.IsListIter a t i)(d:s.heap.IsList t its)(c:its[i]?=none)(k:∀g,Heap.ExtBut a s.heap g->Q none {s with heap:=g}):wpAny (model prog w) A (pyNext (.ref e)) Q E s:=by
 have hT:s.TypeIs (.ref e) "enumerate":=⟨_,he,J⟩
 unfold pyNext;refine aa (wpAny_attempt (wpAny_callSpecial?_slot hT PySem.F.slot_enumerate_next (cy PySem.F.slot_enumerate_next hT PySem.F.entry_enumerate_next ?_ (PySem.F.args_enumerate_next_1 _))));show wpAny _ _ (field (.ref e) 2>>=_) _ _ _;refine aa (wpAny_field he J J ?_);refine aa (wpAny_nextOf_list_end h b d c λg x hx ⟨o,f,j⟩=>?_);exact aa (dz ⟨o,f,j⟩ isSubtype_stop (ae (k _ hx)))
end
noncomputable def tZ(a:Addr):It:=⟨λi H=>∃xs x,H a=some (.lst xs)/\xs[i]?=some x,λi H x H'=>∃p y,x=.ref p/\H p=none/\H'=upd H p (.tup [.int i,y])/\∀xs,H a=some (.lst xs)->xs[i]?=some y,λi H=>∃xs,H a=some (.lst xs)/\xs.length<=i⟩
theorem MO{K:W.Frag}{k1}(a e f:Y)(G:e≠f)(l:sizeLine≥2):dF P w K (.Tuple eV k1 aE) (tZ a) [e,f] e (λi h=>(∃bV,IsEnum h e f i bV)/\h.IsListIter f a i) where
 mem:=by simp
 obj:=λi h st b l=>by
  obtain⟨⟨bV,A⟩,D⟩:=st;rcases ak.mp l with z|z
  simp_all
  have z:b=f:=by simp_all
  rw[z];obtain⟨o,F,c,d⟩:=D
  simp_all
 keep:=λi h h' st k=>by obtain⟨⟨bV,A⟩,o,F,r⟩:=st;exact⟨⟨bV,k e (by simp) _ A⟩,o,k f (by simp) o F,r⟩
 item:=by
  intro X hP hw hK hc i B s σ H E I Q st hg;subst hP hw hK;obtain⟨xs,x,N,hx⟩:=hg;obtain⟨Z,S,p,hz⟩:=I.list (.inl (.inl N));obtain⟨u,hu,ru⟩:=S.get hx;obtain⟨⟨bV,A⟩,D⟩:=st;obtain⟨f0,f1,f2,f3,f4,f5⟩:=Q e (by simp);obtain⟨g0,g1,g2,g3,g4,g5⟩:=Q f (by simp);refine Mc A D p.isList (by simpa using hu) G λg ho ah hT ay hk=>?_;refine⟨.ref s.heap.objs.size,J,wpAny_letOwnedTupleGo_enum ho λg' aS C=>?_⟩;have L:=dm (ax A);have ap:s.heap.objs.size≠f:=by obtain⟨o,F,_⟩:=D;exact dm (ax F)
  have y:=λb o M U z=>(C.2 b M).trans (hk b o M U z);have av:=(C.2 _ L).trans hT;have j:=I.hok.fresh (aj _);have aw:∀b o,H b=some o->b≠e/\b≠f:=λb o z=>⟨(λq=>by simp_all),(λq=>by simp_all)⟩
  have I1:Inv X B σ (upd H s.heap.objs.size (.tup [.int i,x])) {s with heap:=g',toks:=s.toks+1}:=by
   refine I.step (ch:=[e,f]) (λb l=>?_) (λb o M U t z _=>y b o (λq=>t (by grind)) (λq=>t (by grind)) z)
    (λb o M U t z _=>⟨o.slots,y b o (λq=>t (by grind)) (λq=>t (by grind)) z⟩) (λb o t z n=>?_) (λb o t z=>⟨o,y b o (λq=>t (by grind)) (λq=>t (by grind)) z⟩)
    (λb R z=>by rw[upd_ne (zn z j)];exact z) (λb o R z=>by rw[upd_ne (zn z j)];exact z) (λb ps z=>⟨#[],by rw[upd_ne (zn z j),z];simp⟩) (λm hm=>?_) (λb ob z=>?_) I.bare
   grind
   rw[upd_ne (bj (ax z))];exact n;obtain⟨o,es,ep,af,r⟩:=hm;exact⟨o,es,ep,y _ o (au f1) (au g1) af,r⟩;by_cases l:b=s.heap.objs.size;subst l;rw[zf]at z;cases z;exact⟨by omega,[.int i s.toks,u],.cons ⟨_,J⟩ (.cons ru .nil),⟨_,av,J,_,J⟩,λq N=>by simp_all⟩
   rw[upd_ne l]at z;refine(I.hok b ob z).stay (λc v hc q=>?_) (λc q=>by rw[upd_ne (zn q j)];exact q) λc R q=>by rw[upd_ne (zn q j)];exact q
   grind
  refine⟨.ref s.heap.objs.size,_,I1,J,⟨_,x,J,j,J,λR hy=>by simp_all⟩,⟨⟨u,by grind⟩,?_⟩,λb l=>?_⟩;obtain⟨o,F,r⟩:=ah;exact⟨o,(C.2 f (au G)).trans F,r⟩;rcases ak.mp l with q|q;rw[q,upd_ne (au L)];omega;have q:b=f:=by simp_all
  rw[q,upd_ne (au ap)];omega
 done:=by intro X hP hw hK hc i B s σ H E I Q st hg;subst hP hw hK;obtain⟨xs,N,hx⟩:=hg;obtain⟨Z,S,p,hz⟩:=I.list (.inl (.inl N));obtain⟨⟨bV,A⟩,D⟩:=st;obtain⟨g0,g1,g2,g3,g4,g5⟩:=Q f (by simp);have hl:=S.length;exact KR (I.ok.hd hc) A D p.isList (by simp_all) λg eb=>⟨J,I.turned (λb o l z=>eb b o l z) g0 g1 g3 g4 g5⟩
 self:=λ_ _ _ _ _ st h=>by obtain⟨⟨bV,A⟩,_⟩:=st;exact wpAny_pyIter_enum A h
section
inductive fV(R:It->Hp->Prop)(vs:List V)(H1:Hp):Prop|mk:∀a xs,vs=[.ref a]->H1 a=some (.lst xs)->R (tZ a) H1->fV R vs H1
def Fg(ta:TA):TI:=λσ H R=>ta σ H λvs H1=>fV R vs H1
theorem JD{k1}{C:Pos}{a:Expr}{ta:TA}{p:Pos}(y:Gl X "enumerate")(w:X.mg "enumerate"=none)(B:PA X [a] ta)(hs:starEach [a] X.env=[(false,eval a X.env)]:=by rfl):PI X (.Tuple eV k1 C) (.Call (.Name "enumerate" p) [a] [] aE) (Fg ta):=by
 intro f s j H R I h;refine Call_ (Wf I y w boot_enumerate (PyProof.Rows.callWith_type1 (aF (B aE f s j H _ I h) λG c ⟨F,D,d,l,m⟩=>?_) hs J));obtain⟨t,E,e,v,q⟩:=m;subst e;obtain⟨u,rfl,k⟩:=Z7 l;cases k;obtain⟨o,K,n,L⟩:=d.list (.inl (.inl v));refine call_enumerate_list n.isList λg i x r hk=>?_;refine wpAny_pyIter_enum i ?_;refine⟨c.heap.objs.size+1,[c.heap.objs.size+1,c.heap.objs.size],_,_,D,J,d.kept hk,MO t (c.heap.objs.size+1) c.heap.objs.size (Nat.succ_ne_self _) (by rw[sizeLine_eq];omega),⟨⟨_,i⟩,x⟩,λb A=>?_,q⟩;rcases ak.mp A with z|z;rw[z];exact d.fpOk (Nat.le_succ _) (d.hok.fresh (Nat.le_succ _));have z:b=c.heap.objs.size:=by simp_all
 rw[z];exact d.fpOk (aj _) (d.hok.fresh (aj _))
end
section
variable{k:Nat}{Q:VK}
theorem II(Pv:Nat->O V->Hp->Prop)(s:Pv 0 [] H)(n:∀i ys H,i<=xs.length->Pv i ys H->H a=some (.lst xs)/\ys.length<=sizeLine)(hs:∀i x ys H p,xs[i]?=some x->Pv i ys H->H p=none->g (.ref p) (cB k cap σ) (upd H p (.tup [.int i,x])) λc H2=>tc c H2 λb j=>if b=true then te c j λy t=>Pv (i+1) (ys++[y]) t else Pv (i+1) ys j)
  (r:∀ys H,Pv xs.length ys H->∀p,H p=none->Q (.ref p) (upd H p (.lst ys))):cM (tZ a) g tc te k cap σ H Q:=by
 refine⟨λi m ys H=>m=xs.length-i/\i<=xs.length/\Pv i ys H,⟨xs.length,by simp,bf _,s⟩,?_⟩;rintro i m ys H ⟨rfl,o,p⟩;obtain⟨q,h⟩:=n i ys H o p;by_cases d:i<xs.length;refine .inr ⟨⟨xs,xs[i],q,by simp⟩,h,Pv (i+1),λl u f=>⟨xs.length-(i+1),by omega,J,d,f⟩,λx u y=>?_⟩;obtain⟨f,v,rfl,z,rfl,w⟩:=y
 simp_all
 have e:i=xs.length:=by omega
 subst e;exact .inl ⟨⟨xs,q,aj _⟩,h,r ys H p⟩
end
section
variable{K:W.Frag}{k:Nat}{Q:VK}
theorem GW(Pv:Nat->O V->Hp->Prop)(s:Pv 0 [] H)(n:∀i ys H,i<=xs.length->Pv i ys H->aG K H a xs/\ys.length<=sizeLine)(hs:∀i x ys H p,xs[i]?=some x->Pv i ys H->H p=none->g (.ref p) (cB k cap σ) (upd H p (.tup [.int i,x])) λc H2=>tc c H2 λb j=>if b=true then te c j λy t=>Pv (i+1) (ys++[y]) t else Pv (i+1) ys j)
  (r:∀ys H,Pv xs.length ys H->∀p,H p=none->Q (.ref p) (upd H p (.lst ys))):cM (tY K a) g tc te k cap σ H Q:=by
 refine⟨λi m ys H=>m=xs.length-i/\i<=xs.length/\Pv i ys H,⟨xs.length,by simp,bf _,s⟩,?_⟩;rintro i m ys H ⟨rfl,o,p⟩;obtain⟨q,h⟩:=n i ys H o p;by_cases d:i<xs.length;refine .inr ⟨⟨xs,xs[i],q,by simp⟩,h,Pv (i+1),λl u f=>⟨xs.length-(i+1),by omega,J,d,f⟩,λx u y=>?_⟩;obtain⟨f,v,rfl,z,rfl,w⟩:=y
 grind
 have e:i=xs.length:=by omega
 subst e;exact .inl ⟨⟨xs,q,aj _⟩,h,r ys H p⟩
end
section
end
section
end
section
end
section
variable{k:Nat}{Q:VK}
end
section
end
abbrev TJ:=Str->TE
section
variable{e1 e2:Expr}{t:TJ}
end
section
variable{j k:Nat}{p0 p1 p2:Pos}
end
section
end
section
end
section
variable{K:W.Frag}{k:Nat}{Q:VK}
end
section
variable{o f:Expr}{apos cpos:Pos}{td ty tx:TE}
end
section
variable{T:String}{r d:Addr}{n:Nat}{P:Nat->Value->Prop}
theorem Fs{R:List Value->Shared->Prop}(S:W.KdlSrc prog w T r d n P OK)(H:A.handled=none)(k:OK s.heap)(G:n<=sizeLine)(h:∀(h':Heap)(g:Nat)(l:List Value),(∀b o,s.heap.get? b=some o->h'.get? b=some o)->s.heap.objs.size<h'.objs.size->l.length=n->(∀(j:Nat)(v:Value),l[j]?=some v->P j v)->R l {s with heap:=h',toks:=g}):
  wpAny (model prog w) A (collect (.ref r)) R E s:=by
 obtain⟨F,D⟩:=S.there _ k;have g0:(s.heap.push {cls:=.type "list",data:=.seq [].toArray}).get? s.heap.objs.size=some {cls:=.type "list",data:=.seq #[]}:=bx _ J;have t:=S.keep _ (s.heap.push {cls:=.type "list",data:=.seq [].toArray}) k λb _ o e=>be _ e;have z:∀(h':Heap)(g:Nat)(a:Array Value)(c:Nat),(∀b o,b≠s.heap.objs.size->(s.heap.push {cls:=.type "list",data:=.seq [].toArray}).get? b=some o->h'.get? b=some o)->h'.get? s.heap.objs.size=some {cls:=.type "list",dict:=none,data:=.seq a c,slots:=#[]}->ItemsOf P a n->R a.toList {s with heap:=h',toks:=g}:=λh' g a c hk i p=>h h' g a.toList (λb o e=>hk b o (bj (ax e)) (be _ e)) (ax i) (by rw[Array.length_toList];exact p.1) λj v e=>p.2 j v (by rw[<-Array.getElem?_toList];exact e)
 unfold collect;refine aa (wpAny_runValue (codeAny_builtin entry_proto_collect' ?_));rw[Around.under_plainId PySem.F.plain_proto_collect _];refine aa (df (ae ⟨plainId_quiet PySem.F.plain_list_iadd _,codeAny_builtin entry_list_iadd' ?_⟩));rw[Around.under_plainId PySem.F.plain_list_iadd _];refine cz (W.kdl_extend (R:=λq m=>q=.ok (.ret (.ref s.heap.objs.size))/\∃(h':Heap)(g:Nat)(a:Array Value)(c:Nat),m={s with heap:=h',toks:=g}/\h'.get? s.heap.objs.size=some {cls:=.type "list",dict:=none,data:=.seq a c,slots:=#[]}/\R a.toList m)
  S H t s.heap.objs.size (dm F) (dm D) (.ref s.heap.objs.size) 0 g0 (λh' g a c hk i p=>⟨J,h',g,a,c,J,i,z h' g a c hk i p⟩) G) (λf m x=>?_) λe m x=>?_
 cases f with| done f=>obtain⟨e,h',g,a,c,rfl,i,u⟩:=x;cases e;exact aa (wpAny_load i (ae u))| again C=>refine⟨x.1,codeAny_mono x.2 λq B y=>?_⟩;obtain⟨rfl,h',g,a,c,rfl,i,u⟩:=y;exact aa (wpAny_load i (ae u))
 exact nomatch x.1
end
section
inductive iK(xs:List V)(H:Hp)(Q:VK):Prop|mk:∀(d:Addr)(kvs:List (aK×V))(ns:List Int),xs=[.ref d]->Rd H d (.dK kvs)->kvs.map (·.1)=ns.map (Sum.inl:Int->aK)->ns.length<64->(∀(ns':List Int) l,ns'.Perm ns->ns'.Pairwise (· <= ·)->H l=none->Q (.ref l) (upd H l (.lst (ns'.map V.int))))->iK xs H Q
theorem L5(hc:X.calm=true):Zg X (.builtin "sorted") iK:=by
 intro N s σ H xs us Q I r h;obtain⟨d,c,E,rfl,hd,w,K,q⟩:=h;obtain⟨u,rfl,rx⟩:=Z7 r;cases rx;obtain⟨R,hS,vs,m,dd⟩:=Vh I.hok hd;obtain⟨ep,da⟩:=dd.dictAt;have a:=m.length;have z:c.length=E.length:=by have:=congrArg List.length w;rw[ag,ag]at this;exact this
 refine Calls.call_function_entry kind_sorted plain_sorted entry_sorted (args_sorted1 _) ?_;unfold Builtin.«sorted»;refine aa (ae ?_);refine aa (Fs (W.kdl_dict hS) (I.ok.hd hc) da (by rw[<-a];exact R) λC tk l hk t F hP=>?_);refine aa (wpAny_newList ?_ (by rw[F,<-a];exact R));have hv:yu (E.map V.int) l:=wJ (by rw[ag,F,<-a,z]) λj x v i e2=>by
  obtain⟨k,y,B,U⟩:=hP j v e2;rw[bi]at i;cases M:E[j]? with|none=>rw[M]at i;cases i| some n=>
    rw[M]at i;have i:=Option.some.inj i;have g:(c.map (·.1))[j]?=some (Sum.inl n):=by rw[w,bi,M];rfl
    rw[bi]at g;cases L:c[j]? with|none=>rw[L]at g;cases g| some P=>rw[L]at g;have g:P.1=Sum.inl n:=Option.some.inj g;obtain⟨w',hw,_⟩:=m.get L;rw[hw]at B;have B:=Option.some.inj B;have G:P.1=k:=congrArg Prod.fst B;rw[<-G,g]at U;rw[<-i];exact Ap U
 have f:(C.push (seqObj "list" l.toArray 0)).get? C.objs.size=some (seqObj "list" l.toArray 0):=bx _ J;refine aa (wpAny_holding (cy slot_list_sort ⟨_,f,J⟩ entry_list_sort (list_sort_tree f (Mh hv) (by rw[F,<-a,z];exact K) λD p a1 Z a3=>⟨_,J,?_⟩) (args_list_sort _)));refine ae ⟨_,J,?_⟩;obtain⟨e,he⟩:=sortedHeap_at f;have hn:=Z.length_eq;refine⟨.ref C.objs.size,upd H C.objs.size (.lst (p.map V.int)),I.laid (λb o ho=>?_) (Nat.le_of_lt t) (⟨?_,D.toList,e,BW a1,?_⟩),J,q p _ Z a3 (I.hok.fresh (Nat.le_of_lt t))⟩;have S:=hk b o ho;have A:=ax S;rw[sortedHeap_old (bj A) (by rw[size_push'];exact Nat.lt_succ_of_lt A)];exact be _ S;rw[ag];exact xk (by omega);simpa[seqObj]using he
end
inductive eE(X:Cx)(S:St)(E:XK)(e:Value)(s':Shared):Prop|mk:∀pins H s,Inv X pins S H s->ft X.prog X.w X.stack H s E e s'->eE X S E e s'
def Gg(S:St)(sp:Sp)(E:XK)(t:TA):TE:=λσ H Q=>σ=S/\qK sp [] E t σ H Q
theorem AY{S:St}{k:Nat}{sp:Sp}{E:XK}{p:Pos}{t:TA}(h:fG X.prog X.w X.K X.mg X.base x k ps sp)(v:aP k X.A)(B:PA (X.wish (eE X S E)) (e::es) t)(z:Gl X x:=by rfl)
  (j:(x==("__debug__":Str))=false:=by decide) (he:starEach (e::es) X.env=(false,eval e X.env)::starEach es X.env:=by rfl) (i:(backTo aE (starEach es X.env)).any (·.1)=false:=by rfl):
  PE (X.wish (eE X S E)) (.Call (.Name x p) (e::es) [] aE) (Gg S sp E t):=by
 obtain⟨f,G,F,A,hk,w⟩:=h;intro a s n H Q I h;obtain⟨rfl,h⟩:=h;refine wpAny_Call_Name_kw (W0 I z w ?_ j);refine W.callWith_K I.ok.mod.kin hk (aF (B aE a s n H _ I h) λd g ⟨o,m,c,r,q⟩=>⟨c.kIn,?_⟩) he i;have l:=r.append .nil;have y:(d++[]).length=ps.length:=by rw[<-l.length];exact F.len _ _ _ _ q
 refine wpAny_call (codeAny_mono (F.run X.A X.stack g m ⟨d,[]⟩ (d++[]) (o++[]) Q E v c.env0 (A g d c.kIn y) l q) λr D b=>?_);cases r with|error e=>exact⟨a,m,g,c.unwish,b⟩| ok C=>cases C with|ret u=>exact c.after b|next=>exact False.elim b|brk=>exact False.elim b|cont=>exact False.elim b
def Fd(tb:St->Hp->TS)(E:St->Hp->XK)(ie ic:Nat):TS:=λD σ H=>tb σ H D σ H/\∀(H':Hp)(a C:Addr),E σ H (.ref C) none H'->H' a=none->D.nx ((((σ.set ie (some (.ref a))).set ic (some (.ref a)))).set ie none) (upd H' a (pj a C))
theorem HA{tb:St->Hp->TS}{E:St->Hp->XK}{ie ic:Nat}{F cv:Str}{D:Y}{np pc pe pa hp:Pos}(W:X.stack=X.env::X.outer)(hf:X.env.frame=some X.env.locals)(hN:X.N.Nodup)(j:X.N[ie]?=some F) (k:X.env.scope.names.lookup F=some .local) (av:X.N[ic]?=some cv) (M:X.env.scope.names.lookup cv=some .local) (hg:Gl X x) (hD:X.mg x=some (.ref D)) (hI:fY X.base D)
  (hU:∀S H0 C H,E S H0 (.ref C) none H->Under X.base C D) (hb:∀pn S H0,dZ ((X.pinned pn).wish (eE (X.pinned pn) S (E S H0))) dX (tb S H0)) (hd:(x==("__debug__":Str))=false) (aS:(F==("__debug__":Str))=false) (ay:(F==("__classdict__":Str))=false) (aw:∀b∈X.ex,False):
  PS X (.Try dX [.ExceptHandler (some (.Name x np)) (some F) [.Assign [.Name cv pc] (.Name F pe) pa] hp] [] [] aE) (Fd tb E ie ic):=by
 intro d s B H D' I h;obtain⟨hq,hk⟩:=h;refine wpAny_Try_except (cz (hb (X.pn++d) B H [] s B H D' (I.pinIn.wish _) hq) (λf s1 g=>?_) λe s1 hx=>?_)
 . have g:SP X d D' f s1:=by have g:=g.unwish;cases f with|next=>obtain⟨i,A,J,q⟩:=g;exact⟨i,A,J.pinOut,q⟩|brk=>obtain⟨i,A,J,q⟩:=g;exact⟨i,A,J.pinOut,q⟩|cont=>obtain⟨i,A,J,q⟩:=g;exact⟨i,A,J.pinOut,q⟩|ret u=>obtain⟨v,i,A,J,r,q⟩:=g;exact⟨v,i,A,J.pinOut,r,q⟩
   cases f with|next=>exact ae g|brk=>exact g|cont=>exact g|ret u=>exact g
 . obtain⟨bU,H1,s0,J,hx⟩:=hx;refine IG (X:=X.pinned (X.pn++d)) J W hf rfl rfl hx λa C T R s3 ea hE I3 fl K l again=>?_;subst ea;obtain⟨U,q',N',jX,pX,dB,jS,dU,jY,P,cY,j0,j1,j2,j3,j5,dM,eD,t⟩:=hI;obtain⟨nm,q,N,bs,bm,L,sn,sub,ab,a1,dd,k0,k1,k2,k3,k5,n,eC,ap⟩:=hU B H C R hE;have w:=I3.pinOut;refine Kj (nm:=nm) (q:=q) (N:=N) (bs:=bs) (hdct:=L) (sn:=sn) (sub:=sub) (ab:=ab) (col:=a1) (dd:=dd) (k0:=k0) (k1:=k1) (k2:=k2) (k3:=k3) (k5:=k5) (newId:=n) (nm':=U) (q':=q') (N':=N') (jX:=jX) (dB:=dB) (jS:=jS) (dU:=dU) (jY:=jY) (col':=P) (cY:=cY) (j0:=j0) (j1:=j1) (j2:=j2) (j3:=j3) (j5:=j5) (dM:=dM) t ap ?_;refine W0 w.held hg hD ⟨rfl,w.bk _ _ eC,w.bk _ _ eD,?_,?_⟩ hd;obtain⟨oe,vs,oT,ts,a0,e1,e2,_⟩:=fl;exact⟨oe,e1,e2.1⟩;refine again _ _ _ λs4 I4 Q=>?_;have J4:=I4.pinOut;have bV:∀{b:Y} {o:Obj},s0.heap.get? b=some o->b≠a:=λ{b o} z y=>by rw[y,l]at z;cases z
   have Z:X.s₀.heap.get? a=none:=by cases z:X.s₀.heap.get? a with|none=>rfl| some o=>by_cases hx:a∈X.ex;exact(aw a hx).elim;obtain⟨o',e'⟩:=(J.base).there a o z hx;rw[l]at e';cases e'
   have K4:Inv X d B (upd R a (pj a C)) s4:=by refine J4.track Q K Z (λz=>?_) (λy c e z=>?_) λp hp z=>?_;obtain⟨m,⟨oL,_,_,ah,_⟩,_⟩:=J.loc;exact bV ah z.symm;obtain⟨v,oc,af,_⟩:=J.cell y c e;exact bV af z;exact bV (J.pin p (fb _ hp)).1 z
   refine V4 (X:=X.held (.ref a)) K4.held hN j (.inl k) (show yq (.ref a) (.ref a)from rfl) (λs5 I5=>?_) (.inr k);have li:ie<B.length:=by rw[J4.len];exact(ci.mp j).1
   refine cz ((zh (zr (X:=(X.held (.ref a)).wish _) hN (uV j (.inl k) aS ay) av (.inl M) rfl (.inr M))) d s5 _ _ {nx:=λG H6=>G=(B.set ie (some (.ref a))).set ic (some (.ref a))/\H6=upd R a (pj a C),rt:=λ_ _=>False} (I5.wish _) (zN (v:=.ref a) (List.getElem?_set_self li) ⟨rfl,rfl⟩)) (λf s6 g=>?_) λ_ _ z=>z;cases f with| next=>obtain⟨G,H6,I6,rfl,rfl⟩:=g;refine GL (Inv.unheld J4.ok.hd I6.unwish) hN j k λs7 I7=>⟨_,_,I7,hk R a C hE K⟩|brk=>obtain⟨_,_,_,z⟩:=g;exact False.elim z|cont=>obtain⟨_,_,_,z⟩:=g;exact False.elim z|ret u=>obtain⟨_,_,_,_,_,z⟩:=g;exact False.elim z
end L2
namespace My
open PySem PySem.Spec PyProof.Rows L2
variable{X:Cx}{e:Expr}{base:Heap}{H:Hp}{σ:L2.St}{es:List Expr}{cap:List Nat}{ps:List Str}{r ts:List T}{us:List Value}{i:Nat}{aE:Pos}{P:Program}{sp:Sp}{f x:Str}{mg:Str->Option Value}{m:T}{v:V}{w:World}
noncomputable def aX(i:Nat):Stmt:=Challenge.pw_meetwall_k32_no_made_ones.main.body.getD i (.Pass ⟨0,0,0,0⟩)
noncomputable abbrev Vo:Stmt:=aX 30
noncomputable abbrev Xy:Stmt:=aX 31
noncomputable abbrev ky:Stmt:=aX 32
noncomputable abbrev Z2:Stmt:=aX 33
noncomputable abbrev Q9:Stmt:=aX 34
noncomputable abbrev xK:Stmt:=aX 35
noncomputable abbrev Ja:Stmt:=aX 36
noncomputable abbrev Xz:Stmt:=aX 37
noncomputable abbrev Yt:Stmt:=aX 38
noncomputable abbrev Xb:Stmt:=aX 39
noncomputable abbrev Jb:Stmt:=aX 40
noncomputable abbrev Yn:Stmt:=aX 41
noncomputable abbrev Vp:Stmt:=aX 42
noncomputable abbrev jn:Stmt:=aX 43
noncomputable abbrev Jf:Stmt:=aX 44
noncomputable abbrev Yc:Stmt:=aX 45
noncomputable abbrev Z3:Stmt:=aX 46
noncomputable abbrev qW:Stmt:=aX 47
noncomputable abbrev Xa:Stmt:=aX 49
theorem uK:bootBuiltins "isinstance"=some (.builtin "isinstance"):=by decide+kernel
theorem vm:bootBuiltins "len"=some (.builtin "len"):=by decide+kernel
theorem Xm:bootBuiltins "all"=some (.builtin "all"):=by decide+kernel
theorem zZ:bootBuiltins "sum"=some (.builtin "sum"):=by decide+kernel
theorem ES:bootBuiltins "int"=some (.type "int"):=by decide+kernel
theorem He:bootBuiltins "bool"=some (.type "bool"):=by decide+kernel
theorem uM:bootBuiltins "str"=some (.type "str"):=by decide+kernel
theorem Y5:bootBuiltins "tuple"=some (.type "tuple"):=by decide+kernel
theorem Qz:bootBuiltins "dict"=some (.type "dict"):=by decide+kernel
theorem Ky:bootBuiltins "list"=some (.type "list"):=by decide+kernel
def Ok(P:Program)(w:World)(K:W.Frag)(mg:Str->Option Value)(base:Heap)(x:Str)(k:Nat)(F:List Str)(sp:Sp):Prop:=∃f fd,cF P w K mg base fZ k f fd F sp/\Y6 K fd F []/\W.keepIn K (.ref f)=true/\mg x=some (.ref f)
theorem Dm(h:us.length=1):∃a,us=[a]:=by match us,h with|[a],_=>exact⟨a,J⟩
theorem Dl(h:us.length=2):∃a b,us=[a,b]:=by match us,h with|[a,b],_=>exact⟨a,b,J⟩
theorem Og(h:us.length=3):∃a b c,us=[a,b,c]:=by match us,h with|[a,b,c],_=>exact⟨a,b,c,J⟩
theorem Dk(h:us.length=4):∃a b c d,us=[a,b,c,d]:=by match us,h with|[a,b,c,d],_=>exact⟨a,b,c,d,J⟩
theorem Dj(h:us.length=5):∃a b c d e,us=[a,b,c,d,e]:=by match us,h with|[a,b,c,d,e],_=>exact⟨a,b,c,d,e,J⟩
@[elab_as_elim] theorem Oo{P:O I->Prop}(h:us.length=1)(k:∀a,P [a]):P us:=by obtain⟨a,rfl⟩:=Dm h;exact k a
@[elab_as_elim] theorem On{P:O I->Prop}(h:us.length=2)(k:∀a b,P [a,b]):P us:=by obtain⟨a,b,rfl⟩:=Dl h;exact k a b
@[elab_as_elim] theorem Om{P:O I->Prop}(h:us.length=3)(k:∀a b c,P [a,b,c]):P us:=by obtain⟨a,b,c,rfl⟩:=Og h;exact k a b c
@[elab_as_elim] theorem Ol{P:O I->Prop}(h:us.length=4)(k:∀a b c d,P [a,b,c,d]):P us:=by obtain⟨a,b,c,d,rfl⟩:=Dk h;exact k a b c d
@[elab_as_elim] theorem Oj{P:O I->Prop}(h:us.length=5)(k:∀a b c d e,P [a,b,c,d,e]):P us:=by obtain⟨a,b,c,d,e,rfl⟩:=Dj h;exact k a b c d e
theorem yc{k:Nat}{p:Pos}{t:TA}(h:Ok X.prog X.w X.K X.mg X.base x k ps sp)(c:aP k X.A)(j:PA X (e::es) t)(g:Gl X x:=by rfl)
  (b:(x==("__debug__":Str))=false:=by decide) (he:starEach (e::es) X.env=(false,eval e X.env)::starEach es X.env:=by rfl) (a:(backTo aE (starEach es X.env)).any (·.1)=false:=by rfl):
  PE X (.Call (.Name x p) (e::es) [] aE) (qK sp [] E0 t):=by obtain⟨f,l,F,i,hk,d⟩:=h;exact AX F c g d hk i .nil rZ j b he a
def aY(K:W.Frag)(mg:Str->Option Value)(x:Str)(st:Stmt):Prop:=∃f fd,gm K x x st f fd/\mg x=some (.ref f)
theorem xv{i:Int}(h:∃t,X.mg x=some (.int i t))(a:Gl X x:=by rfl)(b:(x==("__debug__":Str))=false:=by decide):PE X (.Name x aE) (tC (.int i)):=by obtain⟨t,h⟩:=h;exact vX a h ⟨t,J⟩ b
structure Txt(K:W.Frag)(mg:Str->Option Value):Prop where
 BOXES:∃t,mg "BOXES"=some (.int 0 t)
 WALLS:∃t,mg "WALLS"=some (.int 1 t)
 FIRSTS:∃t,mg "FIRSTS"=some (.int 2 t)
 SCRIPTS:∃t,mg "SCRIPTS"=some (.int 3 t)
 MOST_BOXES:∃t,mg "MOST_BOXES"=some (.int 99 t)
 MOST_WALLS:∃t,mg "MOST_WALLS"=some (.int 6 t)
 MOST_FIRSTS:∃t,mg "MOST_FIRSTS"=some (.int 40 t)
 MOST_SCRIPTS:∃t,mg "MOST_SCRIPTS"=some (.int 20 t)
 MOST_DEEDS_OF_SCRIPT:∃t,mg "MOST_DEEDS_OF_SCRIPT"=some (.int 80 t)
 MOST_HANDS:∃t,mg "MOST_HANDS"=some (.int 60 t)
 MOST_DEEDS:∃t,mg "MOST_DEEDS"=some (.int 1200 t)
 MOST_RAISED:∃t,mg "MOST_RAISED"=some (.int 99 t)
 MOST_AWAITED:∃t,mg "MOST_AWAITED"=some (.int 9999 t)
 MOST_WORKED:∃t,mg "MOST_WORKED"=some (.int 999 t)
 MOST_LETTERS:∃t,mg "MOST_LETTERS"=some (.int 8 t)
 MODES:∃a,mg "MODES"=some (.ref a)/\∀H,aG K H a [.str "both",.str "come",.str "go"]
 isi:mg "isinstance"=none
 int:mg "int"=none
 bool:mg "bool"=none
 str:mg "str"=none
 tuple:mg "tuple"=none
 dict:mg "dict"=none
 list:mg "list"=none
 len:mg "len"=none
 all:mg "all"=none
 sum:mg "sum"=none
 range:mg "range"=none
 enumerate:mg "enumerate"=none
 sorted:mg "sorted"=none
 zip:mg "zip"=none
inductive dI(A:T->Prop)(f:T->Bool)(vs:List V)(H:Hp)(Q:VK)(e0:XK):Prop|mk:∀t v,vs=[v]->Is H t v->A t->(∀H',zi H H'->Q (.bl (f t)) H')->dI A f vs H Q e0
section
variable{te:TE}{p1 p2:Pos}
theorem Wa{n:Str}{T:String}(g:X.mg "isinstance"=none)(f:X.mg n=none)(d:bootBuiltins n=some (.type T))(he:PE X e te)(g1:Gl X "isinstance":=by rfl)(h:Gl X n:=by rfl)(b:n≠"__name__":=by decide)(c:(n==("__debug__":Str))=false:=by decide)
  (hs:starEach [e,.Name n p2] X.env=(false,eval e X.env)::starEach [.Name n p2] X.env:=by rfl) (i:(backTo aE (starEach [.Name n p2] X.env)).any (·.1)=false:=by rfl) (a:starEach [.Name n p2] X.env=(false,eval (.Name n p2) X.env)::starEach [] X.env:=by rfl):
  PE X (.Call (.Name "isinstance" p1) [e,.Name n p2] [] aE) (pQ (oq X.K) (V3 te (V3 (tC (.ty T)) ln))):=
 yh Ii g1 g uK (zc he (zc (AW h f d J b c) zd a) hs) (he:=hs)
end
noncomputable def sJ:T->Bool|.int _=>true|_=>false
section
variable{K:W.Frag}
theorem N8:aA ["thing"] ["thing"] (zk Vo):=.of
theorem Ng(D:aY K mg "is_whole" Vo)(T:Txt K mg):Ok P w K mg base "is_whole" 1 ["thing"] (dI (λ_=>True) sJ):=by
 obtain⟨f,j,F,g⟩:=D;refine⟨f,j,?_,F.binds λ_ _ _ _ _ _ m i=>(by obtain⟨_,rfl⟩:=Dm i;rfl),F.kp,g⟩;refine F.ok N8 (λd H Q E h=>?_) (λl A a s H d Q E n h=>?_);obtain⟨t,v,rfl,_⟩:=h;rfl;obtain⟨t,v,rfl,b,_,k⟩:=h;refine⟨_,zh (zt (Zm (Wa T.isi T.int ES (pv 0)) (Zl (An (Wa T.isi T.bool He (pv 0)))))),?_⟩;refine⟨v,"int",_,_,J,b.ty,GS K t,_,J,?_⟩;refine jy (λc=>?_) (λc=>?_);refine⟨v,"bool",_,_,J,b.ty,IF K t,_,J,?_⟩;have e:(!Dr t)=sJ t:=by cases t<;>first|rfl|(exact absurd c (by simp[zC]))
 rw[e];exact k H (zi.refl H);have e:false=sJ t:=by cases t<;>first|rfl|(exact absurd J c)
 rw[e];exact k H (zi.refl H)
end
noncomputable def yk(t:T)(lo F:Int):Bool:=match t with|.int i=>decide (lo<=i) && decide (i<=F)|_=>false
noncomputable def qe(t:T)(lo F:Int):Bool:=match t with|.tup ts=>decide (lo<=(ts.length:Int)) && decide ((ts.length:Int)<=F)|_=>false
def lg(H:Hp)(b w:Int)(n:Nat)(U:V):Prop:=∃F ss,Is H (.tup F) U/\F[0]?=some (.int b)/\F[1]?=some (.int w)/\F[3]?=some (.tup ss)/\ss.length=n
theorem lg.mono{H c:Hp}{b w:Int}{n:Nat}{a:V}(s:zi H c)(h:lg H b w n a):lg c b w n a:=by obtain⟨e,d,h,r⟩:=h;exact⟨e,d,h.mono s,r⟩
inductive rN(K:W.Frag)(H:Hp)(v:V)(i:Nat)(t:T):Prop|mk:∀a xs u,v=.ref a->aG K H a xs->gw xs ((i:Nat):Int)=some u->Is H t u->rN K H v i t
theorem Is.at{K:W.Frag}{t:T}(h:Is H (.tup ts) v)(e:ts[i]?=some t):rN K H v i t:=by obtain⟨a,b,rfl,d,c⟩:=h;obtain⟨u,g,f⟩:=c.get e;exact⟨a,b,u,J,aG.of d,wx g,f⟩
inductive eR(vs:List V)(H:Hp)(Q:VK)(e0:XK):Prop|mk:∀t v lo hi,vs=[v,.int lo,.int hi]->Is H t v->(∀H',zi H H'->Q (.bl (yk t lo hi)) H')->eR vs H Q e0
inductive fA(vs:List V)(H:Hp)(Q:VK)(e0:XK):Prop|mk:∀t v lo hi,vs=[v,.int lo,.int hi]->Is H t v->(∀H',zi H H'->Q (.bl (qe t lo hi)) H')->fA vs H Q e0
inductive gc(f:Int->Int->Int)(vs:List V)(H:Hp)(Q:VK)(e0:XK):Prop|mk:∀t v hv b w n,vs=[v,hv]->Is H t v->lg H b w n hv->(∀H',zi H H'->Q (.bl (yk t 0 (f b w-1))) H')->gc f vs H Q e0
section
variable{K:W.Frag}
theorem qk{st:Stmt}{N:O Str}{k:Nat}(D:aY K mg x st)(S:aA N ps (zk st))(a:∀(f:Y)(cdv:I)(A:Around)(outer:O Env)(s:Shared)(H:Hp)(vs:O V)(Q:VK)(E:XK),aP k (A.deeper (envOfC x (zk st) s.heap.objs.size f cdv))->sp vs H Q E-> let X:=(Xl fZ P w K mg base N x (zk st) f cdv A outer s H E).nox;∃t,dZ X (xj st) t/\t (.of Q) (start N vs) H) (c:∀vs H Q E,sp vs H Q E->vs.length=ps.length:=by intro _ _ _ _ h;cases h;subst_vars;rfl) (j:autoParam (∀(kV d e:I)(n:Option Y)(cdv m:I)(b:O I),b.length=ps.length->bindArgs (W.fnOf x x (jr st) (xj st) (zk st) .none kV d e n cdv m) ⟨b,[]⟩=pure (ps.zip b)) tP._auto_1):Ok P w K mg base x (k+1) ps sp:=by obtain⟨f,l,F,i⟩:=D;exact⟨f,l,F.ok S c (λcdv A outer s H vs Q E g h=>a f cdv A outer s H vs Q E g h),F.binds j,F.kp,i⟩
theorem LU:aA ["thing","least","most"] ["thing","least","most"] (zk Xy):=.of
theorem Ny(D:aY K mg "is_within" Xy)(T:Txt K mg)(j:Ok P w K mg base "is_whole" 1 ["thing"] (dI (λ_=>True) sJ)):Ok P w K mg base "is_within" 2 ["thing","least","most"] eR:=by refine qk D LU ?_;rintro f m A e s H n Q E l ⟨t,v,lo,g,rfl,h,k⟩ X;refine⟨_,zh (zt (Zm (yc j l (zc (pv 0) zd)) (Zl (xE J6 J6 (pv 1) (pv 0) (pv 2))))),?_⟩;refine⟨t,v,J,h,trivial,λb d=>⟨_,J,?_⟩⟩;cases t with| int i=>cases(h);refine y3 ?_;refine⟨lo,i,J,J,_,J,?_⟩;by_cases c:lo<=i;rw[bp c];refine y3 ⟨i,g,J,J,?_⟩;have a:Q (.bl (decide (lo<=i) && decide (i<=g))) b:=k b d;rw[bp c,cq]at a;exact a;rw[cf c];refine yy ?_;have a:Q (.bl (decide (lo<=i) && decide (i<=g))) b:=k b d;rw[cf c,db]at a;exact a|_=>exact yy (k b d)
theorem Ew:aA ["thing","least","most"] ["thing","least","most"] (zk ky):=.of
theorem Vq(D:aY K mg "is_tuple_within" ky)(T:Txt K mg):Ok P w K mg base "is_tuple_within" 1 ["thing","least","most"] fA:=by refine qk D Ew ?_;rintro f n A d s H o Q E p ⟨t,v,lo,j,rfl,i,k⟩ X;refine⟨_,zh (zt (Zm (Wa T.isi T.tuple Y5 (pv 0)) (Zl (xE J6 J6 (pv 1) (yh ym J T.len vm (zc (pv 0) zd)) (pv 2))))),?_⟩;refine⟨v,"tuple",_,_,J,i.ty,Cq K t,_,J,?_⟩;cases t with| tup h=>refine y3 ?_;obtain⟨a,g,rfl,m,l⟩:=i;have e:=l.length;refine⟨a,g,J,.inr (aG.of m),lo,_,J,J,_,J,?_⟩;have b:Q (.bl (decide (lo<=h.length) && decide (h.length<=j))) H:=k H (zi.refl H);rw[<-e]at b;by_cases c:lo<=g.length;rw[bp c];rw[bp c,cq]at b;exact y3 ⟨_,j,J,J,b⟩;rw[cf c];rw[cf c,db]at b;exact yy b|_=>exact yy (k H (zi.refl H))
theorem Gf:aA ["thing","house"] ["thing","house"] (zk xK):=.of
theorem HS:aA ["thing","house"] ["thing","house"] (zk Ja):=.of
theorem Ll(D:aY K mg "is_box" xK)(T:Txt K mg)(g:Ok P w K mg base "is_within" 2 ["thing","least","most"] eR):Ok P w K mg base "is_box" 3 ["thing","house"] (gc λb _=>b):=by refine qk D Gf ?_;rintro f q A c s H x Q E j ⟨t,v,z,b,r,n,rfl,i,m,k⟩ X;obtain⟨B,y,l,p,G,F,C⟩:=m;obtain⟨a,d,u,rfl,e,o,h⟩:=Is.at l p;cases(h);refine⟨_,zh (zt (yc g j (zc (pv 0) (zc zg (zc (ye Wb (zp zx (pv 1) (xv T.BOXES)) zg) zd))))),?_⟩;exact⟨a,d,_,_,J,J,e,o,_,_,J,J,t,v,0,b-1,J,i,k⟩
theorem Mt(D:aY K mg "is_wall" Ja)(T:Txt K mg)(h:Ok P w K mg base "is_within" 2 ["thing","least","most"] eR):Ok P w K mg base "is_wall" 3 ["thing","house"] (gc λ_ w=>w):=by refine qk D HS ?_;rintro f r A c s H x Q E l ⟨t,v,z,b,e,n,rfl,j,o,k⟩ X;obtain⟨B,y,m,G,q,F,C⟩:=o;obtain⟨a,d,u,rfl,g,p,i⟩:=Is.at m q;cases(i);refine⟨_,zh (zt (yc h l (zc (pv 0) (zc zg (zc (ye Wb (zp zx (pv 1) (xv T.WALLS)) zg) zd))))),?_⟩;exact⟨a,d,_,_,J,J,g,p,_,_,J,J,t,v,0,e-1,J,j,k⟩
end
noncomputable def uq:T->Bool|.str y=>md (.str y) [.str "both",.str "come",.str "go"]|_=>false
noncomputable def Zc(t:T)(w:Int):Bool:=match t with|.tup [x,m]=>yk x 0 (w-1) && uq m|_=>false
noncomputable def gq(w:Int):Int->List T->Bool|_,[]=>true|F,m::r=>Zc m w && (match m with|.tup (.int i::_)=>decide (F<i) && gq w i r|_=>false)
noncomputable def Y2(t:T)(w:Int):Bool:=match t with|.tup ts=>gq w (-1) ts|_=>false
noncomputable def jl(t:T)(F:Int)(n:Nat)(w:Int):Bool:=match t with|.tup [s,m]=>yk s F ((n:Int)-1) && Y2 m w|_=>false
theorem J7{t:T}{w:Int}(h:Zc t w=true):∃i m,t=.tup [.int i,m]:=by
 unfold Zc at h;split at h
 rename_i x m
 cases x with|int i=>exact⟨i,m,J⟩|_=>simp[yk]at h
 cases h
inductive ii(f:T->Int->Bool)(vs:List V)(H:Hp)(Q:VK)(e0:XK):Prop|mk:∀t v hv b w n,vs=[v,hv]->Is H t v->lg H b w n hv->(∀H',zi H H'->Q (.bl (f t w)) H')->ii f vs H Q e0
inductive kT(vs:List V)(H:Hp)(Q:VK)(e0:XK):Prop|mk:∀t v least hv b w n,vs=[v,.int least,hv]->Is H t v->lg H b w n hv->(∀H',zi H H'->Q (.bl (jl t least n w)) H')->kT vs H Q e0
theorem zE{t:T}(h:qe t 2 2=true):∃x y,t=.tup [x,y]:=by
 cases t with
 | tup a=>
   have h:(decide ((2:Int)<=a.length) && decide ((a.length:Int)<=2))=true:=h;simp only[cp,decide_eq_true_eq]at h;have:a.length=2:=by omega
   match a,this with
   |[x,y],_=>exact⟨x,y,J⟩
 |_=>cases h
theorem lv{x y:T}:qe (.tup [x,y]) 2 2=true:=by simp[qe]
section
variable{K:W.Frag}
theorem LC:aA ["thing","house"] ["thing","house"] (zk Xz):=.of
theorem Nw(D:aY K mg "is_member" Xz)(T:Txt K mg)(o1:Ok P w K mg base "is_tuple_within" 1 ["thing","least","most"] fA)(o2:Ok P w K mg base "is_wall" 3 ["thing","house"] (gc λ_ w=>w)):Ok P w K mg base "is_member" 4 ["thing","house"] (ii Zc):=by
 refine qk D LC ?_;rintro f ap A C s H vs Q E N ⟨t,v,hv,b,l,n,rfl,M,hH,k⟩ X;obtain⟨R,hm,hM⟩:=T.MODES;refine⟨_,ze (yj (Xr (xz (xu (yc o1 (N.mono (by decide)) (zc (pv 0) (zc zg (zc zg zd)))))) (Ye (xz (xu (yc o2 N (zc (zp zx (pv 0) zg) (zc (pv 1) zd))))))).pt (zh (zt wr)) zy) (zh (zt (Zm (Wa T.isi T.str uM (zp zx (pv 0) zg)) (Zl (jo Y1 (zp zx (pv 0) zg) (vX (v:=.ref R) J hm J) J))))),?_⟩
 refine⟨t,v,2,2,J,M,λH1 r=>⟨_,J,?_⟩⟩;cases c:qe t 2 2 with
 | false=>
   refine y3 (y3 ?_);have e:Zc t l=false:=by
    cases d:Zc t l with
    |false=>rfl
    | true=>obtain⟨i,m,rfl⟩:=J7 d;rw[lv]at c;cases c
   have g:=k H1 r;rw[e]at g;exact g
 | true=>
   obtain⟨x,m,rfl⟩:=zE c;refine yy ?_;have j:=M.mono r;obtain⟨a,U,L,rfl,Z,ea,F⟩:=Is.at (i:=0) j J;obtain⟨a',S,um,e',W,ah,af⟩:=Is.at (K:=K) (i:=1) j J;cases e';refine⟨a,U,_,L,J,J,Z,ea,x,L,hv,b,l,n,J,F,hH.mono r,λz B=>⟨_,J,?_⟩⟩;cases d:yk x 0 (l-1)with
   | false=>refine y3 ?_;have g:Q (.bl (yk x 0 (l-1) && uq m)) z:=k z (r.trans B);rw[d,db]at g;exact g
   | true=>
     refine yy ?_;have G:=j.mono B;obtain⟨a2,o,p,e2,q,u,h⟩:=Is.at (i:=1) G J;cases e2;refine⟨a,o,_,p,J,J,q,u,p,"str",_,_,J,h.ty,vL K m,_,J,?_⟩;have g:Q (.bl (yk x 0 (l-1) && uq m)) z:=k z (r.trans B);rw[d,cq]at g;cases m with
     | str y=>refine y3 ?_;cases(h);exact⟨a,o,_,_,J,J,q,u,R,_,J,.inr (hM z),J,J,g⟩
     |_=>exact yy g
end
section
variable{K:W.Frag}
theorem IZ{w a:Int}{i:Int}(h:Zc (.tup [.int i,m]) w=true):gq w a (.tup [.int i,m]::r)=(decide (a<i) && gq w i r):=by show(Zc (.tup [.int i,m]) w && (decide (a<i) && gq w i r))=_;rw[h,cq]
theorem FU{w a:Int}(h:Zc m w=false):gq w a (m::r)=false:=by unfold gq;rw[h,db]
theorem Y7:aA ["thing","house","last","member"] ["thing","house"] (zk Yt):=.of
theorem NY(D:aY K mg "are_members" Yt)(T:Txt K mg)(o1:Ok P w K mg base "is_member" 4 ["thing","house"] (ii Zc)):Ok P w K mg base "are_members" 5 ["thing","house"] (ii Y2):=by
 refine qk D Y7 ?_;rintro f af A G s H vs Q E hr ⟨t,v,R,b,l,n,rfl,S,hH,k⟩ X;refine⟨_,ze (yj (xz (xu (Wa T.isi T.tuple Y5 (pv 0)))) (zh (zt wr)) zy) (ze (zr (i:=2) Y7.nd (se sU zg)) (ze (w9 PassesOwn.never J (Zk (pv 0)) (ya (i:=3) Y7.nd) (ze (yj (Xr (xz (xu (yc o1 hr (zc (pv 3) (zc (pv 1) zd))))) (Ye (zu J6 (zp zx (pv 3) zg) (pv 2) (yb _)))).pt (zh (zt wr)) zy) (zh (zr (i:=2) Y7.nd (zp zx (pv 3) zg)))))
  (zh (zt wr)))),?_⟩
 refine⟨v,"tuple",_,_,J,S.ty,Cq K t,_,J,?_⟩;cases t with| tup o=>
   refine yy ?_;obtain⟨a,xs,rfl,W,U⟩:=S;have z:=U.length;refine⟨_,J,?_⟩;refine⟨a,J,⟨xs,aG.of W⟩,Qr (λi C H'=>∃e L,C=[some (.ref a),some R,some (.int e),L]/\zi H H'/\gq l (-1) o=gq l e (o.drop i)) ⟨-1,none,J,zi.refl H,J⟩ (λi C H' _ ⟨_,_,_,p,_⟩=>aG.of (p _ _ W)) ?_ ?_⟩
   rintro i x C N hi ⟨e,L,rfl,p,q⟩;obtain⟨m,hm,hx⟩:=U.get' hi;have r:o.drop i=m::o.drop (i+1):=by obtain⟨h1,h2⟩:=ci.mp hm;rw[List.drop_eq_getElem_cons h1,h2]
   rw[r]at q;refine⟨m,x,R,b,l,n,J,hx.mono p,hH.mono p,λF s2=>⟨_,J,?_⟩⟩;have g:=p.trans s2;cases c:Zc m l with| false=>refine y3 (y3 ?_);have h:Q (.bl (gq l (-1) o)) F:=k F g;rw[q,FU c]at h;exact h| true=>refine yy ?_;obtain⟨j,mm,rfl⟩:=J7 c;rw[IZ c]at q;obtain⟨Z,u,u2,rfl,y,B,M⟩:=Is.at (i:=0) (hx.mono g) J;cases(M);refine⟨Z,u,_,_,J,J,y,B,j,e,J,J,_,J,?_⟩;by_cases d:j<=e;rw[bp d];refine y3 ?_;have h:Q (.bl (gq l (-1) o)) F:=k F g;rw[q,cf (by omega),db]at h;exact h;rw[cf d];refine yy ?_;refine⟨Z,u,_,_,J,J,y,B,j,_,J,g,?_⟩;rw[q,bp (by omega),cq]
   rintro C N ⟨e,L,rfl,p,q⟩;have h:Q (.bl (gq l (-1) o)) N:=k N p;rw[q,z,List.drop_length]at h;exact h|_=>exact y3 (k H (zi.refl H))
theorem MZ:aA ["thing","least","house"] ["thing","least","house"] (zk Xb):=.of
theorem NK(D:aY K mg "is_calling" Xb)(T:Txt K mg)(o1:Ok P w K mg base "is_tuple_within" 1 ["thing","least","most"] fA)(o2:Ok P w K mg base "is_within" 2 ["thing","least","most"] eR)(o3:Ok P w K mg base "are_members" 5 ["thing","house"] (ii Y2)):Ok P w K mg base "is_calling" 6 ["thing","least","house"] kT:=by
 refine qk D MZ ?_;rintro f af A C s H vs Q E L ⟨t,v,g,hv,b,y,n,rfl,Z,hH,k⟩ X;refine⟨_,ze (yj (xz (xu (yc o1 (L.mono (by decide)) (zc (pv 0) (zc zg (zc zg zd)))))) (zh (zt wr)) zy) (zh (zt (Zm (yc o2 (L.mono (by decide)) (zc (zp zx (pv 0) zg) (zc (pv 1) (zc (ye Wb (yh ym J T.len vm (zc (zp zx (pv 2) (xv T.SCRIPTS)) zd)) zg) zd)))) (Zl (yc o3 L (zc (zp zx (pv 0) zg) (zc (pv 2) zd))))))),?_⟩
 refine⟨t,v,2,2,J,Z,λH1 i=>⟨_,J,?_⟩⟩;cases c:qe t 2 2 with
 | false=>
   refine y3 ?_;have e:jl t g n y=false:=by unfold jl;split;rw[lv]at c;cases c;rfl
   have l:=k H1 i;rw[e]at l;exact l
 | true=>
   obtain⟨x,m,rfl⟩:=zE c;refine yy ?_;have q:=Z.mono i;obtain⟨a,xs,W,rfl,sq,ea,F⟩:=Is.at (i:=0) q J;obtain⟨hs,ss,hh,e0,e1,e3,en⟩:=id (hH.mono i);obtain⟨ah,xh,uh,rfl,z,S,G⟩:=Is.at hh e3;obtain⟨as,h,rfl,R,M⟩:=G;have N:h.length=n:=by rw[M.length,en]
   refine⟨a,xs,_,W,J,J,sq,ea,ah,xh,_,_,J,J,z,S,as,h,J,.inr (aG.of R),_,_,J,J,x,W,g,h.length-1,J,F,λH2 r=>⟨_,J,?_⟩⟩;rw[N];have l:∀H',zi H H'->Q (.bl (yk x g (n-1) && Y2 m y)) H':=k;cases d:yk x g (n-1)with
   | false=>refine yy ?_;have o:=l H2 (i.trans r);rw[d,db]at o;exact o
   | true=>refine y3 ?_;obtain⟨a2,u,j,e2,B,U,p⟩:=Is.at (i:=1) (q.mono r) J;cases e2;refine⟨a,u,_,j,J,J,B,U,m,j,_,b,y,n,J,p,(hH.mono i).mono r,λH3 s3=>?_⟩;have o:=l H3 (i.trans (r.trans s3));rw[d,cq]at o;exact o
end
theorem we{own:O Str}{a:Scope}(b:Scope)(c:X.env.scope=b)(h:a.kind=.function)(g:∀x∈a.names,x.2=.free->b.names.lookup x.1=some .cell\/b.names.lookup x.1=some .free)(f:∀x∈a.names,x.2≠ .cell) (e:∀x∈a.names,x.2=.local->a.names.lookup x.1=some .local) (d:pF X a cap):aW X own cap a:=by subst c;exact⟨h,g,f,e,d⟩
theorem kB{A B:L2.St->Hp->Prop}(h:A (σ.set i (some v)) H):Ze i v σ H (λa H2=>ug a H2 λb c=>if b=true then A a c else B a c):=by
 show if true=true then A (σ.set i (some v)) H else B (σ.set i (some v)) H
 exact y3 h
noncomputable def W9(c:Nat):Bool:= !decide ((⟨#[c]⟩:Str).cps.toList<("a":Str).cps.toList) && !decide (("z":Str).cps.toList<(⟨#[c]⟩:Str).cps.toList)
noncomputable def so(t:T):Bool:=match t with|.str x=>decide ((1:Int)<=(x.length:Int)) && decide ((x.length:Int)<=8) && x.cps.toList.all W9|_=>false
def Wl(t:T):Prop:=∀x,t=.str x->x.length<=sizeLine
section
variable{K:W.Frag}
noncomputable def Bx(t:T):Bool:=match t with|.str x=>decide ((1:Int)<=(x.length:Int)) && x.cps.toList.all W9|_=>false
theorem M5:aA ["thing"] ["thing"] (zk Z2):=.of
theorem NM(D:aY K mg "is_letters" Z2)(T:Txt K mg):Ok P w K mg base "is_letters" 1 ["thing"] (dI Wl Bx):=by
 refine qk D M5 ?_;rintro f r A j s H u Q E y ⟨t,v,rfl,m,l,k⟩ X;refine⟨_,ze (yj (PW.pt (Xr (xz (xu (Wa T.isi T.str uM (pv 0)))) (Ye (zu wt (yh Qx (by rfl) T.len vm (zc (pv 0) zd)) zg (yb _))))) (zh (zt wr)) zy) (zh (zt (yh (Zf J) J T.all Xm (zc (kf (own:=["letter"]) (cap:=[]) J (we (zk Z2) J J (by decide+kernel) (by decide+kernel) (by decide+kernel) trivial) (FH (pv 0)) (λ_ _ _ _=>ya (i:=0) (by show(["letter"]:List Str).Nodup;decide+kernel)) (λ_ _ _ _=>qr) (λ_ _ _ _=>xE Ct Ct zo (pv 0) zo)) zd)))),?_⟩
 refine⟨v,"str",_,_,J,m.ty,vL K t,_,J,?_⟩;cases t with
 | str x=>
   refine yy ?_;cases(m);have h:∀b,zi H b->Q (.bl (decide ((1:Int)<=x.length) && x.cps.toList.all W9)) b:=k;refine⟨x,J,l x J,J,_,J,?_⟩;rw[wD];refine jy (λc=>?_) (λc=>?_);have c:x.length=0:=by simpa using c
   rw[cf (by omega),db]at h;exact h H (zi.refl H);have c:(1:Int)<=x.length:=by have:x.length≠0:=λz=>c (by simpa using z);omega
   rw[bp c,cq]at h;refine⟨x,J,?_⟩;have n:x.cps.size<=sizeLine:=l x J;refine Fr (λi g b=>b=H/\g=(x.cps.toList.take i).map λc=>V.bl (W9 c)) ⟨J,J⟩ (λi g b B ⟨_,e⟩=>by rw[e,ag,bu];omega) ?_ ?_;rintro i c g b q ⟨rfl,rfl⟩;refine kB ?_;have a:(x.cps.toList.take (i+1)).map (λc=>V.bl (W9 c))=(x.cps.toList.take i).map (λc=>V.bl (W9 c))++[V.bl (W9 c)]:=by
    have:x.cps.toList[i]?=some c:=by rw[Array.getElem?_toList];exact q
    rw[de,this,aq];rfl
   refine⟨"a",_,J,J,_,J,?_⟩;refine jy (λd=>?_) (λd=>?_);refine⟨_,"z",J,J,J,?_⟩;rw[a];congr 3;unfold W9;rw[d,cq];refine⟨J,?_⟩;rw[a];congr 3;unfold W9;rw[Bool.eq_false_iff.mpr d,db];rintro g b ⟨rfl,rfl⟩ p o;refine⟨p,x.cps.toList.map W9,J,aM.of ?_,?_⟩;rw[zf,bv];have e:x.cps.toList.take x.cps.size=x.cps.toList:=by rw[<-Array.length_toList,dg]
   rw[e];rfl;have e:(x.cps.toList.map W9).all id=x.cps.toList.all W9:=by rw[List.all_map];rfl
   rw[e];exact h _ (zi.new o _)
 |_=>exact y3 (y3 (k H (zi.refl H)))
theorem HU:aA ["thing"] ["thing"] (zk Q9):=.of
theorem Mu(D:aY K mg "is_word" Q9)(T:Txt K mg)(l:Ok P w K mg base "is_letters" 1 ["thing"] (dI Wl Bx)):Ok P w K mg base "is_word" 2 ["thing"] (dI Wl so):=by
 refine qk D HU ?_;rintro f n A b s H o Q E m ⟨t,v,rfl,h,g,k⟩ X;refine⟨_,zh (zt (Zm (yc l m (zc (pv 0) zd)) (Zl (jo J6 (yh Qx (by rfl) T.len vm (zc (pv 0) zd)) (xv T.MOST_LETTERS) (yb _))))),?_⟩;refine⟨t,v,J,h,g,λc a=>⟨_,J,?_⟩⟩;cases t with
 | str x=>
   cases(h);have d:∀j,zi H j->Q (.bl (decide ((1:Int)<=x.length) && decide ((x.length:Int)<=8) && x.cps.toList.all W9)) j:=k;show if(decide ((1:Int)<=x.length) && x.cps.toList.all W9)=true then _ else _
   cases i:(decide ((1:Int)<=x.length) && x.cps.toList.all W9)with
   | false=>
     refine yy ?_;have e:(decide ((1:Int)<=x.length) && decide ((x.length:Int)<=8) && x.cps.toList.all W9)=false:=by rw[Bool.and_right_comm,i,db]
     have:=d c a;rw[e]at this;exact this
   | true=>refine y3 ⟨x,J,g x J,_,8,J,J,?_⟩;have:=d c a;rw[Bool.and_right_comm,i,cq]at this;exact this
 |_=>exact yy (k c a)
end
abbrev mQ(x:Str)(y:Str):Bool:=decide (V.str x=V.str y)
noncomputable def g0(r:List T):T:=r.getD 0 .non
noncomputable def g1(r:List T):T:=r.getD 1 .non
noncomputable def Vr(x:Str)(r:List T)(F:Int)(b w:Int)(n:Nat):Bool:=
 if mQ x "begin"=true then jl (.tup r) (F+1) n w
 else if mQ x "raise"=true then decide (r.length=2) && (yk (g0 r) 0 (b-1) && yk (g1 r) 1 99)
 else if mQ x "await"=true then decide (r.length=2) && (yk (g0 r) 0 (b-1) && yk (g1 r) 1 9999)
 else if r.length≠1 then false
 else if md (.str x) [.str "come",.str "go",.str "leave"]=true then yk (g0 r) 0 (w-1)
 else if mQ x "work"=true then yk (g0 r) 0 999
 else mQ x "say" && so (g0 r)
noncomputable def Ve(t:T)(F:Int)(b w:Int)(n:Nat):Bool:=match t with|.tup (.str x::r)=>(decide (r.length=1) ||decide (r.length=2)) && Vr x r F b w n|_=>false
def Wd(t:T):Prop:=∀ts,t=.tup ts->∀u∈ts,Wl u
inductive nV(vs:List V)(H:Hp)(Q:VK)(e0:XK):Prop|mk:∀t v num hv b w n,vs=[v,.int num,hv]->Is H t v->lg H b w n hv->Wd t->(∀H',zi H H'->Q (.bl (Ve t num b w n)) H')->nV vs H Q e0
theorem D1:qe (.tup ts) 2 3=(decide (ts.length=2) ||decide (ts.length=3)):=by
 show(decide ((2:Int)<=ts.length) && decide ((ts.length:Int)<=3))=_
 grind
section
variable{K:W.Frag}
theorem A2:aA ["thing","number","house","word"] ["thing","number","house"] (zk Jb):=.of
theorem Mr(D:aY K mg "is_deed" Jb)(T:Txt K mg)(o1:Ok P w K mg base "is_tuple_within" 1 ["thing","least","most"] fA)(o2:Ok P w K mg base "is_within" 2 ["thing","least","most"] eR)(o3:Ok P w K mg base "is_calling" 6 ["thing","least","house"] kT) (o4:Ok P w K mg base "is_box" 3 ["thing","house"] (gc λb _=>b)) (o5:Ok P w K mg base "is_wall" 3 ["thing","house"] (gc λ_ w=>w))
  (o6:Ok P w K mg base "is_word" 2 ["thing"] (dI Wl so)):Ok P w K mg base "is_deed" 7 ["thing","number","house"] nV:=by
 refine qk D A2 ?_;rintro f a6 A a3 s H vs Q E hr ⟨t,v,W,hv,b,ww,n,rfl,ht,hH,hW,k⟩ X;have r1:=hr.mono (show 1<=6 by decide);have r2:=hr.mono (show 2<=6 by decide);have r3:=hr.mono (show 3<=6 by decide);refine⟨_,ze (yj (PW.pt (Xr (xz (xu (yc o1 r1 (zc (pv 0) (zc zg (zc zg zd)))))) (Ye (xz (xu (Wa T.isi T.str uM (zp zx (pv 0) zg))))))) (zh (zt wr)) zy) (ze (zr (i:=3) A2.nd (zp zx (pv 0) zg)) (ze (yj (zu wt (pv 3) zo (yb _)) (zh (zt (yc o3 hr (zc (yx sS (pv 0) (y1 zg) xn) (zc (ye wb (pv 1) zg) (zc (pv 2) zd)))))) zy) (ze (yj (zu wt (pv 3) zo (yb _)) (zh (zt (Zm (jo wt (yh ym (by rfl) T.len vm (zc (pv 0) zd)) zg (yb _)) (Zm (yc o4 r3 (zc (zp zx (pv 0) zg) (zc (pv 2) zd))) (Zl (yc o2 r2 (zc (zp zx (pv 0) zg) (zc zg (zc (xv T.MOST_RAISED) zd))))))))) zy) (ze (yj (zu wt (pv 3) zo (yb _)) (zh (zt (Zm (jo wt (yh ym (by rfl) T.len vm (zc (pv 0) zd)) zg (yb _)) (Zm (yc o4 r3 (zc (zp zx (pv 0) zg) (zc (pv 2) zd))) (Zl (yc o2 r2 (zc (zp zx (pv 0) zg) (zc zg (zc (xv T.MOST_AWAITED) zd))))))))) zy) (ze (yj (zu Zy (yh ym (by rfl) T.len vm (zc (pv 0) zd)) zg (yb _)) (zh (zt wr)) zy) (ze (yj (zu Y1 (pv 3) (qd (zc zo (zc zo (zc zo zd)))) J) (zh (zt (yc o5 r3 (zc (zp zx (pv 0) zg) (zc (pv 2) zd))))) zy) (ze (yj (zu wt (pv 3) zo (yb _)) (zh (zt (yc o2 r2 (zc (zp zx (pv 0) zg) (zc zg (zc (xv T.MOST_WORKED) zd)))))) zy) (zh (zt (Zm (jo wt (pv 3) zo (yb _)) (Zl (yc o6 r2 (zc (zp zx (pv 0) zg) zd))))))))))))),?_⟩
 refine⟨t,v,2,3,J,ht,λS y=>⟨_,J,?_⟩⟩;cases t with
 | tup U=>
   rw[D1];by_cases hl:U.length=2\/U.length=3;have hb:(decide (U.length=2) ||decide (U.length=3))=true:=by simpa using hl
   rw[hb];refine yy ?_;obtain⟨x0,r,rfl⟩:∃x0 r,U=x0::r:=by
    cases U with
    |nil=>simp at hl
    |cons a b=>exact⟨a,b,J⟩
   have aS:r.length=1\/r.length=2:=by simpa using hl
   have a4:(decide (r.length=1) ||decide (r.length=2))=true:=by simpa using aS
   have af:=ht.mono y;obtain⟨a,xs,u0,rfl,sq,ea,ay⟩:=Is.at (K:=K) (i:=0) af J;refine⟨a,xs,_,u0,J,J,sq,ea,u0,"str",_,_,J,ay.ty,vL K x0,_,J,?_⟩;cases x0 with
   | str x=>
     refine yy ?_;cases(show u0=.str x from ay);have kk:∀L,zi H L->Q (.bl (Vr x r W b ww n)) L:=λL s'=>by have q:Q (.bl ((decide (r.length=1) ||decide (r.length=2)) && Vr x r W b ww n)) L:=k L s';rw[a4,cq]at q;exact q
     have m:∀{L:Hp}(i:Nat),zi S L->i<r.length->∃g u,aG K L a g/\gw g ((i+1:Nat):Int)=some u/\Is L (r.getD i .non) u:=λ{L} i s' hi=>by
      have e:(L2.T.str x::r)[i+1]?=some (r.getD i .non):=by show r[i]?=_;rw[di,br hi];rfl
      obtain⟨a',g,u,e',h,j,C⟩:=Is.at (K:=K) (af.mono s') e;cases e';exact⟨g,u,h,j,C⟩
     obtain⟨a1,o,q1,Z,aw⟩:=id af;cases q1;have av:=aw.length;have av:o.length=r.length+1:=by simpa using av
     refine⟨a,xs,_,_,J,J,sq,ea,?_⟩;refine⟨J,_,J,?_⟩;refine jy (λc=>?_) (λc=>?_);have l:=kk;unfold Vr at l;rw[if_pos c]at l;refine⟨1,J,a,o,J,aG.of Z,?_,λp hp=>?_⟩;intro hh;have h1:=hh.1;have h2:HT.bS o.length 0 (some ((1:Nat):Int))=min 1 o.length:=HT.tz _ _ _;have h3:min 1 o.length=0:=h2.symm.trans h1;omega;have a2:Kl o (some 1) none=o.drop 1:=by have h2:HT.bS o.length 0 (some ((1:Nat):Int))=min 1 o.length:=HT.tz _ _ _;have h2:HT.bS o.length 0 (some 1)=1:=h2.trans (by omega);unfold Kl;rw[h2,HT.re,List.take_of_length_le (by rw[List.length_drop];exact aj _)]
     refine⟨_,_,J,J,.tup r,.ref p,W+1,hv,b,ww,n,J,?_,(hH.mono y).mono (zi.new hp _),λB G=>l B (y.trans ((zi.new hp _).trans G))⟩;rw[a2];exact Is.newTup hp (aw.drop 1);refine⟨J,_,J,?_⟩;have M:∀(R:Int),(∀L,zi H L->Q (.bl (decide (r.length=2) && (yk (g0 r) 0 (b-1) && yk (g1 r) 1 R))) L)->
       (V.bl (decide (V.int (o.length:Int)=V.int 3))=V.bl true->(∀B,zi S B->yk (g0 r) 0 (b-1)=true->∀F,zi B F->Q (.bl (yk (g1 r) 1 R)) F)/\(yk (g0 r) 0 (b-1)=false->∀B,zi S B->Q (.bl false) B))/\
       (V.bl (decide (V.int (o.length:Int)=V.int 3))=V.bl false->Q (.bl false) S):=λR km=>by
      refine⟨λe=>?_,λe=>?_⟩;have h3:o.length=3:=by have:=V.bl.inj e;have:=c9 this;have:=V.int.inj this;omega
      have a5:r.length=2:=by omega
      rw[bp a5,cq]at km;refine⟨λB G d F N=>?_,λd B G=>?_⟩;have q:=km F (y.trans (G.trans N));rw[d,cq]at q;exact q;have q:=km B (y.trans G);rw[d,db]at q;exact q;have h3:¬r.length=2:=λz=>by have:=V.bl.inj e;have:=of_decide_eq_false this;exact this (congrArg V.int (by omega))
      have q:=km S y;rw[cf h3,db]at q;exact q
     refine jy (λc2=>?_) (λc2=>?_);have l:=kk;unfold Vr at l;rw[if_neg c,if_pos c2]at l;obtain⟨t1,t2⟩:=M 99 l;refine⟨a,o,J,.inr (aG.of Z),J,_,J,?_⟩;refine jy (λd=>?_) (λd=>t2 (congrArg V.bl (Bool.eq_false_iff.mpr d)));obtain⟨t3,t4⟩:=t1 (congrArg V.bl d);have h3:o.length=3:=by have:=V.int.inj (c9 d);omega
     obtain⟨g,u,h,j,C⟩:=m 0 (zi.refl S) (by omega);refine⟨a,g,_,u,J,J,h,j,g0 r,u,hv,b,ww,n,J,C,hH.mono y,λB G=>⟨_,J,?_⟩⟩;refine jy (λd2=>?_) (λd2=>t4 (Bool.eq_false_iff.mpr d2) B G);obtain⟨g,u,h,j,C⟩:=m 1 G (by omega);exact⟨a,g,_,u,J,J,h,j,g1 r,u,1,99,J,C,λF N=>t3 B G d2 F N⟩;refine⟨J,_,J,?_⟩;refine jy (λc3=>?_) (λc3=>?_);have l:=kk;unfold Vr at l;rw[if_neg c,if_neg c2,if_pos c3]at l;obtain⟨t1,t2⟩:=M 9999 l;refine⟨a,o,J,.inr (aG.of Z),J,_,J,?_⟩;refine jy (λd=>?_) (λd=>t2 (congrArg V.bl (Bool.eq_false_iff.mpr d)));obtain⟨t3,t4⟩:=t1 (congrArg V.bl d);have h3:o.length=3:=by have:=V.int.inj (c9 d);omega
     obtain⟨g,u,h,j,C⟩:=m 0 (zi.refl S) (by omega);refine⟨a,g,_,u,J,J,h,j,g0 r,u,hv,b,ww,n,J,C,hH.mono y,λB G=>⟨_,J,?_⟩⟩;refine jy (λd2=>?_) (λd2=>t4 (Bool.eq_false_iff.mpr d2) B G);obtain⟨g,u,h,j,C⟩:=m 1 G (by omega);exact⟨a,g,_,u,J,J,h,j,g1 r,u,1,9999,J,C,λF N=>t3 B G d2 F N⟩;have l:=kk;unfold Vr at l;rw[if_neg c,if_neg c2,if_neg c3]at l;refine⟨a,o,J,.inr (aG.of Z),J,_,J,?_⟩;refine jy (λd=>?_) (λd=>?_);have h1:r.length≠1:=λz=>by have e:V.int (o.length:Int)=V.int 2:=congrArg V.int (by omega);rw[bp e]at d;cases d
     rw[if_pos h1]at l;exact l S y;have h1:r.length=1:=by
      rcases aS with z|z;exact z;exfalso;apply d;have e:¬V.int (o.length:Int)=V.int 2:=λq=>by have:=V.int.inj q;omega
      rw[cf e];rfl
     rw[if_neg (by omega)]at l;refine⟨aI,λp hp=>⟨p,_,J,.inr (aG.of zf),J,J,_,J,?_⟩⟩;have sp:=zi.new hp (.tup [.str "come",.str "go",.str "leave"]);refine jy (λc4=>?_) (λc4=>?_);have c4:md (.str x) [.str "come",.str "go",.str "leave"]=true:=c4;rw[if_pos c4]at l;obtain⟨g,u,h,j,C⟩:=m 0 sp (by omega);exact⟨a,g,_,u,J,J,h,j,g0 r,u,hv,b,ww,n,J,C,(hH.mono y).mono sp,λF N=>l F (y.trans (sp.trans N))⟩;have c4:¬md (.str x) [.str "come",.str "go",.str "leave"]=true:=c4;rw[if_neg c4]at l;refine⟨J,_,J,?_⟩;refine jy (λc5=>?_) (λc5=>?_);rw[if_pos c5]at l;obtain⟨g,u,h,j,C⟩:=m 0 sp (by omega);exact⟨a,g,_,u,J,J,h,j,g0 r,u,0,999,J,C,λF N=>l F (y.trans (sp.trans N))⟩;rw[if_neg c5]at l;refine⟨J,_,J,?_⟩;refine jy (λc6=>?_) (λc6=>?_);have ap:mQ x "say"=true:=c6;rw[ap,cq]at l;obtain⟨g,u,h,j,C⟩:=m 0 sp (by omega);refine⟨a,g,_,u,J,J,h,j,g0 r,u,J,C,?_,λF N=>l F (y.trans (sp.trans N))⟩;refine hW _ J _ (bn _ ?_);unfold g0;rw[di,br (by omega:0<r.length)];exact List.getElem_mem _;have ap:mQ x "say"=false:=Bool.eq_false_iff.mpr c6;rw[ap,db]at l;exact l _ (y.trans sp)
   | _=>refine y3 ?_;exact k S y
   have hb:(decide (U.length=2) ||decide (U.length=3))=false:=by simpa using hl
   rw[hb];refine y3 (y3 ?_);have e:Ve (.tup U) W b ww n=false:=by
    unfold Ve;split
    rename_i x r ah
    have ah:U=.str x::r:=by injection ah
    rw[ah]at hl;have:(decide (r.length=1) ||decide (r.length=2))=false:=by simpa using hl
    rw[this,db];rfl
   have kk:=k S y;rw[e]at kk;exact kk
 |_=>exact y3 (y3 (k S y))
end
noncomputable def Ag(t:T)(F:Int)(b w:Int)(n:Nat):Bool:=match t with|.tup ts=>ts.all λd=>Ve d F b w n|_=>false
noncomputable def Xh(t:T)(F:Int)(b w:Int)(n:Nat):Bool:=qe t 0 80 && Ag t F b w n
theorem jw{o:Option NameKind}(h:o=some .cell):o≠some .local:=λz=>by simp_all
def Ws(t:T):Prop:=∀ts,t=.tup ts->∀d∈ts,Wd d
inductive nr(vs:List V)(H:Hp)(Q:VK)(e0:XK):Prop|mk:∀t v num hv b w n,vs=[v,.int num,hv]->Is H t v->lg H b w n hv->Ws t->(∀H',zi H H'->Q (.bl (Xh t num b w n)) H')->nr vs H Q e0
section
variable{K:W.Frag}
theorem V7{n:Nat}(h:n<=1000):n<=sizeLine:=Nat.le_of_lt (wa h)
theorem LT:aA ["thing","number","house"] ["thing","number","house"] (zk Yn):=.of
theorem Nx(D:aY K mg "is_script" Yn)(T:Txt K mg)(W:Ok P w K mg base "is_tuple_within" 1 ["thing","least","most"] fA)(U:Ok P w K mg base "is_deed" 7 ["thing","number","house"] nV):Ok P w K mg base "is_script" 8 ["thing","number","house"] nr:=by
 refine qk D LT ?_;rintro f af A u s H vs Q E F ⟨t,v,g,Z,b,m,n,rfl,C,hH,hW,k⟩ X;refine⟨_,ze (yj (xz (xu (yc W (F.mono (by decide)) (zc (pv 0) (zc zg (zc (xv T.MOST_DEEDS_OF_SCRIPT) zd)))))) (zh (zt wr)) zy) (zh (zt (yh (Zf J) J T.all Xm (zc (kf (own:=["deed"]) (cap:=[1,2]) J (we (zk Yn) J J (by decide+kernel) (by decide+kernel) (by decide+kernel) ⟨⟨_,J,.inl J,jw J⟩,⟨_,J,.inl J,jw J⟩,trivial⟩) (Zk (pv 0)) (λ_ _ _ _=>ya (i:=0) (by show(["deed","number","house"]:List Str).Nodup;decide+kernel)) (λ_ _ _ _=>qr)
   (λ_ _ _ _=>yc U F (zc (pv 0) (zc (pv 1) (zc (pv 2) zd))))) zd)))),?_⟩
 refine⟨t,v,0,80,J,C,λB q=>⟨_,J,?_⟩⟩;have r:∀l,zi H l->Q (.bl (qe t 0 80 && Ag t g b m n)) l:=k;cases c:qe t 0 80 with
 | false=>rw[c]at r;exact y3 (r B q)
 | true=>
   rw[c]at r;refine yy ?_;cases t with
   | tup h=>
     have G:h.length<=80:=by have c:(decide ((0:Int)<=h.length) && decide ((h.length:Int)<=80))=true:=c;simp only[cp,decide_eq_true_eq]at c;omega
     obtain⟨a,R,rfl,N,L⟩:=C.mono q;have y:=L.length;refine⟨a,J,⟨R,aG.of N⟩,?_⟩;refine Wg (λi o l=>zi B l/\o=(h.take i).map λd=>V.bl (Ve d g b m n)) ⟨zi.refl B,J⟩ (λi o l hi ⟨j,e⟩=>⟨aG.of (j _ _ N),by rw[e,ag,bu];exact V7 (by omega)⟩) ?_ ?_;rintro i x o l hx ⟨j,rfl⟩;refine kB ?_;obtain⟨d,M,z⟩:=L.get' hx;refine⟨d,x,g,Z,b,m,n,J,z.mono j,(hH.mono q).mono j,hW h J d (bq M),λH3 S=>⟨j.trans S,?_⟩⟩;rw[de,M,aq];rfl;rintro o l ⟨j,rfl⟩ p hp;refine⟨p,h.map λd=>Ve d g b m n,J,aM.of ?_,?_⟩;rw[zf,bv,y,dg];rfl;have e:(h.map λd=>Ve d g b m n).all id=h.all λd=>Ve d g b m n:=by rw[List.all_map];rfl
     rw[e];exact r _ (q.trans (j.trans (zi.new hp _)))
   |_=>cases c
noncomputable def Yi(t:T):Bool:=match t with|.tup [b,w,f,s]=>yk b 0 99 && (yk w 0 6 && (qe f 1 40 && qe s 1 20))|_=>false
theorem D0{t:L2.T}(h:qe t 4 4=true):∃x y z u,t=.tup [x,y,z,u]:=by
 cases t with
 | tup a=>
   have h:(decide ((4:Int)<=a.length) && decide ((a.length:Int)<=4))=true:=h;simp only[cp,decide_eq_true_eq]at h;have:a.length=4:=by omega
   match a,this with
   |[x,y,z,u],_=>exact⟨x,y,z,u,J⟩
 |_=>cases h
theorem qY{x y z u:L2.T}:qe (.tup [x,y,z,u]) 4 4=true:=by rfl
theorem JM:aA ["thing"] ["thing"] (zk Vp):=⟨J,J,J,by simp,J,by decide+kernel,by decide+kernel⟩
theorem Nc(D:aY K mg "is_frame" Vp)(T:Txt K mg)(r:Ok P w K mg base "is_tuple_within" 1 ["thing","least","most"] fA)(M:Ok P w K mg base "is_within" 2 ["thing","least","most"] eR):Ok P w K mg base "is_frame" 3 ["thing"] (dI (λ_=>True) Yi):=by
 refine qk D JM ?_;rintro f af A q s H vs Q E L ⟨t,v,rfl,m,_,k⟩ X;have p:=L.mono (show 1<=2 by decide);refine⟨_,ze (yj (xz (xu (yc r p (zc (pv 0) (zc zg (zc zg zd)))))) (zh (zt wr)) zy) (ze (yj (PW.pt (Xr (xz (xu (yc M L (zc (zp zx (pv 0) (xv T.BOXES)) (zc zg (zc (xv T.MOST_BOXES) zd)))))) (Ye (xz (xu (yc M L (zc (zp zx (pv 0) (xv T.WALLS)) (zc zg (zc (xv T.MOST_WALLS) zd))))))))) (zh (zt wr)) zy)
  (zh (zt (Zm (yc r p (zc (zp zx (pv 0) (xv T.FIRSTS)) (zc zg (zc (xv T.MOST_FIRSTS) zd)))) (Zl (yc r p (zc (zp zx (pv 0) (xv T.SCRIPTS)) (zc zg (zc (xv T.MOST_SCRIPTS) zd))))))))),?_⟩
 refine⟨t,v,4,4,J,m,λH1 l=>⟨_,J,?_⟩⟩;cases c:qe t 4 4 with
 | false=>
   refine y3 ?_;have e:Yi t=false:=by unfold Yi;split;rw[qY]at c;cases c;rfl
   have d:=k H1 l;rw[e]at d;exact d
 | true=>
   obtain⟨x,y,z,u,rfl⟩:=D0 c;refine yy ?_;have d:∀W,zi H W->Q (.bl (yk x 0 99 && (yk y 0 6 && (qe z 1 40 && qe u 1 20)))) W:=k;obtain⟨a,h,u0,rfl,i,j,G⟩:=Is.at (i:=0) (m.mono l) J;refine⟨a,h,_,_,J,J,i,j,x,u0,0,99,J,G,λH2 o=>⟨_,J,?_⟩⟩;cases S:yk x 0 99 with
   | false=>rw[S]at d;exact y3 (y3 (d H2 (l.trans o)))
   | true=>
     rw[S,cq]at d;refine yy ?_;obtain⟨U,h,u1,n,i,j,F⟩:=Is.at (i:=1) (m.mono (l.trans o)) J;cases n;refine⟨a,h,_,_,J,J,i,j,y,u1,0,6,J,F,λH3 s3=>⟨_,J,?_⟩⟩;have g:=(l.trans o).trans s3;cases R:yk y 0 6 with
     | false=>rw[R]at d;exact y3 (d H3 g)
     | true=>
       rw[R,cq]at d;refine yy ?_;obtain⟨U,h,u2,n,i,j,C⟩:=Is.at (i:=2) (m.mono g) J;cases n;refine⟨a,h,_,_,J,J,i,j,z,u2,1,40,J,C,λH4 s4=>⟨_,J,?_⟩⟩;have b:=g.trans s4;cases N:qe z 1 40 with
       | false=>rw[N]at d;exact yy (d H4 b)
       | true=>rw[N,cq]at d;refine y3 ?_;obtain⟨U,h,Z,n,i,j,B⟩:=Is.at (i:=3) (m.mono b) J;cases n;exact⟨a,h,_,_,J,J,i,j,u,Z,1,20,J,B,λH5 s5=>d H5 (b.trans s5)⟩
end
noncomputable def jH(b w:Int)(n:Nat):Int->List T->Bool|_,[]=>true|i,s::r=>Xh s i b w n && jH b w n (i+1) r
noncomputable def ge(t:T):Bool:=Yi t && (match t with|.tup [.int b,.int w,.tup fs,.tup ss]=>jH b w ss.length 0 ss && fs.all (λc=>jl c 0 ss.length w)|_=>false)
def Wh(t:T):Prop:=∀b w f ss,t=.tup [b,w,f,.tup ss]->∀s∈ss,Ws s
theorem MH{t:T}(h:Yi t=true):∃b w fs ss,t=.tup [.int b,.int w,.tup fs,.tup ss]/\fs.length<=40/\ss.length<=20:=by
 unfold Yi at h;split at h
 rename_i x y z u
 simp only[cp]at h;obtain⟨e,d,c,a⟩:=h;cases x with
 | int b =>
   cases y with
   | int w=>
     cases z with
     | tup fs=>
       cases u with
       | tup ss=>simp only[qe,cp,decide_eq_true_eq]at c a;exact⟨b,w,fs,ss,J,by omega,by omega⟩
       |_=>simp[qe]at a
     |_=>simp[qe]at c
   |_=>simp[yk]at d
 |_=>simp[yk]at e
 cases h
section
variable{K:W.Frag}
theorem uz:aA ["thing","number","script"] ["thing"] (zk jn):=.of
theorem Qk(D:aY K mg "is_well_formed" jn)(T:Txt K mg)(o1:Ok P w K mg base "is_frame" 3 ["thing"] (dI (λ_=>True) Yi))(o2:Ok P w K mg base "is_script" 8 ["thing","number","house"] nr)(o3:Ok P w K mg base "is_calling" 6 ["thing","least","house"] kT):Ok P w K mg base "is_well_formed" 9 ["thing"] (dI Wh ge):=by
 refine qk D uz ?_;rintro f a8 A aw s H vs Q E hr ⟨t,v,rfl,W,hW,k⟩ X;refine⟨_,ze (yj (xz (xu (yc o1 (hr.mono (by decide)) (zc (pv 0) zd)))) (zh (zt wr)) zy) (ze (w9 PassesOwn.never J (Kt J T.enumerate (zc (zp zx (pv 0) (xv T.SCRIPTS)) zd)) (Zb J (yv (ya (i:=1) uz.nd) (yv (ya (i:=2) uz.nd) jb))) (zh (yj (xz (xu (yc o2 hr (zc (pv 2) (zc (pv 1) (zc (pv 0) zd)))))) (zh (zt wr)) zy)))
  (zh (zt (yh (Zf J) J T.all Xm (zc (kf (own:=["calling"]) (cap:=[0]) J (we (zk jn) J J (by decide+kernel) (by decide+kernel) (by decide+kernel) ⟨⟨_,J,.inl J,jw J⟩,trivial⟩) (Zk (zp zx (pv 0) (xv T.FIRSTS))) (λ_ _ _ _=>ya (i:=0) (by show(["calling","thing"]:List Str).Nodup;decide+kernel)) (λ_ _ _ _=>qr)
   (λ_ _ _ _=>yc o3 (hr.mono (by decide)) (zc (pv 0) (zc zg (zc (pv 1) zd))))) zd))))),?_⟩
 refine⟨t,v,J,W,trivial,λH1 y=>⟨_,J,?_⟩⟩;cases c:Yi t with
 | false=>
   refine y3 ?_;have e:ge t=false:=by unfold ge;rw[c,db]
   have o:=k H1 y;rw[e]at o;exact o
 | true=>
   refine yy ?_;obtain⟨b,h,N,g,rfl,a7,a6⟩:=MH c;have o:∀j,zi H j->Q (.bl (jH b h g.length 0 g && N.all λc=>jl c 0 g.length h)) j:=λj s'=>by have q:=k j s';unfold ge at q;rw[c,cq]at q;exact q
   have M:∀{j},zi H j->lg j b h g.length v:=λs'=>⟨_,g,W.mono s',J,J,J,J⟩
   obtain⟨a,xs,us,rfl,sq,ea,a2⟩:=Is.at (K:=K) (i:=3) (W.mono y) J;obtain⟨as,ah,rfl,G,B⟩:=a2;have aS:=B.length;refine⟨a,xs,_,_,J,J,sq,ea,as,ah,J,aG.of G,?_⟩;refine xC (K:=K) (λi R j=>∃nv sv,R=[some (.ref a),nv,sv]/\zi H1 j/\jH b h g.length 0 g=jH b h g.length (i:Int) (g.drop i)) ⟨none,none,J,zi.refl H1,J⟩ (λi R j _ ⟨_,_,_,u,_⟩=>aG.of (u _ _ G)) ?_ ?_;rintro i x R j p hx ⟨nv,sv,rfl,u,Z⟩ hp;obtain⟨r,z,ay⟩:=B.get' hx;have n:g.drop i=r::g.drop (i+1):=by obtain⟨h1,h2⟩:=ci.mp z;rw[List.drop_eq_getElem_cons h1,h2]
   have l:=u.trans (zi.new hp (.tup [.int i,x]));refine⟨p,_,J,aG.of zf,J,_,_,J,_,_,J,J,?_⟩;refine⟨r,x,(i:Int),_,b,h,g.length,J,ay.mono l,M (y.trans l),hW _ _ _ _ J r (bq z),λH4 U=>⟨_,J,?_⟩⟩;have F:jH b h g.length 0 g=(Xh r (i:Int) b h g.length && jH b h g.length ((i:Int)+1) (g.drop (i+1))):=by rw[Z,n];rfl
   cases d:Xh r (i:Int) b h g.length with
   | false=>refine y3 ?_;have q:=o H4 (y.trans (l.trans U));rw[F,d]at q;exact q
   | true=>refine yy ?_;refine⟨_,_,J,l.trans U,?_⟩;rw[F,d,cq];rfl
   rintro R j ⟨nv,sv,rfl,u,Z⟩;rw[aS,List.drop_length]at Z;rw[Z]at o;have m:=y.trans u;obtain⟨a',ap,uf,e',av,a5,a3⟩:=Is.at (K:=K) (i:=2) (W.mono m) J;cases e';obtain⟨af,xf,rfl,L,C⟩:=a3;have a4:=C.length;refine⟨a,ap,_,_,J,J,av,a5,af,J,⟨xf,aG.of L⟩,?_⟩;refine Wg (λi S H3=>zi j H3/\S=(N.take i).map λd=>V.bl (jl d 0 g.length h)) ⟨zi.refl j,J⟩ (λi S H3 hi ⟨l,e⟩=>⟨aG.of (l _ _ L),by rw[e,ag,bu];exact V7 (by omega)⟩) ?_ ?_;rintro i x S H3 hx ⟨l,rfl⟩;refine kB ?_;obtain⟨d,hd,a1⟩:=C.get' hx;refine⟨d,x,0,_,b,h,g.length,J,a1.mono l,M (m.trans l),λH4 U=>⟨l.trans U,?_⟩⟩;rw[de,hd,aq];rfl;rintro S H3 ⟨l,rfl⟩ p hp;refine⟨p,N.map λd=>jl d 0 g.length h,J,aM.of ?_,?_⟩;rw[zf,bv,a4,dg];rfl;have e:(N.map λd=>jl d 0 g.length h).all id=N.all λd=>jl d 0 g.length h:=by rw[List.all_map];rfl
   rw[e];exact o _ (m.trans (l.trans (zi.new hp _)))
end
abbrev jK:=Int×Str
inductive aD where|rai (b k:Int)|awa (b m:Int)|com (w:Int)|goo (w:Int)|lea (w:Int)|beg (s:Nat) (ms:List jK)|wor (d:Int)|say (x:Str)
abbrev yf:=List aD
abbrev wy:=Nat×List jK
structure aB where
 b:Int
 w:Int
 fs:List wy
 ss:List yf
noncomputable def rQ(m:jK):T:=.tup [.int m.1,.str m.2]
noncomputable def mi(F:List jK):T:=.tup (F.map rQ)
noncomputable def eD:aD->T|.rai b k=>.tup [.str "raise",.int b,.int k]|.awa b m=>.tup [.str "await",.int b,.int m]|.com w=>.tup [.str "come",.int w]|.goo w=>.tup [.str "go",.int w]|.lea w=>.tup [.str "leave",.int w]|.beg s F=>.tup [.str "begin",.int s,mi F]|.wor d=>.tup [.str "work",.int d]|.say x=>.tup [.str "say",.str x]
noncomputable def eS(s:yf):T:=.tup (s.map eD)
noncomputable def eC(c:wy):T:=.tup [.int c.1,mi c.2]
noncomputable def eH(h:aB):T:=.tup [.int h.b,.int h.w,.tup (h.fs.map eC),.tup (h.ss.map eS)]
noncomputable def dw:aD->Str|.rai _ _=>"raise"|.awa _ _=>"await"|.com _=>"come"|.goo _=>"go"|.lea _=>"leave"|.beg _ _=>"begin"|.wor _=>"work"|.say _=>"say"
theorem Wm(d:aD):∃r,eD d=.tup (.str (dw d)::r):=by cases d<;>exact⟨_,J⟩
noncomputable def stp(g:Nat->Nat×Nat)(a:Nat×Nat):aD->Nat×Nat|.beg j _=>(a.1+(g j).1,a.2+(g j).2)|_=>a
noncomputable def ll(ss:List yf):Nat->Nat->Nat×Nat|0,_=>(0,0)|f+1,i=>(ss.getD i []).foldl (stp (ll ss f)) (1,(ss.getD i []).length)
noncomputable def cnt(ss:List yf)(i:Nat):Nat×Nat:=ll ss (ss.length-i) i
def Kf(ss:List yf):Prop:=∀(i:Nat) s,ss[i]?=some s->∀j F,aD.beg j F∈s->i<j/\j<ss.length
theorem Vw{g c:Nat->Nat×Nat}:∀(l:List aD)(a:Nat×Nat),(∀j b,aD.beg j b∈l->g j=c j)->l.foldl (stp g) a=l.foldl (stp c) a
 |[],_,_=>rfl
 | d::r,a,h=>by
   rw[List.foldl_cons,List.foldl_cons];have e:stp g a d=stp c a d:=by
    cases d with
    |beg j b=>simp only[stp];rw[h j b bo]
    |_=>rfl
   rw[e];exact Vw r _ λj b f=>h j b (bn _ f)
theorem Go{ss:List yf}(L:Kf ss):∀(m i f:Nat),ss.length-i=m->i<ss.length->m<=f->ll ss f i=ll ss m i:=by
 intro m;induction m using Nat.strongRecOn with| ind m c=>
   intro i f n k o;obtain⟨a,rfl⟩:∃a,m=a+1:=⟨m-1,by omega⟩
   obtain⟨b,rfl⟩:∃b,f=b+1:=⟨f-1,by omega⟩
   have g:=br k;have l:ss.getD i []=ss[i]:=by simp_all
   simp only[ll];rw[l];refine Vw _ _ λj e h=>?_;obtain⟨p,d⟩:=L i _ g j e h;rw[c (ss.length-j) (by omega) j b J d (by omega),c (ss.length-j) (by omega) j a J d (by omega)]
theorem EZ{ss:O yf}(L:Kf ss){s:yf}(hs:ss[i]?=some s):cnt ss i=s.foldl (stp (cnt ss)) (1,s.length):=by
 obtain⟨f,g⟩:=ci.mp hs;have d:ss.getD i []=s:=by rw[di,hs];rfl
 unfold cnt;obtain⟨m,b⟩:∃m,ss.length-i=m+1:=⟨ss.length-i-1,by omega⟩
 rw[b];simp only[ll];rw[d];refine Vw _ _ λj a c=>?_;obtain⟨h,e⟩:=L i _ hs j a c;exact Go L (ss.length-j) j m J e (by omega)
noncomputable def zB(c:Nat×Nat):HO:=.tup [.int (c.1:Int),.int (c.2:Int)]
def DD(ss:List yf)(lo:Nat)(H:Hp)(d:Addr):Prop:=∃kvs:List (aK×V),H d=some (.dK kvs)/\kvs.length<=ss.length-lo/\∀j,lo<=j->j<ss.length->∃p,xa kvs (Sum.inl (j:Int):aK)=some (.ref p)/\H p=some (zB (cnt ss j))
inductive nZ(vs:List V)(H:Hp)(Q:VK)(e0:XK):Prop|mk:∀(ss:List yf)(v:V),vs=[v]->Is H (.tup (ss.map eS)) v->Kf ss->ss.length<=20->(∀d H',zi H H'->DD ss 0 H' d->Q (.ref d) H')->nZ vs H Q e0
section
variable{K:W.Frag}
theorem jf:aA ["scripts","brought","number","hands","deeds","deed"] ["scripts"] (zk Jf):=.of
theorem Mn(D:aY K mg "brought_by_scripts" Jf)(T:Txt K mg):Ok P w K mg base "brought_by_scripts" 1 ["scripts"] nZ:=by
 refine qk D jf ?_;rintro f bC A a8 s H vs Q E hr ⟨c,v,rfl,ht,hL,bB,k⟩ X;have hu:=Z0 hr;refine⟨_,ze (zr (i:=1) jf.nd Qj) (ze (w9 PassesOwn.never J (Hs J T.range (zc (ye Wb (yh ym (by rfl) T.len vm (zc (pv 0) zd)) zg) (zc (se sU zg) (zc (se sU zg) zd)))) (ya (i:=2) jf.nd) (ze (zr (i:=3) jf.nd zg) (ze (zr (i:=4) jf.nd (yh ym (by rfl) T.len vm (zc (zp zx (pv 0) (pv 2)) zd))) (ze (w9 PassesOwn.never J (Zk (zp zx (pv 0) (pv 2))) (ya (i:=5) jf.nd) (zh (yj (zu wt (zp zx (pv 5) zg) zo (yb _)) (ze (Ao (i:=3) jf.nd J (Or.inl J) (zp zx (v6 hu (pv 1) (zp zx (pv 5) zg)) zg) uI) (zh (Ao (i:=4) jf.nd J (Or.inl J) (zp zx (v6 hu (pv 1) (zp zx (pv 5) zg)) zg) uI))) zy)))
   (zh (Wx hu (pv 1) (pv 2) (qd (zc (pv 3) (zc (pv 4) zd))) J))))))
  (zh (zt (pv 1)))),?_⟩
 obtain⟨a,n,rfl,ha,hl⟩:=ht;have ah:=hl.length;rw[ag]at ah;intro d hd;have s0:=zi.new hd (.dK []);refine⟨a,n,J,.inr (aG.of (s0 _ _ ha)),_,_,J,J,_,J,_,J,n.length,J,(by omega),?_⟩;let bl:Nat->L2.St->Hp->Prop:=λi σ U=>(∃x2 x3 x4 B,σ=[some (.ref a),some (.ref d),x2,x3,x4,B])/\zi H U/\DD c (c.length-i) U d;refine IV (lo:=(n.length:Int)-1) (n:=n.length) bl ⟨⟨none,none,none,none,J⟩,s0,[],zf,bf _,λj h1 h2=>absurd h2 (by omega)⟩ ?_ ?_;rintro i σ U hi ⟨⟨x2,x3,x4,B,rfl⟩,N,ba,l,bw,ay⟩;obtain⟨m,hm⟩:∃m:Nat,m+i+1=c.length:=⟨c.length-i-1,by omega⟩
 have em:(n.length:Int)-1-(i:Int)=((m:Nat):Int):=by omega
 rw[em];have G:c[m]?=some c[m]:=br (by omega);obtain⟨u,eu,bd⟩:=hl.get (i:=m) (t:=eS c[m]) (by rw[bi,G];rfl);have a2:gw n ((m:Nat):Int)=some u:=wx eu;obtain⟨as,ys,rfl,L,aw⟩:=bd.mono N;have C:=aw.length;rw[ag]at C;refine⟨a,n,_,_,J,J,aG.of (N _ _ ha),a2,as,ys,J,.inr (aG.of L),?_⟩;refine⟨a,n,_,_,J,J,aG.of (N _ _ ha),a2,as,J,⟨ys,aG.of L⟩,?_⟩;refine Qr (K:=K) (a:=as) (xs:=ys) (λj h H2=>H2=U/\∃B,h=[some (.ref a),some (.ref d),some (.int (m:Int)),some (.int (((c[m].take j).foldl (stp (cnt c)) (1,c[m].length)).1:Int)),some (.int (((c[m].take j).foldl (stp (cnt c)) (1,c[m].length)).2:Int)),B]) ⟨J,_,by rw[C];rfl⟩
  (λj h H2 _ ⟨e,_⟩=>by rw[e];exact aG.of L) ?_ ?_
 rintro j x h H2 hx ⟨rfl,B,rfl⟩;obtain⟨tt,g,af⟩:=aw.get' hx;rw[bi]at g;obtain⟨y,a1,rfl⟩:∃y,c[m][j]?=some y/\eD y=tt:=by
  cases e:c[m][j]? with
  |none=>rw[e]at g;cases g
  |some z=>rw[e]at g;exact⟨z,J,Option.some.inj g⟩
 have F:(c[m].take (j+1)).foldl (stp (cnt c)) (1,c[m].length)=stp (cnt c) ((c[m].take j).foldl (stp (cnt c)) (1,c[m].length)) y:=by rw[de,a1,List.foldl_append];rfl
 obtain⟨r,bg⟩:=Wm y;obtain⟨a5,a4,u5,rfl,a7,bk,bc⟩:=Is.at (K:=K) (i:=0) (t:=.str (dw y)) (bg▸af) J;cases(show u5=.str (dw y)from bc);refine⟨a5,a4,_,_,J,J,a7,bk,J,_,J,?_⟩;rw[F];cases y with
 | beg R ms=>
   refine y3 ?_;obtain⟨h1,h2⟩:=hL m _ G R ms (bq a1);obtain⟨p,ap,S⟩:=ay R (by omega) h2;obtain⟨a6,W,u6,e6,Z,a3,bb⟩:=Is.at (K:=K) (i:=1) (t:=.int (R:Int)) af J;cases e6;cases(show u6=.int (R:Int)from bb);have t:je H2 d (.int (R:Int)) (some (.ref p)):=by have q:=je.k (k:=(Sum.inl (R:Int):aK)) l;rw[ap]at q;exact q
   refine⟨a5,W,_,_,J,J,Z,a3,d,_,J,t,p,_,_,_,J,J,aG.of S,J,_,_,J,J,?_⟩;refine⟨a5,W,_,_,J,J,Z,a3,d,_,J,t,p,_,_,_,J,J,aG.of S,J,_,_,J,J,?_⟩;exact⟨J,_,J⟩
 |_=>exact yy ⟨J,_,J⟩
 rintro h H2 ⟨rfl,B,rfl⟩;have M:(c[m].take ys.length).foldl (stp (cnt c)) (1,c[m].length)=cnt c m:=by rw[C,dg,EZ hL G]
 rw[M];refine⟨aI,λp S=>?_⟩;have sp:=zi.new S (.tup [.int ((cnt c m).1:Int),.int ((cnt c m).2:Int)]);have aS:=sp _ _ l;have a9:p≠d:=λz=>by rw[z,l]at S;cases S
 refine⟨d,_,J,Kp.k (k:=(Sum.inl (m:Int):aK)) aS (wa (by omega)),?_⟩;refine⟨⟨_,_,_,_,J⟩,λb o e=>?_,_,zf,?_,λj h1 h2=>?_⟩;have nb:b≠d:=zn e hd;rw[upd_ne nb];exact sp _ _ (N _ _ e);have:=qa ba (Sum.inl (m:Int):aK) (.ref p);omega;rw[V2];by_cases ej:j=m;subst ej;refine⟨p,by rw[if_pos J],?_⟩;rw[upd_ne a9,zf];rfl;have nj:¬((Sum.inl (j:Int):aK)=Sum.inl (m:Int)):=λz=>ej (by have:=Sum.inl.inj z;omega);obtain⟨q,bh,av⟩:=ay j (by omega) h2;refine⟨q,by rw[if_neg nj];exact bh,?_⟩;have nq:q≠d:=Wc av l (by intro z;cases z);rw[upd_ne nq];exact sp _ _ av;rintro σ U ⟨⟨x2,x3,x4,B,rfl⟩,N,hB⟩;refine(k d U N ?_);rw[ah,Nat.sub_self]at hB;exact hB
end
noncomputable def mx(h:aB):Int:=(h.fs.map λ(c:wy)=>((cnt h.ss c.1).1:Int)).sum
noncomputable def pk(h:aB):Int:=(h.fs.map λ(c:wy)=>((cnt h.ss c.1).2:Int)).sum
noncomputable def sy(h:aB):Bool:=decide (mx h<=60) && decide (pk h<=1200)
structure DC(h:aB):Prop where
 later:Kf h.ss
 ss20:h.ss.length<=20
 fs40:h.fs.length<=40
 call:∀c∈h.fs,c.1<h.ss.length
 hs:mx h<2^63
 ds:pk h<2^63
inductive ni(vs:List V)(H:Hp)(Q:VK)(e0:XK):Prop|mk:∀(h:aB)(v:V),vs=[v]->Is H (eH h) v->DC h->(∀H',zi H H'->Q (.bl (sy h)) H')->ni vs H Q e0
section
variable{K:W.Frag}
theorem V8:aA ["house","brought","hands","deeds"] ["house"] (zk Yc):=.of
theorem Nf(D:aY K mg "is_small_enough" Yc)(T:Txt K mg)(o1:Ok P w K mg base "brought_by_scripts" 1 ["scripts"] nZ):Ok P w K mg base "is_small_enough" 2 ["house"] ni:=by
 refine qk D V8 ?_;rintro f a8 A a2 s H vs Q E hr ⟨h,v,rfl,ht,F,k⟩ X;have hu:=Z0 hr;refine⟨_,ze (zr (i:=1) V8.nd (yc o1 hr (zc (zp zx (pv 0) (xv T.SCRIPTS)) zd))) (ze (zr (i:=2) V8.nd (yh (Cm J) J T.sum zZ (zc (kf (own:=["calling"]) (cap:=[1]) J (we (zk Yc) J J (by decide+kernel) (by decide+kernel) (by decide+kernel) ⟨⟨_,J,.inl J,jw J⟩,trivial⟩) (Zk (zp zx (pv 0) (xv T.FIRSTS))) (λ_ _ _ _=>ya (i:=0) (by show(["calling","brought"]:O Str).Nodup;decide+kernel)) (λ_ _ _ _=>qr)
   (λ_ _ _ _=>zp (r:=dW K) zx (v6 hu (pv 1) (zp (r:=dW K) zx (pv 0) zg (λ_ _=>rfl))) zg (λ_ _=>rfl))) zd)))
  (ze (zr (i:=3) V8.nd (yh (Cm J) J T.sum zZ (zc (kf (own:=["calling"]) (cap:=[1]) J (we (zk Yc) J J (by decide+kernel) (by decide+kernel) (by decide+kernel) ⟨⟨_,J,.inl J,jw J⟩,trivial⟩) (Zk (zp zx (pv 0) (xv T.FIRSTS))) (λ_ _ _ _=>ya (i:=0) (by show(["calling","brought"]:O Str).Nodup;decide+kernel)) (λ_ _ _ _=>qr)
   (λ_ _ _ _=>zp (r:=dW K) zx (v6 hu (pv 1) (zp (r:=dW K) zx (pv 0) zg (λ_ _=>rfl))) zg (λ_ _=>rfl))) zd)))
  (zh (zt (Zm (jo J6 (pv 2) (xv T.MOST_HANDS) (yb _)) (Zl (jo J6 (pv 3) (xv T.MOST_DEEDS) (yb _)))))))),?_⟩
 obtain⟨a,xs,us,rfl,sq,ea,a3⟩:=Is.at (K:=K) (i:=3) ht J;refine⟨a,xs,_,_,J,J,sq,ea,h.ss,us,J,a3,F.later,F.ss20,λd H1 s1 hB=>?_⟩;obtain⟨ah,ay,a7,av⟩:=hB;obtain⟨a',a1,uf,e',M,W,R⟩:=Is.at (K:=K) (i:=2) (ht.mono s1) J;cases e';obtain⟨af,C,rfl,u,o⟩:=R;have t:=o.length;rw[ag]at t;refine⟨a,a1,_,_,J,J,M,W,af,J,⟨C,aG.of u⟩,?_⟩;refine Wg (xs:=C) (λi y g=>g=H1/\y=(h.fs.take i).map λ(c:wy)=>V.int ((cnt h.ss c.1).1:Int)) ⟨J,J⟩ (λi y g hi ⟨e1,e2⟩=>⟨by rw[e1];exact aG.of u,by rw[e2,ag,bu];exact V7 (by have:=F.fs40;omega)⟩) ?_ ?_;rintro i x y g hx ⟨rfl,rfl⟩;refine kB ?_;obtain⟨tt,b,N⟩:=o.get' hx;rw[bi]at b;obtain⟨c,hc,rfl⟩:∃c,h.fs[i]?=some c/\eC c=tt:=by cases e:h.fs[i]? with|none=>rw[e]at b;cases b|some z=>rw[e]at b;exact⟨z,J,Option.some.inj b⟩
 obtain⟨p,m,hp⟩:=av c.1 (bf _) (F.call c (bq hc));obtain⟨a6,G,u6,rfl,L,U,S⟩:=Is.at (K:=K) (i:=0) (t:=.int (c.1:Int)) N J;cases(S);have r:je g d (.int (c.1:Int)) (some (.ref p)):=by have q:=je.k (k:=(Sum.inl (c.1:Int):aK)) ay;rw[m]at q;exact q
 refine⟨a6,G,_,_,J,J,L,U,d,_,J,r,p,_,_,_,J,J,aG.of hp,J,J,?_⟩;rw[de,hc,aq];rfl;rintro y g ⟨rfl,rfl⟩ p0 a5;have l:=zi.new a5 (.lst ((h.fs.take C.length).map λ(c:wy)=>V.int ((cnt h.ss c.1).1:Int)));refine⟨p0,h.fs.map λ(c:wy)=>((cnt h.ss c.1).1:Int),J,aM.of (by rw[zf,bv,t,dg];rfl),λn hn=>?_,F.hs,?_⟩;obtain⟨c,_,rfl⟩:=bz.mp hn;exact Int.ofNat_nonneg _;generalize upd g p0 (.lst ((h.fs.take C.length).map λ(c:wy)=>V.int ((cnt h.ss c.1).1:Int)))=H2 at l⊢;have aw:H2 d=some (.dK ah):=l _ _ ay;have ap:∀j:Nat,0<=j->j<h.ss.length->∃p,xa ah (Sum.inl (j:Int):aK)=some (V.ref p)/\H2 p=some (zB (cnt h.ss j)):=λj h1 h2=>by obtain⟨p,e1,e2⟩:=av j h1 h2;exact⟨p,e1,l _ _ e2⟩
 obtain⟨a',aS,uf,e',M,W,R⟩:=Is.at (K:=K) (i:=2) (ht.mono (s1.trans l)) J;cases e';obtain⟨af,B,rfl,u,o⟩:=R;have t:=o.length;rw[ag]at t;refine⟨a,aS,_,_,J,J,M,W,af,J,⟨B,aG.of u⟩,?_⟩;refine Wg (xs:=B) (λi y g=>g=H2/\y=(h.fs.take i).map λ(c:wy)=>V.int ((cnt h.ss c.1).2:Int)) ⟨J,J⟩ (λi y g hi ⟨e1,e2⟩=>⟨by rw[e1];exact aG.of u,by rw[e2,ag,bu];exact V7 (by have:=F.fs40;omega)⟩) ?_ ?_;rintro i x y g hx ⟨rfl,rfl⟩;refine kB ?_;obtain⟨tt,b,N⟩:=o.get' hx;rw[bi]at b;obtain⟨c,hc,rfl⟩:∃c,h.fs[i]?=some c/\eC c=tt:=by cases e:h.fs[i]? with|none=>rw[e]at b;cases b|some z=>rw[e]at b;exact⟨z,J,Option.some.inj b⟩
 obtain⟨p,m,hp⟩:=ap c.1 (bf _) (F.call c (bq hc));obtain⟨a6,G,u6,rfl,L,U,S⟩:=Is.at (K:=K) (i:=0) N J;cases(S);have r:je g d (.int (c.1:Int)) (some (.ref p)):=by have q:=je.k (k:=(Sum.inl (c.1:Int):aK)) aw;rw[m]at q;exact q
 refine⟨a6,G,_,_,J,J,L,U,d,_,J,r,p,_,_,_,J,J,aG.of hp,J,J,?_⟩;rw[de,hc,aq];rfl;rintro y g ⟨rfl,rfl⟩ p1 a4;have Z:=zi.new a4 (.lst ((h.fs.take B.length).map λ(c:wy)=>V.int ((cnt h.ss c.1).2:Int)));refine⟨p1,h.fs.map λ(c:wy)=>((cnt h.ss c.1).2:Int),J,aM.of (by rw[zf,bv,t,dg];rfl),λn hn=>?_,F.ds,?_⟩;obtain⟨c,_,rfl⟩:=bz.mp hn;exact Int.ofNat_nonneg _;generalize upd g p1 (.lst ((h.fs.take B.length).map λ(c:wy)=>V.int ((cnt h.ss c.1).2:Int)))=H4 at Z⊢;have kk:Q (.bl (decide (mx h<=60) && decide (pk h<=1200))) _:=k _ ((s1.trans l).trans Z);refine⟨mx h,60,J,J,_,J,?_⟩;by_cases c1:mx h<=60;rw[bp c1]at kk⊢;exact y3 ⟨pk h,1200,J,J,kk⟩;rw[cf c1]at kk⊢;exact yy kk
end
def gH:aD->Prop|.com _=>False|.goo _=>False|.lea _=>False|.beg _ F=>F=[]|_=>True
theorem Dq{A B:Hp->Prop}(h:A H):ug σ H (λb a=>if b=true then A a else B a):=by
 show if true=true then A H else B H
 exact y3 h
theorem Y0:PE X e (λ_ _ _=>False):=λ_ _ _ _ _ _ h=>h.elim
inductive kZ(vs:List V)(H:Hp)(Q:VK)(e0:XK):Prop|mk:∀(d:aD)(dv u:V),vs=[dv,u]->Is H (eD d) dv->gH d->(∀H',zi H H'->Q (.bl true) H')->kZ vs H Q e0
section
variable{K:W.Frag}
theorem C2:aA ["deed","had","word"] ["deed","had"] (zk Z3):=.of
theorem NJ(D:aY K mg "is_allowed" Z3)(T:Txt K mg):Ok P w K mg base "is_allowed" 1 ["deed","had"] kZ:=by
 refine qk D C2 ?_;rintro f Z A m s H vs Q E hr ⟨d,dv,u,rfl,z,g,k⟩ X;refine⟨_,ze (zr (i:=2) C2.nd (zp zx (pv 0) zg)) (ze (yj (zu Y1 (pv 2) (qd (zc zo (zc zo zd))) J) wn zy) (ze (yj (zu wt (pv 2) zo (yb _)) wn zy) (ze (yj (zu wt (pv 2) zo (yb _)) (zh (zt (yh (Zf J) J T.all Xm (zc (kf (own:=["wall","mode"]) (cap:=[1]) (g:=eU K 2 (bO (Ze 0) (bO (Ze 1) mt))) J (we (zk Z3) J J (by decide+kernel) (by decide+kernel) (by decide+kernel) ⟨⟨_,J,.inl J,jw J⟩,trivial⟩) (Zk (zp zx (pv 0) zg)) (λ_ _ _ _=>Zb J (yv (ya (i:=0) (by show(["wall","mode","had"]:List Str).Nodup;decide+kernel)) (yv (ya (i:=1) (by show(["wall","mode","had"]:List Str).Nodup;decide+kernel)) jb))) (λ_ _ _ _=>qr)
   (λ_ _ _ _=>Y0)) zd)))) zy)
  (zh (zt wr))))),?_⟩
 obtain⟨r,q⟩:=Wm d;obtain⟨a,C,u0,rfl,G,S,o⟩:=Is.at (K:=K) (i:=0) (t:=.str (dw d)) (q▸z) J;cases(o);refine⟨a,C,_,_,J,J,G,S,?_⟩;refine⟨(by decide),λp R=>⟨p,_,J,.inr (aG.of zf),J,J,_,J,?_⟩⟩;have e:=zi.new R (.tup [.str "come",.str "go"]);generalize upd H p (.tup [.str "come",.str "go"])=B at e⊢;cases d with|com w=>exact g.elim|goo w=>exact g.elim|lea w=>exact g.elim| beg jj N=>cases(show N=[]from g);refine yy ⟨J,_,J,yy ⟨J,_,J,y3 ?_⟩⟩;obtain⟨a',j,u2,W,l,y,n⟩:=Is.at (K:=K) (i:=2) (t:=mi []) (z.mono e) J;cases W;obtain⟨am,F,rfl,b,v⟩:=n;cases(show F=[]from v);refine⟨a,j,_,_,J,J,l,y,am,J,⟨[],aG.of b⟩,?_⟩;refine Wg (xs:=[]) (λi c h=>B=h/\c=[]) ⟨J,J⟩ (λi c h hi ⟨L,U⟩=>⟨L▸aG.of b,by rw[U];exact bf _⟩) (λi x c h hx _=>by cases hx) ?_;rintro c h ⟨rfl,rfl⟩ M t;exact⟨M,[],J,aM.of zf,k _ (e.trans (zi.new t _))⟩|_=>exact yy ⟨J,_,J,yy ⟨J,_,J,yy (k B e)⟩⟩
end
inductive fB(n:Nat)(vs:List V)(H:Hp)(Q:VK)(e0:XK):Prop|mk:∀(ss:List yf)(sv:V)(j:Nat)(cv:V),vs=[sv,cv]->Is H (.tup (ss.map eS)) sv->Is H (eC (j,[])) cv->j<ss.length->ss.length<=j+n->Kf ss->(∀s∈ss,∀d∈s,gH d)->(∀H',zi H H'->Q (.bl true) H')->fB n vs H Q e0
section
variable{K:W.Frag}
theorem wF:aA ["scripts","calling","had","deed"] ["scripts","calling"] (zk qW):=.of
theorem EH(D:aY K mg "fits" qW):Ok P w K mg base "fits" 1 ["scripts","calling"] (fB 0):=by
 obtain⟨f,i,F,e⟩:=D;have no:∀a H Q E,¬fB 0 a H Q E:=λa H Q E h=>by obtain⟨l,k,j,o,_,_,_,n,m,_⟩:=h;omega
 exact⟨f,i,⟨λa H Q E h=>absurd h (no a H Q E),λA b s H c d a Q E _ _ _ _ h=>absurd h (no a H Q E)⟩,F.binds λ_ _ _ _ _ _ d g=>(by obtain⟨_,_,rfl⟩:=Dl g;rfl),F.kp,e⟩
theorem EI(D:aY K mg "fits" qW)(T:Txt K mg)(o1:Ok P w K mg base "is_allowed" 1 ["deed","had"] kZ){n:Nat}(o2:Ok P w K mg base "fits" (n+1) ["scripts","calling"] (fB n)):Ok P w K mg base "fits" (n+1+1) ["scripts","calling"] (fB (n+1)):=by
 refine qk D wF ?_;rintro f bk A av s H vs Q E hr ⟨o,sv,c,cv,rfl,hs,L,M,bh,hL,hN,k⟩ X;have hu:=Z0 hr;refine⟨_,ze (zr (i:=2) wF.nd (vz (L3 J) J T.dict Qz (zc (zp zx (pv 1) zg) zd))) (ze (w9 PassesOwn.never J (Zk (zp zx (pv 0) (zp zx (pv 1) zg))) (ya (i:=3) wF.nd) (ze (yj (xz (xu (yc o1 (hr.mono (by omega)) (zc (pv 3) (zc (pv 2) zd))))) wn zy) (ze (yj (zu wt (zp zx (pv 3) zg) zo (yb _)) wn zy) (zh (yj (PW.pt (X4 (zu wt (zp zx (pv 3) zg) zo (yb _)) (Xd (xz (xu (yc o2 hr (zc (pv 0) (zc (yx sS (pv 3) (y1 zg) xn) zd)))))))) wn zy)))))
  (zh (zt wr))),?_⟩
 obtain⟨ac,xc,um,rfl,ap,bc,a1⟩:=Is.at (K:=K) (i:=1) (t:=mi []) L J;obtain⟨am,xm,rfl,ba,a4⟩:=a1;cases(show xm=[]from a4);refine⟨ac,xc,_,_,J,J,ap,bc,am,J,ba,λdh a8=>?_⟩;have B:=zi.new a8 (.dK []);generalize upd H dh (.dK [])=H0 at B⊢;obtain⟨bl,af,un,e',y,S,aS⟩:=Is.at (K:=K) (i:=0) (t:=.int (c:Int)) (L.mono B) J;cases e';cases(show un=.int (c:Int)from aS);have F:o[c]?=some o[c]:=br M;obtain⟨as,Z,us,rfl,ah,bb,ay⟩:=Is.at (K:=K) (i:=c) (t:=eS o[c]) (hs.mono B) (by rw[bi,F];rfl)
 obtain⟨ad,xd,rfl,l,a7⟩:=ay;refine⟨ac,af,_,_,J,J,y,S,as,Z,_,_,J,J,ah,bb,ad,J,⟨xd,aG.of l⟩,?_⟩;let bd:Nat->L2.St->Hp->Prop:=λi U H'=>(∃x3,U=[some (.ref as),some (.ref ac),some (.ref dh),x3])/\zi H0 H';refine Qr (K:=K) (a:=ad) (xs:=xd) bd
  ⟨⟨none,J⟩,zi.refl H0⟩ (λi U H' _ ⟨_,v⟩=>aG.of (v _ _ l)) ?_ ?_
 rintro i x U H1 hx ⟨⟨x3,rfl⟩,v⟩;obtain⟨tt,b,t⟩:=a7.get' hx;rw[bi]at b;obtain⟨d,a9,rfl⟩:∃d,o[c][i]?=some d/\eD d=tt:=by
  cases e:o[c][i]? with
  |none=>rw[e]at b;cases b
  |some z=>rw[e]at b;exact⟨z,J,Option.some.inj b⟩
 have h:d∈o[c]:=bq a9;have G:=hN _ (List.getElem_mem M) d h;refine⟨d,x,.ref dh,J,t.mono v,G,λH2 s2=>⟨_,J,yy ?_⟩⟩;have a:=v.trans s2;obtain⟨r,a3⟩:=Wm d;obtain⟨W,m,u5,rfl,q,u,a2⟩:=Is.at (K:=K) (i:=0) (t:=.str (dw d)) (a3▸t.mono a) J;cases(show u5=.str (dw d)from a2);refine⟨W,m,_,_,J,J,q,u,J,_,J,?_⟩;cases d with
 |com w=>exact G.elim
 |goo w=>exact G.elim
 |lea w=>exact G.elim
 | beg j ms=>
   cases(show ms=[]from G);obtain⟨h1,h2⟩:=hL c _ F j [] h;refine yy ⟨W,m,_,_,J,J,q,u,J,_,J,y3 ?_⟩;obtain⟨a6,g,e6,aw,C⟩:=t.mono a;cases e6;have bg:g.length=3:=C.length;have N:HT.bS g.length 0 (some ((1:Nat):Int))=min 1 g.length:=HT.tz _ _ _;refine⟨1,J,W,g,J,aG.of aw,λhh=>?_,λp hp=>?_⟩;have h3:min 1 g.length=0:=N.symm.trans hh.1;omega;have R:Kl g (some 1) none=g.drop 1:=by have h2:HT.bS g.length 0 (some 1)=1:=N.trans (by omega);unfold Kl;rw[h2,HT.re,List.take_of_length_le (by rw[List.length_drop];exact aj _)]
   rw[R];have sp:=zi.new hp (.tup (g.drop 1));exact⟨o,.ref as,j,.ref p,J,hs.mono ((B.trans a).trans sp),Is.newTup hp (C.drop 1),h2,by omega,hL,hN,λH3 s3=>⟨_,J,yy ⟨⟨_,J⟩,(a.trans sp).trans s3⟩⟩⟩
 |_=>exact yy ⟨W,m,_,_,J,J,q,u,J,_,J,yy (yy ⟨⟨_,J⟩,a⟩)⟩
 rintro U H1 ⟨⟨x3,rfl⟩,v⟩;exact k H1 (B.trans v)
end
noncomputable def pS(h:aB):Bool:=ge (eH h) && sy h
structure Good(h:aB):Prop where
 cnt:DC h
 nw:∀s∈h.ss,∀d∈s,gH d
 ms:∀c∈h.fs,c.2=[]
inductive nQ(vs:List V)(H:Hp)(Q:VK)(e0:XK):Prop|mk:∀t v,vs=[v]->Is H t v->Wh t->((∃h,t=eH h/\Good h/\∀H',zi H H'->Q (.bl (pS h)) H')\/(ge t=false/\∀H',zi H H'->Q (.bl false) H'))->nQ vs H Q e0
section
variable{K:W.Frag}
theorem AS(D:aY K mg "fits" qW)(T:Txt K mg)(a:Ok P w K mg base "is_allowed" 1 ["deed","had"] kZ):∀n:Nat,Ok P w K mg base "fits" (n+1) ["scripts","calling"] (fB n)|0=>EH D|n+1=>EI D T a (AS D T a n)
theorem JO:aA ["thing"] ["thing"] (zk Xa):=.of
theorem Nd(D:aY K mg "is_house" Xa)(T:Txt K mg)(o1:Ok P w K mg base "is_well_formed" 9 ["thing"] (dI Wh ge))(o2:Ok P w K mg base "is_small_enough" 2 ["house"] ni)(o3:Ok P w K mg base "fits" 21 ["scripts","calling"] (fB 20)):Ok P w K mg base "is_house" 22 ["thing"] nQ:=by
 refine qk D JO ?_;rintro f ap A G s H vs Q E U ⟨t,v,rfl,y,hW,j⟩ X;refine⟨_,ze (yj (PW.pt (Xr (xz (xu (yc o1 (U.mono (by decide)) (zc (pv 0) zd)))) (Ye (xz (xu (yc o2 (U.mono (by decide)) (zc (pv 0) zd))))))) (zh (zt wr)) zy) (zh (zt (yh (Zf J) J T.all Xm (zc (kf (own:=["calling"]) (cap:=[0]) J (we (zk Xa) J J (by decide+kernel) (by decide+kernel) (by decide+kernel) ⟨⟨_,J,.inl J,jw J⟩,trivial⟩) (Zk (zp zx (pv 0) (xv T.FIRSTS))) (λ_ _ _ _=>ya (i:=0) (by show(["calling","thing"]:List Str).Nodup;decide+kernel)) (λ_ _ _ _=>qr)
   (λ_ _ _ _=>yc o3 U (zc (zp (r:=dW K) zx (pv 1) (xv T.SCRIPTS) (λ_ _=>rfl)) (zc (pv 0) zd)))) zd)))),?_⟩
 refine⟨t,v,J,y,hW,λH1 u=>⟨_,J,?_⟩⟩;rcases j with⟨h,rfl,l,k⟩|⟨hf,k⟩;cases cw:ge (eH h)with
 | false=>refine y3 (y3 ?_);have q:=k H1 u;unfold pS at q;rw[cw,db]at q;exact q
 | true=>
   refine yy ?_;refine⟨h,v,J,y.mono u,l.cnt,λH2 s2=>⟨_,J,?_⟩⟩;have d:=u.trans s2;have L:=λH' s'=>by have q:=k H' s';unfold pS at q;rw[cw,cq]at q;exact q
   cases cs:sy h with
   |false=>exact y3 (cs▸L H2 d)
   | true=>
     refine yy ?_;rw[cs]at L;obtain⟨a,xs,uf,rfl,sq,ea,S⟩:=Is.at (i:=2) (y.mono d) J;obtain⟨af,C,rfl,o,m⟩:=S;have Z:=m.length;rw[ag]at Z;refine⟨a,xs,_,_,J,J,sq,ea,af,J,⟨C,aG.of o⟩,?_⟩;refine Wg (λi r p=>zi H2 p/\r=List.replicate i (V.bl true)) ⟨zi.refl H2,J⟩ (λi r p hi ⟨g,e2⟩=>⟨aG.of (g _ _ o),by rw[e2,fh];exact V7 (by have:=l.cnt.fs40;omega)⟩) ?_ ?_;rintro i x r p hx ⟨g,rfl⟩;refine kB ?_;obtain⟨tt,b,M⟩:=m.get' hx;rw[bi]at b;obtain⟨c,hc,rfl⟩:∃c,h.fs[i]?=some c/\eC c=tt:=by
      cases e:h.fs[i]? with
      |none=>rw[e]at b;cases b
      |some z=>rw[e]at b;exact⟨z,J,Option.some.inj b⟩
     have n:=bq hc;obtain⟨a',B,us,e',F,ah,R⟩:=Is.at (i:=3) (y.mono (d.trans g)) J;cases e';have N:Is p (eC (c.1,[])) x:=l.ms c n▸M.mono g;exact⟨a,B,_,_,J,J,F,ah,h.ss,us,c.1,x,J,R,N,l.cnt.call c n,(by have:=l.cnt.ss20;omega),l.cnt.later,l.nw,λH4 s4=>⟨g.trans s4,List.replicate_succ'.symm⟩⟩;rintro r p ⟨g,rfl⟩ p2 W;refine⟨p2,List.replicate C.length true,J,aM.of (by rw[zf,List.map_replicate]),?_⟩;have e:(List.replicate C.length true).all id=true:=by simp
     rw[e];exact L _ (d.trans (g.trans (zi.new W _)))
 rw[hf];exact y3 (y3 (k H1 u))
end
noncomputable def vk:Stmt->List Stmt|.ClassDef _ _ _ b _ _ _ _ _ _ _=>b|_=>[]
noncomputable def dD:Stmt:=.Pass ⟨0,0,0,0⟩
noncomputable def EV:Stmt:=aX 53
noncomputable abbrev Vm:Stmt:=(vk EV).getD 0 dD
noncomputable abbrev xM:Stmt:=aX 54
noncomputable def aR:List Str:=["calling","script","call","begins","needs","came"]
structure aJ(K:W.Frag)(C:Addr)(fs:List Str):Prop where
 cls:gp K C
 no:∀f∈fs,Xp K C f
theorem aJ.n{K:W.Frag}{C:Y}{a:O Str}(c:aJ K C a)(h:f∈a:=by decide+kernel):Xp K C f:=c.no f h
def gj(P:Program)(w:World)(K:W.Frag)(mg:Str->Option Value)(base:Heap)(x:Str)(C:Addr)(k:Nat)(F:List Str)(sp:Sp):Prop:=∃f fd,cF P w K mg base fZ k f fd F sp/\Y6 K fd F []/\Mk K C f/\mg x=some (.ref C)
def cC(P:Program)(w:World)(K:W.Frag)(mg:Str->Option Value)(base:Heap)(C:Addr)(m:Str)(k:Nat)(F:List Str)(sp:Sp):Prop:=∃f fd,cF P w K mg base fZ k f fd F sp/\Y6 K fd F []/\jJ K C m f
def my(K:W.Frag)(mg:Str->Option Value)(x q:Str)(C:Addr)(st:Stmt):Prop:=∃f fd,gm K "__init__" q st f fd/\Mk K C f/\mg x=some (.ref C)
def jz(K:W.Frag)(C:Addr)(m q:Str)(st:Stmt):Prop:=∃f fd,gm K m q st f fd/\jJ K C m f
noncomputable def lY(U vs F:V)(ab Z ac:Addr):List (Str×V):=[("calling",U),("script",vs),("call",F),("begins",.ref ab),("needs",.ref Z),("came",.ref ac)]
inductive kK(cR:Addr)(xs:List V)(H:Hp)(Q:VK)(e0:XK):Prop|mk:∀(x dx:Addr)(vc vs vl:V),xs=[.ref x,vc,vs,vl]->H x=some (.ins cR dx [])->(∀ab an ac H',ab≠ac->H ab=none->H an=none->H ac=none->(∀b o,b≠x->H b=some o->H' b=some o)->H' x=some (.ins cR dx (lY vc vs vl ab an ac))->H' ab=some (.dK [])->H' an=some (.lst [])->H' ac=some (.dT [])->Q .non H')->kK cR xs H Q e0
theorem xi{g:Str}{x:V}{r:O (Str×V)}(h:g≠f):qv f v ((g,x)::r)=(g,x)::qv f v r:=if_neg h
section
variable{K:W.Frag}
theorem No:aA ["self","calling","script","call"] ["self","calling","script","call"] (zk Vm):=.of
theorem Ni{cR:Y}(D:my K mg "Role" "Role.__init__" cR Vm)(C:aJ K cR aR):gj P w K mg base "Role" cR 1 ["self","calling","script","call"] (kK cR):=by
 obtain⟨f,fd,F,M,hm⟩:=D;refine⟨f,fd,F.ok No (λc H Q E h=>by cases h;subst_vars;rfl) (λap A af s H c Q E hr h=>?_),F.binds (λ_ _ _ _ _ _ us hl=>(by obtain⟨_,_,_,_,rfl⟩:=Dk hl;rfl)),M,hm⟩;obtain⟨x,d,a,c,i,rfl,hx,kk⟩:=h;refine⟨_,ze (qb (pv 0) (pv 1) J) (ze (qb (pv 0) (pv 2) J) (ze (qb (pv 0) (pv 3) J) (ze (qb (pv 0) Qj J) (ze (qb (pv 0) (jk zd) J) (zh (qb (pv 0) Qi J)))))),?_⟩;have n:=λg hg=>C.no g hg;refine⟨x,cR,d,[],J,hx,C.cls,n _ (by simp[aR]),(by simp),?_⟩;rw[show qv "calling" (a) []=[(("calling":Str),a)] by rfl];have g1:upd H x (.ins cR d [(("calling":Str),a)]) x=some (.ins cR d [(("calling":Str),a)]):=zf;have w1:∀b o,b≠x->H b=some o->upd H x (.ins cR d [(("calling":Str),a)]) b=some o:=λb o z e=>by rw[upd_ne z];exact e
 generalize upd H x (.ins cR d [(("calling":Str),a)])=H1 at g1 w1⊢;refine⟨x,cR,d,[(("calling":Str),a)],J,g1,C.cls,n _ (by simp[aR]),(by simp),?_⟩;rw[show qv "script" (c) [(("calling":Str),a)]=[(("calling":Str),a),("script",c)] by rfl];have g2:upd H1 x (.ins cR d [(("calling":Str),a),("script",c)]) x=some (.ins cR d [(("calling":Str),a),("script",c)]):=zf;have w2:∀b o,b≠x->H1 b=some o->upd H1 x (.ins cR d [(("calling":Str),a),("script",c)]) b=some o:=λb o z e=>by rw[upd_ne z];exact e
 generalize upd H1 x (.ins cR d [(("calling":Str),a),("script",c)])=Z at g2 w2⊢;refine⟨x,cR,d,[(("calling":Str),a),("script",c)],J,g2,C.cls,n _ (by simp[aR]),(by simp),?_⟩;rw[show qv "call" (i) [(("calling":Str),a),("script",c)]=[(("calling":Str),a),("script",c),("call",i)] by rfl];have g3:upd Z x (.ins cR d [(("calling":Str),a),("script",c),("call",i)]) x=some (.ins cR d [(("calling":Str),a),("script",c),("call",i)]):=zf;have w3:∀b o,b≠x->Z b=some o->upd Z x (.ins cR d [(("calling":Str),a),("script",c),("call",i)]) b=some o:=λb o z e=>by rw[upd_ne z];exact e
 generalize upd Z x (.ins cR d [(("calling":Str),a),("script",c),("call",i)])=X at g3 w3⊢;intro j B;have m:j≠x:=λz=>by simp_all
 have t3:∀b o,X b=some o->upd X j (.dK []) b=some o:=λb o e=>by rw[upd_ne (zn e B)];exact e
 have u3:upd X j (.dK []) j=some (.dK []):=zf;generalize upd X j (.dK [])=S at t3 u3⊢;refine⟨x,cR,d,[(("calling":Str),a),("script",c),("call",i)],J,t3 _ _ g3,C.cls,n _ (by simp[aR]),(by simp),?_⟩;rw[show qv "begins" (.ref j) [(("calling":Str),a),("script",c),("call",i)]=[(("calling":Str),a),("script",c),("call",i),("begins",.ref j)] by rfl];have g4:upd S x (.ins cR d [(("calling":Str),a),("script",c),("call",i),("begins",.ref j)]) x=some (.ins cR d [(("calling":Str),a),("script",c),("call",i),("begins",.ref j)]):=zf;have L:∀b o,b≠x->S b=some o->upd S x (.ins cR d [(("calling":Str),a),("script",c),("call",i),("begins",.ref j)]) b=some o:=λb o z e=>by rw[upd_ne z];exact e
 generalize upd S x (.ins cR d [(("calling":Str),a),("script",c),("call",i),("begins",.ref j)])=W at g4 L⊢;refine⟨(by simp),λl y=>?_⟩;have p:l≠x:=λz=>by simp_all
 have t4:∀b o,W b=some o->upd W l (.lst []) b=some o:=λb o e=>by rw[upd_ne (zn e y)];exact e
 have u4:upd W l (.lst []) l=some (.lst []):=zf;generalize upd W l (.lst [])=R at t4 u4⊢;refine⟨x,cR,d,[(("calling":Str),a),("script",c),("call",i),("begins",.ref j)],J,t4 _ _ g4,C.cls,n _ (by simp[aR]),(by simp),?_⟩;rw[show qv "needs" (.ref l) [(("calling":Str),a),("script",c),("call",i),("begins",.ref j)]=[(("calling":Str),a),("script",c),("call",i),("begins",.ref j),("needs",.ref l)] by rfl];have g5:upd R x (.ins cR d [(("calling":Str),a),("script",c),("call",i),("begins",.ref j),("needs",.ref l)]) x=some (.ins cR d [(("calling":Str),a),("script",c),("call",i),("begins",.ref j),("needs",.ref l)]):=zf;have w5:∀b o,b≠x->R b=some o->upd R x (.ins cR d [(("calling":Str),a),("script",c),("call",i),("begins",.ref j),("needs",.ref l)]) b=some o:=λb o z e=>by rw[upd_ne z];exact e
 generalize upd R x (.ins cR d [(("calling":Str),a),("script",c),("call",i),("begins",.ref j),("needs",.ref l)])=U at g5 w5⊢;intro ac r;have t:ac≠x:=λz=>by simp_all
 have t5:∀b o,U b=some o->upd U ac (.dT []) b=some o:=λb o e=>by rw[upd_ne (zn e r)];exact e
 have u5:upd U ac (.dT []) ac=some (.dT []):=zf;generalize upd U ac (.dT [])=N at t5 u5⊢;refine⟨x,cR,d,[(("calling":Str),a),("script",c),("call",i),("begins",.ref j),("needs",.ref l)],J,t5 _ _ g5,C.cls,n _ (by simp[aR]),(by simp),?_⟩;rw[show qv "came" (.ref ac) [(("calling":Str),a),("script",c),("call",i),("begins",.ref j),("needs",.ref l)]=[(("calling":Str),a),("script",c),("call",i),("begins",.ref j),("needs",.ref l),("came",.ref ac)] by rfl];have g6:upd N x (.ins cR d [(("calling":Str),a),("script",c),("call",i),("begins",.ref j),("needs",.ref l),("came",.ref ac)]) x=some (.ins cR d [(("calling":Str),a),("script",c),("call",i),("begins",.ref j),("needs",.ref l),("came",.ref ac)]):=zf;have w6:∀b o,b≠x->N b=some o->upd N x (.ins cR d [(("calling":Str),a),("script",c),("call",i),("begins",.ref j),("needs",.ref l),("came",.ref ac)]) b=some o:=λb o z e=>by rw[upd_ne z];exact e
 generalize upd N x (.ins cR d [(("calling":Str),a),("script",c),("call",i),("begins",.ref j),("needs",.ref l),("came",.ref ac)])=H6 at g6 w6⊢;have k3:=λb o z e=>w3 b o z (w2 b o z (w1 b o z e));have k4:=λb o z e=>L b o z (t3 b o e);have k5:=λb o z e=>w5 b o z (t4 b o e);have k6:=λb o z e=>w6 b o z (t5 b o e);have k:∀{b:Y}{G:Hp},b≠x->(∀b o,b≠x->H b=some o->G b=some o)->G b=none->H b=none:=λ{b G} z h e=>by cases q:H b with|none=>rfl|some o=>simp_all
 have ah:=k3;have v:=λb o z e=>k4 b o z (k3 b o z e);have u:=λb o z e=>k5 b o z (v b o z e);exact kk j l ac H6 (zn (k5 _ _ m (L _ _ m u3)) r) (k m ah B) (k p v y) (k t u r) (λb o z e=>k6 b o z (u b o z e)) g6 (k6 _ _ m (k5 _ _ m (L _ _ m u3))) (k6 _ _ p (w5 _ _ p u4)) (w6 _ _ t u5)
end
noncomputable def Zz:aD->V|.awa _ m=>.int m|_=>.non
inductive kM(vs:List V)(H:Hp)(Q:VK)(e0:XK):Prop|mk:∀(d:aD)(v tv:V),vs=[v,tv]->Is H (eD d) v->gH d->Q (Zz d) H->kM vs H Q e0
section
variable{K:W.Frag}
theorem LS:aA ["deed","tally"] ["deed","tally"] (zk xM):=.of
theorem Ln(D:aY K mg "need_of" xM):Ok P w K mg base "need_of" 1 ["deed","tally"] kM:=by
 refine qk D LS ?_;rintro f x A i s H y Q E F ⟨d,v,C,rfl,t,j,k⟩ X;refine⟨_,ze (yj (zu wt (zp zx (pv 0) zg) zo (yb _)) (zh (zt (zp zx (pv 0) zg))) zy) (ze (yj (zu wt (zp zx (pv 0) zg) zo (yb _)) wn zy) (zh (zt X9))),?_⟩
 obtain⟨r,o⟩:=Wm d;obtain⟨q,a,B,rfl,c,e,n⟩:=Is.at (i:=0) (o▸t) J;cases(n);refine⟨q,a,_,_,J,J,c,e,J,_,J,?_⟩;cases d with| awa b m=>refine y3 ?_;obtain⟨G,g,z,u,h,p,l⟩:=Is.at (i:=2) t J;cases u;cases(l);exact⟨q,g,_,_,J,J,h,p,k⟩|goo w=>exact j.elim|com w=>exact j.elim|lea w=>exact j.elim|_=>exact yy ⟨q,a,_,_,J,J,c,e,J,_,J,yy k⟩
end
theorem wm{a:Hp}(s:zi H a){l:Addr}(h:a l=none):H l=none:=by cases e:H l with|none=>rfl|some o=>rw[s l o e]at h;cases h
noncomputable abbrev Wt:Stmt:=aX 48
noncomputable abbrev xL:Stmt:=aX 58
noncomputable def Kh:aD->Option Str|.say x=>some x|_=>none
noncomputable def yz(s:yf):List Str:=s.filterMap Kh
theorem MW{s:yf}{d:aD}(h:s[i]?=some d):yz (s.take (i+1))=yz (s.take i)++(Kh d).toList:=by unfold yz;rw[de,h,List.filterMap_append];cases e:Kh d with|none=>simp[e]|some x=>simp[e]
theorem Ly(s:yf):(yz s).length<=s.length:=List.length_filterMap_le ..
inductive kJ(vs:List V)(H:Hp)(Q:VK)(e0:XK):Prop|mk:∀(v:V)(ds:yf),vs=[v]->Is H (eS ds) v->ds.length<=1000->(∀l H',zi H H'->H l=none->H' l=some (.lst ((yz ds).map V.str))->Q (.ref l) H')->kJ vs H Q e0
inductive nP(vs:List V)(H:Hp)(Q:VK)(e0:XK):Prop|mk:∀l n:Int,vs=[.int l,.int n]->Q (.bl (decide (n<=l))) H->nP vs H Q e0
section
variable{K:W.Frag}
theorem ML:aA ["deeds"] ["deeds"] (zk Wt):=.of
theorem Mx(D:aY K mg "said_in" Wt)(T:Txt K mg):Ok P w K mg base "said_in" 1 ["deeds"] kJ:=by
 refine qk D ML ?_;rintro f af A u s H vs Q E hr ⟨v,k,rfl,iv,hl,Z⟩ X;refine⟨_,zh (zt (kf (own:=["deed"]) (cap:=[]) J (we (zk Wt) J J (by decide+kernel) (by decide+kernel) (by decide+kernel) trivial) (Zk (pv 0)) (λ_ _ _ _=>ya (i:=0) (by show(["deed"]:List Str).Nodup;decide+kernel)) (λ_ _ _ _=>Yo (zu wt (zp (r:=dW K) zx (pv 0) zg (λ_ _=>rfl)) zo (yb _))) (λ_ _ _ _=>zp (r:=dW K) zx (pv 0) zg (λ_ _=>rfl)))),?_⟩
 obtain⟨a,W,rfl,N,hx⟩:=iv;have c:=hx.length;rw[ag]at c;refine⟨a,J,⟨W,aG.of N⟩,?_⟩;refine Wg (λi j m=>zi H m/\j=(yz (k.take i)).map V.str) ⟨zi.refl H,J⟩ (λi j m M ⟨b,e⟩=>⟨aG.of (b _ _ N),?_⟩) ?_ ?_;rw[e,ag];refine cr (Ly _) ?_;have:=List.length_take_le i k;rw[sizeLine_eq];omega;rintro i z j m L ⟨b,rfl⟩;have M:i<k.length:=by rw[<-c];exact(ci.mp L).1
 have S:=br M;obtain⟨t,R,g⟩:=hx.get' L;rw[bi,S]at R;cases R;have g:=g.mono b;rw[MW S];generalize k[i]=d at g⊢;obtain⟨r,C⟩:=Wm d;obtain⟨U,o,u5,rfl,q,G,B⟩:=Is.at (i:=0) (C▸g) J;cases(B);refine⟨U,o,_,_,J,J,q,G,J,_,J,?_⟩;cases d with| say x=>refine y3 ?_;obtain⟨a6,n,u6,e6,p,F,y⟩:=Is.at (i:=1) g J;cases e6;cases(y);exact⟨U,n,_,_,J,J,p,F,b,by rw[aq];rfl⟩|_=>exact yy ⟨b,by rw[show(Kh _).toList=[]from rfl,cm]⟩
 rintro j m ⟨b,rfl⟩ l h;rw[c,dg];exact Z l _ (b.trans (zi.new h _)) (wm b h) zf
theorem LB:aA ["level","need"] ["level","need"] (zk xL):=.of
end
section
variable{K:W.Frag}
theorem Lm(D:aY K mg "is_met" xL):Ok P w K mg base "is_met" 1 ["level","need"] nP:=by refine qk D LB ?_;rintro f b A a s H c Q E d ⟨l,n,rfl,k⟩ X;refine⟨_,zh (zt (zO (uT (sL (pv 0))) (Zl (jo Ep (pv 0) (pv 1) (yb _))))),?_⟩;exact⟨_,J,yy ⟨_,_,J,J,k⟩⟩
end
end My
namespace My
structure eA(A D:Type) where
 scr:A->List D
 bg:A->Nat->Option A
 ra:D->Option (Nat×Int)
 aw:D->Option (Nat×Int)
section
variable{A D:Type}[DecidableEq A]
noncomputable def yi(l:List (A×Nat))(h:A):Nat:=match l with|[]=>0|(g,n)::r=>if g=h then n else yi r h
noncomputable def ql(l:List (A×Nat))(h:A)(n:Nat):List (A×Nat):=match l with|[]=>[(h,n)]|(g,m)::r=>if g=h then(g,n)::r else(g,m)::ql r h n
noncomputable def zm(l:List (A×Nat)):List A:=l.map (·.1)
noncomputable def Vz(l:List (A×Nat)):Nat:=(l.map (·.2)).sum
theorem Jw{h:A}:∀{l:List (A×Nat)},h ∉ zm l->yi l h=0|[],_=>rfl| (g,m)::r,a=>by have c:g≠h:=λe=>a (by rw[<-e];exact bo);unfold yi;rw[if_neg c];exact Jw λb=>a (bn _ b)
theorem Wi{h:A}{n:Nat}:∀{l:List (A×Nat)},h∈zm l->zm (ql l h n)=zm l
 |[],a=>nomatch a
 | (g,m)::r,a=>by
   unfold ql;by_cases c:g=h;rw[if_pos c];rfl;rw[if_neg c];have:h∈zm r:=by
    rcases ak.mp a with e|e
    simp_all
    exact e
   show g::zm (ql r h n)=g::zm r;rw[Wi this]
theorem Qe{h:A}{n:Nat}:∀{l:List (A×Nat)},h ∉ zm l->ql l h n=l++[(h,n)]|[],_=>rfl| (g,m)::r,a=>by have c:g≠h:=λe=>a (by rw[<-e];exact bo);unfold ql;rw[if_neg c,Qe λb=>a (bn _ b)];rfl
theorem Yq{h:A}{n:Nat}(x:A):∀{l:List (A×Nat)},yi (ql l h n) x=if h=x then n else yi l x
 |[]=>by rfl
 | (g,m)::r=>by
   unfold ql;by_cases c:g=h;rw[if_pos c];subst c;unfold yi
   simp_all
   rw[if_neg c];unfold yi;by_cases e:g=x;rw[if_pos e,if_pos e,if_neg (λz=>c (e.trans z.symm))];rw[if_neg e,if_neg e];exact Yq x
theorem Bb{h:A}{n:Nat}:∀{l:List (A×Nat)},h∈zm l->Vz (ql l h n)+yi l h=Vz l+n
 |[],a=>nomatch a
 | (g,m)::r,a=>by
   unfold ql yi;by_cases c:g=h;rw[if_pos c,if_pos c];show(n+Vz r)+m=(m+Vz r)+n;omega;rw[if_neg c,if_neg c];have:h∈zm r:=by
    rcases ak.mp a with e|e
    simp_all
    exact e
   have q:=Bb (n:=n) this;show(m+Vz (ql r h n))+yi r h=(m+Vz r)+n;omega
theorem Lc{l:O (A×Nat)}{h:A}{n:Nat}:Vz (l++[(h,n)])=Vz l+n:=by unfold Vz;simp
theorem LJ{l:O (A×Nat)}{h:A}{n:Nat}:zm (l++[(h,n)])=zm l++[h]:=by unfold zm;simp
theorem IY{h:A}{n:Nat}(x:A){l:O (A×Nat)}(a:h ∉ zm l):yi (l++[(h,n)]) x=if h=x then n else yi l x:=by rw[<-Qe a];exact Yq x
theorem Ax{f:A->Nat}:∀{l:List (A×Nat)},(zm l).Nodup->(∀h∈zm l,yi l h<=f h)->Vz l<=((zm l).map f).sum
 |[],_,_=>aj _
 | (g,m)::r,d,c=>by
   have a:=cu.mp d;have i:yi ((g,m)::r) g=m:=by unfold yi;rw[if_pos J]
   have j:=c g bo;rw[i]at j;have k:=Ax a.2 λh b=>by have e:g≠h:=λz=>a.1 (by rw[z];exact b);have q:=c h (bn _ b);unfold yi at q;rw[if_neg e]at q;exact q
   show m+Vz r<=f g+((zm r).map f).sum;omega
theorem Kr{f:A->Nat}:∀{l a:List A},l.Nodup->(∀x∈l,x∈a)->(l.map f).sum<=(a.map f).sum
 |[],_,_,_=>bf _
 | x::r,a,c,d=>by
   have b:=cu.mp c;have hx:=d x bo;have q:(r.map f).sum<=((a.erase x).map f).sum:=Kr b.2 λy e=>by grind
   have p:=(List.perm_cons_erase hx).map f
   grind
noncomputable def Vj(l:List (Nat×List A))(b:Nat):List A:=match l with|[]=>[]|(c,F)::r=>if c=b then F else Vj r b
noncomputable def Xu(l:List (Nat×List A))(b:Nat):List (Nat×List A):=match l with|[]=>[]|(c,F)::r=>if c=b then r else(c,F)::Xu r b
noncomputable def Xv(l:List (Nat×List A))(b:Nat)(h:A):List (Nat×List A):=match l with|[]=>[(b,[h])]|(c,F)::r=>if c=b then(c,F++[h])::r else(c,F)::Xv r b h
noncomputable def Zj(l:List (Nat×List A)):Nat:=(l.map (·.2.length)).sum
def fu(l:List (Nat×List A))(p:A->Prop):Prop:=∀r∈l,∀h∈r.2,p h
theorem K0{b:Nat}:∀{l:List (Nat×List A)},Zj (Xu l b)+(Vj l b).length=Zj l|[]=>rfl| (c,a)::r=>by unfold Xu Vj;by_cases e:c=b;rw[if_pos e,if_pos e];show Zj r+a.length=a.length+Zj r;omega;rw[if_neg e,if_neg e];have q:=K0 (b:=b) (l:=r);show a.length+Zj (Xu r b)+_=a.length+Zj r;omega
theorem Ce{b:Nat}{h:A}:∀{l:List (Nat×List A)},Zj (Xv l b h)=Zj l+1
 |[]=>rfl
 | (c,a)::r=>by
   unfold Xv;by_cases e:c=b;rw[if_pos e];show(a++[h]).length+Zj r=a.length+Zj r+1
   grind
   rw[if_neg e];have q:=Ce (b:=b) (h:=h) (l:=r);show a.length+Zj (Xv r b h)=a.length+Zj r+1;omega
theorem B2{b:Nat}{p:A->Prop}:∀{l:List (Nat×List A)},fu l p->∀h∈Vj l b,p h|[],_,_,a=>nomatch a| (c,f)::r,d,h,a=>by unfold Vj at a;by_cases e:c=b;rw[if_pos e]at a;exact d _ bo h a;rw[if_neg e]at a;exact B2 (λx hx=>d x (bn _ hx)) h a
theorem B1{b:Nat}{p:A->Prop}:∀{l:List (Nat×List A)},fu l p->fu (Xu l b) p|[],a=>a| (c,f)::r,a=>by unfold Xu;by_cases e:c=b;rw[if_pos e];exact λx hx=>a x (bn _ hx);rw[if_neg e];intro x hx;rcases ak.mp hx with z|z;rw[z];exact a _ bo;exact B1 (λy d=>a y (bn _ d)) x z
theorem B0{b:Nat}{h:A}{p:A->Prop}(f:p h):∀{l:List (Nat×List A)},fu l p->fu (Xv l b h) p
 | [],_=>λx hx y a=>by
   rw[ai.mp hx]at a
   simp_all
 | (c,g)::r,d=>by
   unfold Xv;by_cases e:c=b;rw[if_pos e];intro x hx y a;rcases ak.mp hx with z|z;rw[z]at a;rcases ce.mp a with q|q;exact d _ bo y q
   simp_all
   exact d x (bn _ z) y a;rw[if_neg e];intro x hx;rcases ak.mp hx with z|z;rw[z];exact d _ bo;exact B0 f (λy a=>d y (bn _ a)) x z
structure WS(A:Type) where
 done:List (A×Nat)
 sums:List Int
 ready:List A
 wait:List (Nat×List A)
 stop:List A
 wov:List A
variable(M:eA A D)
noncomputable def jU(s:WS A)(h:A):Option D:=(M.scr h)[yi s.done h]?
noncomputable def jP(s:WS A)(h:A):Bool:=match jU M s h with|none=>false| some d=>match M.aw d with|none=>true|some (b,m)=>decide (m<=s.sums.getD b 0)
noncomputable def ml(l:List (A×Nat))(g:Option A):List (A×Nat):=match g with|none=>l|some g=>ql l g 0
noncomputable def qi(l:List Int)(r:Option (Nat×Int)):List Int:=match r with|none=>l|some (b,k)=>l.set b (l.getD b 0+k)
noncomputable def uC(s:WS A)(h:A):List (A×Nat):=ml (ql s.done h (yi s.done h+1)) (M.bg h (yi s.done h))
noncomputable def Z6(s:WS A)(r:Option (Nat×Int)):List A:=match r with|none=>[]|some (b,_)=>Vj s.wait b
noncomputable def Z9(s:WS A)(r:Option (Nat×Int)):List (Nat×List A):=match r with|none=>s.wait|some (b,_)=>Xu s.wait b
noncomputable def V5(s:WS A)(h:A)(d:D):WS A:={ done:=uC M s h,sums:=qi s.sums (M.ra d),ready:=s.ready++Z6 s (M.ra d)++[h]++(M.bg h (yi s.done h)).toList,wait:=Z9 s (M.ra d),stop:=s.stop,wov:=s.wov++[h]}
noncomputable def kr(held:A->Nat->Bool)(s:WS A)(h:A):WS A:=
 match jU M s h with
 |none=>if held h (yi s.done h)then{s with stop:=s.stop++[h]}else s
 | some d=>
   if held h (yi s.done h)then{s with stop:=s.stop++[h]}
   else if jP M s h then V5 M s h d
   else match M.aw d with
    |some (b,_)=>{s with wait:=Xv s.wait b h}
    |none=>s
structure Wv(all:List A)(s:WS A):Prop where
 nd:(zm s.done).Nodup
 sub:∀h∈zm s.done,h∈all
 rdy:∀h∈s.ready,h∈zm s.done
 wai:fu s.wait (· ∈zm s.done)
 low:∀h∈zm s.done,yi s.done h<=(M.scr h).length
 bgn:∀h g p,M.bg h p=some g->g∈zm s.done->h∈zm s.done/\p<yi s.done h
 len:s.ready.length+Zj s.wait+s.stop.length<=s.done.length
 wov:s.wov.length=Vz s.done
 cnt:∀h,s.wov.count h=yi s.done h
structure tQ(all:List A):Prop where
 inj:∀h p h' p' g,M.bg h p=some g->M.bg h' p'=some g->h=h'/\p=p'
 new:∀h p g,M.bg h p=some g->g∈all/\g≠h
 nd:all.Nodup
noncomputable def tot(F:List A):Nat:=(F.map λh=>(M.scr h).length).sum
theorem Wv.most{a:O A}{s:WS A}(W:Wv M a s):s.wov.length<=tot M a:=by rw[W.wov];exact cr (Ax W.nd W.low) (Kr W.nd W.sub)
theorem vB{b:O A}{s:WS A}(W:Wv M b s):s.done.length<=b.length:=by
 have q:=Kr (f:=λ_=>1) W.nd W.sub;have e:∀l:O A,(l.map λ_=>1).sum=l.length:=λl=>by induction l with|nil=>rfl|cons a r c=>grind
 rw[e,e]at q;unfold zm at q
 simp_all
noncomputable def Jm(F:List A)(s:WS A):Nat:=(tot M F-s.wov.length)*(F.length+1)+s.ready.length
theorem Qm{l:O (A×Nat)}:(zm l).length=l.length:=ag ..
variable{M}
theorem Wv.pop{a:O A}{s:WS A}(W:Wv M a s){r:O A}{h:A}(c:s.ready=r++[h]):Wv M a {s with ready:=r}/\h∈zm s.done/\r.length+Zj s.wait+s.stop.length+1<=s.done.length:=by
 have b:=W.len;rw[c,az]at b;have d:r.length+1+Zj s.wait+s.stop.length<=s.done.length:=b;refine⟨⟨W.nd,W.sub,λx hx=>W.rdy x (by simp_all),W.wai,W.low,W.bgn,?_,W.wov,W.cnt⟩,W.rdy h (by simp_all),by omega⟩
 grind
theorem L9(l:O A)(h x:A):(l++[h]).count x=l.count x+if h=x then 1 else 0:=by grind
theorem Wv.step{f:List A}{s:WS A}(P:tQ M f)(W:Wv M f s){h:A}{d:D}(hk:h∈zm s.done)(Q:s.ready.length+Zj s.wait+s.stop.length+1<=s.done.length)(w:jU M s h=some d):Wv M f (V5 M s h d):=by
 have N:=(ci.mp w).1;have b:zm (ql s.done h (yi s.done h+1))=zm s.done:=Wi hk;have K:(ql s.done h (yi s.done h+1)).length=s.done.length:=by rw[<-Qm,b,Qm]
 have H:=Bb (n:=yi s.done h+1) hk;have F:(Z6 s (M.ra d)).length+Zj (Z9 s (M.ra d))=Zj s.wait:=by
  cases M.ra d with
  |none=>exact Nat.zero_add _
  |some p=>have:=K0 (b:=p.1) (l:=s.wait);show(Vj s.wait p.1).length+Zj (Xu s.wait p.1)=_;omega
 have G:∀x∈Z6 s (M.ra d),x∈zm s.done:=by
  cases M.ra d with
  |none=>exact λx hx=>nomatch hx
  |some p=>exact λx hx=>B2 W.wai x hx
 have o:fu (Z9 s (M.ra d)) (· ∈zm s.done):=by
  cases M.ra d with
  |none=>exact W.wai
  |some p=>exact B1 W.wai
 have E:∀x,(s.wov++[h]).count x=yi (ql s.done h (yi s.done h+1)) x:=λx=>by
  rw[L9,Yq,W.cnt]
  grind
 have t:(s.wov++[h]).length=Vz (ql s.done h (yi s.done h+1)):=by
  rw[az,W.wov]
  grind
 cases l:M.bg h (yi s.done h)with
 | none=>
   have e:V5 M s h d={done:=ql s.done h (yi s.done h+1),sums:=qi s.sums (M.ra d),ready:=s.ready++Z6 s (M.ra d)++[h]++[],wait:=Z9 s (M.ra d),stop:=s.stop,wov:=s.wov++[h]}:=by unfold V5 uC;rw[l];rfl
   rw[e];refine⟨?_,?_,?_,?_,?_,?_,?_,t,E⟩;rw[b];exact W.nd;rw[b];exact W.sub;rw[b,cm];intro x hx;rcases ce.mp hx with q|q;rcases ce.mp q with q|q;exact W.rdy x q
   simp_all
   simp_all
   simp_all
   rw[b];intro x hx;rw[Yq];by_cases c:h=x
   grind
   rw[if_neg c];exact W.low x hx;rw[b];intro x g p k j;obtain⟨n,u⟩:=W.bgn x g p k j;refine⟨n,?_⟩;rw[Yq]
   grind
   grind
 | some g=>
   have B:=λj=>dc _ (W.bgn h g _ l j).2;have m:g ∉ zm (ql s.done h (yi s.done h+1)):=by simp_all
   obtain⟨R,C⟩:=P.new h _ g l;have e:V5 M s h d={done:=ql s.done h (yi s.done h+1)++[(g,0)],sums:=qi s.sums (M.ra d),ready:=s.ready++Z6 s (M.ra d)++[h]++[g],wait:=Z9 s (M.ra d),stop:=s.stop,wov:=s.wov++[h]}:=by unfold V5 uC;rw[l];show({done:=ql (ql s.done h (yi s.done h+1)) g 0,..}:WS A)=_;rw[Qe m];rfl
   rw[e];have i:zm (ql s.done h (yi s.done h+1)++[(g,0)])=zm s.done++[g]:=by rw[LJ,b]
   have g0:=Jw B;have a:∀x,yi (ql s.done h (yi s.done h+1)++[(g,0)]) x=yi (ql s.done h (yi s.done h+1)) x:=λx=>by rw[IY x m];by_cases c:g=x;subst c;rw[if_pos J,Yq,if_neg (λz=>C z.symm),g0];rw[if_neg c]
   have inl:∀x∈zm s.done,x∈zm s.done++[g]:=λx hx=>fb _ hx;refine⟨?_,?_,?_,?_,?_,?_,?_,?_,λx=>?_⟩;rw[i];refine List.nodup_append.mpr ⟨W.nd,by simp,λx hx y L z=>?_⟩
   simp_all
   rw[i];intro x hx;rcases ce.mp hx with q|q;exact W.sub x q
   simp_all
   rw[i];intro x hx;rcases ce.mp hx with q|q;rcases ce.mp q with q|q;rcases ce.mp q with q|q;exact inl x (W.rdy x q)
   simp_all
   simp_all
   simp_all
   rw[i];exact λr v x hx=>inl x (o r v x hx);rw[i];intro x hx;rw[a,Yq];by_cases c:h=x
   grind
   rw[if_neg c];rcases ce.mp hx with q|q;exact W.low x q
   simp_all
   rw[i];intro x y p k j;rw[a,Yq];rcases ce.mp j with q|q;obtain⟨n,u⟩:=W.bgn x y p k q
   grind
   rw[ai.mp q]at k;obtain⟨U,S⟩:=P.inj x p h _ g k l
   simp_all
   grind
   rw[Lc];omega
   simp_all
theorem Wv.turn{a:List A}{held:A->Nat->Bool}{s:WS A}(P:tQ M a)(W:Wv M a s){r:List A}{h:A}(o:s.ready=r++[h]):Wv M a (kr M held {s with ready:=r} h)/\Jm M a (kr M held {s with ready:=r} h)<Jm M a s:=by
 obtain⟨b,hk,t⟩:=W.pop o;have u:s.ready.length=r.length+1:=by simp_all
 have e:∀f:WS A,f.wov=s.wov->f.ready=r->Jm M a f<Jm M a s:=λf z y=>by unfold Jm;simp_all
 have B:Wv M a {s with ready:=r,stop:=s.stop++[h]}:=⟨b.nd,b.sub,b.rdy,b.wai,b.low,b.bgn,by grind,b.wov,b.cnt⟩
 unfold kr;cases q:jU M {s with ready:=r} h with
 | none=>grind
 | some d=>
   show Wv M a (if held h (yi s.done h)then _ else _)/\Jm M a (if held h (yi s.done h)then _ else _)<_;by_cases c:held h (yi s.done h)=true
   simp_all
   rw[if_neg c];by_cases l:jP M {s with ready:=r} h=true;rw[if_pos l];have g:=b.step P hk t q;refine⟨g,?_⟩;have n:=g.most;have w:=vB M g;have v:=g.len;have m:(V5 M {s with ready:=r} h d).wov.length=s.wov.length+1:=by show(s.wov++[h]).length=_;simp
   unfold Jm;rw[m]at n⊢;obtain⟨k,j⟩:∃k,tot M a-s.wov.length=k+1:=⟨tot M a-s.wov.length-1,by omega⟩
   have i:tot M a-(s.wov.length+1)=k:=by omega
   rw[j,i,Nat.add_mul];omega;rw[if_neg l];cases x:M.aw d with
   |none=>simp_all
   | some p=>refine⟨⟨b.nd,b.sub,b.rdy,B0 hk b.wai,b.low,b.bgn,?_,b.wov,b.cnt⟩,e _ J J⟩;show r.length+Zj (Xv s.wait p.1 h)+s.stop.length<=s.done.length;rw[Ce];omega
end
end My
namespace My
variable{g l:List Nat}{f j p:Nat}
section
variable{D:Type}(kd:D->Option Nat)(ss:List (List D))
noncomputable def wj(s:List D):List Nat:=s.filterMap kd
noncomputable def jx(s:List D)(p:Nat):Nat:=(wj kd (s.take p)).length
noncomputable def hands:Nat->List Nat->Nat->List (List Nat×Nat)|0,_,_=>[]|f+1,h,i=>(h,i)::((wj kd (ss.getD i [])).zipIdx.flatMap λq=>hands f (h++[q.2]) q.1)
noncomputable def qc(f:Nat)(F:List Nat):List (List Nat×Nat):=F.zipIdx.flatMap λq=>hands kd ss f [q.2] q.1
variable{kd ss}
theorem W4:∀{f:Nat}{h:List Nat}{i:Nat}{g:List Nat},g∈zm (hands kd ss f h i)->∃t,g=h++t|0,_,_,_,b=>nomatch b| f+1,h,i,g,b=>by obtain⟨x,hx,rfl⟩:=bz.mp b;rcases ak.mp hx with e|e;exact⟨[],by rw[e,cm]⟩;obtain⟨q,d,a⟩:=List.mem_flatMap.mp e;obtain⟨t,c⟩:=W4 (List.mem_map_of_mem a);exact⟨q.2::t,by rw[c,List.append_assoc];rfl⟩
theorem Vx{i:Type}{h:List Nat}{F:i×Nat->List (List Nat×Nat)}(m:∀q,(zm (F q)).Nodup)(d:∀q g,g∈zm (F q)->∃t,g=h++q.2::t):∀(l:List i)(n:Nat),(zm ((l.zipIdx n).flatMap F)).Nodup/\∀g∈zm ((l.zipIdx n).flatMap F),∃k t,n<=k/\g=h++k::t
 |[],n=>⟨List.nodup_nil,λg f=>nomatch f⟩
 | a::r,n=>by
   obtain⟨s,j⟩:=Vx m d r (n+1);have e:zm (((a::r).zipIdx n).flatMap F)=zm (F (a,n))++zm ((r.zipIdx (n+1)).flatMap F):=by rw[List.zipIdx_cons,List.flatMap_cons];exact aq ..
   rw[e];refine⟨List.nodup_append.mpr ⟨m _,s,λx hx y u z=>?_⟩,λg f=>?_⟩;obtain⟨t,b⟩:=d _ _ hx;obtain⟨k,v,hk,c⟩:=j y u;rw[z,c]at b;have q:=List.append_cancel_left b;injection q with p w;have o:k=n:=p;omega;rcases ce.mp f with q|q;obtain⟨t,b⟩:=d _ _ q;exact⟨n,t,aj _,b⟩;obtain⟨k,t,hk,b⟩:=j g q;exact⟨k,t,by omega,b⟩
theorem Ka:∀(f:Nat)(h:List Nat)(i:Nat),(zm (hands kd ss f h i)).Nodup
 |0,_,_=>List.nodup_nil
 | f+1,h,i=>by
   obtain⟨e,d⟩:=Vx (h:=h) (F:=λq:Nat×Nat=>hands kd ss f (h++[q.2]) q.1) (λq=>Ka f _ _) (λq g c=>by obtain⟨t,a⟩:=W4 c;exact⟨t,by rw[a,List.append_assoc];rfl⟩) (wj kd (ss.getD i [])) 0
   refine cu.mpr ⟨λb=>?_,e⟩;obtain⟨k,t,_,a⟩:=d h b;have q:=congrArg List.length a;rw[az,dj]at q;omega
theorem Xe(f:Nat)(a:O Nat):(zm (qc kd ss f a)).Nodup:=(Vx (h:=[]) (F:=λq:Nat×Nat=>hands kd ss f [q.2] q.1) (λq=>Ka f _ _) (λq g c=>by obtain⟨t,b⟩:=W4 c;exact⟨t,b⟩) a 0).1
def sQ(kd:D->Option Nat)(ss:List (List D)):Prop:=∀(i:Nat) s,ss[i]?=some s->∀d∈s,∀j,kd d=some j->i<j/\j<ss.length
theorem Be:∀{s:List D}{p:Nat}{d:D}{j:Nat},s[p]?=some d->kd d=some j->(wj kd s)[jx kd s p]?=some j|[],p,d,j,h,_=>by rw[List.getElem?_nil]at h;cases h| a::r,0,d,j,h,c=>by rw[List.getElem?_cons_zero]at h;cases h;show(List.filterMap kd (a::r))[0]?=some j;rw[List.filterMap_cons,c];rfl| a::r,p+1,d,j,h,c=>by rw[List.getElem?_cons_succ]at h;have b:=Be h c;unfold jx wj at b⊢;rw[List.take_succ_cons,List.filterMap_cons,List.filterMap_cons];cases kd a with|none=>exact b|some x=>exact b
theorem vO:∀{s:List D}{p b:Nat}{d:D}{j:Nat},s[p]?=some d->kd d=some j->p<b->jx kd s p<jx kd s b|[],p,b,d,j,h,_,_=>by rw[List.getElem?_nil]at h;cases h| a::r,0,b+1,d,j,h,e,_=>by rw[List.getElem?_cons_zero]at h;cases h;unfold jx wj;rw[List.take_succ_cons,List.filterMap_cons,e];show 0<_+1;omega| a::r,p+1,b+1,d,j,h,e,f=>by rw[List.getElem?_cons_succ]at h;have c:=vO h e (Nat.lt_of_succ_lt_succ f);unfold jx wj at c⊢;rw[List.take_succ_cons,List.take_succ_cons,List.filterMap_cons,List.filterMap_cons];cases kd a with|none=>exact c|some x=>exact Nat.succ_lt_succ c
theorem IM{s:O D}{a:Nat}{d d':D}{f:Nat}(h:s[p]?=some d)(g:kd d=some j)(h':s[a]?=some d')(b:kd d'=some f)(e:jx kd s p=jx kd s a):p=a:=by rcases Nat.lt_trichotomy p a with c|c|c;have:=vO h g c;omega;exact c;have:=vO h' b c;omega
theorem vJ{i:Nat}{d:D}(h:(ss.getD i [])[p]?=some d):ss[i]?=some (ss.getD i []):=by rw[di]at h⊢;cases c:ss[i]? with|none=>rw[c]at h;cases h|some s=>rfl
theorem F0{k:Nat}(h:l[k]?=some j):(j,k)∈l.zipIdx:=by refine List.mem_iff_getElem?.mpr ⟨k,?_⟩;rw[List.getElem?_zipIdx,h,Nat.zero_add];rfl
theorem Kb(L:sQ kd ss):∀{f:Nat}{h:List Nat}{i:Nat},ss.length-i<=f->∀{g:List Nat}{j:Nat},(g,j)∈hands kd ss f h i->∀{p:Nat}{d:D}{x:Nat},(ss.getD j [])[p]?=some d->kd d=some x->(g++[jx kd (ss.getD j []) p],x)∈hands kd ss f h i
 |0,_,_,_,_,_,l,_,_,_,_,_=>nomatch l
 | f+1,h,i,v,g,j,l,p,d,x,b,hx=>by
   rcases ak.mp l with e|e;cases e;have r:=F0 (Be b hx);have s:=L i _ (vJ b) d (bq b) x hx;refine bn _ (List.mem_flatMap.mpr ⟨_,r,?_⟩);obtain⟨o,rfl⟩:∃o,f=o+1:=⟨f-1,by omega⟩
   exact bo;obtain⟨q,n,k⟩:=List.mem_flatMap.mp e;refine bn _ (List.mem_flatMap.mpr ⟨q,n,?_⟩);have hk:q.1∈wj kd (ss.getD i []):=by have:=List.fst_mem_of_mem_zipIdx n;exact this
   obtain⟨t,a,m⟩:=List.mem_filterMap.mp hk;obtain⟨u,c⟩:=List.mem_iff_getElem?.mp a;have s:=L i _ (vJ c) t a q.1 m;exact Kb L (by omega) k b hx
theorem MB(L:sQ kd ss){b:O Nat}(i:ss.length<=f)(e:(g,j)∈qc kd ss f b){d:D}{x:Nat}(h:(ss.getD j [])[p]?=some d)(hx:kd d=some x):(g++[jx kd (ss.getD j []) p],x)∈qc kd ss f b:=by obtain⟨q,c,a⟩:=List.mem_flatMap.mp e;exact List.mem_flatMap.mpr ⟨q,c,Kb L (by omega) a h hx⟩
theorem By{A:Type}[DecidableEq A]{h:A}:∀{l:List (A×Nat)},h∈zm l->(h,yi l h)∈l|[],a=>nomatch a| (g,m)::r,a=>by unfold yi;by_cases c:g=h;rw[if_pos c,c];exact bo;rw[if_neg c];rcases ak.mp a with e|e;exact absurd e.symm c;exact bn _ (By e)
noncomputable def Jl(kd:D->Option Nat)(F U:D->Option (Nat×Int))(ss:List (List D))(R:List (List Nat×Nat)):eA (List Nat) D where
 scr:=λh=>if h∈zm R then ss.getD (yi R h) []else[]
 bg:=λh p=>if h∈zm R then(((ss.getD (yi R h) [])[p]?).bind kd).map λ_=>h++[jx kd (ss.getD (yi R h) []) p]else none
 ra:=F
 aw:=U
theorem Q0{i k:D->Option (Nat×Int)}{R:List (List Nat×Nat)}{h:List Nat}(j:(Jl kd i k ss R).bg h p=some g):h∈zm R/\∃d x,(ss.getD (yi R h) [])[p]?=some d/\kd d=some x/\g=h++[jx kd (ss.getD (yi R h) []) p]:=by
 have a:(if h∈zm R then(((ss.getD (yi R h) [])[p]?).bind kd).map λ_=>h++[jx kd (ss.getD (yi R h) []) p]else none)=some g:=j;by_cases c:h∈zm R;rw[if_pos c]at a;refine⟨c,?_⟩;cases e:(ss.getD (yi R h) [])[p]? with|none=>rw[e]at a;cases a| some d=>rw[e]at a;have b:(kd d).map (λ_=>h++[jx kd (ss.getD (yi R h) []) p])=some g:=a;cases f:kd d with|none=>rw[f]at b;cases b| some x=>rw[f]at b;cases b;exact⟨d,x,J,f,J⟩
 rw[if_neg c]at a;cases a
theorem AZ(L:sQ kd ss){m u:D->Option (Nat×Int)}{k:O Nat}(t:ss.length<=f):tQ (Jl kd m u ss (qc kd ss f k)) (zm (qc kd ss f k)) where
 nd:=Xe f k
 inj:=λh p y w g j i=>by obtain⟨_,d,x,c,hx,e⟩:=Q0 j;obtain⟨_,A,v,b,a,l⟩:=Q0 i;rw[e]at l;have q:=List.append_inj' l J;have r:=q.1;subst r;have o:=q.2;injection o with n _;exact⟨J,IM c hx b a n⟩
 new:=λh p g j=>by obtain⟨s,d,x,c,hx,e⟩:=Q0 j;refine⟨?_,λz=>?_⟩;rw[e];exact List.mem_map_of_mem (f:=Prod.fst) (MB L t (By s) c hx);have q:=congrArg List.length (e.symm.trans z);rw[az,List.length_singleton]at q;omega
end
end My
namespace My
section
variable{D:Type}{kd:D->Option Nat}{ss:List (List D)}
noncomputable def kE(kd:D->Option Nat)(g:Nat->Nat×Nat)(a:Nat×Nat)(d:D):Nat×Nat:=match kd d with|some j=>(a.1+(g j).1,a.2+(g j).2)|none=>a
noncomputable def Yu(kd:D->Option Nat)(ss:List (List D)):Nat->Nat->Nat×Nat|0,_=>(0,0)|f+1,i=>(ss.getD i []).foldl (kE kd (Yu kd ss f)) (1,(ss.getD i []).length)
noncomputable def Vb(ss:List (List D))(l:List (List Nat×Nat)):Nat:=(l.map λr=>(ss.getD r.2 []).length).sum
theorem W6(g:Nat->Nat×Nat):∀(l:List D)(a:Nat×Nat),l.foldl (kE kd g) a=(a.1+((wj kd l).map λj=>(g j).1).sum,a.2+((wj kd l).map λj=>(g j).2).sum)|[],a=>rfl| d ::r,a=>by rw[List.foldl_cons,W6 g r];unfold kE wj;rw[List.filterMap_cons];cases kd d with|none=>rfl| some j=>rw[c8,c8,List.sum_cons,List.sum_cons,<-Nat.add_assoc,<-Nat.add_assoc]
theorem Ip(l m:O (O Nat×Nat)):Vb ss (l++m)=Vb ss l+Vb ss m:=by unfold Vb;rw[aq,List.sum_append]
theorem xA{F:Nat×Nat->List (List Nat×Nat)}{g:Nat->Nat×Nat}(h:∀q,((F q).length,Vb ss (F q))=g q.1):∀(l:List Nat)(n:Nat),((l.zipIdx n).flatMap F).length=(l.map λj=>(g j).1).sum/\Vb ss ((l.zipIdx n).flatMap F)=(l.map λj=>(g j).2).sum|[],_=>⟨J,J⟩| j::r,n=>by obtain⟨d,c⟩:=xA h r (n+1);have q:=h (j,n);have b:=congrArg Prod.fst q;have a:=congrArg Prod.snd q;rw[List.zipIdx_cons,List.flatMap_cons,c8,c8,List.sum_cons,List.sum_cons,az,Ip,d,c];exact⟨congrArg (· +_) b,congrArg (· +_) a⟩
theorem CK:∀(f:Nat)(h:List Nat)(i:Nat),((hands kd ss f h i).length,Vb ss (hands kd ss f h i))=Yu kd ss f i|0,_,_=>rfl| f+1,h,i=>by obtain⟨b,a⟩:=xA (λq=>CK f _ _) (wj kd (ss.getD i [])) 0;have e:hands kd ss (f+1) h i=(h,i)::((wj kd (ss.getD i [])).zipIdx.flatMap λq=>hands kd ss f (h++[q.2]) q.1):=rfl;have c:Yu kd ss (f+1) i=(ss.getD i []).foldl (kE kd (Yu kd ss f)) (1,(ss.getD i []).length):=rfl;rw[e,c,W6,<-b,<-a,dj,Nat.add_comm];rfl
theorem JF(f:Nat)(a:O Nat):(qc kd ss f a).length=(a.map λj=>(Yu kd ss f j).1).sum/\Vb ss (qc kd ss f a)=(a.map λj=>(Yu kd ss f j).2).sum:=xA (λq=>CK f _ _) a 0
theorem BU{d i:D->Option (Nat×Int)}{R:List (List Nat×Nat)}(k:(zm R).Nodup):tot (Jl kd d i ss R) (zm R)=Vb ss R:=by
 have c:∀(l:List (List Nat×Nat)),(∀r∈l,r.1∈zm R/\yi R r.1=r.2)->((zm l).map λh=>((Jl kd d i ss R).scr h).length).sum=Vb ss l:=by
  intro l;induction l with|nil=>exact λ_=>rfl| cons a r f=>
    intro j;obtain⟨o,n⟩:=j a bo;have e:(Jl kd d i ss R).scr a.1=ss.getD a.2 []:=by show(if a.1∈zm R then ss.getD (yi R a.1) []else[])=_;rw[if_pos o,n]
    show(List.map _ (a.1::zm r)).sum=(List.map _ (a::r)).sum;rw[c8,c8,List.sum_cons,List.sum_cons,e];exact congrArg _ (f λx hx=>j x (bn _ hx))
 refine c R λr g=>⟨List.mem_map_of_mem g,?_⟩
 clear c;induction R with|nil=>nomatch g| cons a l f=>have b:=cu.mp k;show(if a.1=r.1 then a.2 else yi l r.1)=r.2;rcases ak.mp g with e|e;rw[e,if_pos J];have m:r.1∈zm l:=List.mem_map_of_mem e;rw[if_neg (λz=>b.1 (by show a.1∈_;rw[z];exact m))];exact f b.2 e
noncomputable def qQ(F:List (List Nat))(U:List Int):WS (List Nat):={done:=F.map λh=>(h,0),sums:=U,ready:=F,wait:=[],stop:=[],wov:=[]}
theorem Iw{M:eA (List Nat) D}{d F:List (List Nat)}{b:List Int}(e:F.Nodup)(sub:∀h∈F,h∈d)(i:∀h p g,M.bg h p=some g->g ∉ F):Wv M d (qQ F b):=by
 have k:zm (qQ F b).done=F:=by show(F.map λh=>(h,0)).map (·.1)=F;rw[bv];exact List.map_id F
 have z:∀h,yi (qQ F b).done h=0:=λh=>by clear k e sub i;induction F with|nil=>rfl| cons a r f=>show(if a=h then 0 else _)=0;by_cases c:a=h;rw[if_pos c];rw[if_neg c];exact f
 refine⟨by rw[k];exact e,by rw[k];exact sub,by rw[k];exact λ_ h=>h,λr l=>(nomatch l),λh _=>by rw[z];exact bf _,λh g p m j=>absurd (by rw[k]at j;exact j) (i h p g m),?_,?_,λh=>by rw[z];rfl⟩;show F.length+0+0<=(F.map _).length;rw[ag];exact aj _;show 0=Vz (F.map λh=>(h,0));clear k z e sub i;induction F with|nil=>rfl|cons a r f=>show 0=0+Vz (r.map λh=>(h,0));rw[<-f]
end
end My
namespace My
open PySem PySem.Spec PyProof.Rows L2
noncomputable def aH:aD->Option Nat|.beg j _=>some j|_=>none
noncomputable def cK:aD->Option (Nat×Int)|.rai b k=>some (b.toNat,k)|_=>none
noncomputable def tO:aD->Option (Nat×Int)|.awa b m=>some (b.toNat,m)|_=>none
theorem Lb(g:Nat->Nat×Nat)(a:Nat×Nat)(d:aD):stp g a d=kE aH g a d:=by cases d<;>rfl
theorem Cn(ss:List yf):∀f i,ll ss f i=Yu aH ss f i|0,_=>rfl| f+1,i=>by have e:=funext λj=>Cn ss f j;have b:stp (Yu aH ss f)=kE aH (Yu aH ss f):=funext λa=>funext λd=>Lb _ a d;show(ss.getD i []).foldl (stp (ll ss f)) _=(ss.getD i []).foldl (kE aH (Yu aH ss f)) _;rw[e,b]
theorem Bf{ss:List yf}(L:Kf ss):sQ aH ss:=λi s c d e j a=>by cases d with| beg k b=>obtain rfl:k=j:=Option.some.inj a;exact L i s c k b e|_=>cases a
noncomputable def Of(ss:List yf)(R:List (List Nat×Nat)):eA (List Nat) aD:=Jl aH cK tO ss R
noncomputable def hZ(h:List Nat):List Int:=h.map Int.ofNat
theorem Zp:∀{a b:List Nat},hZ a=hZ b->a=b|[],[],_=>rfl|[],_::_,e=>by cases e|_::_,[],e=>by cases e| x::g,y::f,e=>by injection e with d c;rw[Int.ofNat.inj d,Zp c]
end My
namespace L2
open PySem PySem.Spec PyProof.Rows
def Bt(M:List Addr)(H F:Hp):Prop:=∀b o,b ∉ M->H b=some o->F b=some o
section
variable{M N:List Addr}{H H1 H2 H0:Hp}{p:Addr}{o:HO}
theorem Bt.refl:Bt M H H:=λ_ _ _ e=>e
theorem Bt.trans(a:Bt M H H1)(b:Bt M H1 H2):Bt M H H2:=λc u n e=>b c u n (a c u n e)
theorem Bt.mono(a:Bt M H H1)(s:∀x∈M,x∈N):Bt N H H1:=λc u n e=>a c u (λz=>n (s c z)) e
theorem zi.bt(s:zi H H1):Bt M H H1:=λc u _ e=>s c u e
theorem Bt.upd(h:p∈M):Bt M H (upd H p o):=λc u n e=>by rw[upd_ne (λz=>n (by rw[z];exact h))];exact e
theorem Bt.same(a:Bt M H H1)(s:zi H0 H)(n:∀x∈M,H0 x=none):zi H0 H1:=λb u e=>a b u (λz=>by rw[n b z]at e;cases e) (s b u e)
theorem Bt.tups(a:Bt M H H1)(n:∀x∈M,∀xs,H x≠some (.tup xs)):yo H H1:=λb xs e=>a b _ (λz=>n b z xs e) e
end
end L2
namespace My
open PySem PySem.Spec PyProof.Rows L2
variable{C:Addr}{es:List Expr}{N ps:List Str}{P:Program}{sp:Sp}{st:Stmt}{mg:Str->Option Value}
section
variable{X:Cx}{m x:Str}{k:Nat}{p apos aE:Pos}{o e:Expr}{ta:TE}{t:TA}
theorem kc{d:Sem Bool}(h:cC X.prog X.w X.K X.mg X.base C m k ps sp)(c:gp X.K C)(i:aP k X.A)(he:PE X o ta)(n:PA X (e::es) t)(a:starEach (e::es) X.env=(false,eval e X.env)::starEach es X.env:=by rfl) (b:(backTo aE (starEach es X.env)).any (·.1)=false:=by rfl)
  (g:eval (.Call (.Attribute o m apos) (e::es) [] aE) X.env=(do
   let ov<-eval o X.env
   standAt apos.atName
   let(f,first)<-holding [ov] (getMethod ov m d)
   callWith aE f first (backTo aE (starEach (e::es) X.env)) (backToKw aE (keywordEach [] X.env))):=by rfl):
  PE X (.Call (.Attribute o m apos) (e::es) [] aE) (si C m sp [] E0 ta t):=by obtain⟨f,p,F,l,j⟩:=h;exact Hr he c j F i l .nil rZ n a b g
theorem Ku{a:Sem Bool}(h:cC X.prog X.w X.K X.mg X.base C m k ps sp)(c:gp X.K C)(d:aP k X.A)(he:PE X o ta)(b:eval (.Call (.Attribute o m apos) [] [] aE) X.env=(do
   let ov<-eval o X.env
   standAt apos.atName
   let(f,first)<-holding [ov] (getMethod ov m a)
   callWith aE f first (backTo aE (starEach [] X.env)) (backToKw aE (keywordEach [] X.env))):=by rfl):
  PE X (.Call (.Attribute o m apos) [] [] aE) (si C m sp [] E0 ta ln):=by obtain⟨f,i,F,g,e⟩:=h;exact JB he c e F d g .nil rZ b
theorem qO(h:gj X.prog X.w X.K X.mg X.base x C k ps sp)(c:aP (k+1) X.A)(j:PA X (e::es) t)(g:Gl X x:=by rfl)(b:(x==("__debug__":Str))=false:=by decide)
  (he:starEach (e::es) X.env=(false,eval e X.env)::starEach es X.env:=by rfl) (a:(backTo aE (starEach es X.env)).any (·.1)=false:=by rfl):
  PE X (.Call (.Name x p) (e::es) [] aE) (zU C sp [] E0 t):=by obtain⟨f,l,F,i,M,d⟩:=h;exact Hq M F c g d i .nil rZ j b he a
end
section
variable{w:World}{K:W.Frag}{base:Heap}
theorem Yp{m q:Str}{k:Nat}(D:jz K C m q st)(S:aA N ps (zk st))(a:∀(f:Y)(cdv:I)(A:Around)(outer:O Env)(s:Shared)(H:Hp)(vs:O V)(Q:VK)(E:XK),aP k (A.deeper (envOfC q (zk st) s.heap.objs.size f cdv))->sp vs H Q E-> let X:=(Xl fZ P w K mg base N q (zk st) f cdv A outer s H E).nox;∃t,dZ X (xj st) t/\t (.of Q) (start N vs) H) (c:∀vs H Q E,sp vs H Q E->vs.length=ps.length:=by intro _ _ _ _ h;cases h;subst_vars;rfl) (j:autoParam (∀(kV d e:I)(o:Option Y)(cdv n:I)(b:O I),b.length=ps.length->bindArgs (W.fnOf m q (jr st) (xj st) (zk st) .none kV d e o cdv n) ⟨b,[]⟩=pure (ps.zip b)) tP._auto_1):cC P w K mg base C m (k+1) ps sp:=by obtain⟨f,l,F,i⟩:=D;exact⟨f,l,F.ok S c (λcdv A outer s H vs Q E g h=>a f cdv A outer s H vs Q E g h),F.binds j,i⟩
theorem sr{x q:Str}{k:Nat}(D:my K mg x q C st)(S:aA N ps (zk st))(a:∀(f:Y)(cdv:I)(A:Around)(outer:O Env)(s:Shared)(H:Hp)(vs:O V)(Q:VK)(E:XK),aP k (A.deeper (envOfC q (zk st) s.heap.objs.size f cdv))->sp vs H Q E-> let X:=(Xl fZ P w K mg base N q (zk st) f cdv A outer s H E).nox;∃t,dZ X (xj st) t/\t (.of Q) (start N vs) H) (c:∀vs H Q E,sp vs H Q E->vs.length=ps.length:=by intro _ _ _ _ h;cases h;subst_vars;rfl) (j:autoParam (∀(kV d e:I)(n:Option Y)(cdv m:I)(b:O I),b.length=ps.length->bindArgs (W.fnOf "__init__" q (jr st) (xj st) (zk st) .none kV d e n cdv m) ⟨b,[]⟩=pure (ps.zip b)) tP._auto_1):gj P w K mg base x C (k+1) ps sp:=by obtain⟨f,l,F,i,hx⟩:=D;exact⟨f,l,F.ok S c (λcdv A outer s H vs Q E g h=>a f cdv A outer s H vs Q E g h),F.binds j,i,hx⟩
end
end My
namespace L2
open PySem PySem.Spec PyProof.Rows
theorem LZ{X:Cx}:Zg X (.type "dict") (λxs H Q=>∃a kvs,xs=[V.ref a]/\H a=some (.dK kvs)/\∀p,H p=none->Q (.ref p) (upd H p (.dK kvs))):=by intro b s g H xs i Q I r h;obtain⟨a,kvs,rfl,e,q⟩:=h;obtain⟨u,rfl,c⟩:=Z7 r;cases c;exact Im I (.inl e) λp j d f=>⟨.ref p,_,f,J,q p d⟩
end L2
namespace My
open PySem PySem.Spec PyProof.Rows L2
variable{ab ac an ar cP cR r:Addr}{A:Around}{base:Heap}{H H':Hp}{h:List Nat}{P:Program}{mg:Str->Option Value}{vc vh vl vs:V}{w:World}
theorem ke:(lY vc vs vl ab an ac).lookup ("script":Str)=some vs:=rfl
theorem HF:(lY vc vs vl ab an ac).lookup ("call":Str)=some vl:=rfl
theorem Ww:(lY vc vs vl ab an ac).lookup ("begins":Str)=some (.ref ab):=rfl
theorem B9:(lY vc vs vl ab an ac).lookup ("needs":Str)=some (.ref an):=rfl
theorem vY:(lY vc vs vl ab an ac).lookup ("came":Str)=some (.ref ac):=rfl
noncomputable def iY(F:V)(U:Addr):List (Str×V):=[(("house":Str),F),("roles",.ref U)]
theorem Qg:(iY vh ar).lookup ("house":Str)=some vh:=rfl
theorem ji:(iY vh ar).lookup ("roles":Str)=some (.ref ar):=rfl
noncomputable def aZ:List Str:=["house","roles"]
noncomputable def uO:Stmt:=aX 55
noncomputable abbrev Vn:Stmt:=(vk uO).getD 0 dD
noncomputable abbrev Qc:Stmt:=(vk uO).getD 1 dD
noncomputable abbrev Wu:Stmt:=(vk uO).getD 2 dD
noncomputable def Km(ss:List yf)(q:List Nat×Nat)(p:Nat):Option (List Nat):=(((ss.getD q.2 [])[p]?).bind aH).map λ_=>q.1++[jx aH (ss.getD q.2 []) p]
def lh(H:Hp)(kb:List (aK×V))(f:Nat->Option (List Nat)):Prop:=∀p:Nat,match f p with|none=>xa kb (Sum.inl (p:Int))=none|some g=>∃v,xa kb (Sum.inl (p:Int))=some v/\Is H (tI (hZ g)) v
theorem qz(g:O Int):bY (tI g):=xD g
theorem lh.tups{H a:Hp}{kb:List (aK×V)}{f:Nat->Option (List Nat)}(b:lh H kb f)(t:yo H a):lh a kb f:=λp=>by have q:=b p;cases e:f p with|none=>simp_all|some g=>rw[e]at q;exact⟨q.choose,q.choose_spec.1,q.choose_spec.2.tups t (qz _)⟩
theorem lh.to{kb:O (aK×V)}{f g:Nat->Option (O Nat)}(b:lh H kb f)(e:∀p,f p=g p):lh H kb g:=by
 have z:=funext e
 simp_all
theorem Jq(dd:aD):bY (eD dd):=by cases dd with| beg j a=>refine⟨trivial,trivial,?_,trivial⟩;show qu (a.map rQ);rw[qu.all];intro t b;obtain⟨m,_,rfl⟩:=bz.mp b;exact⟨trivial,trivial,trivial⟩|_=>first|exact⟨trivial,trivial,trivial⟩|exact⟨trivial,trivial,trivial,trivial⟩
theorem Vv(s:yf):bY (eS s):=by show qu (s.map eD);rw[qu.all];intro t a;obtain⟨d,_,rfl⟩:=bz.mp a;exact Jq d
theorem GJ(a:O jK):bY (mi a):=by show qu (a.map rQ);rw[qu.all];intro t b;obtain⟨m,_,rfl⟩:=bz.mp b;exact⟨trivial,trivial,trivial⟩
theorem uE(c:wy):bY (eC c):=⟨trivial,GJ c.2,trivial⟩
theorem wo(h:aB):bY (eH h):=by refine⟨trivial,trivial,?_,?_,trivial⟩;show qu (h.fs.map eC);rw[qu.all];intro t a;obtain⟨d,_,rfl⟩:=bz.mp a;exact uE d;show qu (h.ss.map eS);rw[qu.all];intro t a;obtain⟨d,_,rfl⟩:=bz.mp a;exact Vv d
inductive aU(N:Addr->Prop)(H:Hp)(cR:Addr)(s:yf)(bg:Nat->Option (List Nat))(h:List Nat)(r:Addr):Prop|mk:∀dx vc vs vl ab an ac kb,H r=some (.ins cR dx (lY vc vs vl ab an ac))->Is H (eS s) vs->(vl=.non↔h.length=1)->H ab=some (.dK kb)->H an=some (.lst (s.map Zz))->H ac=some (.dT [])->lh H kb bg->N r->N ab->N an->N ac->aU N H cR s bg h r
theorem aU.keep{N N':Y->Prop}{s:yf}{i:Nat->Option (O Nat)}(x:aU N H cR s i h r)(c:∀a o,N a->H a=some o->H' a=some o)(t:yo H H')(b:∀a,N a->N' a):aU N' H' cR s i h r:=by obtain⟨y,l,j,k,A,z,ac,kb,w,v,u,q,p,n,m,g,f,e,d⟩:=x;exact⟨y,l,j,k,A,z,ac,kb,c _ _ g w,v.tups t (Vv s),u,c _ _ f q,c _ _ e p,c _ _ d n,m.tups t,b _ g,b _ f,b _ e,b _ d⟩
theorem aU.same{N:Y->Prop}{s:yf}{c:Nat->Option (O Nat)}(x:aU N H cR s c h r)(b:zi H H'):aU N H' cR s c h r:=x.keep (λa o _ e=>b a o e) b.tups λ_ n=>n
abbrev RL:=List ((List Nat×Nat)×Addr)
noncomputable def y0(L:RL):List (List aK×V):=L.map λq=>(kI (hZ q.1.1),.ref q.2)
noncomputable def qm(L:RL):List (List Nat):=L.map (·.1.1)
theorem NU{L:RL}(a:h ∉ qm L):xa (y0 L) (kI (hZ h))=none:=by induction L with|nil=>rfl| cons q r b=>have d:q.1.1≠h:=λe=>a (by rw[<-e];exact bo);show xa ((kI (hZ q.1.1),V.ref q.2)::y0 r) _=none;rw[wc (λz=>d (Zp (Zx z)))];exact b λc=>a (bn _ c)
theorem NV{L:RL}{q:(List Nat×Nat)×Addr}(d:q∈L)(b:(qm L).Nodup):xa (y0 L) (kI (hZ q.1.1))=some (.ref q.2):=by induction L with|nil=>grind| cons p r c=>have a:=cu.mp b;show xa ((kI (hZ p.1.1),V.ref p.2)::y0 r) _=_;rcases ak.mp d with e|e;rw[e];exact wz J;have f:p.1.1≠q.1.1:=λz=>a.1 (by simp_all);rw[wc (λz=>f (Zp (Zx z)))];exact c e a.2
theorem Xi{v:V}(i:Is H (tI (hZ h)) v):∃b,v=.ref b/\H b=some (.tup ((kI (hZ h)).map kV)):=by
 obtain⟨b,d,rfl,c,a⟩:=i;rw[IsL.ints.mp a,<-mH]at c
 simp_all
structure yE(hs:aB):Prop where
 deeds:∀s∈hs.ss,∀d∈s,gH d
 later:Kf hs.ss
 len:∀s∈hs.ss,s.length<=1000
 w:hs.w=0
inductive fC(cP cR:Addr)(n:Nat)(vs:List V)(H:Hp)(Q:VK)(e0:XK):Prop|mk:∀(x dx ar av:Addr)(vh vhd vc vl:V)(hs:aB)(hd:List Nat)(c:wy)(L0:RL),vs=[.ref x,vhd,vc,vl,.ref av]->H x=some (.ins cP dx (iY vh ar))->H ar=some (.dT (y0 L0))->H av=some (.dK [])->Is H (eH hs) vh->Is H (tI (hZ hd)) vhd->Is H (eC c) vc->(vl=.non↔hd.length=1)->1<=hd.length->yE hs->c.2=[]->c.1<hs.ss.length->hs.ss.length<=c.1+n->hd.length+n<=100->(qm L0++zm (hands aH hs.ss n hd c.1)).Nodup->L0.length+(hands aH hs.ss n hd c.1).length<=1000->(∀(L:RL) H',L.map (·.1)=hands aH hs.ss n hd c.1->Bt [ar] H H'->H' ar=some (.dT (y0 (L0++L)))->(∀q∈L,aU (λa=>H a=none) H' cR (hs.ss.getD q.1.2 []) (Km hs.ss q.1) q.1.1 q.2)->Q .non H')->fC cP cR n vs H Q e0
theorem Cp{s:yf}{i:Nat}{d:aD}(h:s[i]?=some d):wj aH (s.take (i+1))=wj aH (s.take i)++(aH d).toList:=by unfold wj;rw[de,h,List.filterMap_append];rfl
theorem CG{b:Type}(F:Nat×Nat->O b)(l:O Nat)(a:Nat):(l++[a]).zipIdx.flatMap F=l.zipIdx.flatMap F++F (a,l.length):=by grind
theorem FK{dd:aD}(h:¬∃j a,dd=.beg j a):decide (V.str (dw dd)=V.str "begin")=false:=by cases dd<;>first|rfl|exact absurd ⟨_,_,J⟩ h
theorem D7{dd:aD}(h:gH dd):md (.str (dw dd)) [.str "come",.str "go"]=false:=by cases dd<;>first|rfl|exact h.elim
noncomputable def Oi:List Str:=["self","hand","calling","call","tally","role","wall","mode","place","deed","begun"]
theorem BP:aA Oi ["self","hand","calling","call","tally"] (zk Qc):=.of
section
variable{K:W.Frag}
theorem FO(D:jz K cP "enter" "Plan.enter" Qc):cC P w K mg base cP "enter" 3 ["self","hand","calling","call","tally"] (fC cP cR 0):=by
 obtain⟨f,k,F,i⟩:=D;have no:∀a H Q E,¬fC cP cR 0 a H Q E:=λa H Q E h=>by obtain⟨x,t,v,u,m,e,n,l,o,p,c,y,_,_,_,_,_,_,_,_,_,_,_,r,q,_⟩:=h;omega
 exact⟨f,k,⟨λa H Q E h=>absurd h (no a H Q E),λA b s H d g a Q E _ _ _ _ h=>absurd h (no a H Q E)⟩,F.binds λ_ _ _ _ _ _ g j=>(by obtain⟨_,_,_,_,_,rfl⟩:=Dj j;rfl),i⟩
theorem FQ(D:jz K cP "enter" "Plan.enter" Qc)(T:Txt K mg)(CP:aJ K cP aZ)(CR:aJ K cR aR)(oR:gj P w K mg base "Role" cR 1 ["self","calling","script","call"] (kK cR))(o1:Ok P w K mg base "need_of" 1 ["deed","tally"] kM){n:Nat}(oE:cC P w K mg base cP "enter" (n+3) ["self","hand","calling","call","tally"] (fC cP cR n)):cC P w K mg base cP "enter" (n+1+3) ["self","hand","calling","call","tally"] (fC cP cR (n+1)):=by
 refine Yp (k:=n+3) D BP ?_;rintro f ha A fL s H vs Q E hr ⟨x,dx,B,av,vh,gO,vc,vl,d,g,c,L0,rfl,hx,U,bB,ih,ej,ic,f5,g8,W,gv,d7,g9,g7,ev,gk,k⟩ X;have hu:=Z0 hr;have nd:=BP.nd;refine⟨_,ze (zr (i:=5) nd (qO oR (hr.mono (by omega)) (zc (pv 2) (zc (zp zx (zp zx (yd (pv 0) J) (xv T.SCRIPTS)) (zp zx (pv 2) zg)) (zc (pv 3) zd))))) (ze (Wx hu (yd (pv 0) J) (pv 1) (pv 5) J) (ze (w9 PassesOwn.never J (Zk (zp zx (pv 2) zg)) (Zb J (yv (ya (i:=6) nd) (yv (ya (i:=7) nd) jb))) wn) (zh (w9 PassesOwn.never J (Kt J T.enumerate (zc (yd (pv 5) J) zd)) (Zb J (yv (ya (i:=8) nd) (yv (ya (i:=9) nd) jb))) (ze (xl (Zi PySem.F.plainAttrs_list PySem.F.slot_list_append PySem.F.type_list_append vi (yd (pv 5) J) (zc (yc o1 (hr.mono (by omega)) (zc (pv 9) (zc (pv 4) zd))) zd))) (ze (yj (zu wt (zp zx (pv 9) zg) zo (yb _)) (ze (zr (i:=10) nd (ye Ig (pv 1) (yg (zc (yh KE J T.len vm (zc (yd (pv 5) J) zd)) zd)))) (ze (Wx hu (yd (pv 5) J) (pv 8) (pv 10) J) (zh (xl (kc oE CP.cls hr (pv 0) (zc (pv 10) (zc (yx sS (pv 9) (y1 zg) xn) (zc (yg (zc (pv 1) (zc (pv 8) zd))) (zc (vz LZ J T.dict Qz (zc (pv 4) zd)) zd))))))))) zy)
   (zh (yj (zu Y1 (zp zx (pv 9) zg) (qd (zc zo (zc zo zd))) J) wn zy)))))))),?_⟩
 have dV:d.ss[c.1]?=some d.ss[c.1]:=br d7;have a8:d.ss.getD c.1 []=d.ss[c.1]:=by rw[di,dV];rfl
 have gT:∀{b:Addr}{ys:List V},H b=some (.tup ys)->b≠B:=λ{b ys} e z=>by rw[z,U]at e;cases e
 obtain⟨cl,xc,un,rfl,fw,gF,f7⟩:=Is.at (K:=K) (i:=0) (t:=.int (c.1:Int)) ic J;cases(show un=.int (c.1:Int)from f7);obtain⟨ah,xh,us,rfl,fv,gE,f6⟩:=Is.at (K:=K) (i:=3) (t:=.tup (d.ss.map eS)) ih J;obtain⟨as,fl,gP,rfl,fr,gD,eo⟩:=Is.at (K:=K) (i:=c.1) (t:=eS d.ss[c.1]) f6 (by rw[bi,dV];rfl);refine⟨x,cP,dx,_,_,J,hx,CP.cls,CP.n,Qg,ah,xh,_,_,J,J,fv,gE,cl,xc,_,_,J,J,fw,gF,as,fl,_,_,J,J,fr,gD,?_⟩;intro F dr bl eW g4;refine⟨F,dr,_,_,_,J,zf,λC S ac H1 gA bC b1 b9 kp eq dp da dn=>⟨J,?_⟩⟩;have s0:∀{b:Addr},(upd (upd H dr (.own F)) F (.ins cR dr [])) b=none->H b=none:=λ{b} e=>by by_cases c1:b=F;rw[c1];exact bl;by_cases c2:b=dr;rw[c2];exact eW;rw[upd_ne c1,upd_ne c2]at e;exact e
 have s1:zi H H1:=λb o e=>kp b o (zn e bl) (by rw[upd_ne (zn e bl),upd_ne (zn e eW)];exact e);have bC:=s0 bC;have b1:=s0 b1;have b9:=s0 b9;clear s0 kp;obtain⟨bh,rfl,gz⟩:=Xi ej;have gh:g ∉ qm L0:=λt=>(List.nodup_append.mp ev).2.2 _ t _ (show g∈zm (hands aH d.ss (n+1) g c.1)from bo) J;have g5:L0.length<1000:=by have e:(hands aH d.ss (n+1) g c.1).length=_+1:=dj;omega
 refine⟨x,cP,dx,_,_,J,s1 _ _ hx,CP.cls,CP.n,ji,B,_,J,Kp.t (s1 _ _ U) (s1 _ _ gz) (by unfold y0;rw[ag];exact wa (by omega)),?_⟩;rw[X5 _ (NU gh)];have er:y0 L0++[(kI (hZ g),V.ref F)]=y0 (L0++[((g,c.1),F)]):=by unfold y0;rw[aq];rfl
 rw[er];have k2:∀{b:Addr}{o:HO},H1 b=some o->H b=none->upd H1 B (.dT (y0 (L0++[((g,c.1),F)]))) b=some o:=λ{b o} e z=>by rw[upd_ne (au (zn U z))];exact e
 have a7:=k2 eq bl;have a4:=k2 dp bC;have a2:=k2 da b1;have b7:=k2 dn b9;have b2:Bt [B] H (upd H1 B (.dT (y0 (L0++[((g,c.1),F)])))):=s1.bt.trans (Bt.upd (ai.mpr J));have aw:upd H1 B (.dT (y0 (L0++[((g,c.1),F)]))) B=some (.dT (y0 (L0++[((g,c.1),F)]))):=zf;clear k2 eq dp da dn s1;generalize upd H1 B (.dT (y0 (L0++[((g,c.1),F)])))=H2 at a7 a4 a2 b7 b2 aw⊢;have ec:∀{M:List Addr}{G:Hp},Bt M H G->(∀m∈M,m=B\/H m=none)->yo H G:=λ{M G} b hM=>b.tups λm t xs e=>by rcases hM m t with z|z;rw[z,U]at e;cases e;rw[z]at e;cases e
 have t2:yo H H2:=ec b2 (λm t=>.inl (ai.mp t));obtain⟨a',fn,um,e',ed,e8,f9⟩:=Is.at (K:=K) (i:=1) (t:=mi c.2) (ic.tups t2 (uE c)) J;cases e';obtain⟨am,xm,rfl,e3,eG⟩:=f9;rw[gv]at eG;cases(show xm=[]from eG);refine⟨cl,fn,_,_,J,J,ed,e8,am,J,⟨[],aG.of e3⟩,?_⟩;let gK:Nat->L2.St->Hp->Prop:=λi σ H'=>H2=H'/\σ=[some (.ref x),some (.ref bh),some (.ref cl),some vl,some (.ref av),some (.ref F),none,none,none,none,none];refine Qr (K:=K) (a:=am) (xs:=[]) gK ⟨J,J⟩ (λi σ H' _ ⟨e,_⟩=>by rw[<-e];exact aG.of e3) (λi y σ H' hy _=>by cases hy) ?_;rintro σ H' ⟨rfl,rfl⟩;obtain⟨ad,xd,rfl,b6,d5⟩:=eo;have e0:=d5.length;rw[ag]at e0;refine⟨F,cR,dr,_,_,J,a7,CR.cls,CR.n,ke,ad,xd,J,aG.of (t2 _ _ b6),?_⟩;have g3:d.ss[c.1].length<=1000:=W.len _ (List.getElem_mem d7);have z2:∀m∈[B,S,C],m=B\/H m=none:=λm t=>by rcases ak.mp t with z|z;exact .inl z;rcases ak.mp z with z|z;rw[z];exact .inr b1;rw[ai.mp z];exact .inr bC
 have cs:∀{b:Addr}{o:HO},H2 b=some o->b≠B->(∀ys,o≠ .lst ys)->b≠C->b ∉ [B,S,C]:=λ{b o} e z1 z2 z3 t=>by rcases ak.mp t with z|z;exact z1 z;rcases ak.mp z with z|z;rw[z,a2]at e;exact z2 _ (Option.some.inj e).symm;exact z3 (ai.mp z)
 have ef:∀{b:Addr}{o:HO},H2 b=some o->(∀f2,o≠ .dK f2)->b≠C:=λ{b o} e z1 z=>by rw[z,a4]at e;exact z1 _ (Option.some.inj e).symm
 have cv:=b2 _ _ (λt=>by rw[ai.mp t,U]at hx;cases hx) hx;have c6:=b2 _ _ (λt=>by rw[ai.mp t,U]at bB;cases bB) bB;have ox:=cs cv (λz=>by rw[z,U]at hx;cases hx) (λ_ z=>by cases z) (ef cv (λ_ z=>by cases z));have dT:=cs a7 (au (zn U bl)) (λ_ z=>by cases z) (ef a7 (λ_ z=>by cases z));have f1:=cs b7 (au (zn U b9)) (λ_ z=>by cases z) (au gA);have f0:=cs c6 (λz=>by rw[z,U]at bB;cases bB) (λ_ z=>by cases z) (zn bB bC);have bE:∀{G:Hp},Bt [B,S,C] H2 G->yo H2 G:=λ{G} b=>b.tups λm t xs e=>by rcases ak.mp t with z|z;rw[z,aw]at e;cases e;rcases ak.mp z with z|z;rw[z,a2]at e;cases e;rw[ai.mp z,a4]at e;cases e
 let gJ:Nat->L2.St->Hp->Prop:=λi σ H'=>∃(L1:RL)(kb:List (aK×V))(x8 x9 dv:Option V),σ=[some (.ref x),some (.ref bh),some (.ref cl),some vl,some (.ref av),some (.ref F),none,none,x8,x9,dv]/\
  L1.map (·.1)=((wj aH (d.ss[c.1].take i)).zipIdx.flatMap λq=>hands aH d.ss n (g++[q.2]) q.1)/\Bt [B,S,C] H2 H'/\H' B=some (.dT (y0 (L0++((g,c.1),F)::L1)))/\H' S=some (.lst ((d.ss[c.1].take i).map Zz))/\
  H' C=some (.dK kb)/\kb.length=jx aH d.ss[c.1] i/\lh H' kb (λp=>if p<i then Km d.ss (g,c.1) p else none)/\∀q∈L1,aU (λa=>H2 a=none) H' cR (d.ss.getD q.1.2 []) (Km d.ss q.1) q.1.1 q.2
 refine xC (K:=K) (a:=ad) (xs:=xd) gJ
  ⟨[],[],none,none,none,J,J,Bt.refl,aw,a2,a4,J,λp=>rfl,λq hq=>nomatch hq⟩ (λi σ H' _ ⟨_,_,_,_,_,_,_,b,_⟩=>aG.of (bE b _ _ (t2 _ _ b6))) ?_ ?_
 rintro i y σ H' p hy ⟨L1,kb,x8,x9,dv,rfl,bD,b3,bd,a1,bk,bL,c0,cw⟩ hp;obtain⟨tt,bI,el⟩:=d5.get' hy;rw[bi]at bI;obtain⟨dd,a9,rfl⟩:∃dd,d.ss[c.1][i]?=some dd/\eD dd=tt:=by cases e:d.ss[c.1][i]? with|none=>rw[e]at bI;cases bI|some z=>rw[e]at bI;exact⟨z,J,Option.some.inj bI⟩
 have c5:dd∈d.ss[c.1]:=bq a9;have hi:i<d.ss[c.1].length:=(ci.mp a9).1;have sp:=zi.new hp (.tup [.int i,y]);have d2:upd H' p (.tup [.int i,y]) p=some (.tup [.int i,y]):=zf;have b4:Bt [B,S,C] H2 (upd H' p (.tup [.int i,y])):=b3.trans sp.bt;have bc:=sp _ _ bd;have u:=sp _ _ a1;have bg:=sp _ _ bk;have bN:=c0.tups sp.tups;have bJ:∀q∈L1,aU (λa=>H2 a=none) _ cR (d.ss.getD q.1.2 []) (Km d.ss q.1) q.1.1 q.2:=λq hq=>(cw q hq).same sp;clear c0 cw bd a1 bk;generalize upd H' p (.tup [.int i,y])=H4 at sp d2 b4 bc u bg bN bJ⊢;have i4:Is H4 (eD dd) y:=(el.tups t2 (Jq _)).tups (bE b4) (Jq _);refine⟨p,_,J,aG.of d2,J,_,_,J,_,_,J,J,?_⟩;refine⟨F,cR,dr,_,_,J,b4 _ _ dT a7,CR.cls,CR.n,B9,?_⟩;have d3:gH dd:=W.deeds _ (List.getElem_mem d7) dd c5;have d4:(d.ss[c.1].take i).map Zz++[Zz dd]=(d.ss[c.1].take (i+1)).map Zz:=by rw[de,a9,aq];rfl
 have ey:((d.ss[c.1].take i).map Zz).length<sizeLine:=by rw[ag,bu];exact wa (by omega)
 refine⟨.inl ⟨J,_,aM.of u⟩,dd,y,.ref av,J,i4,d3,S,_,_,J,J,u,ey,?_⟩;rw[d4];have n2:∀{m a:Addr}{o:HO},H2 m=some o->H2 a=none->a≠m:=λ{m a o} e R z=>by rw[z,e]at R;cases R
 have t5:yo H4 (upd H4 S (.lst ((d.ss[c.1].take (i+1)).map Zz))):=yo.upd u (λ_ z=>by cases z);have b5:Bt [B,S,C] H2 (upd H4 S (.lst ((d.ss[c.1].take (i+1)).map Zz))):=b4.trans (Bt.upd (by simp));have ap:upd H4 S (.lst ((d.ss[c.1].take (i+1)).map Zz)) B=_:=(upd_ne (λz=>by rw[<-z,bc]at u;cases u)).trans bc;have l:upd H4 S (.lst ((d.ss[c.1].take (i+1)).map Zz)) C=_:=(upd_ne (λz=>by rw[<-z,bg]at u;cases u)).trans bg;have aS:upd H4 S (.lst ((d.ss[c.1].take (i+1)).map Zz)) S=_:=zf;have bb:=bN.tups t5;have i5:=i4.tups t5 (Jq _);have ba:∀q∈L1,aU (λa=>H2 a=none) (upd H4 S (.lst ((d.ss[c.1].take (i+1)).map Zz))) cR (d.ss.getD q.1.2 []) (Km d.ss q.1) q.1.1 q.2:=λq hq=>(bJ q hq).keep (λa o R e=>by rw[upd_ne (n2 a2 R)];exact e) t5 λ_ z=>z;clear bJ bN bg bc u i4 b4 t5 d2 sp el;generalize upd H4 S (.lst ((d.ss[c.1].take (i+1)).map Zz))=H5 at b5 ap l aS bb i5 ba⊢;obtain⟨r,gf⟩:=Wm dd;obtain⟨a5,eb,u5,rfl,dE,e9,gb⟩:=Is.at (K:=K) (i:=0) (t:=.str (dw dd)) (gf▸i5) J;cases(show u5=.str (dw dd)from gb);refine⟨a5,eb,_,_,J,J,dE,e9,J,_,J,?_⟩;by_cases cb:∃j ms,dd=.beg j ms;obtain⟨j,ms,rfl⟩:=cb;obtain rfl:ms=[]:=d3;refine y3 ?_;have d6:H5 F=_:=b5 _ _ dT a7;have gn:kb.length<=1000:=by rw[bL];refine cr (List.length_filterMap_le ..) ?_;rw[bu];omega
 have bG:Is H5 (tI (hZ g)) (.ref bh):=(ej.tups t2 (qz _)).tups (bE b5) (qz _);refine⟨F,cR,dr,_,_,J,d6,CR.cls,CR.n,Ww,C,kb,J,l,aI,λp6 H6 s6 gi bw=>⟨hZ g,[(kb.length:Int)],bG.mono s6,⟨p6,_,J,bw,IsL.ints.mpr J⟩,(by unfold hZ;rw[ag];show g.length+1<=1000;omega),λv H7 s7 i7=>?_⟩⟩;have e7:hZ g++[(kb.length:Int)]=hZ (g++[jx aH d.ss[c.1] i]):=by unfold hZ;rw[aq,bL];rfl
 rw[e7]at i7;have N:=s6.trans s7;refine⟨F,cR,dr,_,_,J,N _ _ d6,CR.cls,CR.n,Ww,C,_,J,Kp.k (k:=(Sum.inl (i:Int):aK)) (N _ _ l) (wa gn),?_⟩;have t8:yo H7 (upd H7 C (.dK (qo kb (Sum.inl (i:Int)) v))):=yo.upd (N _ _ l) (λ_ z=>by cases z);have b8:Bt [B,S,C] H2 (upd H7 C (.dK (qo kb (Sum.inl (i:Int)) v))):=(b5.trans N.bt).trans (Bt.upd (by simp));have Z:upd H7 C (.dK (qo kb (Sum.inl (i:Int)) v)) B=_:=(upd_ne (λz=>by rw[<-z,ap]at l;cases l)).trans (N _ _ ap);have ay:upd H7 C (.dK (qo kb (Sum.inl (i:Int)) v)) S=_:=(upd_ne (λz=>by rw[<-z,aS]at l;cases l)).trans (N _ _ aS);have a3:upd H7 C (.dK (qo kb (Sum.inl (i:Int)) v)) C=_:=zf;have i8:=i7.tups t8 (qz _);have d8:=(i5.mono N).tups t8 (Jq _);have bM:=(bb.tups N.tups).tups t8;have c4:∀q∈L1,aU (λa=>H2 a=none) (upd H7 C (.dK (qo kb (Sum.inl (i:Int)) v))) cR (d.ss.getD q.1.2 []) (Km d.ss q.1) q.1.1 q.2:=λq hq=>((ba q hq).same N).keep (λa o R e=>by rw[upd_ne (n2 a4 R)];exact e) t8 λ_ z=>z;have eg:=(bG.mono N).tups t8 (qz _);clear ba bb i5 i7 l ap aS t8 N s6 s7 bw gi d6 bG dE;generalize upd H7 C (.dK (qo kb (Sum.inl (i:Int)) v))=H8 at b8 Z ay a3 i8 d8 bM c4 eg⊢;obtain⟨hc,ys,e5,f4,en⟩:=id d8;cases e5;have g2:ys.length=3:=en.length;refine⟨x,dx,_,J,b8 _ _ ox cv,J,1,J,a5,ys,J,aG.of f4,?_,λp9 et=>?_⟩;intro hh;have h2:HT.bS ys.length 0 (some ((1:Nat):Int))=min 1 ys.length:=HT.tz _ _ _;have h3:min 1 ys.length=0:=h2.symm.trans hh.1;omega;have e4:Kl ys (some 1) none=ys.drop 1:=by have h2:HT.bS ys.length 0 (some ((1:Nat):Int))=min 1 ys.length:=HT.tz _ _ _;have h2:HT.bS ys.length 0 (some 1)=1:=h2.trans (by omega);unfold Kl;rw[h2,HT.re,List.take_of_length_le (by rw[List.length_drop];exact aj _)]
 rw[e4];have s9:=zi.new et (.tup (ys.drop 1));have i9:Is (upd H8 p9 (.tup (ys.drop 1))) (eC (j,[])) (.ref p9):=Is.newTup et (en.drop 1);refine⟨aI,λfy fa dN gN gM=>⟨av,[],J,dN _ _ (s9 _ _ (b8 _ _ f0 c6)),λco eu=>?_⟩⟩;have dK:=zi.new eu (.dK []);have h:=(s9.trans dN).trans dK;have bK:upd fa co (.dK []) co=some (.dK []):=zf;have ek:=(i9.mono dN).mono dK;generalize upd fa co (.dK [])=gL at dK h bK ek⊢;have c3:=b8.trans (M:=[B,S,C]) h.bt;obtain⟨g6,gt⟩:=W.later c.1 _ dV j [] c5;have dt:wj aH (d.ss[c.1].take (i+1))=wj aH (d.ss[c.1].take i)++[j]:=by rw[Cp a9];rfl
 have gC:jx aH d.ss[c.1] (i+1)=jx aH d.ss[c.1] i+1:=by unfold jx;rw[dt,az];rfl
 have cc:((wj aH (d.ss[c.1].take (i+1))).zipIdx.flatMap λq=>hands aH d.ss n (g++[q.2]) q.1)=((wj aH (d.ss[c.1].take i)).zipIdx.flatMap λq=>hands aH d.ss n (g++[q.2]) q.1)++hands aH d.ss n (g++[jx aH d.ss[c.1] i]) j:=by rw[dt,CG];rfl
 obtain⟨jh,d1⟩:∃jh,((wj aH d.ss[c.1]).zipIdx.flatMap λq=>hands aH d.ss n (g++[q.2]) q.1)=((wj aH (d.ss[c.1].take (i+1))).zipIdx.flatMap λq=>hands aH d.ss n (g++[q.2]) q.1)++jh:=by
  have e:wj aH d.ss[c.1]=wj aH (d.ss[c.1].take (i+1))++wj aH (d.ss[c.1].drop (i+1)):=by unfold wj;rw[<-List.filterMap_append,List.take_append_drop]
  rw[e,List.zipIdx_append,List.flatMap_append];exact⟨_,J⟩
 have dh:hands aH d.ss (n+1) g c.1=(g,c.1)::(L1.map (·.1)++hands aH d.ss n (g++[jx aH d.ss[c.1] i]) j++jh):=by show(g,c.1)::((wj aH (d.ss.getD c.1 [])).zipIdx.flatMap λq=>hands aH d.ss n (g++[q.2]) q.1)=_;rw[a8,d1,cc,bD]
 refine⟨x,dx,B,co,.ref ah,v,.ref p9,.ref fy,d,g++[jx aH d.ss[c.1] i],(j,[]),L0++((g,c.1),F)::L1,J,c3 _ _ ox cv,h _ _ Z,bK,(ih.tups t2 (wo _)).tups (bE c3) (wo _),i8.mono h,ek,?_,?_,W,J,gt,(by show d.ss.length<=j+n;omega),(by rw[az];show g.length+1+n<=100;omega),?_,?_,λL he hL ck b0 d0=>?_⟩;constructor;intro z;cases z;intro z;rw[az]at z;have:g.length+1=1:=z;omega;rw[az];exact Nat.le_add_left _ _;have q:=ev;rw[dh]at q;have e:qm L0++zm ((g,c.1)::(L1.map (·.1)++hands aH d.ss n (g++[jx aH d.ss[c.1] i]) j++jh))=qm (L0++((g,c.1),F)::L1)++zm (hands aH d.ss n (g++[jx aH d.ss[c.1] i]) j)++zm jh:=by unfold qm zm;simp[aq,Function.comp_def]
 rw[e]at q;exact(List.nodup_append.mp q).1;have q:=gk;rw[dh]at q;simp only[dj,az,ag]at q⊢;show _+(List.length (hands aH d.ss n _ j))<=1000;omega;have ew:∀m∈[B],∀xs,gL m≠some (.tup xs):=λm t xs e=>by rw[ai.mp t,h _ _ Z]at e;cases e
 have cn:=ck.tups ew;have d9:S ∉ [B]:=λt=>by rw[ai.mp t,Z]at ay;cases ay
 have ea:C ∉ [B]:=λt=>by rw[ai.mp t,Z]at a3;cases a3
 have gI:=(d8.mono h).tups cn (Jq _);obtain⟨a6,fq,u6,e6,fx,gG,ga⟩:=Is.at (K:=K) (i:=0) (t:=.str "begin") gI J;cases e6;cases(show u6=.str "begin" from ga);refine⟨a5,fq,_,_,J,J,fx,gG,aI,λp6 bw=>⟨p6,_,J,.inr (aG.of zf),J,J,_,J,yy ?_⟩⟩;have af:=zi.new bw (.tup [.str "come",.str "go"]);have gl:xa kb (Sum.inl (i:Int):aK)=none:=by have q:=bM i;dsimp only at q;rw[if_neg (dc i)]at q;exact q
 have gB:L0++((g,c.1),F)::L1++L=L0++((g,c.1),F)::(L1++L):=by rw[List.append_assoc];rfl
 rw[gB]at b0;refine⟨L1++L,qo kb (Sum.inl (i:Int)) v,_,_,_,J,by rw[aq,hL,cc,bD],(c3.trans (ck.mono (λm t=>by rw[ai.mp t];simp))).trans af.bt,af _ _ b0,af _ _ (ck _ _ d9 (h _ _ ay)),af _ _ (ck _ _ ea (h _ _ a3)),?_,λp=>?_,λq hq=>?_⟩;rw[X5 _ gl,az,gC,bL];rfl;have f3:=((i8.mono h).tups cn (qz _)).mono af;have q:=((bM.tups h.tups).tups cn).tups af.tups p;dsimp only at q⊢;rw[V2];by_cases z:p=i;subst z;rw[if_pos (ez p)];have e:Km d.ss (g,c.1) p=some (g++[jx aH d.ss[c.1] p]):=by show(((d.ss.getD c.1 [])[p]?).bind aH).map (λ_=>g++[jx aH (d.ss.getD c.1 []) p])=_;rw[a8,a9];rfl
 rw[e];exact⟨v,if_pos J,f3⟩;have z':¬(Sum.inl (p:Int):aK)=Sum.inl (i:Int):=λe=>z (by have:=Sum.inl.inj e;omega);rw[if_neg z'];have e:(if p<i+1 then Km d.ss (g,c.1) p else none)=if p<i then Km d.ss (g,c.1) p else none:=by by_cases z3:p<i;rw[if_pos z3,if_pos (by omega)];rw[if_neg z3,if_neg (by omega)]
 rw[e];exact q;rcases ce.mp hq with e|e;refine((c4 q e).same h).keep (λa o R z=>af _ _ (ck _ _ (λt=>by rw[ai.mp t,aw]at R;cases R) z)) (cn.trans af.tups) λ_ z=>z;refine((d0 q e).same af).keep (λa o _ z=>z) (yo.refl _) λa R=>?_;cases z:H2 a with|none=>rfl| some o=>by_cases t:a∈[B,S,C];rcases ak.mp t with y|y;rw[y,h _ _ Z]at R;cases R;rcases ak.mp y with y|y;rw[y,h _ _ ay]at R;cases R;rw[ai.mp y,h _ _ a3]at R;cases R;rw[c3 a o t z]at R;cases R
 have eL:aH dd=none:=by cases dd with|beg j ms=>exact absurd ⟨j,ms,J⟩ cb|_=>rfl
 have e1:wj aH (d.ss[c.1].take (i+1))=wj aH (d.ss[c.1].take i):=by rw[Cp a9,eL];exact cm _
 have e2:jx aH d.ss[c.1] (i+1)=jx aH d.ss[c.1] i:=congrArg List.length e1;rw[FK cb];refine yy ⟨a5,eb,_,_,J,J,dE,e9,aI,λp6 bw=>⟨p6,_,J,.inr (aG.of zf),J,J,_,J,?_⟩⟩;have s6:=zi.new bw (.tup [.str "come",.str "go"]);rw[D7 d3];refine yy ⟨L1,kb,_,_,_,J,by rw[e1];exact bD,b5.trans s6.bt,s6 _ _ ap,s6 _ _ aS,s6 _ _ l,by rw[e2];exact bL,(bb.tups s6.tups).to λp=>?_,λq hq=>(ba q hq).same s6⟩;by_cases z:p<i;rw[if_pos z,if_pos (by omega)];rw[if_neg z];by_cases z2:p<i+1;obtain rfl:p=i:=by omega
 rw [if_pos z2];show _=(((d.ss.getD c.1 [])[p]?).bind aH).map _;rw[a8,a9];show none=(aH dd).map _;rw[eL];rfl;rw[if_neg z2];rintro σ H' ⟨L1,kb,x8,x9,dv,rfl,bD,b3,bd,a1,bk,bL,c0,cw⟩;rw[e0,dg]at bD a1;have nH:∀a,H2 a=none->H a=none:=λa R=>by cases e:H a with|none=>rfl| some o=>by_cases z:a∈[B];rw[ai.mp z,aw]at R;cases R;rw[b2 a o z e]at R;cases R
 refine k (((g,c.1),F)::L1) H' ?_ ?_ bd ?_;show(g,c.1)::L1.map (·.1)=(g,c.1)::((wj aH (d.ss.getD c.1 [])).zipIdx.flatMap λq=>hands aH d.ss n (g++[q.2]) q.1);rw[bD,a8];intro b o hb e;refine b3 b o (λt=>?_) (b2 b o hb e);rcases z2 b t with z|z;exact hb (ai.mpr z);rw[z]at e;cases e;intro q hq;rcases ak.mp hq with e|e;rw[e];refine⟨dr,.ref cl,.ref ad,vl,C,S,ac,kb,b3 _ _ dT a7,?_,f5,bk,?_,b3 _ _ f1 b7,c0.to λp=>?_,bl,bC,b1,b9⟩;show Is H' (eS (d.ss.getD c.1 [])) _;rw[a8];exact((show Is H (eS d.ss[c.1]) (.ref ad)from⟨ad,xd,J,b6,d5⟩).tups t2 (Vv _)).tups (bE b3) (Vv _);show H' S=some (.lst ((d.ss.getD c.1 []).map Zz));rw[a8];exact a1;by_cases z:p<xd.length;rw[if_pos z];rw[if_neg z];show none=(((d.ss.getD c.1 [])[p]?).bind aH).map _;rw[a8,List.getElem?_eq_none (by omega)];rfl;exact(cw q e).keep (λa o _ z=>z) (yo.refl _) nH
theorem BB(D:jz K cP "enter" "Plan.enter" Qc)(T:Txt K mg)(c:aJ K cP aZ)(CR:aJ K cR aR)(a:gj P w K mg base "Role" cR 1 ["self","calling","script","call"] (kK cR))(b:Ok P w K mg base "need_of" 1 ["deed","tally"] kM):∀n:Nat,cC P w K mg base cP "enter" (n+3) ["self","hand","calling","call","tally"] (fC cP cR n)|0=>FO D|n+1=>FQ D T c CR a b (BB D T c CR a b n)
end
structure dY(hs:aB):Prop where
 nw:yE hs
 s20:hs.ss.length<=20
 f40:hs.fs.length<=40
 mem:∀c∈hs.fs,c.2=[]
 call:∀c∈hs.fs,c.1<hs.ss.length
 few:(qc aH hs.ss 20 (hs.fs.map (·.1))).length<=1000
 few60:(qc aH hs.ss 20 (hs.fs.map (·.1))).length<=60
 deeds:Vb hs.ss (qc aH hs.ss 20 (hs.fs.map (·.1)))<=1200
 b0:0<=hs.b
 b9:hs.b<=1000
 says:∀s∈hs.ss,∀x,aD.say x∈s->PyData.strOk x=true
 box:∀s∈hs.ss,∀d∈s,∀b m,(d=.rai b m\/d=.awa b m)->0<=b/\b<hs.b
noncomputable def plan(hs:aB):List (List Nat×Nat):=qc aH hs.ss 20 (hs.fs.map (·.1))
inductive aN(H:Hp)(cP cR:Addr)(hs:aB)(L:RL)(x:Addr):Prop|mk:∀dx vh ar,H x=some (.ins cP dx (iY vh ar))->Is H (eH hs) vh->H ar=some (.dT (y0 L))->L.map (·.1)=plan hs->(∀q∈L,aU (λ_=>True) H cR (hs.ss.getD q.1.2 []) (Km hs.ss q.1) q.1.1 q.2)->aN H cP cR hs L x
theorem aN.same{H a:Hp}{cP cR:Y}{hs:aB}{L:RL}{x:Y}(p:aN H cP cR hs L x)(s:zi H a):aN a cP cR hs L x:=by obtain⟨i,b,j,h,g,f,e,d⟩:=p;exact⟨i,b,j,s _ _ h,g.mono s,s _ _ f,e,λq c=>(d q c).same s⟩
theorem Y3{L:RL}{hs:aB}(h:L.map (·.1)=plan hs):qm L=zm (plan hs):=by rw[<-h];unfold qm zm;simp
inductive nD(cP cR:Addr)(vs:List V)(H:Hp)(Q:VK)(e0:XK):Prop|mk:∀(x dx:Addr)(vh:V)(hs:aB),vs=[.ref x,vh]->H x=some (.ins cP dx [])->Is H (eH hs) vh->dY hs->(∀L H',Bt [x] H H'->aN H' cP cR hs L x->Q .non H')->nD cP cR vs H Q e0
section
variable{K:W.Frag}
theorem Jz:aA ["self","house","number","calling"] ["self","house"] (zk Vn):=.of
theorem Nh(D:my K mg "Plan" "Plan.__init__" cP Vn)(T:Txt K mg)(CP:aJ K cP aZ)(oE:cC P w K mg base cP "enter" 23 ["self","hand","calling","call","tally"] (fC cP cR 20)):gj P w K mg base "Plan" cP 24 ["self","house"] (nD cP cR):=by
 refine sr (k:=23) D Jz ?_;rintro f bc A a3 s H vs Q E hr ⟨x,l,n,d,rfl,hx,ih,W,k⟩ X;have nd:=Jz.nd;refine⟨_,ze (qb (pv 0) (pv 1) J) (ze (qb (pv 0) Qi J) (zh (w9 PassesOwn.never J (Kt J T.enumerate (zc (zp zx (pv 1) (xv T.FIRSTS)) zd)) (Zb J (yv (ya (i:=2) nd) (yv (ya (i:=3) nd) jb))) (zh (xl (kc oE CP.cls hr (pv 0) (zc (yg (zc (pv 2) zd)) (zc (pv 3) (zc X9 (zc Qj zd)))))))))),?_⟩
 refine⟨x,cP,l,[],J,hx,CP.cls,CP.n,aI,?_⟩;rw[show qv "house" n []=[(("house":Str),n)] by rfl];have g1:upd H x (.ins cP l [(("house":Str),n)]) x=some (.ins cP l [(("house":Str),n)]):=zf;have b1:Bt [x] H (upd H x (.ins cP l [(("house":Str),n)])):=Bt.upd (by simp);generalize upd H x (.ins cP l [(("house":Str),n)])=H1 at g1 b1⊢;intro g v;have nx:g≠x:=λz=>by rw[z,g1]at v;cases v
 have s2:=zi.new v (.dT []);have h2:upd H1 g (.dT []) g=some (.dT []):=zf;generalize upd H1 g (.dT [])=H2 at s2 h2⊢;refine⟨x,cP,l,_,J,s2 _ _ g1,CP.cls,CP.n,aI,?_⟩;rw[show qv "roles" (.ref g) [(("house":Str),n)]=iY n g by rw[xi (by decide)];rfl];have g3:upd H2 x (.ins cP l (iY n g)) x=some (.ins cP l (iY n g)):=zf;have b3:Bt [x] H (upd H2 x (.ins cP l (iY n g))):=(b1.trans s2.bt).trans (Bt.upd (by simp));have h3:upd H2 x (.ins cP l (iY n g)) g=some (.dT []):=by rw[upd_ne nx];exact h2
 generalize upd H2 x (.ins cP l (iY n g))=H3 at g3 b3 h3⊢;have t3:yo H H3:=b3.tups λm j xs e=>by rw[ai.mp j,hx]at e;cases e
 obtain⟨ah,xh,uf,rfl,a2,a9,a5⟩:=Is.at (K:=K) (i:=2) (ih.tups t3 (wo _)) J;obtain⟨af,xf,rfl,a1,aw⟩:=a5;have ay:=aw.length;rw[ag]at ay;refine⟨ah,xh,_,_,J,J,a2,a9,af,xf,J,aG.of a1,?_⟩;have N:x ∉ [g]:=λj=>nx (ai.mp j).symm;have tb:∀{G:Hp},Bt [g] H3 G->yo H3 G:=λ{G} b=>b.tups λm j xs e=>by rw[ai.mp j,h3]at e;cases e
 let ba:Nat->L2.St->Hp->Prop:=λi σ C=>∃(L:RL)(x2 x3:Option V),σ=[some (.ref x),some (.ref ah),x2,x3]/\L.map (·.1)=qc aH d.ss 20 ((d.fs.map (·.1)).take i)/\Bt [g] H3 C/\C g=some (.dT (y0 L))/\
  ∀q∈L,aU (λa=>H3 a=none) C cR (d.ss.getD q.1.2 []) (Km d.ss q.1) q.1.1 q.2
 refine xC (K:=K) (a:=af) (xs:=xf) ba
  ⟨[],none,none,J,J,Bt.refl,h3,λq hq=>nomatch hq⟩ (λi σ C _ ⟨_,_,_,_,_,b,_⟩=>aG.of (tb b _ _ a1)) ?_ ?_
 rintro i y σ C p hy ⟨L,x2,x3,rfl,hL,b4,h,S⟩ hp;obtain⟨tt,t,a4⟩:=aw.get' hy;rw[bi]at t;obtain⟨c,hc,rfl⟩:∃c,d.fs[i]?=some c/\eC c=tt:=by cases e:d.fs[i]? with|none=>rw[e]at t;cases t|some z=>rw[e]at t;exact⟨z,J,Option.some.inj t⟩
 have F:=bq hc;have hi:=(ci.mp hc).1;have Z:=zi.new hp (.tup [.int i,y]);have av:upd C p (.tup [.int i,y]) p=some (.tup [.int i,y]):=zf;generalize upd C p (.tup [.int i,y])=H5 at Z av⊢;have b5:=b4.trans (M:=[g]) Z.bt;refine⟨p,_,J,aG.of av,J,_,_,J,_,_,J,J,?_⟩;refine⟨x,l,_,J,b5 _ _ N g3,J,aI,λp6 H6 s6 bb a7=>(λp7 a6=>?_)⟩;have s7:=zi.new a6 (.dK []);have h7:upd H6 p7 (.dK []) p7=some (.dK []):=zf;generalize upd H6 p7 (.dK [])=H7 at s7 h7⊢;have r:=s6.trans s7;have b7:=b5.trans (M:=[g]) r.bt;have u:qc aH d.ss 20 ((d.fs.map (·.1)).take (i+1))=qc aH d.ss 20 ((d.fs.map (·.1)).take i)++hands aH d.ss 20 [i] c.1:=by
  unfold qc;have e:(d.fs.map (·.1)).take (i+1)=(d.fs.map (·.1)).take i++[c.1]:=by rw[de,bi,hc];rfl
  rw[e,CG];have e2:((d.fs.map (·.1)).take i).length=i:=by rw[bu,ag];omega
  rw[e2]
 obtain⟨jh,U⟩:∃jh,qc aH d.ss 20 (d.fs.map (·.1))=qc aH d.ss 20 ((d.fs.map (·.1)).take (i+1))++jh:=by
  have e:qc aH d.ss 20 (d.fs.map (·.1))=qc aH d.ss 20 ((d.fs.map (·.1)).take (i+1)++(d.fs.map (·.1)).drop (i+1)):=by rw[List.take_append_drop]
  rw[e];unfold qc;rw[List.zipIdx_append,List.flatMap_append];exact⟨_,J⟩
 have B:=Xe (kd:=aH) (ss:=d.ss) 20 (d.fs.map (·.1));have M:=W.few;rw[U,u,<-hL]at B M;refine⟨x,l,g,p7,.ref ah,.ref p6,y,.non,d,[i],c,L,J,b7 _ _ N g3,r _ _ (Z _ _ h),h7,(ih.tups t3 (wo _)).tups (tb b7) (wo _),?_,(a4.tups (tb b7) (uE _)),⟨λ_=>rfl,λ_=>rfl⟩,aj _,W.nw,W.mem c F,W.call c F,(by have:=W.s20;omega),(by show 1+20<=100;decide),?_,?_,λL2 H8 a8 b8 aS ap=>?_⟩;exact(show Is H6 (tI (hZ [i])) (.ref p6)from⟨p6,_,J,a7,IsL.ints.mpr J⟩).mono s7;unfold zm at B;rw[aq,aq,bv]at B;exact(List.nodup_append.mp B).1;rw[az,az,ag]at M;omega;have t8:yo H7 H8:=b8.tups λm j xs e=>by rw[ai.mp j,r _ _ (Z _ _ h)]at e;cases e
 refine⟨L++L2,_,_,J,by rw[aq,hL,a8,u],b7.trans b8,aS,λq hq=>?_⟩;rcases ce.mp hq with e|e;exact(((S q e).same Z).same r).keep (λa o R z=>b8 _ _ (λj=>by rw[ai.mp j,h3]at R;cases R) z) t8 λ_ z=>z;refine(ap q e).keep (λa o _ z=>z) (yo.refl _) λa R=>?_;cases z:H3 a with|none=>rfl| some o=>by_cases j:a∈[g];rw[ai.mp j,r _ _ (Z _ _ h)]at R;cases R;rw[b7 a o j z]at R;cases R
 rintro σ C ⟨L,x2,x3,rfl,hL,b4,h,S⟩;have e:(d.fs.map (·.1)).take xf.length=d.fs.map (·.1):=by rw[ay];exact List.take_of_length_le (by rw[ag];exact aj _)
 rw[e]at hL;refine k L C (λb o hb e=>?_) ⟨l,.ref ah,g,b4 _ _ N g3,(ih.tups t3 (wo _)).tups (tb b4) (wo _),h,hL,λq hq=>(S q hq).keep (λa o _ z=>z) (yo.refl _) λ_ _=>trivial⟩;refine b4 b o (λj=>?_) (b3 b o hb e);rw[ai.mp j]at e hb;rw[b1 _ _ hb e]at v;cases v
end
noncomputable def y2(l:List (List Nat×Nat)):List (List aK×V):=l.map λq=>(kI (hZ q.1),.int (q.2:Int))
noncomputable def vx(F:List (List Nat)):List (List Nat×Nat):=F.map λh=>(h,0)
theorem uQ:∀(rows:List (List Int×V))(a:List (List aK×V)),(a.map (·.1)++rows.map λr=>kI r.1).Nodup->jQ rows a=a++rows.map λr=>(kI r.1,r.2)
 |[],a,_=>by simp[jQ]
 | r::rows,a,h=>by
   have b:xa a (kI r.1)=none:=by
    cases e:xa a (kI r.1)with
    |none=>rfl
    | some v=>have c:=wI e;rw[c8]at h;exact absurd J ((List.nodup_append.mp h).2.2 _ c _ bo)
   show jQ rows (qo a (kI r.1) r.2)=_;rw[X5 _ b,uQ rows (a++[(kI r.1,r.2)]) (by simpa using h)];simp
noncomputable def oz(h:List Nat):Bool:=decide (h.length=1)
noncomputable def Kk(l:List (List Nat×Nat)):List (List Nat):=(zm l).filter oz
noncomputable def lu(F:List (List Nat)):List (List Int×V):=(F.filter oz).map λh=>(hZ h,V.int 0)
theorem LR(a:O (O Nat))(h:O Nat):lu (a++[h])=lu a++(if oz h=true then[(hZ h,V.int 0)]else[]):=by unfold lu;rw[List.filter_append,aq,List.filter_cons];cases oz h<;>rfl
theorem dR.same{b:Y}{r:O Int×V}(p:dR H b r)(s:zi H H'):dR H' b r:=let⟨kb,c,a⟩:=p;⟨kb,s _ _ c,s _ _ a⟩
theorem X6{bs:O Y}{rows:O (O Int×V)}(p:Paired (dR H) bs rows)(s:zi H H'):Paired (dR H') bs rows:=Paired.mapP p λ_ _ z=>dR.same z s
inductive oo(cP cR:Addr)(vs:List V)(H:Hp)(Q:VK)(e0:XK):Prop|mk:∀(x:Addr)(hs:aB)(L:RL),vs=[.ref x]->dY hs->aN H cP cR hs L x->(∀d H',zi H H'->H d=none->H' d=some (.dT (y2 (vx (Kk (plan hs)))))->Q (.ref d) H')->oo cP cR vs H Q e0
section
variable{K:W.Frag}
theorem Am{k:Nat}(a:aP k A):A.units+8<cLine:=eh (fg (by decide) _) a.units
theorem Al{k:Nat}(a:aP k A):A.units+4<cLine:=eh (fg (by decide) _) a.units
theorem MY:aA ["self"] ["self"] (zk Wu):=.of
theorem Mm(D:jz K cP "at_first" "Plan.at_first" Wu)(T:Txt K mg)(CP:aJ K cP aZ)(CR:aJ K cR aR):cC P w K mg base cP "at_first" 1 ["self"] (oo cP cR):=by
 refine Yp (k:=0) D MY ?_;rintro f a6 A af s H vs Q E hr ⟨x,hs,L,rfl,W,⟨dx,vh,h,hx,ih,m,hL,av⟩,k⟩ X;have ap:=Am hr;refine⟨_,zh (zt (qT (vz (CO J ap) J T.dict Qz (zc (kf (own:=["hand","role"]) (cap:=[]) (g:=eU K 2 (bO (Ze 0) (bO (Ze 1) mt))) J (we (zk Wu) J J (by decide+kernel) (by decide+kernel) (by decide+kernel) trivial) (X8 (yd (pv 0) J)) (λ_ _ _ _=>Zb J (yv (ya (i:=0) (by show(["hand","role"]:O Str).Nodup;decide+kernel)) (yv (ya (i:=1) (by show(["hand","role"]:O Str).Nodup;decide+kernel)) jb)))
  (λ_ _ _ _=>Yo (Jh (t:=zD (pE K (kF 1) "call")) (sL (yd (pv 1) J)))) (λ_ _ _ _=>yg (zc (pv 0) (zc zg zd)))) zd)))),?_⟩
 refine⟨h,_,m,trivial,λo=>?_⟩;have c:upd H h (.frz o (.dT (y0 L))) h=some (.frz o (.dT (y0 L))):=zf;have M:∀{b:Y}{u:HO},b≠h->H b=some u->upd H h (.frz o (.dT (y0 L))) b=some u:=λ{b u} z e=>by rw[upd_ne z];exact e
 have jM:∀{G:Hp},zi (upd H h (.frz o (.dT (y0 L)))) G->zi H (upd G h (.dT (y0 L))):=λ{G} s b u e=>by by_cases z:b=h;rw[z]at e⊢;rw[zf,<-e,m];rw[upd_ne z];exact s _ _ (M z e)
 have fresh:∀{G:Hp},zi (upd H h (.frz o (.dT (y0 L)))) G->∀{b:Y},G b=none->H b=none:=λ{G} s b e=>by cases z:H b with|none=>rfl| some u=>by_cases zz:b=h;rw[zz,s _ _ c]at e;cases e;rw[s _ _ (M zz z)]at e;cases e
 generalize upd H h (.frz o (.dT (y0 L)))=Hf at c M jM fresh⊢;have ah:=M (λz=>by rw[z,m]at hx;cases hx) hx;refine⟨x,cP,dx,_,_,J,ah,CP.cls,CP.n,ji,h,o,_,J,c,?_⟩;have a5:L.length<=1000:=by have q:=W.few;have e:=congrArg List.length hL;rw[ag]at e;show _;rw[e];exact q
 refine xP (λi Z v=>zi Hf v/\∃n:O Y,Z=n.map V.ref/\Paired (dR v) n (lu (qm (L.take i)))) ⟨zi.refl _,[],J,.nil⟩ (λi Z v hi ⟨r,n,e,t⟩=>⟨r _ _ c,?_⟩) ?_ ?_;have q:=Paired.length t;unfold lu at q;rw[e,ag,q,ag];refine cr (fc ..) ?_;unfold qm;rw[ag,bu];exact Nat.le_of_lt (wa (by omega));rintro i kv Z v g ⟨r,n,rfl,t⟩ p b aS hb;obtain⟨q,hq,rfl⟩:∃q,L[i]?=some q/\(kI (hZ q.1.1),V.ref q.2)=kv:=by unfold y0 at g;rw[bi]at g;cases e:L[i]? with|none=>rw[e]at g;cases g|some z=>rw[e]at g;exact⟨z,J,Option.some.inj g⟩
 have ay:q∈L:=bq hq;obtain⟨a4,vc,vs,vl,ab,an,ac,kb,r1,_,r3,_⟩:=av q ay;have aw:=r _ _ (M (λz=>by rw[z,m]at r1;cases r1) r1);have B:=zi.new aS (.tup [.ref b,.ref q.2]);have R:upd v p (.tup [.ref b,.ref q.2]) p=some (.tup [.ref b,.ref q.2]):=zf;have U:=B _ _ hb;generalize upd v p (.tup [.ref b,.ref q.2])=H3 at B R U⊢;have ek:qm (L.take (i+1))=qm (L.take i)++[q.1.1]:=by unfold qm;rw[de,hq,aq];rfl
 rw[ek,LR];refine⟨p,_,J,aG.of R,J,_,_,J,_,_,J,J,?_⟩;refine⟨q.2,cR,a4,_,_,J,B _ _ aw,CR.cls,CR.n,HF,_,J,?_⟩;have N:=r.trans B;by_cases z:vl=.non;rw[bp z];have e:oz q.1.1=true:=bp (r3.mp z);rw[if_pos e];refine y3 ⟨aI,λp4 H4 C j a1=>⟨N.trans C,n++[p4],by rw[aq];rfl,Paired.snoc (X6 t (B.trans C)) ⟨b,a1,?_⟩⟩⟩;rw[<-mH];exact C _ _ U;rw[cf z];have e:¬oz q.1.1=true:=λy=>z (r3.mpr (c9 y));rw[if_neg e,cm];exact yy ⟨N,n,J,X6 t B⟩;rintro Z v ⟨r,n,rfl,t⟩ l hl;have e0:(y0 L).length=L.length:=by unfold y0;exact ag ..
 rw[e0,dg,Y3 hL]at t;have sl:=zi.new hl (.lst (n.map V.ref));refine⟨l,n,_,J,zf,X6 t sl,λd H4 C j S=>?_⟩;have F:=(r.trans sl).trans C;refine⟨F _ _ c,?_⟩;have hn:=Xe (kd:=aH) (ss:=hs.ss) 20 (hs.fs.map (·.1));have em:jQ (lu (zm (plan hs))) []=y2 (vx (Kk (plan hs))):=by rw[uQ];unfold lu y2 vx Kk;rw[bv,bv];rfl;unfold lu;rw[bv];refine List.Pairwise.map _ (λa b a3 z=>a3 ?_) (hn.filter oz);exact Zp (Zx z)
 rw[em]at S;have a2:d≠h:=λz=>by rw[z]at j;rw[(r.trans sl) _ _ c]at j;cases j
 exact k d _ (jM F) (fresh (r.trans sl) j) (by rw[upd_ne a2];exact S)
end
end My
namespace L2
open PySem PySem.Spec PyProof.Rows
variable{b:Addr}{H:Hp}{M:List Addr}
inductive lH(x:V)(lo hi:Option Int)(H:Hp)(Q:VK):Prop|mk:∀ts,Is H (.tup ts) x->(∀v H',zi H H'->Is H' (.tup (Zq ts lo hi)) v->Q v H')->lH x lo hi H Q
theorem js{X:Cx}:pZ X lH:=by intro a s c H x v e d lo p g Q I j o l k h;obtain⟨f,m,q⟩:=h;exact uA a s c H x v e d lo p g Q I j o l k ⟨f,m.off0,λb r=>r.elim,λv t i n=>q v t i n.off⟩
noncomputable def without(M:List Addr)(H:Hp):Hp:=λb=>if b∈M then none else H b
theorem vj:zi (without M H) H:=λb o e=>by
 unfold without at e
 simp_all
theorem yw(h:b∈M):without M H b=none:=if_pos h
theorem yt(h:b ∉ M):without M H b=H b:=if_neg h
theorem zi.without{M:O Y}{H a:Hp}(s:zi H a)(h:∀m∈M,H m=none):zi H (without M a):=λb o e=>by
 have z:b ∉ M:=λz=>by simp_all
 rw[yt z];exact s b o e
theorem At{a:Y}{o u:HO}(e:H a=some o):upd (upd H a u) a o=H:=by rw[IB];funext b;by_cases z:b=a;rw[z,zf,e];rw[upd_ne z]
end L2
namespace My
open PySem PySem.Spec PyProof.Rows L2
variable{a ad al am as cP cR cU x xp:Addr}{A:Around}{base:Heap}{H H' H0:Hp}{h:List Nat}{p:Nat}{P:Program}{s:Shared}{mg:Str->Option Value}{w:World}
noncomputable def Qy:Stmt:=aX 59
noncomputable abbrev Yz:Stmt:=(vk Qy).getD 0 dD
noncomputable abbrev uw:Stmt:=(vk Qy).getD 1 dD
noncomputable abbrev wT:Stmt:=(vk Qy).getD 3 dD
noncomputable abbrev vH:Stmt:=(vk Qy).getD 4 dD
noncomputable abbrev uv:Stmt:=(vk Qy).getD 5 dD
noncomputable abbrev Jc:Stmt:=(vk Qy).getD 7 dD
noncomputable abbrev Qb:Stmt:=(vk Qy).getD 8 dD
noncomputable abbrev pr:Stmt:=(vk Qy).getD 9 dD
noncomputable abbrev Je:Stmt:=(vk Qy).getD 10 dD
noncomputable def cJ:List Str:=["plan","done","sums","comers","lifts"]
noncomputable def fz(F ad as U Z:Addr):List (Str×V):=[(("plan":Str),.ref F),("done",.ref ad),("sums",.ref as),("comers",.ref U),("lifts",.ref Z)]
theorem Wq:(fz xp ad as am al).lookup ("plan":Str)=some (.ref xp):=rfl
theorem Zr:(fz xp ad as am al).lookup ("done":Str)=some (.ref ad):=rfl
theorem Bc:(fz xp ad as am al).lookup ("sums":Str)=some (.ref as):=rfl
noncomputable def mM(hs:aB):eA (List Nat) aD:=Of hs.ss (plan hs)
theorem Az{R:List (List Nat×Nat)}(c:(zm R).Nodup){q:List Nat×Nat}(h:q∈R):yi R q.1=q.2:=by induction R with|nil=>grind| cons a l d=>have b:=cu.mp c;show(if a.1=q.1 then a.2 else yi l q.1)=q.2;rcases ak.mp h with e|e;rw[e,if_pos J];have f:q.1∈zm l:=List.mem_map_of_mem e;rw[if_neg (λz=>b.1 (by simp_all))];exact d b.2 e
theorem Wy(hs:aB):(zm (plan hs)).Nodup:=Xe 20 _
theorem Q7{hs:aB}{q:O Nat×Nat}(h:q∈plan hs):(mM hs).scr q.1=hs.ss.getD q.2 []:=by show(if q.1∈zm (plan hs)then hs.ss.getD (yi (plan hs) q.1) []else[])=_;rw[if_pos (show q.1∈zm (plan hs)from List.mem_map_of_mem h),Az (Wy hs) h]
theorem zF{hs:aB}{q:O Nat×Nat}(h:q∈plan hs):(mM hs).bg q.1=Km hs.ss q:=by funext p;show(if q.1∈zm (plan hs)then(((hs.ss.getD (yi (plan hs) q.1) [])[p]?).bind aH).map (λ_=>q.1++[jx aH (hs.ss.getD (yi (plan hs) q.1) []) p])else none)=_;rw[if_pos (show q.1∈zm (plan hs)from List.mem_map_of_mem h),Az (Wy hs) h];rfl
theorem aN.role{hs:aB}{L:RL}(p:aN H cP cR hs L x)(e:h∈zm (plan hs)):∃dx vh ar r,H x=some (.ins cP dx (iY vh ar))/\H ar=some (.dT (y0 L))/\xa (y0 L) (kI (hZ h))=some (.ref r)/\aU (λ_=>True) H cR ((mM hs).scr h) ((mM hs).bg h) h r:=by
 obtain⟨dx,vh,ar,g,j,f,c,i⟩:=p;obtain⟨q,b,rfl⟩:=bz.mp e;have a:=b;rw[<-c]at b;obtain⟨z,d,rfl⟩:=bz.mp b;refine⟨dx,vh,ar,z.2,g,f,NV d (by rw[Y3 c];exact Wy hs),?_⟩;rw[Q7 a,zF a]
 simp_all
theorem B7{b:List (List Nat×Nat)}{n:Nat}(m:(zm b).Nodup):qo (y2 b) (kI (hZ h)) (.int (n:Int))=y2 (ql b h n):=by
 by_cases g:h∈zm b;have c:((y2 b).any λk=>decide (k.1=kI (hZ h)))=true:=by obtain⟨q,i,rfl⟩:=bz.mp g;exact List.any_eq_true.mpr ⟨_,List.mem_map_of_mem i,bp J⟩
 unfold qo;rw[if_pos c];clear c;induction b with|nil=>nomatch g| cons a l o=>
   have f:=cu.mp m;show(if kI (hZ a.1)=kI (hZ h)then(kI (hZ a.1),V.int n)else(kI (hZ a.1),V.int a.2))::_=y2 (if a.1=h then(a.1,n)::l else(a.1,a.2)::ql l h n);by_cases e:a.1=h;rw[if_pos (by rw[e]),if_pos e];congr 1;refine(List.map_congr_left λk j=>?_).trans (List.map_id' _);obtain⟨q,i,rfl⟩:=bz.mp j;refine if_neg λz=>f.1 ?_;have s:=Zp (Zx z)
   grind
   rw[if_neg (λz=>e (Zp (Zx z))),if_neg e];congr 1;rcases ak.mp g with z|z
   simp_all
   exact o f.2 z
 have p:xa (y2 b) (kI (hZ h))=none:=by cases e:xa (y2 b) (kI (hZ h))with|none=>rfl| some v=>have d:=wI e;unfold y2 at d;rw[bv]at d;obtain⟨q,i,r⟩:=bz.mp d;exact absurd (by rw[<-Zp (Zx r)];exact List.mem_map_of_mem i) g
 rw[X5 _ p,Qe g];unfold y2;simp
theorem Yv{b:List (List Nat×Nat)}(c:h∈zm b):xa (y2 b) (kI (hZ h))=some (.int (yi b h:Int)):=by
 induction b with|nil=>nomatch c| cons a l d=>
   show xa ((kI (hZ a.1),V.int a.2)::y2 l) _=some (.int ((if a.1=h then a.2 else yi l h:Nat)));by_cases e:a.1=h;rw[wz (by rw[e]),if_pos e];rw[wc (λz=>e (Zp (Zx z))),if_neg e];rcases ak.mp c with z|z
   simp_all
   exact d z
theorem NT{b:List (List Nat×Nat)}(c:h ∉ zm b):xa (y2 b) (kI (hZ h))=none:=by induction b with|nil=>rfl| cons a l d=>show xa ((kI (hZ a.1),V.int a.2)::y2 l) _=none;have e:a.1≠h:=λz=>c (by rw[<-z];exact bo);rw[wc (λz=>e (Zp (Zx z)))];exact d λz=>c (bn _ z)
inductive fQ(cU cP cR:Addr)(vs:List V)(H:Hp)(Q:VK)(e0:XK):Prop|mk:∀(H0:Hp)(x dx xp ad:Addr)(fs:List (Str×V))(hs:aB)(L:RL)(h:List Nat)(vh:V)(done:List (List Nat×Nat)),vs=[.ref x,vh,.int 0]->zi H0 H->H0 ad=none->H0 x=some (.ins cU dx fs)->fs.lookup ("plan":Str)=some (.ref xp)->fs.lookup ("done":Str)=some (.ref ad)->aN H0 cP cR hs L xp->h∈zm (plan hs)->Is H (tI (hZ h)) vh->H ad=some (.dT (y2 done))->(zm done).Nodup->done.length<=1000->(∀H',Bt [ad] H H'->H' ad=some (.dT (y2 (ql done h 0)))->Q .non H')->fQ cU cP cR vs H Q e0
section
variable{K:W.Frag}
theorem Aw:aA ["self","hand","done","role","deeds","deed","wall","came"] ["self","hand","done"] (zk uw):=.of
theorem Fz(D:jz K cU "put" "Run.put" uw)(G:aJ K cU cJ)(CP:aJ K cP aZ)(CR:aJ K cR aR):cC P w K mg base cU "put" 1 ["self","hand","done"] (fQ cU cP cR):=by
 refine Yp D Aw ?_;rintro f av A U s H vs Q E hr ⟨H0,x,dx,xp,ad,fs,n,L,h,vh,a,rfl,g,na,hx,f1,f2,PA,hh,Z,u,W,ah,k⟩ X;have hu:=Z0 hr;have q:=Aw.nd;refine⟨_,ze (zr (i:=3) q (v6 hu (yd (yd (pv 0) J) J) (pv 1))) (ze (zr (i:=4) q (yx js (yd (pv 3) J) xn (y1 (pv 2)))) (ze (Wx hu (yd (pv 0) J) (pv 1) (pv 2) J) (ze (w9 PassesOwn.never J (Zk (pv 4)) (ya (i:=5) q) wn) (zh (uX (w9 PassesOwn.never J (X8 (yd (pv 3) J)) (Zb J (yv (ya (i:=6) q) (yv (ya (i:=7) q) jb))) wn)))))),?_⟩
 obtain⟨dp,vv,ar,R,hp,ap,r,v,vc,vs,vl,ab,an,ac,kb,B,r2,r3,r4,r5,S,r7,_⟩:=PA.role hh;obtain⟨bh,rfl,t⟩:=Xi Z;refine⟨x,cU,dx,_,_,J,g _ _ hx,G.cls,G.n,f1,xp,cP,dp,_,_,J,g _ _ hp,CP.cls,CP.n,ji,ar,_,J,r▸je.t (g _ _ ap) t,?_⟩;refine⟨R,cR,v,_,_,J,g _ _ B,CR.cls,CR.n,ke,?_⟩;refine⟨0,J,_,(r2.mono g),λv1 F p i1=>?_⟩;have e0:Zq (((mM n).scr h).map eD) none (some 0)=[]:=by unfold Zq;have h2:HT.bS (((mM n).scr h).map eD).length (((mM n).scr h).map eD).length (some ((0):Int))=min 0 (((mM n).scr h).map eD).length:=HT.tz _ _ _;have h3:HT.bS (((mM n).scr h).map eD).length (((mM n).scr h).map eD).length (some 0)=0:=h2.trans (Nat.zero_min _);rw[h3,Nat.zero_sub,List.take_zero]
 rw[e0]at i1;obtain⟨a1,x1,rfl,l,af⟩:=i1;cases(af);have N:=g.trans p;refine⟨x,cU,dx,_,_,J,N _ _ hx,G.cls,G.n,f2,ad,_,J,Kp.t (p _ _ u) (p _ _ t) (by unfold y2;rw[ag];exact wa ah),?_⟩;rw[show(V.int 0)=V.int ((0:Nat))from rfl,B7 W];have b2:Bt [ad] H (upd F ad (.dT (y2 (ql a h 0)))):=p.bt.trans (Bt.upd (by simp));have d:upd F ad (.dT (y2 (ql a h 0))) ad=some (.dT (y2 (ql a h 0))):=zf;have j:upd F ad (.dT (y2 (ql a h 0))) a1=some (.tup []):=by rw[upd_ne (λz=>by rw[z,p _ _ u]at l;cases l)];exact l
 generalize upd F ad (.dT (y2 (ql a h 0)))=C at b2 d j⊢;have M:=b2.same g λm hm=>by rw[ai.mp hm];exact na
 refine⟨a1,J,⟨[],aG.of j⟩,?_⟩;refine Qr (λi c b=>C=b/\c=[some (.ref x),some (.ref bh),some (.int 0),some (.ref R),some (.ref a1),none,none,none]) ⟨J,J⟩ (λi c b _ ⟨e,_⟩=>by rw[<-e];exact aG.of j) (λi y c b hy _=>by cases hy) ?_;rintro c b ⟨rfl,rfl⟩;refine⟨ac,_,M _ _ S,trivial,λo=>?_⟩;have hf:upd C ac (.frz o (.dT [])) ac=some (.frz o (.dT [])):=zf;refine⟨R,cR,v,_,_,J,(by rw[upd_ne (λz=>by rw[z,S]at B;cases B)];exact M _ _ B),CR.cls,CR.n,vY,ac,o,[],J,hf,?_⟩;refine CH (λi c b=>upd C ac (.frz o (.dT []))=b) J (λi c b _ e=>by rw[<-e];exact hf) (λi y c b hy _=>by cases hy) ?_;rintro c b rfl;refine⟨hf,?_⟩;rw[At (M _ _ S)];exact k C b2 d
end
inductive dQ(H0:Hp)(cU cP cR:Addr)(hs:aB)(L:RL)(x ad as:Addr):Prop|mk:∀xp dx am al,aN H0 cP cR hs L xp->H0 x=some (.ins cU dx (fz xp ad as am al))->H0 am=some (.lst [])->H0 al=some (.lst [])->H0 ad=none->H0 as=none->dQ H0 cU cP cR hs L x ad as
def V0(H:Hp)(ad as:Addr)(U:List (List Nat×Nat))(F:List Int):Prop:=H ad=some (.dT (y2 U))/\H as=some (.lst (F.map V.int))
noncomputable def Ym(hs:aB):List Int:=List.replicate hs.b.toNat 0
inductive mZ(cU cP cR:Addr)(vs:List V)(H:Hp)(Q:VK)(e0:XK):Prop|mk:∀(G:Hp)(x dx xp d:Addr)(hs:aB)(L:RL)(F:List (List Nat)),vs=[.ref x,.ref xp,.ref d]->H x=some (.ins cU dx [])->zi G H->G x=none->G d=none->aN G cP cR hs L xp->dY hs->0<=hs.b->hs.b<=1000->H d=some (.dT (y2 (vx F)))->F.Nodup->(∀h∈F,h∈zm (plan hs))->(∀ad as H0 H',Bt [x] H H0->zi H0 H'->dQ H0 cU cP cR hs L x ad as->V0 H' ad as (vx F) (Ym hs)->Q .non H')->mZ cU cP cR vs H Q e0
section
variable{K:W.Frag}
theorem C5:aA ["self","plan","stand","hand","done"] ["self","plan","stand"] (zk Yz):=.of
theorem Mw(D:my K mg "Run" "Run.__init__" cU Yz)(T:Txt K mg)(CU:aJ K cU cJ)(CP:aJ K cP aZ)(o1:cC P w K mg base cU "put" 1 ["self","hand","done"] (fQ cU cP cR)):gj P w K mg base "Run" cU 2 ["self","plan","stand"] (mZ cU cP cR):=by
 refine sr (k:=1) D C5 ?_;rintro f dV A b7 s H vs Q E hr ⟨G,x,v,j,d,S,L,F,rfl,hx,sG,Gx,Gd,PA,W,dE,dv,hd,a4,hF,k⟩ X;have nd:=C5.nd;refine⟨_,ze (qb (pv 0) (pv 1) rfl) (ze (qb (pv 0) Qi rfl) (ze (qb (pv 0) (ye Aq (vf (zc zg zd)) (zp zx (yd (pv 1) rfl) (xv T.BOXES))) rfl) (ze (qb (pv 0) (kf (own:=["wall"]) (cap:=[]) rfl (we (zk Yz) rfl rfl (by decide+kernel) (by decide+kernel) (by decide+kernel) trivial) (va rfl T.range (zc (zp zx (yd (pv 1) rfl) (xv T.WALLS)) zd)) (λ_ _ _ _=>ya (i:=0) (by show(["wall"]:O Str).Nodup;decide+kernel)) (λ_ _ _ _=>qr) (λ_ _ _ _=>Y0)) rfl)
  (ze (uX (w9 PassesOwn.never rfl (X8 (pv 2)) (Zb rfl (yv (ya (i:=3) nd) (yv (ya (i:=4) nd) jb))) (zh (xl (kc o1 CU.cls hr (pv 0) (zc (pv 3) (zc (pv 4) zd))))))) (zh (qb (pv 0) (kf (own:=["wall"]) (cap:=[0]) rfl (we (zk Yz) rfl rfl (by decide+kernel) (by decide+kernel) (by decide+kernel) ⟨⟨_,rfl,.inl rfl,jw rfl⟩,trivial⟩) (va rfl T.range (zc (zp zx (yd (pv 1) rfl) (xv T.WALLS)) zd)) (λ_ _ _ _=>ya (i:=0) (by show(["wall","self"]:O Str).Nodup;decide+kernel)) (λ_ _ _ _=>qr) (λ_ _ _ _=>Y0)) rfl)))))),?_⟩
 obtain⟨dp,vh,ar,hp,ih,dK,dN,dr⟩:=id PA;have hw:=W.nw.w;obtain⟨ah,xh,u0,rfl,dh,e0,dn⟩:=Is.at (K:=K) (i:=0) (t:=.int S.b) ih rfl;refine⟨x,cU,v,[],rfl,hx,CU.cls,CU.n,aI,?_⟩;rw[show qv "plan" (.ref j) []=[(("plan":Str),V.ref j)] by rfl];have g1:upd H x (.ins cU v [(("plan":Str),V.ref j)]) x=_:=zf;have b1:Bt [x] H (upd H x (.ins cU v [(("plan":Str),V.ref j)])):=Bt.upd (by simp);generalize upd H x (.ins cU v [(("plan":Str),V.ref j)])=H1 at g1 b1⊢;intro ad B;have Z:ad≠x:=λz=>by rw[z,g1]at B;cases B
 have s2:=zi.new B (.dT []);have h2:upd H1 ad (.dT []) ad=some (.dT []):=zf;generalize upd H1 ad (.dT [])=H2 at s2 h2⊢;refine⟨x,cU,v,_,rfl,s2 _ _ g1,CU.cls,CU.n,aI,?_⟩;rw[show qv "done" (.ref ad) [(("plan":Str),V.ref j)]=[(("plan":Str),V.ref j),("done",.ref ad)] by rw[xi (by decide)];rfl];have g3:upd H2 x (.ins cU v [(("plan":Str),V.ref j),("done",.ref ad)]) x=_:=zf;have b3:Bt [x] H (upd H2 x (.ins cU v [(("plan":Str),V.ref j),("done",.ref ad)])):=(b1.trans s2.bt).trans (Bt.upd (by simp));have h3:upd H2 x (.ins cU v [(("plan":Str),V.ref j),("done",.ref ad)]) ad=_:=(upd_ne Z).trans h2;generalize upd H2 x (.ins cU v [(("plan":Str),V.ref j),("done",.ref ad)])=H3 at g3 b3 h3⊢;have sx:∀{J:Hp},Bt [x] H J->zi G J:=λ{J} b=>b.same sG λm t=>by rw[ai.mp t];exact Gx
 refine⟨aI,λp4 H4 s4 dt c0=>?_⟩;have b4:=b3.trans (M:=[x]) s4.bt;have a9:=sx b4;obtain⟨a',bN,u4,e',b5,e4,cv⟩:=Is.at (K:=K) (i:=0) (t:=.int S.b) (ih.mono a9) rfl;cases e';cases(show u4=.int S.b from cv);refine⟨j,cP,dp,_,_,rfl,a9 _ _ hp,CP.cls,CP.n,Qg,ah,bN,_,_,rfl,rfl,b5,e4,p4,S.b,_,rfl,rfl,c0,(by omega),(by omega),(by show 1*S.b.toNat<=sizeLine;exact Nat.le_of_lt (wa (by omega))),λas M=>?_⟩;have bI:(List.replicate S.b.toNat [V.int 0]).flatten=(Ym S).map V.int:=by unfold Ym;rw[List.map_replicate];induction S.b.toNat with|zero=>rfl|succ n ih=>rw[List.replicate_succ,List.flatten_cons,ih,List.replicate_succ];rfl
 rw[bI];have s5:=zi.new M (.lst ((Ym S).map V.int));have h5:upd H4 as (.lst ((Ym S).map V.int)) as=some (.lst ((Ym S).map V.int)):=zf;generalize upd H4 as (.lst ((Ym S).map V.int))=H5 at s5 h5⊢;have aS:as≠x:=λz=>by rw[z,s4 _ _ g3]at M;cases M
 have cn:as≠ad:=λz=>by rw[z,s4 _ _ h3]at M;cases M
 refine⟨x,cU,v,_,rfl,s5 _ _ (s4 _ _ g3),CU.cls,CU.n,aI,?_⟩;rw[show qv "sums" (.ref as) [(("plan":Str),V.ref j),("done",.ref ad)]=[(("plan":Str),V.ref j),("done",.ref ad),("sums",.ref as)] by rw[xi (by decide),xi (by decide)];rfl];have g6:upd H5 x (.ins cU v [(("plan":Str),V.ref j),("done",.ref ad),("sums",.ref as)]) x=_:=zf;have b6:Bt [x] H (upd H5 x (.ins cU v [(("plan":Str),V.ref j),("done",.ref ad),("sums",.ref as)])):=(b4.trans s5.bt).trans (Bt.upd (by simp));have h6:upd H5 x (.ins cU v [(("plan":Str),V.ref j),("done",.ref ad),("sums",.ref as)]) ad=_:=(upd_ne Z).trans (s5 _ _ (s4 _ _ h3));have i6:upd H5 x (.ins cU v [(("plan":Str),V.ref j),("done",.ref ad),("sums",.ref as)]) as=_:=(upd_ne aS).trans h5;generalize upd H5 x (.ins cU v [(("plan":Str),V.ref j),("done",.ref ad),("sums",.ref as)])=H6 at g6 b6 h6 i6⊢;have a8:=sx b6;obtain⟨a',bM,u6,e',b2,e6,cs⟩:=Is.at (K:=K) (i:=1) (t:=.int S.w) (ih.mono a8) rfl;cases e';cases(show u6=.int S.w from cs);rw[hw]at e6;refine⟨j,cP,dp,_,_,rfl,a8 _ _ hp,CP.cls,CP.n,Qg,ah,bM,_,_,rfl,rfl,b2,e6,?_⟩;refine⟨0,rfl,(by decide),(by decide),?_⟩;let c6:Nat->O V->Hp->Prop:=λi ys H'=>ys=[]/\H6=H';refine Yj (n:=(0:Int).toNat) c6 ⟨rfl,rfl⟩ (λ_ ys _ _ ⟨e,_⟩=>by rw[e];exact bf _) (λi _ _ h=>absurd h (fe _)) ?_;rintro ys H' ⟨rfl,rfl⟩ C N;have s7:=zi.new N (.lst []);have h7:upd H6 C (.lst []) C=some (.lst []):=zf;generalize upd H6 C (.lst [])=H7 at s7 h7⊢;have bc:C≠x:=λz=>by rw[z,g6]at N;cases N
 refine⟨x,cU,v,_,rfl,s7 _ _ g6,CU.cls,CU.n,aI,?_⟩;rw[show qv "comers" (.ref C) [(("plan":Str),V.ref j),("done",.ref ad),("sums",.ref as)]=[(("plan":Str),V.ref j),("done",.ref ad),("sums",.ref as),("comers",.ref C)] by rw[xi (by decide),xi (by decide),xi (by decide)];rfl];have g8:upd H7 x (.ins cU v [(("plan":Str),V.ref j),("done",.ref ad),("sums",.ref as),("comers",.ref C)]) x=_:=zf;have b8:Bt [x] H (upd H7 x (.ins cU v [(("plan":Str),V.ref j),("done",.ref ad),("sums",.ref as),("comers",.ref C)])):=(b6.trans s7.bt).trans (Bt.upd (by simp));have h8:upd H7 x (.ins cU v [(("plan":Str),V.ref j),("done",.ref ad),("sums",.ref as),("comers",.ref C)]) ad=_:=(upd_ne Z).trans (s7 _ _ h6);have i8:upd H7 x (.ins cU v [(("plan":Str),V.ref j),("done",.ref ad),("sums",.ref as),("comers",.ref C)]) as=_:=(upd_ne aS).trans (s7 _ _ i6);have j8:upd H7 x (.ins cU v [(("plan":Str),V.ref j),("done",.ref ad),("sums",.ref as),("comers",.ref C)]) C=_:=(upd_ne bc).trans h7;generalize upd H7 x (.ins cU v [(("plan":Str),V.ref j),("done",.ref ad),("sums",.ref as),("comers",.ref C)])=H8 at g8 b8 h8 i8 j8⊢;have a3:d≠x:=λz=>by rw[z,hx]at hd;cases hd
 have bC:=b8 d _ (λt=>a3 (ai.mp t)) hd;refine⟨d,_,bC,trivial,λo=>?_⟩;have a2:upd H8 d (.frz o (.dT (y2 (vx F)))) d=_:=zf;have a1:ad≠d:=λz=>by rw[z,b1 d _ (λt=>a3 (ai.mp t)) hd]at B;cases B
 have sf:zi G (upd H8 d (.frz o (.dT (y2 (vx F))))):=λb u e=>by rw[upd_ne (λz=>by rw[z,Gd]at e;cases e)];exact sx b8 b u e
 have gf:upd H8 d (.frz o (.dT (y2 (vx F)))) x=_:=(upd_ne (au a3)).trans g8;have hf:upd H8 d (.frz o (.dT (y2 (vx F)))) ad=_:=(upd_ne a1).trans h8;have ay:∀{J:Hp},Bt [ad] (upd H8 d (.frz o (.dT (y2 (vx F))))) J->Bt [ad] H8 (upd J d (.dT (y2 (vx F)))):=λ{J} b c u hc e=>by by_cases z:c=d;rw[z]at e⊢;rw[zf,<-e,bC];rw[upd_ne z];exact b c u hc (by rw[upd_ne z];exact e)
 generalize upd H8 d (.frz o (.dT (y2 (vx F))))=Hf at a2 sf gf hf ay⊢;have bK:G ad=none:=by cases e:G ad with|none=>rfl|some u=>rw[sx b1 _ _ e]at B;cases B
 have dT:F.length<=1000:=by
  have q:=Kr (f:=λ_=>1) a4 hF;have e:∀l:O (O Nat),(l.map λ_=>1).sum=l.length:=λl=>by induction l with|nil=>rfl|cons a r ih=>rw[c8,List.sum_cons,ih,dj];omega
  rw[e,e]at q;have q2:(zm (plan S)).length<=1000:=by unfold zm;rw[ag];exact W.few
  omega
 refine⟨d,o,_,rfl,a2,?_⟩;let c5:Nat->L2.St->Hp->Prop:=λi σ H'=>∃x3 x4,σ=[some (.ref x),some (.ref j),some (.ref d),x3,x4]/\Bt [ad] Hf H'/\H' ad=some (.dT (y2 (vx (F.take i))));refine CH (kvs:=y2 (vx F)) c5 ⟨none,none,rfl,Bt.refl,hf⟩ (λi σ H' _ ⟨_,_,_,b,_⟩=>b _ _ (λt=>a1 (ai.mp t).symm) a2) ?_ ?_;rintro i kv σ H' av ⟨x3,x4,rfl,b9,h9⟩ p b cw hb;obtain⟨h,hh,rfl⟩:∃h,F[i]?=some h/\(kI (hZ h),V.int 0)=kv:=by unfold y2 vx at av;rw[bv,bi]at av;cases e:F[i]? with|none=>rw[e]at av;cases av|some z=>rw[e]at av;exact⟨z,rfl,Option.some.inj av⟩
 have sp:=zi.new cw (.tup [.ref b,.int 0]);have bB:upd H' p (.tup [.ref b,.int 0]) p=some (.tup [.ref b,.int 0]):=zf;generalize upd H' p (.tup [.ref b,.int 0])=Ha at sp bB⊢;have ba:=b9.trans (M:=[ad]) sp.bt;refine⟨p,_,rfl,aG.of bB,rfl,_,_,rfl,_,_,rfl,rfl,?_⟩;have bg:x≠ad:=au Z;have nk:h ∉ zm (vx (F.take i)):=λt=>by
  unfold zm vx at t;rw[bv]at t;obtain⟨g,hg,rfl⟩:=bz.mp t;have q:=a4;obtain⟨c2,c1⟩:=ci.mp hh;have e3:F=F.take i++F[i]::F.drop (i+1):=by rw[<-List.drop_eq_getElem_cons c2,List.take_append_drop]
  rw[e3]at q;exact(List.nodup_append.mp q).2.2 _ hg _ bo c1.symm
 refine⟨x,v,_,rfl,ba _ _ (λt=>bg (ai.mp t)) gf,rfl,without [ad] Hf,x,v,j,ad,[(("plan":Str),V.ref j),("done",.ref ad),("sums",.ref as),("comers",.ref C)],S,L,h,.ref b,vx (F.take i),rfl,ba.same vj (λm t=>yw t),yw (by simp),?_,rfl,rfl,?_,hF h (bq hh),?_,sp _ _ h9,?_,?_,λHb bb c3=>?_⟩;rw[yt (λt=>bg (ai.mp t))];exact gf;exact PA.same (sf.without λm t=>by rw[ai.mp t];exact bK);exact⟨b,_,rfl,sp _ _ (by rw[<-mH];exact hb),IsL.ints.mpr rfl⟩;unfold zm vx;rw[bv];exact(List.map_id' (F.take i)).symm▸a4.sublist (List.take_sublist ..);unfold vx;rw[ag,bu];omega;refine⟨_,_,rfl,ba.trans bb,?_⟩;rw[c3,Qe nk];unfold vx;rw[de,hh,aq];rfl;rintro σ H9 ⟨x3,x4,rfl,b9,h9⟩;have el:(y2 (vx F)).length=F.length:=by unfold y2 vx;rw[ag,ag]
 rw[el,dg]at h9;refine⟨b9 _ _ (λt=>a1 (ai.mp t).symm) a2,?_⟩;have aw:=ay b9;have a5:upd H9 d (.dT (y2 (vx F))) ad=_:=(upd_ne a1).trans h9;generalize upd H9 d (.dT (y2 (vx F)))=Ht at aw a5⊢;have cc:C≠as:=λz=>by rw[z,i6]at N;cases N
 have bd:C≠ad:=λz=>by rw[z,h6]at N;cases N
 have gt:=aw _ _ (λt=>Z (ai.mp t).symm) g8;have it:=aw _ _ (λt=>cn (ai.mp t)) i8;have jt:=aw _ _ (λt=>bd (ai.mp t)) j8;have a7:zi G Ht:=aw.same (sx b8) λm t=>by rw[ai.mp t];exact bK
 obtain⟨a',bL,u9,e',b0,e9,co⟩:=Is.at (K:=K) (i:=1) (t:=.int S.w) (ih.mono a7) rfl;cases e';cases(show u9=.int S.w from co);rw[hw]at e9;refine⟨j,cP,dp,_,_,rfl,a7 _ _ hp,CP.cls,CP.n,Qg,ah,bL,_,_,rfl,rfl,b0,e9,?_⟩;refine⟨0,rfl,(by decide),(by decide),?_⟩;let c4:Nat->O V->Hp->Prop:=λi ys H'=>ys=[]/\Ht=H';refine Yj (n:=(0:Int).toNat) c4 ⟨rfl,rfl⟩ (λ_ ys _ _ ⟨e,_⟩=>by rw[e];exact bf _) (λi _ _ h=>absurd h (fe _)) ?_;rintro ys H' ⟨rfl,rfl⟩ U R;have ap:=zi.new R (.lst []);have bE:upd Ht U (.lst []) U=some (.lst []):=zf;generalize upd Ht U (.lst [])=af at ap bE⊢;have cb:U≠x:=λz=>by rw[z,gt]at R;cases R
 have ck:U≠as:=λz=>by rw[z,it]at R;cases R
 have cl:U≠ad:=λz=>by rw[z,a5]at R;cases R
 refine⟨x,cU,v,_,rfl,ap _ _ gt,CU.cls,CU.n,aI,?_⟩;rw[show qv "lifts" (.ref U) [(("plan":Str),V.ref j),("done",.ref ad),("sums",.ref as),("comers",.ref C)]=fz j ad as C U by rw[xi (by decide),xi (by decide),xi (by decide),xi (by decide)];rfl];have bG:upd af x (.ins cU v (fz j ad as C U)) x=_:=zf;have bD:upd af x (.ins cU v (fz j ad as C U)) ad=_:=(upd_ne Z).trans (ap _ _ a5);have bl:upd af x (.ins cU v (fz j ad as C U)) as=_:=(upd_ne aS).trans (ap _ _ it);have bk:upd af x (.ins cU v (fz j ad as C U)) C=_:=(upd_ne bc).trans (ap _ _ jt);have bh:upd af x (.ins cU v (fz j ad as C U)) U=_:=(upd_ne cb).trans bE;have bJ:∀b u,b≠x->b≠ad->H8 b=some u->upd af x (.ins cU v (fz j ad as C U)) b=some u:=λb u z1 z2 e=>by rw[upd_ne z1];exact ap _ _ (aw b u (λt=>z2 (ai.mp t)) e)
 generalize upd af x (.ins cU v (fz j ad as C U))=a6 at bG bD bl bk bh bJ⊢;have da:∀b u,H b=some u->b≠x->b≠ad/\b≠as:=λb u e z=>⟨(λy=>by rw[y]at e z;rw[b1 _ _ (λt=>z (ai.mp t)) e]at B;cases B),(λy=>by rw[y]at e z;rw[b4 _ _ (λt=>z (ai.mp t)) e]at M;cases M)⟩
 have bw:Bt [x] H (without [ad,as] a6):=λb u hb e=>by have z:b≠x:=λz=>hb (ai.mpr z);obtain⟨z1,z2⟩:=da b u e z;rw[yt (by simp[z1,z2])];exact bJ b u z z1 (b8 b u hb e)
 refine k ad as (without [ad,as] a6) a6 bw vj ⟨j,v,C,U,PA.same (sx bw),?_,?_,?_,yw (by simp),yw (by simp)⟩ ⟨bD,bl⟩;rw[yt (by simp[au Z,au aS])];exact bG;rw[yt (by simp[bd,cc])];exact bk;rw[yt (by simp[cl,ck])];exact bh
end
noncomputable abbrev X1:Stmt:=aX 60
inductive io(cU cP cR:Addr)(vs:List V)(H:Hp)(Q:VK)(e0:XK):Prop|mk:∀(xp:Addr)(hs:aB)(L:RL),vs=[.ref xp]->aN H cP cR hs L xp->dY hs->(∀x ad as H0 H',zi H H0->zi H0 H'->H x=none->dQ H0 cU cP cR hs L x ad as->V0 H' ad as (vx (Kk (plan hs))) (Ym hs)->Q (.ref x) H')->io cU cP cR vs H Q e0
structure bW(H0 H:Hp)(cU cP cR:Addr)(hs:aB)(L:RL)(x ad as:Addr)(done:List (List Nat×Nat))(sums:List Int):Prop where
 f:dQ H0 cU cP cR hs L x ad as
 s:zi H0 H
 m:V0 H ad as done sums
theorem bW.same{hs:aB}{L:RL}{b:O (O Nat×Nat)}{a:O Int}(r:bW H0 H cU cP cR hs L x ad as b a)(s:zi H H'):bW H0 H' cU cP cR hs L x ad as b a:=⟨r.f,r.s.trans s,s _ _ r.m.1,s _ _ r.m.2⟩
theorem bW.bt{hs:aB}{L:RL}{f d:O (O Nat×Nat)}{e c:O Int}(r:bW H0 H cU cP cR hs L x ad as f e)(b:Bt [ad,as] H H')(m:V0 H' ad as d c):bW H0 H' cU cP cR hs L x ad as d c:=by
 refine⟨r.f,b.same r.s λa j=>?_,m⟩;obtain⟨g,k,l,n,_,_,_,_,i,h⟩:=r.f
 grind
theorem W8{hs:aB}{d:aD}(e:((mM hs).scr h)[p]?=some d):∃s∈hs.ss,d∈s:=by have a:(if h∈zm (plan hs)then hs.ss.getD (yi (plan hs) h) []else[])[p]?=some d:=e;by_cases c:h∈zm (plan hs);rw[if_pos c]at a;have q:=vJ a;exact⟨_,bq q,bq a⟩;rw[if_neg c]at a;cases a
theorem A7{hs:aB}(W:yE hs)(h:List Nat):((mM hs).scr h).length<=1000:=by
 show(if h∈zm (plan hs)then hs.ss.getD (yi (plan hs) h) []else[]).length<=1000;by_cases c:h∈zm (plan hs);rw[if_pos c,di];cases e:hs.ss[yi (plan hs) h]? with|none=>simp|some s=>exact W.len s (bq e)
 simp_all
def Eh(H:Hp)(d:Option aD)(v:V):Prop:=match d with|none=>v=.non|some d=>Is H (eD d) v
noncomputable def rR(hs:aB)(U:List (List Nat×Nat))(F:List Int)(h:List Nat):Bool:=match((mM hs).scr h)[yi U h]? with|none=>false| some d=>match tO d with|none=>true|some (b,m)=>decide (m<=F.getD b 0)
inductive kN(cU cP cR:Addr)(vs:List V)(H:Hp)(Q:VK)(e0:XK):Prop|mk:∀(H0:Hp)(x ad as:Addr)(hs:aB)(L:RL)(done:List (List Nat×Nat))(sums:List Int)(h:List Nat)(vh:V),vs=[.ref x,vh]->bW H0 H cU cP cR hs L x ad as done sums->h∈zm (plan hs)->h∈zm done->dY hs->Is H (tI (hZ h)) vh->(∀v,Eh H (((mM hs).scr h)[yi done h]?) v->Q v H)->kN cU cP cR vs H Q e0
inductive nM(cU cP cR:Addr)(vs:List V)(H:Hp)(Q:VK)(e0:XK):Prop|mk:∀(H0:Hp)(x ad as:Addr)(hs:aB)(L:RL)(done:List (List Nat×Nat))(sums:List Int)(b:Nat)(v:V),vs=[.ref x,v]->bW H0 H cU cP cR hs L x ad as done sums->Is H (.tup [.str "await",.int (b:Int)]) v->b<sums.length->Q (.int (sums.getD b 0)) H->nM cU cP cR vs H Q e0
inductive nL(cU cP cR:Addr)(vs:List V)(H:Hp)(Q:VK)(e0:XK):Prop|mk:∀(H0:Hp)(x ad as:Addr)(hs:aB)(L:RL)(done:List (List Nat×Nat))(sums:List Int)(h:List Nat)(vh:V),vs=[.ref x,vh]->bW H0 H cU cP cR hs L x ad as done sums->h∈zm (plan hs)->h∈zm done->dY hs->sums.length=hs.b.toNat->Is H (tI (hZ h)) vh->(∀H',zi H H'->Q (.bl (rR hs done sums h)) H')->nL cU cP cR vs H Q e0
section
variable{K:W.Frag}
theorem NG:aA ["plan"] ["plan"] (zk X1):=⟨J,J,J,by simp,J,by decide+kernel,by decide+kernel⟩
theorem AL{hs:aB}:∀h∈Kk (plan hs),h∈zm (plan hs):=λh a=>(f8.mp a).1
theorem Aj{hs:aB}:(Kk (plan hs)).Nodup:=(Wy hs).filter _
theorem Nv(D:aY K mg "first_run" X1)(S:aJ K cP aZ)(y:cC P w K mg base cP "at_first" 1 ["self"] (oo cP cR))(v:gj P w K mg base "Run" cU 2 ["self","plan","stand"] (mZ cU cP cR)):Ok P w K mg base "first_run" 4 ["plan"] (io cU cP cR):=by
 refine qk D NG ?_;rintro f G A h s H U Q E p ⟨c,i,L,rfl,PA,W,k⟩ X;refine⟨_,zh (zt (qO v p (zc (pv 0) (zc (Ku y S.cls (p.mono (by decide)) (pv 0)) zd)))),?_⟩;obtain⟨F,Z,ar,z,_⟩:=id PA;refine⟨c,F,_,J,z,J,c,i,L,J,W,PA,λd q a j m=>?_⟩;intro x n hx l B;have g:zi q (upd (upd q n (.own x)) x (.ins cU n [])):=λb o e=>by rw[upd_ne (zn e hx),upd_ne (zn e l)];exact e
 refine⟨H,x,n,c,d,i,L,Kk (plan i),J,zf,a.trans g,wm a hx,j,PA,W,W.b0,W.b9,g _ _ m,Aj,AL,λad as N R M r u t=>⟨J,?_⟩⟩;refine k x ad as N R (λb o e=>?_) r (wm a hx) u t;refine M b o (λC=>?_) (g _ _ (a _ _ e));rw[ai.mp C,wm a hx]at e;cases e
theorem A4:aA ["self","hand","script","place"] ["self","hand"] (zk vH):=.of
theorem Ia(D:jz K cU "next_deed" "Run.next_deed" vH)(T:Txt K mg)(l:aJ K cU cJ)(C:aJ K cP aZ)(CR:aJ K cR aR):cC P w K mg base cU "next_deed" 1 ["self","hand"] (kN cU cP cR):=by
 refine Yp D A4 ?_;rintro f af A n s H G Q E U ⟨H0,x,ad,as,S,L,j,t,h,vh,rfl,R,hh,hk,W,o,k⟩ X;have y:=Z0 U;have v:=A4.nd;refine⟨_,ze (zr (i:=2) v (yd (v6 y (yd (yd (pv 0) J) J) (pv 1)) J)) (ze (zr (i:=3) v (v6 y (yd (pv 0) J) (pv 1))) (zh (zt (Qh (zu mI (pv 3) (yh ym J T.len vm (zc (pv 2) zd)) (yb _)) (zp zx (pv 2) (pv 3)) X9)))),?_⟩
 obtain⟨F,z,am,al,PA,hx,_⟩:=R.f;obtain⟨dp,vv,ar,M,Z,p,a,q,vc,G,vl,ab,an,ac,kb,N,m,_⟩:=PA.role hh;obtain⟨bh,rfl,d⟩:=Xi o;have m:=m.mono R.s;obtain⟨B,r,rfl,g,b⟩:=m;have i:=b.length;rw[ag]at i;refine⟨x,cU,z,_,_,J,R.s _ _ hx,l.cls,l.n,Wq,F,cP,dp,_,_,J,R.s _ _ Z,C.cls,C.n,ji,ar,_,J,a▸je.t (R.s _ _ p) d,M,cR,q,_,_,J,R.s _ _ N,CR.cls,CR.n,ke,?_⟩;refine⟨x,cU,z,_,_,J,R.s _ _ hx,l.cls,l.n,Zr,ad,_,J,Yv hk▸je.t R.m.1 d,?_⟩;refine⟨B,r,J,.inr (aG.of g),_,_,J,J,_,J,?_⟩;rw[i];by_cases c:yi j h<((mM S).scr h).length;rw[bp (by omega)];have e:=br c;obtain⟨u,e1,e2⟩:=b.get (by rw[bi,e];rfl);refine y3 ⟨B,r,_,u,J,J,aG.of g,wx e1,k u ?_⟩;rw[e];exact e2;rw[cf (by omega)];refine yy (k .non ?_);rw[List.getElem?_eq_none (by omega)];rfl
theorem La:aA ["self","ground"] ["self","ground"] (zk wT):=.of
theorem JS(D:jz K cU "level" "Run.level" wT)(m:aJ K cU cJ):cC P w K mg base cU "level" 1 ["self","ground"] (nM cU cP cR):=by
 refine Yp D La ?_;rintro f q A c s H t Q E F ⟨S,x,ad,as,C,L,j,i,b,v,rfl,R,o,G,k⟩ X;refine⟨_,zh (zt (Qh (zu wt (zp zx (pv 1) zg) zo (yb _)) (zp qg (yd (pv 0) J) (zp zx (pv 1) zg)) Y0)),?_⟩;obtain⟨r,p,M,N,PA,hx,_⟩:=R.f;obtain⟨l,n,rfl,a,h⟩:=o;obtain⟨y,z,rfl,e,u,B,rfl,d,g⟩:=h;cases(g);cases(e);cases(d);refine⟨l,_,_,_,J,J,aG.of a,J,J,_,J,y3 ?_⟩;refine⟨x,cU,p,_,_,J,R.s _ _ hx,m.cls,m.n,Bc,l,_,_,_,J,J,aG.of a,J,as,_,_,_,J,J,aM.of R.m.2,wx ?_,k⟩
 simp_all
end
theorem yU{c:Type}(a b:c)(r:O c):Zq (a::b::r) none (some 2)=[a,b]:=by unfold Zq;have e:HT.bS (a::b::r).length (a::b::r).length (some ((2:Nat)))=min 2 (a::b::r).length:=HT.tz _ _ _;have d:HT.bS (a::b::r).length (a::b::r).length (some 2)=2:=e.trans (by rw[dj,dj];omega);rw[d,HT.re];rfl
noncomputable def oQ:aD->List L2.T|.rai b _=>[.tup [.str "await",.int b]]|_=>[]
inductive kX(vs:List V)(H:Hp)(Q:VK)(e0:XK):Prop|mk:∀(x lw:Addr)(vd:V)(d:aD),vs=[.ref x,vd,.ref lw]->Is H (eD d) vd->H lw=some (.lst [])->(∀l H',zi H H'->H l=none->Is H' (.lst (oQ d)) (.ref l)->Q (.ref l) H')->kX vs H Q e0
section
variable{K:W.Frag}
theorem Av:aA ["self","hand","deed","need"] ["self","hand"] (zk uv):=.of
theorem Fy(D:jz K cU "may_go_on" "Run.may_go_on" uv)(l:aJ K cU cJ)(CP:aJ K cP aZ)(CR:aJ K cR aR)(o1:cC P w K mg base cU "next_deed" 1 ["self","hand"] (kN cU cP cR))(o2:cC P w K mg base cU "level" 1 ["self","ground"] (nM cU cP cR))(o3:Ok P w K mg base "is_met" 1 ["level","need"] nP):cC P w K mg base cU "may_go_on" 2 ["self","hand"] (nL cU cP cR):=by
 refine Yp D Av ?_;rintro f aw A u s H vs Q E r ⟨H0,x,ad,as,z,L,a,i,h,vh,rfl,R,Z,hk,W,af,n,k⟩ X;have U:=Z0 r;have S:=Av.nd;refine⟨_,ze (zr (i:=2) S (kc o1 l.cls r (pv 0) (zc (pv 1) zd))) (ze (yj (Jh (sL (pv 2))) (zh (zt wr)) zy) (ze (zr (i:=3) S (zp qg (yd (v6 U (yd (yd (pv 0) J) J) (pv 1)) J) (v6 U (yd (pv 0) J) (pv 1)))) (zh (zt (zO (uT (sL (pv 3))) (Zl (yc o3 r (zc (kc o2 l.cls r (pv 0) (zc (yx js (pv 2) xn (y1 zg)) zd)) (zc (pv 3) zd))))))))),?_⟩
 obtain⟨xp,t,am,al,PA,hx,_⟩:=id R.f;refine⟨x,t,_,J,R.s _ _ hx,J,H0,x,ad,as,z,L,a,i,h,vh,J,R,Z,hk,W,n,λv j=>?_⟩;unfold rR at k;cases e:((mM z).scr h)[yi a h]? with
 | none=>rw[e]at j k;cases(j);exact⟨_,J,y3 (k H (zi.refl H))⟩
 | some d=>
   rw[e]at j k;have j:Is H (eD d) v:=j;obtain⟨rr,B⟩:=Wm d;obtain⟨a5,x5,rfl,av,ah⟩:=(B▸j)
   refine⟨_,J,yy ?_⟩;obtain⟨dp,vv,ar,rl,hp,G,o,M,vc,vs,vl,ab,an,ac,kb,r1,r2,r3,r4,r5,_⟩:=PA.role Z;obtain⟨bh,rfl,p⟩:=Xi n;refine⟨x,cU,t,_,_,J,R.s _ _ hx,l.cls,l.n,Wq,xp,cP,dp,_,_,J,R.s _ _ hp,CP.cls,CP.n,ji,ar,_,J,o▸je.t (R.s _ _ G) p,rl,cR,M,_,_,J,R.s _ _ r1,CR.cls,CR.n,B9,?_⟩;refine⟨x,cU,t,_,_,J,R.s _ _ hx,l.cls,l.n,Zr,ad,_,J,Yv hk▸je.t R.m.1 p,an,_,_,Zz d,J,J,aM.of (R.s _ _ r5),wx (by rw[bi,e];rfl),?_⟩;obtain⟨q,c,g⟩:=W8 e;cases d with
   | awa b m=>obtain⟨F,ap⟩:=W.box q c _ g b m (.inr J);refine⟨_,J,yy ?_⟩;refine⟨x,t,_,J,R.s _ _ hx,J,2,J,_,j,λv2 H2 N y=>?_⟩;rw[(yU _ _ _)]at y;have C:=Int.toNat_of_nonneg F;rw[<-C]at y;refine⟨H0,x,ad,as,z,L,a,i,b.toNat,v2,J,R.same N,y,by omega,_,_,J,k H2 N⟩
   |com w=>exact(W.nw.deeds q c _ g).elim
   |goo w=>exact(W.nw.deeds q c _ g).elim
   |lea w=>exact(W.nw.deeds q c _ g).elim
   |_=>exact⟨_,J,y3 (k H (zi.refl H))⟩
theorem C3:aA ["self","deed","walls","grounds","wall","lift"] ["self","deed","walls"] (zk Je):=.of
theorem Mo(D:jz K cU "changed" "Run.changed" Je):cC P w K mg base cU "changed" 1 ["self","deed","walls"] kX:=by
 refine Yp D C3 ?_;rintro f ah A F s H vs Q E hr ⟨x,t,vd,d,rfl,hd,c,k⟩ X;have Z:=C3.nd;refine⟨_,ze (zr (i:=3) Z (Qh (zu wt (zp zx (pv 1) zg) zo (yb _)) (vf (zc (yg (zc zo (zc (zp zx (pv 1) zg) zd))) zd)) (vf zd))) (ze (w9 PassesOwn.never J (Wz (pv 2)) (ya (i:=4) Z) wn) (zh (zt (pv 3)))),?_⟩
 obtain⟨r,N⟩:=Wm d;obtain⟨u,z,u5,rfl,C,U,M⟩:=Is.at (i:=0) (N▸hd) J;cases(M);refine⟨u,z,_,_,J,J,C,U,J,_,J,?_⟩;cases d with| rai b m=>
   obtain⟨a6,v,u6,e6,B,S,L⟩:=Is.at (i:=1) hd J;cases e6;cases(L);refine y3 ⟨u,v,_,_,J,J,B,S,aI,λp H1 W af R=>⟨aI,λl q o j n=>?_⟩⟩;have h:=W.trans o;have iL:Is q (.lst (oQ (.rai b m))) (.ref l):=⟨l,_,J,n,IsL.one ⟨p,_,J,o _ _ R,IsL.two J J⟩⟩
   refine⟨t,J,⟨[],aM.of (h _ _ c)⟩,?_⟩;refine Yk (λi a g=>q=g/\a=[some (V.ref x),some (.ref u),some (.ref t),some (.ref l),none,none]) ⟨J,J⟩ (λi a g _ ⟨e,_⟩=>by rw[<-e];exact aM.of (h _ _ c)) (λi y a g G _=>by cases G) ?_;rintro a g ⟨rfl,rfl⟩;exact(k l q h (wm W j) iL)| _=>refine yy ⟨bf _,λl q o j n=>?_⟩;refine⟨t,J,⟨[],aM.of (o _ _ c)⟩,?_⟩;refine Yk (λi a g=>q=g/\a=[some (V.ref x),some (.ref u),some (.ref t),some (.ref l),none,none]) ⟨J,J⟩ (λi a g _ ⟨e,_⟩=>by rw[<-e];exact aM.of (o _ _ c)) (λi y a g G _=>by cases G) ?_;rintro a g ⟨rfl,rfl⟩;exact(k l q o j ⟨l,_,J,n,J⟩)
end
noncomputable def Du:List Str:=["self","hand","role","place","deed","wall"]
theorem uy:aA Du ["self","hand"] (zk pr):=.of
noncomputable def Ys(hs:aB)(F:List (List Nat×Nat))(h:List Nat):List (List Nat×Nat):=ml (ql F h (yi F h+1)) ((mM hs).bg h (yi F h))
inductive nU(cU cP cR:Addr)(vs:List V)(H:Hp)(Q:VK)(e0:XK):Prop|mk:∀(H0:Hp)(x ad as:Addr)(hs:aB)(L:RL)(done:List (List Nat×Nat))(sums:List Int)(h:List Nat)(vh:V)(d:aD),vs=[.ref x,vh]->bW H0 H cU cP cR hs L x ad as done sums->h∈zm (plan hs)->h∈zm done->dY hs->sums.length=hs.b.toNat->Is H (tI (hZ h)) vh->((mM hs).scr h)[yi done h]?=some d->(zm done).Nodup->done.length<=999->(∀l H',Bt [ad,as] H H'->H l=none->V0 H' ad as (Ys hs done h) (qi sums (cK d))->Is H' (.lst (oQ d)) (.ref l)->Q (.ref l) H')->nU cU cP cR vs H Q e0
theorem Hc{hs:aB}(W:dY hs){g:O Nat}(e:(mM hs).bg h p=some g):g∈zm (plan hs):=((AZ (Bf W.nw.later) W.s20).new h p g e).1
theorem EG{d:aD}(h:gH d):decide (V.str (dw d)=V.str "come")=false/\decide (V.str (dw d)=V.str "leave")=false/\md (.str (dw d)) [.str "come",.str "leave"]=false:=by cases d<;>first|exact⟨J,J,J⟩|exact h.elim
section
variable{K:W.Frag}
theorem V0.tups{H f:Hp}{ad as:Y}{d:O (O Nat×Nat)}{c:O Int}(m:V0 H ad as d c)(b:Bt [ad,as] H f):yo H f:=b.tups λa g h e=>by rcases ak.mp g with z|z;rw[z,m.1]at e;cases e;rw[ai.mp z,m.2]at e;cases e
theorem Gp(T:Txt K mg)(CU:aJ K cU cJ)(CR:aJ K cR aR)(oC:cC P w K mg base cU "changed" 1 ["self","deed","walls"] kX){f:Y}{cdv:I}{outer:O Env}{Q:VK}{E:XK}(hr:aP 1 (A.deeper (envOfC "Run.do" (zk pr) s.heap.objs.size f cdv))) {dx v c ab an ac a5:Y} {vc vs vl:V} {v1:V} {ds:yf} {d:aD} (hx:H0 x=some (.ins cU dx (fz xp ad as am al))) (C:H0 v=some (.ins cR c (lY vc vs vl ab an ac))) (r2:Is H0 (eS ds) vs) (F:H0 ac=some (.dT [])) (W:gH d):
  ∃ tt,dZ (Xl fZ P w K mg base Du "Run.do" (zk pr) f cdv A outer s H E).nox ((xj pr).drop 6) tt/\∀H',zi H0 H'->Is H' (eD d) (.ref a5)->(∀l u,zi H' u->H' l=none->Is u (.lst (oQ d)) (.ref l)->Q (.ref l) u)->
    tt (.of Q) [some (.ref x),some v1,some (.ref v),some (.int (p:Int)),some (.ref a5),none] H':=by
 have nd:=uy.nd;refine⟨_,ze (yj (zu wt (zp zx (pv 4) zg) zo (yb _)) wn zy) (ze (yj (zu wt (zp zx (pv 4) zg) zo (yb _)) wn zy) (ze (yj (zu wt (ye wb (pv 3) zg) (yh ym (by rfl) T.len vm (zc (yd (pv 2) J) zd)) (yb _)) (ze (uX (w9 PassesOwn.never J (B5 (yd (pv 2) J)) (ya (i:=5) nd) wn)) (zh (zt (kc oC CU.cls hr (pv 0) (zc (pv 4) (zc (vz (CQ J) (by rfl) T.list Ky (zc (yd (pv 2) J) zd)) zd)))))) zy)
  (zh (zt (kc oC CU.cls hr (pv 0) (zc (pv 4) (zc (Qh (zu Y1 (zp zx (pv 4) zg) (qd (zc zo (zc zo zd))) J) Y0 (vf zd)) zd))))))),?_⟩
 intro H' a M k;obtain⟨e1,e2,e3⟩:=EG W;obtain⟨r,U⟩:=Wm d;obtain⟨a6,g,u5,e6,h,t,S⟩:=Is.at (i:=0) (U▸M) J;cases e6;cases(S);refine⟨a5,g,_,_,J,J,h,t,J,_,J,?_⟩;rw[e1];refine yy ⟨a5,g,_,_,J,J,h,t,J,_,J,?_⟩;rw[e2];refine yy ?_;obtain⟨aS,xS,rfl,af,ah⟩:=r2.mono a;refine⟨_,_,J,J,v,cR,c,_,_,J,a _ _ C,CR.cls,CR.n,ke,aS,xS,J,.inr (aG.of af),J,_,J,?_⟩;refine jy (λ_=>?_) (λ_=>?_);refine⟨ac,_,a _ _ F,trivial,λo=>?_⟩;have Z:upd H' ac (.frz o (.dT [])) ac=some (.frz o (.dT [])):=zf;refine⟨v,cR,c,_,_,J,(by rw[upd_ne (λz=>by rw[z,F]at C;cases C)];exact a _ _ C),CR.cls,CR.n,vY,ac,o,[],J,Z,?_⟩;refine KW (λi D G=>upd H' ac (.frz o (.dT []))=G/\D=[some (.ref x),some v1,some (.ref v),some (.int p),some (.ref a5),none]) ⟨J,J⟩ (λi D G _ ⟨e,_⟩=>by rw[<-e];exact Z) (λi y D G b hy _=>by cases hy) ?_;rintro D G ⟨rfl,rfl⟩;refine⟨Z,?_⟩;rw[At (a _ _ F)];refine⟨x,dx,_,J,a _ _ hx,J,v,cR,c,_,_,J,a _ _ C,CR.cls,CR.n,vY,ac,[],J,⟨[],a _ _ F,J⟩,λys q H2 B X m R=>?_⟩;cases(R);exact⟨x,q,.ref a5,d,J,M.mono B,m,λl H3 L n N=>k l H3 (B.trans L) (wm B n) N⟩;refine⟨x,dx,_,J,a _ _ hx,J,a5,g,_,_,J,J,h,t,(by decide),λq hq=>⟨q,_,J,.inr (aG.of zf),J,J,_,J,?_⟩⟩;rw[e3];have s1:=zi.new hq (.tup [.str "come",.str "leave"]);refine yy ⟨bf _,λq2 H2 B X m=>?_⟩;have j:=s1.trans B;exact⟨x,q2,.ref a5,d,J,M.mono j,m,λl H3 L n N=>k l H3 (j.trans L) (wm j n) N⟩
theorem Eo(D:jz K cU "do" "Run.do" pr)(T:Txt K mg)(n:aJ K cU cJ)(CP:aJ K cP aZ)(CR:aJ K cR aR)(oC:cC P w K mg base cU "changed" 1 ["self","deed","walls"] kX)(oP:cC P w K mg base cU "put" 1 ["self","hand","done"] (fQ cU cP cR)):cC P w K mg base cU "do" 2 ["self","hand"] (nU cU cP cR):=by
 refine Yp (k:=1) D uy ?_;rintro f b6 A B s H vs Q E hr ⟨H0,x,ad,as,N,L,a,c,h,vh,d,rfl,R,hh,hk,W,b9,bg,hd,af,cc,k⟩ X;have hu:=Z0 hr;have nd:=uy.nd;obtain⟨xp,dx,am,al,PA,hx,_,_,bd,b8⟩:=id R.f;obtain⟨dp,vv,ar,rl,hp,bN,ah,a2,vc,vs,vl,ab,an,ac,kb,r1,r2,r3,r4,r5,r6,r7,_⟩:=PA.role hh;obtain⟨bh,rfl,S⟩:=Xi bg;obtain⟨sc,ap,aw⟩:=W8 hd;have p:gH d:=W.nw.deeds sc ap d aw;obtain⟨aS,xS,rfl,b0,bJ⟩:=id r2;obtain⟨v5,e5,i5⟩:=bJ.get (i:=yi a h) (t:=eD d) (by rw[bi,hd];rfl);obtain⟨rr,av⟩:=Wm d;obtain⟨r,x5,rfl,cl,cb⟩:=(av▸i5:Is H0 (.tup (.str (dw d)::rr)) v5)
 obtain⟨tt,bE,kt⟩:=Gp (P:=P) (w:=w) (mg:=mg) (base:=base) (f:=f) (cdv:=b6) (A:=A) (outer:=B) (s:=s) (H:=H) (Q:=Q) (E:=E) T n CR oC hr (v1:=.ref bh) (p:=yi a h) (a5:=r) (d:=d) hx r1 r2 r6 p;refine⟨_,ze (zr (i:=2) nd (v6 hu (yd (yd (pv 0) J) J) (pv 1))) (ze (zr (i:=3) nd (v6 hu (yd (pv 0) J) (pv 1))) (ze (zr (i:=4) nd (zp zx (yd (pv 2) J) (pv 3))) (ze (Wx hu (yd (pv 0) J) (pv 1) (ye wb (pv 3) zg) J) (ze (yj (zu wt (zp zx (pv 4) zg) zo (yb _)) (zh (Hy (yd (pv 0) J) (zp zx (pv 4) zg) IW (zp zx (pv 4) zg) uI Yy)) zy) (ze (yj (zu wt (zp zx (pv 4) zg) zo (yb _)) (zh (xl (kc oP n.cls hr (pv 0) (zc (v6 hu (yd (pv 2) J) (pv 3)) (zc zg zd))))) zy) bE))))),?_⟩
 refine⟨x,cU,dx,_,_,J,R.s _ _ hx,n.cls,n.n,Wq,xp,cP,dp,_,_,J,R.s _ _ hp,CP.cls,CP.n,ji,ar,_,J,ah▸je.t (R.s _ _ bN) S,?_⟩;refine⟨x,cU,dx,_,_,J,R.s _ _ hx,n.cls,n.n,Zr,ad,_,J,Yv hk▸je.t R.m.1 S,?_⟩;refine⟨rl,cR,a2,_,_,J,R.s _ _ r1,CR.cls,CR.n,ke,aS,xS,_,_,J,J,aG.of (R.s _ _ b0),wx e5,?_⟩;refine⟨_,_,J,J,x,cU,dx,_,_,J,R.s _ _ hx,n.cls,n.n,Zr,ad,_,J,Kp.t R.m.1 S (by unfold y2;rw[ag];exact wa (by omega)),?_⟩;have ep:qo (y2 a) (kI (hZ h)) ((λi j=>V.int (i+j)) (yi a h:Int) 1)=y2 (ql a h (yi a h+1)):=B7 (n:=yi a h+1) af;rw[ep];have C:as≠ad:=λz=>by have q:=R.m.2;rw[z,R.m.1]at q;cases q
 have b1:Bt [ad,as] H (upd H ad (.dT (y2 (ql a h (yi a h+1))))):=Bt.upd (by simp);have t:V0 (upd H ad (.dT (y2 (ql a h (yi a h+1))))) ad as (ql a h (yi a h+1)) c:=⟨zf,by rw[upd_ne C];exact R.m.2⟩
 generalize upd H ad (.dT (y2 (ql a h (yi a h+1))))=H1 at b1 t⊢;have R1:=R.bt b1 t;have M:Is H1 (eD d) (.ref r):=i5.mono R1.s;have F:∀{G:Hp}{l:Addr},Bt [ad,as] H G->G ad≠none->G as≠none->G l=none->H l=none:=λ{G l} b h1 h2 e=>by cases z:H l with|none=>rfl| some o=>by_cases hm:l∈[ad,as];rcases ak.mp hm with y|y;rw[y]at e;exact absurd e h1;rw[ai.mp y]at e;exact absurd e h2;rw[b l o hm z]at e;cases e
 obtain⟨a6,u,u5,e6,v,Z,bD⟩:=Is.at (K:=K) (i:=0) (t:=.str (dw d)) (av▸M) J;cases e6;cases(show u5=.str (dw d)from bD);have U:∀{G:Hp}{dn:List (List Nat×Nat)}{sm:List Int},Bt [ad,as] H G->V0 G ad as dn sm->dn=Ys N a h->sm=qi c (cK d)->tt (.of Q) [some (.ref x),some (.ref bh),some (.ref rl),some (.int (yi a h:Int)),some (.ref r),none] G:=λ{G dn sm} b m e1 e2=>by have RG:=R.bt b m;refine kt G RG.s (i5.mono RG.s) λl G2 s2 bI i2=>k l G2 (b.trans s2.bt) (F b (by rw[m.1];exact λz=>by cases z) (by rw[m.2];exact λz=>by cases z) bI) ?_ i2;rw[<-e1,<-e2];exact⟨s2 _ _ m.1,s2 _ _ m.2⟩
 have g:(mM N).bg h (yi a h)=(aH d).map λ_=>h++[jx aH ((mM N).scr h) (yi a h)]:=by obtain⟨q,hq,rfl⟩:=bz.mp hh;rw[zF hq];show(((N.ss.getD q.2 [])[_]?).bind aH).map _=_;rw[Q7 hq]at hd⊢;rw[hd];rfl
 refine⟨r,u,_,_,J,J,v,Z,J,_,J,?_⟩;cases d with| rai b m=>
   refine y3 ?_;obtain⟨a1,ck⟩:=W.box sc ap _ aw b m (.inl J);obtain⟨a6,a9,u6,e6,bc,b5,bC⟩:=Is.at (K:=K) (i:=1) (t:=.int b) M J;cases e6;cases(show u6=.int b from bC);obtain⟨a7,a4,u7,e7,bb,b4,bB⟩:=Is.at (K:=K) (i:=2) (t:=.int m) M J;cases e7;cases(show u7=.int m from bB);have bM:b.toNat<c.length:=by omega
   have eg:(c.map V.int)[b.toNat]?=some (.int (c.getD b.toNat 0)):=by rw[bi,di,br bM];rfl
   have bK:jA (c.map V.int).length b=some b.toNat:=by unfold jA;rw[if_pos a1,if_pos (by rw[ag];omega)]
   refine⟨x,cU,dx,_,_,J,R1.s _ _ hx,n.cls,n.n,Bc,r,a9,_,_,J,J,bc,b5,as,_,b,_,J,J,a1,aM.of t.2,eg,r,a4,_,_,J,J,bb,b4,_,_,J,J,as,_,b,b.toNat,J,J,t.2,bK,?_⟩;have es:(c.map V.int).set b.toNat (.int (c.getD b.toNat 0+m))=(qi c (cK (.rai b m))).map V.int:=by show _=(c.set b.toNat (c.getD b.toNat 0+m)).map V.int;rw[List.map_set]
   rw[es];have b2:Bt [ad,as] H (upd H1 as (.lst ((qi c (cK (.rai b m))).map V.int))):=b1.trans (Bt.upd (by simp));have m2:V0 (upd H1 as (.lst ((qi c (cK (.rai b m))).map V.int))) ad as (ql a h (yi a h+1)) (qi c (cK (.rai b m))):=⟨by rw[upd_ne (au C)];exact t.1,zf⟩
   generalize upd H1 as (.lst ((qi c (cK (.rai b m))).map V.int))=H2 at b2 m2⊢;have R2:=R.bt b2 m2;obtain⟨a8,a3,u8,e8,ba,b3,bw⟩:=Is.at (K:=K) (i:=0) (t:=.str "raise") (i5.mono R2.s) J;cases e8;cases(show u8=.str "raise" from bw);exact⟨r,a3,_,_,J,J,ba,b3,J,_,J,yy (U b2 m2 (by unfold Ys;rw[g];rfl) J)⟩| beg j ms=>
   refine yy ⟨r,u,_,_,J,J,v,Z,J,_,J,y3 ?_⟩;have ay:=r7 (yi a h);rw[g]at ay;obtain⟨vb,bl,bk⟩:=(ay)
   have bL:h++[jx aH ((mM N).scr h) (yi a h)]∈zm (plan N):=Hc W (h:=h) (p:=yi a h) (by rw[g];rfl);have kk:=Wi (n:=yi a h+1) hk;refine⟨x,dx,_,J,R1.s _ _ hx,J,rl,cR,a2,_,_,J,R1.s _ _ r1,CR.cls,CR.n,Ww,ab,vb,J,bl▸je.k (k:=(Sum.inl (yi a h:Int):aK)) (R1.s _ _ r4),H0,x,dx,xp,ad,_,N,L,_,vb,_,J,R1.s,bd,hx,Wq,Zr,PA,bL,bk.mono R1.s,t.1,by rw[kk];exact af,by rw[<-Qm,kk,Qm];omega,λG bG hG=>?_⟩;have b7:=bG.mono (N:=[ad,as]) (λm hm=>by rw[ai.mp hm];simp);refine U (b1.trans b7) ⟨hG,bG _ _ (λhm=>C (ai.mp hm)) t.2⟩ ?_ J;unfold Ys;rw[g];rfl|com w=>exact p.elim|goo w=>exact p.elim|lea w=>exact p.elim|_=>exact yy ⟨r,u,_,_,J,J,v,Z,J,_,J,yy (U b1 t (by unfold Ys;rw[g];rfl) J)⟩
end
noncomputable def jW(hs:aB)(F:List (List Nat×Nat))(h:List Nat):Bool:=decide (h∈zm F) && decide (yi F h=((mM hs).scr h).length)
noncomputable def Q1(hs:aB)(F:List (List Nat×Nat)):Bool:=(zm (plan hs)).all (jW hs F)
inductive nR(cU:Addr)(vs:List V)(H:Hp)(Q:VK)(e0:XK):Prop|mk:∀(x dx xp ad as am al:Addr)(done:List (List Nat×Nat))(h:List Nat)(p:Nat)(vn:V),vs=[.ref x,vn]->H x=some (.ins cU dx (fz xp ad as am al))->H ad=some (.dT (y2 done))->Is H (.tup [tI (hZ h),.int (p:Int)]) vn->Q (.bl (decide (p<yi done h))) H->nR cU vs H Q e0
inductive kQ(cU cP cR:Addr)(vs:List V)(H:Hp)(Q:VK)(e0:XK):Prop|mk:∀(H0:Hp)(x ad as:Addr)(hs:aB)(L:RL)(done:List (List Nat×Nat))(sums:List Int),vs=[.ref x]->bW H0 H cU cP cR hs L x ad as done sums->dY hs->(∀H',zi H H'->Q (.bl (Q1 hs done)) H')->kQ cU cP cR vs H Q e0
theorem BH{a:O (O Nat×Nat)}{b:Y}(d:H ad=some (.dT (y2 a)))(e:H b=some (.tup ((kI (hZ h)).map kV))):je H ad (.ref b) (if h∈zm a then some (.int (yi a h:Int))else none):=by have q:=je.t d e;by_cases c:h∈zm a;rw[if_pos c,<-Yv c];exact q;rw[if_neg c,<-NT c];exact q
section
variable{K:W.Frag}
theorem M4:aA ["self","name"] ["self","name"] (zk Jc):=.of
theorem Mq(D:jz K cU "has_done" "Run.has_done" Jc)(q:aJ K cU cJ):cC P w K mg base cU "has_done" 1 ["self","name"] (nR cU):=by
 refine Yp D M4 ?_;rintro f z A g s H C Q E v ⟨x,y,B,ad,as,S,U,a,h,p,F,rfl,hx,b,t,k⟩ X;have u:=Z0 v;refine⟨_,zh (zt (jo mO (BE u (yd (pv 0) J) (zp zx (pv 1) zg) zg ⟨J,J,J,J⟩) (zp zx (pv 1) zg) (yb _))),?_⟩;obtain⟨o,r,rfl,d,m⟩:=t;obtain⟨L,M,rfl,j,G,N,rfl,i,l⟩:=m;cases(l);cases(i);obtain⟨R,rfl,n⟩:=Xi j;refine⟨x,cU,y,_,_,J,hx,q.cls,q.n,Zr,ad,J,.inr ⟨_,.inl b⟩,o,_,_,_,J,J,aG.of d,J,_,BH b n,?_⟩;have e:((if h∈zm a then some (V.int (yi a h))else none).getD (.int 0))=.int (yi a h):=by by_cases c:h∈zm a;rw[if_pos c];rfl;rw[if_neg c,Jw c];rfl
 rw[e];refine⟨o,_,_,_,J,J,aG.of d,J,_,_,J,J,?_⟩;simpa[Ends.of]using k
theorem Cy:aA ["self","roles"] ["self"] (zk Qb):=.of
theorem Lk(D:jz K cU "has_done_all" "Run.has_done_all" Qb)(T:Txt K mg)(CU:aJ K cU cJ)(CP:aJ K cP aZ)(CR:aJ K cR aR):cC P w K mg base cU "has_done_all" 1 ["self"] (kQ cU cP cR):=by
 refine Yp (k:=0) D Cy ?_;rintro f a7 A ah s H vs Q E hr ⟨H0,x,ad,as,d,L,a,a5,rfl,R,W,k⟩ X;have hu:=Z0 hr;have nd:=Cy.nd;refine⟨_,ze (zr (i:=1) nd (yd (yd (pv 0) J) J)) (zh (zt (qT (yh (Zf J) J T.all Xm (zc (kf (own:=["hand","role"]) (cap:=[0]) (g:=eU K 2 (bO (Ze 0) (bO (Ze 1) mt))) J (we (zk Qb) J J (by decide+kernel) (by decide+kernel) (by decide+kernel) ⟨⟨_,J,.inl J,jw J⟩,trivial⟩) (X8 (pv 1)) (λ_ _ _ _=>Zb J (yv (ya (i:=0) (by show(["hand","role","self"]:O Str).Nodup;decide+kernel)) (yv (ya (i:=1) (by show(["hand","role","self"]:O Str).Nodup;decide+kernel)) jb)))
   (λ_ _ _ _=>qr) (λ_ _ _ _=>jo wt (ta:=Ar (pE K (kF 2) "done") (kF 0)) (tb:=pQ (λxs H Q=>∃p t,xs=[.ref p]/\(aM K H p t\/aG K H p t)/\Q (.int t.length) H) (V3 (pE K (kF 1) "script") ln)) (BD hu (yd (pv 2) J) (pv 0) ⟨J,J,J,J⟩) (yh ym (by rfl) T.len vm (zc (yd (pv 1) J) zd)) (yb _))) zd))))),?_⟩
 obtain⟨xp,dx,am,al,PA,hx,_,_,N,_⟩:=id R.f;obtain⟨dp,vh,n,hp,ih,r,B,av⟩:=id PA;refine⟨x,cU,dx,_,_,J,R.s _ _ hx,CU.cls,CU.n,Wq,xp,cP,dp,_,_,J,R.s _ _ hp,CP.cls,CP.n,ji,?_⟩;have m:=R.s _ _ r;refine⟨n,_,m,trivial,λo=>?_⟩;have g:upd H n (.frz o (.dT (y0 L))) n=some (.frz o (.dT (y0 L))):=zf;have F:∀{b:Y}{u:HO},b≠n->H b=some u->upd H n (.frz o (.dT (y0 L))) b=some u:=λ{b u} z e=>by rw[upd_ne z];exact e
 have jM:∀{G:Hp},zi (upd H n (.frz o (.dT (y0 L)))) G->zi H (upd G n (.dT (y0 L))):=λ{G} s b u e=>by by_cases z:b=n;rw[z]at e⊢;rw[zf,<-e,m];rw[upd_ne z];exact s _ _ (F z e)
 generalize upd H n (.frz o (.dT (y0 L)))=Hf at g F jM⊢;have ap:=F (λz=>by rw[z,r]at hx;cases hx) (R.s _ _ hx);have v:=F (λz=>by rw[z,r]at N;cases N) R.m.1;have a6:L.length<=1000:=by have q:=W.few;have e:=congrArg List.length B;rw[ag]at e;rw[e];exact q
 refine⟨n,o,_,J,g,?_⟩;refine xP (λi t M=>zi Hf M/\t=(qm (L.take i)).map λh=>V.bl (jW d a h)) ⟨zi.refl _,J⟩ (λi t M hi ⟨y,e⟩=>⟨y _ _ g,?_⟩) ?_ ?_;rw[e,ag];unfold qm;rw[ag,bu];exact Nat.le_of_lt (wa (by omega));rintro i kv t M j ⟨y,rfl⟩ p b a1 hb;obtain⟨q,hq,rfl⟩:∃q,L[i]?=some q/\(kI (hZ q.1.1),V.ref q.2)=kv:=by unfold y0 at j;rw[bi]at j;cases e:L[i]? with|none=>rw[e]at j;cases j|some z=>rw[e]at j;exact⟨z,J,Option.some.inj j⟩
 have S:q∈L:=bq hq;obtain⟨a4,vc,vs,vl,ab,an,ac,kb,r1,r2,_⟩:=av q S;have aw:=y _ _ (F (λz=>by rw[z,r]at r1;cases r1) (R.s _ _ r1));have sp:=zi.new a1 (.tup [.ref b,.ref q.2]);have U:upd M p (.tup [.ref b,.ref q.2]) p=some (.tup [.ref b,.ref q.2]):=zf;have Z:=sp _ _ hb;generalize upd M p (.tup [.ref b,.ref q.2])=H3 at sp U Z⊢;have C:=y.trans sp;have tf:yo H Hf:=λc zs e=>F (λz=>by rw[z,m]at e;cases e) e;obtain⟨aS,xS,rfl,a3,a2⟩:=((r2.mono R.s).tups tf (Vv _)).mono C;have af:=a2.length;rw[ag]at af;have ay:q.1∈plan d:=by rw[<-B];exact List.mem_map_of_mem S
 have ek:qm (L.take (i+1))=qm (L.take i)++[q.1.1]:=by unfold qm;rw[de,hq,aq];rfl
 rw[ek,aq];refine⟨p,_,J,aG.of U,J,_,_,J,_,_,J,J,?_⟩;refine Dq ?_;refine⟨x,cU,dx,_,_,J,C _ _ ap,CU.cls,CU.n,Zr,ad,J,.inr ⟨_,.inl (C _ _ v)⟩,_,BH (C _ _ v) Z,q.2,cR,a4,_,_,J,sp _ _ aw,CR.cls,CR.n,ke,aS,xS,J,.inr (aG.of a3),?_⟩;have el:xS.length=((mM d).scr q.1.1).length:=by rw[af,Q7 ay]
 rw[el];by_cases c:q.1.1∈zm a;rw[if_pos c];refine⟨J,C,?_⟩;have e2:decide (V.int (yi a q.1.1:Int)=V.int (((mM d).scr q.1.1).length:Int))=jW d a q.1.1:=by unfold jW;rw[bp c,cq,Bool.eq_iff_iff];simp only[decide_eq_true_eq,V.int.injEq];omega
 show _++[V.bl (decide (V.int (yi a q.1.1:Int)=V.int (((mM d).scr q.1.1).length:Int)))]=_;rw[e2];rfl;rw[if_neg c];refine⟨J,C,?_⟩;have e2:jW d a q.1.1=false:=by unfold jW;rw[cf c,db]
 show _=_++[V.bl (jW d a q.1.1)];rw[e2];rfl;rintro t M ⟨y,rfl⟩ l hl;have e0:(y0 L).length=L.length:=by unfold y0;exact ag ..
 rw[e0,dg,Y3 B];have sl:=zi.new hl (.lst ((zm (plan d)).map λh=>V.bl (jW d a h)));refine⟨l,(zm (plan d)).map (jW d a),J,aM.of (by rw[zf,bv];rfl),sl _ _ (y _ _ g),?_⟩;have e:((zm (plan d)).map (jW d a)).all id=Q1 d a:=by rw[List.all_map];rfl
 rw[e];exact k _ (jM (y.trans sl))
end
noncomputable def wW:Stmt:=aX 61
noncomputable abbrev Y8:Stmt:=(vk wW).getD 0 dD
noncomputable abbrev vI:Stmt:=(vk wW).getD 1 dD
noncomputable abbrev wV:Stmt:=(vk wW).getD 2 dD
noncomputable def cG:List Str:=["run","held","woven","ready","waiting","stopped"]
structure WA where
 x:Addr
 xr:Addr
 ad:Addr
 as:Addr
 ah:Addr
 ao:Addr
 ay:Addr
 aw:Addr
 ap:Addr
noncomputable def mP(a:WA):List (Str×V):=[(("run":Str),.ref a.xr),("held",.ref a.ah),("woven",.ref a.ao),("ready",.ref a.ay),("waiting",.ref a.aw),("stopped",.ref a.ap)]
theorem Q2{a:WA}:(mP a).lookup ("run":Str)=some (.ref a.xr):=rfl
theorem IC{a:WA}:(mP a).lookup ("held":Str)=some (.ref a.ah):=rfl
theorem B3{a:WA}:(mP a).lookup ("woven":Str)=some (.ref a.ao):=rfl
theorem Xt{a:WA}:(mP a).lookup ("ready":Str)=some (.ref a.ay):=rfl
theorem K2{a:WA}:(mP a).lookup ("waiting":Str)=some (.ref a.aw):=rfl
theorem MU{a:WA}:(mP a).lookup ("stopped":Str)=some (.ref a.ap):=rfl
noncomputable def hT(h:List Nat):L2.T:=tI (hZ h)
inductive cN(H:Hp)(a:Addr)(hs:List (List Nat)):Prop|mk:∀vs,H a=some (.lst vs)->IsL H (hs.map hT) vs->cN H a hs
theorem Qq(hs:O (O Nat)):qu (hs.map hT):=by rw[qu.all];intro t a;obtain⟨d,_,rfl⟩:=bz.mp a;exact qz _
theorem cN.keep{hs:O (O Nat)}(x:cN H a hs)(e:H' a=H a)(t:yo H H'):cN H' a hs:=by obtain⟨b,d,c⟩:=x;exact⟨b,e.trans d,c.tups t (Qq hs)⟩
theorem cN.same{hs:O (O Nat)}(x:cN H a hs)(s:zi H H'):cN H' a hs:=by obtain⟨b,d,c⟩:=x;exact⟨b,s _ _ d,c.mono s⟩
abbrev jZ:=List ((Nat×List (List Nat))×Addr)
noncomputable def kA(b:Nat):Str×Int:=(("await":Str),(b:Int))
theorem Ae{a b:Nat}(h:kA a=kA b):a=b:=Int.ofNat.inj (congrArg Prod.snd h)
noncomputable def ju(W:jZ):List ((Str×Int)×V):=W.map λq=>(kA q.1.1,.ref q.2)
def yB(P:Program)(w:World)(F:Hp)(U cU cP cR:Addr)(hs:aB)(L:RL)(a:WA)(held:List ((List Int×Int)×V)):Prop:=dQ F cU cP cR hs L a.xr a.ad a.as/\(∃dx,F a.x=some (.ins U dx (mP a)))/\bH eF P w F a.ah held/\F a.ao=none/\F a.ay=none/\F a.aw=none/\F a.ap=none
structure bR(P:Program)(w:World)(H0 H:Hp)(a:WA)(s:WS (List Nat))(W:jZ):Prop where
 run:V0 H a.ad a.as s.done s.sums
 rdy:cN H a.ay s.ready
 wov:cN H a.ao s.wov
 stp:cN H a.ap s.stop
 wai:bH pU P w H a.aw (ju W)
 wl:W.map (·.1)=s.wait
 lst:∀q∈W,cN H q.2 q.1.2/\H0 q.2=none
 nd:(a.as::a.ay::a.ao::a.ap::W.map (·.2)).Nodup
 kd:(W.map (·.1.1)).Nodup
 s0:zi H0 H
noncomputable def newW(F:List (List Nat×Nat))(U:List Int):WS (List Nat):={done:=F,sums:=U,ready:=zm F,wait:=[],stop:=[],wov:=[]}
inductive mX(P:Program)(w:World)(cW cU cP cR:Addr)(vs:List V)(H:Hp)(Q:VK)(e0:XK):Prop|mk:∀(G:Hp)(x dx xr ad as ah:Addr)(hs:aB)(L:RL)(done:List (List Nat×Nat))(sums:List Int)(held:List ((List Int×Int)×V)),vs=[.ref x,.ref xr,.ref ah]->H x=some (.ins cW dx [])->zi G H->G x=none->dQ G cU cP cR hs L xr ad as->V0 H ad as done sums->bH eF P w G ah held->done.length<=1000->(∀ao ay aw ap H0 H',zi G H0->yB P w H0 cW cU cP cR hs L ⟨x,xr,ad,as,ah,ao,ay,aw,ap⟩ held->bR P w H0 H' ⟨x,xr,ad,as,ah,ao,ay,aw,ap⟩ (newW done sums) []->Q .non H')->mX P w cW cU cP cR vs H Q e0
section
variable{K:W.Frag}{cW:Addr}
theorem NQ:aA ["self","run","held"] ["self","run","held"] (zk Y8):=.of
theorem NO(D:my K mg "Weaver" "Weaver.__init__" cW Y8)(T:Txt K mg)(v:aJ K cW cG)(CU:aJ K cU cJ):gj P w K mg base "Weaver" cW 1 ["self","run","held"] (mX P w cW cU cP cR):=by
 refine sr (k:=0) D NQ ?_;rintro f b3 A ba s H vs Q E hr ⟨G,x,g,c,ad,as,i,hs,L,F,bl,bw,rfl,hx,sG,Gx,RF,M,GH,b2,k⟩ X;refine⟨_,ze (qb (pv 0) (pv 1) rfl) (ze (qb (pv 0) (pv 2) rfl) (ze (qb (pv 0) (vf zd) rfl) (ze (qb (pv 0) (vz (CQ rfl) rfl T.list Ky (zc (yd (pv 1) rfl) zd)) rfl) (ze (qb (pv 0) (Kv (τ:=pU)) rfl) (zh (qb (pv 0) (vf zd) rfl)))))),?_⟩
 obtain⟨xp,a9,am,al,PA,a7,bh,bk,b1,b0⟩:=id RF;have bG:as≠ad:=λz=>by have q:=M.2;rw[z,M.1]at q;cases q
 have af:∀{b:Y}{u:HO},H b=some u->(∀d fs,u≠ .ins cW d fs)->b≠x:=λ{b u} e z y=>by rw[y,hx]at e;exact z _ _ (Option.some.inj e).symm
 have U:ad≠x:=af M.1 (λ_ _ z=>by cases z);have C:as≠x:=af M.2 (λ_ _ z=>by cases z);have gA:H x=some (.ins cW g []):=hx;refine⟨x,cW,g,_,rfl,gA,v.cls,v.n,aI,?_⟩;rw[show qv "run" (.ref c) []=[(("run":Str),V.ref c)] by rfl];have gB:upd H x (.ins cW g [(("run":Str),V.ref c)]) x=_:=zf;have bB:Bt [x] H (upd H x (.ins cW g [(("run":Str),V.ref c)])):=Bt.upd (by simp);generalize upd H x (.ins cW g [(("run":Str),V.ref c)])=HB at gB bB⊢;refine⟨x,cW,g,_,rfl,gB,v.cls,v.n,aI,?_⟩;rw[show qv "held" (.ref i) [(("run":Str),V.ref c)]=[(("run":Str),V.ref c),("held",.ref i)] by rw[xi (by decide)];rfl];have gC:upd HB x (.ins cW g [(("run":Str),V.ref c),("held",.ref i)]) x=_:=zf;have bC:Bt [x] H (upd HB x (.ins cW g [(("run":Str),V.ref c),("held",.ref i)])):=bB.trans (Bt.upd (by simp));generalize upd HB x (.ins cW g [(("run":Str),V.ref c),("held",.ref i)])=HC at gC bC⊢;refine⟨bf _,λa HD sD p bg=>?_⟩;have B:a≠x:=λz=>by rw[z,gC]at p;cases p
 have gD:=sD _ _ gC;have bD:=bC.trans (M:=[x]) sD.bt;refine⟨x,cW,g,_,rfl,gD,v.cls,v.n,aI,?_⟩;rw[show qv "woven" (.ref a) [(("run":Str),V.ref c),("held",.ref i)]=[(("run":Str),V.ref c),("held",.ref i),("woven",.ref a)] by rw[xi (by decide),xi (by decide)];rfl];have gE:upd HD x (.ins cW g [(("run":Str),V.ref c),("held",.ref i),("woven",.ref a)]) x=_:=zf;have bE:Bt [x] H (upd HD x (.ins cW g [(("run":Str),V.ref c),("held",.ref i),("woven",.ref a)])):=bD.trans (Bt.upd (by simp));have oE:upd HD x (.ins cW g [(("run":Str),V.ref c),("held",.ref i),("woven",.ref a)]) a=_:=(upd_ne B).trans bg;generalize upd HD x (.ins cW g [(("run":Str),V.ref c),("held",.ref i),("woven",.ref a)])=HE at gE bE oE⊢;have sx:∀{J:Hp},Bt [x] H J->zi G J:=λ{J} b=>b.same sG λm r=>by rw[ai.mp r];exact Gx
 have dE:=bE _ _ (λr=>U (ai.mp r)) M.1;refine⟨c,cU,a9,_,_,rfl,sx bE _ _ a7,CU.cls,CU.n,Zr,ad,(zm F).map hZ,rfl,⟨_,dE,by unfold y2 zm;rw[bv,bv,bv];rfl⟩,λys h R sI l bc a6=>?_⟩;have N:h≠x:=λz=>by rw[z,gE]at l;cases l
 have a4:h≠a:=λz=>by rw[z,oE]at l;cases l
 have aS:h≠as:=λz=>by rw[z,bE _ _ (λr=>C (ai.mp r)) M.2]at l;cases l
 have gI:=sI _ _ gE;have bI:=bE.trans (M:=[x]) sI.bt;have lI:cN R h (zm F):=⟨ys,bc,by rw[bv]at a6;exact a6⟩
 refine⟨x,cW,g,_,rfl,gI,v.cls,v.n,aI,?_⟩;rw[show qv "ready" (.ref h) [(("run":Str),V.ref c),("held",.ref i),("woven",.ref a)]=[(("run":Str),V.ref c),("held",.ref i),("woven",.ref a),("ready",.ref h)] by rw[xi (by decide),xi (by decide),xi (by decide)];rfl];have gJ:upd R x (.ins cW g [(("run":Str),V.ref c),("held",.ref i),("woven",.ref a),("ready",.ref h)]) x=_:=zf;have bJ:Bt [x] H (upd R x (.ins cW g [(("run":Str),V.ref c),("held",.ref i),("woven",.ref a),("ready",.ref h)])):=bI.trans (Bt.upd (by simp));have oJ:upd R x (.ins cW g [(("run":Str),V.ref c),("held",.ref i),("woven",.ref a),("ready",.ref h)]) a=_:=(upd_ne B).trans (sI _ _ oE);have tJ:yo R (upd R x (.ins cW g [(("run":Str),V.ref c),("held",.ref i),("woven",.ref a),("ready",.ref h)])):=yo.upd gI (λ_ z=>by cases z);have lJ:cN (upd R x (.ins cW g [(("run":Str),V.ref c),("held",.ref i),("woven",.ref a),("ready",.ref h)])) h (zm F):=lI.keep (upd_ne N) tJ;generalize upd R x (.ins cW g [(("run":Str),V.ref c),("held",.ref i),("woven",.ref a),("ready",.ref h)])=HJ at gJ bJ oJ lJ⊢;intro n ow t a8;have sK:=zi.new t ow;have S:n≠x:=λz=>by rw[z,gJ]at t;cases t
 have gK:=sK _ _ gJ;have bK:=bJ.trans (M:=[x]) sK.bt;have oK:=sK _ _ oJ;have lK:=lJ.same sK;generalize upd HJ n ow=HK at sK a8 gK bK oK lK⊢;refine⟨x,cW,g,_,rfl,gK,v.cls,v.n,aI,?_⟩;rw[show qv "waiting" (.ref n) [(("run":Str),V.ref c),("held",.ref i),("woven",.ref a),("ready",.ref h)]=[(("run":Str),V.ref c),("held",.ref i),("woven",.ref a),("ready",.ref h),("waiting",.ref n)] by rw[xi (by decide),xi (by decide),xi (by decide),xi (by decide)];rfl];have gL:upd HK x (.ins cW g [(("run":Str),V.ref c),("held",.ref i),("woven",.ref a),("ready",.ref h),("waiting",.ref n)]) x=_:=zf;have bL:Bt [x] H (upd HK x (.ins cW g [(("run":Str),V.ref c),("held",.ref i),("woven",.ref a),("ready",.ref h),("waiting",.ref n)])):=bK.trans (Bt.upd (by simp));have oL:upd HK x (.ins cW g [(("run":Str),V.ref c),("held",.ref i),("woven",.ref a),("ready",.ref h),("waiting",.ref n)]) a=_:=(upd_ne B).trans oK;have tL:yo HK (upd HK x (.ins cW g [(("run":Str),V.ref c),("held",.ref i),("woven",.ref a),("ready",.ref h),("waiting",.ref n)])):=yo.upd gK (λ_ z=>by cases z);have lL:=lK.keep (upd_ne N) tL;have wL:=bH.by a8 tL (upd_ne S)
 generalize upd HK x (.ins cW g [(("run":Str),V.ref c),("held",.ref i),("woven",.ref a),("ready",.ref h),("waiting",.ref n)])=HL at gL bL oL lL wL⊢;refine⟨bf _,λo W sM j bd=>?_⟩;have av:o≠x:=λz=>by rw[z,gL]at j;cases j
 have a3:o≠a:=λz=>by rw[z,oL]at j;cases j
 have a2:o≠h:=λz=>by obtain⟨_,q,_⟩:=lL;rw[z,q]at j;cases j
 have a1:o≠as:=λz=>by rw[z,bL _ _ (λr=>C (ai.mp r)) M.2]at j;cases j
 have a5:a≠as:=λz=>by rw[z,bC _ _ (λr=>C (ai.mp r)) M.2]at p;cases p
 have gM:=sM _ _ gL;have bM:=bL.trans (M:=[x]) sM.bt;have oM:=sM _ _ oL;have lM:=lL.same sM;have wM:=wL.same sM;refine⟨x,cW,g,_,rfl,gM,v.cls,v.n,aI,?_⟩;rw[show qv "stopped" (.ref o) [(("run":Str),V.ref c),("held",.ref i),("woven",.ref a),("ready",.ref h),("waiting",.ref n)]=[(("run":Str),V.ref c),("held",.ref i),("woven",.ref a),("ready",.ref h),("waiting",.ref n),("stopped",.ref o)] by rw[xi (by decide),xi (by decide),xi (by decide),xi (by decide),xi (by decide)];rfl];have gN:upd W x (.ins cW g [(("run":Str),V.ref c),("held",.ref i),("woven",.ref a),("ready",.ref h),("waiting",.ref n),("stopped",.ref o)]) x=_:=zf;have bN:Bt [x] H (upd W x (.ins cW g [(("run":Str),V.ref c),("held",.ref i),("woven",.ref a),("ready",.ref h),("waiting",.ref n),("stopped",.ref o)])):=bM.trans (Bt.upd (by simp));have oN:upd W x (.ins cW g [(("run":Str),V.ref c),("held",.ref i),("woven",.ref a),("ready",.ref h),("waiting",.ref n),("stopped",.ref o)]) a=_:=(upd_ne B).trans oM;have pN:upd W x (.ins cW g [(("run":Str),V.ref c),("held",.ref i),("woven",.ref a),("ready",.ref h),("waiting",.ref n),("stopped",.ref o)]) o=_:=(upd_ne av).trans bd;have tN:yo W (upd W x (.ins cW g [(("run":Str),V.ref c),("held",.ref i),("woven",.ref a),("ready",.ref h),("waiting",.ref n),("stopped",.ref o)])):=yo.upd gM (λ_ z=>by cases z);have lN:=lM.keep (upd_ne N) tN;have wN:=bH.by wM tN (upd_ne S)
 generalize upd W x (.ins cW g [(("run":Str),V.ref c),("held",.ref i),("woven",.ref a),("ready",.ref h),("waiting",.ref n),("stopped",.ref o)])=HN at gN bN oN pN lN wN⊢;have dN:=bN _ _ (λr=>U (ai.mp r)) M.1;have sN:=bN _ _ (λr=>C (ai.mp r)) M.2;have Gn:∀{J:Hp}{b:Y},Bt [x] H J->J b=none->G b=none:=λ{J b} bt e=>by cases z:G b with|none=>rfl|some u=>rw[sx bt _ _ z]at e;cases e
 have b7:=Gn bC p;have b4:=Gn bE l;have b5:=Gn bJ t;have b6:=Gn bL j;have GM:∀m∈[ad,as,a,h,n,o],G m=none:=λm r=>by simp only[ak,List.not_mem_nil,or_false]at r;rcases r with z|z|z|z|z|z<;>rw[z]<;>assumption
 have Z:zi G (without [ad,as,a,h,n,o] HN):=(sx bN).without GM;have bb:x ∉ [ad,as,a,h,n,o]:=by simp[au U,au C,au B,au N,au S,au av]
 refine k a h n o (without [ad,as,a,h,n,o] HN) HN Z ⟨?_,⟨g,by rw[yt bb];exact gN⟩,GH.same Z,yw (by simp),yw (by simp),yw (by simp),yw (by simp)⟩ ⟨⟨dN,sN⟩,lN,⟨[],oN,rfl⟩,⟨[],pN,rfl⟩,wN,rfl,λq hq=>(nomatch hq),?_,List.nodup_nil,vj⟩;exact⟨xp,a9,am,al,PA.same Z,Z _ _ a7,Z _ _ bh,Z _ _ bk,yw (by simp),yw (by simp)⟩;simp[au aS,au a5,au a1,a4,au a2,au a3]
end
end My
namespace L2
open PySem PySem.Spec PyProof.Rows PySem.W
variable{M:List Addr}{P:Program}
theorem bH.bt{a:Type}[DecidableEq a]{τ:bA a}{w:World}{H c:Hp}{d:Y}{kvs:O (a×V)}(g:bH τ P w H d kvs)(b:Bt M H c)(f:d ∉ M)(t:yo H c):bH τ P w c d kvs:=by obtain⟨h,e,r⟩:=id g;exact g.by t ((b d _ f e).trans e.symm)
theorem bH.some{a:Type}[DecidableEq a]{τ:bA a}{P:Program}{w:World}{H:Hp}{d:Y}{kvs:O (a×V)}(g:bH τ P w H d kvs):∃b,H d=Option.some (.ext b):=let⟨c,e,_,_,_,_⟩:=g;⟨_,e⟩
end L2
namespace My
open PySem PySem.Spec PyProof.Rows L2
variable{ao c cP cR cS cU cW x xr:Addr}{A:Around}{o:HO}{base:Heap}{H H' H0:Hp}{M:List Addr}{h:List Nat}{vs:List V}{b:Nat}{P:Program}{mg:Str->Option Value}{v:V}{w:World}
theorem cN.bt{a:Y}{hs:O (O Nat)}(x:cN H a hs)(b:Bt M H H')(d:a ∉ M)(t:yo H H'):cN H' a hs:=by obtain⟨c,f,e⟩:=x;exact⟨c,b _ _ d f,e.tups t (Qq hs)⟩
section
variable{A:Type}[DecidableEq A]
theorem Jx{b:Nat}:∀{l:List (Nat×List A)},(l.map (·.1)).Nodup->Xu l b=l.filter λr=>decide (r.1≠b)|[],_=>rfl| (c,f)::r,d=>by have a:=cu.mp d;unfold Xu;by_cases e:c=b;rw[if_pos e,List.filter_cons,if_neg (by simp[e])];refine(List.filter_eq_self.mpr λx hx=>?_).symm;refine bp λz=>a.1 ?_;show c∈_;rw[e,<-z];exact List.mem_map_of_mem hx;rw[if_neg e,List.filter_cons,if_pos (by simp[e]),Jx a.2]
theorem wK{b:Nat}{hs:List A}:∀{l:List (Nat×List A)},(l.map (·.1)).Nodup->(b,hs)∈l->Vj l b=hs|[],_,h=>nomatch h| (c,f)::r,d,h=>by have a:=cu.mp d;unfold Vj;rcases ak.mp h with e|e;cases e;rw[if_pos J];rw[if_neg (λz=>a.1 (by show c∈_;rw[z];exact List.mem_map_of_mem e))];exact wK a.2 e
theorem B4{b:Nat}:∀{l:List (Nat×List A)},b ∉ l.map (·.1)->Vj l b=[]/\Xu l b=l|[],_=>⟨J,J⟩| (c,f)::r,h=>by have e:c≠b:=λz=>h (by rw[<-z];exact bo);obtain⟨d,a⟩:=B4 λz=>h (bn _ z);unfold Vj Xu;rw[if_neg e,if_neg e,d,a];exact⟨J,J⟩
theorem BZ{b:Nat}{h:A}:∀{l:List (Nat×List A)},b ∉ l.map (·.1)->Xv l b h=l++[(b,[h])]|[],_=>rfl| (c,d)::r,a=>by have e:c≠b:=λz=>a (by rw[<-z];exact bo);unfold Xv;rw[if_neg e,BZ λz=>a (bn _ z)];rfl
theorem Bl{b:Nat}{h:A}:∀{l:List (Nat×List A)},(l.map (·.1)).Nodup->Xv l b h=if b∈l.map (·.1)then l.map (λr=>if r.1=b then(r.1,r.2++[h])else r)else l++[(b,[h])]
 |[],_=>rfl
 | (c,d)::r,f=>by
   have a:=cu.mp f;unfold Xv;by_cases e:c=b;rw[if_pos e,if_pos (show b∈((c,d)::r).map (·.1) by rw[e];exact bo),c8,if_pos e];congr 1;refine(List.map_id' r).symm.trans (List.map_congr_left λx hx=>?_);refine(if_neg λz=>a.1 ?_).symm;show c∈_;rw[e,<-z];exact List.mem_map_of_mem hx;rw[if_neg e,Bl a.2];by_cases m:b∈r.map (·.1);rw[if_pos m,if_pos (show b∈((c,d)::r).map (·.1)from bn _ m),c8,if_neg e];rw[if_neg m,if_neg (λz=>by rcases ak.mp z with y|y;exact e y.symm;exact m y)]
   rfl
end
theorem sk{W:jZ}:(∀v,xa (ju W) (kA b)=some v->∃q∈W,q.1.1=b/\v=.ref q.2)/\(xa (ju W) (kA b)=none->b ∉ W.map (·.1.1)):=by induction W with|nil=>exact⟨λv h=>(by cases h),λ_ h=>nomatch h⟩| cons q r a=>have j:ju (q::r)=(kA q.1.1,V.ref q.2)::ju r:=rfl;rw[j];by_cases e:q.1.1=b;rw[wz (by rw[e])];exact⟨λv h=>⟨q,bo,e,(Option.some.inj h).symm⟩,λh=>by cases h⟩;have d:=λz=>e (Ae z);rw[wc d];refine⟨λv h=>?_,λh f=>?_⟩;obtain⟨c,i,g⟩:=a.1 v h;exact⟨c,bn _ i,g⟩;rcases ak.mp f with z|z;exact e z.symm;exact a.2 h z
theorem E6{W:jZ}:pK (ju W) (kA b)=ju (W.filter λq=>decide (q.1.1≠b)):=by unfold pK ju;rw[List.filter_map];congr 1;apply List.filter_congr;intro q _;show decide (kA q.1.1≠kA b)=decide (q.1.1≠b);by_cases e:q.1.1=b;rw[e];simp;have a:¬kA q.1.1=kA b:=λz=>e (Ae z);rw[bp a,bp e]
section
variable{a:WA}{s:WS (List Nat)}{W:jZ}
theorem bR.same(m:bR P w H0 H a s W)(b:zi H H'):bR P w H0 H' a s W:=⟨⟨b _ _ m.run.1,b _ _ m.run.2⟩,m.rdy.same b,m.wov.same b,m.stp.same b,m.wai.same b,m.wl,λq c=>⟨(m.lst q c).1.same b,(m.lst q c).2⟩,m.nd,m.kd,m.s0.trans b⟩
theorem bR.ne(m:bR P w H0 H a s W):a.as≠a.ay/\a.as≠a.ao/\a.as≠a.ap/\a.ay≠a.ao/\a.ay≠a.ap/\a.ao≠a.ap/\(∀q∈W,q.2≠a.as/\q.2≠a.ay/\q.2≠a.ao/\q.2≠a.ap)/\(W.map (·.2)).Nodup:=by have b:=cu.mp m.nd;have c:=cu.mp b.2;have d:=cu.mp c.2;have f:=cu.mp d.2;simp only[ak,not_or]at b c d;refine⟨b.1.1,b.1.2.1,b.1.2.2.1,c.1.1,c.1.2.1,d.1.1,λq g=>?_,f.2⟩;have e:q.2∈W.map (·.2):=List.mem_map_of_mem g;exact⟨λz=>b.1.2.2.2 (z▸e),λz=>c.1.2.2 (z▸e),λz=>d.1.2 (z▸e),λz=>f.1 (z▸e)⟩
theorem bR.apart(m:bR P w H0 H a s W)(h:H c=some (.lst vs)):a.ad≠c/\a.aw≠c:=by refine⟨λz=>?_,λz=>?_⟩;rw[<-z,m.run.1]at h;cases h;obtain⟨b,e⟩:=m.wai.some;rw[<-z,e]at h;cases h
theorem cN.upd_ne{c b:Y}{hs:O (O Nat)}{a vs:O V}(x:cN H b hs)(h:H c=some (.lst a))(n:b≠c):cN (upd H c (.lst vs)) b hs:=x.keep (L2.upd_ne n) (yo.upd h (λ_ z=>by cases z))
theorem cN.upd_eq{hs:O (O Nat)}{a:O V}(h:H c=some (.lst a))(i:IsL H (hs.map hT) vs):cN (upd H c (.lst vs)) c hs:=⟨vs,zf,i.tups (yo.upd h (λ_ z=>by cases z)) (Qq hs)⟩
theorem Za(s:zi H0 H)(n:H0 c=none):zi H0 (upd H c o):=λb u e=>by rw[L2.upd_ne (zn e n)];exact s b u e
theorem bR.setR(m:bR P w H0 H a s W)(z:H0 a.ay=none){l:O (O Nat)}(i:IsL H (l.map hT) vs):bR P w H0 (upd H a.ay (.lst vs)) a {s with ready:=l} W:=by obtain⟨g,p,o,f,e,n,d,_⟩:=m.ne;obtain⟨c,h,_⟩:=m.rdy;obtain⟨k,j⟩:=m.apart h;have t:yo H (upd H a.ay (.lst vs)):=yo.upd h (λ_ z=>by cases z);exact⟨⟨(upd_ne k).trans m.run.1,(upd_ne g).trans m.run.2⟩,cN.upd_eq h i,m.wov.upd_ne h (au f),m.stp.upd_ne h (au e),m.wai.by t (upd_ne j),m.wl,λq b=>⟨(m.lst q b).1.upd_ne h (d q b).2.1,(m.lst q b).2⟩,m.nd,m.kd,Za m.s0 z⟩
theorem bR.setO(m:bR P w H0 H a s W)(z:H0 a.ao=none){l:O (O Nat)}(i:IsL H (l.map hT) vs):bR P w H0 (upd H a.ao (.lst vs)) a {s with wov:=l} W:=by obtain⟨p,g,o,f,n,e,d,_⟩:=m.ne;obtain⟨c,h,_⟩:=m.wov;obtain⟨k,j⟩:=m.apart h;have t:yo H (upd H a.ao (.lst vs)):=yo.upd h (λ_ z=>by cases z);exact⟨⟨(upd_ne k).trans m.run.1,(upd_ne g).trans m.run.2⟩,m.rdy.upd_ne h f,cN.upd_eq h i,m.stp.upd_ne h (au e),m.wai.by t (upd_ne j),m.wl,λq b=>⟨(m.lst q b).1.upd_ne h (d q b).2.2.1,(m.lst q b).2⟩,m.nd,m.kd,Za m.s0 z⟩
theorem bR.setP(m:bR P w H0 H a s W)(z:H0 a.ap=none){l:O (O Nat)}(i:IsL H (l.map hT) vs):bR P w H0 (upd H a.ap (.lst vs)) a {s with stop:=l} W:=by obtain⟨p,o,g,n,f,e,d,_⟩:=m.ne;obtain⟨c,h,_⟩:=m.stp;obtain⟨k,j⟩:=m.apart h;have t:yo H (upd H a.ap (.lst vs)):=yo.upd h (λ_ z=>by cases z);exact⟨⟨(upd_ne k).trans m.run.1,(upd_ne g).trans m.run.2⟩,m.rdy.upd_ne h f,m.wov.upd_ne h e,cN.upd_eq h i,m.wai.by t (upd_ne j),m.wl,λq b=>⟨(m.lst q b).1.upd_ne h (d q b).2.2.2,(m.lst q b).2⟩,m.nd,m.kd,Za m.s0 z⟩
theorem bR.bt(m:bR P w H0 H a s W){g:O (O Nat×Nat)}{f:O Int}(A:H0 a.ad=none)(x:H0 a.as=none)(b:Bt [a.ad,a.as] H H')(r:V0 H' a.ad a.as g f):bR P w H0 H' a {s with done:=g,sums:=f} W:=by
 obtain⟨v,u,p,_,_,_,o,_⟩:=m.ne;have t:=m.run.tups b;have d:∀{c:Y}{n:O (O Nat)},cN H c n->c≠a.as->c ∉ [a.ad,a.as]:=λ{c n} l z k=>by obtain⟨D,h,_⟩:=l;rcases ak.mp k with y|y;exact(m.apart h).1 y.symm;exact z (ai.mp y)
 have j:a.aw ∉ [a.ad,a.as]:=λk=>by obtain⟨C,e⟩:=m.wai.some;rcases ak.mp k with y|y;rw[y,m.run.1]at e;cases e;rw[ai.mp y,m.run.2]at e;cases e
 refine⟨r,m.rdy.bt b (d m.rdy (au v)) t,m.wov.bt b (d m.wov (au u)) t,m.stp.bt b (d m.stp (au p)) t,m.wai.bt b j t,m.wl,λq i=>⟨(m.lst q i).1.bt b (d (m.lst q i).1 (o q i).1) t,(m.lst q i).2⟩,m.nd,m.kd,b.same m.s0 λc B=>?_⟩;rcases ak.mp B with y|y;rw[y];exact A;rw[ai.mp y];exact x
theorem bR.setW(m:bR P w H0 H a s W)(z:H0 a.aw=none){b:jZ}(g:bH pU P w (upd H a.aw o) a.aw (ju b))(hs:∀q∈b,q∈W)(f:(a.as::a.ay::a.ao::a.ap::b.map (·.2)).Nodup)(i:(b.map (·.1.1)).Nodup):bR P w H0 (upd H a.aw o) a {s with wait:=b.map (·.1)} b:=by have t:yo H (upd H a.aw o):=m.wai.tups;have d:∀{c:Y}{hs:O (O Nat)},cN H c hs->c≠a.aw:=λ{c hs} ⟨l,h,_⟩=>au (m.apart h).2;obtain⟨k,e⟩:=m.wai.some;refine⟨⟨(upd_ne (λy=>by rw[<-y,m.run.1]at e;cases e)).trans m.run.1,(upd_ne (λy=>by rw[<-y,m.run.2]at e;cases e)).trans m.run.2⟩,m.rdy.keep (upd_ne (d m.rdy)) t,m.wov.keep (upd_ne (d m.wov)) t,m.stp.keep (upd_ne (d m.stp)) t,g,J,λq j=>⟨(m.lst q (hs q j)).1.keep (upd_ne (d (m.lst q (hs q j)).1)) t,(m.lst q (hs q j)).2⟩,f,i,Za m.s0 z⟩
end
inductive nh(P:Program)(w:World)(cW cU cP cR:Addr)(vs:List V)(H:Hp)(Q:VK)(e0:XK):Prop|mk:∀(H0:Hp)(a:WA)(hs:aB)(L:RL)(held:List ((List Int×Int)×V))(s:WS (List Nat))(W:jZ)(h:List Nat)(d:aD)(vh:V),vs=[.ref a.x,vh]->yB P w H0 cW cU cP cR hs L a held->bR P w H0 H a s W->dY hs->h∈zm (plan hs)->h∈zm s.done->s.sums.length=hs.b.toNat->Is H (hT h) vh->jU (mM hs) s h=some d->(zm s.done).Nodup->s.done.length<=999->s.ready.length+Zj s.wait<=1000->s.wov.length<=2000->(∀W' H',bR P w H0 H' a (V5 (mM hs) s h d) W'->Q .non H')->nh P w cW cU cP cR vs H Q e0
theorem Yb{n:Nat}(h:n<=9000):n<sizeLine:=eh h (by decide)
theorem K1{A:Type}[DecidableEq A]{l:O (Nat×O A)}:(Vj l b).length<=Zj l:=by have:=K0 (b:=b) (l:=l);omega
section
variable{K:W.Frag}
theorem A5:aA ["self","hand","begun","ground"] ["self","hand"] (zk vI):=.of
theorem Ib(D:jz K cW "step" "Weaver.step" vI)(n:aJ K cW cG)(CU:aJ K cU cJ)(CP:aJ K cP aZ)(CR:aJ K cR aR)(oD:cC P w K mg base cU "do" 2 ["self","hand"] (nU cU cP cR)):cC P w K mg base cW "step" 3 ["self","hand"] (nh P w cW cU cP cR):=by
 refine Yp (k:=2) D A5 ?_;rintro f dK A bK s0 H vs Q E hr ⟨N,a,t,L,c5,s,W,h,d,vh,rfl,F,m,PH,hh,hk,cc,a1,hd,bN,cv,dr,dn,k⟩ X;have hu:=Z0 hr;have b9:=Al hr;have nd:=A5.nd;refine⟨_,ze (zr (i:=2) nd (BD hu (yd (v6 hu (yd (yd (yd (pv 0) J) J) J) (pv 1)) J) (v6 hu (yd (yd (pv 0) J) J) (pv 1)) ⟨J,J,J,J⟩)) (ze (w9 PassesOwn.never J (Wz (kc oD CU.cls hr (yd (pv 0) J) (zc (pv 1) zd))) (ya (i:=3) nd) (zh (xl (Zi PySem.F.plainAttrs_list PySem.F.slot_list_extend PySem.F.type_list_extend Cs (yd (pv 0) J) (zc (I9 (τ:=pU) b9 (yd (pv 0) J) (pv 3) (vf zd) ⟨J,J,J,J⟩) zd)))))
  (ze (xl (Zi PySem.F.plainAttrs_list PySem.F.slot_list_append PySem.F.type_list_append vi (yd (pv 0) J) (zc (pv 1) zd))) (ze (xl (Zi PySem.F.plainAttrs_list PySem.F.slot_list_append PySem.F.type_list_append vi (yd (pv 0) J) (zc (pv 1) zd))) (zh (yj (Jh (AV (pv 2))) (zh (xl (Zi PySem.F.plainAttrs_list PySem.F.slot_list_append PySem.F.type_list_append vi (yd (pv 0) J) (zc (pv 2) zd)))) zy))))),?_⟩
 obtain⟨RF,⟨dx,hx⟩,GH,b3,Z,b0,dh⟩:=id F;obtain⟨xp,a5,am,al,PA,a2,_,_,b4,b2⟩:=id RF;obtain⟨dp,vv,ar,rl,hp,c1,bd,c3,vc,vs,vl,ab,an,ac,kb,r1,r2,r3,r4,r5,r6,r7,_⟩:=PA.role hh;obtain⟨bh,rfl,bC⟩:=Xi a1;have nm:∀f∈cG,Xp K cW f:=n.no;have g:=m.s0;refine⟨a.x,cW,dx,_,_,J,g _ _ hx,n.cls,n.n,Q2,a.xr,cU,a5,_,_,J,g _ _ a2,CU.cls,CU.n,Wq,xp,cP,dp,_,_,J,g _ _ hp,CP.cls,CP.n,ji,ar,_,J,bd▸je.t (g _ _ c1) bC,rl,cR,c3,_,_,J,g _ _ r1,CR.cls,CR.n,Ww,ab,J,.inl ⟨_,.inl (g _ _ r4)⟩,a.x,cW,dx,_,_,J,g _ _ hx,n.cls,n.n,Q2,a.xr,cU,a5,_,_,J,g _ _ a2,CU.cls,CU.n,Zr,a.ad,_,J,Yv hk▸je.t m.run.1 bC,_,je.k (k:=(Sum.inl (yi s.done h:Int):aK)) (g _ _ r4),?_⟩
 obtain⟨S,c2,r⟩:∃S,(xa kb (Sum.inl (yi s.done h:Int):aK)).getD .non=S/\match(mM t).bg h (yi s.done h)with|none=>S=.non|some g=>Is N (hT g) S:=by have q:=r7 (yi s.done h);cases e:(mM t).bg h (yi s.done h)with|none=>rw[e]at q;exact⟨_,J,by rw[q];rfl⟩| some g=>rw[e]at q;obtain⟨v,hv,iv⟩:=q;exact⟨_,J,by rw[hv];exact iv⟩
 rw[c2];refine⟨a.x,cW,dx,_,_,J,g _ _ hx,n.cls,n.n,Q2,a.xr,a5,_,J,g _ _ a2,J,N,a.xr,a.ad,a.as,t,L,s.done,s.sums,h,.ref bh,d,J,⟨RF,m.s0,m.run⟩,hh,hk,PH,cc,a1,hd,bN,cv,λl H1 b1 ah bJ i1=>?_⟩;have m1:=m.bt b4 b2 b1 bJ;obtain⟨l',zs,el,bB,bc⟩:=i1;cases el;have af:zs.length=(oQ d).length:=bc.length;refine⟨l,J,⟨zs,aM.of bB⟩,?_⟩;have bL:l≠a.ay:=λz=>by obtain⟨_,q,_⟩:=m.rdy;rw[z,q]at ah;cases ah
 have bM:l≠a.aw:=λz=>by obtain⟨_,q⟩:=m.wai.some;rw[z,q]at ah;cases ah
 have a7:∀{G:Hp},zi (without [a.ay,a.aw] H1) G->yo H1 G:=λ{G} U c R e=>by refine U _ _ ?_;rw[yt];exact e;intro hm;rcases ak.mp hm with y|y;obtain⟨_,q,_⟩:=m1.rdy;rw[y,q]at e;cases e;obtain⟨_,q⟩:=m1.wai.some;rw[ai.mp y,q]at e;cases e
 let c4:Nat->L2.St->Hp->Prop:=λi σ G=>∃x3 u,σ=[some (.ref a.x),some (.ref bh),some S,x3]/\bR P w N G a (if i=0 then{s with done:=Ys t s.done h,sums:=qi s.sums (cK d)}else{s with done:=Ys t s.done h,sums:=qi s.sums (cK d),ready:=s.ready++Z6 s (cK d),wait:=Z9 s (cK d)}) u/\zi (without [a.ay,a.aw] H1) G;refine Yk (K:=K) (a:=l) (xs:=zs) c4
  ⟨none,W,J,m1,vj⟩ (λi σ G _ ⟨_,_,_,_,U⟩=>aM.of (U _ _ (by rw[yt (by simp[bL,bM])];exact bB))) ?_ ?_
 rintro i v σ G hv ⟨x3,u,rfl,j,U⟩;cases d with| rai b mm=>
   have i0:i=0:=by have:=(ci.mp hv).1;rw[af]at this;have e:(oQ (.rai b mm)).length=1:=rfl;omega
   subst i0;rw[if_pos J]at j;obtain⟨sc,ck,cs⟩:=W8 hd;obtain⟨c0,dE⟩:=PH.box sc ck _ cs b mm (.inl J);have cw:((b.toNat:Nat):Int)=b:=Int.toNat_of_nonneg c0;obtain⟨tt,cb,b5⟩:=bc.get' hv;cases cb;have tG:yo H1 G:=a7 U;have B:Is G (.tup [.str "await",.int b]) v:=b5.tups tG ⟨trivial,trivial,trivial⟩;rw[<-cw]at B;obtain⟨gv,xg,rfl,dv,dt⟩:=id B;obtain⟨R,M,C⟩:=id j.rdy;have gG:=j.s0;have ap:u.map (·.1)=s.wait:=j.wl;have bE:(s.wait.map (·.1)).Nodup:=by rw[<-ap,bv];exact j.kd
   have a6:R.length=s.ready.length:=by have:=C.length;rw[ag]at this;exact this
   refine⟨a.x,cW,dx,_,_,J,gG _ _ hx,n.cls,n.n,Xt,.inl ⟨J,_,aM.of M⟩,a.x,cW,dx,_,_,J,gG _ _ hx,n.cls,n.n,K2,a.aw,_,J,j.wai,bf _,λe H3 s3 bl he=>⟨gv,ju u,kA b.toNat,J,j.wai.same s3,B.mono s3,λv2 b8 o hg=>?_,λcn=>?_⟩⟩;obtain⟨q,hq,cl,rfl⟩:=sk.1 _ b8;rw[E6]at hg;have x:=j.same s3;obtain⟨n1,n2,n3,n4,n5,n6,nq,nW⟩:=x.ne;have m4:=x.setW b0 hg (λq hq=>(f8.mp hq).1) (x.nd.sublist (((((List.filter_sublist ..).map _).cons_cons _).cons_cons _).cons_cons _ |>.cons_cons _)) (x.kd.sublist ((List.filter_sublist ..).map _));obtain⟨aS,bD,aw⟩:=m4.rdy;have bg:=(x.lst q hq).1;obtain⟨zq,b7,a8⟩:=(bg.keep (upd_ne (by obtain⟨_,y,_⟩:=bg;exact au (x.apart y).2)) x.wai.tups:cN (upd H3 a.aw o) q.2 q.1.2)
   have l4:aS.length=s.ready.length:=by have:=aw.length;rw[ag]at this;exact this
   have lq:zq.length=q.1.2.length:=by have:=a8.length;rw[ag]at this;exact this
   have bw:(b.toNat,q.1.2)∈s.wait:=by rw[<-ap,<-cl];exact List.mem_map_of_mem (f:=λz:(Nat×List (List Nat))×Addr=>z.1) hq
   have av:Vj s.wait b.toNat=q.1.2:=wK bE bw;have a4:Xu s.wait b.toNat=(u.filter λq=>decide (q.1.1≠b.toNat)).map (·.1):=by rw[Jx bE,<-ap,List.filter_map];rfl
   have bI:=K1 (b:=b.toNat) (l:=s.wait);rw[av]at bI;have m5:=m4.setR Z (l:=s.ready++q.1.2) (vs:=aS++zq) (by rw[aq];exact IsL.append aw a8);refine⟨a.ay,q.2,aS,zq,J,J,bD,b7,Nat.le_of_lt (Yb (by omega)),_,u.filter λq=>decide (q.1.1≠b.toNat),J,?_,Za (Za (U.trans s3) (yw (by simp))) (yw (by simp))⟩;rw[if_neg (Nat.succ_ne_zero 0)];show bR P w N _ a {s with done:=Ys t s.done h,sums:=qi s.sums (cK (.rai b mm)),ready:=s.ready++Vj s.wait b.toNat,wait:=Xu s.wait b.toNat} _;rw[av,a4];exact m5;have co:=sk.2 cn;have bk:b.toNat ∉ s.wait.map (·.1):=by rw[<-ap,bv];exact co
   obtain⟨av,a4⟩:=B4 bk;have x:=j.same s3;have m5:=x.setR Z (l:=s.ready++[]) (vs:=R++[]) (by rw[cm,cm];exact C.mono s3);refine⟨a.ay,e,R,[],J,J,s3 _ _ M,he,Nat.le_of_lt (Yb (by show R.length+0<=9000;omega)),_,u,J,?_,Za (U.trans s3) (yw (by simp))⟩;rw[if_neg (Nat.succ_ne_zero 0)];show bR P w N _ a {s with done:=Ys t s.done h,sums:=qi s.sums (cK (.rai b mm)),ready:=s.ready++Vj s.wait b.toNat,wait:=Xu s.wait b.toNat} _;rw[av,a4];exact m5|_=>have:=(ci.mp hv).1;rw[af]at this;exact absurd this (fe _)
 rintro σ G ⟨x3,u,rfl,j,U⟩;have m2:bR P w N G a {s with done:=Ys t s.done h,sums:=qi s.sums (cK d),ready:=s.ready++Z6 s (cK d),wait:=Z9 s (cK d)} u:=by cases d with|rai b mm=>rw[af,if_neg (show¬(oQ (.rai b mm)).length=0 from Nat.succ_ne_zero 0)]at j;exact j| _=>rw[show zs.length=0 from af,if_pos J]at j;show bR P w N G a {s with done:=Ys t s.done h,sums:=qi s.sums none,ready:=s.ready++[],wait:=s.wait} u;rw[cm];exact j
 have B:Is G (hT h) (.ref bh):=(a1.tups (m.run.tups b1) (qz _)).tups (a7 U) (qz _);have c6:(Z6 s (cK d)).length<=Zj s.wait:=by cases e:cK d with|none=>exact bf _|some p=>exact K1
 obtain⟨os,a3,bb⟩:=id m2.wov;have da:os.length=s.wov.length:=by have:=bb.length;rw[ag]at this;exact this
 refine⟨a.x,cW,dx,_,_,J,m2.s0 _ _ hx,n.cls,n.n,B3,.inl ⟨J,_,aM.of a3⟩,a.ao,os,_,J,J,a3,Yb (by omega),?_⟩;have x:=m2.setO b3 (l:=s.wov++[h]) (vs:=os++[.ref bh]) (by rw[aq];exact IsL.append bb (IsL.one B));have ba:Is (upd G a.ao (.lst (os++[.ref bh]))) (hT h) (.ref bh):=B.tups (yo.upd a3 (λ_ z=>by cases z)) (qz _);generalize upd G a.ao (.lst (os++[.ref bh]))=H3 at x ba⊢;obtain⟨R,M,C⟩:=id x.rdy;have a6:R.length=(s.ready++Z6 s (cK d)).length:=by have:=C.length;rw[ag]at this;exact this
 rw[az]at a6;refine⟨a.x,cW,dx,_,_,J,x.s0 _ _ hx,n.cls,n.n,Xt,.inl ⟨J,_,aM.of M⟩,a.ay,R,_,J,J,M,Yb (by omega),?_⟩;have m4:=x.setR Z (l:=s.ready++Z6 s (cK d)++[h]) (vs:=R++[.ref bh]) (by rw[aq];exact IsL.append C (IsL.one ba));generalize upd H3 a.ay (.lst (R++[.ref bh]))=H4 at m4⊢;refine⟨_,J,?_⟩;cases eb:(mM t).bg h (yi s.done h)with| none=>
   rw[eb]at r;cases(show S=.non from r);refine yy (k u H4 ?_);show bR P w N H4 a {done:=Ys t s.done h,sums:=qi s.sums (cK d),ready:=s.ready++Z6 s (cK d)++[h]++((mM t).bg h (yi s.done h)).toList,wait:=Z9 s (cK d),stop:=s.stop,wov:=s.wov++[h]} u;rw[eb];show bR P w N H4 a {done:=Ys t s.done h,sums:=qi s.sums (cK d),ready:=s.ready++Z6 s (cK d)++[h]++[],wait:=Z9 s (cK d),stop:=s.stop,wov:=s.wov++[h]} u;rw[cm];exact m4| some gb=>
   rw[eb]at r;have r:Is N (hT gb) S:=r;have b6:Is H4 (hT gb) S:=r.mono m4.s0;have bl:(!decide (S=.non))=true:=by obtain⟨c,zs,rfl,_⟩:=r;rfl
   rw[bl];obtain⟨y5,ay,a9⟩:=id m4.rdy;have bG:y5.length=(s.ready++Z6 s (cK d)++[h]).length:=by have:=a9.length;rw[ag]at this;exact this
   rw[az,az,List.length_singleton]at bG;refine y3 ⟨a.x,cW,dx,_,_,J,m4.s0 _ _ hx,n.cls,n.n,Xt,.inl ⟨J,_,aM.of ay⟩,a.ay,y5,_,J,J,ay,Yb (by omega),?_⟩;have m5:=m4.setR Z (l:=s.ready++Z6 s (cK d)++[h]++[gb]) (vs:=y5++[S]) (by rw[aq];exact IsL.append a9 (IsL.one b6));refine k u _ ?_;show bR P w N _ a {done:=Ys t s.done h,sums:=qi s.sums (cK d),ready:=s.ready++Z6 s (cK d)++[h]++((mM t).bg h (yi s.done h)).toList,wait:=Z9 s (cK d),stop:=s.stop,wov:=s.wov++[h]} u;rw[eb];exact m5
end
noncomputable def sj(M:eA (List Nat) aD)(held:List Nat->Nat->Bool)(s:WS (List Nat)):WS (List Nat):=match s.ready.getLast? with|none=>s|some h=>kr M held {s with ready:=s.ready.dropLast} h
noncomputable def fJ(M:eA (List Nat) aD)(held:List Nat->Nat->Bool):Nat->WS (List Nat)->WS (List Nat)|0,s=>s|n+1,s=>sj M held (fJ M held n s)
noncomputable def jv(held:List ((List Int×Int)×V))(h:List Nat)(p:Nat):Bool:=(xa held (hZ h,(p:Int))).isSome
theorem JZ{M:eA (O Nat) aD}{held:O Nat->Nat->Bool}{s:WS (O Nat)}{r:O (O Nat)}(e:s.ready=r++[h]):sj M held s=kr M held {s with ready:=r} h:=by
 unfold sj
 simp_all
inductive mV(P:Program)(w:World)(cW cU cP cR:Addr)(vs:List V)(H:Hp)(Q:VK)(e0:XK):Prop|mk:∀(H0:Hp)(a:WA)(hs:aB)(L:RL)(held:List ((List Int×Int)×V))(s:WS (List Nat))(W:jZ),vs=[.ref a.x]->yB P w H0 cW cU cP cR hs L a held->bR P w H0 H a s W->dY hs->Wv (mM hs) (zm (plan hs)) s->s.sums.length=hs.b.toNat->(∀r∈s.wait,r.2≠[])->(∀n W' H',bR P w H0 H' a (fJ (mM hs) (jv held) n s) W'->Wv (mM hs) (zm (plan hs)) (fJ (mM hs) (jv held) n s)->(fJ (mM hs) (jv held) n s).sums.length=hs.b.toNat->(fJ (mM hs) (jv held) n s).ready=[]->Q .non H')->mV P w cW cU cP cR vs H Q e0
theorem Oc(hs:aB)(W:dY hs):tQ (mM hs) (zm (plan hs)):=AZ (Bf W.nw.later) W.s20
theorem MD(l:List Int)(r:Option (Nat×Int)):(qi l r).length=l.length:=by cases r with|none=>rfl|some p=>exact List.length_set
theorem LQ(M:eA (List Nat) aD)(held:List Nat->Nat->Bool)(s:WS (List Nat))(h:List Nat):(kr M held s h).sums.length=s.sums.length:=by
 unfold kr;cases jU M s h with|none=>grind| some d=>
   dsimp only;split;rfl;split;exact MD _ _
   grind
theorem Jp{a d:Type}{f:a->d}:∀{l:List a},(l.map f).Nodup->∀{x y:a},x∈l->y∈l->f x=f y->x=y
 |[],_,_,_,h,_,_=>nomatch h
 | c::r,g,x,y,hx,i,e=>by
   have b:=cu.mp g;rcases ak.mp hx with z|z<;>rcases ak.mp i with u|u;rw[z,u]
   grind
   simp_all
   exact Jp b.2 z u e
theorem bR.addW{a:WA}{s:WS (O Nat)}{W:jZ}(m:bR P w H0 H a s W){q:(Nat×O (O Nat))×Y}(b:q∈W)(e:H q.2=some (.lst vs))(i:IsL H (q.1.2.map hT) vs)(o:Is H (hT h) v):bR P w H0 (upd H q.2 (.lst (vs++[v]))) a {s with wait:=Xv s.wait q.1.1 h} (W.map λz=>if z.1.1=q.1.1 then((z.1.1,z.1.2++[h]),z.2)else z):=by
 obtain⟨K,G,F,E,D,C,j,n⟩:=m.ne;obtain⟨B,A⟩:=m.apart e;have t:yo H (upd H q.2 (.lst (vs++[v]))):=yo.upd e (λ_ z=>by cases z);have k:∀z∈W,z.1.1=q.1.1->z=q:=λz f e=>by exact Jp m.kd f b e
 have d:∀z∈W,z.2=q.2->z=q:=λz f e=>Jp n f b e;have x:(W.map λz=>if z.1.1=q.1.1 then((z.1.1,z.1.2++[h]),z.2)else z).map (·.2)=W.map (·.2):=by
  rw[bv];refine List.map_congr_left λz _=>?_
  grind
 have u:(W.map λz=>if z.1.1=q.1.1 then((z.1.1,z.1.2++[h]),z.2)else z).map (·.1.1)=W.map (·.1.1):=by
  rw[bv];refine List.map_congr_left λz _=>?_
  grind
 have r:ju (W.map λz=>if z.1.1=q.1.1 then((z.1.1,z.1.2++[h]),z.2)else z)=ju W:=by
  unfold ju
  simp_all
 refine⟨⟨(upd_ne B).trans m.run.1,(upd_ne (au (j q b).1)).trans m.run.2⟩,m.rdy.upd_ne e (au (j q b).2.1),m.wov.upd_ne e (au (j q b).2.2.1),m.stp.upd_ne e (au (j q b).2.2.2),?_,?_,λz f=>?_,by rw[x];exact m.nd,by rw[u];exact m.kd,Za m.s0 (m.lst q b).2⟩;rw[r];exact m.wai.by t (upd_ne A)
 have l:(s.wait.map (·.1)).Nodup:=by rw[<-m.wl,bv];exact m.kd
 have p:q.1.1∈s.wait.map (·.1):=by rw[<-m.wl,bv];grind
 rw[Bl l,if_pos p,<-m.wl,bv,bv];refine List.map_congr_left λz _=>?_
 grind
 obtain⟨y,g,rfl⟩:=bz.mp f;by_cases c:y.1.1=q.1.1;rw[if_pos c];obtain rfl:=k y g c;exact⟨⟨_,zf,(by rw[aq];exact(IsL.append i (IsL.one o)).tups t (by rw[<-aq];exact Qq _))⟩,(m.lst y g).2⟩;rw[if_neg c];exact⟨(m.lst y g).1.upd_ne e (λz=>c (by rw[d y g z])),(m.lst y g).2⟩
theorem bR.newW{a:WA}{s:WS (O Nat)}{W:jZ}(m:bR P w H0 H a s W){e:Y}(he:H e=some (.lst []))(z:H0 e=none)(C:H0 a.aw=none)(ne:e ∉ a.as::a.ay::a.ao::a.ap::W.map (·.2))(N:b ∉ W.map (·.1.1))(g:bH pU P w (upd H a.aw o) a.aw (ju (W++[((b,[]),e)]))) (F:Is H (hT h) v):bR P w H0 (upd (upd H a.aw o) e (.lst [v])) a {s with wait:=Xv s.wait b h} (W++[((b,[h]),e)]):=by
 obtain⟨K,B⟩:=m.apart he;have D:yo H (upd H a.aw o):=m.wai.tups;have p:upd H a.aw o e=some (.lst []):=(upd_ne (au B)).trans he;have r:yo (upd H a.aw o) (upd (upd H a.aw o) e (.lst [v])):=yo.upd p (λ_ z=>by cases z);have t:=D.trans r;simp only[ak,not_or]at ne;have d:∀{c:Y}{k:O (O Nat)},cN H c k->c≠e->cN (upd (upd H a.aw o) e (.lst [v])) c k:=λ{c k} l n=>l.keep (by obtain⟨M,y,_⟩:=l;rw[upd_ne n,upd_ne (au (m.apart y).2)]) t
 obtain⟨L,A⟩:=m.wai.some;have i:a.ad≠a.aw:=λy=>by rw[<-y,m.run.1]at A;grind
 have f:a.as≠a.aw:=λy=>by rw[<-y,m.run.2]at A;grind
 have E:∀q∈W,q.2≠e:=λq u y=>ne.2.2.2.2 (by grind);refine⟨⟨?_,?_⟩,d m.rdy (au ne.2.1),d m.wov (au ne.2.2.1),d m.stp (au ne.2.2.2.1),?_,?_,λq u=>?_,?_,?_,Za (Za m.s0 C) z⟩;rw[upd_ne K,upd_ne i];exact m.run.1;rw[upd_ne (au ne.1),upd_ne f];exact m.run.2;have G:ju (W++[((b,[h]),e)])=ju (W++[((b,[]),e)]):=by unfold ju;simp
 rw[G];exact g.by r (upd_ne B)
 have j:b ∉ s.wait.map (·.1):=by rw[<-m.wl,bv];grind
 rw[BZ j,aq,m.wl];rfl;rcases ce.mp u with y|y;exact⟨d (m.lst q y).1 (E q y),(m.lst q y).2⟩;rw[ai.mp y];exact⟨⟨_,zf,IsL.one (F.tups t (qz _))⟩,z⟩;have q:=m.nd
 grind
 rw[aq,List.nodup_append];refine⟨m.kd,by simp,λx hx y Q z=>?_⟩
 simp_all
def NE(l:List (Nat×List (List Nat))):Prop:=∀r∈l,r.2≠[]
theorem NE.add{l:List (Nat×List (List Nat))}:NE l->NE (Xv l b h):=by
 induction l with|nil=>intro _ r f;rw[ai.mp f];simp| cons c r a=>
   intro n x hx;obtain⟨c,g⟩:=c;unfold Xv at hx;by_cases e:c=b;rw[if_pos e]at hx;rcases ak.mp hx with z|z
   simp_all
   exact n x (bn _ z);rw[if_neg e]at hx;rcases ak.mp hx with z|z;rw[z];exact n _ bo;exact a (λy d=>n y (bn _ d)) x z
theorem NE.del{l:List (Nat×List (List Nat))}:NE l->NE (Xu l b):=by induction l with|nil=>exact λn=>n| cons c r a=>intro n x hx;obtain⟨c,f⟩:=c;unfold Xu at hx;by_cases e:c=b;rw[if_pos e]at hx;exact n x (bn _ hx);rw[if_neg e]at hx;rcases ak.mp hx with z|z;rw[z];exact n _ bo;exact a (λy d=>n y (bn _ d)) x z
theorem NE.len{l:List (Nat×List (List Nat))}:NE l->l.length<=Zj l:=by induction l with|nil=>simp| cons c r a=>intro n;have e:=a λy b=>n y (bn _ b);have d:=List.length_pos_iff.mpr (n c bo);show r.length+1<=c.2.length+Zj r;omega
theorem NE.turn{M:eA (List Nat) aD}{held:List Nat->Nat->Bool}{s:WS (List Nat)}(n:NE s.wait):NE (kr M held s h).wait:=by
 unfold kr;cases jU M s h with|none=>grind| some d=>
   dsimp only;split;exact n;split;show NE (Z9 s (M.ra d));cases M.ra d with|none=>exact n|some p=>exact n.del
   cases M.aw d with|none=>exact n|some p=>exact n.add
theorem IsL.snoc{H:Hp}:∀{c:List L2.T}{t:L2.T}{b:List V},IsL H (c++[t]) b->∃a v,b=a++[v]/\IsL H c a/\Is H t v| [],t,b,h=>by obtain⟨v,f,rfl,e,d⟩:=h;cases(d);exact⟨[],v,J,J,e⟩| u::c,t,b,h=>by obtain⟨v,f,rfl,e,d⟩:=h;obtain⟨a,w,rfl,i,g⟩:=IsL.snoc d;exact⟨v::a,w,J,⟨v,a,J,e,i⟩,g⟩
section
variable{K:W.Frag}
theorem uG{k:Nat}(a:aP k A):A.units+3<cLine:=eh (fg (by decide) _) a.units
theorem BR:aA ["self","hand","deed"] ["self"] (zk wV):=.of
theorem JU(D:jz K cW "weave" "Weaver.weave" wV)(p:aJ K cW cG)(CU:aJ K cU cJ)(CP:aJ K cP aZ)(CR:aJ K cR aR)(oN:cC P w K mg base cU "next_deed" 1 ["self","hand"] (kN cU cP cR))(oM:cC P w K mg base cU "may_go_on" 2 ["self","hand"] (nL cU cP cR))(oS:cC P w K mg base cW "step" 3 ["self","hand"] (nh P w cW cU cP cR)):cC P w K mg base cW "weave" 4 ["self"] (mV P w cW cU cP cR):=by
 refine Yp (k:=3) D BR ?_;rintro f dh A bl s0 H vs Q E hr ⟨H0,a,i,L,g,s,W,rfl,F,m,PH,WV,bJ,b1,k⟩ X;have hu:=Z0 hr;have bI:=uG hr;have bG:=Al hr;have nd:=BR.nd;refine⟨_,zh (xH PassesOwn.never (JH (yd (pv 0) J) (λ_=>rfl)) (ze (zr (i:=1) nd (FG PySem.F.plainAttrs_list PySem.F.slot_list_pop PySem.F.type_list_pop Ft (yd (pv 0) J))) (ze (zr (i:=2) nd (kc oN CU.cls (hr.mono (by decide)) (yd (pv 0) J) (zc (pv 1) zd))) (zh (yj (Jh (FF (τ:=eF) bI (yg (zc (pv 1) (zc (v6 hu (yd (yd (pv 0) J) J) (pv 1)) zd))) (yd (pv 0) J))) (zh (xl (Zi PySem.F.plainAttrs_list PySem.F.slot_list_append PySem.F.type_list_append vi (yd (pv 0) J) (zc (pv 1) zd))))
   (zh (yj (xu (kc oM CU.cls (hr.mono (by decide)) (yd (pv 0) J) (zc (pv 1) zd))) (zh (xl (kc oS p.cls hr (pv 0) (zc (pv 1) zd)))) (zh (yj (Jh (AV (pv 2))) (zh (xl (Zi PySem.F.plainAttrs_list PySem.F.slot_list_append PySem.F.type_list_append vi (JA (τ:=pU) bG (yd (pv 0) J) (yx js (pv 2) xn (y1 zg)) (vf zd) ⟨J,J,J,J⟩) (zc (pv 1) zd)))) zy))))))))),?_⟩
 obtain⟨RF,⟨dx,hx⟩,GH,co,bw,bB,bC⟩:=id F;obtain⟨xp,aS,am,al,PA,ay,_,_,cs,cn⟩:=id RF;have PL:=Oc i PH;refine⟨λM σ G=>∃x1 x2 n x,σ=[some (.ref a.x),x1,x2]/\bR P w H0 G a (fJ (mM i) (jv g) n s) x/\Wv (mM i) (zm (plan i)) (fJ (mM i) (jv g) n s)/\(fJ (mM i) (jv g) n s).sums.length=i.b.toNat/\NE (fJ (mM i) (jv g) n s).wait/\M=Jm (mM i) (zm (plan i)) (fJ (mM i) (jv g) n s),⟨_,none,none,0,W,J,m,WV,bJ,b1,J⟩,?_⟩;rintro M σ G ⟨x1,x2,n,x,rfl,m1,l,B,C,rfl⟩;have kn:=k n x G;generalize b8:fJ (mM i) (jv g) n s=st at m1 l B C kn⊢;obtain⟨ys,av,Z⟩:=id m1.rdy;refine⟨a.x,cW,dx,_,_,J,m1.s0 _ _ hx,p.cls,p.n,Xt, !ys.isEmpty,.inl ⟨ys,aM.of av,J⟩,?_⟩;by_cases c:st.ready=[];rw[c]at Z;cases(show ys=[]from Z);exact yy (kn m1 l B c);obtain⟨r,h,er⟩:∃r h,st.ready=r++[h]:=⟨st.ready.dropLast,st.ready.getLast c,(List.dropLast_concat_getLast c).symm⟩
 rw[er,aq]at Z;obtain⟨yr,v,rfl,bD,iv⟩:=IsL.snoc Z;have ba:(!(yr++[v]).isEmpty)=true:=by cases yr<;>rfl
 rw[ba];obtain⟨WT,b2⟩:=l.turn (held:=jv g) PL er;have hk:h∈zm st.done:=l.rdy h (by rw[er];exact dk _ (ai.mpr J));have hh:=l.sub h hk;have c5:=l.len;have c4:st.done.length<=60:=by
  have q:=vB (mM i) l;have q2:(zm (plan i)).length<=60:=by unfold zm;rw[ag];exact PH.few60
  omega
 have c1:st.wov.length<=1200:=by have q:=l.most;have q2:tot (mM i) (zm (plan i))=Vb i.ss (plan i):=BU (Wy i);have q3:=PH.deeds;have q4:Vb i.ss (plan i)<=1200:=q3;omega
 have cv:r.length+1=st.ready.length:=by rw[er,az];rfl
 refine y3 ⟨λa2 G'=>∃x1 x2 a1,a2=[some (.ref a.x),x1,x2]/\bR P w H0 G' a (kr (mM i) (jv g) {st with ready:=r} h) a1,?_,?_⟩;rintro a2 G' ⟨bk,bg,a1,rfl,m'⟩;have e:fJ (mM i) (jv g) (n+1) s=kr (mM i) (jv g) {st with ready:=r} h:=by show sj _ _ (fJ (mM i) (jv g) n s)=_;rw[b8,JZ er]
 refine⟨_,b2,bk,bg,n+1,a1,J,?_⟩;rw[e];exact⟨m',WT,(LQ ..).trans B,NE.turn (s:={st with ready:=r}) C,J⟩;refine⟨a.x,cW,dx,_,_,J,m1.s0 _ _ hx,p.cls,p.n,Xt,.inl ⟨J,_,aM.of av⟩,a.ay,_,v,J,J,av,by simp,?_⟩;rw[List.dropLast_append_of_ne_nil (by simp),List.dropLast_singleton,cm];have U:=m1.setR bw (l:=r) (vs:=yr) bD;have ah:Is (upd G a.ay (.lst yr)) (hT h) v:=iv.tups (yo.upd av (λ_ z=>by cases z)) (qz _);generalize upd G a.ay (.lst yr)=G2 at U ah⊢;obtain⟨bh,rfl,b6⟩:=Xi ah;refine⟨a.x,cW,dx,_,_,J,U.s0 _ _ hx,p.cls,p.n,Q2,a.xr,aS,_,J,U.s0 _ _ ay,J,H0,a.xr,a.ad,a.as,i,L,st.done,st.sums,h,.ref bh,J,⟨RF,U.s0,U.run⟩,hh,hk,PH,ah,λvd t=>?_⟩;refine⟨a.x,cW,dx,_,_,J,U.s0 _ _ hx,p.cls,p.n,Q2,a.xr,cU,aS,_,_,J,U.s0 _ _ ay,CU.cls,CU.n,Zr,a.ad,_,J,Yv hk▸je.t U.run.1 b6,aI,λp3 G3 s3 cw bM=>?_⟩;have R:=U.same s3;have af:=ah.mono s3;refine⟨a.x,cW,dx,_,_,J,R.s0 _ _ hx,p.cls,p.n,IC,a.ah,p3,g,(hZ h,(yi st.done h:Int)),J,J,GH.same R.s0,⟨p3,_,J,bM,IsL.two af J⟩,_,J,?_⟩;show if jv g h (yi st.done h)=true then _ else _
 by_cases hb:jv g h (yi st.done h)=true;rw[if_pos hb];obtain⟨ps,bc,a6⟩:=id R.stp;have cl:ps.length=st.stop.length:=by have:=a6.length;rw[ag]at this;exact this
 refine⟨a.x,cW,dx,_,_,J,R.s0 _ _ hx,p.cls,p.n,MU,.inl ⟨J,_,aM.of bc⟩,a.ap,ps,_,J,J,bc,Yb (by omega),_,_,x,J,?_⟩;have N:=R.setP bC (l:=st.stop++[h]) (vs:=ps++[.ref bh]) (by rw[aq];exact IsL.append a6 (IsL.one af));have et:kr (mM i) (jv g) {st with ready:=r} h={st with ready:=r,stop:=st.stop++[h]}:=by
  unfold kr;cases jU (mM i) {st with ready:=r} h with
  |none=>exact if_pos hb
  |some d=>exact if_pos hb
 rw [et];exact N;rw[if_neg hb];refine⟨a.x,cW,dx,_,_,J,R.s0 _ _ hx,p.cls,p.n,Q2,a.xr,aS,_,J,R.s0 _ _ ay,J,H0,a.xr,a.ad,a.as,i,L,st.done,st.sums,h,.ref bh,J,⟨RF,R.s0,R.run⟩,hh,hk,PH,B,af,λG4 s4=>⟨_,J,?_⟩⟩;have N:=R.same s4;have a5:=af.mono s4;have em:rR i st.done st.sums h=jP (mM i) {st with ready:=r} h:=by
  unfold rR jP jU;dsimp only;cases((mM i).scr h)[yi st.done h]? with
  |none=>rfl
  | some d=>dsimp only;have e:(mM i).aw d=tO d:=rfl;rw[e]<;>cases tO d<;>rfl
 rw[em];cases hd:jU (mM i) {st with ready:=r} h with
 | none=>
   have t:vd=.non:=by have q:=t;have e:((mM i).scr h)[yi st.done h]?=none:=hd;rw[e]at q;exact q
   have e2:jP (mM i) {st with ready:=r} h=false:=by unfold jP;rw[hd]
   rw[e2,t];refine yy ⟨_,J,yy ⟨_,_,x,J,?_⟩⟩;have et:kr (mM i) (jv g) {st with ready:=r} h={st with ready:=r}:=by unfold kr;rw[hd];exact if_neg hb
   rw[et];exact N
 | some d=>
   have t:Is G2 (eD d) vd:=by have q:=t;have e:((mM i).scr h)[yi st.done h]?=some d:=hd;rw[e]at q;exact q
   by_cases c2:jP (mM i) {st with ready:=r} h=true;rw[c2];have et:kr (mM i) (jv g) {st with ready:=r} h=V5 (mM i) {st with ready:=r} h d:=by unfold kr;rw[hd];exact(if_neg hb).trans (if_pos c2)
   refine y3 ⟨a.x,dx,_,J,N.s0 _ _ hx,J,H0,a,i,L,g,{st with ready:=r},x,h,d,.ref bh,J,F,N,PH,hh,hk,B,a5,hd,l.nd,(by show st.done.length<=999;omega),(by show r.length+Zj st.wait<=1000;omega),(by show st.wov.length<=2000;omega),λW5 G5 m5=>⟨_,_,W5,J,?_⟩⟩;rw[et];exact m5;have c3:jP (mM i) {st with ready:=r} h=false:=by cases e:jP (mM i) {st with ready:=r} h<;>first|rfl|exact absurd e c2
   rw[c3];refine yy ?_;obtain⟨b,M,rfl⟩:∃b M,d=.awa b M:=by
    cases d with
    |awa b M=>exact⟨b,M,J⟩
    |_=>exact absurd (by unfold jP;rw[hd];rfl) c2
   have et:kr (mM i) (jv g) {st with ready:=r} h={st with ready:=r,wait:=Xv st.wait b.toNat h}:=by unfold kr;rw[hd];exact(if_neg hb).trans (if_neg c2)
   obtain⟨sc,bK,b4⟩:=W8 (show((mM i).scr h)[yi st.done h]?=some (.awa b M)from hd);obtain⟨b7,da⟩:=PH.box sc bK _ b4 b M (.inr J);have b5:((b.toNat:Nat):Int)=b:=Int.toNat_of_nonneg b7;have a7:=(t.mono s3).mono s4;have bN:(!decide (vd=.non))=true:=by obtain⟨c,zs,rfl,_⟩:=t;rfl
   refine⟨_,J,?_⟩;rw[bN];refine y3 ?_;have bd:x.length<=60:=by
    have q:=C.len;have q2:x.length=st.wait.length:=by rw[<-N.wl,ag]
    omega
   refine⟨a.x,cW,dx,_,_,J,N.s0 _ _ hx,p.cls,p.n,K2,a.aw,_,J,N.wai,2,J,_,a7,λv5 G5 s5 i5=>⟨bf _,λe G6 s6 j ap=>?_⟩⟩;rw[show Zq [L2.T.str "await",.int b,.int M] none (some 2)=[.str "await",.int b]from yU _ _ _,<-b5]at i5;obtain⟨g5,x5,rfl,c6,c0⟩:=id i5;have m6:=(N.same s5).same s6;have a4:=(a5.mono s5).mono s6;refine⟨g5,ju x,kA b.toNat,J,m6.wai,i5.mono s6,by unfold ju;rw[ag];exact wa (by omega),λv7 bE=>?_,λa8 o hg=>?_⟩;obtain⟨q,hq,bL,rfl⟩:=sk.1 _ bE;obtain⟨zs,aw,a3⟩:=(m6.lst q hq).1;have ck:zs.length<=60:=by
    have e1:=a3.length;rw[ag]at e1;have e2:q.1.2.length<=Zj st.wait:=by
     have cb:(st.wait.map (·.1)).Nodup:=by rw[<-m6.wl,bv];exact m6.kd
     have a9:(q.1.1,q.1.2)∈st.wait:=by rw[<-m6.wl];exact List.mem_map_of_mem (f:=λz:(Nat×List (List Nat))×Addr=>z.1) hq
     rw[<-wK cb a9];exact K1
    omega
   refine⟨.inl ⟨J,_,aM.of aw⟩,q.2,zs,_,J,J,aw,wa (by omega),_,_,x.map λz=>if z.1.1=q.1.1 then((z.1.1,z.1.2++[h]),z.2)else z,J,?_⟩;rw[et,<-bL];exact m6.addW hq aw a3 a4;have b0:=sk.2 a8;rw[X5 _ a8]at hg;have b9:ju x++[(kA b.toNat,V.ref e)]=ju (x++[((b.toNat,[]),e)]):=by unfold ju;rw[aq];rfl
   rw[b9]at hg;have m5:=N.same s5;have S:∀{c:Addr}{i:List (List Nat)},cN G5 c i->e≠c:=λ{c i} ⟨vs,y,_⟩ z=>by rw[z,y]at j;cases j
   have b3:e ∉ a.as::a.ay::a.ao::a.ap::x.map (·.2):=λhm=>by rcases ak.mp hm with z|z;rw[z,m5.run.2]at j;cases j;rcases ak.mp z with z|z;exact S m5.rdy z;rcases ak.mp z with z|z;exact S m5.wov z;rcases ak.mp z with z|z;exact S m5.stp z;obtain⟨q,hq,y⟩:=bz.mp z;exact S (m5.lst q hq).1 y.symm
   have cc:H0 e=none:=by
    cases z:H0 e with
    |none=>rfl
    |some u=>rw[m5.s0 _ _ z]at j;cases j
   obtain⟨φ,ew⟩:=m6.wai.some;have bb:upd G6 a.aw o e=some (.lst []):=(upd_ne (λz=>by rw[z,ew]at ap;cases ap)).trans ap;refine⟨.inl ⟨J,_,aM.of bb⟩,e,[],_,J,J,bb,(by decide),_,_,x++[((b.toNat,[h]),e)],J,?_⟩;rw[et];exact m6.newW ap cc bB b3 b0 hg a4
end
noncomputable abbrev Vk:Stmt:=aX 62
noncomputable def mE(hs:aB)(held:List ((List Int×Int)×V))(U:List (List Nat×Nat))(F:List Int)(n:Nat):WS (List Nat):=fJ (mM hs) (jv held) n (newW U F)
inductive hV(P:Program)(w:World)(cU cP cR:Addr)(vs:List V)(H:Hp)(Q:VK)(e0:XK):Prop|mk:∀(H0:Hp)(xr ad as ah:Addr)(hs:aB)(L:RL)(done:List (List Nat×Nat))(sums:List Int)(held:List ((List Int×Int)×V)),vs=[.ref xr,.ref ah]->bW H0 H cU cP cR hs L xr ad as done sums->bH eF P w H0 ah held->dY hs->Wv (mM hs) (zm (plan hs)) (newW done sums)->sums.length=hs.b.toNat->(∀n ao H',zi H0 H'->H0 ao=none->V0 H' ad as (mE hs held done sums n).done (mE hs held done sums n).sums->cN H' ao (mE hs held done sums n).wov->Wv (mM hs) (zm (plan hs)) (mE hs held done sums n)->(mE hs held done sums n).ready=[]->Q (.ref ao) H')->hV P w cU cP cR vs H Q e0
section
variable{K:W.Frag}
theorem Jy:aA ["run","held","weaver"] ["run","held"] (zk Vk):=.of
theorem Nk(D:aY K mg "woven_on" Vk)(G:aJ K cW cG)(oI:gj P w K mg base "Weaver" cW 1 ["self","run","held"] (mX P w cW cU cP cR))(oW:cC P w K mg base cW "weave" 4 ["self"] (mV P w cW cU cP cR)):Ok P w K mg base "woven_on" 5 ["run","held"] (hV P w cU cP cR):=by
 refine qk D Jy ?_;rintro f aS A t s H vs Q E l ⟨H0,M,ad,as,U,h,L,a,c,d,rfl,R,GH,Z,W,v,k⟩ X;have nd:=Jy.nd;refine⟨_,ze (zr (i:=2) nd (qO oI (l.mono (by decide)) (zc (pv 0) (zc (pv 1) zd)))) (ze (xl (Ku oW G.cls l (pv 2))) (zh (zt (yd (pv 2) J)))),?_⟩
 refine(λx C hx z av=>?_);have p:zi H (upd (upd H C (.own x)) x (.ins cW C [])):=λb o e=>by rw[upd_ne (zn e hx),upd_ne (zn e z)];exact e
 have B:a.length<=1000:=by
  have q:=vB (mM h) W;have q2:(zm (plan h)).length<=60:=by unfold zm;rw[ag];exact Z.few60
  have q3:a.length<=(zm (plan h)).length:=q;omega
 refine⟨H0,x,C,M,ad,as,U,h,L,a,c,d,J,zf,R.s.trans p,wm R.s hx,R.f,⟨p _ _ R.m.1,p _ _ R.m.2⟩,GH,B,λS ay aw ap G0 H2 N F m=>⟨J,?_⟩⟩;obtain⟨RF,⟨i,g⟩,_,u,_⟩:=id F;refine⟨x,i,_,J,m.s0 _ _ g,J,G0,⟨x,M,ad,as,U,S,ay,aw,ap⟩,h,L,d,newW a c,[],J,F,m,Z,W,v,λr l=>(nomatch l),λn W' H3 j W3 af y=>?_⟩;refine⟨x,cW,i,_,_,J,j.s0 _ _ g,G.cls,G.n,B3,?_⟩;exact k n S H3 (N.trans j.s0) (wm N u) j.run j.wov W3 y
end
noncomputable def uB:Stmt:=aX 66
noncomputable abbrev Vl:Stmt:=(vk uB).getD 0 dD
noncomputable abbrev wS:Stmt:=(vk uB).getD 1 dD
noncomputable abbrev sV:Stmt:=(vk uB).getD 2 dD
noncomputable def eQ:List Str:=["run","woven"]
noncomputable def rE(F U:Addr):List (Str×V):=[(("run":Str),.ref F),("woven",.ref U)]
theorem Fu:(rE xr ao).lookup ("run":Str)=some (.ref xr):=rfl
theorem xT:(rE xr ao).lookup ("woven":Str)=some (.ref ao):=rfl
inductive aV(N:Addr->Prop)(H:Hp)(cS cU:Addr)(x:Addr)(st:WS (List Nat)):Prop|mk:∀dx xr ao dxu xp ad as am al,H x=some (.ins cS dx (rE xr ao))->H xr=some (.ins cU dxu (fz xp ad as am al))->H ad=some (.dT (y2 st.done))->cN H ao st.wov->N x->N xr->N ad->N ao->aV N H cS cU x st
theorem aV.keep{N N':Y->Prop}{st:WS (O Nat)}(a:aV N H cS cU x st)(d:∀b o,N b->H b=some o->H' b=some o)(t:yo H H')(c:∀b,N b->N' b):aV N' H' cS cU x st:=by obtain⟨s,j,u,e,k,ad,as,v,w,r,q,p,⟨l,n,m⟩,i,h,g,f⟩:=a;exact⟨s,j,u,e,k,ad,as,v,w,d _ _ i r,d _ _ h q,d _ _ g p,⟨l,d _ _ f n,m.tups t (Qq _)⟩,c _ i,c _ h,c _ g,c _ f⟩
theorem aV.same{N:Y->Prop}{st:WS (O Nat)}(a:aV N H cS cU x st)(s:zi H H'):aV N H' cS cU x st:=a.keep (λb o _ e=>s b o e) s.tups λ_ n=>n
noncomputable def Yl(hs:aB)(held:List ((List Int×Int)×V))(n:Nat):WS (List Nat):=mE hs held (vx (Kk (plan hs))) (Ym hs) n
noncomputable def jp(h:List Nat)(p:Nat):List ((List Int×Int)×V):=[((hZ h,(p:Int)),.bl true)]
theorem Kz(hs:aB):(Ym hs).length=hs.b.toNat:=fh ..
theorem wY{hs:aB}(W:dY hs):Wv (mM hs) (zm (plan hs)) (newW (vx (Kk (plan hs))) (Ym hs)):=by
 have e:newW (vx (Kk (plan hs))) (Ym hs)=qQ (Kk (plan hs)) (Ym hs):=by unfold newW qQ;congr 1;unfold zm vx;rw[bv];exact List.map_id _
 rw[e];refine Iw Aj AL λh p g c i=>?_;obtain⟨_,d,x,_,_,m⟩:=Q0 (c);have l:=c9 (f8.mp i).2;rw[m,az,List.length_singleton]at l;have k:h=[]:=fi.mp (by omega);have hk:=(Q0 (c)).1;rw[k]at hk;obtain⟨q,f,_⟩:=bz.mp hk;obtain⟨z,n,a⟩:=List.mem_flatMap.mp f;obtain⟨t,b⟩:=W4 (List.mem_map_of_mem a)
 rename_i j
 rw[j]at b;cases b
theorem aN.keepO{hs:aB}{L:RL}(p:aN H cP cR hs L x)(a:∀b o,(∀C d,o≠ .ins C d [])->H b=some o->H' b=some o):aN H' cP cR hs L x:=by obtain⟨c,h,K,G,F,E,D,B⟩:=p;have t:yo H H':=λb P e=>a b _ (λ_ _ z=>by cases z) e;refine⟨c,h,K,a _ _ (λ_ _ z=>by cases z) G,F.tups t (wo _),a _ _ (λ_ _ z=>by cases z) E,D,λq A=>?_⟩;obtain⟨c,i,f,g,N,M,ac,kb,u,s,r,m,l,k,j,n,y,w,v⟩:=B q A;exact⟨c,i,f,g,N,M,ac,kb,a _ _ (λ_ _ z=>by cases z) u,s.tups t (Vv _),r,a _ _ (λ_ _ z=>by cases z) m,a _ _ (λ_ _ z=>by cases z) l,a _ _ (λ_ _ z=>by cases z) k,j.tups t,n,y,w,v⟩
inductive ny(cS cU cP cR:Addr)(vs:List V)(H:Hp)(Q:VK)(e0:XK):Prop|mk:∀(G:Hp)(x dx xp:Addr)(vone:V)(hs:aB)(L:RL)(h:List Nat)(p:Nat),vs=[.ref x,.ref xp,vone]->H x=some (.ins cS dx [])->zi G H->G x=none->aN G cP cR hs L xp->dY hs->Is H (.tup [hT h,.int (p:Int)]) vone->(∀n H',zi G H'->Wv (mM hs) (zm (plan hs)) (Yl hs (jp h p) n)->(Yl hs (jp h p) n).ready=[]->aV (λa=>G a=none) H' cS cU x (Yl hs (jp h p) n)->Q .non H')->ny cS cU cP cR vs H Q e0
section
variable{K:W.Frag}
theorem Np:aA ["self","plan","one"] ["self","plan","one"] (zk Vl):=.of
theorem Nj(D:my K mg "Stop" "Stop.__init__" cS Vl)(CS:aJ K cS eQ)(oF:Ok P w K mg base "first_run" 4 ["plan"] (io cU cP cR))(oO:Ok P w K mg base "woven_on" 5 ["run","held"] (hV P w cU cP cR)):gj P w K mg base "Stop" cS 6 ["self","plan","one"] (ny cS cU cP cR):=by
 refine sr (k:=5) D Np ?_;rintro f bd A a3 s H vs Q E hr ⟨G,x,l,xp,ap,hs,L,h,p,rfl,hx,sG,Gx,PA,PH,iv,k⟩ X;have a7:=uG hr;refine⟨_,ze (qb (pv 0) (yc oF (hr.mono (by decide)) (zc (pv 1) zd)) J) (zh (qb (pv 0) (yc oO hr (zc (yd (pv 0) J) (zc (Lr (τ:=eF) a7 (pv 2) wr) zd))) J)),?_⟩;refine⟨xp,hs,L,J,PA.same sG,PH,λa ad as H0 H1 v s1 F RF RM=>?_⟩;obtain⟨af,a2,am,al,ba,r,N,R,g,C⟩:=id RF;have a1:=s1 _ _ (v _ _ hx);refine⟨x,cS,l,_,J,a1,CS.cls,CS.n,aI,?_⟩;rw[show qv "run" (.ref a) []=[(("run":Str),V.ref a)] by rfl];have c:=v _ _ hx;have aw:ad≠x:=λz=>by rw[z,c]at g;cases g
 have a4:as≠x:=λz=>by rw[z,c]at C;cases C
 have B:a≠x:=λz=>by rw[z,hx]at F;cases F
 have g2:upd H1 x (.ins cS l [(("run":Str),V.ref a)]) x=_:=zf;have b2:Bt [x] H1 (upd H1 x (.ins cS l [(("run":Str),V.ref a)])):=Bt.upd (by simp);generalize upd H1 x (.ins cS l [(("run":Str),V.ref a)])=H2 at g2 b2⊢;have av:zi G H2:=b2.same ((sG.trans v).trans s1) λm d=>by rw[ai.mp d];exact Gx
 have nx:∀{b:Addr},b≠x->b ∉ [x]:=λ{b} z d=>z (ai.mp d);refine⟨x,cS,l,_,_,J,g2,CS.cls,CS.n,J,λah o S hg=>?_⟩;have t2:yo H1 H2:=b2.tups λm d xs e=>by rw[ai.mp d,a1]at e;cases e
 have ay:Is H2 (.tup [hT h,.int (p:Int)]) ap:=((iv.mono v).mono s1).tups t2 ⟨qz _,trivial,trivial⟩;obtain⟨vo,xo,rfl,bb,bc⟩:=id ay;have sa:=zi.new S o;refine⟨vo,(hZ h,(p:Int)),J,ay.mono sa,hg,λo' M=>?_⟩;have t:zi H2 (upd (upd H2 ah o) ah o'):=λb u e=>by rw[upd_ne (zn e S),upd_ne (zn e S)];exact e
 generalize upd (upd H2 ah o) ah o'=H3 at t M⊢;have Z:=t _ _ (b2 _ _ (nx aw) RM.1);have U:=t _ _ (b2 _ _ (nx a4) RM.2);have i:∀{b:Addr}{u:HO},H0 b=some u->b ∉ [ad,as]:=λ{b u} e d=>by rcases ak.mp d with z|z;rw[z,g]at e;cases e;rw[ai.mp z,C]at e;cases e
 have tw:yo H3 (without [ad,as] H3):=λb xs e=>by rw[yt];exact e;intro d;rcases ak.mp d with z|z;rw[z,Z]at e;cases e;rw[ai.mp z,U]at e;cases e
 have a6:ah ∉ [ad,as]:=λd=>by obtain⟨φ,e⟩:=M.some;rcases ak.mp d with z|z;rw[z,Z]at e;cases e;rw[ai.mp z,U]at e;cases e
 have kp:∀b u,b≠x->H0 b=some u->without [ad,as] H3 b=some u:=λb u z e=>by rw[yt (i e)];exact t _ _ (b2 _ _ (nx z) (s1 _ _ e))
 have xw:without [ad,as] H3 x=some (.ins cS l [(("run":Str),V.ref a)]):=by rw[yt (i c)];exact t _ _ g2
 have a9:dQ (without [ad,as] H3) cU cP cR hs L a ad as:=⟨af,a2,am,al,ba.keepO (λb u z e=>kp b u (λy=>by rw[y,c]at e;exact z _ _ (Option.some.inj e).symm) e),kp _ _ B r,kp _ _ (λy=>by rw[y,c]at N;cases N) N,kp _ _ (λy=>by rw[y,c]at R;cases R) R,yw (by simp),yw (by simp)⟩
 refine⟨without [ad,as] H3,a,ad,as,ah,hs,L,_,_,jp h p,J,⟨a9,vj,Z,U⟩,M.by tw (yt a6),PH,wY PH,Kz hs,λn W H4 s4 j rm l4 WV a8=>?_⟩;have aS:=s4 _ _ xw;refine⟨x,cS,l,_,J,aS,CS.cls,CS.n,aI,?_⟩;rw[show qv "woven" (.ref W) [(("run":Str),V.ref a)]=rE a W by rw[xi (by decide)];rfl];have a5:W≠x:=λz=>by rw[z,xw]at j;cases j
 have t5:yo H4 (upd H4 x (.ins cS l (rE a W))):=yo.upd aS (λ_ z=>by cases z);refine k n _ (λb u e=>?_) WV a8 ⟨l,a,W,a2,af,ad,as,am,al,zf,?_,(upd_ne aw).trans rm.1,l4.keep (upd_ne a5) t5,Gx,wm sG F,wm (sG.trans v) g,?_⟩;rw[upd_ne (λz=>by rw[z,Gx]at e;cases e)];refine s4 _ _ ?_;rw[yt (i (v _ _ (sG _ _ e)))];exact t _ _ (av _ _ e);rw[upd_ne B];exact s4 _ _ (kp _ _ B r);show G W=none;cases z:G W with|none=>rfl| some u=>have q:=av _ _ z;have q2:=v _ _ (sG _ _ z);rw[yt (i q2),t _ _ q]at j;cases j
theorem KZ:aA ["self","other"] ["self","other"] (zk wS):=.of
inductive nN(cS cU:Addr)(vs:List V)(H:Hp)(Q:VK)(e0:XK):Prop|mk:∀(x:Addr)(st:WS (List Nat))(h:List Nat)(p:Nat)(vn:V),vs=[.ref x,vn]->aV (λ_=>True) H cS cU x st->Is H (.tup [hT h,.int (p:Int)]) vn->Q (.bl (!decide (p<yi st.done h))) H->nN cS cU vs H Q e0
theorem JR(D:jz K cS "lacks" "Stop.lacks" wS)(e:aJ K cS eQ)(v:aJ K cU cJ)(j:cC P w K mg base cU "has_done" 1 ["self","name"] (nR cU)):cC P w K mg base cS "lacks" 2 ["self","other"] (nN cS cU):=by refine Yp D KZ ?_;rintro f r A b s H y Q E m ⟨x,st,h,p,i,rfl,⟨q,c,B,a,g,ad,as,t,u,o,d,n,z,_⟩,l,k⟩ X;refine⟨_,zh (zt (An (kc j v.cls m (yd (pv 0) J) (zc (pv 1) zd)))),?_⟩;exact⟨x,cS,q,_,_,J,o,e.cls,e.n,Fu,c,a,_,J,d,J,c,a,g,ad,as,t,u,st.done,h,p,i,J,d,n,l,_,J,k⟩
noncomputable def Wk(h:List Nat)(l:List (List Nat)):Nat->List Nat|0=>[]|i+1=>Wk h l i++if l[i]?=some h then[i]else[]
theorem Qo(h:List Nat)(l:List (List Nat)):∀i,(Wk h l i).length=(l.take i).count h
 |0=>rfl
 | i+1=>by
   show(Wk h l i++if l[i]?=some h then[i]else[]).length=_;rw[az,Qo h l i,de,List.count_append]
   grind
theorem AO{h:List Nat}{l:List (List Nat)}:∀{i p j:Nat},(Wk h l i)[p]?=some j->l[j]?=some h/\(l.take j).count h=p
 |0,p,j,e=>by cases e
 | i+1,p,j,e=>by
   have a:(Wk h l i++if l[i]?=some h then[i]else[])[p]?=some j:=e;by_cases c:p<(Wk h l i).length;rw[fj c]at a;exact AO a;rw[List.getElem?_append_right (by omega)]at a;by_cases z:l[i]?=some h;rw[if_pos z]at a;have q:=(ci.mp a).1;have b:p-(Wk h l i).length=0:=by simp_all
   rw[b]at a;cases a;refine⟨z,?_⟩;rw[<-Qo];omega
   simp_all
theorem EJ(a b:O Nat):id (PyData.eqv (aT (hT a)) (aT (hT b)))=decide (a=b):=by
 show PyData.eqv (aT (tI (hZ a))) (aT (tI (hZ b)))=_;rw[FT];by_cases c:a=b
 simp_all
 rw[cf c,cf (λz=>c (Zp z))]
theorem Vi{a:Type}(l:O a)(j:Nat):Zq l none (some ((j:Nat):Int))=l.take j:=by unfold Zq;rw[HT.tz,HT.re];simp
theorem A6:aA ["self","other","places"] ["self","other"] (zk sV):=.of
inductive mY(cS cU:Addr)(vs:List V)(H:Hp)(Q:VK)(e0:XK):Prop|mk:∀(x:Addr)(st:WS (List Nat))(h:List Nat)(p:Nat)(vn:V),vs=[.ref x,vn]->aV (λ_=>True) H cS cU x st->Is H (.tup [hT h,.int (p:Int)]) vn->p<st.wov.count h->st.wov.length<=2000->(∀l H' (j:Nat),zi H H'->st.wov[j]?=some h->(st.wov.take j).count h=p->Is H' (.lst ((st.wov.take (j+1)).map hT)) (.ref l)->Q (.ref l) H')->mY cS cU vs H Q e0
theorem Ic(D:jz K cS "up_to" "Stop.up_to" sV)(T:Txt K mg)(F:aJ K cS eQ):cC P w K mg base cS "up_to" 1 ["self","other"] (mY cS cU):=by
 refine Yp D A6 ?_;rintro f aw A G s H vs Q E hr ⟨x,st,h,p,vn,rfl,⟨dx,xr,ao,av,xp,ad,as,am,al,h1,h2,h3,⟨os,m,d⟩,_⟩,iv,hp,ah,k⟩ X;have nd:=A6.nd;refine⟨_,ze (ut (i:=2) (own:=["place","hand"]) (cap:=[1]) (g:=eU K 2 (bO (Ze 0) (bO (Ze 1) mt))) J (we (zk sV) J J (by decide+kernel) (by decide+kernel) (by decide+kernel) ⟨⟨_,J,.inl J,jw J⟩,trivial⟩)
   (JD J T.enumerate (zc (yd (pv 0) J) zd))
   (λ_ _ _ _=>Zb J (yv (ya (by show(["place","hand","other"]:List Str).Nodup;decide+kernel) J (Or.inl J)) (yv (ya (by show(["place","hand","other"]:List Str).Nodup;decide+kernel) J (Or.inl J)) jb)))
   (λ_ _ _ _=>Yo (zu (vQ (by exact hr.units)) (pv 1) (zp (r:=dW K) zx (pv 2) zg (λ_ _=>rfl)) (yb _)))
   (λ_ _ _ _=>pv 0) nd J J (by with_unfolding_all rfl))
  (zh (zt (yx Ey (yd (pv 0) J) xn (y1 (ye wb (zp qg (pv 2) (zp zx (pv 1) zg)) zg))))),?_⟩
 obtain⟨a5,af,rfl,v,S⟩:=id iv;obtain⟨v1,rr,rfl,M,v2,r2,rfl,L,N⟩:=S;cases(N);cases(L);have r:=d.length;rw[ag]at r;refine⟨x,cS,dx,_,_,J,h1,F.cls,F.n,xT,ao,os,J,m,?_⟩;refine II (λi B b=>zi H b/\B=(Wk h st.wov i).map λ(j:Nat)=>V.int j) ⟨zi.refl H,J⟩ (λi B b hi ⟨n,e⟩=>⟨n _ _ m,?_⟩) ?_ ?_;rw[e,ag,Qo];have q:=List.count_le_length (a:=h) (l:=st.wov.take i);have q2:=List.length_take_le i st.wov;exact Nat.le_of_lt (Yb (by omega));rintro i z B b q hz ⟨n,rfl⟩ hq;have U:=zi.new hq (.tup [.int i,z]);have o:upd b q (.tup [.int i,z]) q=some (.tup [.int i,z]):=zf;generalize upd b q (.tup [.int i,z])=H3 at U o⊢;have a:=n.trans U;obtain⟨t,y,it⟩:=d.get' hz;rw[bi]at y;cases C:st.wov[i]? with|none=>rw[C]at y;cases y| some g=>rw[C]at y;cases y;refine⟨q,_,J,aG.of o,J,_,_,J,_,_,J,J,?_⟩;refine⟨a5,_,_,_,J,J,aG.of (a _ _ v),J,hT g,hT h,it.mono a,M.mono a,vA _,vA _,Io _,_,J,?_⟩;rw[EJ];by_cases c:g=h;rw[bp c];refine y3 ⟨a,?_⟩;show _=(Wk h st.wov i++if st.wov[i]?=some h then[i]else[]).map _;rw[C,c,if_pos J,aq];rfl;rw[cf c];refine yy ⟨a,?_⟩;show _=(Wk h st.wov i++if st.wov[i]?=some h then[i]else[]).map _;rw[C,if_neg (λz=>c (Option.some.inj z)),cm]
 rintro B b ⟨n,rfl⟩ l hl;have W:=zi.new hl (.lst ((Wk h st.wov os.length).map λ(j:Nat)=>V.int j));have u:upd b l (.lst ((Wk h st.wov os.length).map λ(j:Nat)=>V.int j)) l=_:=zf;generalize upd b l (.lst ((Wk h st.wov os.length).map λ(j:Nat)=>V.int (j:Int)))=H5 at W u⊢;have a:=n.trans W;have R:p<(Wk h st.wov os.length).length:=by rw[Qo,r,dg];exact hp
 have ej:=br R;obtain⟨e1,e2⟩:=AO ej;refine⟨x,cS,dx,_,_,J,a _ _ h1,F.cls,F.n,xT,a5,_,_,_,J,J,aG.of (a _ _ v),J,l,_,_,_,J,J,aM.of u,wx (by rw[bi,ej];rfl),_,_,J,J,_,J,st.wov.map hT,⟨ao,os,J,a _ _ m,d.mono a⟩,λl2 H6 s6 ap Z=>?_⟩;have ec:Zq (st.wov.map hT) none (some (((Wk h st.wov os.length)[p]:Int)+1))=(st.wov.take ((Wk h st.wov os.length)[p]+1)).map hT:=(Vi (st.wov.map hT) ((Wk h st.wov os.length)[p]+1)).trans (List.map_take ..).symm;rw[ec]at Z;exact k l2 H6 _ (a.trans s6) e1 e2 Z
end
end My
namespace L2
open PySem PySem.Spec PyProof.Rows
noncomputable def sT(xs:List Str):List T:=xs.map T.str
theorem Q3:∀xs:List Str,jd (sT xs)=xs.map PyData.str|[]=>by rfl| n::r=>by show jd (T.str n::sT r)=_;unfold jd;rw[Q3 r];rfl
theorem Bu:∀xs:List Str,(∀x∈xs,PyData.strOk x=true)->PyData.canLayAll0 (jd (sT xs))=true|[],_=>rfl| n::r,h=>by show PyData.canLayAll0 (jd (T.str n::sT r))=true;unfold jd aT PyData.canLayAll0;rw[Bu r λx hx=>h x (bn _ hx)];simp[PyData.canLay0,h n bo]
theorem CY:∀xs:List Str,PyData.depthAll (jd (sT xs))=0|[]=>rfl| n::r=>by show PyData.depthAll (jd (T.str n::sT r))=0;unfold jd aT PyData.depthAll;rw[CY r];rfl
theorem Iv:∀ns c:List Str,PyData.eqvAll (jd (sT ns)) (jd (sT c))=decide (ns=c):=λns c=>by
 rw[Q3,Q3];induction ns generalizing c with|nil=>cases c<;>rfl| cons a r d=>
   cases c with|nil=>rfl| cons b q=>
     simp only[c8,PyData.eqvAll,PyData.eqv,d q]
     grind
theorem IsL.strs{H:Hp}:∀{a:List Str}{xs:List V},IsL H (sT a) xs↔xs=a.map V.str|[],xs=>Iff.rfl| n::r,xs=>by constructor;rintro⟨v,d,rfl,c,b⟩;rw[IsL.strs.mp b,(c)];rfl;rintro rfl;exact⟨_,_,J,J,IsL.strs.mpr J⟩
theorem BL(a:O Str)(h:∀x∈a,PyData.strOk x=true):(aT (.lst (sT a))).canLay0=true:=by unfold aT PyData.canLay0;exact Bu a h
theorem Ma(a:O Str):(aT (.lst (sT a))).depth<=20:=by unfold aT PyData.depth;rw[CY];decide
theorem Iu(a b:O Str):PyData.eqv (aT (.lst (sT a))) (aT (.lst (sT b)))=decide (a=b):=by unfold aT PyData.eqv;exact Iv a b
end L2
namespace My
open PySem PySem.Spec PyProof.Rows L2
variable{a cH cL cP cR cU cW l:Addr}{osl:Array (Option Value)}{X:Cx}{D:Ends}{e:Expr}{dL Dt:FuncData}{base h:Heap}{G H H0 H1:Hp}{B b:Int}{σ:L2.St}{M ws:List Addr}{g:List Int}{N:List Str}{ts:List T}{xs ys:List V}{i m p:Nat}{an od:Option Addr}{P q:Program}{st:Stmt}{kd x:Str}{mg:Str->Option Value}{tA:TT}{v:V}{oc:Value}{w:World}
noncomputable abbrev Z4:Stmt:=aX 72
structure rJ(mg:Str->Option Value):Prop where
 MEET:∃t,mg "MOST_MEETERS"=some (.int 16 t)
 PHAS:∃t,mg "MOST_PHASES"=some (.int 4 t)
noncomputable def cT(p:Nat):List Str:=(List.replicate p [("come":Str),"go"]).flatten
noncomputable def Vc(n p:Nat)(h:List Nat):List Str:=match h with|[k]=>if k<n then cT p else[]|_=>[]
noncomputable def pI(hs:aB)(n p:Nat):Bool:=((List.range n).all λk=>decide ([k]∈zm (plan hs))) && (zm (plan hs)).all λh=>decide (yz ((mM hs).scr h)=Vc n p h)
noncomputable def isMade(hs:aB)(n p:Int):Bool:=(decide (1<=n) && decide (n<=16)) && ((decide (0<=p) && decide (p<=4)) && pI hs n.toNat p.toNat)
theorem Nr{L:RL}(h:List Nat):(xa (y0 L) (kI (hZ h))).isSome=decide (h∈qm L):=by
 induction L with|nil=>rfl| cons q r a=>
   show(xa ((kI (hZ q.1.1),V.ref q.2)::y0 r) _).isSome=decide (h∈q.1.1::qm r);by_cases e:q.1.1=h;rw[wz (by rw[e]),e,bp bo];rfl;rw[wc (λz=>e (Zp (Zx z))),a]
   grind
noncomputable def Xq(F:List Addr):List (List Int×V):=F.zipIdx.map λq=>([(q.2:Int)],.ref q.1)
theorem MT(b:O Y)(a:Y):Xq (b++[a])=Xq b++[([(b.length:Int)],.ref a)]:=by
 unfold Xq
 grind
theorem BX:(Xq ws)[i]?=(ws[i]?).map λa=>([(i:Int)],V.ref a):=by
 unfold Xq
 grind
noncomputable def Zh(F:List Addr):List (List aK×V):=(Xq F).map λr=>(kI r.1,r.2)
theorem K3:(Zh ws)[i]?=(ws[i]?).map λa=>(kI (hZ [i]),V.ref a):=by unfold Zh;rw[bi,BX];cases ws[i]?<;>rfl
theorem CF(a:O Y):(Zh a).length=a.length:=by unfold Zh Xq;simp
theorem BY(d:O Y):((Xq d).map λr=>kI r.1).Nodup:=by
 have e:((Xq d).map λr=>kI r.1)=(List.range d.length).map λi=>kI (hZ [i]):=by
  refine List.ext_getElem? λi=>?_;rw[bi,BX,bi];by_cases c:i<d.length;rw[br c,List.getElem?_range c];rfl
  simp_all
 rw[e];refine List.Pairwise.map _ (λa b f z=>f ?_) List.nodup_range;have q:=Zp (Zx z)
 simp_all
theorem IL(a:O Y):jQ (Xq a) []=Zh a:=by rw[uQ];rfl;exact BY a
theorem AK{b:Type}[DecidableEq b]:∀{l:List (b×V)}{i:Nat}{k:b}{v:V},(l.map (·.1)).Nodup->l[i]?=some (k,v)->xa l k=some v|[],i,k,v,_,e=>by cases e|p::r,0,k,v,_,e=>by cases e;exact wz J| p::r,i+1,k,v,c,e=>by have a:=cu.mp c;rw[List.getElem?_cons_succ]at e;rw[wc (λz=>a.1 (by grind))];exact AK a.2 e
theorem KB(b:List Addr)(h:List Nat):xa (Zh b) (kI (hZ h))=match h with
  |[k]=>(b[k]?).map V.ref
  |_=>none:=by
 have g:((Zh b).map (·.1)).Nodup:=by unfold Zh;rw[bv];exact BY b
 have c:(∀k,h=[k]->b[k]?=none)->xa (Zh b) (kI (hZ h))=none:=λn=>by
  cases e:xa (Zh b) (kI (hZ h))with
  |none=>rfl
  | some v=>
    obtain⟨q,l,m⟩:=bz.mp (wI e);obtain⟨i,f⟩:=List.mem_iff_getElem?.mp l;rw[K3]at f;cases d:b[i]? with
    |none=>simp_all
    | some a=>
      rw[d]at f;cases f;have:=Zp (Zx m)
      simp_all
 match h,c with
 | [k],no=>
   show xa (Zh b) (kI (hZ [k]))=(b[k]?).map V.ref;cases d:b[k]? with
   |none=>exact no λj e=>by cases e;exact d
   |some a=>exact AK g (by rw[K3,d];rfl)
 |[],no=>exact no λk e=>by cases e
 |_::_::_,no=>exact no λk e=>by cases e
theorem HQ{hs:aB}(W:dY hs)(h:List Nat):∀x∈yz ((mM hs).scr h),PyData.strOk x=true:=λx hx=>by obtain⟨d,g,a⟩:=List.mem_filterMap.mp hx;obtain⟨i,f⟩:=List.mem_iff_getElem?.mp g;obtain⟨e,b,c⟩:=W8 f;cases d with| say y=>cases a;exact W.says e b _ c|_=>cases a
theorem EY(p:Nat):∀x∈cT p,PyData.strOk x=true:=λx hx=>by unfold cT at hx;obtain⟨l,b,a⟩:=List.mem_flatten.mp hx;rw[List.eq_of_mem_replicate b]at a;rcases ak.mp a with e|e;rw[e];decide+kernel;rw[ai.mp e];decide+kernel
theorem D4(p:Nat):(List.replicate p [V.str "come",V.str "go"]).flatten=(cT p).map V.str:=by unfold cT;simp
inductive nK(cP cR:Addr)(vs:List V)(H:Hp)(Q:VK)(e0:XK):Prop|mk:∀(x:Addr)(hs:aB)(L:RL)(n p:Int),vs=[.ref x,.int n,.int p]->aN H cP cR hs L x->dY hs->(∀H',zi H H'->Q (.bl (isMade hs n p)) H')->nK cP cR vs H Q e0
section
variable{K:W.Frag}
theorem C4:aA ["plan","n","p","wanted"] ["plan","n","p"] (zk Z4):=.of
theorem Ms(D:aY K mg "is_made" Z4)(T:Txt K mg)(TM:rJ mg)(CP:aJ K cP aZ)(CR:aJ K cR aR)(oW:Ok P w K mg base "is_within" 2 ["thing","least","most"] eR)(oS:Ok P w K mg base "said_in" 1 ["deeds"] kJ):Ok P w K mg base "is_made" 3 ["plan","n","p"] (nK cP cR):=by
 refine qk (k:=2) D C4 ?_;rintro f cn A bE s H vs Q E hr ⟨x,m,L,n,p,rfl,PA,PH,k⟩ X;have hu:=Z0 hr;have bI:=Am hr;have nd:=C4.nd;refine⟨_,ze (yj (PW.pt (Xr (xz (xu (yc oW hr (zc (pv 1) (zc zg (zc (xv TM.MEET) zd)))))) (Ye (xz (xu (yc oW hr (zc (pv 2) (zc zg (zc (xv TM.PHAS) zd))))))))) (zh (zt wr)) zy) (ze (zr (i:=3) nd (vz (CO J bI) J T.dict Qz (zc (kf (own:=["number"]) (cap:=[2]) J (we (zk Z4) J J (by decide+kernel) (by decide+kernel) (by decide+kernel) ⟨⟨_,J,.inl J,jw J⟩,trivial⟩) (va J T.range (zc (pv 1) zd)) (λ_ _ _ _=>ya (i:=0) (by show(["number","p"]:List Str).Nodup;decide+kernel)) (λ_ _ _ _=>qr) (λ_ _ _ _=>yg (zc (yg (zc (pv 0) zd)) (zc (ye Aq (vf (zc zo (zc zo zd))) (pv 1)) zd)))) zd)))
  (ze (yj (xz (xu (qT (yh (Zf J) J T.all Xm (zc (kf (own:=["hand"]) (cap:=[0]) J (we (zk Z4) J J (by decide+kernel) (by decide+kernel) (by decide+kernel) ⟨⟨_,J,.inl J,jw J⟩,trivial⟩) (B5 (pv 3)) (λ_ _ _ _=>ya (i:=0) (by show(["hand","plan"]:List Str).Nodup;decide+kernel)) (λ_ _ _ _=>qr) (λ_ _ _ _=>uT (t:=yZ (kF 0) (pE K (kF 1) "roles")) (FC hu (pv 0) (yd (pv 1) J)))) zd))))) (zh (zt wr)) zy)
  (zh (zt (qT (yh (Zf J) J T.all Xm (zc (kf (own:=["hand","role"]) (cap:=[3]) (g:=eU K 2 (bO (Ze 0) (bO (Ze 1) mt))) J (we (zk Z4) J J (by decide+kernel) (by decide+kernel) (by decide+kernel) ⟨⟨_,J,.inl J,jw J⟩,trivial⟩) (X8 (yd (pv 0) J)) (λ_ _ _ _=>Zb J (yv (ya (i:=0) (by show(["hand","role","wanted"]:List Str).Nodup;decide+kernel)) (yv (ya (i:=1) (by show(["hand","role","wanted"]:List Str).Nodup;decide+kernel)) jb)))
   (λ_ _ _ _=>qr) (λ_ _ _ _=>jo (vQ (by exact hr.units)) (ta:=qK kJ [] E0 (V3 (pE K (kF 1) "script") ln)) (yc oS (hr.mono (by decide)) (zc (yd (pv 1) J) zd)) (BE hu (pv 2) (pv 0) (vf zd) ⟨J,J,J,J⟩) (yb _))) zd))))))),?_⟩
 obtain⟨dp,vh,U,hp,ih,R,av,bJ⟩:=id PA;refine⟨.int n,.int n,1,16,J,J,λH1 s1=>⟨_,J,?_⟩⟩;have e1:yk (.int n) 1 16=(decide (1<=n) && decide (n<=16)):=rfl;unfold isMade at k;rw[<-e1]at k;cases c1:yk (.int n) 1 16 with|false=>rw[c1]at k;exact y3 (y3 (k H1 s1))|true=>
 rw[c1]at k;refine yy ⟨.int p,.int p,0,4,J,J,λH2 s2=>⟨_,J,?_⟩⟩;have e2:yk (.int p) 0 4=(decide (0<=p) && decide (p<=4)):=rfl;rw[<-e2]at k;have a3:=s1.trans s2;cases c2:yk (.int p) 0 4 with|false=>rw[c2]at k;exact y3 (k H2 a3)|true=>
 rw[c2]at k;rw[e1,cp,decide_eq_true_eq,decide_eq_true_eq]at c1;rw[e2,cp,decide_eq_true_eq,decide_eq_true_eq]at c2;have k:∀r,zi H r->Q (.bl (pI m n.toNat p.toNat)) r:=k;refine yy ?_;refine⟨n,J,(by omega),(by omega),?_⟩;refine Yj (n:=n.toNat) (λi B r=>zi H2 r/\∃bs j:List Addr,B=bs.map V.ref/\j.length=i/\Paired (dR r) bs (Xq j)/\∀a∈j,r a=some (.lst ((cT p.toNat).map V.str))) ⟨zi.refl _,[],[],J,J,.nil,λa ha=>nomatch ha⟩ (λi B r hi ⟨_,bs,j,e,el,b0,_⟩=>?_) ?_ ?_;have q:=Paired.length b0;rw[e,ag,q];unfold Xq;rw[ag,List.length_zipIdx,el];exact Nat.le_of_lt (wa (by omega));rintro i B H3 hi ⟨s3,bs,j,rfl,el,af,Z⟩;refine kB ?_;refine⟨aI,λkb H4 s4 cl b6=>⟨aI,λl5 H5 s5 a8 b3=>⟨l5,p,_,J,J,b3,(by omega),(by omega),(by show 2*p.toNat<=sizeLine;exact Nat.le_of_lt (wa (by omega))),λa6 h6=>⟨aI,λb7 H7 s7 b2 v=>?_⟩⟩⟩⟩;rw[D4]at s7 b2;have W:=zi.new h6 (.lst ((cT p.toNat).map V.str));have a2:=((s4.trans s5).trans W).trans s7;have b8:H7 a6=some (.lst ((cT p.toNat).map V.str)):=s7 _ _ zf;refine⟨s3.trans a2,bs++[b7],j++[a6],by rw[aq];rfl,by rw[az,el];rfl,?_,λa ha=>?_⟩;rw[MT];refine Paired.snoc (X6 af a2) ⟨kb,v,?_⟩;have q:=s7 _ _ (W _ _ (s5 _ _ b6));rw[q,el];show some (HO.tup [V.int (0+(i:Int))])=some (.tup [V.int (i:Int)]);rw[dq];rcases ce.mp ha with z|z;exact a2 _ _ (Z a z);rw[ai.mp z];exact b8;rintro B H3 ⟨s3,bs,j,rfl,el,af,Z⟩ l hl;have sl:=zi.new hl (.lst (bs.map V.ref));refine⟨l,bs,_,J,zf,X6 af sl,λd H5 s5 a8 ap=>?_⟩;rw[IL]at ap;have bb:=(s3.trans sl).trans s5;have a1:∀a∈j,H5 a=some (.lst ((cT p.toNat).map V.str)):=λa ha=>s5 _ _ (sl _ _ (Z a ha));have bd:=a3.trans bb;have Hd:H d=none:=wm (a3.trans (s3.trans sl)) a8;clear af Z s5 sl bb a8;refine⟨d,_,ap,trivial,λo=>?_⟩;have ah:upd H5 d (.frz o (.dT (Zh j))) d=_:=zf;have sf:zi H (upd H5 d (.frz o (.dT (Zh j)))):=λb u e=>by rw[upd_ne (zn e Hd)];exact bd b u e
 have S:∀{G:Hp},zi (upd H5 d (.frz o (.dT (Zh j)))) G->zi H5 (upd G d (.dT (Zh j))):=λ{G} s b u e=>by by_cases z:b=d;rw[z]at e⊢;rw[zf,<-e,ap];rw[upd_ne z];exact s _ _ (by rw[upd_ne z];exact e)
 generalize upd H5 d (.frz o (.dT (Zh j)))=Hf at ah sf S⊢;refine⟨d,o,_,J,ah,?_⟩;refine IJ (kvs:=Zh j) (λi B r=>zi Hf r/\B=(List.range i).map λk=>V.bl (decide ([k]∈zm (plan m)))) ⟨zi.refl _,J⟩ (λi B r hi ⟨W,e⟩=>⟨W _ _ ah,by rw[e,ag,ei];rw[CF]at hi;exact Nat.le_of_lt (wa (by omega))⟩) ?_ ?_
 . rintro i kv B H6 b g hb ⟨W,rfl⟩;rw[K3]at g;cases ea:j[i]? with|none=>rw[ea]at g;cases g|some aw=>rw[ea]at g;cases g;have bc:=sf.trans W;refine kB ?_;refine⟨x,cP,dp,_,_,J,bc _ _ hp,CP.cls,CP.n,ji,U,_,J,je.t (bc _ _ R) hb,W,?_⟩;rw[Nr,Y3 av,List.range_succ,aq];rfl
 rintro B H6 ⟨W,rfl⟩ l2 b5;rw[CF,el];have s7:=zi.new b5 (.lst ((List.range n.toNat).map λk=>V.bl (decide ([k]∈zm (plan m)))));refine⟨l2,(List.range n.toNat).map λk=>decide ([k]∈zm (plan m)),J,aM.of (by rw[zf,bv];rfl),(W.trans s7) _ _ ah,_,J,?_⟩;have v:=S (W.trans s7);generalize upd (upd H6 l2 (.lst ((List.range n.toNat).map λk=>V.bl (decide ([k]∈zm (plan m)))))) d (.dT (Zh j))=H8 at v⊢;have e8:(((List.range n.toNat).map λk=>decide ([k]∈zm (plan m))).all id)=(List.range n.toNat).all λk=>decide ([k]∈zm (plan m)):=by rw[List.all_map];rfl
 rw[e8];have M:=bd.trans v;unfold pI at k;cases c3:(List.range n.toNat).all λk=>decide ([k]∈zm (plan m))with|false=>rw[c3]at k;exact y3 (k H8 M)|true=>
 rw[c3,cq]at k;refine yy ?_;have F:=M _ _ R;refine⟨U,_,F,trivial,λo2=>?_⟩;have C:upd H8 U (.frz o2 (.dT (y0 L))) U=some (.frz o2 (.dT (y0 L))):=zf;have k1:∀{b:Addr}{u:HO},b≠U->H8 b=some u->upd H8 U (.frz o2 (.dT (y0 L))) b=some u:=λ{b u} z e=>by rw[upd_ne z];exact e
 have jM:∀{G:Hp},zi (upd H8 U (.frz o2 (.dT (y0 L)))) G->zi H8 (upd G U (.dT (y0 L))):=λ{G} s b u e=>by by_cases z:b=U;rw[z]at e⊢;rw[zf,<-e,F];rw[upd_ne z];exact s _ _ (k1 z e)
 generalize upd H8 U (.frz o2 (.dT (y0 L)))=Hg at C k1 jM⊢;have bN:=k1 (λz=>by rw[z,R]at hp;cases hp) (M _ _ hp);have bB:=k1 (λz=>by rw[z,R]at Hd;cases Hd) (v _ _ ap);have tg:yo H8 Hg:=λc zs e=>k1 (λz=>by rw[z,F]at e;cases e) e;have bG:∀a∈j,Hg a=some (.lst ((cT p.toNat).map V.str)):=λa ha=>k1 (λz=>by rw[z]at ha;have q:=v _ _ (a1 _ ha);rw[F]at q;cases q) (v _ _ (a1 a ha));have ck:L.length<=1000:=by have q:=PH.few;have e:=congrArg List.length av;rw[ag]at e;show _;rw[e];exact q
 refine⟨x,cP,dp,_,_,J,bN,CP.cls,CP.n,ji,U,o2,_,J,C,?_⟩;refine xP (kvs:=y0 L) (λi B r=>zi Hg r/\B=(qm (L.take i)).map λh=>V.bl (decide (yz ((mM m).scr h)=Vc n.toNat p.toNat h))) ⟨zi.refl _,J⟩ (λi B r hi ⟨s9,e⟩=>⟨s9 _ _ C,?_⟩) ?_ ?_;rw[e,ag];unfold qm;rw[ag,bu];exact Nat.le_of_lt (wa (by omega));rintro i kv B r g ⟨s9,rfl⟩ pp b bM hb;obtain⟨q,hq,rfl⟩:∃q,L[i]?=some q/\(kI (hZ q.1.1),V.ref q.2)=kv:=by unfold y0 at g;rw[bi]at g;cases e:L[i]? with|none=>rw[e]at g;cases g|some z=>rw[e]at g;exact⟨z,J,Option.some.inj g⟩
 have bh:q∈L:=bq hq;obtain⟨cb,vc,vs,vl,ab,an,ac,kb,r1,r2,_⟩:=bJ q bh;have bK:=s9 _ _ (k1 (λz=>by rw[z,R]at r1;cases r1) (M _ _ r1));have sp:=zi.new bM (.tup [.ref b,.ref q.2]);have bk:upd r pp (.tup [.ref b,.ref q.2]) pp=some (.tup [.ref b,.ref q.2]):=zf;have bC:=sp _ _ hb;generalize upd r pp (.tup [.ref b,.ref q.2])=co at sp bk bC⊢;have a5:=s9.trans sp;have bg:=((r2.mono M).tups tg (Vv _)).mono a5;have bL:q.1∈plan m:=by rw[<-av];exact List.mem_map_of_mem (f:=λz:(List Nat×Nat)×Addr=>z.1) bh
 rw[<-Q7 bL]at bg;have ek:qm (L.take (i+1))=qm (L.take i)++[q.1.1]:=by unfold qm;rw[de,hq,aq];rfl
 rw[ek,aq];refine⟨pp,_,J,aG.of bk,J,_,_,J,_,_,J,J,?_⟩;refine Dq ?_;refine⟨q.2,cR,cb,_,_,J,sp _ _ bK,CR.cls,CR.n,ke,vs,(mM m).scr q.1.1,J,bg,A7 PH.nw _,λl3 cs a4 cc bl=>?_⟩;refine⟨d,J,.inr ⟨_,.inl ((a5.trans a4) _ _ bB)⟩,bf _,λay aS N b1 bw=>?_⟩;have t:=(a5.trans a4).trans N;refine⟨_,je.t (t _ _ bB) (N _ _ (a4 _ _ bC)),?_⟩;rw[KB];have iL:Is aS (.lst (sT (yz ((mM m).scr q.1.1)))) (.ref l3):=⟨l3,_,J,N _ _ bl,IsL.strs.mpr J⟩
 obtain⟨vw,b9,iw⟩:∃vw,((match q.1.1 with|[k]=>(j[k]?).map V.ref|_=>none:Option V).getD (.ref ay))=vw/\Is aS (.lst (sT (Vc n.toNat p.toNat q.1.1))) vw:=by
  have a9:Is aS (.lst (sT [])) (.ref ay):=⟨ay,_,J,bw,J⟩
  generalize q.1.1=a7
  match a7 with| [kk]=>refine⟨_,J,?_⟩;show Is aS (.lst (sT (if kk<n.toNat then cT p.toNat else[]))) (((j[kk]?).map V.ref).getD (.ref ay));by_cases c:kk<n.toNat;rw[if_pos c];have ea:=br (show kk<j.length by omega);rw[ea];exact⟨j[kk],_,J,t _ _ (bG _ (List.getElem_mem _)),IsL.strs.mpr J⟩;rw[if_neg c,List.getElem?_eq_none (by omega)];exact a9|[]=>exact⟨_,J,a9⟩|_::_::_=>exact⟨_,J,a9⟩
 rw [b9];have bD:∀y∈Vc n.toNat p.toNat q.1.1,PyData.strOk y=true:=by
  generalize q.1.1=a7
  match a7 with| [kk]=>show∀y∈(if kk<n.toNat then cT p.toNat else[]),_;by_cases c:kk<n.toNat;rw[if_pos c];exact EY _;rw[if_neg c];exact λy hy=>nomatch hy|[]=>exact λy hy=>nomatch hy|_::_::_=>exact λy hy=>nomatch hy
 refine⟨_,_,iL,iw,BL _ (HQ PH _),BL _ bD,Ma _,t,?_⟩;rw[Iu];rfl;rintro B r ⟨s9,rfl⟩ l3 b4;have e0:(y0 L).length=L.length:=by unfold y0;exact ag ..
 rw[e0,dg,Y3 av];have ba:=zi.new b4 (.lst ((zm (plan m)).map λh=>V.bl (decide (yz ((mM m).scr h)=Vc n.toNat p.toNat h))));refine⟨l3,(zm (plan m)).map λh=>decide (yz ((mM m).scr h)=Vc n.toNat p.toNat h),J,aM.of (by rw[zf,bv];rfl),ba _ _ (s9 _ _ C),?_⟩;have e:(((zm (plan m)).map λh=>decide (yz ((mM m).scr h)=Vc n.toNat p.toNat h)).all id)=(zm (plan m)).all λh=>decide (yz ((mM m).scr h)=Vc n.toNat p.toNat h):=by rw[List.all_map];rfl
 rw[e];exact k _ (M.trans (jM (s9.trans ba)))
end
noncomputable abbrev Y9:Stmt:=aX 50
noncomputable abbrev Q8:Stmt:=aX 56
noncomputable abbrev Xx:Stmt:=aX 73
noncomputable abbrev Wr:Stmt:=aX 74
noncomputable abbrev Qa:Stmt:=aX 75
noncomputable abbrev Jd:Stmt:=aX 76
noncomputable abbrev wR:Stmt:=aX 77
theorem qJ{K:W.Frag}{b:O Str}{k:Nat}{sp:Sp}(D:aY K mg x st)(S:aA N b (zk st))(a:∀(f:Y)(cdv:I)(A:Around)(outer:O Env)(s:Shared)(H:Hp)(vs:O V)(Q:VK)(E:XK),aP k (A.deeper (envOfC x (zk st) s.heap.objs.size f cdv))->sp vs H Q E-> let X:=(Xl (ft P w) P w K mg base N x (zk st) f cdv A outer s H E);∃t,dZ X (xj st) t/\t (.of Q) (start N vs) H) (d:∀vs H Q E,sp vs H Q E->vs.length=b.length:=by intro _ _ _ _ h;cases h;subst_vars;rfl) (l:autoParam (∀(kV e g:I)(o:Option Y)(cdv n:I)(c:O I),c.length=b.length->bindArgs (W.fnOf x x (jr st) (xj st) (zk st) .none kV e g o cdv n) ⟨c,[]⟩=pure (b.zip c)) tP._auto_1):fG P w K mg base x (k+1) b sp:=by obtain⟨f,m,F,j⟩:=D;exact⟨f,m,F.okX S d (λcdv A outer s H vs Q E i h=>a f cdv A outer s H vs Q E i h),F.binds l,F.kp,j⟩
structure pi(hs:aB):Prop where
 wh:Wh (eH hs)
 good:Good hs
 is:pS hs=true
 pl:dY hs
def qC(t:L2.T)(A:Prop)(B:aB->Prop):Prop:=Wh t/\((ge t=false/\A)\/∃F,t=eH F/\pi F/\B F)
inductive nJ(cH:Addr)(vs:List V)(H:Hp)(Q:VK)(E:XK):Prop|mk:∀t v,vs=[v]->Is H t v->(qC t (∀H',zi H H'->E (.ref cH) none H') λ_=>∀H',zi H H'->Q .non H')->nJ cH vs H Q E
inductive nz(cH cP cR:Addr)(vs:List V)(H:Hp)(Q:VK)(E:XK):Prop|mk:∀t v,vs=[v]->Is H t v->(qC t (∀H',zi H H'->E (.ref cH) none H') λhs=>∀x L H',zi H H'->H x=none->aN H' cP cR hs L x->Q (.ref x) H')->nz cH cP cR vs H Q E
inductive kO(cH cL cP cR:Addr)(vs:List V)(H:Hp)(Q:VK)(E:XK):Prop|mk:∀(t:L2.T)(v:V)(n p:Int),vs=[v,.int n,.int p]->Is H t v->(qC t (∀H',zi H H'->E (.ref cH) none H') λhs=>(isMade hs n p=false->∀H',zi H H'->E (.ref cL) none H')/\(isMade hs n p=true->∀x L H',zi H H'->H x=none->aN H' cP cR hs L x->Q (.ref x) H'))->kO cH cL cP cR vs H Q E
section
variable{K:W.Frag}
theorem NP:aA ["thing"] ["thing"] (zk Y9):=.of
theorem NN(D:aY K mg "need_house" Y9)(O:dA K mg base "NoHouse" cH)(i:Ok P w K mg base "is_house" 22 ["thing"] nQ):fG P w K mg base "need_house" 23 ["thing"] (nJ cH):=by refine qJ D NP ?_;rintro f n A b s H o Q E l ⟨t,v,rfl,d,e,hk⟩ X;refine⟨_,zh (yj (xz (xu (yc i l (zc (pv 0) zd)))) (zh (B6 O J)) zy),?_⟩;rcases hk with⟨m,j⟩|⟨h,rfl,g,k⟩;exact⟨t,v,J,d,e,.inr ⟨m,λc a=>⟨_,J,y3 (j c a)⟩⟩⟩;refine⟨eH h,v,J,d,e,.inl ⟨h,J,g.good,λc a=>⟨_,J,?_⟩⟩⟩;rw[g.is];exact yy (k c a)
theorem M6:aA ["house"] ["house"] (zk Q8):=.of
theorem Mv(D:aY K mg "plan_of" Q8)(r:fG P w K mg base "need_house" 23 ["thing"] (nJ cH))(q:gj P w K mg base "Plan" cP 24 ["self","house"] (nD cP cR)):fG P w K mg base "plan_of" 26 ["house"] (nz cH cP cR):=by
 refine qJ D M6 ?_;rintro f B A c s H G Q E l ⟨t,v,rfl,d,m,hk⟩ X;refine⟨_,ze (xl (sO r Qu (l.mono (by decide)) (zc (pv 0) zd))) (zh (zt (qO q l (zc (pv 0) zd)))),?_⟩;rcases hk with⟨h,u⟩|⟨g,rfl,n,y⟩;exact⟨t,v,J,d,m,.inl ⟨h,u⟩⟩;refine⟨eH g,v,J,d,m,.inr ⟨g,J,n,λp a=>?_⟩⟩;refine(λx j hx i z=>?_);have k:zi p (upd (upd p j (.own x)) x (.ins cP j [])):=λb o e=>by rw[upd_ne (zn e hx),upd_ne (zn e i)];exact e
 refine⟨x,j,v,g,J,zf,(d.mono a).mono k,n.pl,λL F C PA=>⟨J,y x L F (λb o e=>?_) (wm a hx) PA⟩⟩;refine C b o (λh=>?_) (k _ _ (a _ _ e));rw[ai.mp h]at e;rw[a _ _ e]at hx;cases hx
theorem V9:aA ["house","n","p","plan"] ["house","n","p"] (zk Xx):=.of
theorem Nz(D:aY K mg "made_plan" Xx)(O:dA K mg base "NoWall" cL)(o:fG P w K mg base "plan_of" 26 ["house"] (nz cH cP cR))(m:Ok P w K mg base "is_made" 3 ["plan","n","p"] (nK cP cR)):fG P w K mg base "made_plan" 27 ["house","n","p"] (kO cH cL cP cR):=by refine qJ D V9 ?_;rintro f y A d s H z Q E i ⟨t,v,n,p,rfl,h,j,hk⟩ X;have q:=V9.nd;refine⟨_,ze (zr (i:=3) q (sO o Qu i (zc (pv 0) zd))) (ze (yj (xz (xu (yc m (i.mono (by decide)) (zc (pv 3) (zc (pv 1) (zc (pv 2) zd)))))) (zh (B6 O J)) zy) (zh (zt (pv 3)))),?_⟩;rcases hk with⟨u,e⟩|⟨a,rfl,k,e,r⟩;exact⟨t,v,J,h,j,.inl ⟨u,e⟩⟩;refine⟨eH a,v,J,h,j,.inr ⟨a,J,k,λx L B g hx PA=>?_⟩⟩;refine⟨x,a,L,n,p,J,PA,k.pl,λl b=>⟨_,J,?_⟩⟩;cases c:isMade a n p with|false=>exact y3 (e c l (g.trans b))|true=>exact yy (r c x L l (g.trans b) hx (PA.same b))
end
noncomputable def lr(N o q:Nat):List (List Int):=((List.range N).filter λi=>decide (i≠o)).map λ(i:Nat)=>[(i:Int),(o:Int),(q:Int)]
noncomputable def mL(N q o:Nat):List (List Int):=(List.range o).flatMap λo=>lr N o q
noncomputable def Yw(N P:Nat):List (List Int):=(List.range P).flatMap λq=>mL N q N
theorem Js{a:Type}(f:Nat->O a)(n:Nat):(List.range (n+1)).flatMap f=(List.range n).flatMap f++f n:=by rw[List.range_succ,List.flatMap_append];simp
theorem xB{a:Type}(f:Nat->List a)(c:Nat)(h:∀x,(f x).length<=c):∀n,((List.range n).flatMap f).length<=n*c|0=>bf _| n+1=>by rw[Js,az,Nat.succ_mul];exact Nat.add_le_add (xB f c h n) (h n)
theorem xN(N o q:Nat):(lr N o q).length<=N:=by
 unfold lr
 grind
theorem CB(N q o:Nat):(mL N q o).length<=o*N:=xB _ N (λo=>xN N o q) o
theorem xO(N P:Nat):(Yw N P).length<=P*(N*N):=xB _ (N*N) (λq=>CB N q N) P
inductive hX(vs:List V)(H:Hp)(Q:VK)(e0:XK):Prop|mk:∀(N P:Nat),vs=[.int (N:Int),.int (P:Int)]->N<=16->P<=4->(∀l H',zi H H'->H l=none->Is H' (.lst ((Yw N P).map tI)) (.ref l)->Q (.ref l) H')->hX vs H Q e0
section
variable{K:W.Frag}
theorem C6:aA ["n","p","found","phase","other"] ["n","p"] (zk Wr):=.of
theorem Mz(D:aY K mg "triples" Wr)(T:Txt K mg):Ok P w K mg base "triples" 1 ["n","p"] hX:=by
 refine qk (k:=0) D C6 ?_;rintro f a1 A af s H vs Q E hr ⟨N,P',rfl,hN,hP,k⟩ X;have nd:=C6.nd;refine⟨_,ze (zr (i:=2) nd (vf zd)) (ze (w9 PassesOwn.never J (va J T.range (zc (pv 1) zd)) (ya (i:=3) nd) (zh (w9 PassesOwn.never J (va J T.range (zc (pv 0) zd)) (ya (i:=4) nd) (zh (xl (Zi PySem.F.plainAttrs_list PySem.F.slot_list_extend PySem.F.type_list_extend Cs (pv 2) (zc (kf (own:=["number"]) (cap:=[4,3]) J (we (zk Wr) J J (by decide+kernel) (by decide+kernel) (by decide+kernel) ⟨⟨_,J,.inl J,jw J⟩,⟨_,J,.inl J,jw J⟩,trivial⟩) (va J T.range (zc (pv 0) zd)) (λ_ _ _ _=>ya (i:=0) (by show(["number","other","phase"]:O Str).Nodup;decide+kernel)) (λ_ _ _ _=>Yo (zu Zy (pv 0) (pv 1) (yb _))) (λ_ _ _ _=>yg (zc (pv 0) (zc (pv 1) (zc (pv 2) zd))))) zd)))))))
  (zh (zt (pv 2)))),?_⟩
 refine⟨bf _,λl H1 s1 M av=>?_⟩;have ap:∀{G:Hp},zi (without [l] H1) G->zi H G:=λ{G} s b u e=>s _ _ (by rw[yt (λhm=>by rw[ai.mp hm,M]at e;cases e)];exact s1 _ _ e);refine⟨P',J,(by omega),(by omega),?_⟩;refine ko (λi r G=>∃W C n,r=[some (.int (N:Int)),some (.int (P':Int)),some (.ref l),W,C]/\zi (without [l] H1) G/\G l=some (.lst n)/\IsL G ((Yw N i).map tI) n) ⟨none,none,[],J,vj,av,J⟩ ?_ ?_;rintro i r G hi ⟨W,C,n,rfl,Z,y,iG⟩;rw[(dq _)];refine⟨N,J,(by omega),(by omega),?_⟩;refine ko (λj r G=>∃C n,r=[some (.int (N:Int)),some (.int (P':Int)),some (.ref l),some (.int (i:Int)),C]/\zi (without [l] H1) G/\G l=some (.lst n)/\IsL G ((Yw N i++mL N i j).map tI) n) ⟨C,n,J,Z,y,by rw[show mL N i 0=[]from rfl,cm];exact iG⟩ ?_ ?_;rintro j r G2 hj ⟨U,h,rfl,v,a,p⟩;rw[(dq _)];refine⟨.inl ⟨J,_,aM.of a⟩,?_⟩;have aS:i<4:=by omega
 have ay:j<N:=by omega
 refine⟨N,J,(by omega),(by omega),?_⟩;refine Yj (λm g B=>zi G2 B/\IsL B ((lr m j i).map tI) g) ⟨zi.refl _,J⟩ (λm g B hm ⟨_,x⟩=>?_) ?_ ?_;have q:=x.length;rw[ag]at q;have q2:=xN m j i;exact Nat.le_of_lt (wa (by omega));rintro m g B hm ⟨S,x⟩;rw[(dq _)];have er:lr (m+1) j i=lr m j i++if m≠j then[[(m:Int),(j:Int),(i:Int)]]else[]:=by unfold lr;rw[List.range_succ,List.filter_append,aq,List.filter_cons];by_cases c:m=j;rw[if_neg (by simp[c]),if_neg (by simp[c])];rfl;rw[if_pos (by simp[c]),if_pos c];rfl
 rw[er];refine⟨J,_,J,?_⟩;by_cases c:m=j;have e:(!decide (V.int (m:Int)=V.int (j:Int)))=false:=by rw[c];simp
 rw[e];refine yy ?_;rw[if_neg (by simp[c]),cm];exact⟨S,x⟩;have e:(!decide (V.int (m:Int)=V.int (j:Int)))=true:=by rw[cf (λz=>c (by have:=V.int.inj z;omega))];rfl
 rw[e,if_pos c,aq];refine y3 ⟨aI,λt G4 F aw ah=>⟨S.trans F,IsL.append (x.mono F) (IsL.one ⟨t,_,J,ah,IsL.ints.mpr J⟩)⟩⟩;rintro g B ⟨S,x⟩ z hz;have F:=zi.new hz (.lst g);have L:upd B z (.lst g) z=some (.lst g):=zf;generalize upd B z (.lst g)=G4 at F L⊢;have o:=S.trans F;have l1:=p.length;have l2:=x.length;rw[ag,az]at l1;rw[ag]at l2;have b1:=xO N i;have b2:=CB N i j;have b3:=xN (N:Int).toNat j i;have c1:i*(N*N)<=4*(16*16):=Nat.mul_le_mul (by omega) (Nat.mul_le_mul hN hN);have c2:j*N<=16*16:=Nat.mul_le_mul (by omega) hN;refine⟨l,z,h,g,J,J,o _ _ a,L,Nat.le_of_lt (Yb (by omega)),_,_,J,Za (v.trans o) (yw (by simp)),zf,?_⟩;have e:mL N i (j+1)=mL N i j++lr N j i:=Js _ j;rw[e,<-List.append_assoc,aq];have R:∀gs:O (O Int),qu (gs.map tI):=λgs=>by rw[qu.all];intro t ht;obtain⟨d,_,rfl⟩:=bz.mp ht;exact qz _
 have tt:yo G4 (upd G4 l (.lst (h++g))):=yo.upd (o _ _ a) (λ_ z=>by cases z);exact IsL.append ((p.mono o).tups tt (R _)) ((x.mono F).tups tt (R _));rintro r G2 ⟨U,h,rfl,v,a,p⟩;refine⟨_,_,h,J,v,a,?_⟩;have e:Yw N (i+1)=Yw N i++mL N i N:=Js _ i;rw[e];exact p;rintro r G ⟨W,C,n,rfl,Z,y,iG⟩;exact(k l G (ap Z) M ⟨l,n,J,y,iG⟩)
end
noncomputable def ki(x:Str):aD->Bool|.say y=>decide (y=x)|_=>false
noncomputable def Va(x:Str)(l:yf):Nat->List Nat|0=>[]|i+1=>Va x l i++if((l[i]?).map (ki x)).getD false=true then[i]else[]
theorem Qp(x:Str)(l:yf):∀i,(Va x l i).length=(l.take i).countP (ki x)
 |0=>rfl
 | i+1=>by
   show(Va x l i++if((l[i]?).map (ki x)).getD false=true then[i]else[]).length=_;rw[az,Qp x l i,de,List.countP_append]
   grind
theorem AN{x:Str}{l:yf}:∀{i p j:Nat},(Va x l i)[p]?=some j->l[j]?=some (.say x)/\(l.take j).countP (ki x)=p/\j<i
 |0,p,j,e=>by cases e
 | i +1,p,j,e=>by
   have a:(Va x l i++if((l[i]?).map (ki x)).getD false=true then[i]else[])[p]?=some j:=e;by_cases c:p<(Va x l i).length;rw[fj c]at a;obtain⟨k,h,g⟩:=AN a
   grind
   rw[List.getElem?_append_right (by omega)]at a;by_cases z:((l[i]?).map (ki x)).getD false=true;rw[if_pos z]at a;have q:=(ci.mp a).1;have b:p-(Va x l i).length=0:=by simp_all
   rw[b]at a;cases a;refine⟨?_,?_,ez _⟩;cases f:l[i]? with
   |none=>simp_all
   | some d=>
     rw[f]at z;cases d with
     |say y=>rw[c9 z]
     |_=>cases z
   rw[<-Qp];omega
   simp_all
noncomputable def rS(x:Str):L2.T:=.tup [.str "say",.str x]
theorem HP(x:Str)(d:aD):PyData.eqv (aT (eD d)) (aT (rS x))=ki x d:=by cases d with| say y=>show PyData.eqv (.tuple [.str "say",.str y]) (.tuple [.str "say",.str x])=decide (y=x);simp[PyData.eqv,PyData.eqvAll];rfl| beg j a=>rfl| rai b k=>rfl| awa b k=>rfl| com b=>rfl| goo b=>rfl| lea b=>rfl| wor b=>rfl
theorem Bg{y:Str}(hx:PyData.strOk x=true)(a:PyData.strOk y=true):(PyData.tuple [.str x,.str y]).canLay0=true:=by simp[PyData.canLay0,PyData.canLayAll0,hx,a]
theorem Fp{i:Int}(hx:PyData.strOk x=true):(PyData.tuple [.str x,.int i]).canLay0=true:=by simp[PyData.canLay0,PyData.canLayAll0,hx]
theorem Af{i j:Int}(hx:PyData.strOk x=true):(PyData.tuple [.str x,.int i,.int j]).canLay0=true:=by simp[PyData.canLay0,PyData.canLayAll0,hx]
theorem Fo{d:aD}(h:gH d)(hs:∀x,d=.say x->PyData.strOk x=true):(aT (eD d)).canLay0=true:=by
 cases d with|say y=>exact Bg (by decide+kernel) (hs y J)|rai b k=>exact Af (by decide+kernel)|awa b k=>exact Af (by decide+kernel)|wor b=>exact Fp (by decide+kernel)|com b=>exact h.elim|goo b=>exact h.elim|lea b=>exact h.elim| beg j a=>
   obtain rfl:a=[]:=h;show(PyData.tuple [.str "begin",.int j,.tuple []]).canLay0=true;have:PyData.strOk ("begin")=true:=by decide+kernel
   simp[PyData.canLay0,PyData.canLayAll0,this]
theorem GU(hx:PyData.strOk x=true):(aT (rS x)).canLay0=true:=Bg (by decide+kernel) hx
theorem KN(x:Str):(aT (rS x)).depth<=20:=by show(PyData.tuple [.str "say",.str x]).depth<=20;simp[PyData.depth,PyData.depthAll]
inductive kG(cP cR:Addr)(vs:List V)(H:Hp)(Q:VK)(e0:XK):Prop|mk:∀(x:Addr)(hs:aB)(L:RL)(k q:Nat)(wd:Str),vs=[.ref x,.int (k:Int),.str wd,.int (q:Int)]->aN H cP cR hs L x->dY hs->[k]∈zm (plan hs)->PyData.strOk wd=true->q<((mM hs).scr [k]).countP (ki wd)->(∀v H' (j:Nat),zi H H'->((mM hs).scr [k])[j]?=some (.say wd)->(((mM hs).scr [k]).take j).countP (ki wd)=q->Is H' (.tup [hT [k],.int (j:Int)]) v->Q v H')->kG cP cR vs H Q e0
inductive iq(wd:Str)(f:Nat->Nat->Nat->Nat)(cP cR:Addr)(vs:List V)(H:Hp)(Q:VK)(e0:XK):Prop|mk:∀(x:Addr)(hs:aB)(L:RL)(i o q:Nat)(vt:V),vs=[.ref x,vt]->aN H cP cR hs L x->dY hs->Is H (tI [(i:Int),(o:Int),(q:Int)]) vt->[f i o q]∈zm (plan hs)->q<((mM hs).scr [f i o q]).countP (ki wd)->(∀v H' (j:Nat),zi H H'->((mM hs).scr [f i o q])[j]?=some (.say wd)->(((mM hs).scr [f i o q]).take j).countP (ki wd)=q->Is H' (.tup [hT [f i o q],.int (j:Int)]) v->Q v H')->iq wd f cP cR vs H Q e0
section
variable{K:W.Frag}
theorem Cz:aA ["plan","number","word","phase","script","places"] ["plan","number","word","phase"] (zk Qa):=.of
theorem Lo(D:aY K mg "say_of" Qa)(T:Txt K mg)(CP:aJ K cP aZ)(CR:aJ K cR aR):Ok P w K mg base "say_of" 1 ["plan","number","word","phase"] (kG cP cR):=by
 refine qk (k:=0) D Cz ?_;rintro f a9 A af s H vs Q E hr ⟨x,b,L,k,q,a,rfl,PA,PH,hh,ah,hq,kk⟩ X;have nd:=Cz.nd;have hu:=Z0 hr;refine⟨_,ze (zr (i:=4) nd (yd (v6 hu (yd (pv 0) J) (yg (zc (pv 1) zd))) J)) (ze (ut (i:=5) (own:=["place","deed"]) (cap:=[2]) (g:=eU K 2 (bO (Ze 0) (bO (Ze 1) mt))) J (we (zk Qa) J J (by decide+kernel) (by decide+kernel) (by decide+kernel) ⟨⟨_,J,.inl J,jw J⟩,trivial⟩)
   (Kt J T.enumerate (zc (pv 4) zd))
   (λ_ _ _ _=>Zb J (yv (ya (i:=0) (by show(["place","deed","word"]:List Str).Nodup;decide+kernel)) (yv (ya (i:=1) (by show(["place","deed","word"]:List Str).Nodup;decide+kernel)) jb)))
   (λ_ _ _ _=>Yo (zu (JW (by exact hr.units)) (pv 1) (yg (zc zo (zc (pv 2) zd))) (yb _)))
   (λ_ _ _ _=>pv 0) nd J J (by with_unfolding_all rfl))
  (zh (zt (yg (zc (yg (zc (pv 1) zd)) (zc (zp qg (pv 5) (pv 3)) zd)))))),?_⟩
 obtain⟨dp,vv,ar,rl,hp,a5,u,a6,vc,vs,vl,ab,an,ac,kb,r1,r2,_⟩:=PA.role hh;refine⟨x,cP,dp,_,_,J,hp,CP.cls,CP.n,ji,aI,λr H1 Z a8 a3=>?_⟩;have i1:Is H1 (tI (hZ [k])) (.ref r):=⟨r,_,J,a3,IsL.ints.mpr J⟩
 obtain⟨bh,eb,a4⟩:=Xi i1;cases eb;refine⟨ar,_,J,u▸je.t (Z _ _ a5) a4,rl,cR,a6,_,_,J,Z _ _ r1,CR.cls,CR.n,ke,?_⟩;obtain⟨aS,h,rfl,M,C⟩:=r2.mono Z;have N:=C.length;rw[ag]at N;have sl:=A7 PH.nw [k];refine⟨aS,h,J,aG.of M,?_⟩;refine GW (xs:=h) (λi U g=>zi H1 g/\U=(Va a ((mM b).scr [k]) i).map λ(j:Nat)=>V.int (j:Int)) ⟨zi.refl _,J⟩ (λi U g hi ⟨p,e⟩=>⟨aG.of (p _ _ M),?_⟩) ?_ ?_;rw[e,ag,Qp];have q1:=List.countP_le_length (p:=ki a) (l:=((mM b).scr [k]).take i);have q2:=List.length_take_le' i ((mM b).scr [k]);exact Nat.le_of_lt (Yb (by omega));rintro i z U g qp hz ⟨p,rfl⟩ aw;have sp:=zi.new aw (.tup [.int i,z]);have B:upd g qp (.tup [.int i,z]) qp=some (.tup [.int i,z]):=zf;generalize upd g qp (.tup [.int i,z])=H3 at sp B⊢;have W:=p.trans sp;obtain⟨t,R,it⟩:=C.get' hz;rw[bi]at R;cases S:((mM b).scr [k])[i]? with|none=>rw[S]at R;cases R| some d=>rw[S]at R;cases R;obtain⟨sc,v,G⟩:=W8 S;refine⟨qp,_,J,aG.of B,J,_,_,J,_,_,J,J,?_⟩;refine⟨aI,λtq H6 n a1 av=>⟨eD d,rS a,(it.mono W).mono n,⟨tq,_,J,av,IsL.two J J⟩,Fo (PH.nw.deeds sc v d G) (λy ey=>PH.says sc v y (ey▸G)),GU ah,KN a,_,J,?_⟩⟩;rw[(HP a d)];have o:=W.trans n;cases c:ki a d with| true=>refine y3 ⟨o,?_⟩;show _=(Va a ((mM b).scr [k]) i++if((((mM b).scr [k])[i]?).map (ki a)).getD false=true then[i]else[]).map _;rw[S];show _=(Va a ((mM b).scr [k]) i++if ki a d=true then[i]else[]).map _;rw[if_pos c,aq];rfl| false=>refine yy ⟨o,?_⟩;show _=(Va a ((mM b).scr [k]) i++if((((mM b).scr [k])[i]?).map (ki a)).getD false=true then[i]else[]).map _;rw[S];show _=(Va a ((mM b).scr [k]) i++if ki a d=true then[i]else[]).map _;rw[if_neg (by rw[c];exact c7),cm]
 rintro U g ⟨p,rfl⟩ l hl;have m:=zi.new hl (.lst ((Va a ((mM b).scr [k]) h.length).map λ(j:Nat)=>V.int (j:Int)));have F:upd g l (.lst ((Va a ((mM b).scr [k]) h.length).map λ(j:Nat)=>V.int (j:Int))) l=_:=zf;generalize upd g l (.lst ((Va a ((mM b).scr [k]) h.length).map λ(j:Nat)=>V.int (j:Int)))=H5 at m F⊢;have W:=p.trans m;have ay:q<(Va a ((mM b).scr [k]) h.length).length:=by rw[Qp,N,dg];exact hq
 have ej:=br ay;obtain⟨e1,e2,_⟩:=AN ej;refine⟨aI,λk6 H6 n a1 a2=>⟨l,_,_,_,J,J,aM.of (n _ _ F),wx (by rw[bi,ej];rfl),aI,λv7 H7 s7 a7 ap=>?_⟩⟩;refine kk _ H7 _ (Z.trans (W.trans (n.trans s7))) e1 e2 ⟨v7,_,J,ap,IsL.two ⟨k6,_,J,s7 _ _ a2,IsL.ints.mpr J⟩ J⟩
theorem M3:aA ["plan","triple"] ["plan","triple"] (zk Jd):=.of
theorem JN:aA ["plan","triple"] ["plan","triple"] (zk wR):=.of
theorem Mp(D:aY K mg "come_of" Jd)(d:Ok P w K mg base "say_of" 1 ["plan","number","word","phase"] (kG cP cR)):Ok P w K mg base "come_of" 2 ["plan","triple"] (iq "come" (λ_ o _=>o) cP cR):=by refine qk D M3 ?_;rintro f n A c s H u Q E k ⟨x,j,L,i,o,q,t,rfl,PA,p,g,m,l,e⟩ X;refine⟨_,zh (zt (yc d k (zc (pv 0) (zc (zp zx (pv 1) zg) (zc zo (zc (zp zx (pv 1) zg) zd)))))),?_⟩;obtain⟨b,r,rfl,a,h⟩:=g;rw[IsL.ints.mp h]at a;exact⟨b,_,_,_,J,J,aG.of a,J,b,_,_,_,J,J,aG.of a,J,x,j,L,o,q,"come",J,PA,p,m,by decide+kernel,l,e⟩
theorem JQ(D:aY K mg "go_of" wR)(d:Ok P w K mg base "say_of" 1 ["plan","number","word","phase"] (kG cP cR)):Ok P w K mg base "go_of" 2 ["plan","triple"] (iq "go" (λi _ _=>i) cP cR):=by refine qk D JN ?_;rintro f n A c s H u Q E k ⟨x,j,L,i,o,q,t,rfl,PA,p,g,m,l,e⟩ X;refine⟨_,zh (zt (yc d k (zc (pv 0) (zc (zp zx (pv 1) zg) (zc zo (zc (zp zx (pv 1) zg) zd)))))),?_⟩;obtain⟨b,r,rfl,a,h⟩:=g;rw[IsL.ints.mp h]at a;exact⟨b,_,_,_,J,J,aG.of a,J,b,_,_,_,J,J,aG.of a,J,x,j,L,i,q,"go",J,PA,p,m,by decide+kernel,l,e⟩
end
noncomputable abbrev wU:Stmt:=aX 78
noncomputable abbrev Zs:Stmt:=aX 79
noncomputable abbrev uZ:Stmt:=aX 80
noncomputable abbrev Xc:Stmt:=aX 81
theorem dQ.same{a G:Hp}{cU cP cR:Y}{hs:aB}{L:RL}{x ad as:Y}(r:dQ a cU cP cR hs L x ad as)(s:zi a G)(d:G ad=none)(c:G as=none):dQ G cU cP cR hs L x ad as:=by obtain⟨b,h,i,j,PA,g,f,e,_,_⟩:=r;exact⟨b,h,i,j,PA.same s,s _ _ g,s _ _ f,s _ _ e,d,c⟩
theorem Ca{d:Hp}{hs:aB}{L:RL}{x ad as o:Y}{c:O (O Nat×Nat)}{a:O Int}(r:dQ H0 cU cP cR hs L x ad as)(t:zi H0 H1)(q:V0 H1 ad as c a)(j:zi H1 d)(g:bH eF P w d o []):bW (without [ad,as] d) d cU cP cR hs L x ad as c a/\bH eF P w (without [ad,as] d) o []/\zi H0 (without [ad,as] d):=by
 obtain⟨y,D,E,F,PA,C,B,A,n,k⟩:=id r;have h:=j _ _ q.1;have f:=j _ _ q.2;have p:=(t.trans j).without λm i=>by rcases ak.mp i with z|z;rw[z];exact n;rw[ai.mp z];exact k
 have s:yo d (without [ad,as] d):=λb v e=>by rw[yt];exact e;intro i;rcases ak.mp i with z|z;rw[z,h]at e;cases e;rw[ai.mp z,f]at e;cases e
 have l:o ∉ [ad,as]:=λi=>by obtain⟨u,e⟩:=g.some;rcases ak.mp i with z|z;rw[z,h]at e;cases e;rw[ai.mp z,f]at e;cases e
 exact⟨⟨r.same p (yw (by simp)) (yw (by simp)),vj,h,f⟩,g.by s (yt l),p⟩
inductive nS(cP cR:Addr)(vs:List V)(H:Hp)(Q:VK)(e0:XK):Prop|mk:∀(xp:Addr)(hs:aB)(L:RL),vs=[.ref xp]->aN H cP cR hs L xp->dY hs->(∀n H',zi H H'->(Yl hs [] n).ready=[]->Q (.bl (Q1 hs (Yl hs [] n).done)) H')->nS cP cR vs H Q e0
section
variable{K:W.Frag}{cS:Addr}
theorem A3:aA ["plan","run"] ["plan"] (zk uZ):=.of
theorem HZ(D:aY K mg "ends_with_all_done" uZ)(CU:aJ K cU cJ)(C:Ok P w K mg base "first_run" 4 ["plan"] (io cU cP cR))(B:Ok P w K mg base "woven_on" 5 ["run","held"] (hV P w cU cP cR))(F:cC P w K mg base cU "has_done_all" 1 ["self"] (kQ cU cP cR)):Ok P w K mg base "ends_with_all_done" 6 ["plan"] (nS cP cR):=by refine qk D A3 ?_;rintro f R A e s H vs Q E h ⟨t,a,L,rfl,PA,b,k⟩ X;have G:=A3.nd;refine⟨_,ze (zr (i:=1) G (yc C (h.mono (by decide)) (zc (pv 0) zd))) (ze (xl (yc B h (zc (pv 1) (zc (Kv (τ:=eF)) zd)))) (zh (zt (Ku F CU.cls (h.mono (by decide)) (pv 1))))),?_⟩;refine⟨t,a,L,J,PA,b,λc ad as H0 Z y x M U S=>?_⟩;refine(λq o i p=>?_);have m:=zi.new i o;generalize upd Z q o=H2 at m p⊢;obtain⟨l,GH,u⟩:=Ca U x S m p;refine⟨_,c,ad,as,q,a,L,_,_,[],J,l,GH,b,wY b,Kz a,λn ao H3 d N z l3 WV g=>?_⟩;obtain⟨r,j,am,al,_,hx,_⟩:=id l.f;refine⟨c,j,_,J,d _ _ hx,J,_,c,ad,as,a,L,_,_,J,⟨l.f,d,z⟩,b,λW v=>?_⟩;exact k n W (y.trans (u.trans (d.trans v))) g
end
inductive ij(vs:List V)(H:Hp)(Q:VK)(e0:XK):Prop|mk:∀(d:Addr)(N P:Nat),vs=[.ref d,.int (N:Int),.int (P:Int)]->H d=some (.dK [])->N<=16->P<=4->(Yw N P).length<64->(∀H',zi H H'->Q (.bl (decide (Yw N P=[]))) H')->ij vs H Q e0
theorem IA(N P:Nat):∀g∈Yw N P,g≠[]:=λg a=>by obtain⟨q,_,c⟩:=List.mem_flatMap.mp a;obtain⟨o,_,b⟩:=List.mem_flatMap.mp c;obtain⟨i,_,rfl⟩:=bz.mp b;exact λz=>by cases z
theorem Gz(a:List (List Int)):PyData.eqv (aT (.lst [])) (aT (.lst (a.map tI)))=decide (a=[]):=by cases a with|nil=>rfl| cons g r=>rw[c8];unfold aT jd PyData.eqv;simp[PyData.eqvAll]
section
variable{K:W.Frag}{cS:Addr}
theorem Cj:bootBuiltins "sorted"=some (.builtin "sorted"):=by decide+kernel
theorem NW:aA ["thing","n","p"] ["thing","n","p"] (zk Zs):=.of
theorem NZ(D:aY K mg "has_triples" Zs)(T:Txt K mg)(o1:Ok P w K mg base "triples" 1 ["n","p"] hX):Ok P w K mg base "has_triples" 2 ["thing","n","p"] ij:=by
 refine qk (k:=1) D NW ?_;rintro f ay A L s H vs Q E hr ⟨d,N,q,rfl,B,hN,hP,ap,k⟩ X;refine⟨_,ze (yj (PW.pt (Xr (xz (xu (Wa T.isi T.dict Qz (pv 0)))) (Ye (xz (xu (qT (yh (Zf J) J T.all Xm (zc (kf (own:=["triple"]) (cap:=[]) J (we (zk Zs) J J (by decide+kernel) (by decide+kernel) (by decide+kernel) trivial) (Hu (pv 0)) (λ_ _ _ _=>ya (i:=0) (by show(["triple"]:O Str).Nodup;decide+kernel)) (λ_ _ _ _=>qr) (λ_ _ _ _=>Y0)) zd)))))))) (zh (zt wr)) zy)
  (zh (zt (jo (vQ (by exact hr.units)) (yh (L5 J) J T.sorted Cj (zc (pv 0) zd)) (yh L6 J T.sorted Cj (zc (yc o1 hr (zc (pv 1) (zc (pv 2) zd))) zd)) (yb _)))),?_⟩
 refine⟨_,"dict",_,_,J,.dK B,(by kernel_rfl:W.kitOne K (.type "dict") (.type "dict")=some true),_,J,yy ?_⟩;refine⟨d,_,B,trivial,λo=>?_⟩;have m:upd H d (.frz o (.dK [])) d=_:=zf;refine⟨d,o,_,J,m,?_⟩;refine GX (kvs:=[]) (λi r H'=>zi (upd H d (.frz o (.dK []))) H'/\r=[]) ⟨zi.refl _,J⟩ (λi r H' hi ⟨s6,e⟩=>⟨s6 _ _ m,by rw[e];exact bf _⟩) (λi kv r H' ah _=>by cases ah) ?_;rintro r H1 ⟨s1,rfl⟩ l hl;have s2:=zi.new hl (.lst []);refine⟨l,[],J,aM.of zf,(s1.trans s2) _ _ m,_,J,yy ?_⟩;have G:zi H (upd (upd H1 l (.lst [])) d (.dK [])):=λb u e=>by by_cases z:b=d;rw[z]at e⊢;rw[zf,<-e,B];rw[upd_ne z];exact(s1.trans s2) _ _ (by rw[upd_ne z];exact e)
 generalize upd (upd H1 l (.lst [])) d (.dK [])=C at G⊢;refine⟨d,[],[],J,.inl (G _ _ B),J,(by decide),λM n hp _ af=>?_⟩;have e0:M=[]:=List.perm_nil.mp hp;subst e0;have x:=zi.new af (.lst ([]:O V));have h3:upd C n (.lst (([]:O Int).map V.int)) n=some (.lst []):=zf;have x:zi C (upd C n (.lst (([]:O Int).map V.int))):=x;generalize upd C n (.lst (([]:O Int).map V.int))=H3 at x h3⊢;refine⟨N,q,J,hN,hP,λl4 H4 s4 aw i4=>?_⟩;obtain⟨av,F,e4,Z,S⟩:=i4;cases e4;refine⟨l4,Yw N q,F,J,aM.of Z,S,IA N q,ap,λh j y a R U=>?_⟩;have v:=zi.new U (.lst j);have i5:Is (upd H4 y (.lst j)) (.lst (h.map tI)) (.ref y):=⟨y,_,J,zf,R.mono v⟩
 generalize upd H4 y (.lst j)=H5 at v i5⊢;have i3:Is H5 (.lst []) (.ref n):=⟨n,_,J,v _ _ (s4 _ _ h3),J⟩
 have p:(aT (.lst (h.map tI))).canLay0=true:=by unfold aT PyData.canLay0;exact Fn λt ht=>by obtain⟨g,_,rfl⟩:=bz.mp ht;exact vA g
 refine⟨.lst [],.lst (h.map tI),i3,i5,(by decide+kernel),p,(by decide+kernel),?_⟩;rw[Gz];have e6:decide (h=[])=decide (Yw N q=[]):=by by_cases c:Yw N q=[];rw[c]at a⊢;rw[List.perm_nil.mp a];rw[cf c,cf (λz=>c (by rw[z]at a;exact List.perm_nil.mp a.symm))]
 rw[e6];exact k H5 (((G.trans x).trans s4).trans v)
end
theorem Ju(x:Str):∀s:yf,s.countP (ki x)=(yz s).count x
 |[]=>rfl
 | d ::r=>by
   rw[List.countP_cons,Ju x r];cases d with
   | say y=>
     show _+(if decide (y=x)=true then 1 else 0)=(y::yz r).count x
     grind
   |_=>rfl
theorem KH(p:Nat):(cT p).count ("come":Str)=p/\(cT p).count ("go":Str)=p:=by
 induction p with|zero=>exact⟨J,J⟩| succ n a=>
   have e:cT (n+1)=[("come":Str),"go"]++cT n:=by rfl
   have b:([("come":Str),"go"]).count ("come":Str)=1:=by rfl
   grind
theorem JY{N P:Nat}(h:g∈Yw N P):∃i o q:Nat,g=[(i:Int),(o:Int),(q:Int)]/\i<N/\o<N/\q<P:=by
 obtain⟨q,c,b⟩:=List.mem_flatMap.mp h;obtain⟨o,d,a⟩:=List.mem_flatMap.mp b;obtain⟨i,e,rfl⟩:=bz.mp a
 grind
structure pf(hs:aB)(n p:Int)(N P:Nat):Prop where
 en:n=(N:Int)
 ep:p=(P:Int)
 n16:N<=16
 p4:P<=4
 there:∀k,k<N->[k]∈zm (plan hs)
 says:∀k,k<N->((mM hs).scr [k]).countP (ki "come")=P/\((mM hs).scr [k]).countP (ki "go")=P
theorem Bi{hs:aB}{n p:Int}(h:isMade hs n p=true):∃N P,pf hs n p N P:=by unfold isMade pI at h;simp only[cp,decide_eq_true_eq]at h;obtain⟨⟨j,i⟩,⟨g,f⟩,c,b⟩:=h;have a:=λk hk=>c9 (dy.mp c k (du.mpr hk));refine⟨n.toNat,p.toNat,by omega,by omega,by omega,by omega,a,λk hk=>?_⟩;have e:=c9 (dy.mp b [k] (a k hk));have d:Vc n.toNat p.toNat [k]=cT p.toNat:=if_pos hk;rw[Ju,Ju,e,d];exact KH _
inductive om(cH cL:Addr)(vs:List V)(H:Hp)(Q:VK)(E:XK):Prop|mk:∀(t:L2.T)(v:V)(n p:Int)(d:Addr),vs=[v,.int n,.int p,.ref d]->Is H t v->H d=some (.dK [])->(qC t (∀H',zi H H'->E (.ref cH) none H') λhs=>(isMade hs n p=false->∀H',zi H H'->E (.ref cL) none H')/\(isMade hs n p=true->(Yw n.toNat p.toNat).length<64/\∀v H',zi H H'->Q v H'))->om cH cL vs H Q E
inductive nc(cH cL:Addr)(vs:List V)(H:Hp)(Q:VK)(E:XK):Prop|mk:∀(t:L2.T)(v:V)(n p:Int),vs=[v,.int n,.int p]->Is H t v->(qC t (∀H',zi H H'->E (.ref cH) none H') λhs=>(isMade hs n p=false->∀H',zi H H'->E (.ref cL) none H')/\(isMade hs n p=true->∀v H',zi H H'->Q v H'))->nc cH cL vs H Q E
section
variable{K:W.Frag}{cS:Addr}
theorem Vd:aA ["house","n","p","papers","plan","weaving","run","triple"] ["house","n","p","papers"] (zk Xc):=.of
theorem NI(D:aY K mg "are_papers" Xc)(oP:fG P w K mg base "made_plan" 27 ["house","n","p"] (kO cH cL cP cR))(oT:Ok P w K mg base "has_triples" 2 ["thing","n","p"] ij)(oE:Ok P w K mg base "ends_with_all_done" 6 ["plan"] (nS cP cR))(oR:Ok P w K mg base "triples" 1 ["n","p"] hX):fG P w K mg base "are_papers" 28 ["house","n","p","papers"] (om cH cL):=by
 refine qJ D Vd ?_;rintro f ap A r s H vs Q E j ⟨t,v,n,p,d,rfl,U,hd,W,hk⟩ X;have h:=Vd.nd;refine⟨_,ze (zr (i:=4) h (sO oP Qu j (zc (pv 0) (zc (pv 1) (zc (pv 2) zd))))) (ze (yj (PW.pt (Xr (xz (xu (yc oT (j.mono (by decide)) (zc (pv 3) (zc (pv 1) (zc (pv 2) zd)))))) (Ye (xz (xu (yc oE (j.mono (by decide)) (zc (pv 4) zd))))))) (zh (zt wr)) zy) (ze (zr (i:=5) h X9) (ze (zr (i:=6) h X9) (ze (w9 PassesOwn.leaving J (Wz (yc oR (j.mono (by decide)) (zc (pv 1) (zc (pv 2) zd)))) (ya (i:=7) h) wn) (zh (zt wr)))))),?_⟩
 rcases hk with⟨hm,u⟩|⟨b,rfl,Z,u,kk⟩;exact⟨t,v,n,p,J,U,W,.inl ⟨hm,u⟩⟩;refine⟨eH b,v,n,p,J,U,W,.inr ⟨b,J,Z,u,λR x L H1 q hx PA=>?_⟩⟩;obtain⟨B,z⟩:=kk R;obtain⟨N,F,M⟩:=Bi R;obtain rfl:=M.en;obtain rfl:=M.ep;refine⟨d,N,F,J,q _ _ hd,M.n16,M.p4,B,λH2 o=>⟨_,J,?_⟩⟩;by_cases c:Yw N F=[];rw[bp c];refine yy ⟨x,b,L,J,PA.same o,Z.pl,λm H3 s3 af=>⟨_,J,?_⟩⟩;have a:=q.trans (o.trans s3);cases Q1 b (Yl b [] m).done with|false=>exact y3 (z _ H3 a)| true=>refine yy ⟨N,F,J,M.n16,M.p4,λl H4 s4 ah S=>?_⟩;rw[c]at S;obtain⟨l',xs,el,g,ix⟩:=S;cases el;cases(ix);refine⟨l,J,⟨[],aM.of g⟩,?_⟩;let C:Nat->L2.St->Hp->Prop:=λi k G=>H4=G;refine Yk C J (λi k G _ e=>by rw[<-e];exact aM.of g) (λi y k G hy _=>by cases hy) ?_;rintro k G rfl;exact z _ H4 (a.trans s4)
 rw[cf c];exact y3 (y3 (z _ H2 (q.trans o)))
theorem DN(l:O (O Nat))(h:O Nat):l.count h=@List.count _ instBEqOfDecidableEq h l:=by
 unfold List.count
 grind
theorem GR(i:Is H (tI g) v):∃b,v=.ref b/\H b=some (.tup ((kI g).map kV)):=by
 obtain⟨b,d,rfl,c,a⟩:=i;rw[IsL.ints.mp a,<-mH]at c
 simp_all
theorem Kq{t:TS}(R:L2.St->Hp->Prop)(a:∀σ' H',R σ' H'->D.nx σ' H')(g:(∀σ' H',R σ' H'->D.nx σ' H')->t D σ H):t D σ H:=g a
theorem BQ:aA ["house","n","p","plan","run","woven","stops","papers","triple","come","go"] ["house","n","p"] (zk wU):=.of
theorem JT(D:aY K mg "tried" wU)(T:Txt K mg)(CU:aJ K cU cJ)(CS:aJ K cS eQ)(oP:fG P w K mg base "made_plan" 27 ["house","n","p"] (kO cH cL cP cR))(oF:Ok P w K mg base "first_run" 4 ["plan"] (io cU cP cR))(oO:Ok P w K mg base "woven_on" 5 ["run","held"] (hV P w cU cP cR))(oA:cC P w K mg base cU "has_done_all" 1 ["self"] (kQ cU cP cR))(oR:Ok P w K mg base "triples" 1 ["n","p"] hX) (oC:Ok P w K mg base "come_of" 2 ["plan","triple"] (iq "come" (λ_ o _=>o) cP cR)) (oG:Ok P w K mg base "go_of" 2 ["plan","triple"] (iq "go" (λi _ _=>i) cP cR)) (oS:gj P w K mg base "Stop" cS 6 ["self","plan","one"] (ny cS cU cP cR)) (oL:cC P w K mg base cS "lacks" 2 ["self","other"] (nN cS cU)) (oU:cC P w K mg base cS "up_to" 1 ["self","other"] (mY cS cU)):
  fG P w K mg base "tried" 28 ["house","n","p"] (nc cH cL):=by
 refine qJ (k:=27) D BQ ?_;rintro f d8 A b3 s H vs Q E hr ⟨t,v,n,p,rfl,hv,hW,hk⟩ X;have nd:=BQ.nd;have hu:=Z0 hr;have aw:=uG hr;refine⟨_,ze (zr (i:=3) nd (sO oP Qu hr (zc (pv 0) (zc (pv 1) (zc (pv 2) zd))))) (ze (zr (i:=4) nd (yc oF (hr.mono (by decide)) (zc (pv 3) zd))) (ze (zr (i:=5) nd (yc oO (hr.mono (by decide)) (zc (pv 4) (zc (Kv (τ:=eF)) zd)))) (ze (yj (xz (xu (Ku oA CU.cls (hr.mono (by decide)) (pv 4)))) (zh (zt (yg (zc zo (zc (pv 5) zd))))) zy) (ze (zr (i:=6) nd (Kv (τ:=eF))) (ze (zr (i:=7) nd Qi) (ze (w9 PassesOwn.leaving J (Wz (yc oR (hr.mono (by decide)) (zc (pv 1) (zc (pv 2) zd)))) (ya (i:=8) nd) (ze (zr (i:=9) nd (yc oC (hr.mono (by decide)) (zc (pv 3) (zc (pv 8) zd)))) (ze (zr (i:=10) nd (yc oG (hr.mono (by decide)) (zc (pv 3) (zc (pv 8) zd)))) (ze (yj (Jh (Lq (τ:=eF) aw (pv 9) (pv 6))) (zh (Hz (τ:=eF) aw (pv 6) (pv 9) (qO oS (hr.mono (by decide)) (zc (pv 3) (zc (pv 9) zd))) J)) zy) (ze (yj (xz (xu (kc oL CS.cls (hr.mono (by decide)) (vV (τ:=eF) aw (pv 6) (pv 9) (λ_ _=>rfl)) (zc (pv 10) zd)))) (zh (zt (ye AT (yg (zc zo (zc (kc oU CS.cls (hr.mono (by decide)) (vV (τ:=eF) aw (pv 6) (pv 9) (λ_ _=>rfl)) (zc (pv 10) zd)) zd))) (pv 8)))) zy) (zh (Wx hu (pv 7) (pv 8) (vz Qw (by rfl) T.list Ky (zc (yd (vV (τ:=eF) aw (pv 6) (pv 9) (λ_ _=>rfl)) J) zd)) J)))))))
  (zh (zt (yg (zc zo (zc (pv 7) zd))))))))))),?_⟩
 rcases hk with⟨hm,kn⟩|⟨y,rfl,hG,kn,kk⟩;exact⟨t,v,n,p,J,hv,hW,.inl ⟨hm,kn⟩⟩;refine⟨eH y,v,n,p,J,hv,hW,.inr ⟨y,J,hG,kn,λim xp L H1 s1 dr PA=>?_⟩⟩;have k2:=kk im;obtain⟨N,P',M⟩:=Bi im;obtain rfl:=M.en;obtain rfl:=M.ep;have PH:=hG.pl;refine⟨xp,y,L,J,PA,PH,λxr ad as H0 H2 b2 s2 dp RF RM=>?_⟩;refine(λah o co hg=>?_);have s3:=zi.new co o;generalize upd H2 ah o=H3 at s3 hg⊢;obtain⟨RA,GH,sw⟩:=Ca RF s2 RM s3 hg;refine⟨_,xr,ad,as,ah,y,L,_,_,[],J,RA,GH,PH,wY PH,Kz y,λn0 ao H4 S d6 rm l4 ef dE=>?_⟩;obtain⟨dn,cs,am,al,_,hx,_⟩:=id RA.f;have bw:zi H1 H4:=b2.trans (sw.trans S);refine⟨xr,cs,_,J,S _ _ hx,J,_,xr,ad,as,y,L,_,_,J,⟨RA.f,S,rm⟩,PH,λH5 s5=>⟨_,J,?_⟩⟩;have b1:=s1.trans (bw.trans s5);cases Q1 y (mE y [] (vx (Kk (plan y))) (Ym y) n0).done with|false=>exact y3 ⟨aI,λq6 H6 s6 d0 h6=>k2 _ H6 (b1.trans s6)⟩|true=>
 refine yy ?_;intro d bB a4 a3;have s6:=zi.new a4 bB;generalize upd H5 d bB=H6 at s6 a3⊢;intro j a5;have s7:=zi.new a5 (.dT []);have h7:upd H6 j (.dT []) j=some (.dT []):=zf;generalize upd H6 j (.dT [])=H7 at s7 h7⊢;refine⟨N,P',J,M.n16,M.p4,λlt Hb s8 dV i8=>?_⟩;obtain⟨lt',R,el,af,ix⟩:=i8;cases el;have b8:=ix.length;rw[ag]at b8;have gb:bH eF P w Hb d []:=(a3.same s7).same s8;have pb:Hb j=some (.dT []):=s8 _ _ h7;obtain⟨c6,eb⟩:=gb.some;have bD:j≠d:=λz=>by rw[z,eb]at pb;cases pb
 have ba:zi H1 H5:=bw.trans s5;have b0:zi H5 Hb:=s6.trans (s7.trans s8);have b5:H5 d=none:=a4;have b4:H5 j=none:=wm s6 a5;have a9:zi H5 (without [d,j] Hb):=b0.without λm hm=>by rcases ak.mp hm with z|z;rw[z];exact b5;rw[ai.mp z];exact b4
 have bJ:without [d,j] Hb lt=some (.lst R):=by rw[yt];exact af;intro hm;rcases ak.mp hm with z|z;rw[z,eb]at af;cases af;rw[ai.mp z,pb]at af;cases af
 have tw:yo Hb (without [d,j] Hb):=λb ys e=>by rw[yt];exact e;intro hm;rcases ak.mp hm with z|z;rw[z,eb]at e;cases e;rw[ai.mp z,pb]at e;cases e
 have c2:(Yw N P').length<=1024:=by have q1:=xO N P';have q2:P'*(N*N)<=4*(16*16):=Nat.mul_le_mul M.p4 (Nat.mul_le_mul M.n16 M.n16);omega
 refine⟨lt,J,⟨R,aM.of af⟩,?_⟩;let c0:Nat->L2.St->Hp->Prop:=λi σ G=>∃(x8 x9 a7:Option V)(r:List ((List Int×Int)×V))(B:List (List aK×V)),σ=[some v,some (.int (N:Int)),some (.int (P':Int)),some (.ref xp),some (.ref xr),some (.ref ao),some (.ref d),some (.ref j),x8,x9,a7]/\zi (without [d,j] Hb) G/\bH eF P w G d r/\G j=some (.dT B)/\r.length<=i/\B.length<=i/\
  ∀k v,xa r k=some v->∃R n h p,v=.ref R/\aV (λa=>a≠d/\a≠j) G cS cU R (Yl y (jp h p) n)/\Wv (mM y) (zm (plan y)) (Yl y (jp h p) n)
 refine Yk (K:=K) (a:=lt) (xs:=R) c0
  ⟨none,none,none,[],[],J,vj,gb,pb,bf _,bf _,λk v e=>by cases e⟩ (λi σ G _ ⟨_,_,_,_,_,_,sG,_⟩=>aM.of (sG _ _ bJ)) ?_ ?_
 . rintro i vt σ G bG ⟨x8,x9,a7,r,B,rfl,sG,gG,pG,dv,dK,b9⟩;have hi:i<R.length:=(ci.mp bG).1;obtain⟨tt,ay,b6⟩:=ix.get' bG;rw[bi]at ay;cases eg:(Yw N P')[i]? with|none=>rw[eg]at ay;cases ay|some g=>
   rw[eg]at ay;cases ay;obtain⟨a,o,q,rfl,ha,ho,hq⟩:=JY (bq eg);have bd:Is G (tI [(a:Int),(o:Int),(q:Int)]) vt:=(b6.tups tw (qz _)).mono sG;have bh:aN G cP cR y L xp:=PA.same (ba.trans (a9.trans sG));refine⟨xp,y,L,a,o,q,vt,J,bh,PH,bd,M.there o ho,by rw[(M.says o ho).1];exact hq,λvc G1 W t1 d4 c4 ic=>?_⟩;refine⟨xp,y,L,a,o,q,vt,J,bh.same t1,PH,bd.mono t1,M.there a ha,by rw[(M.says a ha).2];exact hq,λvg G2 jg t2 d3 c3 ig=>?_⟩;have Z:=t1.trans t2;have bl:=sG.trans Z;have aS:=gG.same Z;have bb:=Z _ _ pG;have av:Is G2 (.tup [hT [o],.int (W:Int)]) vc:=ic.mono t2;obtain⟨bc,xc,rfl,d5,d2⟩:=id av;have a2:∀k v,xa r k=some v->∃R n h p,v=.ref R/\aV (λa=>a≠d/\a≠j) G2 cS cU R (Yl y (jp h p) n)/\Wv (mM y) (zm (plan y)) (Yl y (jp h p) n):=λk v e=>by obtain⟨R,n,h,p,e1,e2,e3⟩:=b9 k v e;exact⟨R,n,h,p,e1,e2.same Z,e3⟩
   dsimp only[Ze,mD,Ends.sq,pz,tC,mK];refine Kq (t:=mC _ _ _) (λbk G3=>∃(l:List ((List Int×Int)×V))(vs:V),bk=[some v,some (.int (N:Int)),some (.int (P':Int)),some (.ref xp),some (.ref xr),some (.ref ao),some (.ref d),some (.ref j),some vt,some (.ref bc),some vg]/\zi (without [d,j] Hb) G3/\yo G2 G3/\bH eF P w G3 d l/\G3 j=some (.dT B)/\l.length<=i+1/\ (∀k v,xa l k=some v->∃R n h p,v=.ref R/\aV (λa=>a≠d/\a≠j) G3 cS cU R (Yl y (jp h p) n)/\Wv (mM y) (zm (plan y)) (Yl y (jp h p) n))/\xa l (hZ [o],(W:Int))=some vs) ?_ (λbL=>?_)
   rintro bk G3 ⟨l,vs,rfl,F,a8,g3,p3,bI,a1,ev⟩;obtain⟨C,n',h',p',rfl,SA,bM⟩:=a1 _ _ ev;have ap:Is G3 (.tup [hT [o],.int (W:Int)]) (.ref bc):=av.tups a8 ⟨qz _,trivial,trivial⟩;have bE:Is G3 (.tup [hT [a],.int (jg:Int)]) vg:=ig.tups a8 ⟨qz _,trivial,trivial⟩;have b7:Is G3 (tI [(a:Int),(o:Int),(q:Int)]) vt:=(bd.mono Z).tups a8 (qz _);obtain⟨bt,rfl,bK⟩:=GR b7;have bN:aV (λ_=>True) G3 cS cU C (Yl y (jp h' p') n'):=SA.keep (λ_ _ _ e=>e) (yo.refl _) λ_ _=>trivial;obtain⟨bg,dh,cv,c5,c1,ed,d9,ea,ec,z1,z2,z3,⟨os,z4,z5⟩,_⟩:=id SA;have dt:(Yl y (jp h' p') n').wov.length<=1200:=by have q:=bM.most;have q2:tot (mM y) (zm (plan y))=Vb y.ss (plan y):=BU (Wy y);have q4:Vb y.ss (plan y)<=1200:=PH.deeds;omega
   refine⟨d,bc,l,(hZ [o],(W:Int)),.ref C,J,J,g3,ap,ev,C,bg,_,J,z1,J,C,_,[a],jg,vg,J,bN,bE,_,J,?_⟩;by_cases c:jg<yi (Yl y (jp h' p') n').done [a];rw[bp c];refine y3 ?_;refine⟨d,bc,l,(hZ [o],(W:Int)),.ref C,J,J,g3,ap,ev,C,bg,_,J,z1,J,C,_,[a],jg,vg,J,bN,bE,by rw[DN,bM.cnt];exact c,by omega,λl4 G4 j4 S e4 d7 i4=>⟨aI,λp5 G5 s5 d1 cb=>?_⟩⟩;refine⟨p5,bt,_,_,J,J,aG.of cb,aG.of ((S.trans s5) _ _ bK),by simp,aI,(λz=>by cases z),λ_ p6 h6=>?_⟩;exact k2 _ _ (s1.trans (ba.trans (a9.trans (F.trans ((S.trans s5).trans (zi.new h6 _))))));rw[cf c];refine yy ?_;refine⟨d,bc,l,(hZ [o],(W:Int)),.ref C,J,J,g3,ap,ev,C,cS,bg,_,_,J,z1,CS.cls,CS.n,xT,cv,os,J,.inl (aM.of z4),λl4 cc=>?_⟩;have S:=zi.new cc (.lst os);generalize upd G3 l4 (.lst os)=G4 at S⊢;refine⟨j,_,J,Kp.t (S _ _ p3) (S _ _ bK) (Yb (by omega)),?_⟩;have p4:=S _ _ p3;have g4:=g3.same S;have t5:yo G4 (upd G4 j (.dT (qo B (kI [(a:Int),(o:Int),(q:Int)]) (.ref l4)))):=yo.upd p4 (λ_ z=>by cases z);have lp:=qa B (kI [(a:Int),(o:Int),(q:Int)]) (.ref l4);refine⟨_,_,_,l,_,J,Za (F.trans S) (yw (by simp)),g4.by t5 (upd_ne (au bD)),zf,bI,by omega,λk' v' e'=>?_⟩;obtain⟨a6,n2,h2,p2,r1,r2,r3⟩:=a1 k' v' e';exact⟨a6,n2,h2,p2,r1,(r2.same S).keep (λb u U e=>by rw[upd_ne U.2];exact e) t5 (λ_ U=>U),r3⟩;refine⟨d,bc,r,(hZ [o],(W:Int)),J,J,aS,av,_,J,?_⟩;cases ev:xa r (hZ [o],(W:Int))with|some vs=>exact yy (bL _ G2 ⟨r,vs,J,bl,yo.refl _,aS,bb,by omega,a2,ev⟩)| none=>
     refine y3 ?_;refine(λx dx hx cn dN=>?_);have sn:zi G2 (upd (upd G2 dx (.own x)) x (.ins cS dx [])):=λb o e=>by rw[upd_ne (zn e hx),upd_ne (zn e cn)];exact e
     refine⟨G2,x,dx,xp,.ref bc,y,L,[o],W,J,zf,sn,hx,bh.same Z,PH,av.mono sn,λn3 G3 F cw bI SA=>⟨J,?_⟩⟩;have g3:=aS.same F;have ap:=av.mono F;have p3:=F _ _ bb;refine⟨d,bc,r,(hZ [o],(W:Int)),J,J,g3,ap,Yb (by omega),λo' cl=>?_⟩;have lp:=qa r (hZ [o],(W:Int)) (.ref x);obtain⟨da,e2⟩:=aS.some;have bC:∀b,G2 b=none->b≠d/\b≠j:=λb U=>⟨(λz=>by rw[z,e2]at U;cases U),(λz=>by rw[z,bb]at U;cases U)⟩
     refine bL _ (upd G3 d o') ⟨qo r (hZ [o],(W:Int)) (.ref x),.ref x,J,Za (bl.trans F) (yw (by simp)),F.tups.trans g3.tups,cl,(upd_ne bD).trans p3,by omega,λk' v' e'=>?_,by rw[V2,if_pos J]⟩;rw[V2]at e';by_cases ck:k'=(hZ [o],(W:Int));rw[if_pos ck]at e';cases e';exact⟨x,n3,[o],W,J,SA.keep (λb u U e=>by rw[upd_ne (bC b U).1];exact e) g3.tups bC,cw⟩;rw[if_neg ck]at e';obtain⟨a6,n2,h2,p2,r1,r2,r3⟩:=a2 k' v' e';exact⟨a6,n2,h2,p2,r1,(r2.same F).keep (λb u U e=>by rw[upd_ne U.1];exact e) g3.tups (λ_ U=>U),r3⟩
 rintro σ G ⟨x8,x9,a7,r,B,rfl,sG,gG,pG,_⟩;exact⟨aI,λq9 H9 s9 dT h9=>k2 _ H9 (s1.trans (ba.trans (a9.trans (sG.trans s9))))⟩
end
noncomputable def Oq(n i q:Nat):List aD:=[.rai 0 1,.awa 0 ((n:Int)*((q:Int)+1))]
noncomputable def oy(n i:Nat):List Nat:=(List.range n).filter λj=>decide (j≠i)
noncomputable def tK(n i q:Nat):List aD:=.rai (i:Int) 1::(oy n i).map λj:Nat=>aD.awa (j:Int) ((q:Int)+1)
noncomputable def rH(n i:Nat):List Nat:=[2*i+1,2*i+2].filter λj=>decide (j<n)
noncomputable def tF(n i q:Nat):List aD:=(rH n i).map (λj:Nat=>aD.awa (j:Int) ((q:Int)+1))++[.rai (i:Int) 1]++(if i=0 then[]else[.awa 0 ((q:Int)+1)])
theorem Vu{p:Y}{k:Int}(h:H p=some (.tup [.str "raise",.int b,.int k])):Is H (eD (.rai b k)) (.ref p):=⟨p,_,J,h,_,_,J,J,_,_,J,J,_,_,J,J,J⟩
theorem Xj{p:Y}{k:Int}(h:H p=some (.tup [.str "await",.int b,.int k])):Is H (eD (.awa b k)) (.ref p):=⟨p,_,J,h,_,_,J,J,_,_,J,J,_,_,J,J,J⟩
theorem Jo{p:Y}(h:H p=some (.tup [.str "say",.str x])):Is H (eD (.say x)) (.ref p):=⟨p,_,J,h,_,_,J,J,_,_,J,J,J⟩
theorem qR(h:H l=some (.lst xs))(i:IsL H ts xs):Is H (.lst ts) (.ref l):=⟨l,xs,J,h,i⟩
theorem qt{H:Hp}:∀{c b:List T}{xs a:List V},IsL H c xs->IsL H b a->IsL H (c++b) (xs++a)|[],b,xs,a,h,g=>by cases(h);exact g| t::c,b,xs,a,h,g=>by obtain⟨v,r,rfl,e,d⟩:=h;exact⟨v,r++a,J,e,qt d g⟩
theorem qh{t:T}(h:Is H t v):IsL H [t] [v]:=⟨v,[],J,h,J⟩
theorem lj{i j:Int}(d:0<=i)(c:i<=1000)(b:0<=j)(a:j<=1000):qG i j:=by unfold qG;omega
theorem BC(n i:Nat):(List.range (n+1)).filter (λj=>decide (j≠i))=(List.range n).filter (λj=>decide (j≠i))++if n≠i then[n]else[]:=by
 rw[List.range_succ,List.filter_append]
 grind
theorem Hm(n i:Nat):(oy n i).length<=n:=by
 unfold oy
 grind
theorem AB(n i:Nat):(rH n i).length<=2:=by unfold rH;grind
theorem bY.mems(a:O jK):qu (a.map rQ):=by rw[qu.all];intro t b;obtain⟨m,_,rfl⟩:=bz.mp b;exact⟨trivial,trivial,trivial⟩
theorem bY.deed(d:aD):bY (eD d):=by cases d with| beg j a=>exact⟨trivial,trivial,bY.mems a,trivial⟩|_=>first|exact⟨trivial,trivial,trivial⟩|exact⟨trivial,trivial,trivial,trivial⟩
theorem bY.deeds(b:O aD):qu (b.map eD):=by rw[qu.all];intro t a;obtain⟨m,_,rfl⟩:=bz.mp a;exact bY.deed m
theorem bY.scripts(ss:O yf):qu (ss.map eS):=by rw[qu.all];intro t a;obtain⟨m,_,rfl⟩:=bz.mp a;exact bY.deeds m
structure Gr(H0 H:Hp)(l:Addr)(ds:List aD)(ys:List V):Prop where
 same:zi H0 H
 at':H l=some (.lst ys)
 it:IsL H (ds.map eD) ys
theorem Gr.apps{d c:O aD}{a:O V}(j:H0 l=none)(g:Gr H0 H l d ys)(s:zi H H1)(i:IsL H1 (c.map eD) a):Gr H0 (upd H1 l (.lst (ys++a))) l (d++c) (ys++a):=by
 have f:yo H1 (upd H1 l (.lst (ys++a))):=λb h e=>by rw[upd_ne (λz=>by rw[z,s _ _ g.at']at e;cases e)];exact e
 refine⟨λb o e=>?_,zf,?_⟩;rw[upd_ne (λz=>by simp_all)];exact s _ _ (g.same _ _ e);rw[aq];exact qt (IsL.tups f (bY.deeds d) (g.it.mono s)) (IsL.tups f (bY.deeds c) i)
theorem Gr.app{a:O aD}{d:aD}(b:H0 l=none)(g:Gr H0 H l a ys)(s:zi H H1)(i:Is H1 (eD d) v):Gr H0 (upd H1 l (.lst (ys++[v]))) l (a++[d]) (ys++[v]):=g.apps b s (qh i)
theorem Ya{n:Nat}(h:n<1000):n<sizeLine:=ca h (xk (aj 1000))
theorem jM{a n:Nat}(h:a<n):((i:Int)-(a:Int))%(n:Int)=(((i+n-a)%n:Nat):Int):=by rw[Int.natCast_emod,Int.ofNat_sub (by omega),Int.natCast_add,show((i:Int)+n-a)=(i-a)+n by omega,Int.add_emod_right]
noncomputable def mT(n i q:Nat):Nat->Nat->Nat->List aD|0,_,_=>[]|f+1,k,F=>if F<n then aD.rai ((k*n+i:Nat):Int) 1::.awa ((k*n+(i+n-F)%n:Nat):Int) ((q:Int)+1)::mT n i q f (k+1) (2*F)else[]
noncomputable def xY(n i q:Nat):List aD:=mT n i q 5 0 1
noncomputable def lb(n:Nat):Nat->Nat->Nat|0,_=>0|f+1,F=>if F<n then lb n f (2*F)+1 else 0
theorem Ix{n q:Nat}:∀{f k a:Nat},n<=a->mT n i q f k a=[]|0,_,_,_=>rfl|f+1,k,a,h=>by unfold mT;rw[if_neg (by omega)]
def K4(kd:Str):Prop:=kd="shared"\/kd="own"\/kd="spread"\/kd="tree"
noncomputable def pW(kd:Str)(n i q:Nat):List aD:=if kd="shared" then Oq n i q else if kd="own" then tK n i q else if kd="spread" then xY n i q else tF n i q
noncomputable def one(kd:Str)(n i q:Nat):List aD:=.say "come"::pW kd n i q++[.say "go"]
noncomputable def eI(kd:Str)(n i p:Nat):List aD:=(List.range p).flatMap (one kd n i)
theorem A9{n i q:Nat}:∀(f k a:Nat),(mT n i q f k a).length<=2*f
 |0,_,_=>aj 0
 | f+1,k,a=>by
   unfold mT;by_cases h:a<n;rw[if_pos h,dj,dj];have:=A9 (n:=n) (i:=i) (q:=q) f (k+1) (2*a);omega
   grind
theorem iZ{n:Nat}(h:i<n):(oy n i).length+1<=n:=by
 unfold oy;have a:=(List.length_filter_lt_length_iff_exists (p:=λj=>decide (j≠i))).mpr ⟨i,du.mpr h,by simp⟩
 grind
theorem AE{n q:Nat}(d:i<n)(e:n<=16):(pW kd n i q).length<=16:=by
 unfold pW;by_cases c:kd="shared";rw[if_pos c];show 2<=16;decide;rw[if_neg c];by_cases b:kd="own";rw[if_pos b];unfold tK;rw[dj,ag];have:=iZ d;omega;rw[if_neg b];by_cases a:kd="spread";rw[if_pos a];have:=A9 (n:=n) (i:=i) (q:=q) 5 0 1;unfold xY;omega;rw[if_neg a];unfold tF;rw[az,az,ag];have:=AB n i
 grind
theorem Id{n q:Nat}(b:i<n)(a:n<=16):(one kd n i q).length<=18:=by
 unfold one;rw[az,dj];have:=AE (kd:=kd) (q:=q) b a
 simp_all
theorem Bq(kd:Str)(n i p:Nat):eI kd n i (p+1)=eI kd n i p++one kd n i p:=by unfold eI;rw[List.range_succ,List.flatMap_append];simp
theorem AF{kd:Str}{n i:Nat}(b:i<n)(a:n<=16):∀p,(eI kd n i p).length<=18*p|0=>aj 0| p+1=>by rw[Bq,az];have:=AF (kd:=kd) b a p;have:=Id (kd:=kd) (q:=p) b a;omega
mutual
noncomputable def Sh:T->Prop|.str x=>x.length<=1000|.tup ts=>eY ts|.lst ts=>eY ts|_=>True
noncomputable def eY:List T->Prop|[]=>True|t::ts=>Sh t/\eY ts
end
theorem eY.all:eY ts↔∀t∈ts,Sh t:=by induction ts with|nil=>simp[eY]|cons t ts a=>simp[eY,a]
theorem Sh.wh{t:T}(h:Sh t):Wh t:=by rintro b w f m rfl s c l rfl d e k rfl u a x rfl;have j:=h.2.2.2.1;have i:=eY.all.mp j _ c;have g:=eY.all.mp i _ e;exact cr (eY.all.mp g _ a) (by decide)
theorem jm{x lo a:Int}(c:lo<=x)(b:x<=a):yk (.int x) lo a=true:=by
 show(decide (lo<=x) && decide (x<=a))=true
 simp_all
theorem Ak{b w:Int}{n:Nat}:∀(ss:List T)(i:Nat),(∀(j:Nat) t,ss[j]?=some t->Xh t ((i+j:Nat):Int) b w n=true)->jH b w n (i:Int) ss=true
 |[],_,_=>rfl
 | s::r,i,h=>by
   show(Xh s i b w n && jH b w n (i+1) r)=true;have e:(i+1)=((i+1:Nat):Int):=by omega
   have c:Xh s i b w n=true:=h 0 s J;rw[c,e,Ak r (i+1) λj t a=>by rw[show i+1+j=i+(j+1) by omega];exact h (j+1) t a];rfl
noncomputable def bt(n:Nat):Nat:=Builtin.Int.intBits ((n:Int)-1)
noncomputable def mj(kd:Str)(n:Nat):Int:=if kd="shared" then 1 else if kd="spread" then(n:Int)*(bt n:Int)else(n:Int)
noncomputable def hk(kd:Str)(n p:Nat):aB:=⟨mj kd n,0,(List.range n).map λi=>((i:Nat),([]:List jK)),(List.range n).map λi=>eI kd n i p⟩
theorem Hh:∀n:Fin 17,bt n.val<=4/\∀j:Fin 5,2^j.val<n.val->j.val<bt n.val:=by decide+kernel
theorem zG{n:Nat}(h:n<=16):bt n<=4:=(Hh ⟨n,by omega⟩).1
theorem EU{n:Nat}(h:n<=16):0<=mj kd n/\mj kd n<=99:=by
 unfold mj;by_cases c:kd="shared"
 simp_all
 rw[if_neg c];by_cases b:kd="spread";rw[if_pos b];have a:=zG h;have:=Nat.mul_le_mul h a;omega
 grind
theorem Nm(j:Nat):(List.range (j+1)).map (λi=>eC ((i:Nat),([]:O jK)))=(List.range j).map (λi=>eC ((i:Nat),([]:O jK)))++[eC (j,[])]:=by rw[List.range_succ,aq];rfl
theorem NB(kd:Str)(n p j:Nat):(List.range (j+1)).map (λi=>eS (eI kd n i p))=(List.range j).map (λi=>eS (eI kd n i p))++[eS (eI kd n j p)]:=by rw[List.range_succ,aq];rfl
noncomputable abbrev wA:Stmt:=aX 83
noncomputable abbrev wO:Stmt:=aX 84
noncomputable abbrev xI:Stmt:=aX 85
inductive nX(K:W.Frag)(vs:List V)(H:Hp)(Q:VK)(e0:XK):Prop|mk:∀(a:Addr)(ns:List Int)(k:Nat),vs=[.ref a,.int (k:Int)]->aM K H a (ns.map V.int)->(∀c:Int,Q (.int c) H)->nX K vs H Q e0
inductive ng(K:W.Frag)(vs:List V)(H:Hp)(Q:VK)(e0:XK):Prop|mk:∀(a:Addr)(ns:List Int)(k:Nat),vs=[.ref a,.int (k:Int)]->aM K H a (ns.map V.int)->(∀(l:Addr)(x:Int),H l=none->Q (.ref l) (upd H l (.lst [.int x])))->ng K vs H Q e0
inductive ip(vs:List V)(H:Hp)(Q:VK)(e0:XK):Prop|mk:∀(a:Addr)(x m:Int),vs=[.ref a,.int m]->H a=some (.lst [.int x])->0<m->m<=100->(∀d:Int,0<=d->d<m->Q (.int d) (upd H a (.lst [.int (x/m)])))->ip vs H Q e0
section
variable{K:W.Frag}
theorem JK:aA ["script","k"] ["script","k"] (zk wA):=.of
theorem IQ(D:aY K mg "_law_acell" wA)(T:Txt K mg):Ok P w K mg base "_law_acell" 1 ["script","k"] (nX K):=by
 refine qk D JK ?_;rintro f h A b s H i Q E j ⟨a,g,k,rfl,e,d⟩ X;refine⟨_,ze (yj (zu mI (pv 1) (yh ym (by rfl) T.len vm (zc (pv 0) zd)) (yb _)) (zh (zt (zp qg (pv 0) (pv 1)))) zy) (zh (zt zg)),?_⟩;refine⟨a,_,J,.inl e,_,_,J,J,_,J,jy (λc=>?_) (λc=>?_)⟩;have c:=c9 c;rw[ag]at c;have hk:k<g.length:=by omega
 exact⟨a,_,_,_,J,J,e,wx (by rw[bi,br hk];rfl),d _⟩;exact d 0
theorem BN:aA ["script","k","cell","p","number","last","turn"] ["script","k"] (zk wO):=.of
theorem IT(D:aY K mg "_law_atape" wO)(T:Txt K mg)(p:Ok P w K mg base "_law_acell" 1 ["script","k"] (nX K)):Ok P w K mg base "_law_atape" 2 ["script","k"] (ng K):=by
 refine qk D BN ?_;rintro f x A i s H B Q E u ⟨a,q,k,rfl,v,o⟩ X;have b:=BN.nd;refine⟨_,ze (zr (i:=2) b (yc p u (zc (pv 0) (zc (pv 1) zd)))) (ze (yj (zu wt (ye Jj (pv 2) zg) zg (yb _)) (zh (zt (jk (zc (ye AU (pv 2) zg) zd)))) zy) (ze (zr (i:=3) b zg) (ze (zr (i:=4) b zg) (ze (zr (i:=5) b (ye Jj (ye wb (ye wb (ye Zn (ye Jj (pv 2) (pv 3)) zg) (ye Zn zg (pv 1))) zg) (pv 3))) (ze (w9 PassesOwn.never J (va J T.range (zc zg zd)) (ya (i:=6) b) (ze (zr (i:=4) b (ye wb (ye Zn (pv 4) (pv 3)) (pv 5))) (zh (zr (i:=5) b (ye Jj (ye wb (ye wb (ye Zn (pv 5) (pv 5)) (ye Zn zg (pv 1))) (pv 6)) (pv 3))))))
  (zh (zt (jk (zc (pv 4) zd))))))))),?_⟩
 refine⟨a,q,k,J,v,λc=>?_⟩;refine⟨_,_,J,J,(show(0:Int)<2 by decide),J,_,J,jy (λ_=>?_) (λ_=>?_)⟩;exact⟨_,_,J,J,⟨by decide,by decide⟩,aI,λl n=>o l _ n⟩;have d:(0:Int)<2305843009213693951:=by decide
 have F:=fk c d;refine⟨_,_,J,J,d,_,_,J,J,.inr ⟨by decide,by decide⟩,_,_,J,J,.inl ⟨by decide,by decide⟩,_,_,J,J,_,_,J,J,_,_,J,J,d,?_⟩;refine⟨7,J,by decide,by decide,?_⟩;refine ko (λj g z=>z=H/\∃(m e:Int)(h:Option V),0<=e/\e<2305843009213693951/\g=[some (.ref a),some (.int (k:Int)),some (.int c),some (.int 2305843009213693951),some (.int m),some (.int e),h]) ⟨J,0,(c%2305843009213693951*48271+69621*(k:Int)+11)%2305843009213693951,none,Int.emod_nonneg _ (by decide),fk _ d,J⟩ ?_ ?_;rintro j g y C ⟨rfl,m,e,h,t,r,rfl⟩;refine⟨_,_,J,J,.inr ⟨by decide,by decide⟩,_,_,J,J,?_⟩;refine⟨_,_,J,J,.inr ⟨by omega,by omega⟩,_,_,J,J,.inl ⟨by decide,by decide⟩,_,_,J,J,_,_,J,J,_,_,J,J,d,?_⟩;exact⟨J,_,_,_,Int.emod_nonneg _ (by decide),fk _ d,J⟩;rintro g y ⟨rfl,m,e,h,t,r,rfl⟩;exact⟨aI,λl n=>o l _ n⟩
theorem Cu:aA ["tape","many","found"] ["tape","many"] (zk xI):=.of
theorem Lh(D:aY K mg "_law_adigit" xI)(T:Txt K mg):Ok P w K mg base "_law_adigit" 1 ["tape","many"] ip:=by
 refine qk D Cu ?_;rintro f i A c s H j Q E k ⟨a,x,m,rfl,d,b,h,g⟩ X;have e:=Cu.nd;refine⟨_,ze (zr (i:=2) e (ye Jj (zp qg (pv 0) zg) (pv 1))) (ze (Ji (ye AU (zp qg (pv 0) zg) (pv 1)) (qU (pv 0) zg Yy)) (zh (zt (pv 2)))),?_⟩
 refine⟨a,_,_,_,J,J,aM.of d,J,_,_,J,J,b,?_⟩;refine⟨a,_,_,_,J,J,aM.of d,J,_,_,J,J,⟨b,by omega⟩,a,_,_,_,J,J,d,J,?_⟩;exact(g _ (Int.emod_nonneg _ (by omega)) (fk _ b))
end
noncomputable abbrev kz:Stmt:=aX 86
theorem D3:bootBuiltins "ValueError"=some (.type "ValueError"):=by rfl
section
variable{te:TE}{p1 p2 aE:Pos}
theorem Yf{n:Str}{D:Y}(d:X.mg "isinstance"=none)(b:X.mg n=some (.ref D))(he:PE X e te)(g1:Gl X "isinstance":=by rfl)(f:Gl X n:=by rfl)(c:(n==("__debug__":Str))=false:=by decide)
  (hs:starEach [e,.Name n p2] X.env=(false,eval e X.env)::starEach [.Name n p2] X.env:=by rfl) (g:(backTo aE (starEach [.Name n p2] X.env)).any (·.1)=false:=by rfl) (a:starEach [.Name n p2] X.env=(false,eval (.Name n p2) X.env)::starEach [] X.env:=by rfl):
  PE X (.Call (.Name "isinstance" p1) [e,.Name n p2] [] aE) (pQ (lf X.K) (V3 te (V3 (tC (.ref D)) ln))):=
 yh Ck g1 d uK (zc he (zc (vX f b J c) zd a) hs) (he:=hs)
theorem Ho{n:Str}{T:String}(g:X.mg "isinstance"=none)(f:X.mg n=none)(d:bootBuiltins n=some (.type T))(he:PE X e te)(g1:Gl X "isinstance":=by rfl)(h:Gl X n:=by rfl)(b:n≠"__name__":=by decide)(c:(n==("__debug__":Str))=false:=by decide)
  (hs:starEach [e,.Name n p2] X.env=(false,eval e X.env)::starEach [.Name n p2] X.env:=by rfl) (i:(backTo aE (starEach [.Name n p2] X.env)).any (·.1)=false:=by rfl) (a:starEach [.Name n p2] X.env=(false,eval (.Name n p2) X.env)::starEach [] X.env:=by rfl):
  PE X (.Call (.Name "isinstance" p1) [e,.Name n p2] [] aE) (pQ (lf X.K) (V3 te (V3 (tC (.ty T)) ln))):=
 yh Ck g1 g uK (zc he (zc (AW h f d J b c) zd a) hs) (he:=hs)
end
structure Kinds(K:W.Frag)(mg:Str->Option Value)(C:Addr)(i:Nat):Prop where
 err:jL K C
 two:i=3\/i=8
 noVE:mg "ValueError"=none
 ve:W.kitOne K (.ref C) (.type "ValueError")=some true
 k0:∃a,mg "NoCount"=some (.ref a)/\W.kitOne K (.ref C) (.ref a)=some (decide (0=i))
 k1:∃a,mg "NoDeed"=some (.ref a)/\W.kitOne K (.ref C) (.ref a)=some (decide (1=i))
 k2:∃a,mg "NoHand"=some (.ref a)/\W.kitOne K (.ref C) (.ref a)=some (decide (2=i))
 k3:∃a,mg "NoHouse"=some (.ref a)/\W.kitOne K (.ref C) (.ref a)=some (decide (3=i))
 k4:∃a,mg "NoName"=some (.ref a)/\W.kitOne K (.ref C) (.ref a)=some (decide (4=i))
 k5:∃a,mg "NoRow"=some (.ref a)/\W.kitOne K (.ref C) (.ref a)=some (decide (5=i))
 k6:∃a,mg "NoStand"=some (.ref a)/\W.kitOne K (.ref C) (.ref a)=some (decide (6=i))
 k7:∃a,mg "NoText"=some (.ref a)/\W.kitOne K (.ref C) (.ref a)=some (decide (7=i))
 k8:∃a,mg "NoWall"=some (.ref a)/\W.kitOne K (.ref C) (.ref a)=some (decide (8=i))
 k9:∃a,mg "TooMany"=some (.ref a)/\W.kitOne K (.ref C) (.ref a)=some (decide (9=i))
 kW:∃a,mg "WallError"=some (.ref a)/\W.kitOne K (.ref C) (.ref a)=some true
structure rO(K:W.Frag)(mg:Str->Option Value)(base:Heap)(cH cL cE:Addr):Prop where
 oH:dA K mg base "NoHouse" cH
 oL:dA K mg base "NoWall" cL
 mW:mg "WallError"=some (.ref cE)
 iW:fY base cE
 uH:Under base cH cE
 uL:Under base cL cE
 kH:Kinds K mg cH 3
 kL:Kinds K mg cL 8
noncomputable def kb(i:Nat):List Bool:=[decide (0=i),decide (1=i),decide (2=i),decide (3=i),decide (4=i),decide (5=i),decide (6=i),decide (7=i),decide (8=i),decide (9=i)]
theorem IE(h:i=3\/i=8):(kb i).countP id=1:=by rcases h with rfl|rfl<;>rfl
theorem zL(h:i=3\/i=8):(kb i)[i]?=some true/\∀m,m<i->(kb i)[m]?=some false:=by rcases h with rfl|rfl<;>decide
noncomputable def Dn:L2.Tm:=.lst [.con (.str "count"),.con (.str "deed"),.con (.str "hand"),.con (.str "house"),.con (.str "name"),.con (.str "row"),.con (.str "stand"),.con (.str "text"),.con (.str "wall"),.con (.str "many")]
noncomputable def yW:List T:=[.str "count",.str "deed",.str "hand",.str "house",.str "name",.str "row",.str "stand",.str "text",.str "wall",.str "many"]
noncomputable def kw(i:Nat):Str:=if i=3 then "house" else "wall"
theorem GT(h:i=3\/i=8)(k:IsL H yW ys):gw ys ((i:Nat):Int)=some (.str (kw i)):=by refine wx ?_;rcases h with rfl|rfl;obtain⟨v,b,a⟩:=k.get (i:=3) J;cases(a);exact b;obtain⟨v,b,a⟩:=k.get (i:=8) J;cases(a);exact b
inductive nO(K:W.Frag)(mg:Str->Option Value)(vs:List V)(H:Hp)(Q:VK)(e0:XK):Prop|mk:∀(a C:Addr)(i:Nat),vs=[.ref a]->H a=some (pj a C)->Kinds K mg C i->(∀H',zi H H'->Q (.str (kw i)) H')->nO K mg vs H Q e0
section
variable{K:W.Frag}
theorem LK:∃(e:Expr)(p q:Pos),xj kz=[.Assign [.Name "names" p] e q,(xj kz).getD 1 dD,(xj kz).getD 2 dD,(xj kz).getD 3 dD,(xj kz).getD 4 dD,(xj kz).getD 5 dD,(xj kz).getD 6 dD]/\
 dS Di ["caught","names","some"] (zk kz) 12 e=some Dn:=⟨_,_,_,J,by rfl⟩
theorem KD{d:Str->Bool}{c:Scope}{f:Nat}{b:L2.Tm}{t:Option Expr}{l:Nat}{a:Env}(h:dS d N c f e=some b):swapsWith e t l a=pure false:=by cases f with|zero=>cases h|succ f=>cases e<;>first|rfl|(cases(h))
theorem Cc:aA ["caught","names","some"] ["caught"] (zk kz):=.of
theorem IR(D:aY K mg "_law_akind" kz)(T:Txt K mg):Ok P w K mg base "_law_akind" 1 ["caught"] (nO K mg):=by
 refine qk D Cc ?_;rintro f bk A Z s H vs Q E hr ⟨a,C,i,rfl,ha,b,kk⟩ X;have p:=Cc.nd;obtain⟨eL,pL,qL,k,j⟩:=LK;rw[k];obtain⟨a0,m0,q0⟩:=b.k0;obtain⟨a1,m1,q1⟩:=b.k1;obtain⟨a2,m2,q2⟩:=b.k2;obtain⟨a3,m3,q3⟩:=b.k3;obtain⟨a4,m4,q4⟩:=b.k4;obtain⟨a5,m5,q5⟩:=b.k5;obtain⟨a6,m6,q6⟩:=b.k6;obtain⟨a7,m7,q7⟩:=b.k7;obtain⟨a8,m8,q8⟩:=b.k8;obtain⟨a9,m9,q9⟩:=b.k9;obtain⟨aw,mw,qw⟩:=b.kW;refine⟨_,ze (zr (i:=1) p (Xs Dn j) (hs:=KD j)) (ze (zr (i:=2) p (jk (zc (Yf T.isi m0 (pv 0)) (zc (Yf T.isi m1 (pv 0)) (zc (Yf T.isi m2 (pv 0)) zd))))) (ze (zr (i:=2) p (ye Yg (pv 2) (jk (zc (Yf T.isi m3 (pv 0)) (zc (Yf T.isi m4 (pv 0)) (zc (Yf T.isi m5 (pv 0)) zd)))))) (ze (zr (i:=2) p (ye Yg (pv 2) (jk (zc (Yf T.isi m6 (pv 0)) (zc (Yf T.isi m7 (pv 0)) (zc (Yf T.isi m8 (pv 0)) zd)))))) (ze (zr (i:=2) p (ye Yg (pv 2) (jk (zc (Yf T.isi m9 (pv 0)) zd)))) (ze (yj (PW.pt (Xr (zu Zy (Zi PySem.F.plainAttrs_list PySem.F.slot_list_count PySem.F.type_list_count Le (pv 2) (zc wr zd)) zg (yb _)) (Xr (xz (xu (Yf T.isi mw (pv 0)))) (Ye (xz (xu (Ho T.isi b.noVE D3 (pv 0)))))))) (zh (zt zo)) zy) (zh (zt (zp qg (pv 1) (Zi PySem.F.plainAttrs_list PySem.F.slot_list_index PySem.F.type_list_index Lf (pv 2) (zc wr zd)))))))))),?_⟩
 have d:=b.err;refine⟨λ_=>False,[],.lst yW,⟨λc hc=>hc.elim,λq hq=>by cases hq⟩,by kernel_rfl,λv0 H0 s0 i0=>?_⟩;obtain⟨l0,ys,rfl,g0,af⟩:=i0.off;have h:=s0 _ _ ha;refine⟨a,C,_,h,d,.inl ⟨a0,J,q0⟩,a,C,_,h,d,.inl ⟨a1,J,q1⟩,a,C,_,h,d,.inl ⟨a2,J,q2⟩,aI,λW bb=>?_⟩;have N:=zi.new bb (.lst [.bl (decide (0=i)),.bl (decide (1=i)),.bl (decide (2=i))]);have g1:upd H0 W (.lst [.bl (decide (0=i)),.bl (decide (1=i)),.bl (decide (2=i))]) W=some (.lst [.bl (decide (0=i)),.bl (decide (1=i)),.bl (decide (2=i))]):=zf;generalize upd H0 W (.lst [.bl (decide (0=i)),.bl (decide (1=i)),.bl (decide (2=i))])=H1 at N g1⊢;have g:=N _ _ h;refine⟨a,C,_,g,d,.inl ⟨a3,J,q3⟩,a,C,_,g,d,.inl ⟨a4,J,q4⟩,a,C,_,g,d,.inl ⟨a5,J,q5⟩,aI,λU ba=>?_⟩;have o:=zi.new ba (.lst [.bl (decide (3=i)),.bl (decide (4=i)),.bl (decide (5=i))]);have g2:upd H1 U (.lst [.bl (decide (3=i)),.bl (decide (4=i)),.bl (decide (5=i))]) U=some (.lst [.bl (decide (3=i)),.bl (decide (4=i)),.bl (decide (5=i))]):=zf;generalize upd H1 U (.lst [.bl (decide (3=i)),.bl (decide (4=i)),.bl (decide (5=i))])=H2 at o g2⊢;refine⟨W,U,_,_,J,J,o _ _ g1,g2,aI,λt aS=>?_⟩;have M:=zi.new aS (.lst ((kb i).take 6 |>.map V.bl));have g3:upd H2 t (.lst ((kb i).take 6 |>.map V.bl)) t=some (.lst ((kb i).take 6 |>.map V.bl)):=zf;generalize bg:upd H2 t (.lst ((kb i).take 6 |>.map V.bl))=H3 at M g3;have B:upd H2 t (.lst ([.bl (decide (0=i)),.bl (decide (1=i)),.bl (decide (2=i))]++[.bl (decide (3=i)),.bl (decide (4=i)),.bl (decide (5=i))]))=H3:=bg;rw[B];have e:=M _ _ (o _ _ g);refine⟨a,C,_,e,d,.inl ⟨a6,J,q6⟩,a,C,_,e,d,.inl ⟨a7,J,q7⟩,a,C,_,e,d,.inl ⟨a8,J,q8⟩,aI,λS ay=>?_⟩;have n:=zi.new ay (.lst [.bl (decide (6=i)),.bl (decide (7=i)),.bl (decide (8=i))]);have g4:upd H3 S (.lst [.bl (decide (6=i)),.bl (decide (7=i)),.bl (decide (8=i))]) S=some (.lst [.bl (decide (6=i)),.bl (decide (7=i)),.bl (decide (8=i))]):=zf;generalize upd H3 S (.lst [.bl (decide (6=i)),.bl (decide (7=i)),.bl (decide (8=i))])=H4 at n g4⊢;refine⟨t,S,_,_,J,J,n _ _ g3,g4,aI,λr av=>?_⟩;have L:=zi.new av (.lst ((kb i).take 9 |>.map V.bl));have g5:upd H4 r (.lst ((kb i).take 9 |>.map V.bl)) r=some (.lst ((kb i).take 9 |>.map V.bl)):=zf;generalize bd:upd H4 r (.lst ((kb i).take 9 |>.map V.bl))=H5 at L g5;have y:upd H4 r (.lst (((kb i).take 6 |>.map V.bl)++[.bl (decide (6=i)),.bl (decide (7=i)),.bl (decide (8=i))]))=H5:=bd;rw[y];have v:=L _ _ (n _ _ e);refine⟨a,C,_,v,d,.inl ⟨a9,J,q9⟩,aI,λR ap=>?_⟩;have m:=zi.new ap (.lst [.bl (decide (9=i))]);have g6:upd H5 R (.lst [.bl (decide (9=i))]) R=some (.lst [.bl (decide (9=i))]):=zf;generalize upd H5 R (.lst [.bl (decide (9=i))])=H6 at m g6⊢;refine⟨r,R,_,_,J,J,m _ _ g5,g6,aI,λl ah=>?_⟩;have G:=zi.new ah (.lst ((kb i).map V.bl));have F:upd H6 l (.lst ((kb i).map V.bl)) l=some (.lst ((kb i).map V.bl)):=zf;generalize bc:upd H6 l (.lst ((kb i).map V.bl))=H7 at G F;have x:upd H6 l (.lst (((kb i).take 9 |>.map V.bl)++[.bl (decide (9=i))]))=H7:=bc;rw[x];have u:=G _ _ (m _ _ v);have bh:=G _ _ (m _ _ (L _ _ (n _ _ (M _ _ (o _ _ (N _ _ g0))))));refine⟨.inl ⟨J,_,aM.of F⟩,l,kb i,J,J,F,J,_,J,?_⟩;rw[IE b.two];refine jy (λz=>absurd z (by simp)) (λ_=>?_);refine⟨a,C,_,u,d,.inl ⟨aw,J,qw⟩,_,J,yy ?_⟩;refine⟨a,C,_,u,d,.inr ⟨"ValueError",J,b.ve⟩,_,J,yy ?_⟩;have S7:=s0.trans (N.trans (o.trans (M.trans (n.trans (L.trans (m.trans G))))));exact⟨.inl ⟨J,_,aM.of F⟩,l,kb i,i,J,J,F,(zL b.two).1,(zL b.two).2,l0,ys,_,_,J,J,aM.of bh,GT b.two af,kk H7 S7⟩
end
noncomputable abbrev X2:Stmt:=aX 87
inductive oh(vs:List V)(H:Hp)(Q:VK)(e0:XK):Prop|mk:∀(kd:Str)(n i q:Nat),vs=[.str kd,.int (n:Int),.int (i:Int),.int (q:Int)]->K4 kd->i<n->n<=16->q<4->(∀v H',zi H H'->Is H' (.lst ((pW kd n i q).map eD)) v->Q v H')->oh vs H Q e0
theorem zi.none'{a:Hp}(s:zi H a)(h:a l=none):H l=none:=by cases z:H l with|none=>rfl|some o=>rw[s _ _ z]at h;cases h
section
variable{K:W.Frag}
theorem Cv:aA ["kind","n","i","q","found","k","far"] ["kind","n","i","q"] (zk X2):=.of
theorem Li(D:aY K mg "_law_aphase" X2)(T:Txt K mg):Ok P w K mg base "_law_aphase" 1 ["kind","n","i","q"] oh:=by
 refine qk D Cv ?_;rintro f a3 A ay s H vs Q E hr ⟨S,n,i,q,rfl,k4,hi,a2,hq,B⟩ X;have W:=Cv.nd;refine⟨_,ze (yj (zu wt (pv 0) zo (yb _)) (zh (zt (jk (zc (qd (zc zo (zc zg (zc zg zd)))) (zc (qd (zc zo (zc zg (zc (ye Zn (pv 1) (ye wb (pv 3) zg)) zd)))) zd))))) zy) (ze (yj (zu wt (pv 0) zo (yb _)) (zh (zt (ye Yg (jk (zc (qd (zc zo (zc (pv 2) (zc zg zd)))) zd)) (kf (own:=["j"]) (cap:=[3,2]) J (we (zk X2) J J (by decide+kernel) (by decide+kernel) (by decide+kernel) ⟨⟨_,J,.inl J,jw J⟩,⟨_,J,.inl J,jw J⟩,trivial⟩) (va J T.range (zc (pv 1) zd)) (λ_ _ _ _=>ya (i:=0) (by show(["j","q","i"]:O Str).Nodup;decide+kernel)) (λ_ _ _ _=>Yo (zu Zy (pv 0) (pv 2) (yb _))) (λ_ _ _ _=>qd (zc zo (zc (pv 0) (zc (ye wb (pv 1) zg) zd)))))))) zy)
  (ze (yj (zu wt (pv 0) zo (yb _)) (ze (zr (i:=4) W (ye Yg (kf (own:=["j"]) (cap:=[3,1]) J (we (zk X2) J J (by decide+kernel) (by decide+kernel) (by decide+kernel) ⟨⟨_,J,.inl J,jw J⟩,⟨_,J,.inl J,jw J⟩,trivial⟩) (Zk (qd (zc (ye wb (ye Zn zg (pv 2)) zg) (zc (ye wb (ye Zn zg (pv 2)) zg) zd)))) (λ_ _ _ _=>ya (i:=0) (by show(["j","q","n"]:O Str).Nodup;decide+kernel)) (λ_ _ _ _=>Yo (zu mI (pv 0) (pv 2) (yb _))) (λ_ _ _ _=>qd (zc zo (zc (pv 0) (zc (ye wb (pv 1) zg) zd)))))
    (jk (zc (qd (zc zo (zc (pv 2) (zc zg zd)))) zd))))
   (ze (yj (zu mO (pv 2) zg (yb _)) (zh (xl (Zi PySem.F.plainAttrs_list PySem.F.slot_list_append PySem.F.type_list_append vi (pv 4) (zc (qd (zc zo (zc zg (zc (ye wb (pv 3) zg) zd)))) zd)))) zy) (zh (zt (pv 4))))) zy)
  (ze (zr (i:=4) W (jk zd)) (ze (zr (i:=5) W zg) (ze (zr (i:=6) W zg) (ze (xH PassesOwn.never (zu mI (pv 6) (pv 1) (yb _)) (ze (zr (i:=4) W (ye Yg (pv 4) (jk (zc (qd (zc zo (zc (ye wb (ye Zn (pv 5) (pv 1)) (pv 2)) (zc zg zd)))) (zc (qd (zc zo (zc (ye wb (ye Zn (pv 5) (pv 1)) (ye Jj (ye Wb (pv 2) (pv 6)) (pv 1))) (zc (ye wb (pv 3) zg) zd)))) zd))))) (ze (zr (i:=5) W (ye wb (pv 5) zg)) (zh (zr (i:=6) W (ye Zn zg (pv 6)))))))
  (zh (zt (pv 4))))))))),?_⟩
 unfold pW at B;refine⟨J,_,J,jy (λc=>?_) (λc=>?_)⟩;have c:S="shared":=V.str.inj (c9 c);rw[if_pos c]at B;refine⟨aI,λb h1=>?_⟩;have t:=zi.new h1 (.tup [.str "raise",.int 0,.int 1]);have g1:upd H b (.tup [.str "raise",.int 0,.int 1]) b=some (.tup [.str "raise",.int 0,.int 1]):=zf;generalize upd H b (.tup [.str "raise",.int 0,.int 1])=H1 at t g1⊢;refine⟨_,_,J,J,_,_,J,J,lj (by omega) (by omega) (by omega) (by omega),aI,λg h2=>?_⟩;have L:=zi.new h2 (.tup [.str "await",.int 0,.int ((n:Int)*((q:Int)+1))]);have g2:upd H1 g (.tup [.str "await",.int 0,.int ((n:Int)*((q:Int)+1))]) g=some (.tup [.str "await",.int 0,.int ((n:Int)*((q:Int)+1))]):=zf;generalize upd H1 g (.tup [.str "await",.int 0,.int ((n:Int)*((q:Int)+1))])=H2 at L g2⊢;refine⟨aI,λl hl=>?_⟩;have v:=zi.new hl (.lst [.ref b,.ref g]);exact B _ _ (t.trans (L.trans v)) (qR zf ((qt (qh (Vu (L _ _ g1))) (qh (Xj g2))).mono v));have c0:¬S="shared":=λz=>c (by rw[z];exact bp J);rw[if_neg c0]at B;refine⟨J,_,J,jy (λc=>?_) (λc=>?_)⟩;have c:S="own":=V.str.inj (c9 c);rw[if_pos c]at B;refine⟨aI,λb h1=>?_⟩;have v:=zi.new h1 (.tup [.str "raise",.int (i:Int),.int 1]);have g3:upd H b (.tup [.str "raise",.int (i:Int),.int 1]) b=some (.tup [.str "raise",.int (i:Int),.int 1]):=zf;generalize upd H b (.tup [.str "raise",.int (i:Int),.int 1])=H3 at v g3⊢;refine⟨aI,λr F=>?_⟩;have G:=zi.new F (.lst [.ref b]);have g4:upd H3 r (.lst [.ref b]) r=some (.lst [.ref b]):=zf;generalize upd H3 r (.lst [.ref b])=H4 at G g4⊢;refine⟨_,J,by omega,by omega,?_⟩;refine Yj (lo:=0) (n:=(n:Int).toNat) (λj d u=>zi H4 u/\IsL u (((List.range j).filter λz=>decide (z≠i)).map λz:Nat=>eD (.awa (z:Int) ((q:Int)+1))) d) ⟨zi.refl H4,J⟩ (λj d u hj ⟨_,e⟩=>?_) ?_ ?_;have e:=e.length;rw[ag]at e;have:=fc (λz=>decide (z≠i)) (List.range j);rw[ei]at this;rw[cj]at hj;exact xk (by omega);rintro j d N hj ⟨s5,e⟩;refine⟨J,_,J,jy (λz=>?_) (λz=>?_)⟩;have z:j≠i:=λe=>by rw[e,dq]at z;simp at z
 refine⟨_,_,J,J,aI,λp hp=>?_⟩;rw[dq];have h:=zi.new hp (.tup [.str "await",.int (j:Int),.int ((q:Int)+1)]);refine⟨s5.trans h,?_⟩;rw[BC,if_pos z,aq];exact qt (e.mono h) (qh (Xj zf));have z:j=i:=Classical.byContradiction λe=>z (by have:V.int (0+(j:Int))≠V.int (i:Int):=λy=>e (by have:=V.int.inj y;omega);rw[cf this];rfl)
 refine⟨s5,?_⟩;rw[BC,if_neg (λy=>y z),cm];exact e;rintro d N ⟨s5,e⟩ o C;rw[cj,show((List.range n).filter λz=>decide (z≠i))=oy n i from rfl]at e;have h:=zi.new C (.lst d);have g6:upd N o (.lst d) o=some (.lst d):=zf;generalize upd N o (.lst d)=H6 at h g6⊢;have el:=e.length;rw[ag]at el;have ol:=Hm n i;refine⟨r,o,_,_,J,J,h _ _ (s5 _ _ g4),g6,(by show 1+d.length<=sizeLine;exact xk (by omega)),λZ M=>?_⟩;have R:=zi.new M (.lst ([.ref b]++d));refine B _ _ (v.trans (G.trans (s5.trans (h.trans R)))) (qR zf ?_);have:=qt (qh (Vu (h _ _ (s5 _ _ (G _ _ g3))))) (e.mono h);have e2:(tK n i q).map eD=[eD (.rai (i:Int) 1)]++(oy n i).map λz:Nat=>eD (.awa (z:Int) ((q:Int)+1)):=by unfold tK;rw[c8,bv];rfl
 rw[e2];exact this.mono R;have c1:¬S="own":=λz=>c (by rw[z];exact bp J);rw[if_neg c1]at B;refine⟨J,_,J,jy (λc=>?_) (λc=>?_)⟩;have c:S="tree":=V.str.inj (c9 c);have c2:¬S="spread":=λz=>by rw[c]at z;exact absurd z (by decide)
 rw[if_neg c2]at B;refine⟨_,_,J,J,lj (by omega) (by omega) (by omega) (by omega),_,_,J,J,_,_,J,J,lj (by omega) (by omega) (by omega) (by omega),_,_,J,J,aI,λp0 h0=>?_⟩;have s0:=zi.new h0 (.tup [.int (2*(i:Int)+1),.int (2*(i:Int)+2)]);have g0:upd H p0 (.tup [.int (2*(i:Int)+1),.int (2*(i:Int)+2)]) p0=some (.tup [.int (2*(i:Int)+1),.int (2*(i:Int)+2)]):=zf;generalize upd H p0 (.tup [.int (2*(i:Int)+1),.int (2*(i:Int)+2)])=H0 at s0 g0⊢;refine⟨p0,J,⟨_,aG.of g0⟩,?_⟩;refine Wg (xs:=[.int (2*(i:Int)+1),.int (2*(i:Int)+2)]) (λj d u=>zi H0 u/\IsL u (((([2*i+1,2*i+2]:O Nat).take j).filter λz=>decide (z<n)).map λz:Nat=>eD (.awa (z:Int) ((q:Int)+1))) d) ⟨zi.refl H0,J⟩ (λj d u hj ⟨s',e⟩=>⟨aG.of (s' _ _ g0),?_⟩) ?_ ?_;have e:=e.length;rw[ag]at e;have:=fc (λz=>decide (z<n)) (([2*i+1,2*i+2]:O Nat).take j);rw[bu]at this;have t2:([2*i+1,2*i+2]:O Nat).length=2:=rfl;exact xk (by omega);rintro j x d u hx ⟨t,e⟩;obtain⟨z,hz,rfl⟩:∃z:Nat,([2*i+1,2*i+2]:O Nat)[j]?=some z/\x=V.int (z:Int):=by match j,hx with|0,hx=>cases hx;exact⟨_,J,by congr 1⟩|1,hx=>cases hx;exact⟨_,J,by congr 1⟩
 refine⟨_,_,J,J,_,J,jy (λc=>?_) (λc=>?_)⟩;have c:z<n:=by have:=c9 c;omega
 refine⟨_,_,J,J,aI,λp hp=>?_⟩;have h:=zi.new hp (.tup [.str "await",.int (z:Int),.int ((q:Int)+1)]);refine⟨t.trans h,?_⟩;rw[List.take_succ,hz,List.filter_append,aq];show IsL _ (_++List.map _ (List.filter _ [z])) _;rw[List.filter_cons,if_pos (bp c)];exact qt (e.mono h) (qh (Xj zf));have c:¬z<n:=λy=>c (bp (by omega));refine⟨t,?_⟩;rw[List.take_succ,hz,List.filter_append,aq];show IsL _ (_++List.map _ (List.filter _ [z])) _;rw[List.filter_cons,if_neg (by rw[cf c];exact c7),List.filter_nil,List.map_nil,cm];exact e;rintro d N ⟨t,e⟩ o C;rw[show((([2*i+1,2*i+2]:O Nat).take ([.int (2*(i:Int)+1),.int (2*(i:Int)+2)]:O V).length).filter λz=>decide (z<n))=rH n i from rfl]at e;have ol:=AB n i;have h:=zi.new C (.lst d);have g6:upd N o (.lst d) o=some (.lst d):=zf;generalize upd N o (.lst d)=H6 at h g6⊢;have el:=e.length;rw[ag]at el;refine⟨aI,λb h1=>?_⟩;have R:=zi.new h1 (.tup [.str "raise",.int (i:Int),.int 1]);have g7:upd H6 b (.tup [.str "raise",.int (i:Int),.int 1]) b=some (.tup [.str "raise",.int (i:Int),.int 1]):=zf;generalize upd H6 b (.tup [.str "raise",.int (i:Int),.int 1])=H7 at R g7⊢;refine⟨aI,λr F=>?_⟩;have s8:=zi.new F (.lst [.ref b]);have g8:upd H7 r (.lst [.ref b]) r=some (.lst [.ref b]):=zf;generalize upd H7 r (.lst [.ref b])=H8 at s8 g8⊢;refine⟨o,r,_,_,J,J,s8 _ _ (R _ _ g6),g8,(xk (by show d.length+1<=1000;omega)),λZ M=>?_⟩;have ap:H Z=none:=zi.none' (s0.trans (t.trans (h.trans (R.trans s8)))) M;have s9:=zi.new M (.lst (d++[.ref b]));have g9:upd H8 Z (.lst (d++[.ref b])) Z=some (.lst (d++[.ref b])):=zf;generalize upd H8 Z (.lst (d++[.ref b]))=H9 at s9 g9⊢;have S9:zi H H9:=s0.trans (t.trans (h.trans (R.trans (s8.trans s9))));have i9:IsL H9 (((rH n i).map (λz:Nat=>aD.awa (z:Int) ((q:Int)+1))++[aD.rai (i:Int) 1]).map eD) (d++[.ref b]):=by rw[aq,bv];exact qt (e.mono (h.trans (R.trans (s8.trans s9)))) (qh (Vu (s9 _ _ (s8 _ _ g7))))
 have G9:Gr H H9 Z _ _:=⟨S9,g9,i9⟩
 refine⟨_,_,J,J,_,J,jy (λc=>?_) (λc=>?_)⟩;have c:¬i=0:=by have:=c9 c;omega
 refine⟨.inl ⟨J,_,aM.of g9⟩,_,_,J,J,aI,λp4 h4=>?_⟩;have U:=zi.new h4 (.tup [.str "await",.int 0,.int ((q:Int)+1)]);have aw:upd H9 p4 (.tup [.str "await",.int 0,.int ((q:Int)+1)]) p4=some (.tup [.str "await",.int 0,.int ((q:Int)+1)]):=zf;generalize upd H9 p4 (.tup [.str "await",.int 0,.int ((q:Int)+1)])=a4 at U aw⊢;refine⟨Z,_,_,J,J,U _ _ g9,Ya (by rw[az];show d.length+1<1000;omega),?_⟩;have ah:=G9.app ap U (Xj aw);refine(B _ _ ah.same (qR ah.at' ?_));unfold tF;rw[if_neg c];exact ah.it;have c:i=0:=Classical.byContradiction λz=>c (bp (by omega));refine(B _ _ S9 (qR g9 ?_));unfold tF;rw[if_pos c,cm];exact i9;have c2:S="spread":=by rcases k4 with z|z|z|z;exact absurd z c0;exact absurd z c1;exact z;exact absurd (by rw[z];exact bp J) c
 rw[if_pos c2]at B;refine⟨aI,λl hl=>?_⟩;have s0:=zi.new hl (.lst []);have g0:upd H l (.lst []) l=some (.lst []):=zf;generalize upd H l (.lst [])=H0 at s0 g0⊢;refine⟨λm σ u=>∃(k a:Nat)(l:Y)(ds:O aD)(d:O V),zi H u/\u l=some (.lst d)/\IsL u (ds.map eD) d/\ds++mT n i q m k a=xY n i q/\n<=a*2^m/\a<=32/\m+k=5/\ds.length=2*k/\σ=[some (.str S),some (.int (n:Int)),some (.int (i:Int)),some (.int (q:Int)),some (.ref l),some (.int (k:Int)),some (.int (a:Int))],⟨5,0,1,l,[],[],s0,g0,J,J,by omega,by omega,J,J,by simp[L2.start]⟩,?_⟩
 rintro m σ H1 ⟨k,a,l,ds,d,S1,av,af,e1,hn,a1,hm,hd,rfl⟩;refine⟨_,_,J,J,_,J,jy (λc=>?_) (λc=>?_)⟩;have c:a<n:=by have:=c9 c;omega
 obtain⟨m,rfl⟩:∃m',m=m'+1:=by cases m with|zero=>rw[Nat.pow_zero,Nat.mul_one]at hn;omega|succ m=>exact⟨m,J⟩
 refine⟨_,λaS u z=>⟨m,by omega,z⟩,?_⟩;have yl:=af.length;rw[ag]at yl;have e4:(k:Int)*(n:Int)+(i:Int)=((k*n+i:Nat):Int):=by rw[Int.natCast_add,Int.natCast_mul]
 have e5:(k:Int)*(n:Int)+((i:Int)-(a:Int))%(n:Int)=((k*n+(i+n-a)%n:Nat):Int):=by rw[jM c,Int.natCast_add,Int.natCast_mul]
 refine⟨_,_,J,J,lj (by omega) (by omega) (by omega) (by omega),_,_,J,J,aI,λb h1=>?_⟩;have t:=zi.new h1 (.tup [.str "raise",.int ((k:Int)*(n:Int)+(i:Int)),.int 1]);have g1:upd H1 b (.tup [.str "raise",.int ((k:Int)*(n:Int)+(i:Int)),.int 1]) b=some (.tup [.str "raise",.int ((k:Int)*(n:Int)+(i:Int)),.int 1]):=zf;generalize upd H1 b (.tup [.str "raise",.int ((k:Int)*(n:Int)+(i:Int)),.int 1])=H2 at t g1⊢;refine⟨_,_,J,J,lj (by omega) (by omega) (by omega) (by omega),_,_,J,J,_,_,J,J,(by omega),_,_,J,J,_,_,J,J,aI,λg h2=>?_⟩;have L:=zi.new h2 (.tup [.str "await",.int ((k:Int)*(n:Int)+((i:Int)-(a:Int))%(n:Int)),.int ((q:Int)+1)]);have g2:upd H2 g (.tup [.str "await",.int ((k:Int)*(n:Int)+((i:Int)-(a:Int))%(n:Int)),.int ((q:Int)+1)]) g=some (.tup [.str "await",.int ((k:Int)*(n:Int)+((i:Int)-(a:Int))%(n:Int)),.int ((q:Int)+1)]):=zf;generalize upd H2 g (.tup [.str "await",.int ((k:Int)*(n:Int)+((i:Int)-(a:Int))%(n:Int)),.int ((q:Int)+1)])=H3 at L g2⊢;refine⟨aI,λr F=>?_⟩;have v:=zi.new F (.lst [.ref b,.ref g]);have g3:upd H3 r (.lst [.ref b,.ref g]) r=some (.lst [.ref b,.ref g]):=zf;generalize upd H3 r (.lst [.ref b,.ref g])=H4 at v g3⊢;refine⟨l,r,_,_,J,J,v _ _ (L _ _ (t _ _ av)),g3,xk (by show d.length+2<=1000;omega),λo C=>?_⟩;have G:=zi.new C (.lst (d++[.ref b,.ref g]));have g4:upd H4 o (.lst (d++[.ref b,.ref g])) o=some (.lst (d++[.ref b,.ref g])):=zf;generalize upd H4 o (.lst (d++[.ref b,.ref g]))=N at G g4⊢;have r1:Is N (eD (.rai ((k*n+i:Nat):Int) 1)) (.ref b):=Vu (by rw[<-e4];exact G _ _ (v _ _ (L _ _ g1)));have r2:Is N (eD (.awa ((k*n+(i+n-a)%n:Nat):Int) ((q:Int)+1))) (.ref g):=Xj (by rw[<-e5];exact G _ _ (v _ _ g2));refine⟨_,_,J,J,_,_,J,J,lj (by omega) (by omega) (by omega) (by omega),?_⟩;refine⟨k+1,2*a,o,ds++[.rai ((k*n+i:Nat):Int) 1,.awa ((k*n+(i+n-a)%n:Nat):Int) ((q:Int)+1)],_,S1.trans (t.trans (L.trans (v.trans G))),g4,?_,?_,?_,by omega,by omega,?_,?_⟩;rw[aq];exact qt (af.mono (t.trans (L.trans (v.trans G)))) (qt (qh r1) (qh r2));rw[<-e1,List.append_assoc];congr 1;show _=(if a<n then _ else _);rw[if_pos c];rfl;rw[Nat.pow_succ]at hn;rw[Nat.mul_comm 2 a,Nat.mul_assoc,Nat.mul_comm 2];exact hn;rw[az,hd];show 2*k+2=2*(k+1);omega;have e6:(k:Int)+1=((k+1:Nat):Int):=by omega
 have e7:2*(a:Int)=((2*a:Nat):Int):=by omega
 rw[<-e6,<-e7];rfl;have c:n<=a:=Classical.byContradiction λz=>c (bp (by omega));rw[Ix c,cm]at e1;subst e1;exact(B _ _ S1 (qR av af))
end
noncomputable abbrev Ks:Stmt:=aX 88
structure Gw(H0 H:Hp)(l:Addr)(ts:List T)(ys:List V):Prop where
 same:zi H0 H
 at':H l=some (.lst ys)
 it:IsL H ts ys
theorem Gw.app{t:T}(h:H0 l=none)(g:Gw H0 H l ts ys)(d:qu ts)(c:bY t)(s:zi H H1)(i:Is H1 t v):Gw H0 (upd H1 l (.lst (ys++[v]))) l (ts++[t]) (ys++[v]):=by
 have a:yo H1 (upd H1 l (.lst (ys++[v]))):=λb f e=>by rw[upd_ne (λz=>by rw[z,s _ _ g.at']at e;cases e)];exact e
 refine⟨λb o e=>?_,zf,?_⟩;rw[upd_ne (λz=>by simp_all)];exact s _ _ (g.same _ _ e);exact qt (IsL.tups a d (g.it.mono s)) (qh (Is.tups a c i))
theorem dJ{a:Hp}{p:Y}{o:HO}(h:H p=none)(s:zi H a):zi H (upd a p o):=λb u e=>by rw[upd_ne (λz=>by simp_all)];exact s b u e
theorem HG:∀n:Fin 17,1<=n.val->lb n.val 5 1=bt n.val:=by decide+kernel
theorem Gc{n:Nat}(a:1<=n)(h:n<=16):lb n 5 1=bt n:=HG ⟨n,by omega⟩ a
theorem HH{n:Nat}:∀{f a:Nat},n<=a->lb n f a=0|0,_,_=>rfl|f+1,a,h=>by unfold lb;rw[if_neg (by omega)]
inductive oj(vs:List V)(H:Hp)(Q:VK)(e0:XK):Prop|mk:∀(kd:Str)(n p:Nat),vs=[.str kd,.int (n:Int),.int (p:Int)]->K4 kd->1<=n->n<=16->p<=4->(∀v H',zi H H'->Is H' (eH (hk kd n p)) v->Q v H')->oj vs H Q e0
noncomputable def pT(n r:Int):List (aK×V):=[(Sum.inr "shared",.int 1),(Sum.inr "own",.int n),(Sum.inr "tree",.int n),(Sum.inr "spread",.int (n*r))]
theorem ER{n r:Nat}(a:K4 kd)(b:r=bt n):xa (Xf [] (pT (n:Int) (r:Int))) (Sum.inr kd:aK)=some (.int (mj kd n)):=by
 subst b;have e:Xf [] (pT n (bt n))=pT n (bt n):=by rfl
 rw[e];rcases a with rfl|rfl|rfl|rfl<;>rfl
section
variable{K:W.Frag}
theorem Cd:aA ["kind","n","p","scripts","i","script","q","rounds","far","boxes"] ["kind","n","p"] (zk Ks):=.of
theorem IS(D:aY K mg "_law_amade" Ks)(T:Txt K mg)(o1:Ok P w K mg base "_law_aphase" 1 ["kind","n","i","q"] oh):Ok P w K mg base "_law_amade" 2 ["kind","n","p"] oj:=by
 refine qk D Cd ?_;rintro f bg A a2 s H vs Q E hr ⟨d,n,p,rfl,k4,h1,C,h4,kk⟩ X;have M:=Cd.nd;have hu:=Z0 hr;refine⟨_,ze (zr (i:=3) M (jk zd)) (ze (w9 PassesOwn.never J (va J T.range (zc (pv 1) zd)) (ya (i:=4) M) (ze (zr (i:=5) M (jk zd)) (ze (w9 PassesOwn.never J (va J T.range (zc (pv 2) zd)) (ya (i:=6) M) (zh (zr (i:=5) M (ye Yg (ye Yg (ye Yg (pv 5) (jk (zc (qd (zc zo (zc zo zd))) zd))) (yc o1 hr (zc (pv 0) (zc (pv 1) (zc (pv 4) (zc (pv 6) zd)))))) (jk (zc (qd (zc zo (zc zo zd))) zd))))))
   (zh (xl (Zi PySem.F.plainAttrs_list PySem.F.slot_list_append PySem.F.type_list_append vi (pv 3) (zc (vz Zu J T.tuple Y5 (zc (pv 5) zd)) zd)))))))
  (ze (zr (i:=7) M zg) (ze (zr (i:=8) M zg) (ze (xH PassesOwn.never (zu mI (pv 8) (pv 1) (yb _)) (ze (zr (i:=7) M (ye wb (pv 7) zg)) (zh (zr (i:=8) M (ye Zn zg (pv 8)))))) (ze (zr (i:=9) M (v6 hu (Hn (Qf zo zg (Qf zo (pv 1) (Qf zo (pv 1) (Qf zo (ye Zn (pv 1) (pv 7)) Hx)))) J J (by simp) (by decide)) (pv 0))) (zh (zt (qd (zc (pv 9) (zc zg (zc (vz Zu J T.tuple Y5 (zc (kf (own:=["i"]) (cap:=[]) J (we (zk Ks) J J (by decide+kernel) (by decide+kernel) (by decide+kernel) trivial) (va J T.range (zc (pv 1) zd)) (λ_ _ _ _=>ya (i:=0) (by show(["i"]:O Str).Nodup;decide+kernel)) (λ_ _ _ _=>qr) (λ_ _ _ _=>qd (zc (pv 0) (zc (qd zd) zd)))) zd))
   (zc (vz Zu J T.tuple Y5 (zc (pv 3) zd)) zd)))))))))))),?_⟩
 refine⟨aI,λl hl=>?_⟩;have G0:Gw H (upd H l (.lst [])) l [] []:=⟨zi.new hl _,zf,J⟩
 generalize upd H l (.lst [])=H0 at G0⊢;refine⟨_,J,by omega,by omega,?_⟩;let bb:Nat->L2.St->Hp->Prop:=λj L k=>∃o x4 x5 x6,Gw H k l ((List.range j).map λi=>eS (eI d n i p)) o/\L=[some (.str d),some (.int (n:Int)),some (.int (p:Int)),some (.ref l),x4,x5,x6,none,none,none];refine ko (lo:=0) (n:=(n:Int).toNat) bb ⟨[],none,none,none,G0,J⟩ ?_ ?_;rintro j L H1 S ⟨o,x4,x5,x6,G1,rfl⟩;have S:j<n:=by rw[cj]at S;exact S
 rw[dq];refine⟨aI,λm hm=>?_⟩;have s1:=zi.new hm (.lst []);have g1:upd H1 m (.lst []) m=some (.lst []):=zf;generalize upd H1 m (.lst [])=H2 at s1 g1⊢;refine⟨_,J,by omega,by omega,?_⟩;let ba:Nat->L2.St->Hp->Prop:=λq L k=>∃(m:Y)(a:O V)(x6:Option V),zi H2 k/\k m=some (.lst a)/\IsL k ((eI d n j q).map eD) a/\L=[some (.str d),some (.int (n:Int)),some (.int (p:Int)),some (.ref l),some (.int (j:Int)),some (.ref m),x6,none,none,none];refine ko (lo:=0) (n:=(p:Int).toNat) ba ⟨m,[],x6,zi.refl H2,g1,J,J⟩ ?_ ?_;rintro q L G hq ⟨m,a,y6,s3,g3,i3,rfl⟩;have hq:q<p:=by rw[cj]at hq;exact hq
 rw[dq];have zl:=i3.length;rw[ag]at zl;have dl:=AF (kd:=d) S C q;have pl:=AE (kd:=d) (q:=q) S C;refine⟨aI,λh a7=>?_⟩;have g:=zi.new a7 (.tup [.str "say",.str "come"]);have F:upd G h (.tup [.str "say",.str "come"]) h=some (.tup [.str "say",.str "come"]):=zf;generalize upd G h (.tup [.str "say",.str "come"])=H4 at g F⊢;refine⟨aI,λR aw=>?_⟩;have u:=zi.new aw (.lst [.ref h]);have g5:upd H4 R (.lst [.ref h]) R=some (.lst [.ref h]):=zf;generalize upd H4 R (.lst [.ref h])=H5 at u g5⊢;refine⟨m,R,_,_,J,J,u _ _ (g _ _ g3),g5,xk (by show a.length+1<=1000;omega),λB av=>?_⟩;have s6:=zi.new av (.lst (a++[.ref h]));have g6:upd H5 B (.lst (a++[.ref h])) B=some (.lst (a++[.ref h])):=zf;generalize upd H5 B (.lst (a++[.ref h]))=H6 at s6 g6⊢;refine⟨d,n,j,q,J,k4,S,C,by omega,λv H7 s7 i7=>?_⟩;obtain⟨l3,U,rfl,g7,i7⟩:=i7;have ul:=i7.length;rw[ag]at ul;refine⟨B,l3,_,_,J,J,s7 _ _ g6,g7,xk (by rw[az];show a.length+1+U.length<=1000;omega),λy ap=>?_⟩;have Z:=zi.new ap (.lst (a++[.ref h]++U));have g8:upd H7 y (.lst (a++[.ref h]++U)) y=some (.lst (a++[.ref h]++U)):=zf;generalize upd H7 y (.lst (a++[.ref h]++U))=H8 at Z g8⊢;refine⟨aI,λN h2=>?_⟩;have W:=zi.new h2 (.tup [.str "say",.str "go"]);have g9:upd H8 N (.tup [.str "say",.str "go"]) N=some (.tup [.str "say",.str "go"]):=zf;generalize upd H8 N (.tup [.str "say",.str "go"])=H9 at W g9⊢;refine⟨aI,λl5 ah=>?_⟩;have x:=zi.new ah (.lst [.ref N]);have a1:upd H9 l5 (.lst [.ref N]) l5=some (.lst [.ref N]):=zf;generalize upd H9 l5 (.lst [.ref N])=bh at x a1⊢;refine⟨y,l5,_,_,J,J,x _ _ (W _ _ g8),a1,xk (by rw[az,az];show a.length+1+U.length+1<=1000;omega),λl6 a6=>?_⟩;have af:=zi.new a6 (.lst (a++[.ref h]++U++[.ref N]));refine⟨l6,a++[.ref h]++U++[.ref N],_,s3.trans (g.trans (u.trans (s6.trans (s7.trans (Z.trans (W.trans (x.trans af))))))),zf,?_,J⟩;rw[Bq,show eI d n j q++one d n j q=eI d n j q++[.say "come"]++pW d n j q++[.say "go"] by unfold one;simp,aq,aq,aq];have S7:=Z.trans (W.trans (x.trans af));exact qt (qt (qt (i3.mono (g.trans (u.trans (s6.trans (s7.trans S7))))) (qh (Jo (S7 _ _ (s7 _ _ (s6 _ _ (u _ _ F))))))) (i7.mono S7)) (qh (Jo (af _ _ (x _ _ g9))));rintro L G ⟨m,a,y6,s3,g3,i3,rfl⟩;rw[cj]at i3;have yl:=G1.it.length;rw[ag,ei]at yl;have aS:=s3 _ _ (s1 _ _ G1.at');refine⟨.inl ⟨J,_,aM.of aS⟩,m,a,J,.inl ⟨aM.of g3,λt1 a3=>?_⟩⟩;have g:=zi.new a3 (.tup a);have F:upd G t1 (.tup a) t1=some (.tup a):=zf;generalize upd G t1 (.tup a)=H4 at g F⊢;refine⟨l,o,_,J,J,g _ _ aS,Ya (by omega),?_⟩;have fr:qu ((List.range j).map λi=>eS (eI d n i p)):=by rw[qu.all];intro t ht;obtain⟨i,_,rfl⟩:=bz.mp ht;exact bY.deeds _
 have G2:=G1.app (t:=eS (eI d n j p)) hl fr (bY.deeds _) (s1.trans (s3.trans g)) ⟨t1,a,J,F,i3.mono g⟩;refine⟨o++[.ref t1],_,_,_,?_,J⟩;rw[NB];exact G2;rintro L H1 ⟨o,x4,x5,x6,G1,rfl⟩;rw[cj]at G1;refine⟨λm L k=>k=H1/\∃r b:Nat,r+lb n m b=lb n 5 1/\n<=b*2^m/\b<=32/\L=[some (.str d),some (.int (n:Int)),some (.int (p:Int)),some (.ref l),x4,x5,x6,some (.int (r:Int)),some (.int (b:Int)),none],⟨5,J,0,1,by omega,by omega,by omega,J⟩,?_⟩;rintro m L k ⟨rfl,r,b,e1,hn,bd,rfl⟩;refine⟨_,_,J,J,_,J,jy (λc=>?_) (λc=>?_)⟩;have c:b<n:=by have:=c9 c;omega
 obtain⟨m,rfl⟩:∃m',m=m'+1:=by cases m with|zero=>rw[Nat.pow_zero,Nat.mul_one]at hn;omega|succ m=>exact⟨m,J⟩
 refine⟨_,λbc k z=>⟨m,by omega,z⟩,?_⟩;refine⟨_,_,J,J,_,_,J,J,lj (by omega) (by omega) (by omega) (by omega),?_⟩;refine⟨J,r+1,2*b,?_,?_,by omega,?_⟩;have:lb n (m+1) b=lb n m (2*b)+1:=by show(if b<n then _ else _)=_;rw[if_pos c]
 omega;rw[Nat.pow_succ]at hn;rw[Nat.mul_comm 2 b,Nat.mul_assoc,Nat.mul_comm 2];exact hn;have e6:(r:Int)+1=((r+1:Nat):Int):=by omega
 have e7:2*(b:Int)=((2*b:Nat):Int):=by omega
 rw[<-e6,<-e7];rfl;have c:n<=b:=Classical.byContradiction λz=>c (bp (by omega));rw[HH c,Nat.add_zero]at e1;have er:r=bt n:=by rw[e1];exact Gc h1 C
 have rb:=zG C;intro p0 ay;have t0:=zi.new ay (.dK []);refine⟨_,_,J,J,lj (by omega) (by omega) (by omega) (by omega),zf,pT (n:Int) (r:Int),J,aI,p0,.int (mj d n),J,.inl ⟨_,Sum.inr d,.inl zf,J,(ER k4 er).symm⟩,?_⟩;have s2:zi k (upd (upd k p0 (.dK [])) p0 (.dK (Xf [] (pT (n:Int) (r:Int))))):=dJ ay t0;generalize upd (upd k p0 (.dK [])) p0 (.dK (Xf [] (pT (n:Int) (r:Int))))=H2 at s2⊢;refine⟨_,J,by omega,by omega,?_⟩;let a9:Nat->O V->Hp->Prop:=λj o k=>zi H2 k/\IsL k ((List.range j).map λi=>eC ((i:Nat),([]:O jK))) o;refine Yj (lo:=0) (n:=(n:Int).toNat) a9 ⟨zi.refl H2,J⟩ (λj o k S ⟨_,e⟩=>?_) ?_ ?_;have:=e.length;rw[ag,ei]at this;rw[cj]at S;exact xk (by omega);rintro j o G S ⟨s3,e⟩;refine kB ?_;refine⟨aI,λq1 a5=>?_⟩;have g:=zi.new a5 (.tup []);have F:upd G q1 (.tup []) q1=some (.tup []):=zf;generalize upd G q1 (.tup [])=H4 at g F⊢;refine⟨aI,λq2 a4=>?_⟩;rw[dq];have u:=zi.new a4 (.tup [.int (j:Int),.ref q1]);refine⟨s3.trans (g.trans u),?_⟩;rw[Nm];exact qt (e.mono (g.trans u)) (qh ⟨q2,_,J,zf,_,_,J,J,_,_,J,⟨q1,[],J,u _ _ F,J⟩,J⟩);rintro a G ⟨s3,e3⟩ R aw;rw[cj]at e3;have g:=zi.new aw (.lst a);have F:upd G R (.lst a) R=some (.lst a):=zf;generalize upd G R (.lst a)=H4 at g F⊢;refine⟨R,_,J,.inl ⟨aM.of F,λB av=>?_⟩⟩;have u:=zi.new av (.tup a);have g5:upd H4 B (.tup a) B=some (.tup a):=zf;generalize upd H4 B (.tup a)=H5 at u g5⊢;have i5:Is H5 (.tup ((hk d n p).fs.map eC)) (.ref B):=⟨B,a,J,g5,by show IsL H5 (((List.range n).map λi=>((i:Nat),([]:O jK))).map eC) a;rw[bv];exact e3.mono (g.trans u)⟩
 have S5:zi k H5:=s2.trans (s3.trans (g.trans u));have a8:=S5 _ _ G1.at';refine⟨l,o,J,.inl ⟨aM.of a8,λy ap=>?_⟩⟩;have Z:=zi.new ap (.tup o);have g8:upd H5 y (.tup o) y=some (.tup o):=zf;generalize upd H5 y (.tup o)=H8 at Z g8⊢;have i8:Is H8 (.tup ((hk d n p).ss.map eS)) (.ref y):=⟨y,o,J,g8,by show IsL H8 (((List.range n).map λi=>eI d n i p).map eS) o;rw[bv];exact G1.it.mono (S5.trans Z)⟩
 refine⟨aI,λl5 ah=>?_⟩;have W:=zi.new ah (.tup [.int (mj d n),.int 0,.ref B,.ref y]);exact kk _ _ (G1.same.trans (S5.trans (Z.trans W))) ⟨l5,_,J,zf,_,_,J,J,_,_,J,J,_,_,J,i5.mono (Z.trans W),_,_,J,i8.mono W,J⟩
end
noncomputable def eK:List Str:=["come","go","ok","comes","a"]
def jI(b:Int)(i n:Nat):aD->Prop|.rai x k=>0<=x/\x<b/\1<=k/\k<=99|.awa x m=>0<=x/\x<b/\1<=m/\m<=9999|.say x=>x∈eK|.wor x=>0<=x/\x<=999|.beg j F=>F=[]/\i<j/\j<n|_=>False
structure aO(h:aB):Prop where
 b0:0<=h.b
 b99:h.b<=99
 w0:h.w=0
 n1:1<=h.ss.length
 n20:h.ss.length<=20
 f1:1<=h.fs.length
 f17:h.fs.length<=17
 call:∀c∈h.fs,c.1<h.ss.length/\c.2=[]
 sc:∀(i:Nat) s,h.ss[i]?=some s->s.length<=30/\∀d∈s,jI h.b i h.ss.length d
 kid:∀s∈h.ss,(wj aH s).length<=1/\∀j∈wj aH s,wj aH (h.ss.getD j [])=[]
theorem V1:∀x∈eK,so (.str x)=true/\x.length<=1000/\PyData.strOk x=true:=by intro x hx;simp only[eK,ak,List.not_mem_nil,or_false]at hx;rcases hx with rfl|rfl|rfl|rfl|rfl<;>exact⟨by rfl,by decide+kernel,by decide+kernel⟩
theorem JG{d:aD}{n:Nat}(a:jI b i n d):Ve (eD d) (i:Int) b 0 n=true:=by cases d with| rai x k=>obtain⟨c,g,f,e⟩:=a;show(yk (.int x) 0 (b-1) && yk (.int k) 1 99)=true;rw[jm c (by omega),jm f e];rfl| awa x m=>obtain⟨c,g,f,e⟩:=a;show(yk (.int x) 0 (b-1) && yk (.int m) 1 9999)=true;rw[jm c (by omega),jm f e];rfl| say x=>exact(V1 x a).1|com x=>exact a.elim|goo x=>exact a.elim|lea x=>exact a.elim| beg j h=>obtain⟨rfl,c,g⟩:=a;show(yk (.int j) (i+1) (n-1) && Y2 (mi []) 0)=true;rw[jm (by omega) (by omega)];rfl|wor x=>exact jm a.1 a.2
theorem FI{d:aD}{n:Nat}(a:jI b i n d):Sh (eD d):=by cases d with|rai x k=>exact⟨(show(Str.ofString "raise").length<=1000 by decide+kernel),trivial,trivial,trivial⟩|awa x m=>exact⟨(show(Str.ofString "await").length<=1000 by decide+kernel),trivial,trivial,trivial⟩|say x=>exact⟨(show(Str.ofString "say").length<=1000 by decide+kernel),(V1 x a).2.1,trivial⟩|com x=>exact a.elim|goo x=>exact a.elim|lea x=>exact a.elim| beg j c=>obtain⟨rfl,f,e⟩:=a;exact⟨(show(Str.ofString "begin").length<=1000 by decide+kernel),trivial,trivial,trivial⟩|wor x=>exact⟨(show(Str.ofString "work").length<=1000 by decide+kernel),trivial,trivial⟩
section
variable{h:aB}
theorem aO.later(S:aO h):Kf h.ss:=λi s a j c b=>by obtain⟨_,e,d⟩:=(S.sc i s a).2 _ b;omega
theorem aO.len(S:aO h)(i:Nat):(h.ss.getD i []).length<=30:=by rw[di];cases e:h.ss[i]? with|none=>simp|some s=>exact(S.sc i s e).1
theorem aO.cnt0(S:aO h)(f j:Nat)(hk:wj aH (h.ss.getD j [])=[]):(Yu aH h.ss f j).1<=1/\(Yu aH h.ss f j).2<=30:=by
 cases f with|zero=>exact⟨bf _,bf _⟩| succ f=>
   have e:Yu aH h.ss (f+1) j=(1,(h.ss.getD j []).length):=by show(h.ss.getD j []).foldl (kE aH (Yu aH h.ss f)) (1,(h.ss.getD j []).length)=_;rw[W6,hk];rfl
   rw[e];exact⟨aj _,S.len j⟩
theorem aO.kidOf(S:aO h)(i:Nat):(wj aH (h.ss.getD i [])=[])\/∃j,wj aH (h.ss.getD i [])=[j]/\wj aH (h.ss.getD j [])=[]:=by
 have q:(wj aH (h.ss.getD i [])).length<=1/\∀j∈wj aH (h.ss.getD i []),wj aH (h.ss.getD j [])=[]:=by rw[di];cases e:h.ss[i]? with|none=>exact⟨bf _,λj a=>nomatch a⟩|some s=>exact S.kid s (bq e)
 cases e:wj aH (h.ss.getD i [])with|nil=>simp| cons j r=>simp_all
theorem aO.cntOf(S:aO h)(f i:Nat):(Yu aH h.ss f i).1<=2/\(Yu aH h.ss f i).2<=60:=by
 cases f with|zero=>exact⟨bf _,bf _⟩| succ f=>
   have b:=S.len i;have e:Yu aH h.ss (f+1) i=(h.ss.getD i []).foldl (kE aH (Yu aH h.ss f)) (1,(h.ss.getD i []).length):=rfl;rw[e,W6];rcases S.kidOf i with k|⟨j,k,a⟩
   grind
   rw[k];have q:=S.cnt0 f j a
   grind
theorem wH{f:Nat->Nat}{N:Nat}(a:∀c,f c<=N):∀(b:List Nat),(b.map f).sum<=N*b.length|[]=>by simp| c::r=>by have e:=wH a r;have d:=a c;rw[c8,List.sum_cons,dj,Nat.mul_add];omega
theorem wG{f:wy->Nat}{N:Nat}(a:∀c,f c<=N):∀(b:List wy),(b.map λc=>(f c:Int)).sum<=(N:Int)*(b.length:Int)|[]=>by simp| c::r=>by have e:=wG a r;have d:=a c;rw[c8,List.sum_cons,dj,Int.natCast_add,Int.mul_add];omega
theorem aO.sums(S:aO h):mx h<=60/\pk h<=1200:=by have f17:=S.f17;have e:∀i,My.cnt h.ss i=Yu aH h.ss (h.ss.length-i) i:=λi=>Cn _ _ _;have a:=wG (f:=λc=>(My.cnt h.ss c.1).1) (λc=>by rw[e];exact(S.cntOf _ _).1) h.fs;have b:=wG (f:=λc=>(My.cnt h.ss c.1).2) (λc=>by rw[e];exact(S.cntOf _ _).2) h.fs;unfold mx pk;omega
theorem aO.plan(S:aO h):(plan h).length<=60/\Vb h.ss (My.plan h)<=1200:=by have f17:=S.f17;obtain⟨e,d⟩:=JF 20 (h.fs.map (·.1));have a:=wH (f:=λj=>(Yu aH h.ss 20 j).1) (λc=>(S.cntOf _ _).1) (h.fs.map (·.1));have b:=wH (f:=λj=>(Yu aH h.ss 20 j).2) (λc=>(S.cntOf _ _).2) (h.fs.map (·.1));rw[ag]at a b;unfold My.plan;rw[e,d];omega
theorem aO.wf(S:aO h):ge (eH h)=true:=by
 have n1:=S.n1;have n20:=S.n20;have f1:=S.f1;have f17:=S.f17;have b0:=S.b0;have b99:=S.b99;have w0:=S.w0;have k:Yi (eH h)=true:=by
  show(yk (.int h.b) 0 99 && (yk (.int h.w) 0 6 && (qe (.tup (h.fs.map eC)) 1 40 && qe (.tup (h.ss.map eS)) 1 20)))=true;have b:qe (.tup (h.fs.map eC)) 1 40=true:=by
   show(decide ((1:Int)<=(h.fs.map eC).length) && decide (((h.fs.map eC).length:Int)<=40))=true
   grind
  have l:qe (.tup (h.ss.map eS)) 1 20=true:=by
   show(decide ((1:Int)<=(h.ss.map eS).length) && decide (((h.ss.map eS).length:Int)<=20))=true
   grind
  rw[jm (by omega) (by omega),jm (by omega) (by omega),b,l];rfl
 show(Yi (eH h) && (jH h.b h.w (h.ss.map eS).length 0 (h.ss.map eS) && (h.fs.map eC).all λc=>jl c 0 (h.ss.map eS).length h.w))=true;rw[k,ag,cq];have m:jH h.b h.w h.ss.length 0 (h.ss.map eS)=true:=by
  refine Ak (h.ss.map eS) 0 λj t a=>?_;rw[bi]at a;cases e:h.ss[j]? with|none=>simp_all| some s=>
    rw[e]at a;have a:=Option.some.inj a;subst a;obtain⟨o,f⟩:=S.sc j s e;show(qe (.tup (s.map eD)) 0 80 && ((s.map eD).all λd=>Ve d ((0+j:Nat)) h.b h.w h.ss.length))=true;have b:qe (.tup (s.map eD)) 0 80=true:=by
     show(decide ((0)<=(s.map eD).length) && decide (((s.map eD).length:Int)<=80))=true
     grind
    rw[b,cq,List.all_map,dy];intro d g;rw[w0,Nat.zero_add];exact JG (f d g)
 rw[m,cq,List.all_map,dy];intro c i;obtain⟨p,n⟩:=S.call c i;show(yk (.int c.1) 0 (h.ss.length-1) && Y2 (mi c.2) h.w)=true;rw[jm (by omega) (by omega),n];rfl
theorem aO.is(S:aO h):pS h=true:=by obtain⟨b,a⟩:=S.sums;unfold pS sy;rw[S.wf,bp b,bp a];rfl
theorem aO.good(S:aO h):Good h:=by obtain⟨e,b⟩:=S.sums;have f17:=S.f17;refine⟨⟨S.later,S.n20,by omega,λc a=>(S.call c a).1,Int.lt_of_le_of_lt e (by decide),Int.lt_of_le_of_lt b (by decide)⟩,λs f d j=>?_,λc a=>(S.call c a).2⟩;obtain⟨i,g⟩:=List.mem_iff_getElem?.mp f;have q:=(S.sc i s g).2 _ j;cases d<;>first|exact trivial|exact q.elim|exact q.1
theorem aO.sh(S:aO h):Sh (eH h):=by refine⟨trivial,trivial,?_,?_,trivial⟩;show eY (h.fs.map eC);rw[eY.all];intro t a;obtain⟨c,j,rfl⟩:=bz.mp a;refine⟨trivial,?_,trivial⟩;rw[(S.call c j).2];exact trivial;show eY (h.ss.map eS);rw[eY.all];intro t a;obtain⟨s,e,rfl⟩:=bz.mp a;obtain⟨i,f⟩:=List.mem_iff_getElem?.mp e;show eY (s.map eD);rw[eY.all];intro u b;obtain⟨d,g,rfl⟩:=bz.mp b;exact FI ((S.sc i s f).2 d g)
theorem aO.law(S:aO h):pi h:=by
 have l:∀s∈h.ss,∃i:Nat,s.length<=30/\∀d∈s,jI h.b i h.ss.length d:=λs a=>by obtain⟨i,p⟩:=List.mem_iff_getElem?.mp a;exact⟨i,S.sc i s p⟩
 obtain⟨n,o⟩:=S.plan;refine⟨S.sh.wh,S.good,S.is,⟨⟨λs a d g=>?_,S.later,λs a=>?_,S.w0⟩,S.n20,by have:=S.f17;omega,λc k=>(S.call c k).2,λc k=>(S.call c k).1,by unfold My.plan at n;omega,n,o,S.b0,by have:=S.b99;omega,λs a x hx=>?_,λs a d g b m e=>?_⟩⟩;obtain⟨i,_,f⟩:=l s a;have:=f d g;cases d with|com x=>exact this.elim|goo x=>exact this.elim|lea x=>exact this.elim|beg j q=>exact this.1|_=>trivial
 grind
 obtain⟨i,_,f⟩:=l s a;exact(V1 x (f _ hx)).2.2;obtain⟨i,_,f⟩:=l s a;have:=f d g;rcases e with rfl|rfl<;>exact⟨this.1,this.2.1⟩
end
noncomputable abbrev xJ:Stmt:=aX 91
def yN(t:T)(n p:Int)(x:Str):Prop:=Wh t/\((ge t=false/\x="house")\/∃F,t=eH F/\pi F/\((isMade F n p=false/\x="wall")\/(isMade F n p=true/\(Yw n.toNat p.toNat).length<64/\x="")))
inductive nY(vs:List V)(H:Hp)(Q:VK)(e0:XK):Prop|mk:∀(t:T)(v:V)(n p:Int)(x:Str),vs=[v,.int n,.int p]->Is H t v->bY t->yN t n p x->(∀H',zi H H'->Q (.str x) H')->nY vs H Q e0
section
variable{K:W.Frag}{cE:Addr}
theorem Cw:aA ["house","n","p","words","way","caught","e"] ["house","n","p"] (zk xJ):=.of
theorem Lj(D:aY K mg "_law_acaught" xJ)(T:Txt K mg)(q:rO K mg base cH cL cE)(o1:fG P w K mg base "tried" 28 ["house","n","p"] (nc cH cL))(o2:fG P w K mg base "are_papers" 28 ["house","n","p","papers"] (om cH cL))(o4:Ok P w K mg base "_law_akind" 1 ["caught"] (nO K mg)):Ok P w K mg base "_law_acaught" 29 ["house","n","p"] nY:=by
 refine qk (k:=28) D Cw ?_;rintro f a6 A ay s H vs Q E hr ⟨t,v,n,p,x,rfl,hv,hF,⟨hW,hA⟩,kk⟩ X;have nd:=Cw.nd;refine⟨_,ze (zr (i:=3) nd (vf zd)) (ze (w9 PassesOwn.never J (va J T.range (zc zg zd)) (ya (i:=4) nd) (ze (zr (i:=5) nd X9) (ze (HA (E:=λ_ H0 c _ k=>zi H0 k/\∃C i,c=.ref C/\Kinds K mg C i/\Under base C cE/\kw i=x) (ie:=6) (ic:=5) J J nd J J J J J q.mW q.iW (λ_ _ C' k z=>by obtain⟨_,C,i,e,_,u,_⟩:=z;cases(Value.ref.inj e);exact u)
    (λpn S H0=>zh (yj (zu wt (pv 4) zg (yb _)) (zh (xl (AY o1 hr (zc (pv 0) (zc (pv 1) (zc (pv 2) zd)))))) (zh (xl (AY o2 hr (zc (pv 0) (zc (pv 1) (zc (pv 2) (zc Qj zd))))))))) (by decide) (by decide) (by decide) (λb hb=>by cases hb))
   (zh (yj (zu FA (pv 5) X9 (yb _)) (zh (xl (Zi PySem.F.plainAttrs_list PySem.F.slot_list_append PySem.F.type_list_append vi (pv 3) (zc zo zd)))) (zh (xl (Zi PySem.F.plainAttrs_list PySem.F.slot_list_append PySem.F.type_list_append vi (pv 3) (zc (yc o4 (hr.mono (show 1<=28 by decide)) (zc (pv 5) zd)) zd)))))))))
  (ze (yj (zu Zy (zp qg (pv 3) zg) (zp qg (pv 3) zg) (yb _)) (zh (zt zo)) zy) (zh (zt (zp qg (pv 3) zg))))),?_⟩
 refine⟨aI,λg F s1 a1 h1=>?_⟩;have S1:zi F F:=zi.refl _;have a4:Is F t v:=hv.mono s1;have n0:H g=none:=a1;refine⟨2,J,by decide,by decide,?_⟩;have af:zi H (without [g] F):=s1.without λm hm=>by rw[ai.mp hm];exact n0
 have ah:Is (without [g] F) t v:=hv.mono af;let a3:Nat->L2.St->Hp->Prop:=λi σ G=>∃(R N M:Option V),σ=[some v,some (.int n),some (.int p),some (.ref g),R,N,M]/\zi (without [g] F) G/\G g=some (.lst (List.replicate i (.str x)));refine ko (lo:=0) (n:=(2:Int).toNat) a3 ⟨none,none,none,J,vj,h1⟩ ?_ ?_;rintro i σ G hi ⟨R,N,M,rfl,W,o⟩;have a5:i<2:=hi;have B:∀(R N M:Option V)(G':Hp),zi G G'->∃(y4 y5 y6:Option V),[some v,some (.int n),some (.int p),some (.ref g),R,N,M]=[some v,some (.int n),some (.int p),some (.ref g),y4,y5,y6]/\zi (without [g] F) (upd G' g (.lst (List.replicate i (.str x)++[.str x])))/\upd G' g (.lst (List.replicate i (.str x)++[.str x])) g=some (.lst (List.replicate (i+1) (.str x))):=λR N M G' av=>by refine⟨_,_,_,J,Za (W.trans av) (yw (by simp)),?_⟩;rw[zf,List.replicate_succ']
 have r:(List.replicate i (V.str x)).length<sizeLine:=by rw[fh];exact Ya (by omega)
 refine⟨?_,λk a C' hE aS=>?_⟩;refine⟨J,_,J,jy (λc=>?_) (λc=>?_)⟩;refine⟨J,t,v,n,p,J,ah.mono W,hW,?_⟩;rcases hA with⟨hm,rfl⟩|⟨hs,rfl,L,hk⟩;exact .inl ⟨hm,λk h=>⟨h,cH,3,J,q.kH,q.uH,J⟩⟩;refine .inr ⟨hs,J,L,λz=>?_,λz=>?_⟩;rcases hk with⟨_,rfl⟩|⟨l,_⟩;exact λk h=>⟨h,cL,8,J,q.kL,q.uL,J⟩
 rw[z]at l;cases l;rcases hk with⟨l,_⟩|⟨_,_,rfl⟩;rw[z]at l;cases l;intro v' k h;refine⟨J,_,J,y3 ?_⟩;exact⟨.inl ⟨J,_,aM.of (h _ _ o)⟩,g,_,_,J,J,h _ _ o,r,B _ _ _ k h⟩;refine⟨J,λd hd=>?_⟩;have U:=zi.new hd (.dK []);have ap:upd G d (.dK []) d=some (.dK []):=zf;generalize upd G d (.dK [])=G1 at U ap⊢;refine⟨t,v,n,p,d,J,ah.mono (W.trans U),ap,hW,?_⟩;rcases hA with⟨hm,rfl⟩|⟨hs,rfl,L,hk⟩;exact .inl ⟨hm,λk h=>⟨U.trans h,cH,3,J,q.kH,q.uH,J⟩⟩;refine .inr ⟨hs,J,L,λz=>?_,λz=>?_⟩;rcases hk with⟨_,rfl⟩|⟨l,_⟩;exact λk h=>⟨U.trans h,cL,8,J,q.kL,q.uL,J⟩
 rw[z]at l;cases l;rcases hk with⟨l,_⟩|⟨_,ht,rfl⟩;rw[z]at l;cases l;refine⟨ht,λv' k h=>?_⟩;have Z:=U.trans h;refine⟨J,_,J,y3 ?_⟩;exact⟨.inl ⟨J,_,aM.of (Z _ _ o)⟩,g,_,_,J,J,Z _ _ o,r,B _ _ _ k Z⟩;obtain⟨sE,C,j,ec,kd,_,a2⟩:=hE;cases(Value.ref.inj ec);have sA:zi G (upd k a (pj a C')):=sE.trans (zi.new aS _);refine⟨J,_,J,jy (λz=>absurd (c9 z) (λy=>by cases y)) (λ_=>?_)⟩;refine⟨.inl ⟨J,_,aM.of (sA _ _ o)⟩,a,C',j,J,zf,kd,λH2 Z=>?_⟩;rw[a2];have s3:=sA.trans Z;exact⟨g,_,_,J,J,s3 _ _ o,r,B _ _ _ H2 s3⟩;rintro σ G ⟨R,N,M,rfl,W,o⟩;refine⟨g,_,_,_,J,J,aM.of o,J,g,_,_,_,J,J,aM.of o,J,J,_,J,?_⟩;refine jy (λz=>?_) (λ_=>?_);exact absurd z (by simp);exact⟨g,_,_,_,J,J,aM.of o,J,kk G (af.trans W)⟩
end
section
variable{h:aB}
theorem GN{ss:O yf}{g:O Nat}{j:Nat}(hk:wj aH (ss.getD j [])=[]):hands aH ss 19 g j=[(g,j)]:=by show(g,j)::((wj aH (ss.getD j [])).zipIdx.flatMap λq=>hands aH ss 18 (g++[q.2]) q.1)=_;rw[hk];rfl
theorem aO.hands(S:aO h)(k i:Nat)(r:O Nat×Nat):r∈hands aH h.ss 20 [k] i↔r=([k],i)\/∃j,wj aH (h.ss.getD i [])=[j]/\r=([k,0],j):=by
 have e:My.hands aH h.ss 20 [k] i=([k],i)::((wj aH (h.ss.getD i [])).zipIdx.flatMap λq=>My.hands aH h.ss 19 ([k]++[q.2]) q.1):=rfl;rw[e,ak];rcases S.kidOf i with z|⟨j,z,a⟩
 simp_all
 rw[z];have b:([j].zipIdx.flatMap λq=>My.hands aH h.ss 19 ([k]++[q.2]) q.1)=[([k,0],j)]:=by show My.hands aH h.ss 19 [k,0] j++[]=_;rw[GN a];rfl
 simp_all
theorem aO.rows(S:aO h)(r:List Nat×Nat):r∈My.plan h↔∃(k:Nat)(c:wy),h.fs[k]?=some c/\(r=([k],c.1)\/∃j,wj aH (h.ss.getD c.1 [])=[j]/\r=([k,0],j)):=by
 unfold My.plan qc;rw[List.mem_flatMap];constructor;rintro⟨q,d,b⟩;obtain⟨a,k⟩:=q;rw[List.mk_mem_zipIdx_iff_getElem?,bi]at d;cases e:h.fs[k]? with|none=>simp_all| some c=>rw[e]at d;cases d;exact⟨k,c,e,(S.hands k c.1 r).mp b⟩
 rintro⟨k,c,e,b⟩;refine⟨(c.1,k),?_,(S.hands k c.1 r).mpr b⟩
 grind
structure Made(h:aB)(n p:Nat):Prop where
 many:n<=h.fs.length
 says:∀(k:Nat)(c:wy),h.fs[k]?=some c->yz (h.ss.getD c.1 [])=if k<n then cT p else[]
 kid:∀c∈h.fs,∀j,wj aH (h.ss.getD c.1 [])=[j]->yz (h.ss.getD j [])=[]
theorem aO.made(S:aO h)(n p:Nat):pI h n p=true↔Made h n p:=by
 unfold pI;rw[cp,dy,dy];constructor;rintro⟨d,b⟩;have d:=λk hk=>c9 (d k (du.mpr hk));have b:∀r∈My.plan h,yz (h.ss.getD r.2 [])=Vc n p r.1:=λr a=>by have:=c9 (b r.1 (List.mem_map_of_mem a));rw[Q7 a]at this;omega
 refine⟨?_,λk c e=>b ([k],c.1) ((S.rows _).mpr ⟨k,c,e,.inl J⟩),λc l j z=>?_⟩;cases n with|zero=>omega| succ m=>
   obtain⟨r,a,o⟩:=bz.mp (d m (ez m));obtain⟨k,c,e,q⟩:=(S.rows r).mp a
   grind
 obtain⟨k,e⟩:=List.mem_iff_getElem?.mp l;exact b ([k,0],j) ((S.rows _).mpr ⟨k,c,e,.inr ⟨j,z,J⟩⟩);intro M;refine⟨λk hk=>bp ?_,λg i=>bp ?_⟩;have hk:=du.mp hk;have f:=ca hk M.many;exact bz.mpr ⟨([k],h.fs[k].1),(S.rows _).mpr ⟨k,h.fs[k],br f,.inl J⟩,J⟩;obtain⟨r,a,rfl⟩:=bz.mp i;rw[Q7 a];obtain⟨k,c,e,q⟩:=(S.rows r).mp a;rcases q with rfl|⟨j,z,rfl⟩;exact M.says k c e;exact M.kid c (bq e) j z
theorem aO.isMade(S:aO h)(n p:Int):isMade h n p=true↔(1<=n/\n<=16/\0<=p/\p<=4)/\Made h n.toNat p.toNat:=by
 unfold My.isMade;rw[cp,cp,cp,cp,S.made,decide_eq_true_eq,decide_eq_true_eq,decide_eq_true_eq,decide_eq_true_eq]
 grind
end
theorem wC(p:Nat):(cT p).length=2*p:=by
 unfold cT;rw[List.length_flatten,List.map_replicate,List.sum_replicate_nat]
 grind
theorem Ql{h:aB}{n p:Int}(x:¬isMade h n p=true):isMade h n p=false:=by simp_all
def fm(b B:Int):aD->Prop|.rai x k=>0<=x/\x<b/\1<=k/\k<=99|.awa x m=>0<=x/\x<b/\1<=m/\m<=B|.say x=>x="come"\/x="go"|.wor x=>0<=x/\x<=999|_=>False
structure bX(h:aB)(n p t:Nat):Prop where
 b0:0<=h.b
 b99:h.b<=99
 w0:h.w=0
 n1:1<=n
 n5:n<=5
 p2:p<=2
 t2:t<=2
 ss:h.ss.length=n
 fl:h.fs.length=n
 call:∀c∈h.fs,c.1<n/\c.2=[]
 all:∀i,i<n->(i,[])∈h.fs
 sc:∀s∈h.ss,s.length<=16+t/\yz s=cT p/\∀d∈s,fm h.b (100+t) d
theorem zP{n:Nat}{d:aD}(c:B<=9999)(h:fm b B d):jI b i n d:=by cases d with|rai x k=>exact h|awa x m=>exact⟨h.1,h.2.1,h.2.2.1,by have:=h.2.2.2;omega⟩|say x=>rcases h with rfl|rfl<;>simp[jI,eK]|wor x=>exact h|com x=>exact h.elim|goo x=>exact h.elim|lea x=>exact h.elim|beg j a=>exact h.elim
theorem xG{b B:Int}:∀{s:yf},(∀d∈s,fm b B d)->wj aH s=[]|[],_=>rfl| d::r,h=>by have f:=h d bo;have a:=xG λe c=>h e (bn _ c);unfold wj at a⊢;rw[List.filterMap_cons,a];cases d with|beg j g=>exact f.elim|_=>rfl
section
variable{h:aB}{n t:Nat}
theorem bX.sim(M:bX h n p t):aO h:=by have n1:=M.n1;have n5:=M.n5;have ss:=M.ss;have fl:=M.fl;have t2:=M.t2;refine⟨M.b0,M.b99,M.w0,by omega,by omega,by omega,by omega,λc e=>by rw[ss];exact M.call c e,λi s a=>?_,λs a=>?_⟩;obtain⟨g,_,f⟩:=M.sc s (bq a);exact⟨by omega,λd b=>zP (by omega) (f d b)⟩;rw[xG (M.sc s a).2.2];simp
theorem bX.at(M:bX h n p t)(b:i<n):h.ss.getD i []∈h.ss/\h.ss[i]?=some (h.ss.getD i []):=by
 have a:i<h.ss.length:=by rw[M.ss];omega
 simp_all
theorem bX.says(M:bX h n p t){c:wy}(a:c∈h.fs):yz (h.ss.getD c.1 [])=cT p:=(M.sc _ (M.at (M.call c a).1).1).2.1
theorem bX.made(M:bX h n p t):Made h n p:=by
 refine⟨by rw[M.fl];omega,λk c e=>?_,λc a j z=>?_⟩;have hk:k<n:=by have:=(ci.mp e).1;rw[M.fl]at this;omega
 rw[if_pos hk];exact M.says (bq e);rw[xG (M.sc _ (M.at (M.call c a).1).1).2.2]at z;cases z
theorem bX.yes(M:bX h n p t):isMade h n p=true:=by have n1:=M.n1;have n5:=M.n5;have p2:=M.p2;refine(M.sim.isMade _ _).mpr ⟨⟨by omega,by omega,by omega,by omega⟩,?_⟩;rw[cj,cj];exact M.made
theorem bX.only(M:bX h n p t){a:Int}(e:isMade h a b=true):1<=a/\a<=n/\b=p/\(a=n\/p=0):=by
 obtain⟨⟨i,g,b0,j⟩,Q⟩:=(M.sim.isMade _ _).mp e;have qn:=Q.many;rw[M.fl]at qn;have c:0<h.fs.length:=by rw[M.fl];omega
 have f:=Q.says 0 _ (br c);rw[M.says (List.getElem_mem c),if_pos (by omega)]at f;have f:=congrArg List.length f;rw[wC,wC]at f;refine⟨i,by omega,by omega,?_⟩;by_cases z:a=n;omega;have c:n-1<h.fs.length:=by rw[M.fl];omega
 have d:=Q.says (n-1) _ (br c);rw[M.says (List.getElem_mem c),if_neg (by omega)]at d;have d:=congrArg List.length d;rw[wC]at d
 grind
theorem bX.no(M:bX h n p t){a:Int}(e:¬(1<=a/\a<=n/\b=p/\(a=n\/p=0))):isMade h a b=false:=Ql λz=>e (M.only z)
end
def eZ(b:Int)(d:aD):Prop:=jI b 0 0 d
theorem pJ{n:Nat}{d:aD}(h:eZ b d):jI b i n d:=by cases d with|beg j a=>exact absurd h.2.2 (fe _)|_=>exact h
theorem Hw{d:aD}(h:eZ b d):aH d=none:=by cases d with|beg j a=>exact absurd h.2.2 (fe _)|_=>rfl
theorem qx{b:Int}:∀{s:yf},(∀d∈s,eZ b d)->wj aH s=[]|[],_=>rfl| d::r,h=>by have a:=qx λe c=>h e (bn _ c);unfold wj at a⊢;rw[List.filterMap_cons,a,Hw (h d bo)]
theorem Es{d:aD}(a:B<=9999)(h:fm b B d):eZ b d:=zP a h
section
variable{h:aB}{n t:Nat}
theorem bX.plG(M:bX h n p t){s:yf}(hs:s∈h.ss):∀d∈s,eZ h.b d:=λd a=>Es (by have:=M.t2;omega) ((M.sc s hs).2.2 d a)
theorem bX.simX(M:bX h n p t)(b:O wy)(a:O yf)(m:1<=a.length)(f:a.length<=20)(o:1<=b.length)(g:b.length<=17)(call:∀c∈b,c.1<a.length/\c.2=[])(H:∀(i:Nat) s,a[i]?=some s->s∈h.ss\/(s.length<=30/\(∀d∈s,jI h.b i a.length d)/\(wj aH s=[]\/∃j,wj aH s=[j]/\wj aH (a.getD j [])=[]))):aO ⟨h.b,h.w,b,a⟩:=by
 have t2:=M.t2;refine⟨M.b0,M.b99,M.w0,m,f,o,g,call,λi s e=>?_,λs e=>?_⟩;rcases H i s e with q|⟨v,u,_⟩;exact⟨by have:=(M.sc s q).1;omega,λd l=>pJ (M.plG q d l)⟩
 simp_all
 obtain⟨i,k⟩:=List.mem_iff_getElem?.mp e;rcases H i s k with q|⟨_,_,q|⟨j,q,r⟩⟩;rw[qx (M.plG q)];simp
 simp_all
 simp_all
theorem BG{ss:O yf}{s:yf}(a:i<ss.length):(ss.set i s).getD i []=s:=by rw[di,List.getElem?_set_self a];rfl
theorem bX.oddS(M:bX h n p t)(g:i<n){s:yf}(f:s.length<=30)(a:∀d∈s,eZ h.b d)(b:yz s≠cT p):aO ⟨h.b,h.w,h.fs,h.ss.set i s⟩/\isMade ⟨h.b,h.w,h.fs,h.ss.set i s⟩ n p=false:=by
 have n5:=M.n5;have o:(h.ss.set i s).length=n:=by rw[List.length_set,M.ss]
 have S:aO ⟨h.b,h.w,h.fs,h.ss.set i s⟩:=by
  refine M.simX h.fs (h.ss.set i s) (by omega) (by omega) (by rw[M.fl];omega) (by rw[M.fl];omega) (λc m=>by rw[o];exact M.call c m) λj u e=>?_;rcases List.mem_or_eq_of_mem_set (bq e)with q|q
  simp_all
  subst q;exact .inr ⟨f,λd l=>pJ (a d l),.inl (qx a)⟩
 refine⟨S,Ql λz=>b ?_⟩;obtain⟨_,Q⟩:=(S.isMade _ _).mp z;obtain⟨k,hk⟩:=List.mem_iff_getElem?.mp (M.all i g);have q:=Q.says k (i,[]) hk;rw[(BG (by simp_all))]at q;rw[q,if_pos];rfl;have:=(ci.mp hk).1;rw[show(aB.mk h.b h.w h.fs (h.ss.set i s)).fs=h.fs from rfl,M.fl]at this;omega
theorem CJ{ss:O yf}{s:yf}(a:i<ss.length):(ss++[s]).getD i []=ss.getD i []:=by rw[di,fj a,<-di]
theorem KY{ss:O yf}{s:yf}:(ss++[s]).getD ss.length []=s:=by simp
theorem bX.moreF(M:bX h n p t){s:yf}(r:s.length<=30)(g:∀d∈s,eZ h.b d):aO ⟨h.b,h.w,h.fs++[(n,[])],h.ss++[s]⟩/\(yz s=[]->isMade ⟨h.b,h.w,h.fs++[(n,[])],h.ss++[s]⟩ n p=true)/\(yz s≠[]->isMade ⟨h.b,h.w,h.fs++[(n,[])],h.ss++[s]⟩ n p=false):=by
 have n1:=M.n1;have n5:=M.n5;have p2:=M.p2;have l:=M.ss;have x:=M.fl;have w:(h.ss++[s]).length=n+1:=by simp_all
 have y:(h.fs++[(n,[])]).length=n+1:=by simp_all
 have S:aO ⟨h.b,h.w,h.fs++[(n,[])],h.ss++[s]⟩:=by
  refine M.simX _ _ (by omega) (by omega) (by omega) (by omega) (λc b=>?_) λj u o=>?_;rw[w];rcases ce.mp b with q|q;exact⟨by have:=(M.call c q).1;omega,(M.call c q).2⟩
  simp_all
  rcases ce.mp (bq o)with q|q
  simp_all
  rw[ai.mp q];exact .inr ⟨r,λd v=>pJ (g d v),.inl (qx g)⟩
 have m:∀{c:wy},c∈h.fs->(h.ss++[s]).getD c.1 []=h.ss.getD c.1 []:=λ{c} b=>CJ (by rw[l];exact(M.call c b).1);have i:(h.ss++[s]).getD n []=s:=by simp_all
 have a:(h.fs++[((n,[]))])[n]?=some (n,[]):=by simp_all
 refine⟨S,λe=>(S.isMade _ _).mpr ⟨⟨by omega,by omega,by omega,by omega⟩,?_⟩,λe=>Ql λz=>e ?_⟩;rw[cj,cj];have D:=M.made;refine⟨by simp_all,λk c f=>?_,λc b j z=>?_⟩;have f:(h.fs++[((n,[]))])[k]?=some c:=f;by_cases hk:k<n;rw[fj (by omega)]at f;rw[m (bq f)];exact D.says k c f
 grind
 rcases ce.mp b with q|q;rw[m q,qx (M.plG (M.at (M.call c q).1).1)]at z;cases z;rw[ai.mp q]at z;rw[(i),qx g]at z;cases z;obtain⟨_,Q⟩:=(S.isMade _ _).mp z;have q:=Q.says n (n,[]) a
 simp_all
theorem bX.moreB(M:bX h n p t)(g:i<n){s:yf}(A:s.length<=30)(o:∀d∈s,eZ h.b d):aO ⟨h.b,h.w,h.fs,(h.ss++[s]).set i (h.ss.getD i []++[.beg n []])⟩/\(yz s=[]->isMade ⟨h.b,h.w,h.fs,(h.ss++[s]).set i (h.ss.getD i []++[.beg n []])⟩ n p=true)/\(yz s≠[]->isMade ⟨h.b,h.w,h.fs,(h.ss++[s]).set i (h.ss.getD i []++[.beg n []])⟩ n p=false):=by
 have n1:=M.n1;have n5:=M.n5;have p2:=M.p2;have t2:=M.t2;have a:=M.ss;have C:=M.fl;have v:((h.ss++[s]).set i (h.ss.getD i []++[.beg n []])).length=n+1:=by rw[List.length_set,az,M.ss];rfl
 have kb:wj aH (h.ss.getD i []++[.beg n []])=[n]:=by unfold wj;rw[List.filterMap_append];have:List.filterMap aH (h.ss.getD i [])=[]:=qx (M.plG (M.at g).1);rw[this];rfl
 have x:yz (h.ss.getD i []++[.beg n []])=cT p:=by unfold yz;rw[List.filterMap_append];have:List.filterMap Kh (h.ss.getD i [])=cT p:=(M.sc _ (M.at g).1).2.1;rw[this];exact cm _
 have f:((h.ss++[s]).set i (h.ss.getD i []++[.beg n []])).getD n []=s:=by rw[di,List.getElem?_set_ne (by omega),<-di,<-a];exact KY
 have l:∀{j:Nat},j<n->((h.ss++[s]).set i (h.ss.getD i []++[.beg n []])).getD j []=if j=i then h.ss.getD i []++[.beg n []]else h.ss.getD j []:=λ{j} B=>by by_cases z:j=i;rw[if_pos z,z];exact BG (by rw[az,a];omega);rw[if_neg z,di,List.getElem?_set_ne (au z),<-di];exact CJ (by rw[a];exact B)
 have S:aO ⟨h.b,h.w,h.fs,(h.ss++[s]).set i (h.ss.getD i []++[.beg n []])⟩:=by refine M.simX _ _ (by omega) (by omega) (by omega) (by omega) (λc b=>?_) λj u m=>?_;rw[v];exact⟨by have:=(M.call c b).1;omega,(M.call c b).2⟩;by_cases z:i=j;subst z;rw[List.getElem?_set_self (by rw[az,a];omega)]at m;cases m;refine .inr ⟨?_,λd r=>?_,.inr ⟨n,kb,by rw[f];exact qx o⟩⟩;rw[az];have:=(M.sc _ (M.at g).1).1;show _+1<=30;omega;rcases ce.mp r with q|q;exact pJ (M.plG (M.at g).1 d q);rw[ai.mp q];exact⟨J,g,by rw[v];omega⟩;rw[List.getElem?_set_ne z]at m;rcases ce.mp (bq m)with q|q;exact .inl q;rw[ai.mp q];exact .inr ⟨A,λd r=>pJ (o d r),.inl (qx o)⟩
 have says:∀c∈h.fs,yz (((h.ss++[s]).set i (h.ss.getD i []++[.beg n []])).getD c.1 [])=cT p:=λc b=>by rw[l (M.call c b).1];by_cases z:c.1=i;rw[if_pos z];exact x;rw[if_neg z];exact M.says b
 refine⟨S,λe=>(S.isMade _ _).mpr ⟨⟨by omega,by omega,by omega,by omega⟩,?_⟩,λe=>Ql λz=>e ?_⟩;rw[cj,cj];refine⟨by show n<=h.fs.length;omega,λk c w=>?_,λc b j z=>?_⟩;have hk:k<n:=by have:=(ci.mp w).1;rw[show(aB.mk h.b h.w h.fs ((h.ss++[s]).set i (h.ss.getD i []++[.beg n []]))).fs=h.fs from rfl]at this;omega
 rw[if_pos hk];exact says c (bq w);rw[l (M.call c b).1]at z;by_cases y:c.1=i;rw[if_pos y,kb]at z;cases z;rw[f,e];rw[if_neg y,qx (M.plG (M.at (M.call c b).1).1)]at z;cases z;obtain⟨_,Q⟩:=(S.isMade _ _).mp z;have q:=Q.kid (i,[]) (M.all i g) n (by rw[l g,if_pos J,kb])
 rw[(f)]at q;exact q
theorem bX.none'(M:bX h n p t):Wh (eH ⟨h.b,h.w,[],h.ss⟩)/\ge (eH ⟨h.b,h.w,[],h.ss⟩)=false:=by
 constructor;have:=M.sim.sh;exact Sh.wh ⟨trivial,trivial,trivial,this.2.2.2⟩;have:Yi (eH ⟨h.b,h.w,[],h.ss⟩)=false:=by show(yk (.int h.b) 0 99 && (yk (.int h.w) 0 6 && (false && qe (.tup (h.ss.map eS)) 1 20)))=false;rw[db,Bool.and_false,Bool.and_false]
 unfold ge;rw[this,db]
end
noncomputable def Jv:aB:=⟨0,0,List.replicate 17 (0,[]),[[]]⟩
noncomputable def cg(p:Nat):yf:=(List.replicate p [aD.say "come",aD.say "go"]).flatten
noncomputable def mJ(p:Nat):aB:=⟨0,0,[(0,[])],[cg p]⟩
theorem zT:aO Jv:=by refine⟨by decide,by decide,J,by decide,by decide,by decide,by decide,λc e=>?_,λi s a=>?_,λs a=>?_⟩;rw[List.eq_of_mem_replicate e];exact⟨by decide,J⟩;have:=bq a;rw[ai.mp this];simp;have:=a;rw[ai.mp this];exact⟨bf _,λd b=>nomatch b⟩
theorem Eg:isMade Jv 17 0=false:=rfl
theorem EO:isMade Jv 16 0=true:=by rfl
theorem Hi(p:Nat):yz (cg p)=cT p:=by unfold cg cT yz;induction p with|zero=>rfl|succ m a=>rw[List.replicate_succ,List.flatten_cons,List.filterMap_append,a,List.replicate_succ,List.flatten_cons];rfl
theorem EX{d:aD}(h:d∈cg p):d=.say "come"\/d=.say "go":=by
 obtain⟨l,a,b⟩:=List.mem_flatten.mp h
 simp_all
theorem EW(p:Nat):(cg p).length=2*p:=by
 unfold cg;rw[List.length_flatten,List.map_replicate,List.sum_replicate_nat]
 grind
theorem uj:∀d∈cg p,eZ b d:=λd a=>by rcases EX a with rfl|rfl<;>simp[eZ,jI,eK]
theorem ui(f:p<=5):aO (mJ p):=by refine⟨by show(0)<=0;decide,by show(0)<=99;decide,J,by show 1<=1;decide,by show 1<=20;decide,by show 1<=1;decide,by show 1<=17;decide,λc e=>?_,λi s a=>?_,λs a=>?_⟩;rw[ai.mp e];exact⟨by show 0<1;decide,J⟩;have:=bq a;rw[ai.mp this,EW];exact⟨by omega,λd b=>pJ (uj d b)⟩;have:=a;rw[ai.mp this,qx (b:=0) uj];simp
theorem Oe:isMade (mJ 5) 1 5=false:=rfl
theorem D2:isMade (mJ 4) 1 4=true:=by refine((ui (by decide)).isMade _ _).mpr ⟨by decide,⟨by decide,λk c b=>?_,λc a j z=>?_⟩⟩;have hk:=(ci.mp b).1;have a:=bq b;rw[ai.mp a,if_pos (show k<(1:Int).toNat from hk)];exact Hi 4;rw[ai.mp a]at z;have z:wj aH (cg 4)=[j]:=z;rw[qx (b:=0) uj]at z;cases z
noncomputable abbrev wQ:Stmt:=aX 92
theorem Wn{a:Type}(xs:O a)(n:Nat):Zq xs (some (n:Int)) none=xs.drop n:=by unfold Zq;simp only[HT.bS];rw[if_neg (by omega),cj];by_cases h:n<=xs.length;rw[Nat.min_eq_left h,List.take_of_length_le (by rw[List.length_drop];omega)];rw[Nat.min_eq_right (by omega),List.drop_eq_nil_of_le (aj _),List.drop_eq_nil_of_le (by omega)];simp
theorem Y4{a:Type}(xs:O a)(n:Nat):Zq xs (some ((n:Int)+1)) none=xs.drop (n+1):=Wn xs (n+1)
theorem Bp{a:Type}(xs:O a)(i j:Nat)(h:i<=j):Zq xs (some (i:Int)) (some (j:Int))=(xs.drop i).take (j-i):=by unfold Zq;simp only[HT.bS];rw[if_neg (by omega),if_neg (by omega),cj,cj];by_cases c:i<=xs.length;rw[Nat.min_eq_left c];by_cases b:j<=xs.length;rw[Nat.min_eq_left b];rw[Nat.min_eq_right (by omega),List.take_of_length_le (by rw[List.length_drop];exact aj _),List.take_of_length_le (by rw[List.length_drop];omega)];rw[Nat.min_eq_right (a:=i) (by omega),List.drop_eq_nil_of_le (aj xs.length),List.drop_eq_nil_of_le (show xs.length<=i by omega)];simp
theorem yV{e:Type}(a b c d:e):Zq [a,b,c,d] none (some 3)=[a,b,c]:=by with_unfolding_all rfl
theorem LW{a:Type}{l:O a}(x:a)(h:i<l.length):l.take i++([x]++l.drop (i+1))=l.set i x:=by rw[List.set_eq_take_append_cons_drop,if_pos h];rfl
noncomputable def C9:L2.Tm:=.add (.upto (.var 0) (.con (.int 3))) (.tup [.add (.add (.upto (.ix (.var 0) (.con (.int 3))) (.var 1)) (.tup [.var 2])) (.frm (.ix (.var 0) (.con (.int 3))) (.add (.var 1) (.con (.int 1))))])
theorem KC{h:aB}{s:yf}(a:i<h.ss.length)(g:h.ss.length<=100):C9.den [(0,eH h),(1,.int (i:Int)),(2,eS s)]=some (eH ⟨h.b,h.w,h.fs,h.ss.set i s⟩):=by
 have f:((h.ss.map eS).take i).length+[eS s].length<=1000:=by rw[bu,ag];show min _ _+1<=1000;omega
 have e:((h.ss.map eS).take i++[eS s]).length+((h.ss.map eS).drop (i+1)).length<=1000:=by rw[az,bu,List.length_drop,ag];show min _ _+1+_<=1000;omega
 have d:(h.ss.map eS).take i++[eS s]++(h.ss.map eS).drop (i+1)=(h.ss.set i s).map eS:=by rw[List.append_assoc,LW _ (by rw[ag];exact a),List.map_set]
 show Qt (some (.tup (Zq [.int h.b,.int h.w,.tup (h.fs.map eC),.tup (h.ss.map eS)] none (some 3)))) (qF (mG (Qt (Qt (some (.tup (Zq (h.ss.map eS) none (some i)))) (some (.tup [eS s]))) (some (.tup (Zq (h.ss.map eS) (some (i+1)) none)))) (some [])))=_;rw[yV,Vi,Y4];have c:Qt (some (.tup ((h.ss.map eS).take i))) (some (.tup [eS s]))=some (.tup ((h.ss.map eS).take i++[eS s])):=if_pos f;have b:Qt (some (.tup ((h.ss.map eS).take i++[eS s]))) (some (.tup ((h.ss.map eS).drop (i+1))))=some (.tup ((h.ss.map eS).take i++[eS s]++(h.ss.map eS).drop (i+1))):=if_pos e;rw[c,b,d];rfl
inductive kY(vs:List V)(H:Hp)(Q:VK)(e0:XK):Prop|mk:∀(h:aB)(s:yf)(i:Nat)(v u:V),vs=[v,.int (i:Int),u]->Is H (eH h) v->Is H (eS s) u->i<h.ss.length->h.ss.length<=100->(∀v' H',zi H H'->Is H' (eH ⟨h.b,h.w,h.fs,h.ss.set i s⟩) v'->Q v' H')->kY vs H Q e0
theorem FR{l:kD}(h:∀p∈l,∃v,σ[p.1]?=some (some v)/\Is H p.2 v):mF (λ_=>False) l σ H:=⟨λb c=>c.elim,λp a=>by obtain⟨v,e,i⟩:=h p a;exact⟨v,e,i.off0⟩⟩
theorem Xw{a:L2.Tm}{l:kD}{t:T}{Q:VK}(e:∀p∈l,∃v,σ[p.1]?=some (some v)/\Is H p.2 v)(d:a.den l=some t)(k:∀v H',zi H H'->Is H' t v->Q v H'):mS a σ H Q:=⟨λ_=>False,l,t,FR e,d,λv H' s i=>k v H' s i.off⟩
section
variable{K:W.Frag}
theorem JL:aA ["house","i","script"] ["house","i","script"] (zk wQ):=.of
theorem JP(D:aY K mg "_law_awith" wQ):Ok P w K mg base "_law_awith" 1 ["house","i","script"] kY:=by refine qk D JL ?_;rintro f k A b s H l Q E m ⟨h,s,i,v,u,rfl,d,e,j,g,c⟩ X;refine⟨_,zh (zt (Xs C9)),?_⟩;refine Xw (λp a=>?_) (KC j g) c;rcases ak.mp a with rfl|a;exact⟨_,J,d⟩;rcases ak.mp a with rfl|a;exact⟨_,J,J⟩;rw[ai.mp a];exact⟨_,J,e⟩
end
noncomputable abbrev vZ:Stmt:=aX 89
structure oY(mg:Str->Option Value):Prop where
 max:mg "max"=none
 min:mg "min"=none
theorem zY:bootBuiltins "max"=some (.builtin "max"):=by decide+kernel
theorem ET:bootBuiltins "min"=some (.builtin "min"):=by decide+kernel
section
inductive lU(x y:V)(H:Hp)(Q:VK):Prop|mk:∀(ts:List T)(i:Nat)(t:T),Is H (.tup ts) x->y=.int (i:Int)->ts[i]?=some t->(∀v,Is H t v->Q v H)->lU x y H Q
theorem wg:qA X lU:=by intro p b c s f H x y v u Q I l k h n;obtain⟨w,i,t,o,rfl,e,q⟩:=h;obtain⟨a,g,r,rfl,j,d,m⟩:=Is.at o e;exact zx p b c s f H _ _ v u Q I l k ⟨a,g,_,_,J,J,j,d,q _ m⟩ n
inductive lV(x y:V)(H:Hp)(Q:VK):Prop|mk:∀(l:Addr)(xs:List V)(ts:List T)(i:Nat)(t:T),x=.ref l->H l=some (.lst xs)->IsL H ts xs->y=.int (i:Int)->ts[i]?=some t->(∀v,xs[i]?=some v->Is H t v->Q v H)->lV x y H Q
theorem uo:qA X lV:=by intro p a b s d H x y v u Q I j g h k;obtain⟨l,f,w,i,t,rfl,m,n,rfl,e,q⟩:=h;obtain⟨r,c,o⟩:=n.get e;exact qg p a b s d H _ _ v u Q I j g ⟨l,f,_,_,J,J,aM.of m,wx c,q _ c o⟩ k
inductive ma(x y:V)(H:Hp)(Q:VK):Prop|mk:∀(ts us:List T),Is H (.tup ts) x->Is H (.tup us) y->ts.length+us.length<=1000->(∀v H',zi H H'->Is H' (.tup (ts++us)) v->Q v H')->ma x y H Q
theorem wv:bZ X (binaryOp .Add) ma:=by intro a s c H x y v u Q I j g h;obtain⟨e,d,m,l,k,q⟩:=h;exact xU a s c H x y v u Q I j g ⟨e,d,m.off0,l.off0,λb z=>z.elim,xk k,λv n f i=>q v n f i.off⟩
end
structure Tp(M:List Addr)(a:Addr)(H G:Hp):Prop where
 mem:a∈M
 tape:∃x,G a=some (.lst [.int x])
 bt:Bt M H G
 tu:yo H G
theorem Tp.same{b:Hp}(p:Tp M a H G)(s:zi G b):Tp M a H b:=by obtain⟨x,hx⟩:=p.tape;exact⟨p.mem,⟨x,s _ _ hx⟩,p.bt.trans s.bt,p.tu.trans s.tups⟩
theorem Tp.put(p:Tp M a H G)(y:Int):Tp M a H (upd G a (.lst [.int y])):=by obtain⟨x,hx⟩:=p.tape;exact⟨p.mem,⟨y,zf⟩,p.bt.trans (Bt.upd p.mem),p.tu.trans (yo.upd hx (λ_ z=>by cases z))⟩
theorem Tp.puts(p:Tp M a H G)(c:l∈M)(d:G l=some (.lst xs))(b:l≠a):Tp M a H (upd G l (.lst ys)):=by obtain⟨x,hx⟩:=p.tape;exact⟨p.mem,⟨x,by rw[upd_ne (au b)];exact hx⟩,p.bt.trans (Bt.upd c),p.tu.trans (yo.upd d (λ_ z=>by cases z))⟩
structure Sc(b:Int)(p t:Nat)(s:yf):Prop where
 len:s.length<=16+t
 says:yz s=cT p
 pl:∀d∈s,fm b (100+t) d
theorem X7{t:Nat}{d:aD}(h:fm b (100+t) d):fm b (100+(t+1:Nat)) d:=by cases d with|awa x m=>exact⟨h.1,h.2.1,h.2.2.1,by have:=h.2.2.2;omega⟩|_=>exact h
theorem vy(s u:yf):yz (s++u)=yz s++yz u:=List.filterMap_append ..
theorem ur{s:yf}{k:Nat}{d:aD}(h:s[k]?=some d):s=s.take k++[d]++s.drop (k+1):=by obtain⟨hk,rfl⟩:=ci.mp h;rw[List.append_assoc];show s=s.take k++s[k]::s.drop (k+1);rw[<-List.drop_eq_getElem_cons hk,List.take_append_drop]
theorem Sc.other{t k:Nat}{s:yf}{d e:aD}(c:Sc b p t s)(h:s[k]?=some d)(g:Kh d=none)(he:Kh e=none)(f:fm b (100+(t+1:Nat)) e):Sc b p (t+1) (s.take k++[e]++s.drop (k+1)):=by
 refine⟨?_,?_,λx hx=>?_⟩;have:=c.len;rw[az,az,bu,List.length_drop];show min k s.length+1+_<=_;omega;have a:=c.says;rw[ur h,vy,vy]at a;rw[vy,vy,<-a];have:yz [d]=yz [e]:=by unfold yz;simp only[List.filterMap_cons,g,he]
 rw[this];rcases ce.mp hx with q|q;rcases ce.mp q with q|q;exact X7 (c.pl x (List.mem_of_mem_take q));rw[ai.mp q];exact f;exact X7 (c.pl x (List.mem_of_mem_drop q))
theorem Sc.more{t:Nat}(k:Nat){s:yf}{e:aD}(c:Sc b p t s)(he:Kh e=none)(d:fm b (100+(t+1:Nat)) e):Sc b p (t+1) (s.take k++[e]++s.drop k):=by
 refine⟨?_,?_,λx hx=>?_⟩;have:=c.len;rw[az,az,bu,List.length_drop];show min k s.length+1+_<=_;omega;have a:=c.says;rw[<-List.take_append_drop k s,vy]at a;rw[vy,vy,<-a];have:yz [e]=[]:=by unfold yz;simp only[List.filterMap_cons,he,List.filterMap_nil]
 rw[this,cm];rcases ce.mp hx with q|q;rcases ce.mp q with q|q;exact X7 (c.pl x (List.mem_of_mem_take q));rw[ai.mp q];exact d;exact X7 (c.pl x (List.mem_of_mem_drop q))
theorem Sc.mono{t:Nat}{s:yf}(c:Sc b p t s):Sc b p (t+1) s:=⟨by have:=c.len;omega,c.says,λd a=>X7 (c.pl d a)⟩
theorem bX.scr{h:aB}{n t:Nat}(M:bX h n p t){s:yf}(hs:s∈h.ss):Sc h.b p t s:=⟨(M.sc s hs).1,(M.sc s hs).2.1,(M.sc s hs).2.2⟩
theorem bX.bent{h:aB}{n t:Nat}(M:bX h n p t)(b:t+1<=2){s:yf}(c:Sc h.b p (t+1) s):bX ⟨h.b,h.w,h.fs,h.ss.set i s⟩ n p (t+1):=by refine⟨M.b0,M.b99,M.w0,M.n1,M.n5,M.p2,b,by rw[List.length_set,M.ss],M.fl,M.call,M.all,λu a=>?_⟩;rcases List.mem_or_eq_of_mem_set a with q|rfl;have:=(M.scr q).mono;exact⟨this.len,this.says,this.pl⟩;exact⟨c.len,c.says,c.pl⟩
inductive og(vs:List V)(H:Hp)(Q:VK)(e0:XK):Prop|mk:∀(a:Addr)(x:Int)(v:V)(h:aB)(n p t:Nat),vs=[.ref a,v]->H a=some (.lst [.int x])->Is H (eH h) v->bX h n p t->t+1<=2->(∀v' H' (h':aB),Tp [a] a H H'->Is H' (eH h') v'->h'.fs=h.fs->bX h' n p (t+1)->Q v' H')->og vs H Q e0
theorem Ac{d:aD}(i:Is H (eD d) v):∃r,Is H (.tup (.str (dw d)::r)) v/\eD d=.tup (.str (dw d)::r):=by
 obtain⟨r,e⟩:=Wm d
 simp_all
theorem su(h:i<m):jA m (i:Int)=some i:=by unfold jA;rw[if_pos (by omega),if_pos (by omega),cj]
theorem E7{d:aD}(h:dw d="await"):∃b m,d=.awa b m:=by cases d<;>first|exact⟨_,_,J⟩|exact absurd h (by simp only[dw];decide+kernel)
theorem FL{d:aD}(h:dw d="raise"):∃b m,d=.rai b m:=by cases d<;>first|exact⟨_,_,J⟩|exact absurd h (by simp only[dw];decide+kernel)
theorem Tp.drop(p:Tp [a,l] a H G)(d:H l=none):Tp [a] a H G:=⟨bo,p.tape,λb o c e=>p.bt b o (λz=>by simp_all) e,p.tu⟩
theorem qS{p:Y}{k:Int}(h:H p=some (.tup [.str "work",.int k])):Is H (eD (.wor k)) (.ref p):=⟨p,_,J,h,_,_,J,J,_,_,J,J,J⟩
theorem ka{p:Y}{t:L2.T}(h:H p=some (.tup [v]))(i:Is H t v):Is H (.tup [t]) (.ref p):=⟨p,_,J,h,qh i⟩
theorem rY{tB:TT}{d c:TS}(b a:Bool)(e:∀Q:Bool->Hp->Prop,Q b H->tA σ H Q)(f:∀Q:Bool->Hp->Prop,Q a H->tB σ H Q)(k1:b=true->a=true->d D σ H)(k2:¬(b=true/\a=true)->c D σ H):mC (rV tA tB) d c D σ H:=by
 refine e _ ?_
 simp_all
theorem AR{H:Hp}:∀{b:List L2.T}{xs:List V}(i:Nat){t:L2.T}{v:V},IsL H b xs->Is H t v->IsL H (b.set i t) (xs.set i v)|[],xs,i,t,v,h,_=>by cases(h);rfl| u::r,xs,i,t,v,h,g=>by obtain⟨y,a,rfl,d,c⟩:=h;cases i with|zero=>exact⟨v,a,J,g,c⟩|succ j=>exact⟨y,a.set j v,J,d,AR j c g⟩
section
variable{K:W.Frag}
theorem Cb:aA ["tape","house","scripts","i","script","k","deed","way","other"] ["tape","house"] (zk vZ):=.of
theorem IP(D:aY K mg "_law_abent_made" vZ)(T:Txt K mg)(TL:oY mg)(oD:Ok P w K mg base "_law_adigit" 1 ["tape","many"] ip):Ok P w K mg base "_law_abent_made" 2 ["tape","house"] og:=by
 refine qk (k:=1) D Cb ?_;rintro f dN A ck s H vs Q E hr ⟨a,x0,v,h,n,p,t,rfl,ha,hv,M,ht,kk⟩ X;have nd:=Cb.nd;refine⟨_,ze (zr (i:=2) nd (vz Qw (by rfl) T.list Ky (zc (zp wg (pv 1) zg) zd))) (ze (zr (i:=3) nd (yc oD hr (zc (pv 0) (zc (yh ym (by rfl) T.len vm (zc (pv 2) zd)) zd)))) (ze (zr (i:=4) nd (zp uo (pv 2) (pv 3))) (ze (zr (i:=5) nd (yc oD hr (zc (pv 0) (zc (ye wb (yh ym (by rfl) T.len vm (zc (pv 4) zd)) zg) zd)))) (ze (zr (i:=6) nd (zp wg (ye wv (yx js (pv 4) (y1 (pv 5)) (y1 (ye wb (pv 5) zg))) (yg (zc (yg (zc zo (zc zg zd))) zd))) zg)) (ze (zr (i:=7) nd (yc oD hr (zc (pv 0) (zc zg zd)))) (ze (yj (PW.pt (X4 (zu wt (zp wg (pv 6) zg) zo (yb _)) (Xd (zu mI (pv 7) zg (yb _))))) (ze (zr (i:=8) nd (vf (zc (yg (zc zo (zc (zp wg (pv 6) zg) (zc (yh (Cl (by rfl)) (by rfl) TL.max zY (zc zg (zc (ye Wb (zp wg (pv 6) zg) zg) zd))) zd)))) (zc (yg (zc zo (zc (zp wg (pv 6) zg) (zc (ye wb (zp wg (pv 6) zg) zg) zd)))) zd))))
    (ze (zr (i:=8) nd (ye Yg (pv 8) (vf (zc (yg (zc zo (zc (yc oD hr (zc (pv 0) (zc (zp wg (pv 1) zg) zd))) (zc (zp wg (pv 6) zg) zd)))) (zc (yg (zc zo (zc zg zd))) zd))))) (zh (Ji (ye wv (ye wv (yx js (pv 4) xn (y1 (pv 5))) (yg (zc (zp uo (pv 8) (pv 7)) zd))) (yx js (pv 4) (y1 (ye wb (pv 5) zg)) xn)) (qU (pv 2) (pv 3) Yy)))))
   (zh (yj (PW.pt (X4 (zu wt (zp wg (pv 6) zg) zo (yb _)) (Xd (zu mI (pv 7) zg (yb _))))) (ze (zr (i:=8) nd (vf (zc (yg (zc zo (zc (zp wg (pv 6) zg) (zc zg zd)))) (zc (yg (zc zo (zc (yc oD hr (zc (pv 0) (zc (zp wg (pv 1) zg) zd))) (zc zg zd)))) (zc (yg (zc zo (zc zg zd))) (zc (yg (zc zo (zc zg zd))) zd))))))
    (zh (Ji (ye wv (ye wv (yx js (pv 4) xn (y1 (pv 5))) (yg (zc (zp uo (pv 8) (pv 7)) zd))) (yx js (pv 4) (y1 (ye wb (pv 5) zg)) xn)) (qU (pv 2) (pv 3) Yy))))
    (zh (yj (PW.pt (X4 (zu wt (pv 7) zg (yb _)) (Xd (zu mO (zp wg (pv 1) zg) zg (yb _))))) (zh (Ji (ye wv (ye wv (yx js (pv 4) xn (y1 (pv 5))) (yg (zc (yg (zc zo (zc (yc oD hr (zc (pv 0) (zc (zp wg (pv 1) zg) zd))) (zc zg zd)))) zd))) (yx js (pv 4) (y1 (pv 5)) xn)) (qU (pv 2) (pv 3) Yy)))
     (zh (yj (PW.pt (X4 (zu wt (pv 7) zg (yb _)) (Xd (zu mO (zp wg (pv 1) zg) zg (yb _))))) (zh (Ji (ye wv (ye wv (yx js (pv 4) xn (y1 (pv 5))) (yg (zc (yg (zc zo (zc (yc oD hr (zc (pv 0) (zc (zp wg (pv 1) zg) zd))) (zc zg zd)))) zd))) (yx js (pv 4) (y1 (pv 5)) xn)) (qU (pv 2) (pv 3) Yy)))
      zy)))))))
  (zh (zt (ye wv (yx js (pv 1) xn (y1 zg)) (yg (zc (vz Zu (by rfl) T.tuple Y5 (zc (pv 2) zd)) zd))))))))))),?_⟩
 obtain⟨n1,n5,t2⟩:=id (And.intro M.n1 (And.intro M.n5 M.t2));refine⟨[.int h.b,.int h.w,.tup (h.fs.map eC),.tup (h.ss.map eS)],3,_,hv,J,J,λu3 i3=>?_⟩;obtain⟨p3,y,rfl,cv,b5⟩:=i3;have dh:y.length=n:=by rw[b5.length,ag,M.ss]
 refine⟨p3,y,J,.inr (aG.of cv),λl bk=>?_⟩;have ne:l≠a:=λz=>by rw[z,ha]at bk;cases bk
 have s1:=zi.new bk (.lst y);have g1:upd H l (.lst y) l=some (.lst y):=zf;generalize upd H l (.lst y)=H1 at s1 g1⊢;have cb:Tp [a,l] a H H1:=⟨bo,⟨x0,s1 _ _ ha⟩,s1.bt,s1.tups⟩
 have a9:∀{G:Hp},Tp [a,l] a H G->IsL G (h.ss.map eS) y:=λtp=>IsL.tups tp.tu (bY.scripts _) b5;have a2:∀{G:Hp},Tp [a,l] a H G->Is G (eH h) v:=λtp=>Is.tups tp.tu (wo _) hv;refine⟨l,y,J,.inl (aM.of g1),a,x0,_,J,s1 _ _ ha,by omega,by omega,λd0 dE dK=>?_⟩;obtain⟨i,rfl⟩:∃i:Nat,d0=(i:Int):=⟨d0.toNat,by omega⟩
 have hi:i<n:=by omega
 have a7:=cb.put (x0/((y.length:Nat):Int));have g2:upd H1 a (.lst [.int (x0/((y.length:Nat):Int))]) l=some (.lst y):=by rw[upd_ne ne];exact g1
 generalize upd H1 a (.lst [.int (x0/((y.length:Nat):Int))])=H2 at a7 g2⊢;obtain⟨b4,bc⟩:=M.at hi;generalize hs:h.ss.getD i []=g at b4 bc;have C:=M.scr b4;have c5:=C.len;refine⟨l,y,h.ss.map eS,i,eS g,J,g2,a9 a7,J,by rw[bi,bc];rfl,λu4 e4 i4=>?_⟩;have b1:∀{G:Hp},yo H2 G->Is G (eS g) u4:=λtu=>Is.tups tu (bY.deeds _) i4;obtain⟨p4,zs,rfl,cs,c0⟩:=id i4;have da:zs.length=g.length:=by rw[c0.length,ag]
 obtain⟨x2,b3⟩:=a7.tape;refine⟨p4,zs,J,.inr (aG.of cs),_,_,J,J,a,x2,_,J,b3,by omega,by omega,λd1 dt dv=>?_⟩;obtain⟨k,rfl⟩:∃k:Nat,d1=(k:Int):=⟨d1.toNat,by omega⟩
 have bK:=a7.put (x2/((zs.length:Int)+1));have g3:upd H2 a (.lst [.int (x2/((zs.length:Int)+1))]) l=some (.lst y):=by rw[upd_ne ne];exact g2
 have bw:yo H2 (upd H2 a (.lst [.int (x2/((zs.length:Int)+1))])):=yo.upd b3 (λ_ z=>by cases z);generalize upd H2 a (.lst [.int (x2/((zs.length:Int)+1))])=H3 at bK g3 bw⊢;refine⟨_,J,_,_,J,J,_,J,g.map eD,b1 bw,λv5 G5 s5 i5=>?_⟩;refine⟨aI,λp6 G6 s6 n6 g6=>⟨aI,λp7 G7 s7 n7 g7=>?_⟩⟩;have c4:Zq (g.map eD) (some (k:Int)) (some ((k:Int)+1))=((g.drop k).take 1).map eD:=by have:=Bp (g.map eD) k (k+1) (by omega);rw[show k+1-k=1 by omega,<-List.map_drop,<-List.map_take]at this;exact this
 rw [c4]at i5;refine⟨_,[eD (.wor 1)],i5.mono (s6.trans s7),ka g7 (qS (s7 _ _ g6)),?_,λv8 G8 s8 i8=>?_⟩;rw[ag,bu];show min _ _+1<=1000;omega;obtain⟨d,hd,b6⟩:∃d,(((g.drop k).take 1).map eD++[eD (.wor 1)])[0]?=some (eD d)/\(d=.wor 1\/g[k]?=some d):=by rw[<-List.head?_eq_getElem?];cases e:g[k]? with| none=>rw[List.drop_eq_nil_of_le (List.getElem?_eq_none_iff.mp e)];exact⟨.wor 1,J,.inl J⟩| some d=>obtain⟨hk,rfl⟩:=ci.mp e;rw[List.drop_eq_getElem_cons hk];exact⟨_,J,.inr J⟩
 refine⟨_,0,eD d,i8,J,hd,λu9 i9=>?_⟩;have bG:zi H3 G8:=s5.trans (s6.trans (s7.trans s8));have bJ:=bK.same bG;have g8:=bG _ _ g3;obtain⟨x8,b2⟩:=bJ.tape;refine⟨a,x8,6,J,b2,by decide,by decide,λd2 dp dr=>?_⟩;obtain⟨o,rfl⟩:∃o:Nat,d2=(o:Int):=⟨d2.toNat,by omega⟩
 have B:=bJ.put (x8/6);have g9:upd G8 a (.lst [.int (x8/6)]) l=some (.lst y):=by rw[upd_ne ne];exact g8
 have bL:yo G8 (upd G8 a (.lst [.int (x8/6)])):=yo.upd b2 (λ_ z=>by cases z);have Z:Is (upd G8 a (.lst [.int (x8/6)])) (eD d) u9:=Is.tups bL (bY.deed _) i9;have cn:Is (upd G8 a (.lst [.int (x8/6)])) (eS g) (.ref p4):=b1 (bw.trans (bG.tups.trans bL));generalize upd G8 a (.lst [.int (x8/6)])=G9 at B g9 Z cn⊢;dsimp only[Ze,mD,Ends.sq,pz,tC,mK];refine Kq (t:=mC _ _ _) (λbI G=>∃(y8:Option V)(s':yf)(S:O V),bI=[some (.ref a),some v,some (.ref l),some (.int (i:Int)),some (.ref p4),some (.int (k:Int)),some u9,some (.int (o:Int)),y8]/\Tp [a,l] a H G/\G l=some (.lst S)/\IsL G ((h.ss.set i s').map eS) S/\Sc h.b p (t+1) s') ?_ (λb8=>?_);rintro bI G ⟨y8,s',S,rfl,tp,gl,il,C'⟩;refine⟨_,J,_,a2 tp,λv1 F1 W j1=>?_⟩;rw[yV]at j1;refine⟨l,S,J,.inl ⟨aM.of (W _ _ gl),λl2 c3=>?_⟩⟩;have R:=zi.new c3 (.tup S);have f2:upd F1 l2 (.tup S) l2=some (.tup S):=zf;generalize upd F1 l2 (.tup S)=F2 at R f2⊢;refine⟨aI,λc6 F3 r3 n3 f3=>?_⟩;have j2:Is F2 (.tup ((h.ss.set i s').map eS)) (.ref l2):=⟨l2,S,J,f2,il.mono (W.trans R)⟩
 refine⟨_,[.tup ((h.ss.set i s').map eS)],j1.mono (R.trans r3),ka f3 (j2.mono r3),(by show 3+1<=1000;decide),λv4 F4 r4 j4=>?_⟩;exact kk v4 F4 ⟨h.b,h.w,h.fs,h.ss.set i s'⟩ ((tp.same (W.trans (R.trans (r3.trans r4)))).drop bk) j4 J (M.bent ht C');have af:∀{G:Hp},Tp [a,l] a H G->Is G (eS g) (.ref p4):=λ{G} tp=>by obtain⟨u,F,e2⟩:=(a9 tp).get (i:=i) (t:=eS g) (by rw[bi,bc];rfl);obtain⟨u',b9,dn⟩:=(a9 a7).get (i:=i) (t:=eS g) (by rw[bi,bc];rfl);rw[F]at b9;cases b9;have:u=.ref p4:=Option.some.inj (F.symm.trans e4);rw[this]at e2;exact e2
 obtain⟨x9,co⟩:=B.tape;have bl:∀(y8:Option V)(G:Hp)(u:V)(s':yf),Tp [a,l] a H G->G l=some (.lst y)->Is G (eS s') u->Sc h.b p (t+1) s'->_:=λy8 G u s' tp gl iu C'=>b8 [some (.ref a),some v,some (.ref l),some (.int (i:Int)),some (.ref p4),some (.int (k:Int)),some u9,some (.int (o:Int)),y8] (upd G l (.lst (y.set i u))) ⟨y8,s',y.set i u,J,tp.puts (by simp) gl ne,zf,by rw[List.map_set];exact IsL.tups (yo.upd gl (λ_ z=>by cases z)) (by rw[<-List.map_set];exact bY.scripts _) (AR i (a9 tp) iu),C'⟩
 obtain⟨r,ir,er⟩:=Ac Z;refine rY (decide (V.str (dw d)=V.str "await")) (decide ((o:Int)<4)) (λQ q=>?_) (λQ q=>⟨_,_,J,J,_,J,q⟩) (λc1 c2=>?_) (λc=>?_);refine⟨_,0,.str (dw d),ir,J,J,λN F=>?_⟩;cases(show N=.str (dw d)from F);exact⟨J,_,J,q⟩;have c2:o<4:=by have:=c9 c2;omega
 obtain⟨b,m,rfl⟩:=E7 (V.str.inj (c9 c1));have ap:g[k]?=some (.awa b m):=by rcases b6 with z|z;cases z;exact z
 have bd:Kh (.awa b m)=none:=rfl;obtain⟨bD,bC,bN,cc⟩:=C.pl _ (bq ap);refine⟨_,1,.int b,Z,J,J,λN F=>?_⟩;cases(show N=.int b from F);refine⟨_,2,.int m,Z,J,J,λq2 e2=>?_⟩;cases(show q2=.int m from e2);refine⟨_,_,J,J,_,_,J,aI,λpA GA sA nA gA=>?_⟩;refine⟨_,1,.int b,Z.mono sA,J,J,λN F=>?_⟩;cases(show N=.int b from F);refine⟨_,2,.int m,Z.mono sA,J,J,λq2 e2=>?_⟩;cases(show q2=.int m from e2);refine⟨_,_,J,J,aI,λpB GB sB nB gB=>⟨aI,λlO GC sC nC gC=>?_⟩⟩;have iA:Is GC (eD (.awa b (if m-1>1 then m-1 else 1))) (.ref pA):=Xj (sC _ _ (sB _ _ gA));have iB:Is GC (eD (.awa b (m+1))) (.ref pB):=Xj (sC _ _ gB);have bB:=sA.trans (sB.trans sC);have aS:=B.same bB;obtain⟨xc,bb⟩:=aS.tape;have cl:lO≠a:=λz=>by rw[z,(sA.trans sB) _ _ co]at nC;cases nC
 refine⟨_,0,.int h.b,a2 aS,J,J,λN F=>?_⟩;cases(show N=.int h.b from F);refine⟨a,xc,h.b,J,bb,by omega,by have:=M.b99;omega,λd5 a3 a4=>?_⟩;have a5:=aS.put (xc/h.b);have a1:yo GC (upd GC a (.lst [.int (xc/h.b)])):=yo.upd bb (λ_ z=>by cases z);have gD:upd GC a (.lst [.int (xc/h.b)]) l=some (.lst y):=by rw[upd_ne ne];exact bB _ _ g9
 have b7:upd GC a (.lst [.int (xc/h.b)]) lO=some (.lst [.ref pA,.ref pB]):=by rw[upd_ne cl];exact gC
 have iA:=Is.tups a1 (bY.deed _) iA;have iB:=Is.tups a1 (bY.deed _) iB;have b0:=Is.tups a1 (bY.deed _) (Z.mono bB);generalize upd GC a (.lst [.int (xc/h.b)])=GD at a5 a1 gD b7 iA iB b0⊢;refine⟨_,2,.int m,b0,J,J,λq2 e2=>?_⟩;cases(show q2=.int m from e2);refine⟨aI,λpC GE sE nE gE=>⟨aI,λpD GF sF nF gF=>⟨aI,λlP GG sG nG gG=>?_⟩⟩⟩;have iC:Is GG (eD (.awa d5 m)) (.ref pC):=Xj (sG _ _ (sF _ _ gE));have iD:Is GG (eD (.wor 1)) (.ref pD):=qS (sG _ _ gF);have bM:=sE.trans (sF.trans sG);refine⟨lO,lP,_,_,J,J,bM _ _ b7,gG,aI,λlF cw=>?_⟩;have sH:=zi.new cw (.lst ([.ref pA,.ref pB]++[.ref pC,.ref pD]));have gF:upd GG lF (.lst ([.ref pA,.ref pB]++[.ref pC,.ref pD])) lF=some (.lst ([.ref pA,.ref pB]++[.ref pC,.ref pD])):=zf;generalize upd GG lF (.lst ([.ref pA,.ref pB]++[.ref pC,.ref pD]))=GO at sH gF⊢;have U:=bM.trans sH;have aw:=a5.same U;have bh:=U _ _ gD;obtain⟨es,ah⟩:∃es:O aD,es=[.awa b (if m-1>1 then m-1 else 1),.awa b (m+1),.awa d5 m,.wor 1]:=⟨_,J⟩
 have bE:IsL GO (es.map eD) ([.ref pA,.ref pB]++[.ref pC,.ref pD]):=by rw[ah];exact⟨_,_,J,iA.mono U,_,_,J,iB.mono U,_,_,J,iC.mono sH,_,_,J,iD.mono sH,J⟩
 obtain⟨e,he,bg⟩:∃e,es[o]?=some e/\Kh e=none/\fm h.b (100+(t+1:Nat)) e:=by
  have p0:∀m':Int,1<=m'->m'<=100+(t:Int)+1->fm h.b (100+(t+1:Nat)) (.awa b m'):=λm' h1 h2=>⟨bD,bC,h1,by omega⟩
  have p2:fm h.b (100+(t+1:Nat)) (.awa d5 m):=⟨a3,a4,bN,by omega⟩
  rw[ah]
  match o,c2 with|0,_=>exact⟨_,J,J,p0 _ (by split<;>omega) (by split<;>omega)⟩|1,_=>exact⟨_,J,J,p0 _ (by omega) (by omega)⟩|2,_=>exact⟨_,J,J,p2⟩|3,_=>exact⟨_,J,J,(by decide:(0:Int)<=1/\(1:Int)<=999)⟩
 refine⟨_,J,g.map eD,af aw,λv1 F1 W j1=>?_⟩;rw[Vi,<-List.map_take]at j1;refine⟨lF,_,es.map eD,o,eD e,J,W _ _ gF,bE.mono W,J,by rw[bi,he];rfl,λq _ jq=>⟨aI,λp2 F2 R n2 f2=>?_⟩⟩;refine⟨_,[eD e],j1.mono R,ka f2 (jq.mono R),?_,λv3 F3 r3 j3=>?_⟩;rw[ag,bu];show min _ _+1<=1000;omega;have L:=W.trans (R.trans r3);refine⟨_,_,J,J,_,J,g.map eD,(af aw).mono L,λv4 F4 r4 j4=>?_⟩;rw[Y4,<-List.map_drop]at j4;refine⟨_,_,j3.mono r4,j4,?_,λv5 F5 r5 j5=>?_⟩;rw[az,ag,ag,bu,List.length_drop];show min _ _+1+_<=1000;omega;have x:=L.trans (r4.trans r5);have j5:Is F5 (eS (g.take k++[e]++g.drop (k+1))) v5:=by have:g.take k++[e]++g.drop (k+1)=g.take k++[e]++g.drop (k+1):=rfl;unfold eS;rw[aq,aq];exact j5
 exact⟨l,y,_,i,J,J,x _ _ bh,su (by omega),bl _ F5 v5 _ (aw.same x) (x _ _ bh) j5 (C.other ap bd bg.1 bg.2)⟩;refine rY (decide (V.str (dw d)=V.str "raise")) (decide ((o:Int)<4)) (λQ q=>?_) (λQ q=>⟨_,_,J,J,_,J,q⟩) (λc1 c2=>?_) (λc=>?_);refine⟨_,0,.str (dw d),ir,J,J,λN F=>?_⟩;cases(show N=.str (dw d)from F);exact⟨J,_,J,q⟩;have c2:o<4:=by have:=c9 c2;omega
 obtain⟨b,m,rfl⟩:=FL (V.str.inj (c9 c1));have ap:g[k]?=some (.rai b m):=by rcases b6 with z|z;cases z;exact z
 have bd:Kh (.rai b m)=none:=rfl;obtain⟨bD,bC,bN,cc⟩:=C.pl _ (bq ap);refine⟨_,1,.int b,Z,J,J,λN F=>?_⟩;cases(show N=.int b from F);refine⟨aI,λpA GA sA nA gA=>?_⟩;have aS:=B.same sA;obtain⟨xc,bb⟩:=aS.tape;refine⟨_,0,.int h.b,a2 aS,J,J,λN F=>?_⟩;cases(show N=.int h.b from F);refine⟨a,xc,h.b,J,bb,by omega,by have:=M.b99;omega,λd5 a3 a4=>?_⟩;have a5:=aS.put (xc/h.b);have a1:yo GA (upd GA a (.lst [.int (xc/h.b)])):=yo.upd bb (λ_ z=>by cases z);have gD:upd GA a (.lst [.int (xc/h.b)]) l=some (.lst y):=by rw[upd_ne ne];exact sA _ _ g9
 have iA:Is GA (eD (.rai b 2)) (.ref pA):=Vu gA;have iA:=Is.tups a1 (bY.deed _) iA;generalize upd GA a (.lst [.int (xc/h.b)])=GD at a5 a1 gD iA⊢;refine⟨aI,λpB GB sB nB gB=>⟨aI,λpC GE sE nE gE=>⟨aI,λpD GG sG nG gG=>⟨aI,λlF GO sH nH gF=>?_⟩⟩⟩⟩;have iB:Is GO (eD (.rai d5 1)) (.ref pB):=Vu (sH _ _ (sG _ _ (sE _ _ gB)));have iC:Is GO (eD (.wor 3)) (.ref pC):=qS (sH _ _ (sG _ _ gE));have iD:Is GO (eD (.wor 0)) (.ref pD):=qS (sH _ _ gG);have U:=sB.trans (sE.trans (sG.trans sH));have aw:=a5.same U;have bh:=U _ _ gD;obtain⟨es,ah⟩:∃es:O aD,es=[.rai b 2,.rai d5 1,.wor 3,.wor 0]:=⟨_,J⟩
 have bE:IsL GO (es.map eD) [.ref pA,.ref pB,.ref pC,.ref pD]:=by rw[ah];exact⟨_,_,J,iA.mono U,_,_,J,iB,_,_,J,iC,_,_,J,iD,J⟩
 obtain⟨e,he,bg⟩:∃e,es[o]?=some e/\Kh e=none/\fm h.b (100+(t+1:Nat)) e:=by
  have p0:fm h.b (100+(t+1:Nat)) (.rai b 2):=⟨bD,bC,by decide,by decide⟩
  have p2:fm h.b (100+(t+1:Nat)) (.rai d5 1):=⟨a3,a4,by decide,by decide⟩
  rw[ah]
  match o,c2 with|0,_=>exact⟨_,J,J,p0⟩|1,_=>exact⟨_,J,J,p2⟩|2,_=>exact⟨_,J,J,(by decide:(0:Int)<=3/\(3:Int)<=999)⟩|3,_=>exact⟨_,J,J,(by decide:(0:Int)<=0/\(0:Int)<=999)⟩
 refine⟨_,J,g.map eD,af aw,λv1 F1 W j1=>?_⟩;rw[Vi,<-List.map_take]at j1;refine⟨lF,_,es.map eD,o,eD e,J,W _ _ gF,bE.mono W,J,by rw[bi,he];rfl,λq _ jq=>⟨aI,λp2 F2 R n2 f2=>?_⟩⟩;refine⟨_,[eD e],j1.mono R,ka f2 (jq.mono R),?_,λv3 F3 r3 j3=>?_⟩;rw[ag,bu];show min _ _+1<=1000;omega;have L:=W.trans (R.trans r3);refine⟨_,_,J,J,_,J,g.map eD,(af aw).mono L,λv4 F4 r4 j4=>?_⟩;rw[Y4,<-List.map_drop]at j4;refine⟨_,_,j3.mono r4,j4,?_,λv5 F5 r5 j5=>?_⟩;rw[az,ag,ag,bu,List.length_drop];show min _ _+1+_<=1000;omega;have x:=L.trans (r4.trans r5);have j5:Is F5 (eS (g.take k++[e]++g.drop (k+1))) v5:=by have:g.take k++[e]++g.drop (k+1)=g.take k++[e]++g.drop (k+1):=rfl;unfold eS;rw[aq,aq];exact j5
 exact⟨l,y,_,i,J,J,x _ _ bh,su (by omega),bl _ F5 v5 _ (aw.same x) (x _ _ bh) j5 (C.other ap bd bg.1 bg.2)⟩;refine rY (decide (V.int (o:Int)=V.int 4)) (decide ((0:Int)<h.b)) (λQ q=>⟨J,_,J,q⟩) (λQ q=>?_) (λc1 c2=>?_) (λc=>?_);refine⟨_,0,.int h.b,a2 B,J,J,λN F=>?_⟩;cases(show N=.int h.b from F);exact⟨_,_,J,J,_,J,q⟩;have hb:0<h.b:=c9 c2;refine⟨_,J,g.map eD,af B,λv1 F1 W j1=>?_⟩;rw[Vi,<-List.map_take]at j1;have ay:=B.same W;obtain⟨xf,ba⟩:=ay.tape;refine⟨_,0,.int h.b,a2 ay,J,J,λN F=>?_⟩;cases(show N=.int h.b from F);refine⟨a,xf,h.b,J,ba,hb,by have:=M.b99;omega,λd5 a3 a4=>?_⟩;have av:=ay.put (xf/h.b);have gP:upd F1 a (.lst [.int (xf/h.b)]) l=some (.lst y):=by rw[upd_ne ne];exact W _ _ g9
 have a8:Is (upd F1 a (.lst [.int (xf/h.b)])) (.tup ((g.take k).map eD)) v1:=Is.tups (yo.upd ba (λ_ z=>by cases z)) (bY.deeds _) j1;generalize upd F1 a (.lst [.int (xf/h.b)])=FP at av gP a8⊢;refine⟨aI,λpA GA sA nA gA=>⟨aI,λp2 F2 R n2 f2=>?_⟩⟩;have iA:Is GA (eD (.rai d5 1)) (.ref pA):=Vu gA;refine⟨_,[eD (.rai d5 1)],a8.mono (sA.trans R),ka f2 (iA.mono R),?_,λv3 F3 r3 j3=>?_⟩;rw[ag,bu];show min _ _+1<=1000;omega;have L:=sA.trans (R.trans r3);have a6:=av.same L;refine⟨_,J,g.map eD,af a6,λv4 F4 r4 j4=>?_⟩;rw[Wn,<-List.map_drop]at j4;refine⟨_,_,j3.mono r4,j4,?_,λv5 F5 r5 j5=>?_⟩;rw[az,ag,ag,bu,List.length_drop];show min _ _+1+_<=1000;omega;have x:=L.trans (r4.trans r5);have j5:Is F5 (eS (g.take k++[.rai d5 1]++g.drop k)) v5:=by unfold eS;rw[aq,aq];exact j5
 exact⟨l,y,_,i,J,J,x _ _ gP,su (by omega),bl _ F5 v5 _ (av.same x) (x _ _ gP) j5 (C.more k J ⟨a3,a4,by decide,by omega⟩)⟩;refine rY (decide (V.int (o:Int)=V.int 5)) (decide ((0:Int)<h.b)) (λQ q=>⟨J,_,J,q⟩) (λQ q=>?_) (λc1 c2=>?_) (λc=>?_);refine⟨_,0,.int h.b,a2 B,J,J,λN F=>?_⟩;cases(show N=.int h.b from F);exact⟨_,_,J,J,_,J,q⟩;have hb:0<h.b:=c9 c2;refine⟨_,J,g.map eD,af B,λv1 F1 W j1=>?_⟩;rw[Vi,<-List.map_take]at j1;have ay:=B.same W;obtain⟨xf,ba⟩:=ay.tape;refine⟨_,0,.int h.b,a2 ay,J,J,λN F=>?_⟩;cases(show N=.int h.b from F);refine⟨a,xf,h.b,J,ba,hb,by have:=M.b99;omega,λd5 a3 a4=>?_⟩;have av:=ay.put (xf/h.b);have gP:upd F1 a (.lst [.int (xf/h.b)]) l=some (.lst y):=by rw[upd_ne ne];exact W _ _ g9
 have a8:Is (upd F1 a (.lst [.int (xf/h.b)])) (.tup ((g.take k).map eD)) v1:=Is.tups (yo.upd ba (λ_ z=>by cases z)) (bY.deeds _) j1;generalize upd F1 a (.lst [.int (xf/h.b)])=FP at av gP a8⊢;refine⟨aI,λpA GA sA nA gA=>⟨aI,λp2 F2 R n2 f2=>?_⟩⟩;have iA:Is GA (eD (.awa d5 1)) (.ref pA):=Xj gA;refine⟨_,[eD (.awa d5 1)],a8.mono (sA.trans R),ka f2 (iA.mono R),?_,λv3 F3 r3 j3=>?_⟩;rw[ag,bu];show min _ _+1<=1000;omega;have L:=sA.trans (R.trans r3);have a6:=av.same L;refine⟨_,J,g.map eD,af a6,λv4 F4 r4 j4=>?_⟩;rw[Wn,<-List.map_drop]at j4;refine⟨_,_,j3.mono r4,j4,?_,λv5 F5 r5 j5=>?_⟩;rw[az,ag,ag,bu,List.length_drop];show min _ _+1+_<=1000;omega;have x:=L.trans (r4.trans r5);have j5:Is F5 (eS (g.take k++[.awa d5 1]++g.drop k)) v5:=by unfold eS;rw[aq,aq];exact j5
 exact⟨l,y,_,i,J,J,x _ _ gP,su (by omega),bl _ F5 v5 _ (av.same x) (x _ _ gP) j5 (C.more k J ⟨a3,a4,by decide,by omega⟩)⟩;exact b8 _ G9 ⟨_,g,y,J,B,g9,by
  have:h.ss.set i g=h.ss:=by refine List.ext_getElem? λj=>?_;by_cases z:i=j;subst z;rw[List.getElem?_set_self (by rw[M.ss];exact hi),bc];rw[List.getElem?_set_ne z]
  rw[this];exact a9 B,C.mono⟩
end
noncomputable abbrev wP:Stmt:=aX 90
noncomputable def qI(b B:Int):aD->Bool|.rai x k=>decide (0<=x) && decide (x<b) && decide (1<=k) && decide (k<=99)|.awa x m=>decide (0<=x) && decide (x<b) && decide (1<=m) && decide (m<=B)|.say x=>decide (x="come") ||decide (x="go")|_=>false
theorem Hv{d:aD}(h:qI b B d=true):fm b B d:=by cases d with|rai x k=>simp only[qI,cp,decide_eq_true_eq]at h;exact⟨h.1.1.1,h.1.1.2,h.1.2,h.2⟩|awa x k=>simp only[qI,cp,decide_eq_true_eq]at h;exact⟨h.1.1.1,h.1.1.2,h.1.2,h.2⟩|say x=>simp only[qI,Bool.or_eq_true,decide_eq_true_eq]at h;exact h|_=>cases h
noncomputable def De(kd:Str)(n i p:Nat):Bool:=decide ((eI kd n i p).length<=16) && (decide (yz (eI kd n i p)=cT p) && (eI kd n i p).all (qI (mj kd n) 100))
theorem HR(kd:Str)(hk:kd="shared"\/kd="own"\/kd="spread"\/kd="tree"):∀n,n<6->∀p,p<3->∀i,i<n->De kd n i p=true:=by rcases hk with rfl|rfl|rfl|rfl<;>decide+kernel
theorem GY(hk:kd="shared"\/kd="own"\/kd="spread"\/kd="tree"){n:Nat}(k:1<=n)(j:n<=5)(e:p<=2):bX (My.hk kd n p) n p 0:=by
 have b:=EU (kd:=kd) (n:=n) (by omega);refine⟨b.1,b.2,J,k,j,e,by decide,?_,?_,λc h=>?_,λi a=>?_,λs f=>?_⟩;show((List.range n).map _).length=n;rw[ag,ei];show((List.range n).map _).length=n;rw[ag,ei];obtain⟨i,a,rfl⟩:=bz.mp h
 simp_all
 exact bz.mpr ⟨i,du.mpr a,J⟩;obtain⟨i,a,rfl⟩:=bz.mp f;have q:=HR kd hk n (by omega) p (by omega) i (du.mp a);simp only[De,cp,decide_eq_true_eq,dy]at q;exact⟨q.1,q.2.1,λd g=>Hv (q.2.2 d g)⟩
theorem bX.turn{h:aB}{n t:Nat}(M:bX h n p t)(j:Nat):bX ⟨h.b,h.w,h.fs.drop j++h.fs.take j,h.ss⟩ n p t:=by
 have e:∀c,c∈h.fs.drop j++h.fs.take j↔c∈h.fs:=λc=>by rw[ce,Or.comm,<-ce,List.take_append_drop]
 refine⟨M.b0,M.b99,M.w0,M.n1,M.n5,M.p2,M.t2,M.ss,?_,λc b=>M.call c ((e c).mp b),λi a=>(e _).mpr (M.all i a),M.sc⟩;have:=M.fl
 grind
inductive mU(vs:List V)(H:Hp)(Q:VK)(e0:XK):Prop|mk:∀(a:Addr)(x:Int),vs=[.ref a]->H a=some (.lst [.int x])->(∀v H' (h:aB) (n p t:Nat),Tp [a] a H H'->bX h n p t->Is H' (.tup [eH h,.int (n:Int),.int (p:Int)]) v->Q v H')->mU vs H Q e0
theorem Tp.trans{M:O Y}{a:Y}{H G b:Hp}(p:Tp M a H G)(q:Tp M a G b):Tp M a H b:=⟨p.mem,q.tape,p.bt.trans q.bt,p.tu.trans q.tu⟩
section
variable{K:W.Frag}
theorem BO:aA ["tape","n","p","house","turn","at","firsts"] ["tape"] (zk wP):=.of
theorem IU(D:aY K mg "_law_awall" wP)(T:Txt K mg)(F:Ok P w K mg base "_law_adigit" 1 ["tape","many"] ip)(oM:Ok P w K mg base "_law_amade" 2 ["kind","n","p"] oj)(oB:Ok P w K mg base "_law_abent_made" 2 ["tape","house"] og):Ok P w K mg base "_law_awall" 4 ["tape"] mU:=by
 refine qk (k:=3) D BO ?_;rintro f bD A ay s H vs Q E hr ⟨a,b,rfl,ha,kk⟩ X;have g:=BO.nd;have c:=hr.mono (show 1<=3 by decide);refine⟨_,ze (zr (i:=1) g (ye wb zg (yc F c (zc (pv 0) (zc zg zd))))) (ze (zr (i:=2) g (yc F c (zc (pv 0) (zc zg zd)))) (ze (zr (i:=3) g (yc oM (hr.mono (by decide)) (zc (zp qg (vf (zc zo (zc zo (zc zo (zc zo zd))))) (yc F c (zc (pv 0) (zc zg zd)))) (zc (pv 1) (zc (pv 2) zd))))) (ze (w9 PassesOwn.never J (va J T.range (zc (yc F c (zc (pv 0) (zc zg zd))) zd)) (ya (i:=4) g) (zh (zr (i:=3) g (yc oB (hr.mono (by decide)) (zc (pv 0) (zc (pv 3) zd)))))) (ze (zr (i:=5) g (yc F c (zc (pv 0) (zc (pv 1) zd)))) (ze (zr (i:=6) g (ye wv (ye wv (yx js (zp wg (pv 3) zg) (y1 (pv 5)) (y1 (pv 1))) (yx js (zp wg (pv 3) zg) xn (y1 (pv 5)))) (yx js (zp wg (pv 3) zg) (y1 (pv 1)) xn))) (zh (zt (yg (zc (yg (zc (zp wg (pv 3) zg) (zc (zp wg (pv 3) zg) (zc (pv 6) (zc (zp wg (pv 3) zg) zd))))) (zc (pv 1) (zc (pv 2) zd))))))))))),?_⟩
 have ah:Tp [a] a H H:=⟨bo,⟨b,ha⟩,Bt.refl,yo.refl _⟩
 refine⟨a,b,5,J,ha,by decide,by decide,λd1 bB bC=>⟨_,_,J,J,?_⟩⟩;obtain⟨n,hn,n1,n5⟩:∃n:Nat,1+d1=(n:Int)/\1<=n/\n<=5:=⟨(1+d1).toNat,by omega,by omega,by omega⟩
 rw[hn];have q:=ah.put (b/5);have g1:upd H a (.lst [.int (b/5)]) a=some (.lst [.int (b/5)]):=zf;generalize upd H a (.lst [.int (b/5)])=H1 at q g1⊢;refine⟨a,_,3,J,g1,by decide,by decide,λd2 bl bw=>?_⟩;obtain⟨p,rfl⟩:∃p:Nat,d2=(p:Int):=⟨d2.toNat,by omega⟩
 have o:=q.put (b/5/3);have g2:upd H1 a (.lst [.int (b/5/3)]) a=some (.lst [.int (b/5/3)]):=zf;generalize upd H1 a (.lst [.int (b/5/3)])=H2 at o g2⊢;refine⟨aI,λlk G1 s1 L gk=>?_⟩;have aS:lk≠a:=λz=>by rw[z,g2]at L;cases L
 refine⟨a,_,4,J,s1 _ _ g2,by decide,by decide,λd3 bk a5=>?_⟩;obtain⟨Z,rfl⟩:∃Z:Nat,d3=(Z:Int):=⟨d3.toNat,by omega⟩
 have m:=(o.same s1).put (b/5/3/4);have g3:upd G1 a (.lst [.int (b/5/3/4)]) a=some (.lst [.int (b/5/3/4)]):=zf;have W:upd G1 a (.lst [.int (b/5/3/4)]) lk=some (.lst [.str "shared",.str "own",.str "spread",.str "tree"]):=by rw[upd_ne aS];exact gk
 generalize upd G1 a (.lst [.int (b/5/3/4)])=G2 at m g3 W⊢;obtain⟨d,a2,U⟩:∃d:Str,([.str "shared",.str "own",.str "spread",.str "tree"]:O V)[Z]?=some (.str d)/\(d="shared"\/d="own"\/d="spread"\/d="tree"):=by match Z,a5 with|0,_=>exact⟨_,J,.inl J⟩|1,_=>exact⟨_,J,.inr (.inl J)⟩|2,_=>exact⟨_,J,.inr (.inr (.inl J))⟩|3,_=>exact⟨_,J,.inr (.inr (.inr J))⟩|k+4,z=>exact absurd z (by omega)
 refine⟨lk,_,_,_,J,J,aM.of W,wx a2,d,n,p,J,U,n1,by omega,by omega,λv3 G3 s3 i3=>?_⟩;have M0:=GY U n1 n5 (p:=p) (by omega);have af:=m.same s3;have g4:=s3 _ _ g3;refine⟨a,_,3,J,g4,by decide,by decide,λd4 bg bh=>?_⟩;have l:=af.put (b/5/3/4/3);have i5:Is (upd G3 a (.lst [.int (b/5/3/4/3)])) (eH (My.hk d n p)) v3:=Is.tups (yo.upd g4 (λ_ z=>by cases z)) (wo _) i3;generalize upd G3 a (.lst [.int (b/5/3/4/3)])=G4 at l i5⊢;refine⟨d4,J,by omega,by omega,?_⟩;refine ko (lo:=0) (n:=d4.toNat) (λj σ G=>∃(h:aB)(v:V)(x4:Option V),σ=[some (.ref a),some (.int (n:Int)),some (.int (p:Int)),some v,x4,none,none]/\Tp [a] a H G/\Is G (eH h) v/\bX h n p j) ⟨_,v3,none,J,l,i5,M0⟩ ?_ ?_;rintro j σ G hj ⟨h,v,x4,rfl,r,iv,M⟩;obtain⟨x,hx⟩:=r.tape;refine⟨a,x,v,h,n,p,j,J,hx,iv,M,by omega,λv' H' h' ap i' _ M'=>?_⟩;exact⟨h',v',_,J,r.trans ap,i',M'⟩;rintro σ G ⟨h,v,x4,rfl,r,iv,M⟩;obtain⟨x,hx⟩:=r.tape;refine⟨a,x,_,J,hx,by omega,by omega,λd5 bc bd=>?_⟩;obtain⟨j,rfl⟩:∃j:Nat,d5=(j:Int):=⟨d5.toNat,by omega⟩
 have i:=r.put (x/(n:Int));have N:Is (upd G a (.lst [.int (x/(n:Int))])) (eH h) v:=Is.tups (yo.upd hx (λ_ z=>by cases z)) (wo _) iv;generalize upd G a (.lst [.int (x/(n:Int))])=G6 at i N⊢;have fl:=M.fl;refine⟨[.int h.b,.int h.w,.tup (h.fs.map eC),.tup (h.ss.map eS)],2,_,N,J,J,λu1 e1=>⟨_,J,_,J,_,e1,λv7 G7 s7 i7=>?_⟩⟩;refine⟨[.int h.b,.int h.w,.tup (h.fs.map eC),.tup (h.ss.map eS)],2,_,N.mono s7,J,J,λu2 e2=>⟨_,J,_,e2,λv8 G8 s8 i8=>?_⟩⟩;rw[Bp _ _ _ (by omega),<-List.map_drop,<-List.map_take]at i7;rw[Vi,<-List.map_take]at i8;have ef:(h.fs.drop j).take (n-j)=h.fs.drop j:=List.take_of_length_le (by rw[List.length_drop];omega);rw[ef]at i7;refine⟨_,_,i7.mono s8,i8,by rw[ag,ag,List.length_drop,bu];omega,λv9 G9 s9 i9=>?_⟩;have u:=s7.trans (s8.trans s9);refine⟨[.int h.b,.int h.w,.tup (h.fs.map eC),.tup (h.ss.map eS)],2,_,N.mono u,J,J,λu3 e3=>⟨_,J,_,e3,λa9 bG B S=>?_⟩⟩;rw[Wn,<-List.map_drop,List.drop_eq_nil_of_le (show h.fs.length<=n by omega)]at S;refine⟨_,_,i9.mono B,S,?_,λa8 bE av R=>?_⟩;rw[az,ag,ag,List.length_drop,bu];show _+0<=1000;omega;rw[show List.map eC (h.fs.drop j)++List.map eC (h.fs.take j)++List.map eC []=(h.fs.drop j++h.fs.take j).map eC by rw[aq];exact cm _]at R;have t:=u.trans (B.trans av);have iE:=N.mono t;refine⟨_,0,.int h.b,iE,J,J,λq1 e1=>?_⟩;cases(show q1=.int h.b from e1);refine⟨_,1,.int h.w,iE,J,J,λq2 e2=>?_⟩;cases(show q2=.int h.w from e2);refine⟨_,3,.tup (h.ss.map eS),iE,J,J,λq4 e4=>⟨aI,λC a7 e bb a4=>?_⟩⟩;have a1:Is a7 (eH ⟨h.b,h.w,h.fs.drop j++h.fs.take j,h.ss⟩) (.ref C):=⟨C,_,J,a4,_,_,J,J,_,_,J,J,_,_,J,R.mono e,_,_,J,e4.mono e,J⟩
 refine⟨aI,λaw a6 y ba a3=>?_⟩;exact kk _ a6 ⟨h.b,h.w,h.fs.drop j++h.fs.take j,h.ss⟩ n p _ (i.same (t.trans (e.trans y))) (M.turn j) ⟨aw,_,J,a3,_,_,J,a1.mono y,_,_,J,J,_,_,J,J,J⟩
end
noncomputable abbrev sP:Stmt:=aX 93
theorem FM{d:aD}(h:dw d="say"):∃x,d=.say x:=by cases d<;>first|exact⟨_,J⟩|exact absurd h (by simp only[dw];decide+kernel)
theorem LA(s:yf)(j:Nat)(w:Str):yz (s.take j++[.say w]++s.drop j)≠yz s:=λz=>by have e:=congrArg List.length z;have a:=congrArg List.length (vy (s.take j) (s.drop j));rw[List.take_append_drop,az]at a;rw[vy,vy,az,az,a]at e;have:(yz [aD.say w]).length=1:=rfl;omega
theorem Lz{s:yf}{k:Nat}(h:s[k]?=some (.say x)):yz (s.take k++s.drop (k+1))≠yz s:=λz=>by have e:=congrArg List.length z;have a:=congrArg (λl=>(yz l).length) (ur h);simp only[vy,az]at e a;have:(yz [aD.say x]).length=1:=rfl;omega
theorem MX{s:yf}{k:Nat}{w:Str}(h:s[k]?=some (.say x))(b:w≠x):yz (s.take k++[.say w]++s.drop (k+1))≠yz s:=λz=>by
 have a:=congrArg yz (ur h);rw[a,vy,vy,vy,vy]at z;have q:=List.append_cancel_right z;have q:=List.append_cancel_left q;injection q with q
 grind
inductive dG(n p:Nat)(t:L2.T):Prop|mk:∀hs,t=eH hs->aO hs->isMade hs n p=false->dG n p t
theorem dG.fro{n:Nat}{t:L2.T}(h:dG n p t):bY t:=by obtain⟨a,rfl,_⟩:=h;exact wo _
inductive nI(vs:List V)(H:Hp)(Q:VK)(e0:XK):Prop|mk:∀(a:Addr)(x:Int)(v:V)(h:aB)(n p t:Nat),vs=[.ref a,v]->H a=some (.lst [.int x])->Is H (eH h) v->bX h n p t->(∀l H' (ts:List L2.T) (zs:List V),Tp [a] a H H'->H l=none->H' l=some (.lst zs)->IsL H' ts zs->(∀t∈ts,dG n p t)->ts.length<=5->Q (.ref l) H')->nI vs H Q e0
theorem Tp.more{N:O Y}(p:Tp M a H G)(s:∀x∈M,x∈N):Tp N a H G:=⟨s _ p.mem,p.tape,p.bt.mono s,p.tu⟩
structure Od(a l:Addr)(H G:Hp)(n p m:Nat):Prop where
 tp:Tp [a,l] a H G
 ne:l≠a
 ls:∃(ts:List L2.T)(zs:List V),G l=some (.lst zs)/\IsL G ts zs/\(∀t∈ts,dG n p t)/\ts.length<=m
theorem Od.same{a l:Y}{H G b:Hp}{n p m:Nat}(o:Od a l H G n p m)(s:zi G b):Od a l H b n p m:=by obtain⟨d,c,h,g,f,e⟩:=o.ls;exact⟨o.tp.same s,o.ne,d,c,s _ _ h,g.mono s,f,e⟩
theorem qu.odd{n:Nat}{a:O L2.T}(h:∀t∈a,dG n p t):qu a:=by rw[qu.all];exact λt b=>(h t b).fro
theorem Od.put{a l:Y}{H G:Hp}{n p m:Nat}(o:Od a l H G n p m)(y:Int):Od a l H (upd G a (.lst [.int y])) n p m:=by obtain⟨d,c,g,f,b,e⟩:=o.ls;obtain⟨x,hx⟩:=o.tp.tape;exact⟨o.tp.put y,o.ne,d,c,by rw[upd_ne o.ne];omega,IsL.tups (yo.upd hx (λ_ z=>by cases z)) (qu.odd b) f,b,e⟩
theorem Od.app{n:Nat}(o:Od a l H G n p m){t:L2.T}(i:Is G t v)(f:dG n p t):∃zs,G l=some (.lst zs)/\zs.length<=m/\Od a l H (upd G l (.lst (zs++[v]))) n p (m+1):=by
 obtain⟨e,zs,b,d,g,j⟩:=o.ls;have c:yo G (upd G l (.lst (zs++[v]))):=yo.upd b (λ_ z=>by cases z);refine⟨zs,b,by rw[d.length];omega,o.tp.puts (by simp) b o.ne,o.ne,e++[t],zs++[v],zf,qt (IsL.tups c (qu.odd g) d) (qh (Is.tups c f.fro i)),λu h=>?_,by simp_all⟩
 grind
theorem Od.weak{n b:Nat}(o:Od a l H G n p m)(h:m<=b):Od a l H G n p b:=by obtain⟨d,c,g,f,e,i⟩:=o.ls;exact⟨o.tp,o.ne,d,c,g,f,e,by omega⟩
theorem GI(w x:Str):PyData.eqv (aT (eD (.say w))) (aT (eD (.say x)))=decide (w=x):=by
 simp only[eD,aT,jd,PyData.eqv,PyData.eqvAll]
 grind
theorem BM{w:Str}(h:PyData.strOk w=true):(aT (eD (.say w))).canLay0=true:=by
 have a:PyData.strOk "say"=true:=by decide+kernel
 simp[eD,aT,jd,PyData.canLay0,PyData.canLayAll0,h,a]
theorem Mb(w:Str):(aT (eD (.say w))).depth<=20:=by simp[eD,aT,jd,PyData.depth,PyData.depthAll]
noncomputable def J2(s:yf)(k:Nat):Bool:=match s[k]? with|some d=>decide (V.str (dw d)=V.str "say")|none=>false
noncomputable def eX:yf:=[.wor 1,.say "ok"]
theorem BS:yz eX≠[]:=by
 have:yz eX=[("ok":Str)]:=rfl
 simp_all
section
variable{K:W.Frag}
theorem A1:aA ["tape","house","i","script","says","at","more","some","k","word","said","begin"] ["tape","house"] (zk sP):=.of
theorem HY(D:aY K mg "_law_aodd_says" sP)(T:Txt K mg)(oD:Ok P w K mg base "_law_adigit" 1 ["tape","many"] ip)(oW:Ok P w K mg base "_law_awith" 1 ["house","i","script"] kY):Ok P w K mg base "_law_aodd_says" 2 ["tape","house"] nI:=by
 refine qk (k:=1) D A1 ?_;rintro f hI A eu s H vs Q E hr ⟨a,x0,v,h,n,p,t,rfl,ha,hv,M,kk⟩ X;have nd:=A1.nd;have hu:=hr.units;have fv:=eh (Nat.le_add_right _ 64) hu;refine⟨_,ze (zr (i:=2) nd (yc oD hr (zc (pv 0) (zc (yh ym (by rfl) T.len vm (zc (zp wg (pv 1) zg) zd)) zd)))) (ze (zr (i:=3) nd (zp wg (zp wg (pv 1) zg) (pv 2))) (ze (ut (i:=4) (own:=["k"]) (cap:=[3]) J (we (zk sP) J J (by decide+kernel) (by decide+kernel) (by decide+kernel) ⟨⟨_,J,.inl J,jw J⟩,trivial⟩) (va (by rfl) T.range (zc (yh ym (by rfl) T.len vm (zc (pv 3) zd)) zd)) (λ_ _ _ _=>ya (i:=0) (by show(["k","script"]:List Str).Nodup;decide+kernel)) (λ_ _ _ _=>Yo (zu wt (zp wg (zp wg (pv 1) (pv 0)) zg) zo (yb _))) (λ_ _ _ _=>pv 0) nd J J J)
  (ze (zr (i:=5) nd (yc oD hr (zc (pv 0) (zc (ye wb (yh ym (by rfl) T.len vm (zc (pv 3) zd)) zg) zd)))) (ze (zr (i:=6) nd (yg (zc zo (zc (zp qg (vf (zc zo (zc zo (zc zo zd)))) (yc oD hr (zc (pv 0) (zc zg zd)))) zd)))) (ze (zr (i:=7) nd (vf (zc (yc oW hr (zc (pv 1) (zc (pv 2) (zc (ye wv (ye wv (yx js (pv 3) xn (y1 (pv 5))) (yg (zc (pv 6) zd))) (yx js (pv 3) (y1 (pv 5)) xn)) zd)))) zd))) (ze (yj (zu (Hk fv) (pv 4) (vf zd) (yb _)) (ze (zr (i:=8) nd (zp qg (pv 4) (yc oD hr (zc (pv 0) (zc (yh ym (by rfl) T.len vm (zc (pv 4) zd)) zd))))) (ze (zr (i:=9) nd (zp qg (vf (zc zo (zc zo (zc zo (zc zo zd))))) (yc oD hr (zc (pv 0) (zc zg zd))))) (ze (yj (zu (Hl hu) (yg (zc zo (zc (pv 9) zd))) (zp wg (pv 3) (pv 8)) (yb _)) (zh (xl (Zi PySem.F.plainAttrs_list PySem.F.slot_list_append PySem.F.type_list_append vi (pv 7) (zc (yc oW hr (zc (pv 1) (zc (pv 2) (zc (ye wv (ye wv (yx js (pv 3) xn (y1 (pv 8))) (yg (zc (yg (zc zo (zc (pv 9) zd))) zd))) (yx js (pv 3) (y1 (ye wb (pv 8) zg)) xn)) zd)))) zd)))) zy)
   (zh (xl (Zi PySem.F.plainAttrs_list PySem.F.slot_list_append PySem.F.type_list_append vi (pv 7) (zc (yc oW hr (zc (pv 1) (zc (pv 2) (zc (ye wv (yx js (pv 3) xn (y1 (pv 8))) (yx js (pv 3) (y1 (ye wb (pv 8) zg)) xn)) zd)))) zd))))))) zy)
  (ze (zr (i:=10) nd (yg (zc (yg (zc zo (zc zg zd))) (zc (yg (zc zo (zc zo zd))) zd)))) (ze (xl (Zi PySem.F.plainAttrs_list PySem.F.slot_list_append PySem.F.type_list_append vi (pv 7) (zc (yg (zc (zp wg (pv 1) zg) (zc (zp wg (pv 1) zg) (zc (ye wv (zp wg (pv 1) zg) (yg (zc (yg (zc (yh ym (by rfl) T.len vm (zc (zp wg (pv 1) zg) zd)) (zc (yg zd) zd))) zd))) (zc (ye wv (zp wg (pv 1) zg) (yg (zc (pv 10) zd))) zd))))) zd))) (ze (zr (i:=11) nd (yg (zc (yg (zc zo (zc (yh ym (by rfl) T.len vm (zc (zp wg (pv 1) zg) zd)) (zc (yg zd) zd)))) zd))) (ze (xl (Zi PySem.F.plainAttrs_list PySem.F.slot_list_append PySem.F.type_list_append vi (pv 7) (zc (yc oW hr (zc (yg (zc (zp wg (pv 1) zg) (zc (zp wg (pv 1) zg) (zc (zp wg (pv 1) zg) (zc (ye wv (zp wg (pv 1) zg) (yg (zc (pv 10) zd))) zd))))) (zc (pv 2) (zc (ye wv (pv 3) (pv 11)) zd)))) zd))) (zh (zt (pv 7))))))))))))),?_⟩
 obtain⟨n1,n5,t2⟩:=id (And.intro M.n1 (And.intro M.n5 M.t2));have en:Tp [a] a H H:=⟨bo,⟨x0,ha⟩,Bt.refl,yo.refl _⟩
 refine⟨_,3,.tup (h.ss.map eS),hv,J,J,λu1 j1=>?_⟩;obtain⟨p1,ys,rfl,fL,gb⟩:=j1;have hA:ys.length=n:=by rw[gb.length,ag,M.ss]
 refine⟨p1,ys,J,.inr (aG.of fL),a,x0,_,J,ha,by omega,by omega,λd1 hG hH=>?_⟩;obtain⟨i,rfl⟩:∃i:Nat,d1=(i:Int):=⟨d1.toNat,by omega⟩
 have hi:i<n:=by omega
 have aS:=en.put (x0/((ys.length:Nat):Int));have b4:Is (upd H a (.lst [.int (x0/((ys.length:Nat):Int))])) (eH h) v:=Is.tups aS.tu (wo _) hv;generalize upd H a (.lst [.int (x0/((ys.length:Nat):Int))])=Hb at aS b4⊢;obtain⟨b5,dT⟩:=M.at hi;generalize hs:h.ss.getD i []=b at b5 dT;have C:=M.scr b5;have hf:=C.len;have bM:=M.plG b5;refine⟨_,3,.tup (h.ss.map eS),b4,J,J,λu2 j2=>⟨h.ss.map eS,i,eS b,j2,J,by rw[bi,dT];rfl,λu3 i3=>?_⟩⟩;obtain⟨p3,zs,rfl,d0,ga⟩:=id i3;have e6:zs.length=b.length:=by rw[ga.length,ag]
 have U:∀{N:List Addr}{G:Hp},Tp N a Hb G->Is G (eS b) (.ref p3):=λtp=>Is.tups tp.tu (bY.deeds _) i3;have g:∀{N:List Addr}{G:Hp},Tp N a Hb G->Is G (eH h) v:=λtp=>Is.tups tp.tu (wo _) b4;obtain⟨xb,dE⟩:=aS.tape;have el:Tp [a] a Hb Hb:=⟨bo,⟨xb,dE⟩,Bt.refl,yo.refl _⟩
 refine⟨p3,zs,J,.inr (aG.of d0),_,J,by omega,by omega,?_⟩;refine Yj (lo:=0) (n:=((zs.length:Nat):Int).toNat) (λj a9 G=>G=Hb/\a9=((List.range j).filter (J2 b)).map λk:Nat=>V.int (k:Int)) ⟨J,J⟩ (λj a9 G hj ⟨_,e⟩=>?_) ?_ ?_;rw[e,ag];have:=fc (J2 b) (List.range j);rw[ei]at this;exact xk (by omega);rintro j a9 G hj ⟨eG,rfl⟩;subst eG;have hj:j<b.length:=by rw[cj]at hj;omega
 refine⟨b.map eD,j,eD b[j],i3,by rw[dq],by rw[bi,br hj];rfl,λq1 e1=>?_⟩;obtain⟨r,ir,er⟩:=Ac e1;refine⟨_,0,.str (dw b[j]),ir,J,J,λZ e2=>?_⟩;cases(show Z=.str (dw b[j])from e2);have sa:J2 b j=decide (V.str (dw b[j])=V.str "say"):=by unfold J2;rw[br hj]
 refine⟨J,_,J,?_⟩;rw[<-sa];refine jy (λc=>?_) (λc=>?_);refine⟨J,?_⟩;rw[List.range_succ,List.filter_append,aq,List.filter_cons,if_pos c,dq];rfl;refine⟨J,?_⟩;rw[List.range_succ,List.filter_append,aq,List.filter_cons,if_neg c];exact(cm _).symm;rintro a9 G ⟨eG,b9⟩ l2 b6;subst eG;rw[cj,e6]at b9;obtain⟨l,a8⟩:∃l,l=(List.range b.length).filter (J2 b):=⟨_,J⟩
 rw[<-a8]at b9;subst b9;have bN:l2≠a:=λz=>by rw[z,dE]at b6;cases b6
 have s2:=zi.new b6 (.lst (l.map λk:Nat=>V.int (k:Int)));have g2:upd G l2 (.lst (l.map λk:Nat=>V.int (k:Int))) l2=some (.lst (l.map λk:Nat=>V.int (k:Int))):=zf;generalize upd G l2 (.lst (l.map λk:Nat=>V.int (k:Int)))=H2 at s2 g2⊢;have cv:=el.same s2;obtain⟨x2,fa⟩:=cv.tape;refine⟨p3,zs,J,.inr (aG.of (s2 _ _ d0)),_,_,J,J,a,x2,_,J,fa,by omega,by omega,λd2 hE hF=>?_⟩;obtain⟨y,rfl⟩:∃k:Nat,d2=(k:Int):=⟨d2.toNat,by omega⟩
 have bL:=cv.put (x2/((zs.length:Int)+1));have g3:upd H2 a (.lst [.int (x2/((zs.length:Int)+1))]) l2=some (.lst (l.map λk:Nat=>V.int (k:Int))):=by rw[upd_ne bN];exact g2
 generalize upd H2 a (.lst [.int (x2/((zs.length:Int)+1))])=H3 at bL g3⊢;refine⟨aI,λlw F1 r1 m1 f1=>?_⟩;obtain⟨x3,dK⟩:=bL.tape;have nw:lw≠a:=λz=>by rw[z,dK]at m1;cases m1
 refine⟨a,x3,3,J,r1 _ _ dK,by decide,by decide,λd3 hD gJ=>?_⟩;have cs:=(bL.same r1).put (x3/3);have g4:upd F1 a (.lst [.int (x3/3)]) l2=some (.lst (l.map λk:Nat=>V.int (k:Int))):=by rw[upd_ne bN];exact r1 _ _ g3
 have f4:upd F1 a (.lst [.int (x3/3)]) lw=some (.lst [.str "come",.str "go",.str "ok"]):=by rw[upd_ne nw];exact f1
 generalize upd F1 a (.lst [.int (x3/3)])=H4 at cs g4 f4⊢;obtain⟨w0,fr,dN⟩:∃w0:Str,gw ([.str "come",.str "go",.str "ok"]:List V) d3=some (.str w0)/\w0∈eK:=by
  obtain⟨kx,rfl⟩:∃kx:Nat,d3=(kx:Int):=⟨d3.toNat,by omega⟩
  match kx,gJ with|0,_=>exact⟨"come",wx J,by simp[eK]⟩|1,_=>exact⟨"go",wx J,by simp[eK]⟩|2,_=>exact⟨"ok",wx J,by simp[eK]⟩|k+3,z=>exact absurd z (by omega)
 refine⟨lw,_,_,_,J,J,aM.of f4,fr,aI,λpm F5 r5 m5 f5=>?_⟩;have im:Is F5 (eD (.say w0)) (.ref pm):=Jo f5;have ap:=cs.same r5;have g5:=r5 _ _ g4;refine⟨_,J,b.map eD,U ap,λv1 F6 r6 j6=>?_⟩;rw[Vi,<-List.map_take]at j6;refine⟨aI,λp7 F7 r7 m7 f7=>⟨_,[eD (.say w0)],j6.mono r7,ka f7 (im.mono (r6.trans r7)),?_,λv8 F8 r8 j8=>?_⟩⟩;rw[ag,bu];show min _ _+1<=1000;omega;have c1:=r6.trans (r7.trans r8);refine⟨_,J,b.map eD,U (ap.same c1),λv9 F9 r9 j9=>?_⟩;rw[Wn,<-List.map_drop]at j9;refine⟨_,_,j8.mono r9,j9,?_,λu ah a2 m=>?_⟩;rw[az,ag,ag,bu,List.length_drop];show min _ _+1+_<=1000;omega;have m:Is ah (eS (b.take y++[.say w0]++b.drop y)) u:=by unfold eS;rw[aq,aq];exact m
 have R:=c1.trans (r9.trans a2);have hc:h.ss.length=n:=M.ss;refine⟨h,b.take y++[.say w0]++b.drop y,i,v,u,J,g (ap.same R),m,by omega,by omega,λbK W S a6=>⟨aI,λB gL c3 av gC=>?_⟩⟩;have bB:=R.trans (S.trans c3);have a5:∀{s':yf}{d:aD}{j k:Nat},d∈b.take j++s'++b.drop k->(∀e∈s',eZ h.b e)->eZ h.b d:=λ{s' d j k} hd fx=>by rcases ce.mp hd with q|q;rcases ce.mp q with q|q;exact bM d (List.mem_of_mem_take q);exact fx d q;exact bM d (List.mem_of_mem_drop q)
 have c4:∀{w':Str},w'∈eK->∀e∈[aD.say w'],eZ h.b e:=λ{w'} hw e he=>by rw[ai.mp he];exact hw
 have ey:dG n p (eH ⟨h.b,h.w,h.fs,h.ss.set i (b.take y++[.say w0]++b.drop y)⟩):=by obtain⟨q1,Z⟩:=M.oddS hi (s:=b.take y++[.say w0]++b.drop y) (by rw[az,az,bu,List.length_drop];show min _ _+1+_<=30;omega) (λd hd=>a5 hd (c4 dN)) (by rw[<-C.says];exact LA _ _ _);exact⟨_,J,q1,Z⟩
 have bl:=ap.same bB;obtain⟨g7,gN⟩:=bl.tape;have a4:B≠a:=λz=>by obtain⟨xx,e9⟩:=(ap.same (R.trans S)).tape;rw[z,e9]at av;cases av
 have d9:=bB _ _ g5;have gM:l2≠B:=λz=>by rw[<-z,(R.trans S) _ _ g5]at av;cases av
 have mb:G B=none:=by cases e:G B with|none=>rfl| some o=>have q:=ap.bt B o (λz=>a4 (ai.mp z)) e;rw[(R.trans S) _ _ q]at av;cases av
 have O1:Od a B G gL n p 1:=⟨bl.more (λz hz=>by rw[ai.mp hz];exact bo),a4,[_],[bK],gC,qh (a6.mono c3),λt ht=>by rw[ai.mp ht];exact ey,aj _⟩
 dsimp only[Ze,mD,Ends.sq,pz,tC,mK];refine Kq (t:=mC _ _ _) (λay G'=>∃(y8 y9:Option V),ay=[some (.ref a),some v,some (.int (i:Int)),some (.ref p3),some (.ref l2),some (.int (y:Int)),some (.ref pm),some (.ref B),y8,y9,none,none]/\Od a B G G' n p 3) ?_ (λea=>?_);rintro ay G' ⟨y8,y9,rfl,O⟩;refine⟨aI,λpa F1 r1 m1 f1=>⟨aI,λpb F2 r2 m2 f2=>⟨aI,λps F3 r3 m3 f3=>?_⟩⟩⟩;have dr:Is F3 (eS eX) (.ref ps):=⟨ps,_,J,f3,_,_,J,qS (r3 _ _ (r2 _ _ f1)),_,_,J,Jo (r3 _ _ f2),J⟩
 have O3:=O.same (r1.trans (r2.trans r3));obtain⟨hb,gT,gt,_⟩:=O3.ls;have c5:∀d∈eX,eZ h.b d:=λd hd=>by rcases ak.mp hd with rfl|hd;exact(by decide:(0:Int)<=1/\(1:Int)<=999);rw[ai.mp hd];simp[eZ,jI,eK]
 have fl:=M.fl;refine⟨.inl ⟨J,_,aM.of gt⟩,_,0,.int h.b,g O3.tp,J,J,λq1 e1=>?_⟩;cases(show q1=.int h.b from e1);refine⟨_,1,.int h.w,g O3.tp,J,J,λZ e2=>?_⟩;cases(show Z=.int h.w from e2);refine⟨_,2,.tup (h.fs.map eC),g O3.tp,J,J,λq3 e3=>?_⟩;refine⟨_,3,.tup (h.ss.map eS),g O3.tp,J,J,λq4 e4=>?_⟩;obtain⟨p4,cl,rfl,fy,f0⟩:=id e4;have e7:cl.length=n:=by rw[f0.length,ag,M.ss]
 refine⟨p4,cl,J,.inr (aG.of fy),aI,λpe F4 r4 m4 f4=>⟨aI,λpc F5 r5 m5 f5=>⟨aI,λpd F6 r6 m6 f6=>?_⟩⟩⟩;rw[e7]at f5;have ic:Is F5 (eC (n,[])) (.ref pc):=⟨pc,_,J,f5,_,_,J,J,_,_,J,⟨pe,[],J,r5 _ _ f4,J⟩,J⟩
 have bb:=r4.trans (r5.trans r6);refine⟨_,[eC (n,[])],e3.mono bb,ka f6 (ic.mono r6),by rw[ag];show _+1<=1000;omega,λv7 F7 r7 j7=>?_⟩;have j7:Is F7 (.tup ((h.fs++[(n,[])]).map eC)) v7:=by rw[aq];exact j7
 have O7:=O3.same (bb.trans r7);refine⟨_,3,.tup (h.ss.map eS),g O7.tp,J,J,λq8 e8=>⟨aI,λp9 F9 r9 m9 f9=>⟨_,[eS eX],e8.mono r9,ka f9 (dr.mono (bb.trans (r7.trans r9))),by rw[ag];show _+1<=1000;omega,λu ah bC a7=>?_⟩⟩⟩;have a7:Is ah (.tup ((h.ss++[eX]).map eS)) u:=by rw[aq];exact a7
 refine⟨aI,λa3 W a1 hp gD=>?_⟩;have it:Is W (eH ⟨h.b,h.w,h.fs++[(n,[])],h.ss++[eX]⟩) (.ref a3):=⟨a3,_,J,gD,_,_,J,J,_,_,J,J,_,_,J,j7.mono (r9.trans (bC.trans a1)),_,_,J,a7.mono a1,J⟩
 have ew:dG n p (eH ⟨h.b,h.w,h.fs++[(n,[])],h.ss++[eX]⟩):=by obtain⟨q1,_,Z⟩:=M.moreF (s:=eX) (by decide) c5;exact⟨_,J,q1,Z BS⟩
 have bw:=r9.trans (bC.trans a1);obtain⟨F,aw,ck,cb⟩:=(O7.same bw).app it ew;refine⟨B,F,_,J,J,aw,Ya (by omega),?_⟩;have bk:yo W (upd W B (.lst (F++[.ref a3]))):=yo.upd aw (λ_ z=>by cases z);have bE:Is (upd W B (.lst (F++[.ref a3]))) (eS eX) (.ref ps):=Is.tups bk (bY.deeds _) (dr.mono (bb.trans (r7.trans bw)));generalize upd W B (.lst (F++[.ref a3]))=gO at cb bk bE⊢;refine⟨_,3,.tup (h.ss.map eS),g cb.tp,J,J,λq4 e4=>?_⟩;obtain⟨et,bh,rfl,dV,d6⟩:=id e4;have dt:bh.length=n:=by rw[d6.length,ag,M.ss]
 refine⟨et,bh,J,.inr (aG.of dV),aI,λeo K4 k4 ho bg=>⟨aI,λc6 K5 k5 hn eb=>⟨aI,λeq K6 k6 hm gA=>?_⟩⟩⟩;rw[dt]at eb;have ib:Is K5 (eD (.beg n [])) (.ref c6):=⟨c6,_,J,eb,_,_,J,J,_,_,J,J,_,_,J,⟨eo,[],J,k5 _ _ bg,J⟩,J⟩
 have e5:Is K6 (.tup [eD (.beg n [])]) (.ref eq):=ka gA (ib.mono k6);have dh:=k4.trans (k5.trans k6);have O6:=cb.same dh;obtain⟨g9,gP,gn,_⟩:=O6.ls;refine⟨.inl ⟨J,_,aM.of gn⟩,_,0,.int h.b,g O6.tp,J,J,λq1 e1=>?_⟩;cases(show q1=.int h.b from e1);refine⟨_,1,.int h.w,g O6.tp,J,J,λZ e2=>?_⟩;cases(show Z=.int h.w from e2);refine⟨_,2,.tup (h.fs.map eC),g O6.tp,J,J,λq3 e3=>?_⟩;refine⟨_,3,.tup (h.ss.map eS),g O6.tp,J,J,λq8 e8=>⟨aI,λhg K7 k7 hl gz=>⟨_,[eS eX],e8.mono k7,ka gz (bE.mono (dh.trans k7)),by rw[ag];show _+1<=1000;omega,λco K8 k8 b2=>⟨aI,λbD K9 k9 hh gv=>?_⟩⟩⟩⟩;have b2:Is K8 (.tup ((h.ss++[eX]).map eS)) co:=by rw[aq];exact b2
 have b1:=k7.trans (k8.trans k9);have O9:=O6.same b1;have e0:Is K9 (eH ⟨h.b,h.w,h.fs,h.ss++[eX]⟩) (.ref bD):=⟨bD,_,J,gv,_,_,J,J,_,_,J,J,_,_,J,e3.mono b1,_,_,J,b2.mono k9,J⟩
 refine⟨b.map eD,[eD (aD.beg n [])],U O9.tp,e5.mono b1,by rw[ag];show _+1<=1000;omega,λcn gK dn af=>?_⟩;have af:Is gK (eS (b++[aD.beg n []])) cn:=by unfold eS;rw[aq];exact af
 refine⟨⟨h.b,h.w,h.fs,h.ss++[eX]⟩,b++[aD.beg n []],i,_,_,J,e0.mono dn,af,by show i<(h.ss++[_]).length;rw[az];omega,by show(h.ss++[_]).length<=100;rw[az];show _+1<=100;omega,λg8 hK eW dp=>?_⟩;have ev:dG n p (eH ⟨h.b,h.w,h.fs,(h.ss++[eX]).set i (b++[aD.beg n []])⟩):=by obtain⟨q1,_,Z⟩:=M.moreB hi (s:=eX) (by decide) c5;rw[hs]at q1 Z;exact⟨_,J,q1,Z BS⟩
 obtain⟨eg,gl,g6,ec⟩:=(O9.same (dn.trans eW)).app dp ev;refine⟨B,eg,_,J,J,gl,Ya (by omega),?_⟩;obtain⟨ek,ef,gE,iE,oE,lE⟩:=ec.ls;refine kk B _ ek ef (aS.trans (ec.tp.drop mb)) ?_ gE iE oE lE;cases e:H B with|none=>rfl| some o=>rw[aS.bt B o (λz=>a4 (ai.mp z)) e]at mb;cases mb
 refine⟨aI,λle cc bc hq gF=>⟨l2,le,_,J,J,aM.of (bc _ _ d9),aM.of gF,_,J,jy (λc=>?_) (λc=>ea _ cc ⟨_,_,J,(O1.same bc).weak (by decide)⟩)⟩⟩;have O2:=O1.same bc;have d8:=bc _ _ d9;obtain⟨x,hx⟩:=O2.tp.tape;have il:0<l.length:=by cases l with|nil=>cases c|cons=>exact Nat.succ_pos _
 have hy:l.length<=b.length:=by rw[a8];have:=fc (J2 b) (List.range b.length);rw[ei]at this;exact this
 have b3:(l.map λk:Nat=>V.int (k:Int)).length=l.length:=ag _;refine⟨l2,_,J,.inl (aM.of d8),a,x,_,J,hx,by rw[b3];omega,by rw[b3];omega,λd4 hC gI=>?_⟩;rw[b3]at gI;obtain⟨j,rfl⟩:∃j:Nat,d4=(j:Int):=⟨d4.toNat,by omega⟩
 have gk:j<l.length:=by omega
 have O3:=O2.put (x/(((l.map λk:Nat=>V.int (k:Int)).length:Nat):Int));have d7:upd cc a (.lst [.int (x/(((l.map λk:Nat=>V.int (k:Int)).length:Nat):Int))]) l2=some (.lst (l.map λk:Nat=>V.int (k:Int))):=by rw[upd_ne bN];exact d8
 generalize upd cc a (.lst [.int (x/(((l.map λk:Nat=>V.int (k:Int)).length:Nat):Int))])=hM at O3 d7⊢;obtain⟨k,hk⟩:∃k,l[j]?=some k:=⟨_,br gk⟩
 have gh:k∈(List.range b.length).filter (J2 b):=by rw[<-a8];exact bq hk
 obtain⟨gf,b7⟩:=f8.mp gh;have gi:=du.mp gf;obtain⟨xw,bd⟩:∃xw,b[k]?=some (.say xw):=by unfold J2 at b7;rw[br gi]at b7⊢;obtain⟨xw,e⟩:=FM (V.str.inj (c9 b7));exact⟨xw,by rw[e]⟩
 have dv:xw∈eK:=bM _ (bq bd);refine⟨l2,_,_,_,J,J,aM.of d7,wx (by rw[bi,hk];rfl),?_⟩;refine⟨aI,λb0 ed c2 da gB=>?_⟩;obtain⟨ba,bG⟩:=O3.tp.tape;have eL:b0≠a:=λz=>by rw[z,bG]at da;cases da
 refine⟨a,ba,4,J,c2 _ _ bG,by decide,by decide,λd5 hB gG=>?_⟩;have O4:=(O3.same c2).put (ba/4);have bg:upd ed a (.lst [.int (ba/4)]) b0=some (.lst [.str "comes",.str "go",.str "come",.str "a"]):=by rw[upd_ne eL];exact gB
 generalize upd ed a (.lst [.int (ba/4)])=hL at O4 bg⊢;obtain⟨w1,fn,bI⟩:∃w1:Str,gw ([.str "comes",.str "go",.str "come",.str "a"]:List V) d5=some (.str w1)/\w1∈eK:=by
  obtain⟨kx,rfl⟩:∃kx:Nat,d5=(kx:Int):=⟨d5.toNat,by omega⟩
  match kx,gG with|0,_=>exact⟨"comes",wx J,by simp[eK]⟩|1,_=>exact⟨"go",wx J,by simp[eK]⟩|2,_=>exact⟨"come",wx J,by simp[eK]⟩|3,_=>exact⟨"a",wx J,by simp[eK]⟩|k+4,z=>exact absurd z (by omega)
 refine⟨b0,_,_,_,J,J,aM.of bg,fn,?_⟩;dsimp only[Ze,mD,Ends.sq,pz,tC,mK];refine Kq (t:=mC _ _ _) (λay G'=>ay=[some (.ref a),some v,some (.int (i:Int)),some (.ref p3),some (.ref l2),some (.int (y:Int)),some (.ref pm),some (.ref B),some (.int (k:Int)),some (.str w1),none,none]/\Od a B G G' n p 2) ?_ (λbJ=>?_);rintro ay G' ⟨rfl,O⟩;obtain⟨_,ej,b8,_⟩:=O.ls;refine⟨.inl ⟨J,_,aM.of b8⟩,_,J,b.map eD,U O.tp,λv1 F6 r6 j6=>?_⟩;rw[Vi,<-List.map_take]at j6;refine⟨_,_,J,J,_,J,b.map eD,U (O.tp.same r6),λv9 F9 r9 j9=>?_⟩;rw[Y4,<-List.map_drop]at j9;refine⟨_,_,j6.mono r9,j9,by rw[ag,ag,bu,List.length_drop];omega,λu ah a2 m=>?_⟩;have m:Is ah (eS (b.take k++b.drop (k+1))) u:=by unfold eS;rw[aq];exact m
 have L:=r6.trans (r9.trans a2);refine⟨h,b.take k++b.drop (k+1),i,v,u,J,g (O.tp.same L),m,by omega,by omega,λbK W S a6=>?_⟩;have od:dG n p (eH ⟨h.b,h.w,h.fs,h.ss.set i (b.take k++b.drop (k+1))⟩):=by obtain⟨q1,Z⟩:=M.oddS hi (s:=b.take k++b.drop (k+1)) (by rw[az,bu,List.length_drop];omega) (λd hd=>a5 (s':=[]) (j:=k) (k:=k+1) (by rw[cm];exact hd) (λe he=>nomatch he)) (by rw[<-C.says];exact Lz bd);exact⟨_,J,q1,Z⟩
 obtain⟨F,aw,ck,O'⟩:=(O.same (L.trans S)).app a6 od;exact⟨B,F,_,J,J,aw,Ya (by omega),ea _ _ ⟨_,_,J,O'⟩⟩;refine⟨aI,λpw Fw cw mw fw=>⟨b.map eD,k,eD (.say xw),U (O4.tp.same cw),J,by rw[bi,bd];rfl,λq jq=>⟨eD (.say w1),eD (.say xw),Jo fw,jq,BM (V1 w1 bI).2.2,BM (V1 xw dv).2.2,Mb _,_,J,?_⟩⟩⟩;rw[GI];have O5:=O4.same cw;refine jy (λc=>?_) (λc=>bJ _ Fw ⟨J,O5.weak (by decide)⟩);have c:w1≠xw:=λz=>by rw[bp z]at c;cases c
 obtain⟨_,ej,b8,_⟩:=O5.ls;refine⟨.inl ⟨J,_,aM.of b8⟩,_,J,b.map eD,U O5.tp,λv1 F6 r6 j6=>?_⟩;rw[Vi,<-List.map_take]at j6;refine⟨aI,λpq Fq rq mq fq=>⟨aI,λp7 F7 r7 m7 f7=>⟨_,[eD (.say w1)],j6.mono (rq.trans r7),ka f7 ((Jo fq).mono r7),?_,λv8 F8 r8 j8=>?_⟩⟩⟩;rw[ag,bu];show min _ _+1<=1000;omega;have c0:=r6.trans (rq.trans (r7.trans r8));refine⟨_,_,J,J,_,J,b.map eD,U (O5.tp.same c0),λv9 F9 r9 j9=>?_⟩;rw[Y4,<-List.map_drop]at j9;refine⟨_,_,j8.mono r9,j9,?_,λu ah a2 m=>?_⟩;rw[az,ag,ag,bu,List.length_drop];show min _ _+1+_<=1000;omega;have m:Is ah (eS (b.take k++[.say w1]++b.drop (k+1))) u:=by unfold eS;rw[aq,aq];exact m
 have L:=c0.trans (r9.trans a2);refine⟨h,b.take k++[.say w1]++b.drop (k+1),i,v,u,J,g (O5.tp.same L),m,by omega,by omega,λbK W S a6=>?_⟩;have od:dG n p (eH ⟨h.b,h.w,h.fs,h.ss.set i (b.take k++[.say w1]++b.drop (k+1))⟩):=by obtain⟨q1,Z⟩:=M.oddS hi (s:=b.take k++[.say w1]++b.drop (k+1)) (by rw[az,az,bu,List.length_drop];show min _ _+1+_<=30;omega) (λd hd=>a5 hd (c4 bI)) (by rw[<-C.says];exact MX bd c);exact⟨_,J,q1,Z⟩
 obtain⟨F,aw,ck,O'⟩:=(O5.same (L.trans S)).app a6 od;exact⟨B,F,_,J,J,aw,Ya (by omega),bJ _ _ ⟨J,O'⟩⟩
end
noncomputable abbrev uu:Stmt:=aX 94
noncomputable def zM:L2.Tm:=.lst [.tup [.add (.var 4) (.con (.int 1)),.var 5],.tup [.con (.int 0),.var 5],.tup [.con (.int (-1)),.var 5],.tup [.var 4,.add (.var 5) (.con (.int 1))],.tup [.var 4,.con (.int (-1))],.tup [.con (.int 17),.var 5],.tup [.var 4,.con (.int 100000000000000000000)],.tup [.con (.int 100000000000000000000),.var 5]]
noncomputable def hx(k:Int):L2.Tm:=.ix (.var 3) (.con (.int k))
noncomputable def Dd:L2.Tm:=.tup [hx 0,hx 1,.tup [],hx 3]
noncomputable def zH:L2.Tm:=.add (hx 3) (.tup [.tup [.tup [.con (.str "work"),.con (.int 1)]]])
noncomputable def Dc:L2.Tm:=.tup [hx 0,hx 1,.add (hx 2) (.tup [.tup [.var 11,.tup []]]),.var 10]
noncomputable def bT:L2.Tm:=.tup [hx 0,hx 1,hx 2,.var 10]
noncomputable def Dz:L2.Tm:=.add (.ix (hx 3) (.con (.int 0))) (.tup [.tup [.con (.str "begin"),.var 11,.tup []]])
noncomputable def yT:L2.Tm:=.tup [.con (.int 0),.con (.int 0),.mul (.tup [.tup [.con (.int 0),.tup []]]) (.con (.int 17)),.tup [.tup []]]
noncomputable def zS:L2.Tm:=.tup [.tup [.con (.str "say"),.con (.str "come")],.tup [.con (.str "say"),.con (.str "go")]]
noncomputable def Df:L2.Tm:=.tup [.con (.int 0),.con (.int 0),.tup [.tup [.con (.int 0),.tup []]],.tup [.mul (.var 13) (.con (.int 5))]]
noncomputable def Dg:L2.Tm:=.tup [.con (.int 0),.con (.int 0),.tup [.tup [.con (.int 0),.tup []]],.tup [.mul (.var 13) (.con (.int 4))]]
noncomputable def tD(n p:Int):List (Int×Int):=[(n+1,p),(0,p),(-1,p),(n,p+1),(n,-1),(17,p),(n,100000000000000000000),(100000000000000000000,p)]
noncomputable def Ob(q:Int×Int):L2.T:=.tup [.int q.1,.int q.2]
theorem E4(n p:Int):zM.den [(4,.int n),(5,.int p)]=some (.lst ((tD n p).map Ob)):=rfl
theorem Ea(h:aB):Dd.den [(3,eH h)]=some (eH ⟨h.b,h.w,[],h.ss⟩):=rfl
noncomputable def gu:yf:=[.wor 1]
theorem E1{h:aB}(a:h.ss.length<=100):zH.den [(3,eH h)]=some (.tup ((h.ss++[gu]).map eS)):=by have e:Qt (some (.tup (h.ss.map eS))) (some (.tup [eS gu]))=some (.tup (h.ss.map eS++[eS gu])):=if_pos (by grind);rw[aq];exact e
theorem Eb{h:aB}{n:Nat}{a:O yf}(b:h.fs.length<=100):Dc.den [(3,eH h),(10,.tup (a.map eS)),(11,.int (n:Int))]=some (eH ⟨h.b,h.w,h.fs++[(n,[])],a⟩):=by
 have e:Qt (some (.tup (h.fs.map eC))) (some (.tup [eC (n,[])]))=some (.tup ((h.fs++[(n,[])]).map eC)):=by
  have e:Qt (some (.tup (h.fs.map eC))) (some (.tup [eC (n,[])]))=some (.tup (h.fs.map eC++[eC (n,[])])):=if_pos (by rw[ag];show _+1<=1000;omega)
  simp_all
 show qF (mG (some (.int h.b)) (mG (some (.int h.w)) (mG (Qt (some (.tup (h.fs.map eC))) (some (.tup [eC (n,[])]))) (mG (some (.tup (a.map eS))) (some [])))))=_;rw[e];rfl
theorem Op{h:aB}{a:O yf}:bT.den [(3,eH h),(10,.tup (a.map eS))]=some (eH ⟨h.b,h.w,h.fs,a⟩):=rfl
theorem DO{h:aB}{n:Nat}{s:yf}(a:h.ss[0]?=some s)(b:s.length<=100):Dz.den [(3,eH h),(11,.int (n:Int))]=some (eS (s++[.beg n []])):=by
 have e:(h.ss.map eS)[0]?=some (eS s):=by rw[bi,a];rfl
 show Qt ((h.ss.map eS)[0]?) (some (.tup [eD (.beg n [])]))=_;rw[e];have e:Qt (some (.tup (s.map eD))) (some (.tup [eD (.beg n [])]))=some (.tup (s.map eD++[eD (.beg n [])])):=if_pos (by grind);unfold eS
 simp_all
theorem D5:yT.den []=some (eH Jv):=rfl
theorem E5:zS.den []=some (.tup ((cg 1).map eD)):=rfl
theorem D9:Df.den [(13,.tup ((cg 1).map eD))]=some (eH (mJ 5)):=rfl
theorem D8:Dg.den [(13,.tup ((cg 1).map eD))]=some (eH (mJ 4)):=rfl
theorem cZ{n:Nat}(h:n<=5)(a:p<=2):(Yw ((n:Int)).toNat ((p:Int)).toNat).length<64:=by rw[cj,cj];have c:=xO n p;have b:=Nat.mul_le_mul a (Nat.mul_le_mul h h);omega
theorem pH{hs:aB}{n p:Int}(S:aO hs)(e:isMade hs n p=false):yN (eH hs) n p "wall":=⟨S.law.wh,.inr ⟨hs,J,S.law,.inl ⟨e,J⟩⟩⟩
theorem qP{hs:aB}{n p:Int}(S:aO hs)(e:isMade hs n p=true)(a:(Yw n.toNat p.toNat).length<64):yN (eH hs) n p "":=⟨S.law.wh,.inr ⟨hs,J,S.law,.inr ⟨e,a,J⟩⟩⟩
theorem FJ{h:aB}{n t:Nat}(M:bX h n p t):∀q∈tD (n:Int) (p:Int),isMade h q.1 q.2=false:=λq a=>by
 have c:=M.n5;have b:=M.p2;refine M.no ?_;simp only[tD,ak,List.not_mem_nil,or_false]at a
 grind
inductive eT(K:W.Frag)(vs:List V)(H:Hp)(Q:VK)(e0:XK):Prop|mk:∀(a:Addr)(ns:List Int),vs=[.ref a]->aM K H a (ns.map V.int)->ns.length<=63->(∀H',Q (.bl true) H')->eT K vs H Q e0
theorem kC{x:V}{A B:Prop}(h:B):if(!decide (x=x))=true then A else B:=by simp_all
theorem zW{tB:TT}(a:Bool)(b:∀Q:Bool->Hp->Prop,Q a H->tA σ H Q)(c:a=true->∀Q:Bool->Hp->Prop,(∀H',zi H H'->Q false H')->tB σ H Q)(Q:Bool->Hp->Prop)(k:∀H',zi H H'->Q false H'):rV tA tB σ H Q:=by refine b _ ?_;cases a with|false=>exact yy (k H (zi.refl H))|true=>simp_all
theorem CM{tB:TT}{c b:TS}(a:Bool)(e:∀Q:Bool->Hp->Prop,Q a H->tA σ H Q)(d:a=true->∀Q:Bool->Hp->Prop,(∀H',zi H H'->Q false H')->tB σ H Q)(k:∀H',zi H H'->b D σ H'):mC (rV tA tB) c b D σ H:=zW a e d _ λH' s=>yy (k H' s)
section
variable{K:W.Frag}
theorem Au:aA ["script","start","tape","house","n","p","none","many","phases","odd","calm","last","begin","said"] ["script"] (zk uu):=.of
theorem Fx{f0:Y}(F:gm K "law" "law" uu f0 Dt)(T:Txt K mg)(TL:oY mg)(oT:Ok P w K mg base "_law_atape" 2 ["script","k"] (ng K))(oL:Ok P w K mg base "_law_awall" 4 ["tape"] mU)(o:Ok P w K mg base "_law_acaught" 29 ["house","n","p"] nY)(oO:Ok P w K mg base "_law_aodd_says" 2 ["tape","house"] nI)(oW:Ok P w K mg base "_law_awith" 1 ["house","i","script"] kY):cF P w K mg base fZ 30 f0 Dt ["script"] (eT K):=by
 refine F.ok Au (λvs H Q E h=>by cases h;subst_vars;rfl) λcl A bd sh H vs Q E hr h=>?_;obtain⟨s,ns,rfl,hS,ck,kk⟩:=h;have e:=Au.nd;have m:aP 29 _:=hr;refine⟨_,ze (w9 PassesOwn.never J (Ls (by rfl) T.range (zc zg (zc (yh (Cl (by rfl)) (by rfl) TL.max zY (zc zg (zc (yh (KF (by rfl)) (by rfl) TL.min ET (zc zg (zc (yh ym (by rfl) T.len vm (zc (pv 0) zd)) zd))) zd))) zd))) (ya (i:=1) e)
   (ze (zr (i:=2) e (yc oT (hr.mono (by decide)) (zc (pv 0) (zc (pv 1) zd)))) (ze (Ji (yc oL (hr.mono (by decide)) (zc (pv 2) zd)) (Zb J (yv (ya (i:=3) e) (yv (ya (i:=4) e) (yv (ya (i:=5) e) jb))))) (ze (yj (zu Zy (yc o m (zc (pv 3) (zc (pv 4) (zc (pv 5) zd)))) zo (yb _)) (zh (zt wr)) zy) (ze (zr (i:=6) e (Xs zM)) (ze (w9 PassesOwn.never J (Wz (pv 6)) (Zb J (yv (ya (i:=7) e) (yv (ya (i:=8) e) jb))) (zh (yj (zu Zy (yc o m (zc (pv 3) (zc (pv 7) (zc (pv 8) zd)))) zo (yb _)) (zh (zt wr)) zy))) (ze (yj (PW.pt (X4 (zu mO (pv 5) zg (yb _)) (Xd (zu Zy (yc o m (zc (pv 3) (zc (pv 4) (zc (ye Wb (pv 5) zg) zd)))) zo (yb _))))) (zh (zt wr)) zy) (ze (yj (PW.pt (X4 (zu mO (pv 5) zg (yb _)) (X4 (zu mO (pv 4) zg (yb _)) (Xd (zu Zy (yc o m (zc (pv 3) (zc (ye Wb (pv 4) zg) (zc (pv 5) zd)))) zo (yb _)))))) (zh (zt wr)) zy) (ze (w9 PassesOwn.never J (Wz (yc oO (hr.mono (by decide)) (zc (pv 2) (zc (pv 3) zd)))) (ya (i:=9) e) (zh (yj (zu Zy (yc o m (zc (pv 9) (zc (pv 4) (zc (pv 5) zd)))) zo (yb _)) (zh (zt wr)) zy))) (ze (yj (zu Zy (yc o m (zc (Xs Dd) (zc (pv 4) (zc (pv 5) zd)))) zo (yb _)) (zh (zt wr)) zy) (ze (zr (i:=10) e (Xs zH)) (ze (zr (i:=11) e (yh ym (by rfl) T.len vm (zc (zp wg (pv 3) zg) zd))) (ze (yj (zu Zy (yc o m (zc (Xs Dc) (zc (pv 4) (zc (pv 5) zd)))) zo (yb _)) (zh (zt wr)) zy) (ze (zr (i:=12) e (Xs bT)) (ze (zr (i:=12) e (yc oW (hr.mono (by decide)) (zc (pv 12) (zc zg (zc (Xs Dz) zd))))) (zh (yj (zu Zy (yc o m (zc (pv 12) (zc (pv 4) (zc (pv 5) zd)))) zo (yb _)) (zh (zt wr)) zy)))))))))))))))))
  (ze (zr (i:=10) e (Xs yT)) (ze (yj (PW.pt (Xr (zu Zy (yc o m (zc (pv 10) (zc zg (zc zg zd)))) zo (yb _)) (Ye (zu Zy (yc o m (zc (pv 10) (zc zg (zc zg zd)))) zo (yb _))))) (zh (zt wr)) zy) (ze (zr (i:=13) e (Xs zS)) (ze (yj (zu Zy (yc o m (zc (Xs Df) (zc zg (zc zg zd)))) zo (yb _)) (zh (zt wr)) zy) (zh (zt (jo wt (yc o m (zc (Xs Dg) (zc zg (zc zg zd)))) zo (yb _)))))))),?_⟩
 refine⟨s,_,J,.inl hS,_,_,J,_,_,J,?_⟩;refine⟨0,_,J,⟨by decide,by decide,?_,?_⟩,?_⟩
 . split<;>(try split)<;>omega
 . split<;>(try split)<;>omega
 let b6:Nat->L2.St->Hp->Prop:=λi g H'=>zi H H'/\∃x1 x2 x3 x4 x5 x6 x7 x8 x9 z u r k,g=[some (.ref s),x1,x2,x3,x4,x5,x6,x7,x8,x9,z,u,r,k];refine ko (lo:=0) b6 ⟨zi.refl H,none,none,none,none,none,none,none,none,none,none,none,none,none,J⟩ ?_ ?_
 . rintro i g H1 hi ⟨s1,x1,x2,x3,x4,x5,x6,x7,x8,x9,z,u,r,k,rfl⟩;rw[dq];refine⟨s,ns,i,J,s1.seq hS,λa x ha=>?_⟩;have U:H a=none:=wm s1 ha;have S2:zi H (upd H1 a (.lst [.int x])):=dJ U s1;have g2:upd H1 a (.lst [.int x]) a=some (.lst [.int x]):=zf;generalize upd H1 a (.lst [.int x])=H2 at S2 g2⊢;refine⟨a,x,J,g2,λv H3 h n p t tp M iv=>?_⟩;have n1:=M.n1;have n5:=M.n5;have p2:=M.p2;have S3:zi H H3:=tp.bt.same S2 (λy S=>by rw[ai.mp S];exact U);obtain⟨xt,bJ⟩:=tp.tape;obtain⟨p3,b8,rfl,bN,D,r1,rfl,i1,v2,r2,rfl,i2,v3,r3,rfl,i3,er⟩:=iv;cases(show r3=[]from er);cases(show v2=.int (n:Int)from i2);cases(show v3=.int (p:Int)from i3);refine⟨p3,_,J,aG.of bN,J,_,_,J,_,_,J,_,_,J,J,?_⟩;refine⟨eH h,D,n,p,"",J,i1,wo _,qP M.sim M.yes (cZ n5 p2),λW B=>⟨J,_,J,kC ?_⟩⟩;refine Xw (l:=[(4,.int (n:Int)),(5,.int (p:Int))]) (λq b=>?_) (E4 n p) (λvN H5 s5 iN=>?_);rcases ak.mp b with rfl|b;exact⟨_,J,J⟩;rw[ai.mp b];exact⟨_,J,J⟩;obtain⟨lN,af,rfl,gN,b1⟩:=iN;refine⟨lN,J,⟨af,aM.of gN⟩,?_⟩;have a3:=i1.mono (B.trans s5);let b5:Nat->L2.St->Hp->Prop:=λj g G=>zi H5 G/\∃y7 Z,g=[some (.ref s),some (.int (i:Int)),some (.ref a),some D,some (.int (n:Int)),some (.int (p:Int)),some (.ref lN),y7,Z,x9,z,u,r,k];refine Yk (K:=K) (a:=lN) (xs:=af) b5 ⟨zi.refl _,_,_,J⟩ (λj g G _ ⟨l,_⟩=>aM.of (l _ _ gN)) ?_ ?_
   . rintro j y g G S ⟨l,y7,Z,rfl⟩;obtain⟨tt,f,iy⟩:=b1.get' S;rw[bi]at f;cases eq:(tD (n:Int) (p:Int))[j]? with|none=>rw[eq]at f;cases f|some q=>rw[eq]at f;cases f;obtain⟨pq,xq,rfl,bL,w1,q1,rfl,e1,w2,q2,rfl,e2,e3⟩:=iy;cases(show q2=[]from e3);cases(show w1=.int q.1 from e1);cases(show w2=.int q.2 from e2);refine⟨pq,_,J,aG.of (l _ _ bL),J,_,_,J,_,_,J,J,?_⟩;exact⟨eH h,D,q.1,q.2,"wall",J,a3.mono l,wo _,pH M.sim (FJ M q (bq eq)),λW B=>⟨J,_,J,kC ⟨l.trans B,_,_,J⟩⟩⟩
   rintro g G ⟨l,y7,Z,rfl⟩;have aS:=a3.mono l;dsimp only[mD,Ends.sq,mK];refine CM (decide ((0:Int)<(p:Int))) (λQ q=>⟨_,_,J,J,_,J,q⟩) (λc Q q=>?_) (λG1 t1=>?_);have c:0<p:=by have:=c9 c;omega
   exact⟨_,_,J,J,eH h,D,n,(p:Int)-1,"wall",J,aS,wo _,pH M.sim (M.no (by omega)),λW B=>⟨J,false,by rw[bp J];rfl,q W B⟩⟩;dsimp only[mD,Ends.sq,mK];refine CM (decide ((0:Int)<(p:Int))) (λQ q=>⟨_,_,J,J,_,J,q⟩) (λc Q q=>?_) (λG2 t2=>?_);have c:0<p:=by have:=c9 c;omega
   refine zW (decide ((1:Int)<(n:Int))) (λQ q=>⟨_,_,J,J,_,J,q⟩) (λc2 Q q=>?_) Q q;have c2:1<n:=by have:=c9 c2;omega
   exact⟨_,_,J,J,eH h,D,(n:Int)-1,p,"wall",J,aS.mono t1,wo _,pH M.sim (M.no (by omega)),λW B=>⟨J,false,by rw[bp J];rfl,q W B⟩⟩;have L:=B.trans (s5.trans (l.trans (t1.trans t2)));refine⟨a,xt,D,h,n,p,t,J,L _ _ bJ,i1.mono L,M,λlO H6 ts zs ah cb gO iO bg b7=>?_⟩;have S6:zi H H6:=ah.bt.same (S3.trans L) (λy S=>by rw[ai.mp S];exact U);have bB:Is H6 (eH h) D:=Is.tups ah.tu (wo _) (i1.mono L);refine⟨lO,J,⟨zs,aM.of gO⟩,?_⟩;let b4:Nat->L2.St->Hp->Prop:=λj g G=>zi H6 G/\∃y9,g=[some (.ref s),some (.int (i:Int)),some (.ref a),some D,some (.int (n:Int)),some (.int (p:Int)),some (.ref lN),y7,Z,y9,z,u,r,k];refine Yk (K:=K) (a:=lO) (xs:=zs) b4 ⟨zi.refl _,_,J⟩ (λj g G _ ⟨l,_⟩=>aM.of (l _ _ gO)) ?_ ?_;rintro j y g G S ⟨l,y9,rfl⟩;obtain⟨tt,f,iy⟩:=iO.get' S;obtain⟨hs,rfl,Sm,em⟩:=bg tt (bq f);exact⟨eH hs,y,n,p,"wall",J,iy.mono l,wo _,pH Sm em,λW B=>⟨J,_,J,kC ⟨l.trans B,_,J⟩⟩⟩;rintro g G3 ⟨ap,y9,rfl⟩;have N:=bB.mono ap;have bK:=M.ss;have cc:=M.fl;refine Xw (l:=[(3,eH h)]) (λq b=>by rw[ai.mp b];exact⟨_,J,N⟩) (Ea h) (λvT H7 s7 iT=>?_);refine⟨eH ⟨h.b,h.w,[],h.ss⟩,vT,n,p,"house",J,iT,wo _,⟨M.none'.1,.inl ⟨M.none'.2,J⟩⟩,λH8 s8=>⟨J,_,J,kC ?_⟩⟩;have a2:=N.mono (s7.trans s8);refine Xw (l:=[(3,eH h)]) (λq b=>by rw[ai.mp b];exact⟨_,J,a2⟩) (E1 (by omega)) (λvC H9 s9 iC=>?_);have a1:=a2.mono s9;refine⟨_,3,.tup (h.ss.map eS),a1,J,J,λu9 e9=>?_⟩;obtain⟨p9,X,rfl,bM,b2⟩:=e9;have bI:((X.length:Nat):Int)=(n:Int):=by rw[b2.length,ag,bK]
   refine⟨p9,X,J,.inr (aG.of bM),?_⟩;rw[bI];have ay:∀d∈gu,eZ h.b d:=λd hd=>by rw[ai.mp hd];exact(by decide:(0:Int)<=1/\(1:Int)<=999)
   have C:∀{G:Hp}{a4:Option V},zi H9 G->∀q∈([(3,eH h),(10,.tup ((h.ss++[gu]).map eS)),(11,.int (n:Int))]:kD),∃v,([some (.ref s),some (.int (i:Int)),some (.ref a),some D,some (.int (n:Int)),some (.int (p:Int)),some (.ref lN),y7,Z,y9,some vC,some (.int (n:Int)),a4,k]:L2.St)[q.1]?=some (some v)/\Is G q.2 v:=λsG q b=>by rcases ak.mp b with rfl|b;exact⟨_,J,a1.mono sG⟩;rcases ak.mp b with rfl|b;exact⟨_,J,iC.mono sG⟩;rw[ai.mp b];exact⟨_,J,J⟩
   refine Xw (l:=[(3,eH h),(10,.tup ((h.ss++[gu]).map eS)),(11,.int (n:Int))]) (C (zi.refl _)) (Eb (by omega)) (λa8 c0 bc bG=>?_);obtain⟨bk,bh,_⟩:=M.moreF (s:=gu) (by decide) ay;refine⟨_,a8,n,p,"",J,bG,wo _,qP bk (bh J) (cZ n5 p2),λcw bb=>⟨J,_,J,kC ?_⟩⟩;have R:=bc.trans bb;refine Xw (l:=[(3,eH h),(10,.tup ((h.ss++[gu]).map eS))]) (λq b=>C R q (by rcases ak.mp b with rfl|b;simp;rw[ai.mp b];simp)) Op (λa7 cv aw bE=>?_)
   obtain⟨b0,b3⟩:=M.at (i:=0) (by omega)
   have l0:=(M.sc _ b0).1;have b9:=M.t2;refine ?_;refine Xw (l:=[(3,eH h),(11,.int (n:Int))]) (λq b=>C (R.trans aw) q (by rcases ak.mp b with rfl|b;simp;rw[ai.mp b];simp)) (DO b3 (by omega)) (λa6 cs av bD=>?_)
   refine⟨⟨h.b,h.w,h.fs,h.ss++[gu]⟩,h.ss.getD 0 []++[.beg n []],0,a7,a6,J,bE.mono av,bD,by show 0<(h.ss++[gu]).length;rw[az];omega,by show(h.ss++[gu]).length<=100;rw[az];show _+1<=100;omega,λa5 co ba bC=>?_⟩;obtain⟨bw,bl,_⟩:=M.moreB (i:=0) (by omega) (s:=gu) (by decide) ay;refine⟨_,a5,n,p,"",J,bC,wo _,qP bw (bl J) (cZ n5 p2),λcn a9=>⟨J,_,J,kC ?_⟩⟩;exact⟨S6.trans (ap.trans (s7.trans (s8.trans (s9.trans (R.trans (aw.trans (av.trans (ba.trans a9)))))))),_,_,_,_,_,_,_,_,_,_,_,_,_,J⟩
 rintro g H1 ⟨s1,x1,x2,x3,x4,x5,x6,x7,x8,x9,z,u,r,k,rfl⟩;refine Xw (l:=[]) (λq b=>nomatch b) D5 (λv H2 s2 iv=>?_);refine⟨eH Jv,v,17,0,"wall",J,iv,wo _,pH zT Eg,λH3 s3=>⟨J,_,J,kC ?_⟩⟩;refine⟨eH Jv,v,16,0,"",J,iv.mono s3,wo _,qP zT EO (by decide+kernel),λW B=>⟨J,_,J,kC ?_⟩⟩;refine Xw (l:=[]) (λq b=>nomatch b) E5 (λvS H5 s5 iS=>?_);refine Xw (l:=[(13,.tup ((cg 1).map eD))]) (λq b=>by rw[ai.mp b];exact⟨_,J,iS⟩) D9 (λv5 H6 s6 i5=>?_);refine⟨eH (mJ 5),v5,1,5,"wall",J,i5,wo _,pH (ui (by decide)) Oe,λH7 s7=>⟨J,_,J,kC ?_⟩⟩;refine Xw (l:=[(13,.tup ((cg 1).map eD))]) (λq b=>by rw[ai.mp b];exact⟨_,J,iS.mono (s6.trans s7)⟩) D8 (λv4 H8 s8 i4=>?_);refine⟨eH (mJ 4),v4,1,4,"",J,i4,wo _,qP (ui (by decide)) D2 (by decide+kernel),λH9 s9=>⟨J,?_⟩⟩;rw[bp J];exact kk _
end
abbrev NS(K:W.Frag)(x:Str)(v:Option Value):Prop:=W.nsIn K mainGlobals x=some v
def FD(K:W.Frag)(x:Str)(st:Stmt)(f:Addr)(F:FuncData):Prop:=NS K x (some (.ref f))/\gm K x x st f F
def FE(K:W.Frag)(x:Str)(st:Stmt):Prop:=∃f fd,FD K x st f fd
def CI(K:W.Frag)(x:Str)(i:Int):Prop:=∃t,NS K x (some (.int i t))
def KO(K:W.Frag)(C:Addr)(x:Str)(b:Bool):Prop:=∃a,NS K x (some (.ref a))/\W.kitOne K (.ref C) (.ref a)=some b
def KT(K:W.Frag)(a:Addr)(xs:List Str):Prop:=∀H,aG K H a (xs.map V.str)
section
variable{K:W.Frag}{y z:Str}{f C D N M:Addr}{kV doc pm cdv ct:Value}{b:Bool}{i:Int}{t u v:Tok}{n:Nat}
theorem rF(e:W.nsIn K mainGlobals x=some (some (.ref f)))(l:K.lookup f=some ⟨oc,od,.func (W.fnOf x x (jr st) (xj st) (zk st) .none kV doc pm an cdv ct),osl⟩)(c:W.codeIn K cdv x=true)(k:W.keepIn K (.ref f)=true):FD K x st f (W.fnOf x x (jr st) (xj st) (zk st) .none kV doc pm an cdv ct):=⟨e,uF l c k⟩
theorem Ds(e:W.nsIn K mainGlobals x=some (some (.ref f)))(l:K.lookup f=some ⟨oc,od,.func (W.fnOf x x (jr st) (xj st) (zk st) .none kV doc pm an cdv ct),osl⟩)(c:W.codeIn K cdv x=true)(k:W.keepIn K (.ref f)=true):FE K x st:=⟨_,_,rF e l c k⟩
theorem FE.d(X:K.In h)(G:h.Ns mainGlobals mg)(a:FE K x st):aY K mg x st:=let⟨f,b,e,F⟩:=a;⟨f,b,F,W.mg_of X G e⟩
theorem Dx(e:W.nsIn K mainGlobals x=some (some (.int i t))):CI K x i:=⟨_,e⟩
theorem CI.d(X:K.In h)(G:h.Ns mainGlobals mg)(e:CI K x i):∃t,mg x=some (.int i t):=let⟨t,e⟩:=e;⟨t,W.mg_of X G e⟩
theorem Do(e:W.nsIn K mainGlobals x=some (some (.ref a)))(k:W.kitOne K (.ref C) (.ref a)=some b):KO K C x b:=⟨_,e,k⟩
theorem KO.d(X:K.In h)(G:h.Ns mainGlobals mg)(e:KO K C x b):∃a,mg x=some (.ref a)/\W.kitOne K (.ref C) (.ref a)=some b:=let⟨t,e,k⟩:=e;⟨t,W.mg_of X G e,k⟩
theorem Ot(l:K.lookup a=some ⟨.type "tuple",od,.seq #[.str x t,.str y u,.str z v] n,osl⟩):KT K a [x,y,z]:=λH=>.inr ⟨_,_,n,l,J,J,aI,.cons ⟨_,J⟩ (.cons ⟨_,J⟩ (.cons ⟨_,J⟩ .nil))⟩
abbrev QN(K:W.Frag)(N:Addr):Prop:=W.nsIn K N "__class__"=some none/\W.nsIn K N "__getattribute__"=some none/\W.nsIn K N "__getattr__"=some none/\W.nsIn K N "__init__"=some none
theorem QN.all(q:QN K N):∀n∈qn,W.nsIn K N n=some none:=λn a=>by obtain⟨_,_,_,_⟩:=q;simp only[qn,ak,List.not_mem_nil,or_false]at a;rcases a with rfl|rfl|rfl|rfl<;>assumption
theorem xW{nm q nm' q':Str}{bs sub jX dU:O I}{b ab a jY:Bool}{sn jS:O Str}{col col':Option Bool}{dd cY:Option Y}{k0 k1 k2 k3 k5 j0 j1 j2 j3 j5:Option I}(g:K.lookup C=some (excClassObj nm q C N bs (.ref D::vE) b sn sub ab col dd k0 k1 k2 k3 k5 "ValueError.__new__")) (f:K.lookup D=some (excClassObj nm' q' D M jX vE a jS dU jY col' cY j0 j1 j2 j3 j5 "ValueError.__new__"))
 (g1:W.nsOkIn K N=true) (e:W.nsOkIn K M=true) (d:QN K N) (c:QN K M):bF K C D:=⟨⟨_,_,_,_,_,_,_,_,_,_,_,_,_,_,_,g,g1,d.all⟩,⟨_,_,_,_,_,_,_,_,_,_,_,_,_,_,_,f,e,c.all⟩⟩
end
section
variable{K:W.Frag}{m q:Str}{f C:Addr}{fs:List Str}{kV doc pm cdv ct:Value}
def DI(K:W.Frag)(q:Str)(C:Addr)(st:Stmt):Prop:=∃f fd,gm K "__init__" q st f fd/\Mk K C f
theorem DI.d(X:K.In h)(G:h.Ns mainGlobals mg)(e:NS K x (some (.ref C)))(a:DI K q C st):my K mg x q C st:=let⟨f,b,F,M⟩:=a;⟨f,b,F,M,W.mg_of X G e⟩
theorem Dw(l:K.lookup f=some ⟨oc,od,.func (W.fnOf "__init__" q (jr st) (xj st) (zk st) .none kV doc pm an cdv ct),osl⟩)(c:W.codeIn K cdv q=true)(k:W.keepIn K (.ref f)=true)(e:W.makesIn K C=true)(d:W.findIn K (.ref C) "__init__"=some (some (.ref f)))(b:W.isFn K (.ref f)=true)(a:W.keepIn K (.ref C)=true):DI K q C st:=⟨_,_,uF l c k,e,d,b,a⟩
theorem Dv(l:K.lookup f=some ⟨oc,od,.func (W.fnOf m q (jr st) (xj st) (zk st) .none kV doc pm an cdv ct),osl⟩)(c:W.codeIn K cdv q=true)(k:W.keepIn K (.ref f)=true)(b:W.findIn K (.ref C) m=some (some (.ref f)))(a:W.isFn K (.ref f)=true):jz K C m q st:=⟨_,_,uF l c k,b,a,k⟩
theorem Dy(a:W.plainGet K C Str.empty=true)(b:W.hasDictIn K C=true)(c:W.plainOver K C=true)(d:W.findIn K (.ref C) "__setattr__"=some (some (.builtin "object.__setattr__")))(e:∀f∈fs,W.findIn K (.ref C) f=some none):aJ K C fs:=⟨⟨a,b,c,d⟩,e⟩
end
theorem yA{l:W.OpenLaw}{K:W.Frag}{fa fL g kR p d kW kS:Y}(X:K.In h)(G:h.Ns mainGlobals mg)(eb:mg "law"=some (.ref fa))(b0:FE K "is_whole" Vo) (b1:FE K "is_within" Xy) (b2:FE K "is_tuple_within" ky) (b3:FE K "is_letters" Z2) (b4:FE K "is_word" Q9) (b5:FE K "is_box" xK) (b6:FE K "is_wall" Ja) (b7:FE K "is_member" Xz) (b8:FE K "are_members" Yt) (b9:FE K "is_calling" Xb) (f3:FE K "is_deed" Jb) (f2:FE K "is_script" Yn) (f1:FE K "is_frame" Vp) (f0:FE K "is_well_formed" jn) (fy:FE K "brought_by_scripts" Jf) (fx:FE K "is_small_enough" Yc) (fw:FE K "is_allowed" Z3) (fv:FE K "fits" qW) (fr:FE K "is_house" Xa) (fq:FE K "need_of" xM) (fn:FE K "said_in" Wt) (fl:FE K "is_met" xL) (e9:FE K "first_run" X1) (e8:FE K "woven_on" Vk) (e7:FE K "is_made" Z4) (e6:FE K "need_house" Y9) (e5:FE K "plan_of" Q8) (e4:FE K "made_plan" Xx) (e3:FE K "triples" Wr) (e0:FE K "say_of" Qa) (eG:FE K "come_of" Jd) (ey:FE K "go_of" wR) (ew:FE K "tried" wU) (ev:FE K "has_triples" Zs) (eu:FE K "ends_with_all_done" uZ) (et:FE K "are_papers" Xc) (er:FE K "_law_acell" wA) (eq:FE K "_law_atape" wO) (eo:FE K "_law_adigit" xI) (en:FE K "_law_akind" kz) (el:FE K "_law_aphase" X2) (ek:FE K "_law_amade" Ks) (ej:FE K "_law_abent_made" vZ) (eg:FE K "_law_awall" wP) (ef:FE K "_law_acaught" xJ) (ed:FE K "_law_awith" wQ) (ec:FE K "_law_aodd_says" sP) (bL:FD K "law" uu fL dL) (n0:CI K "BOXES" 0) (n1:CI K "WALLS" 1) (n2:CI K "FIRSTS" 2) (n3:CI K "SCRIPTS" 3) (n4:CI K "MOST_BOXES" 99) (n5:CI K "MOST_WALLS" 6) (n6:CI K "MOST_FIRSTS" 40) (n7:CI K "MOST_SCRIPTS" 20) (n8:CI K "MOST_DEEDS_OF_SCRIPT" 80) (n9:CI K "MOST_HANDS" 60) (dh:CI K "MOST_DEEDS" 1200) (da:CI K "MOST_RAISED" 99) (c6:CI K "MOST_AWAITED" 9999) (c5:CI K "MOST_WORKED" 999) (c4:CI K "MOST_LETTERS" 8) (d4:NS K "MODES" (some (.ref g))) (af:KT K g ["both","come","go"]) (c3:CI K "MOST_MEETERS" 16) (c2:CI K "MOST_PHASES" 4) (z:NS K "isinstance" none/\NS K "int" none/\NS K "bool" none/\NS K "str" none/\NS K "tuple" none/\NS K "dict" none/\NS K "list" none/\NS K "len" none/\NS K "all" none/\NS K "sum" none/\NS K "range" none/\NS K "enumerate" none/\NS K "sorted" none/\NS K "zip" none/\NS K "max" none/\NS K "min" none/\NS K "ValueError" none) (eH:NS K "NoHouse" (some (.ref cH))) (eL:NS K "NoWall" (some (.ref cL))) (eW:NS K "WallError" (some (.ref cW))) (tH:bF K cH cW) (d8:W.keepIn K (.ref cH)=true) (d6:W.kitOne K (.ref cH) (.type "ValueError")=some true) (ea:KO K cH "NoCount" false/\KO K cH "NoDeed" false/\KO K cH "NoHand" false/\KO K cH "NoHouse" true/\KO K cH "NoName" false/\KO K cH "NoRow" false/\KO K cH "NoStand" false/\KO K cH "NoText" false/\KO K cH "NoWall" false/\KO K cH "TooMany" false/\KO K cH "WallError" true) (tL:bF K cL cW) (d7:W.keepIn K (.ref cL)=true) (d5:W.kitOne K (.ref cL) (.type "ValueError")=some true) (d9:KO K cL "NoCount" false/\KO K cL "NoDeed" false/\KO K cL "NoHand" false/\KO K cL "NoHouse" false/\KO K cL "NoName" false/\KO K cL "NoRow" false/\KO K cL "NoStand" false/\KO K cL "NoText" false/\KO K cL "NoWall" true/\KO K cL "TooMany" false/\KO K cL "WallError" true) (uR:NS K "Role" (some (.ref kR))) (c:aJ K kR aR) (iR:DI K "Role.__init__" kR Vm) (uP:NS K "Plan" (some (.ref p))) (b:aJ K p aZ) (iP:DI K "Plan.__init__" p Vn) (d3:jz K p "enter" "Plan.enter" Qc) (d2:jz K p "at_first" "Plan.at_first" Wu) (uU:NS K "Run" (some (.ref d))) (a:aJ K d cJ) (iU:DI K "Run.__init__" d Yz) (dV:jz K d "put" "Run.put" uw) (dT:jz K d "level" "Run.level" wT) (dN:jz K d "next_deed" "Run.next_deed" vH) (dK:jz K d "may_go_on" "Run.may_go_on" uv) (dE:jz K d "has_done" "Run.has_done" Jc) (dv:jz K d "has_done_all" "Run.has_done_all" Qb) (dt:jz K d "do" "Run.do" pr) (dr:jz K d "changed" "Run.changed" Je) (uW:NS K "Weaver" (some (.ref kW))) (vW:aJ K kW cG) (iW:DI K "Weaver.__init__" kW Y8) (dp:jz K kW "step" "Weaver.step" vI) (dn:jz K kW "weave" "Weaver.weave" wV) (uS:NS K "Stop" (some (.ref kS))) (vS:aJ K kS eQ) (iS:DI K "Stop.__init__" kS Vl) (d1:jz K kS "lacks" "Stop.lacks" wS) (d0:jz K kS "up_to" "Stop.up_to" sV) (hb:∀(s:Shared)(v:I),BindsTo s dL ⟨[v],[]⟩ [("script",v)]):
  ∃fd:FuncData,(∀(s:Shared)(v:I),BindsTo s fd ⟨[v],[]⟩ [("script",v)])/\∀base:Heap,K.In base->base.Ns mainGlobals mg->cF l.prog w K mg base fZ 30 fa fd ["script"] (eT K):=by
 have e:=eb.symm.trans (W.mg_of X G bL.1);cases e;obtain⟨z0,z1,z2,z3,z4,z5,z6,z7,z8,z9,aS,ay,aw,av,ap,ah,zV⟩:=z;have T:Txt K mg:=⟨n0.d X G,n1.d X G,n2.d X G,n3.d X G,n4.d X G,n5.d X G,n6.d X G,n7.d X G,n8.d X G,n9.d X G,dh.d X G,da.d X G,c6.d X G,c5.d X G,c4.d X G,⟨g,W.mg_of X G d4,af⟩,W.mg_none_of X G z0,W.mg_none_of X G z1,W.mg_none_of X G z2,W.mg_none_of X G z3,W.mg_none_of X G z4,W.mg_none_of X G z5,W.mg_none_of X G z6,W.mg_none_of X G z7,W.mg_none_of X G z8,W.mg_none_of X G z9,W.mg_none_of X G aS,W.mg_none_of X G ay,W.mg_none_of X G aw,W.mg_none_of X G av⟩
 have TM:rJ mg:=⟨c3.d X G,c2.d X G⟩
 have TL:oY mg:=⟨W.mg_none_of X G ap,W.mg_none_of X G ah⟩
 refine⟨dL,hb,λbase XB _=>?_⟩;have F:=bL.2;obtain⟨q0,q1,Z,U,S,R,Q,P,N,M,f⟩:=ea;have yH:Kinds K mg cH 3:=⟨tH.err,by decide,W.mg_none_of X G zV,d6,q0.d X G,q1.d X G,Z.d X G,U.d X G,S.d X G,R.d X G,Q.d X G,P.d X G,N.d X G,M.d X G,f.d X G⟩
 clear q0 q1 Z U S R Q P N M f;obtain⟨q0,q1,Z,U,S,R,Q,P,N,M,f⟩:=d9;have yL:Kinds K mg cL 8:=⟨tL.err,by decide,W.mg_none_of X G zV,d5,q0.d X G,q1.d X G,Z.d X G,U.d X G,S.d X G,R.d X G,Q.d X G,P.d X G,N.d X G,M.d X G,f.d X G⟩
 clear q0 q1 Z U S R Q P N M f;have Er:rO K mg base cH cL cW:=⟨tH.own XB (W.mg_of X G eH) d8,tL.own XB (W.mg_of X G eL) d7,W.mg_of X G eW,tH.is XB,tH.under XB,tL.under XB,yH,yL⟩
 have o1:=Ng (P:=l.prog) (w:=w) (base:=base) (mg:=mg) (b0.d X G) T;have q:=Ny (b1.d X G) T o1;have o3:=Vq (P:=l.prog) (w:=w) (base:=base) (mg:=mg) (b2.d X G) T;have cc:=NM (P:=l.prog) (w:=w) (base:=base) (mg:=mg) (b3.d X G) T;have o4:=Mu (b4.d X G) T cc;have o5:=Ll (b5.d X G) T q;have o6:=Mt (b6.d X G) T q;have o7:=Nw (b7.d X G) T o3 o6;have o8:=NY (b8.d X G) T o7;have o9:=NK (b9.d X G) T o3 q o8;have c1:=Mr (f3.d X G) T o3 q o9 o5 o6 o4;have c0:=Nx (f2.d X G) T o3 c1;have cw:=Nc (f1.d X G) T o3 q;have cv:=Qk (f0.d X G) T cw c0 o9;have cs:=Mn (P:=l.prog) (w:=w) (base:=base) (mg:=mg) (fy.d X G) T;have co:=Nf (fx.d X G) T cs;have cn:=NJ (P:=l.prog) (w:=w) (base:=base) (mg:=mg) (fw.d X G) T;have cl:=AS (fv.d X G) T cn 20;have ck:=Nd (fr.d X G) T cv co cl;have cb:=Ln (P:=l.prog) (w:=w) (base:=base) (mg:=mg) (fq.d X G);have bN:=Mx (P:=l.prog) (w:=w) (base:=base) (mg:=mg) (fn.d X G) T;have bM:=Lm (P:=l.prog) (w:=w) (base:=base) (mg:=mg) (fl.d X G);have bK:=Ni (P:=l.prog) (w:=w) (base:=base) (mg:=mg) (iR.d X G uR) c;have bJ:=BB d3 T b c bK cb 20;have bI:=Nh (iP.d X G uP) T b bJ;have bG:=Mm (P:=l.prog) (w:=w) (base:=base) (mg:=mg) d2 T b c;have C:=Fz (P:=l.prog) (w:=w) (base:=base) (mg:=mg) dV a b c;have bE:=Mw (iU.d X G uU) T a b C;have o:=Nv (e9.d X G) b bG bE;have B:=Ia (P:=l.prog) (w:=w) (base:=base) (mg:=mg) dN T a b c;have bD:=JS (P:=l.prog) (w:=w) (base:=base) (mg:=mg) (cP:=p) (cR:=kR) dT a;have L:=Fy dK a b c B bD bM;have H:=Mo (P:=l.prog) (w:=w) (base:=base) (mg:=mg) dr;have E:=Eo dt T a b c H C;have D:=Mq (P:=l.prog) (w:=w) (base:=base) (mg:=mg) dE a;have j:=Lk (P:=l.prog) (w:=w) (base:=base) (mg:=mg) dv T a b c;have bC:=NO (P:=l.prog) (w:=w) (base:=base) (mg:=mg) (cP:=p) (cR:=kR) (iW.d X G uW) T vW a;have bB:=Ib dp vW a b c E;have bw:=JU dn vW a b c B L bB;have n:=Nk (e8.d X G) vW bC bw;have bl:=Nj (iS.d X G uS) vS o n;have bk:=JR d1 vS a D;have bh:=Ic (P:=l.prog) (w:=w) (base:=base) (mg:=mg) (cU:=d) d0 T vS;have bg:=Ms (e7.d X G) T TM b c q bN;have bd:=NN (e6.d X G) Er.oH ck;have bc:=Mv (e5.d X G) bd bI;have u:=Nz (e4.d X G) Er.oL bc bg;have m:=Mz (P:=l.prog) (w:=w) (base:=base) (mg:=mg) (e3.d X G) T;have t:=Lo (P:=l.prog) (w:=w) (base:=base) (mg:=mg) (e0.d X G) T b c;have bb:=Mp (eG.d X G) t;have ba:=JQ (ey.d X G) t;have a9:=HZ (eu.d X G) a o n j;have A:=NZ (ev.d X G) T m;have y:=NI (et.d X G) u A a9 m;have x:=JT (ew.d X G) T a vS u o n j m bb ba bl bk bh;have a8:=IQ (P:=l.prog) (w:=w) (base:=base) (mg:=mg) (er.d X G) T;have a7:=IT (eq.d X G) T a8;have k:=Lh (P:=l.prog) (w:=w) (base:=base) (mg:=mg) (eo.d X G) T;have a6:=IR (P:=l.prog) (w:=w) (base:=base) (mg:=mg) (en.d X G) T;have a5:=Li (P:=l.prog) (w:=w) (base:=base) (mg:=mg) (el.d X G) T;have a4:=IS (ek.d X G) T a5;have a3:=IP (ej.d X G) T TL k;have a2:=IU (eg.d X G) T k a4 a3;have a1:=Lj (ef.d X G) T Er x y a6;have i:=JP (P:=l.prog) (w:=w) (base:=base) (mg:=mg) (ed.d X G);have r:=HY (ec.d X G) T k i;exact Fx F T TL a7 a2 a1 r i
theorem N0{l:W.OpenLaw}{b:O Str}{o:(Str->Option I)->Heap->Prop}{g:World->Heap->Prop}{d:DefRec}{K:Params->W.Frag}(j:l.most=some 63)(c:d.params.defaults=[])(m:∀(w:World)(h:Heap),g w h->(K w.params).In h)
  (F:∀(w:World) (mg:Str->Option I) (e:Y) (h:Heap),(K w.params).In h->h.Ns mainGlobals mg->mg d.name=some (.ref e)-> ∃fd:FuncData,(∀(s:Shared)(u:I),BindsTo s fd ⟨[u],[]⟩ [("script",u)])/\∀base:Heap,(K w.params).In base->base.Ns mainGlobals mg->cF l.prog w (K w.params) mg base fZ 30 e fd ["script"] (eT (K w.params))):
  W.WalkO q b o g l.row.toRowW d [] (λf vs=>PySem.call f vs):=
 L2.sX (n:=63) (k:=30) (x:="script") (CX:=λ_=>fZ) (sp:=λw=>eT (K w.params)) j (by decide) c ⟨J,by decide,by decide⟩ m F (λ_ _ a i k _ n=>⟨a,i,J,n,k,λ_=>rfl⟩) λ_ _ _ _ _ z=>z
end My

structure PySem.W.Fast:Prop where(tw13101219954384248636 tw11783608949502573030 tw11368638482342296653 tw14848032460018162990 tw1992134434621921289 tw6294391506992414516 tw4657342891807667485 tw4107690270578077139 tw10216351677661888220 tw9759979559753587890 tw15519841091188161106 tw16013917215640517063 tw11731384104815925098 tw6318615648429825639 tw4079963944743445113 tw15220261272121546732 tw14335379584243126530 tw2371907262751654474 tw154108497347255097 tw8290625093758531532 tw1630148253649263922 tw11973387361803070100 tw6582764660098212180 tw4619116578068030456 tw3784666832223135515 tw3467966552728616735 tw5160218432404368136 tw9211334827112741048 tw6288081978861329587 tw10236806805946717306 tw7267513810997851254 tw10868678558741877635 tw10988515943556260621 tw240709521654701349 tw18105164916206007109 tw1337264118516241566 tw6972898107897740702 tw15553697905375306120 tw16394187147520903232 tw9510410871068235546 tw4555445703321046467 tw6065305004337810727 tw18205341334521304407 tw4724871181548723719 tw4332250387612056579 tw6036005595641708524 tw4641259999792444536 tw3107382582814536600 tw7730001851607760155 tw5041112988719764129 tw12281854165196647004 tw6220602883603836162 tw9572572121642510708 tw18225839757688313178 tw14875746551665531129 tw10814573393568230084 tw17035869496021809274 tw13270518706407452859 tw7252224161427978365 tw12220126359809838233 tw14435242199133604058 tw10789370725097610512 tw4291636700271541256 tw5698973841993373213 tw11824033395542196008 tw11594425831795508621 tw16943277285240930260 tw15759893336121976384 tw9292405660965124980 tw9045068486493467459 tw2704613574671677180 tw2919499130720351791 tw13851043672601262049 tw14696813366724117237 tw16565400775247939328 tw1260224282110982021 tw9423598023421761477 tw10193737923233690995 tw15612105428117295762 tw4355627200659979281 tw15296776186774173616 tw4962472103235104065 tw18446532098494907856 tw12049970602826936176 tw5044400218931796360 tw2122920697980952313 tw2307190106572119831 tw5587911932532218079 tw16104769084436804028 tw1842701124831485895 tw4300869080981844871 tw8834656933440803444 tw878577235847173406 tw4164564481628478396 tw15306452234500912322 tw17962133614312518453 tw9800254502211851887 tw3067899105109235741 tw12462635012549209045 tw1945367808208043203 tw6931506088018215734 tw5043297828899731174 tw7708325723013480629 tw186670107881299900 tw2269216817762079360 tw10245990083223944826 tw4540818779716859179 tw18210622238520390517 tw1065118040838958945 tw14390185837059601183 tw2170224201743262311 tw12272218651821544775 tw11599448513815385712 tw2594184891298000226 tw6623432674208929082 tw16799489499881839407 tw9408864412286012050 tw18025528890201214865 tw13509734666697679413 tw6150875523721166651 tw1777754398908245678 tw1673202256804961876 tw9756613387762910488 tw12839981011884215913 tw11045691586313779678 tw1064747702517501507 tw15236270845933843914 tw9986685436729556877 tw4588969127641569718 tw216475991617079303 tw10088033281751117827 tw6661254398375510780 tw104315040454663450 tw4339144500805442540 tw11084950602743553947 tw14501067005266923454 tw9244963688914826958 tw6787959470408135400 tw9226402261720510403 tw848648350365411662 tw6701192150849391026 tw1046062359380696498 tw2517231098260990330 tw2467682288679602506 tw14812224407827179987 tw7479187466866787150 tw2242822210506550051 tw3548594220764641026 tw13150442105254471262 tw17348017248538270518 tw4440398910448106453 tw15571405952344263690 tw11828264109296278447 tw15997956811540235561 tw16680694701760960671 tw6903329516945346402 tw3578917911289676177 tw3029559564572361678 tw8146457310867124666 tw11802172775816827387 tw11640517336894924431 tw4036226926213838111 tw9849974444734492780 tw13567046652274160663 tw11429692512336796465 tw1073693279472807453 tw14777522183182875561 tw13049763610012525835 tw3493368306049832332 tw826679727449102260 tw13785975750911702532 tw9376701812148068202 tw9200410194381583956 tw10111633388342794665 tw13352836542038421692 tw7279098123359868571 tw3911409919288177559 tw3430211931649551144 tw15865717644806679924 tw15673506583062831206 tw10007151819685364810 tw4516941640600945436 tw4076794027701975727 tw3903229513672409568 tw16437186575807388602 tw7966991054512282289 tw4589011339968400872 tw12307475935719297587 tw6598851799312644022 tw7205423118572611477 tw12044394371291614067 tw8663544994046401198 tw8518982097332941885 tw9401300236101918965 tw9780932756513964602 tw11153152677294873550 tw15088860340024061859 tw8004740913669093860 tw1944453933097277161 tw9319149156083150555 tw2439631411793555371 tw12866014037901051439 tw13674924745313741486 tw1407994099761198760 tw8608166429186461748 tw1245686406966479954 tw15138506497940217345 tw3240818992740733238 tw17705054931392793927 tw6671261746928859737 tw11270428891373284020 tw432696239620426707 tw2432740489846566350 tw5493467258643005859 tw10308149615331244701 tw5078263779104893251 tw4233098976820955956 tw751919693393504721 tw17939349843314551475 tw14683902220989381651 tw5122522691799697356 tw14467518897228001257 tw16400550727582835473 tw3365322574934496739 tw16781229582105804627 tw9247533271777024209 tw7123888421570222135 tw15585374834203122033 tw4301257668402934474 tw5025742125940067920 tw8089344327794376416 tw2707541571030933037 tw5950196247602885349 tw1318087607484532450 tw3968190169519246554 tw7294169216221047993 tw1887351338574903040 tw8843553145938111645 tw3336802572492866042 tw3591926431346215455 tw10615278527501217631 tw17529747126284127374 tw15174902526605485817 tw17689772798116128757 tw14750276719887248295 tw10492794292468080805 tw4675989783534283287 tw13758883374277116510 tw5294841412872747781 tw12028871411561704634 tw6630685741209431749 tw1493044727308259046 tw3906495233580419096 tw11008694180714550722 tw17444257156396404366 tw4880199623123156339 tw11270342701397594899 tw12544143350667394595 tw11688796669067749843 tw18056087958710105138 tw17252878972135009112 tw14916791399173829526 tw83485642886074803 tw6258687046299357869 tw2717416127735165344 tw7381707911573371261 tw8152657310815157868 tw13481291748122670833 tw1961200163583353199 tw961736785511270060 tw15361909793337172269 tw14919232589602047527 tw5067691673478361219 tw17955821545380829562 tw16478401054690997901 tw8595326777751202831 tw4390090909691945381 tw2966509400107764717 tw4628310415325407446 tw3131722928735166251 tw14079037142782511 tw5109717879571976536 tw8881077119710898796 tw7002106766513009243 tw5442935699913732037 tw7407570374130990894 tw12486079195014960069 tw7620365370002705692 tw18069616704690917003 tw14997074500011412409 tw7402917381009967036 tw9659921156001627764 tw4878051593244310380 tw670029062981575869 tw6934973331290879451 tw6197398780233234927 tw526914640513346740 tw9061818140626093787 tw17813382221194816817 tw15910420884124995394 tw3029135985020063421 tw2480324006160777222 tw10305696579354335493 tw6116904989742617470 tw4544306362242925795 tw15403954643471570243 tw5500992476192589113 tw7385886230077517661 tw18633325631189280 tw8421530145875948232 tw11417512027547355799 tw5559875655696092162 tw65345871337046819 tw6563201110831956056 tw15527963462547851610 tw1540781608804627165 tw10002508906289420170 tw11524416184952780436 tw18080749137450781003 tw5526344758092736934 tw5297049535613468998 tw15191271948975745702 tw8242417614971041452 tw482697411016068554 tw14224402502080772453 tw7492324445466969236 tw10379828026331274233 tw2957592554555052138 tw17189485546347739980 tw17611004173215602043 tw9255464366455086083 tw9302293599506954926 tw13108184388746459848 tw13128019665317395364 tw3705099314859754282 tw9457118676135003158 tw12033718956262404254 tw2430335484475254769 tw13036309070613183576 tw11704102531833046865 tw10729199561670982257 tw1564696090393854821 tw14083952955201978803 tw10990610209512433647 tw17538266462564781812 tw14602207024022079124 tw4390389279763413700 tw2478686341182335343 tw9853459898002181568 tw5493287546360329499 tw1652268383826695633 tw8409006367051521270 tw15496204111402553525 tw12616356193951479102 tw13626535937172565430 tw818360064738654222 tw7166266941125601399 tw13619154090260347785 tw14301504900972202883 tw816103843587072463 tw4093225215600018730 tw3758083719654273280 tw3653411748953360203 tw16260325749764898535 tw2155387079856096022 tw12846993737099860032 tw18169149409879227373 tw13834738976567011589 tw3351537393207604195 tw9032898528825727827 tw18442176270105288203 tw15005973376648343779 tw6981660603381565931 tw5813418728489759113 tw12159867632222274497 tw16168061169550626514 tw2316103103246481960 tw17071026487609572220 tw9891853871240385555 tw17434021000050282611 tw7770670177815338531 tw3263219127147598230 tw12184691967981120193 tw774727605978503806 tw2779191660284830557 tw2672059295674980803 tw3690056916097760508 tw12094454683294423124 tw15649074990919520114 tw2711258805377958396 tw7553638845832958305 tw16507358576443683481 tw5209208200728389111 tw9286090315720975093 tw12644194956708541548 tw974798501929428858 tw4573429281161250046 tw3316821013830336778 tw18210111533021026801 tw3586369157022933113:True)

open PySem PySem.W PyProof.Rows
set_option maxRecDepth 100000 in
set_option maxHeartbeats 0 in
theorem PySem.Challenge.cw_meetwall_k32_no_made_ones_holds : PySem.Challenge.rw_meetwall_k32_no_made_ones.Holds := by
 w_on;o_law;k_head;(case hw=>w_witness2)
 k_fill
 refine My.N0 (l:=PySem.Challenge.rw_meetwall_k32_no_made_ones) rfl rfl (λw h Y=>PySem.W.kIn_of Y) ?F
 case F=>
  intro w mg fa h KX G hmg;refine' My.yA (w:=w) KX G hmg ?_ ?_ ?_ ?_ ?_ ?_ ?_ ?_ ?_ ?_ ?_ ?_ ?_ ?_ ?_ ?_ ?_ ?_ ?_ ?_ ?_ ?_ ?_ ?_ ?_ ?_ ?_ ?_ ?_ ?_ ?_ ?_ ?_ ?_ ?_ ?_ ?_ ?_ ?_ ?_ ?_ ?_ ?_ ?_ ?_ ?_ ?_ ?bL ?_ ?_ ?_ ?_ ?_ ?_ ?_ ?_ ?_ ?_ ?_ ?_ ?_ ?_ ?_ ?mo ?mm ?_ ?_ ?z ?eH ?eL ?eW ?tH ?kpH ?kvH ?kkH ?tL ?kpL ?kvL ?kkL ?uR ?vR ?iR ?uP ?vP ?iP ?mP0 ?mP1 ?uU ?vU ?iU ?mU0 ?mU1 ?mU2 ?mU3 ?mU4 ?mU5 ?mU6 ?mU7 ?uW ?vW ?iW ?mW0 ?mW1 ?uS ?vS ?iS ?mS0 ?mS1 ?hb
  (case bL=>refine' My.rF ?a ?l ?c ?k;(case a=>k_is);(case l=>k_is);(case c=>k_is);(case k=>k_is))
  (case hb=>exact λs v=>.of_eq rfl)
  (case z=>refine⟨?_,?_,?_,?_,?_,?_,?_,?_,?_,?_,?_,?_,?_,?_,?_,?_,?_⟩<;>(unfold My.NS;k_is))
  (case mo=>unfold My.NS;k_is)
  (case mm=>refine' My.Ot ?a;(case a=>k_is))
  all_goals try(unfold My.NS;k_is)
  all_goals try(refine' My.xW ?f1 ?f2 ?g1 ?g2 ?h1 ?h2;(case f1=>k_is);(case f2=>k_is);(case g1=>kernel_rfl);(case g2=>kernel_rfl);(case h1=>refine⟨?_,?_,?_,?_⟩<;>k_is);(case h2=>refine⟨?_,?_,?_,?_⟩<;>k_is))
  (case kpH=>k_is)
  (case kvH=>kit_is)
  (case kpL=>k_is)
  (case kvL=>kit_is)
  (case kkH=>refine⟨?_,?_,?_,?_,?_,?_,?_,?_,?_,?_,?_⟩<;>(refine' My.Do ?a ?k;(case a=>k_is);(case k=>kit_is)))
  (case kkL=>refine⟨?_,?_,?_,?_,?_,?_,?_,?_,?_,?_,?_⟩<;>(refine' My.Do ?a ?k;(case a=>k_is);(case k=>kit_is)))
  all_goals first|(refine' My.Ds ?a ?l ?c ?k;(case a=>k_is);(case l=>k_is);(case c=>k_is);(case k=>k_is))|(refine' My.Dx ?a;(case a=>k_is))|(refine' My.Dv ?l ?c ?k ?m2 ?m3;(case m2=>k_is);(case l=>k_is);(case c=>k_is);(case k=>k_is);(case m3=>k_is))|(refine' My.Dw ?l ?c ?k ?m1 ?m2 ?m3 ?m4;(case m2=>k_is);(case l=>k_is);(case c=>k_is);(case k=>k_is);(case m1=>k_is);(case m3=>k_is);(case m4=>k_is))|(refine' My.Dy ?a ?b ?c ?d ?e;(case a=>k_is);(case b=>k_is);(case c=>k_is);(case d=>k_is);(case e=>intro f hf;simp only[My.aR,My.aZ,My.cJ,My.cG,My.eQ,List.mem_cons,List.not_mem_nil,or_false]at hf;(first|(rcases hf with rfl|rfl|rfl|rfl|rfl|rfl)|(rcases hf with rfl|rfl|rfl|rfl|rfl)|(rcases hf with rfl|rfl))<;>k_is))

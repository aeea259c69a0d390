import PyProof.Rows.All
import Wide.All
import OpenK.AllK
import Wide.FinOn
import Lean
import PyProof.EqAt
import PyProof.EqKinds
import PyProof.TupleCall
import PyProof.TupleKey
import PyProof.DictFindH
import PyProof.NeData
import PyProof.ListRange
import PyProof.ZipIter
import PyProof.Rows.CallKwBuiltin
import PyProof.MinMaxWalk
import KE.KSortTup
import PyProof.DictItems
import KE.KEqDict
import PyProof.DictValues
import PyProof.EnumIter
import PyProof.EnumMake
import PyProof.MeetsStr
import PyProof.MeetsStr2
import PyProof.StrCalls
import PyProof.StrCalls2
import PyProof.FString
import KE.KIntText
import KE.KDictSum
import KE.KItemsList
import PyProof.Rows.ZipGen
import PySem.Challenge.RW_meetwall_k81_whole_made_of_boxes_as_one
set_option Elab.async false
set_option linter.all false
set_option maxRecDepth 100000
set_option maxHeartbeats 4000000
set_option compiler.extract_closed false
noncomputable section
open PySem renaming Addr->lv,Around->mf,BindsTo->o0,CmpOp->OM,DictEntry->OO,Expr->OP,FuncData->O5,GenState->O6,Heap->O7,IsEnum->Ps,IsItemIter->Pt,IsPair->Pu,IsPart->Pw,Keyword->PB,Model->Ro,NameKind->Rp,Operator->RP,Program->R0,Result->Sb,Scope->Sc,Shared->Sh,Stmt->Sj,Value->Sr,World->SX,ZipApart->SY,binaryOp->S0,bootBuiltins->S3,builtinLookup_eq_fast->S8,callType_codes->Ta,call_meets->Tb,call_meetsIn->Tc,codeAny->Td,codeAny_builtin->Te,codeAny_call_builtin->Tf,codeAny_mono->Tg,concat_meets->Th,entry_at->Ti,eval->Tj,isSubtype_stop->Tk,isSubtype_tuple_tuple->Tl,kt_code_dict_new->Tt,mainGlobals->Tv,meetsH_dict_get_default->Tw,model->Tx,noFill_tuple_add->Tz,plainId_quiet->TC,pyNext->TD,rawInt->TF,seqIndex_neg->TH,seq_tuple_add->TK,sizeLine->TL,sizeLine_eq->TM,size_of_entries->TN,starEach->TQ,sub_AttributeError->TR,sysModules->TV,tupleKind_room_in1->TW,wpAny->TX,wpAny_Assign_Subscript->TY,wpAny_AugAssign_SubscriptAny->TZ,wpAny_Call_Name_kw->T1,wpAny_Call_method->T2,wpAny_Call_method0_late->T5,wpAny_Call_method_late->T7,wpAny_Dict_empty->T8,wpAny_attempt->Ua,wpAny_bind->a9,wpAny_call->Ub,wpAny_callSpecial?_slot->Uc,wpAny_call_entry->dk,wpAny_comprehension_free->Ud,wpAny_dictEntries->Ue,wpAny_dictEpoch->Uf,wpAny_dictSet_heap->Ug,wpAny_execs_nil->Uh,wpAny_field->Ui,wpAny_fieldsOf->Uj,wpAny_forIn_list->Uk,wpAny_getItem_heap->Ul,wpAny_handled->Um,wpAny_holding->Uo,wpAny_isInstance->fz,wpAny_isOneOf_itemiter->Up,wpAny_isOneOf_keyiter->Uq,wpAny_isOneOf_valiter->Ur,wpAny_isTrue_Compare1->Us,wpAny_letGo->Ut,wpAny_letOwnedTupleGo_enum->Uu,wpAny_letOwnedTupleGo_items->Uv,wpAny_load->Uw,wpAny_missedRemoval_other->Ux,wpAny_mono->fq,wpAny_newList->Uy,wpAny_newObj_type->fe,wpAny_newTuple->Uz,wpAny_nextOf_list_end->UA,wpAny_nextOf_list_item->UB,wpAny_notOrdered_dict->UC,wpAny_of_eq->UD,wpAny_onRaise->UE,wpAny_passesOwn->UF,wpAny_pure->aa,wpAny_pyIter_enum->UG,wpAny_pyIter_list->UH,wpAny_pyIter_rangeiter->UI,wpAny_pyIter_slot->UJ,wpAny_pyIter_tuple->UK,wpAny_pyNext_list_end->UL,wpAny_pyNext_list_item->UM,wpAny_pyNext_range_end->UN,wpAny_pyNext_tuple_end->UO,wpAny_pyNext_tuple_item->UP,wpAny_rule->UQ,wpAny_seqItems->UR,wpAny_setField->US,wpAny_setField_rec->UT,wpAny_setItem_heap->UU,wpAny_specialOf->UV,wpAny_standAt->UW,wpAny_throw->UX,wpAny_truthy_bool->UY,wpAny_tryCatch->UZ,wpAny_tupleItemsOf->U0,wpAny_typeNameOfWhole_itemiter->VA,wpAny_typeNameOfWhole_keyiter->VB,wpAny_typeNameOfWhole_valiter->VC,wpAny_typeNameOf_itemiter->VD,wpAny_typeNameOf_keyiter->VE,wpAny_typeNameOf_valiter->VF,wpAny_typeOf->VG,wpAny_updateSeq->VH
open PyProof.Rows renaming AllBare->l0,Constant_none->ON,IntsAre->Pr,IsTup->Px,callWith_type1->R7,lt_int->R8,slot_tuple_getitem->R9,listUpdate_at->Tu,subscriptTail_builtinR->TU
open PySem.Around renaming under_plainId->mu
open Array renaming forIn_toList->nh,getElem?_eq_getElem->fw,getElem?_eq_none->nu,getElem?_toList->nv,length_toList->nG,size_push->op
open PySem.AutoSeq1 renaming wpAny_loadPart'->ot
open Bool renaming and_eq_true->bu,eq_iff_iff->pb,false_eq_true->pq,false_ne_true->cy,or_eq_true->pu,true_and->py
open PySem.Builtin.Dict renaming showsAll->qm,takeOut->qq,updateFrom->re
open PySem.Builtin.Dict_items renaming ownedTupleFields->rf,ownsTuple->ri
open PySem.Builtin.List renaming listSameRef->rn,listTooLong->ro
open PySem.Builtin.Range renaming rangeSize->rs,small->r0
open PySem.Builtin.Slice renaming sliceAdjust->sg,slicePlaces->ti
open PySem.Builtin.SmallTypes renaming nextOf->vi,nextOrEnd->vr,ownedTupleIsFree->we
open PySem.Builtin.Tuple renaming tupleHashOf->wh,tupleItemsOf->zw
open PySem.Calls renaming Name_function_global->CS,callWith_builtin->I8,evalArgs_plain->J3,spliced_cons->J4,spliced_nil->J5
open Classical renaming axiomOfChoice->OJ,byContradiction->OL
open PySem.F renaming args_dict_itemiterator_next_1->OQ,args_dict_keyiterator_next_1->OR,args_dict_valueiterator_next_1->OS,entry_dict_itemiterator_next->OT,entry_dict_keyiterator_next->OU,entry_dict_valueiterator_next->OV,plain_min_loop->OW,slot_dict_itemiterator_next->OX,slot_dict_items_iter->OY,slot_dict_keyiterator_next->OZ,slot_dict_valueiterator_next->O0,slot_dict_values_iter->O1
open False renaming elim->O2
open ForInStep renaming yield->O3
open PySem.W renaming Frag->O4,OpenLaw->RO,callWith_K->Sz,codeIn->SA,emptyDict->SD,findIn->SE,fnOf->SF,hasDictIn->SH,instObj->SI,keepIn->SJ,kia_one->SK,kitOne->SM,lookIn->SN,mg_none_of->SO,mg_of->SQ,nsIn->SR,plainGet->SS,plainGet_of->SU,plainOver->SV,kas_bin->Tn,kas_count->To,kas_descPart->Tp,kas_rev->Tq,kas_sort->Tr,kas_tail3->Ts
open PySem.Heap renaming ExtBut->Pa,SameBut->Pc,get?_push_of_some->be,get?_push_size->cb,get?_update_ne->Pf,get?_update_other->Pg,get?_update_self->Ph,lt_size->bf,size_push->gm,size_update->Pj
open PySem.Heap.IsTuple renaming typeIs->Pb
open PySem.Heap.SameBut renaming refl->Pd,update->Pe
open Int renaming add_emod_right->Pk,emod_eq_of_lt->Pl,emod_lt_of_pos->lh,emod_nonneg->Pm,le_refl->fm,le_trans->Pn,natCast_add->Po,natCast_nonneg->Pp,toNat_natCast->dm,zero_add->gh
open Int.ofNat renaming inj->Pq
open List renaming all_eq_true->fi,any_cons->PH,any_eq_false->PJ,any_eq_true->im,append_assoc->PK,append_nil->eh,cons_append->PL,countP_append->PM,countP_cons->PN,count_append->PP,dropLast_concat_getLast->PQ,drop_eq_getElem_cons->PR,drop_length->PU,drop_zero->PV,filter->PX,filterMap_cons->PY,filter_append->PZ,filter_congr->P0,filter_cons->P1,filter_filter->P2,filter_map->P4,filter_sublist->P5,find?_cons->P6,flatMap_append->P7,flatMap_cons->P8,flatMap_singleton->P9,flatten_cons->QA,forIn_cons->QB,forIn_nil->QC,getD_eq_getElem?_getD->fj,getElem?_append_left->QD,getElem?_append_right->QE,getElem?_eq_getElem->cg,getElem?_eq_none->lc,getElem?_eq_some_iff->d7,getElem?_map->bq,getElem?_range->QF,getElem?_set_ne->QG,getElem?_set_self->QH,getElem?_zip_eq_some->QI,getElem_inj->QJ,getElem_mem->QK,isEmpty_nil->QL,length->QM,length_append->cq,length_cons->fg,length_drop->QN,length_eq_zero_iff->io,length_filter_le->i0,length_map->ag,length_nil->QO,length_range->d9,length_replicate->ie,length_singleton->ij,length_take->ia,length_take_le'->QP,length_zip->QR,lookup->QS,map_append->bo,map_congr_left->QT,map_cons->d8,map_map->ck,map_nil->QU,map_replicate->QV,mem_append->cp,mem_append_left->ee,mem_append_right->di,mem_cons->bc,mem_cons_of_mem->bp,mem_cons_self->bv,mem_filter->fo,mem_flatMap->QW,mem_map->bz,mem_map_of_mem->QX,mem_of_getElem?->dj,mem_of_mem_drop->QY,mem_of_mem_take->QZ,mem_range->cr,mem_singleton->ai,nil_append->Ra,nodup_append->Rb,nodup_cons->d6,nodup_nil->Rc,nodup_range->Re,not_mem_nil->ii,of_mem_zip->Rf,perm_append_comm->Rg,perm_middle->Rh,range->Ri,range_succ->Rj,replicate->Rk,replicate_succ->Rl,replicate_succ'->ld,size_toArray->dy,sum_append->Rm,sum_cons->Rn,take_add_one->fh,take_length->gy
open PySem.NameKind renaming cell->Rq,free->Rs
open Nat renaming add_le_add_left->Rt,add_lt_add_left->Ru,le_add_right->Rv,le_of_lt->Rw,le_of_not_lt->Rx,le_refl->au,le_succ->Ry,le_trans->dq,lt_irrefl->f9,lt_of_le_of_lt->gu,lt_of_lt_of_le->dc,lt_of_not_le->Rz,lt_of_succ_le->RB,lt_of_succ_lt->RC,lt_succ_of_lt->RD,lt_succ_self->dz,lt_trans->RE,mul_comm->RG,ne_of_gt->fc,ne_of_lt->br,not_lt_zero->gw,zero_le->c9
open Ne renaming symm->ae
open PySem.Obj renaming cls_mapFields->RH,data_mapDictKeys->RI,data_mapFields->RJ,isFreed_of_dict->RK,isFreed_of_fields->RL,mapSeq->RN
open Option renaming isSome_map->RQ,map_eq_some_iff->df,map_some->RS,none->RT,some->RU
open Option.some renaming inj->RV
open Or renaming inl->RW,inr->RX
open PySem.PassesOwn renaming never->RY
open PySem.PyData renaming canLay0->R1,canLayAll0->R3,depthAll->R4,eqv->R5,eqvAll->R6
open PySem.SeqAt.EqAt renaming int_str->Sf,str_int->Sg
open Sum renaming inl->Sm,inr->So
open Sum.inl renaming inj->Sn
open True renaming intro->Sq
open PySem.Value renaming bool->Ss,int->Su,none->Sv,ref->Sw,str->Sx,type->Sy
def kr:=@if_neg
def kP:=@if_pos
def kS:=@absurd
def kU:=@decide_eq_true_eq
def kW:=@congrArg
theorem xY(h:True:=by intro _ _ _ _ h;first|(cases h;subst_vars;rfl)|(obtain⟨h,_⟩:=h;(repeat obtain⟨_,h⟩:=h)<;>(subst_vars;rfl))):True:=h
theorem xX(h:True:=by intro _ _ _ _ _ _ us hl;first|exact Ow hl (λ_=>rfl)|exact Ov hl (λ_ _=>rfl)|exact Ou hl (λ_ _ _=>rfl)|exact Ot hl (λ_ _ _ _=>rfl)|exact Os hl (λ_ _ _ _ _=>rfl)|(cases us<;>first|rfl|cases hl)):True:=h
theorem cG{m n:Nat}(h:Nat.ble m n=true:=by rfl):m<=n:=Nat.le_of_ble_eq_true h
theorem J{a:Sort _}{b:a}:b=b:=rfl
abbrev O:=@List
abbrev I:=PySem.Value
abbrev Y:=PySem.Addr
namespace L2
open PySem PySem.Spec PyProof.Rows
def _root_.cf:=@decide_eq_true
def _root_.cz:=@of_decide_eq_true
def _root_.fb:=@decide_eq_false
abbrev aJ:=Sum Int Str
noncomputable def pM:aJ->Sr->Bool|.inl k,v=>Value.isInt k v|.inr x,v=>Value.isStrOf x v
noncomputable def EE(w:SX):aJ->Int|.inl k=>hashInt k|.inr x=>hashStr w x
theorem wr:∀{k:aJ}{v:Sr},pM k v=true->(∃i t,k=Sm i/\v=Su i t)\/(∃x t,k=So x/\v=Sx x t)| .inl i,v,h=>by obtain⟨t,e⟩:=Value.isInt_shape (k:=i) (v:=v) h;exact .inl ⟨i,t,J,e⟩| .inr x,v,h=>by obtain⟨t,e⟩:=Value.isStrOf_shape (x:=x) (v:=v) h;exact .inr ⟨x,t,J,e⟩
theorem Ly(i:Int)(t:Tok):pM (.inl i) (.int i t)=true:=by simp[pM,Value.isInt]
theorem Lz(x:Str)(t:Tok):pM (.inr x) (.str x t)=true:=by simp[pM,Value.isStrOf]
theorem FF(a b:Int):decide ((Sm a:aJ)=Sm b)=(a==b):=by grind
theorem FI(a b:Str):decide ((So a:aJ)=So b)=decide (a=b):=by simp
theorem FG(a:Int)(b:Str):decide ((Sm a:aJ)=So b)=false:=fb (λq=>nomatch q)
theorem FH(a:Str)(b:Int):decide ((So a:aJ)=Sm b)=false:=fb (λq=>nomatch q)
def zt(prog:R0)(w:SX):PySem.KeyKind prog w aJ where
 is:=pM
 hash:=EE w
 inj:=λv a b Z F=>by
  rcases wr Z with⟨i,t,rfl,rfl⟩|⟨x,t,rfl,rfl⟩;rcases wr F with⟨j,u,rfl,e⟩|⟨y,u,rfl,e⟩;injection e with e1 _;rw[e1];exact nomatch e
  rcases wr F with⟨j,u,rfl,e⟩|⟨y,u,rfl,e⟩;exact nomatch e
  injection e with e1 _;rw[e1]
 byValue:=λk v h=>by rcases wr h with⟨i,t,rfl,rfl⟩|⟨x,t,rfl,rfl⟩<;>rfl
 pyHash:=λB h=>by rcases wr B with⟨i,t,rfl,rfl⟩|⟨x,t,rfl,rfl⟩;exact wpAny_pyHash_int h;exact wpAny_pyHash_str h
 eqBool:=λU B h=>by rcases wr U with⟨i,t,rfl,rfl⟩|⟨x,t,rfl,rfl⟩;rcases wr B with⟨j,u,rfl,rfl⟩|⟨y,u,rfl,rfl⟩;rw[FF]at h;exact wpAny_eqBool_int h;rw[FG]at h;exact Sf i t y u _ _ _ _ h;rcases wr B with⟨j,u,rfl,rfl⟩|⟨y,u,rfl,rfl⟩;rw[FH]at h;exact Sg x t j u _ _ _ _ h;rw[FI]at h;exact wpAny_eqBool_str h
 «strs»:=λk x t v h=>by
  rcases wr h with⟨i,u,rfl,e⟩|⟨y,u,rfl,e⟩;exact nomatch e
  injection e with e1 _;subst e1;cases v<;>rfl
theorem Nn(prog:R0)(w:SX)(i:Int)(t:Tok):(zt prog w).is (.inl i) (.int i t)=true:=Ly i t
theorem No(prog:R0)(w:SX)(x:Str)(t:Tok):(zt prog w).is (.inr x) (.str x t)=true:=Lz x t
inductive V where|non|bl (b:Bool)|int (i:Int)|str (x:Str)|byt (b:Array UInt8)|flt (b:UInt64)|ref (a:lv)|ty (n:String)
 deriving DecidableEq
def yf:V->Sr->Prop|.non,u=>u=Sv|.bl b,u=>u=Ss b|.int i,u=>∃t,u=Su i t|.str x,u=>∃t,u=Sx x t|.byt b,u=>∃t,u=Value.bytes b t|.flt b,u=>∃t,u=Value.float b t|.ref a,u=>u=Sw a|.ty n,u=>u=Sy n
abbrev yi:List V->List Sr->Prop:=Paired yf
theorem yi.length{xs:O V}{a:O I}(r:yi xs a):xs.length=a.length:=Paired.length r
theorem yi.get:∀{xs:List V}{a:List Sr}{i:Nat}{x:V},yi xs a->xs[i]?=some x->∃u,a[i]?=some u/\yf x u|_,_,_,_,.nil,e=>by simp at e|_,_,0,_,.cons r _,e=>by simp at e;subst e;exact⟨_,J,r⟩| _,_,i+1,x,.cons _ t,e=>by obtain⟨u,c,b⟩:=yi.get (i:=i) (x:=x) t (by simpa using e);exact⟨u,by simpa using c,b⟩
theorem yi.set{x:V}{u:Sr}(r:yf x u):∀{xs:List V}{a:List Sr}(i:Nat),yi xs a->yi (xs.set i x) (a.set i u)|_,_,_,.nil=>.nil|_,_,0,.cons _ t=>.cons r t|_,_,i+1,.cons q t=>.cons q (yi.set r i t)
theorem yi.append:∀{xs a:List V}{c b:List Sr},yi xs c->yi a b->yi (xs++a) (c++b)|_,_,_,_,.nil,s=>s|_,_,_,_,.cons r t,s=>.cons r (yi.append t s)
theorem yi.take:∀{xs:List V}{a:List Sr}(n:Nat),yi xs a->yi (xs.take n) (a.take n)|_,_,0,_=>.nil|_,_,_+1,.nil=>.nil|_,_,n+1,.cons r t=>.cons r (yi.take n t)
theorem yi.drop:∀{xs:List V}{a:List Sr}(n:Nat),yi xs a->yi (xs.drop n) (a.drop n)|_,_,0,r=>r|_,_,_+1,.nil=>.nil|_,_,n+1,.cons _ t=>yi.drop n t
def Yl:Option V->Option Sr->Prop|some v,some u=>yf v u|none,none=>True|_,_=>False
def KV{B:Type}:List (B×V)->List (B×Sr)->Prop:=Paired λ(p:B×V) (q:B×Sr)=>p.1=q.1/\yf p.2 q.2
noncomputable def kV:aJ->V|.inl i=>.int i|.inr x=>.str x
inductive HO where|lst (xs:List V)|tup (xs:List V)|dK (kvs:List (aJ×V))|dT (kvs:List (List aJ×V))|set (S:Int->Bool) (n:Nat)|ins (C dx:lv) (fs:List (Str×V))|own (x:lv)|xd (fs:List (Str×V))|met (f x:lv)|rng (lo hi:Int)|frz (o:Obj) (u:HO)|tbl (ps:Array Sr)|ext (φ:O7->Prop)
abbrev Hp:=lv->Option HO
noncomputable def ji(H:Hp)(a:lv)(o:HO):Hp:=λb=>if b=a then some o else H b
variable{a b:lv}{o u:HO}{h h':O7}{H:Hp}{P:R0}{w:SX}
theorem zd:ji H a o a=some o:=by unfold ji;rw[kP J]
theorem ja(h:b≠a):ji H a o b=H b:=by unfold ji;rw[kr h]
theorem II:ji (ji H a o) a u=ji H a u:=by funext b;unfold ji;simp_all
theorem Xl(h:H a=some o)(h':H b=some u)(d:o≠u):a≠b:=by grind
theorem zi(h:H a=some o)(h':H b=none):a≠b:=by grind
def li(h:O7)(a:lv):Prop:=∀o,h.get? a=some o->o.dict=none
theorem li.of{o:Obj}(n:li h a)(e:h.get? a=some o)(c:h'.get? a=some o):li h' a:=λq b=>by rw[c]at b;cases b;exact n o e
theorem li.push{h:O7}{c:Sr}{d:Data}{a:Array (Option Sr)}:li (h.push {cls:=c,dict:=none,data:=d,slots:=a}) h.objs.size:=λq b=>by
 have e:=b;cases hf:({cls:=c,dict:=none,data:=d,slots:=a}:Obj).isFreed with|false=>rw[cb _ hf]at e;grind| true=>
   simp[Heap.get?,Heap.push,hf]at e
   grind
section
variable(P:R0)(w:SX)
def qv(H:Hp)(h:O7)(a:lv):HO->Prop
 |.lst xs=>xs.length<=TL/\∃(its:List Sr)(n:Nat),yi xs its/\h.get? a=some {cls:=.type "list",data:=.seq its.toArray n}
 |.tup xs=>xs.length<=TL/\∃its:List Sr,yi xs its/\Px h a its.toArray/\li h a
 |.dK kvs=>kvs.length<=TL/\(a==TV)=false/\∃vs,KV kvs vs/\h.DictOf (zt P w) a vs
 |.dT kvs=>kvs.length<=TL/\(a==TV)=false/\∃xs:List (List aJ×lv×Sr),
  Paired (λ(p:List aJ×V) (q:List aJ×lv×Sr)=>p.1=q.1/\H q.2.1=some (.tup (p.1.map kV))/\yf p.2 q.2.2) kvs xs/\
  ∃o es ep,h.get? a=some o/\o.ExactDict/\o.data=.dict es ep/\es.toList=xs.map (entryOfKey (tupleKind (zt P w)))/\(xs.map (·.1)).Nodup
 |.set S n=>h.SetOf (intKind P w) a S n
 |.ins C dx fs=>H dx=some (.own a)/\fs.length<=1000/\dx≠a/\h.get? a=some (SI C dx)/\
  ∃mA,h.Ns1 dx mA/\(∀f,Yl (fs.lookup f) (mA f))/\PySem.Within mA (fs.map (·.1))
 |.own _=>∃o,h.get? a=some o
 |.xd fs=>∃mA,h.Ns1 a mA/\∀f,Yl (fs.lookup f) (mA f)
 |.rng lo hi=>∃t u v,h.get? a=some {cls:=.type "range",data:=.fields #[.int lo t,.int hi u,.int 1 v]}
 |.frz o u=>h.get? a=some o/\qv H h a u
 |.tbl ps=>h.get? a=some {cls:=.none,data:=.fields ps}
 |.met f x=>h.get? a=some (W.methodObj (.ref f) (.ref x))
 |.ext B=>B h/\(∃o,h.get? a=some o)/\∀h1 h2:O7,B h1->(∀o,h1.get? a=some o->h2.get? a=some o)->B h2
def bR(H:Hp)(h:O7):Prop:=∀a o,H a=some o->qv P w H h a o
end
section
variable{H':Hp}
theorem qv.lt(x:qv P w H h a o):a<h.objs.size:=by cases o with|lst c=>obtain⟨_,_,_,_,e⟩:=x;exact bf e|tup c=>obtain⟨_,_,_,p,_⟩:=x;exact p.lt|dK b=>obtain⟨_,_,_,_,o,_,_,e,_⟩:=x;exact bf e|dT b=>obtain⟨_,_,_,_,o,_,_,e,_⟩:=x;exact bf e|set S n=>obtain⟨o,_,_,_,e,_⟩:=x;exact bf e|ins C l d=>obtain⟨_,_,_,e,_⟩:=x;exact bf e|own y=>obtain⟨_,e⟩:=x;exact bf e|xd d=>obtain⟨_,⟨_,_,_,e,_⟩,_⟩:=x;exact bf e|rng lo k=>obtain⟨_,_,_,e⟩:=x;exact bf e|frz j u=>obtain⟨e,_⟩:=x;exact bf e|tbl i=>exact bf (x)|met f y=>exact bf (x)|ext g=>obtain⟨_,⟨_,e⟩,_⟩:=x;exact bf e
theorem fu{α g:Type}{F G:α->g->Prop}:∀{d:List α}{c:List g},Paired F d c->(∀a b,F a b->G a b)->Paired G d c|_,_,.nil,_=>.nil|_,_,.cons r t,f=>.cons (f _ _ r) (fu t f)
theorem qv.stay(x:qv P w H h a o)(k:∀b u,(b=a\/H b=some (.own a))->h.get? b=some u->h'.get? b=some u)(L:∀b,H b=some (.own a)->H' b=some (.own a)) (G:∀b xs,H b=some (.tup xs)->H' b=some (.tup xs)):qv P w H' h' a o:=by induction o with|lst xs=>obtain⟨z,l,n,r,e⟩:=x;exact⟨z,l,n,r,k _ _ (.inl J) e⟩|tup xs=>obtain⟨z,l,r,⟨g,e,c⟩,E⟩:=x;exact⟨z,l,r,⟨g,k _ _ (.inl J) e,c⟩,E.of e (k _ _ (.inl J) e)⟩|dK A=>obtain⟨z,y,B,r,g,i,j,e,c⟩:=x;exact⟨z,y,B,r,g,i,j,k _ _ (.inl J) e,c⟩| dT A=>obtain⟨z,y,xs,r,g,i,j,e,c⟩:=x;exact⟨z,y,xs,fu r λp q z=>⟨z.1,G _ _ z.2.1,z.2.2⟩,g,i,j,k _ _ (.inl J) e,c⟩|set S n=>obtain⟨g,i,j,t,e,c⟩:=x;exact⟨g,i,j,t,k _ _ (.inl J) e,c⟩| ins C W M=>obtain⟨d,z,D,e,s,⟨m,i,j,N,c⟩,r⟩:=x;exact⟨L _ d,z,D,k _ _ (.inl J) e,s,⟨m,i,j,k _ _ (.inr d) N,c⟩,r⟩|own y=>obtain⟨g,e⟩:=x;exact⟨g,k _ _ (.inl J) e⟩|xd M=>obtain⟨s,⟨m,i,j,e,c⟩,r⟩:=x;exact⟨s,⟨m,i,j,k _ _ (.inl J) e,c⟩,r⟩|rng lo U=>obtain⟨t,u,v,e⟩:=x;exact⟨t,u,v,k _ _ (.inl J) e⟩|frz g u F=>obtain⟨e,q⟩:=x;exact⟨k _ _ (.inl J) e,F q⟩| tbl R=>exact k a _ (.inl J) x| met f y=>exact k a _ (.inl J) x|ext Q=>obtain⟨p,⟨o,e⟩,st⟩:=x;exact⟨st _ _ p λo q=>k _ _ (.inl J) q,⟨o,k _ _ (.inl J) e⟩,st⟩
theorem bR.lt(x:bR P w H h)(e:H a=some o):a<h.objs.size:=(x a o e).lt
theorem bR.fresh(x:bR P w H h)(e:h.objs.size<=a):H a=none:=by cases q:H a with|none=>rfl|some u=>exact kS (dc (x.lt q) e) (f9 _)
theorem bR.kept(x:bR P w H h)(k:∀b u,h.get? b=some u->h'.get? b=some u):bR P w H h':=λa o e=>(x a o e).stay (λb u _ q=>k b u q) (λ_ q=>q) λ_ _ q=>q
theorem bR.laid(x:bR P w H h)(k:∀b u,h.get? b=some u->h'.get? b=some u)(i:h.objs.size<=a)(g:qv P w (ji H a o) h' a o):bR P w (ji H a o) h':=λb u e=>by have d:=x.fresh i;by_cases f:b=a;subst f;rw[zd]at e;simp_all;rw[ja f]at e;exact(x b u e).stay (λc v _ q=>k c v q) (λc q=>(ja (zi q d)▸q)) λc j q=>(ja (zi q d)▸q)
end
def Rd(H:Hp)(a:lv)(u:HO):Prop:=H a=some u\/∃o,H a=some (.frz o u)
theorem Rd.ok(r:Rd H a u)(x:bR P w H h):qv P w H h a u:=by rcases r with r|⟨o,r⟩;exact x a u r;obtain⟨_,q⟩:=x a _ r;exact q
def rT:Option HO->Prop|some (.lst _)=>True|some (.dK _)=>True|some (.dT _)=>True|some (.set _ _)=>True|some (.ins _ _ _)=>True|some (.ext _)=>True|_=>False
section
variable{x e:lv}{o':HO}
theorem bR.write(l:bR P w H h)(d:rT (H x))(he:e=x\/H e=some (.own x))(k:∀b u,b≠e->h.get? b=some u->h'.get? b=some u)(f:∃u,h'.get? e=some u)(m:qv P w (ji H x o') h' x o'):bR P w (ji H x o') h':=λb u q=>by
 have a:∀c y,H c=some (.own y)->c≠x:=λc y r z=>by subst z;rw[r]at d;exact d
 by_cases j:b=x;subst j;rw[zd]at q;simp_all;rw[ja j]at q;by_cases n:b=e;have i:H b=some (.own x):=by simp_all
 rw[q]at i;cases i;obtain⟨v,o⟩:=f;exact⟨v,by simp_all⟩;refine(l b u q).stay (λc v p r=>k c v ?_ r) (λc r=>(ja (a c b r)▸r)) λc g r=>by rw[ja ((λc g r z=>by subst z;rw[r]at d;exact d) c g r)];exact r
 grind
end
structure Un(fs ex:List lv)(H H':Hp)(h h':O7):Prop where
 keep:∀b o,h.get? b=some o->H b=none->b ∉ fs->b ∉ ex->h'.get? b=some o
 slot:∀b o,h.get? b=some o->H b=none->b∈fs->b ∉ ex->∃sl,h'.get? b=some {o with slots:=sl}
 free:∀b o,h.get? b=some o->H b=none->b ∉ ex->H' b=none
 there:∀b o,h.get? b=some o->b ∉ ex->∃o',h'.get? b=some o'
 tups:∀b xs,H b=some (.tup xs)->H' b=some (.tup xs)
 frzs:∀b o u,H b=some (.frz o u)->H' b=some (.frz o u)
 tbls:∀b ps,H b=some (.tbl ps)->∃more,H' b=some (.tbl (ps++more))
section
variable{fs qB ex OH:List lv}{H1 H2:Hp}{h1 h2:O7}{x e:lv}
theorem Un.any(u:Un fs ex H H1 h h1){a:Obj}(q:h.get? b=some a)(n:H b=none)(c:b ∉ ex):∃sl,h1.get? b=some {a with slots:=sl}:=by by_cases d:b∈fs;exact u.slot b a q n d c;exact⟨a.slots,u.keep b a q n d c⟩
theorem Un.kept(k:∀b u,h.get? b=some u->h'.get? b=some u):Un fs ex H H h h':=⟨λb a q _ _ _=>k b a q,λb a q _ _ _=>⟨a.slots,k b a q⟩,λ_ _ _ n _=>n,λb a q _=>⟨a,k b a q⟩,λ_ _ q=>q,λ_ _ _ q=>q,λ_ c q=>⟨#[],by simp_all⟩⟩
theorem Un.refl:Un fs ex H H h h:=Un.kept λ_ _ q=>q
theorem Un.laid(k:∀b u,h.get? b=some u->h'.get? b=some u)(f:h.objs.size<=a)(c:H a=none):Un fs ex H (ji H a o) h h' where
 keep:=λb u q _ _ _=>k b u q
 slot:=λb u q _ _ _=>⟨u.slots,k b u q⟩
 free:=λb u q n _=>(ja (br (dc (bf q) f))▸n)
 there:=λb u q _=>⟨u,k b u q⟩
 tups:=λb d q=>(ja (zi q c)▸q)
 frzs:=λb u d q=>(ja (zi q c)▸q)
 tbls:=λb g q=>⟨#[],by rw[ja (zi q c),q];simp⟩
theorem Un.write(c:rT (H x))(he:e=x\/H e=some (.own x))(k:∀b u,b≠e->h.get? b=some u->h'.get? b=some u)(i:∃u,h'.get? e=some u):Un fs ex H (ji H x o) h h':=by
 have g:∀b,H b=none->b≠x:=λb n z=>by subst z;rw[n]at c;exact c
 have d:∀b,H b=none->b≠e:=λb n z=>by simp_all
 have a:∀b u,H b=some u->¬rT (some u)->b≠x:=λb u q l z=>by simp_all
 refine⟨λb u q n _ _=>k b u (d b n) q,λb u q n _ _=>⟨u.slots,k b u (d b n) q⟩,λb u q n _=>(ja (g b n)▸n),λb u q _=>?_,λb f q=>(ja (a b _ q λz=>z)▸q),λb u f q=>(ja (a b _ q λz=>z)▸q),λb j q=>⟨#[],by rw[ja (a b _ q λz=>z),q];simp⟩⟩
 grind
end
noncomputable def xL(h:O7)(H:Hp):List lv:=(Ri h.objs.size).filter λa=>(H a).isSome
def nM(h:O7)(H:Hp):O7:=W.hideAll h (xL h H)
theorem Lv(h:O7)(H:Hp):(nM h H).objs.size=h.objs.size:=W.hideAll_size _ _
theorem KB{o:Obj}(e:h.get? b=some o)(n:H b=none):(nM h H).get? b=some o:=
 W.hideAll_get _ e λa=>by
  have q:=(fo.mp a).2
  simp_all
theorem HF{o:Obj}(e:(nM h H).get? b=some o):h.get? b=some o/\H b=none:=by
 have a:=W.of_hideAll (xL h H) e;refine⟨a,?_⟩;cases q:H b with|none=>rfl| some x=>
   have z:(nM h H).get? b=none:=W.hideAll_none (xL h H) (fo.mpr ⟨cr.mpr (bf a),by grind⟩)
   simp_all
noncomputable def GS(g h:O7)(L:lv):List (lv×Obj):=(Ri h.objs.size).filterMap λa=>if a=L\/(g.get? a).isSome=true then none else(h.get? a).map λo=>(a,o)
def Z1(g h:O7)(L d:lv):List (lv×Obj):=(GS g h L).filter λp=>decide (p.1≠d)
structure Mod(K:O4)(mg:Str->Option Sr)(base:O7):Prop where
 kin:K.In base
 glob:base.Ns Tv mg
 blt:∃mb,base.Ns builtinsNs mb/\∀x:Str,x≠"__name__"->mb x=S3 x
 nolimit:base.NoLimit
structure Cx where
 prog:R0
 w:SX
 K:O4
 mg:Str->Option Sr
 base:O7
 A:mf
 N:List Str
 s₀:Sh
 H₀:Hp
 env:Env
 outer:List Env
 stack:List Env
 ex:List lv
 fn:Str->Bool
 calm:Bool
 pn:List (lv×Obj)
 xe:Sr->Sh->Prop
noncomputable def iM(l:List Env):List lv:=l.filterMap (·.frame)
variable{A:mf}{pins cI:List (lv×Obj)}{σ:List (Option V)}{ch:List lv}{N:List Str}{i t':Nat}{s:Sh}{x:Str}{Q:Unit->Sh->Prop}{v:V}{u:Sr}{E:Sr->Sh->Prop}
abbrev Cx.fs(X:Cx):List lv:=iM X.outer
def tY(B:Sc)(x:Str):Prop:=B.names.lookup x=some .local\/B.names.lookup x=some .cell\/B.names.lookup x=some .free
def Loc(B:Sc)(x:Str):Prop:=B.names.lookup x=some .local\/B.names.lookup x=some .cell
def yL(B:Env)(h:O7)(m:Str->Option Sr)(x:Str)(u:Sr):Prop:=(B.kindOf x=some .local/\m x=some u)\/((B.kindOf x=some .cell\/B.kindOf x=some .free)/\∃c,B.cells.lookup x=some c/\h.IsCell c (some u))
structure Cx.Ok(X:Cx):Prop where
 mod:Mod X.K X.mg X.base
 kind:X.env.scope.kind=.function
 glob:X.env.globals=Tv
 blt:X.env.builtins=builtinsNs
 above:X.s₀.heap.objs.size<=X.env.locals
 inj:∀x y c,X.env.cells.lookup x=some c->X.env.cells.lookup y=some c->x=y
 has:∀x,(X.env.kindOf x=some .cell\/X.env.kindOf x=some .free)->∃c,X.env.cells.lookup x=some c
 cab:∀x c,X.fn x=true->X.env.cells.lookup x=some c->X.s₀.heap.objs.size<=c
 hd:X.calm=true->X.A.handled=none
 frames:X.A.frames=some X.stack
 stk:X.stack=X.outer\/(X.stack=X.env::X.outer/\X.env.frame=some X.env.locals)
 exf:∀b∈X.ex,b≠X.env.locals/\∀x c,X.env.cells.lookup x=some c->c≠b
 bs:∀b o,X.base.get? b=some o->X.s₀.heap.get? b=some o/\X.H₀ b=none
 bsz:X.base.objs.size<=X.s₀.heap.objs.size
 noex:∀b o,X.base.get? b=some o->b ∉ X.ex
 exfs:∀b∈X.ex,b ∉ X.fs
 funs:X.s₀.heap.FunFrames X.base X.outer
 frf:∀b∈X.fs,X.H₀ b=none
structure Inv(X:Cx)(pins:List (lv×Obj))(σ:List (Option V))(H:Hp)(s:Sh):Prop where
 ok:X.Ok
 os:s.os=X.s₀.os
 bare:l0 s.gens
 base:Un X.fs X.ex X.H₀ H X.s₀.heap s.heap
 loc:∃m,s.heap.Ns X.env.locals m/\∀(i:Nat)(x:Str)(v:V),X.N[i]?=some x->σ[i]?=some (some v)->tY X.env.scope x->∃u,yf v u/\yL X.env s.heap m x u
 cell:∀x c,X.env.cells.lookup x=some c->∃v,s.heap.IsCell c v
 free:H X.env.locals=none
 freeC:∀x c,X.env.cells.lookup x=some c->H c=none
 pin:∀p∈X.pn++pins,s.heap.get? p.1=some p.2/\H p.1=none/\p.1≠X.env.locals/\p.1 ∉ X.fs/\∀v,p.2.data≠ .cell v
 hok:bR X.prog X.w H s.heap
 len:σ.length=X.N.length
section
variable{X:Cx}{H':Hp}
theorem Cx.Ok.nofr(a:X.Ok){o:Obj}(e:X.base.get? b=some o):b ∉ X.fs:=λc=>by
 have:=(a.funs.mem c).1
 simp_all
theorem Inv.bs(I:Inv X pins σ H s):∀b o,X.base.get? b=some o->s.heap.get? b=some o/\H b=none:=λb o e=>⟨I.base.keep b o (I.ok.bs b o e).1 (I.ok.bs b o e).2 (I.ok.nofr e) (I.ok.noex b o e),I.base.free b o (I.ok.bs b o e).1 (I.ok.bs b o e).2 (I.ok.noex b o e)⟩
theorem Inv.bk(I:Inv X pins σ H s):∀b o,X.base.get? b=some o->s.heap.get? b=some o:=λb o e=>(I.bs b o e).1
theorem Inv.mod(I:Inv X pins σ H s):Mod X.K X.mg X.base:=I.ok.mod
theorem Inv.kIn(I:Inv X pins σ H s):X.K.In s.heap:=I.ok.mod.kin.keeps I.bk
theorem Inv.lt(I:Inv X pins σ H s):X.env.locals<s.heap.objs.size:=let⟨_,a,_⟩:=I.loc;a.lt
theorem Inv.sz(I:Inv X pins σ H s):X.s₀.heap.objs.size<=s.heap.objs.size:=dq I.ok.above (Rw I.lt)
theorem Inv.nofs(I:Inv X pins σ H s)(h:s.heap.objs.size<=a):a ∉ X.fs:=λc=>by obtain⟨_,o,b,_⟩:=I.ok.funs.mem c;exact kS (dc (bf b) (dq I.sz h)) (f9 _)
theorem Inv.cne(I:Inv X pins σ H s):∀x c,X.env.cells.lookup x=some c->c≠X.env.locals:=λx c e z=>by
 obtain⟨v,o,f,g⟩:=I.cell x c e;obtain⟨m,⟨d,i,j,a,b,_⟩,_⟩:=I.loc
 simp_all
theorem Inv.funs(I:Inv X pins σ H s):s.heap.FunFrames X.base X.outer:=by
 have d:∀(l:O Env),(∀b∈iM l,b∈X.fs)->X.s₀.heap.FunFrames X.base l->s.heap.FunFrames X.base l:=by intro l;induction l with|nil=>intro _ _;trivial| cons p r g=>intro f m;obtain⟨hk,⟨L,o,hf,k,j,n⟩,i⟩:=m;have c:=f L (by unfold iM;simp_all);obtain⟨q,e⟩:=I.base.slot L o j (I.ok.frf L c) c λz=>I.ok.exfs L z c;exact⟨hk,⟨L,_,hf,k,e,n⟩,g (λb a=>f b (by unfold iM;rw[PY,hf];exact bp _ a)) i⟩
 exact d X.outer (λ_ a=>a) I.ok.funs
theorem Inv.stack(I:Inv X pins σ H s):s.heap.FunFrames X.base X.stack:=by rcases I.ok.stk with e|⟨e,hf⟩;rw[e];exact I.funs;rw[e];obtain⟨m,a,_⟩:=I.loc;exact .cons (by rw[I.ok.kind];decide) hf a (Heap.get?_none_of_le (dq I.ok.bsz I.ok.above)) I.funs
theorem Inv.stkSub(I:Inv X pins σ H s):∀b∈iM X.stack,b∈X.env.locals::X.fs:=λb a=>by
 rcases I.ok.stk with e|⟨e,hf⟩
 simp_all
 rw[e]at a;unfold iM at a;rw[PY,hf]at a;exact a
theorem Inv.stkFree(I:Inv X pins σ H s):∀b∈iM X.stack,H b=none:=λb a=>by rcases bc.mp (I.stkSub b a)with e|a;rw[e];exact I.free;obtain⟨_,o,c,_⟩:=I.ok.funs.mem a;exact I.base.free b o c (I.ok.frf b a) λz=>I.ok.exfs b z a
theorem Inv.step{g':Array O6}{d':Drawn}(I:Inv X pins σ H s)(g:∀b∈ch,(b∈X.ex\/X.s₀.heap.objs.size<=b)/\b≠X.env.locals/\(∀x c,X.env.cells.lookup x=some c->c≠b)/\∀p∈X.pn++pins,p.1≠b)
  (keep:∀b o,b≠X.env.locals->b ∉ X.fs->b ∉ ch->s.heap.get? b=some o->H b=none->h'.get? b=some o)
  (y:∀b o,b≠X.env.locals->b∈X.fs->b ∉ ch->s.heap.get? b=some o->H b=none->∃sl,h'.get? b=some {o with slots:=sl}) (free:∀b o,b ∉ ch->s.heap.get? b=some o->H b=none->H' b=none)
  (A:∀b o,b ∉ ch->s.heap.get? b=some o->∃o',h'.get? b=some o')
  (D:∀b xs,H b=some (.tup xs)->H' b=some (.tup xs)) (L:∀b o u,H b=some (.frz o u)->H' b=some (.frz o u)) (E:∀b ps,H b=some (.tbl ps)->∃G,H' b=some (.tbl (ps++G)))
  (W:∀m,s.heap.Ns X.env.locals m->h'.Ns X.env.locals m) (hok:bR X.prog X.w H' h') (hg:l0 g'):
  Inv X pins σ H' {s with heap:=h',gens:=g',drawn:=d',toks:=t'}:=by
 have F:∀b o,X.s₀.heap.get? b=some o->b≠X.env.locals:=λb o e=>br (dc (bf e) I.ok.above);have t:∀b o,X.s₀.heap.get? b=some o->b ∉ X.ex->b ∉ ch:=λb o e a B=>by rcases(g b B).1 with z|z;exact a z;exact kS (dc (bf e) z) (f9 _)
 have j:∀x c,X.env.cells.lookup x=some c->∀v,s.heap.IsCell c v->h'.IsCell c v:=λx c e v ⟨o,C,P⟩=>by have f:=λz=>(g c z).2.2.1 x c e J;by_cases U:c∈X.fs;obtain⟨sl,q⟩:=y c o (I.cne x c e) U f C (I.freeC x c e);exact⟨_,q,P⟩;exact⟨o,keep c o (I.cne x c e) U f C (I.freeC x c e),P⟩
 refine⟨I.ok,I.os,hg,⟨λb o e n B a=>?_,λb o e n B a=>?_,λb o e n a=>?_,λb o e a=>?_,λb xs e=>D b xs (I.base.tups b xs e),λb o xs e=>L b o xs (I.base.frzs b o xs e),λb ps e=>?_⟩,?_,λx c e=>?_,?_,λx c e=>?_,λp S=>?_,hok,I.len⟩;exact keep b o (F b o e) B (t b o e a) (I.base.keep b o e n B a) (I.base.free b o e n a);obtain⟨sl,w⟩:=I.base.slot b o e n B a;obtain⟨N,M⟩:=y b _ (F b o e) B (t b o e a) w (I.base.free b o e n a);exact⟨N,M⟩;obtain⟨o',w⟩:=I.base.there b o e a;exact free b o' (t b o e a) w (I.base.free b o e n a);obtain⟨o',w⟩:=I.base.there b o e a;exact A b o' (t b o e a) w;obtain⟨m1,w⟩:=I.base.tbls b ps e;obtain⟨Z,M⟩:=E b _ w;exact⟨m1++Z,by rw[M,Array.append_assoc]⟩;obtain⟨m,hn,hl⟩:=I.loc;refine⟨m,W m hn,λi x v w M e3=>?_⟩;obtain⟨u,r,l⟩:=hl i x v w M e3;refine⟨u,r,?_⟩;rcases l with l|⟨k,c,e,z⟩;exact .inl l;exact .inr ⟨k,c,e,j x c e _ z⟩;obtain⟨v,z⟩:=I.cell x c e;exact⟨v,j x c e v z⟩;obtain⟨m,⟨o,_,_,C,_⟩,_⟩:=I.loc;exact free _ o (λz=>(g _ z).2.1 J) C I.free;obtain⟨v,o,C,P⟩:=I.cell x c e;exact free c o (λz=>(g c z).2.2.1 x c e J) C (I.freeC x c e);obtain⟨e,n,R,Q,d⟩:=I.pin p S;have f:=λz=>(g p.1 z).2.2.2 p S J;exact⟨keep p.1 p.2 R Q f e n,free p.1 p.2 f e n,R,Q,d⟩
theorem Inv.un(I:Inv X pins σ H s)(u:Un X.fs [] H H' s.heap h')(hok:bR X.prog X.w H' h'):Inv X pins σ H' {s with heap:=h',toks:=t'}:=by obtain⟨m,⟨o,t,v,g,r⟩,_⟩:=id I.loc;obtain⟨l,k⟩:=u.any g I.free (by simp);exact I.step (ch:=[]) (λ_ z=>nomatch z) (λb o _ c _ e n=>u.keep b o e n c (by simp)) (λb o _ c _ e n=>u.slot b o e n c (by simp)) (λb o _ e n=>u.free b o e n (by simp)) (λb o _ e=>u.there b o e (by simp)) u.tups u.frzs u.tbls (λq j=>by obtain⟨p,d,f,a,i⟩:=j;rw[g]at a;cases a;exact⟨_,d,f,k,i⟩) hok I.bare
theorem Inv.call{g':Array O6}{d':Drawn}(I:Inv X pins σ H s)(u:Un (iM X.stack) ch H H' s.heap h')(hok:bR X.prog X.w H' h')(t:l0 g')(f:∀b∈ch,(b∈X.ex\/X.s₀.heap.objs.size<=b)/\b≠X.env.locals/\(∀x c,X.env.cells.lookup x=some c->c≠b)/\∀p∈X.pn++pins,p.1≠b):
  Inv X pins σ H' {s with heap:=h',gens:=g',drawn:=d',toks:=t'}:=by obtain⟨m,⟨o,B,C,k,r⟩,_⟩:=id I.loc;obtain⟨w,g⟩:=u.any k I.free λz=>(f _ z).2.1 J;exact I.step f (λb o g v a e n=>u.keep b o e n (λz=>(bc.mp (I.stkSub b z)).elim g v) a) (λb o _ _ a e n=>u.any e n a) (λb o a e n=>u.free b o e n a) (λb o a e=>u.there b o e a) u.tups u.frzs u.tbls (λA q=>by obtain⟨y,i,j,d,l⟩:=q;rw[k]at d;cases d;exact⟨_,i,j,g,l⟩) hok t
theorem Inv.turned{a:Y}(I:Inv X pins σ H s)(k:∀b o,b≠a->s.heap.get? b=some o->h'.get? b=some o)(j:H a=none)(g:a≠X.env.locals)(A:a∈X.ex\/X.s₀.heap.objs.size<=a) (y:∀x c,X.env.cells.lookup x=some c->c≠a) (w:∀p∈X.pn++pins,p.1≠a):Inv X pins σ H {s with heap:=h',toks:=t'}:=by
 have f:∀b u,H b=some u->b≠a:=λb u e z=>by rw[z,j]at e;cases e
 refine I.step (g':=s.gens) (d':=s.drawn) (ch:=[a]) (λb t=>?_) (λb o _ _ d e _=>k b o (λz=>d (by simp[z])) e) (λb o _ _ d e _=>⟨o.slots,k b o (λz=>d (by simp[z])) e⟩) (λ_ _ _ _ n=>n)
  (λb o d e=>⟨o,k b o (λz=>d (by simp[z])) e⟩) (λ_ _ e=>e) (λ_ _ _ e=>e) (λb D e=>⟨#[],by rw[e];simp⟩) (λm l=>?_) (λb u e=>?_) I.bare
 have e:b=a:=by simpa using t
 subst e;exact⟨A,g,y,w⟩;obtain⟨o,B,C,i,r⟩:=l;exact⟨o,B,C,k _ o (ae g) i,r⟩;refine(I.hok b u e).stay (λc v d q=>k c v ?_ q) (λ_ q=>q) λ_ _ q=>q;rcases d with z|z;rw[z];exact f b u e;exact f c _ z
theorem Inv.tok(I:Inv X pins σ H s)(t:Nat):Inv X pins σ H {s with toks:=t}:=I.un Un.refl I.hok
theorem Inv.kept{t':Nat}(I:Inv X pins σ H s)(k:∀b u,s.heap.get? b=some u->h'.get? b=some u):Inv X pins σ H {s with heap:=h',toks:=t'}:=I.un (Un.kept k) (I.hok.kept k)
theorem Inv.laid{a:Y}{o:HO}{t':Nat}(I:Inv X pins σ H s)(k:∀b u,s.heap.get? b=some u->h'.get? b=some u)(d:s.heap.objs.size<=a)(c:qv X.prog X.w (ji H a o) h' a o):Inv X pins σ (ji H a o) {s with heap:=h',toks:=t'}:=I.un (Un.laid k d (I.hok.fresh d)) (I.hok.laid k d c)
theorem Inv.write{x e:Y}{o:HO}{t':Nat}(I:Inv X pins σ H s)(d:rT (H x))(he:e=x\/H e=some (.own x))(k:∀b u,b≠e->s.heap.get? b=some u->h'.get? b=some u)(a:∃u,h'.get? e=some u)(c:qv X.prog X.w (ji H x o) h' x o):Inv X pins σ (ji H x o) {s with heap:=h',toks:=t'}:=I.un (Un.write d he k a) (I.hok.write d he k a c)
theorem Inv.pins_of(I:Inv X pins σ H s)(h:∀p∈cI,s.heap.get? p.1=some p.2/\H p.1=none/\p.1≠X.env.locals/\p.1 ∉ X.fs/\∀v,p.2.data≠ .cell v):Inv X cI σ H s:=⟨I.ok,I.os,I.bare,I.base,I.loc,I.cell,I.free,I.freeC,λp a=>(cp.mp a).elim (λz=>I.pin p (ee _ z)) (h p),I.hok,I.len⟩
theorem Ci(hN:N.Nodup){j:Nat}(a:N[i]?=some x)(b:N[j]?=some x):i=j:=by obtain⟨g,d⟩:=d7.mp a;obtain⟨f,c⟩:=d7.mp b;exact(QJ hN).mp (d.trans c.symm)
theorem De{M:Ro}(I:Inv X pins σ H s)(hN:X.N.Nodup)(R:X.N[i]?=some x)(t:Loc X.env.scope x)(r:yf v u)(h:∀s',Inv X pins (σ.set i (some v)) H s'->(∃a,Pc a s.heap s'.heap/\(a=X.env.locals\/X.env.cells.lookup x=some a))->Q () s') (hf:X.fn x=true\/X.env.scope.names.lookup x=some .local:=by first|exact .inl J|exact .inr J|assumption):TX M A (storeName X.env x u) Q E s:=by
 obtain⟨m,hn,hl⟩:=id I.loc;have C:i<σ.length:=by rw[I.len];grind
 have L:=I.cne;have g:∀{a:Y}{N:O7},(∃o,s.heap.get? a=some o/\H a=none)->Pc a s.heap N->bR X.prog X.w H N:=λ{a N} ha f b ob e=>by
  obtain⟨_,_,ap⟩:=ha;refine(I.hok b ob e).stay (λc U w q=>(f.2 c ?_).trans q) (λ_ q=>q) λ_ _ q=>q
  grind
 rcases t with hk|hk;refine wpAny_storeName_local hk hn (λN ak f=>?_) (by rw[I.ok.kind];rfl);obtain⟨oL,_,_,aj,_⟩:=id hn;refine h _ ⟨I.ok,I.os,I.bare,⟨λb o e n G t=>?_,λb o e n G t=>?_,I.base.free,λb o e t=>?_,I.base.tups,I.base.frzs,I.base.tbls⟩,⟨_,ak,λj y W l B e3=>?_⟩,λy c e=>?_,I.free,I.freeC,λp hp=>?_,g ⟨oL,aj,I.free⟩ f,by simpa using I.len⟩ ⟨_,f,.inl J⟩;exact(f.2 b (br (dc (bf e) I.ok.above))).trans (I.base.keep b o e n G t);obtain⟨sl,l⟩:=I.base.slot b o e n G t;exact⟨sl,(f.2 b (br (dc (bf e) I.ok.above))).trans l⟩;obtain⟨o',l⟩:=I.base.there b o e t;exact⟨o',(f.2 b (br (dc (bf e) I.ok.above))).trans l⟩;by_cases D:j=i;subst D;rw[R]at l;cases l;rw[QH C]at B;cases B;exact⟨u,r,.inl ⟨hk,by simp⟩⟩;rw[QG (ae D)]at B;obtain⟨Z,r',q⟩:=hl j y W l B e3;refine⟨Z,r',?_⟩;rcases q with⟨k,e⟩|⟨k,c,e,z⟩;refine .inl ⟨k,?_⟩;have:y≠x:=λe=>D (Ci hN l (e▸R))
 simp_all
 exact .inr ⟨k,c,e,z.sameBut f (L y c e)⟩;obtain⟨U,z⟩:=I.cell y c e;exact⟨U,z.sameBut f (L y c e)⟩;obtain⟨e,n,P,nf,d⟩:=I.pin p hp;exact⟨(f.2 p.1 P).trans e,n,P,nf,d⟩;have F:X.fn x=true:=by simp_all
 obtain⟨c,w⟩:=I.ok.has x (.inl hk);obtain⟨U,z⟩:=I.cell x c w;refine wpAny_storeName_cell I.ok.kind hk w z (λN av f=>?_);obtain⟨oc,ah,aw⟩:=id z;refine h {s with heap:=N} ⟨I.ok,I.os,I.bare,⟨λb o e n G t=>?_,λb o e n G t=>?_,I.base.free,λb o e t=>?_,I.base.tups,I.base.frzs,I.base.tbls⟩,⟨m,hn.sameBut f (ae (L x c w)),λj y W l B e3=>?_⟩,λy S e=>?_,I.free,I.freeC,λp hp=>?_,g ⟨oc,ah,I.freeC x c w⟩ f,by simpa using I.len⟩ ⟨c,f,.inr w⟩;exact(f.2 b (br (dc (bf e) (I.ok.cab x c F w)))).trans (I.base.keep b o e n G t);obtain⟨sl,l⟩:=I.base.slot b o e n G t;exact⟨sl,(f.2 b (br (dc (bf e) (I.ok.cab x c F w)))).trans l⟩;obtain⟨o',l⟩:=I.base.there b o e t;exact⟨o',(f.2 b (br (dc (bf e) (I.ok.cab x c F w)))).trans l⟩;by_cases D:j=i;subst D;rw[R]at l;cases l;rw[QH C]at B;cases B;exact⟨u,r,.inr ⟨.inl hk,c,w,av⟩⟩;rw[QG (ae D)]at B;obtain⟨Z,r',q⟩:=hl j y W l B e3;refine⟨Z,r',?_⟩;rcases q with q|⟨k,S,e,z'⟩;exact .inl q;refine .inr ⟨k,S,e,z'.sameBut f ?_⟩;rintro rfl;exact D (Ci hN l (I.ok.inj _ _ _ e w▸R));by_cases aq:S=c
 grind
 obtain⟨w2,z2⟩:=I.cell y S e;exact⟨w2,z2.sameBut f aq⟩;obtain⟨e,n,P,nf,d⟩:=I.pin p hp;refine⟨(f.2 p.1 ?_).trans e,n,P,nf,d⟩
 grind
theorem CC{M:Ro}(I:Inv X pins σ H s)(hN:X.N.Nodup)(b:X.N[i]?=some x)(a:Loc X.env.scope x)(r:yf v u)(h:∀s',Inv X pins (σ.set i (some v)) H s'->Q () s') (c:X.fn x=true\/X.env.scope.names.lookup x=some .local:=by first|exact .inl J|exact .inr J|assumption):TX M A (storeName X.env x u) Q E s:=
 De I hN b a r (λs' d _=>h s' d) c
theorem Inv.call'{a:Sh}(I:Inv X pins σ H s)(f:a.os=s.os)(u:Un (iM X.stack) ch H H' s.heap a.heap)(hok:bR X.prog X.w H' a.heap)(g:l0 a.gens)(d:∀b∈ch,(b∈X.ex\/X.s₀.heap.objs.size<=b)/\b≠X.env.locals/\(∀x c,X.env.cells.lookup x=some c->c≠b)/\∀p∈X.pn++pins,p.1≠b):Inv X pins σ H' a:=by obtain⟨k,l,m,i,j⟩:=a;subst f;exact I.call u hok g d
end
abbrev XK:=Sr->Option lv->Hp->Prop
abbrev St:=List (Option V)
abbrev VK:=V->Hp->Prop
abbrev TE:=St->Hp->VK->Prop
abbrev TT:=St->Hp->(Bool->Hp->Prop)->Prop
abbrev TA:=St->Hp->(List V->Hp->Prop)->Prop
structure wo where
 nx:St->Hp->Prop
 rt:VK
 bk:St->Hp->Prop:=λ_ _=>False
 ct:St->Hp->Prop:=λ_ _=>False
variable{X:Cx}{c e:OP}{Ol:List Sj}{aE:Pos}{σ:St}{Q:Sr->Sh->Prop}
abbrev TS:=wo->St->Hp->Prop
abbrev wo.sq(D:wo)(u:TS):wo:={D with nx:=u D}
abbrev wo.lp(D:wo)(N:St->Hp->Prop):wo:={D with nx:=N,ct:=N,bk:=D.nx}
abbrev wo.of(Q:VK):wo:={nx:=λ_ H'=>Q .non H',rt:=Q}
inductive EP(X:Cx)(pins:List (lv×Obj))(σ:St)(Q:VK)(u:Sr)(s':Sh):Prop|mk:∀v H',Inv X pins σ H' s'->yf v u->Q v H'->EP X pins σ Q u s'
inductive TP(X:Cx)(pins:List (lv×Obj))(σ:St)(Q:Bool->Hp->Prop)(b:Bool)(s':Sh):Prop|mk:∀H',Inv X pins σ H' s'->Q b H'->TP X pins σ Q b s'
inductive AP(X:Cx)(pins:List (lv×Obj))(σ:St)(Q:List V->Hp->Prop)(us:List Sr)(s':Sh):Prop|mk:∀vs H',Inv X pins σ H' s'->yi vs us->Q vs H'->AP X pins σ Q us s'
def SP(X:Cx)(B:List (lv×Obj))(D:wo)(f:Flow)(F:Sh):Prop:=match f with|.next=>∃σ' H',Inv X B σ' H' F/\D.nx σ' H'|.brk=>∃σ' H',Inv X B σ' H' F/\D.bk σ' H'|.cont=>∃σ' H',Inv X B σ' H' F/\D.ct σ' H'|.ret u=>∃v σ' H',Inv X B σ' H' F/\yf v u/\D.rt v H'
def PE(X:Cx)(e:OP)(t:TE):Prop:=∀(pins:List (lv×Obj))(s:Sh)(σ:St)(H:Hp)(Q:VK),Inv X pins σ H s->t σ H Q->TX (Tx X.prog X.w) X.A (Tj e X.env) (EP X pins σ Q) X.xe s
def PT(X:Cx)(e:OP)(t:TT):Prop:=∀(pins:List (lv×Obj))(s:Sh)(σ:St)(H:Hp)(Q:Bool->Hp->Prop),Inv X pins σ H s->t σ H Q->TX (Tx X.prog X.w) X.A (isTrue e X.env (Tj e X.env)) (TP X pins σ Q) X.xe s
def PW(X:Cx)(e:OP)(t:TT):Prop:=∀(B:Sem Sr)(pins:List (lv×Obj))(s:Sh)(σ:St)(H:Hp)(Q:Bool->Hp->Prop),Inv X pins σ H s->t σ H Q->TX (Tx X.prog X.w) X.A (isTrue e X.env B) (TP X pins σ Q) X.xe s
theorem gg{t:TT}(h:PW X e t):PT X e t:=h _
def PA(X:Cx)(B:List OP)(t:TA):Prop:=∀(aE:Pos)(pins:List (lv×Obj))(s:Sh)(σ:St)(H:Hp)(Q:List V->Hp->Prop),Inv X pins σ H s->t σ H Q->TX (Tx X.prog X.w) X.A (spliced (backTo aE (TQ B X.env))) (AP X pins σ Q) X.xe s
def PS(X:Cx)(st:Sj)(t:TS):Prop:=∀(pins:List (lv×Obj))(s:Sh)(σ:St)(H:Hp)(D:wo),Inv X pins σ H s->t D σ H->TX (Tx X.prog X.w) X.A (exec st X.env) (SP X pins D) X.xe s
def dJ(X:Cx)(st:List Sj)(t:TS):Prop:=∀(pins:List (lv×Obj))(s:Sh)(σ:St)(H:Hp)(D:wo),Inv X pins σ H s->t D σ H->TX (Tx X.prog X.w) X.A (execs st X.env) (SP X pins D) X.xe s
theorem aH{α:Type}{t:Sem α}{Q b:α->Sh->Prop}{M:Ro}(h:TX M A t Q E s)(c:∀a s,Q a s->b a s):TX M A t b E s:=fq h c λ_ _ x=>x
section
def oV:Option (Option V)->(V->Prop)->Prop|some (some v),f=>f v|_,_=>False
theorem FQ{o:Option (Option V)}{f:V->Prop}(h:oV o f):∃v,o=some (some v)/\f v:=by match o,h with|some (some v),h=>exact⟨v,J,h⟩
def Yn(i:Nat)(B:St)(H:Hp)(Q:VK):Prop:=oV B[i]? λv=>Q v H
def tC(v:V):TE:=λ_ H Q=>Q v H
theorem GK(hN:X.N[i]?=some x)(n:tY X.env.scope x)(f:(x==("__debug__":Str))=false:=by decide)(g:(x==("__classdict__":Str))=false:=by decide):PE X (.Name x aE) (Yn i):=by
 intro d s k H Q I h;replace h:=FQ h;obtain⟨v,e,h⟩:=h;obtain⟨m,o,q⟩:=I.loc;obtain⟨u,r,l⟩:=q i x v hN e n;have b:EP X d k Q u s:=⟨v,H,I,r,h⟩
 rcases l with⟨hk,p⟩|⟨hk,c,j,a⟩;exact wpAny_Name (wpAny_loadName_local I.ok.kind hk o p b) f;rcases hk with hk|hk;exact wpAny_Name (wpAny_loadName_cell I.ok.kind hk j a b) f;exact wpAny_Name (wpAny_loadName_free I.ok.kind hk j a b g) f
theorem zf{i j a}:PE X (.Constant (.int i) j a) (tC (.int i)):=λ_ _ _ H _ I h=>wpAny_Constant_int ⟨.int i,H,I.tok _,⟨_,J⟩,h⟩
theorem q9{b j a}:PE X (.Constant (.bool b) j a) (tC (.bl b)):=λ_ _ _ H _ I h=>Constant_bool ⟨.bl b,H,I,J,h⟩
theorem Qk{j a}:PE X (.Constant .none j a) (tC .non):=λ_ _ _ H _ I h=>ON ⟨.non,H,I,J,h⟩
theorem zr{x j a}:PE X (.Constant (.str x) j a) (tC (.str x)):=λ_ _ _ H _ I h=>Calls.Constant_str ⟨.str x,H,I.tok _,⟨_,J⟩,h⟩
def Gl(X:Cx)(x:Str):Prop:=X.env.kindOf x=some .globalImplicit
theorem wD(I:Inv X pins σ H s)(b:Gl X x)(a:X.mg x=some u)(h:Q u s)(c:(x==("__debug__":Str))=false:=by decide):TX (Tx X.prog X.w) X.A (Tj (.Name x aE) X.env) Q E s:=
 CS I.ok.kind b (Calls.loadGlobal_global (I.ok.glob▸I.mod.glob.keeps I.bk) a h) c
theorem Zs(I:Inv X pins σ H s)(d:Gl X x)(c:X.mg x=none)(a:S3 x=some u)(h:Q u s)(b:x≠"__name__":=by decide) (f:(x==("__debug__":Str))=false:=by decide):TX (Tx X.prog X.w) X.A (Tj (.Name x aE) X.env) Q E s:=by obtain⟨j,i,g⟩:=I.mod.blt;exact CS I.ok.kind d (Calls.loadGlobal_builtin (I.ok.glob▸I.mod.glob.keeps I.bk) c (I.ok.blt▸i.keeps I.bk) ((g x b).trans a) h) f
theorem By(b:Gl X x)(a:X.mg x=some u)(r:yf v u)(c:(x==("__debug__":Str))=false:=by decide):PE X (.Name x aE) (tC v):=λ_ _ _ H _ I h=>wD I b a ⟨v,H,I,r,h⟩ c
theorem IO(d:Gl X x)(c:X.mg x=none)(a:S3 x=some u)(r:yf v u)(b:x≠"__name__":=by decide)(f:(x==("__debug__":Str))=false:=by decide):PE X (.Name x aE) (tC v):=λ_ _ _ H _ I h=>Zs I d c a ⟨v,H,I,r,h⟩ b f
variable{a b:OP}{ta tb:TE}
def PC(X:Cx)(F:OM)(a b:OP)(t:TE):Prop:=
 ∀ (pins:List (lv×Obj)) (s:Sh) (σ:St) (H:Hp) (Q:VK),Inv X pins σ H s->t σ H Q->
   TX (Tx X.prog X.w) X.A (Tj a X.env) (λv B=>TX (Tx X.prog X.w) X.A (Tj b X.env) (λu s₂=>TX (Tx X.prog X.w) X.A (compareOp F v u) (EP X pins σ Q) X.xe s₂) X.xe B) X.xe s
theorem Ch(b:OP){a:OM}(h:a≠ .In)(f:a≠ .NotIn):behindInMarks a b=false:=by
 have d:(a==CmpOp.In)=false:=by simp_all
 have c:(a==CmpOp.NotIn)=false:=by simp_all
 cases b<;>simp[behindInMarks,d,c]
def zB(ta:TE):TE:=λσ H Q=>ta σ H λx H1=>Q (.bl (decide (x=.non))) H1
def Fb(ta:TE):TE:=λσ H Q=>ta σ H λx H1=>Q (.bl (!decide (x=.non))) H1
theorem yf.none_iff{x:V}{v:Sr}(r:yf x v):(v==Sv)=decide (x=.non):=by cases x with|non=>cases r;rfl|bl _=>cases r;rfl|int _=>obtain⟨t,rfl⟩:=r;rfl|str _=>obtain⟨t,rfl⟩:=r;rfl|byt _=>obtain⟨t,rfl⟩:=r;rfl|flt _=>obtain⟨t,rfl⟩:=r;rfl|ref _=>cases r;rfl|ty _=>cases r;rfl
theorem tu{j i}(g:PE X a ta):PC X .Is a (.Constant .none j i) (zB ta):=by intro b s c H Q I h;exact aH (g b s c H _ I h) λv m ⟨x,l,k,d,f⟩=>(ON (is_none_gen ⟨.bl _,l,k,by rw[d.none_iff];rfl,f⟩))
theorem Bu{j i}(g:PE X a ta):PC X .IsNot a (.Constant .none j i) (Fb ta):=by intro b s c H Q I h;exact aH (g b s c H _ I h) λv m ⟨x,l,k,d,f⟩=>(ON (isnot_none_gen ⟨.bl _,l,k,by rw[d.none_iff];rfl,f⟩))
inductive DB(Q:Bool->Hp->Prop)(x:V)(H1:Hp):Prop|mk:∀c,x=.bl c->Q c H1->DB Q x H1
def tB(t:TE):TT:=λσ H Q=>t σ H λx H1=>DB Q x H1
theorem tD{d:OM}{t:TE}(h:PC X d a b t)(i:behindInMarks d b=false:=by first|exact Ch _ (by decide) (by decide)|rfl):PE X (.Compare a [d] [b] aE) t:=λc s f H Q I g=>wpAny_Compare1 (h c s f H Q I g) i
theorem Km{g:OM}{t:TE}(h:PC X g a b t)(i:behindInMarks g b=false:=by first|exact Ch _ (by decide) (by decide)|rfl):PT X (.Compare a [g] [b] aE) (tB t):=by intro f s j H Q I m;refine Us (aH (h f s j H _ I m) λv y i=>aH i λu w n=>aH n λc r ⟨x,p,o,k,l⟩=>?_) i;obtain⟨d,rfl,q⟩:=l;cases k;exact UY ⟨p,o,q⟩
theorem wq{t:TE}(h:PE X e t)(he:∀a,isTrue e X.env a=(do let v<-a;standAt e.pos;holding [v] (truthy v)):=by intro _;rfl):PT X e (tB t):=by intro b s c H Q I i;refine isTrue_plain (aH (h b s c H _ I i) λv l ⟨x,k,j,f,g⟩=>?_) (he _);obtain⟨d,rfl,q⟩:=g;cases f;exact UY ⟨k,j,q⟩
variable{tA tF:TT}{Z1:List OP}
def Eg(t u:TT):TT:=λσ H Q=>t σ H λc H1=>if c=true then u σ H1 Q else Q false H1
def Oi(t u:TT):TT:=λσ H Q=>t σ H λc H1=>if c=true then Q true H1 else u σ H1 Q
def Eo(t:TT):TT:=λσ H Q=>t σ H λc H1=>Q (!c) H1
theorem BB(f:PT X a tA):PW X (.BoolOp .And [a] aE) tA:=by intro g b s d H Q I h;refine isTrue_and (aH (f b s d H Q I h) λc i e=>?_);cases c with|true=>exact isTrue_and_nil e|false=>exact e
theorem Wo(f:PT X a tA):PW X (.BoolOp .Or [a] aE) tA:=by intro g b s d H Q I h;refine isTrue_or (aH (f b s d H Q I h) λc i e=>?_);cases c with|false=>exact isTrue_or_nil e|true=>exact e
theorem AF(n:PT X a tA)(m:PW X (.BoolOp .And (b::Z1) aE) tF):PW X (.BoolOp .And (a::b::Z1) aE) (Eg tA tF):=by intro k d s f H Q I h;refine isTrue_and (aH (n d s f H _ I h) λc l ⟨j,i,g⟩=>?_);cases c with|true=>exact m k d l f j Q i g|false=>exact⟨j,i,g⟩
theorem Kj(n:PT X a tA)(m:PW X (.BoolOp .Or (b::Z1) aE) tF):PW X (.BoolOp .Or (a::b::Z1) aE) (Oi tA tF):=by intro k d s f H Q I h;refine isTrue_or (aH (n d s f H _ I h) λc l ⟨j,i,g⟩=>?_);cases c with|true=>exact⟨j,i,g⟩|false=>exact m k d l f j Q i g
theorem vz(f:PT X a tA):PT X (.UnaryOp .Not a aE) (Eo tA):=by intro b s d H Q I h;exact isTrue_not (aH (f b s d H (λc g=>Q (!c) g) I h) λ_ _ ⟨j,i,q⟩=>⟨j,i,q⟩)
inductive jK(tb:TE)(σ:St)(Q:VK)(x:V)(H1:Hp):Prop|mk:∀c,x=.bl c->(if c=true then tb σ H1 Q else Q (.bl false) H1)->jK tb σ Q x H1
def Ft(ta tb:TE):TE:=λσ H Q=>ta σ H λx H1=>jK tb σ Q x H1
inductive mI(tb:TE)(σ:St)(Q:VK)(x:V)(H1:Hp):Prop|mk:∀c,x=.bl c->(if c=true then Q (.bl true) H1 else tb σ H1 Q)->mI tb σ Q x H1
def Ep(ta tb:TE):TE:=λσ H Q=>ta σ H λx H1=>mI tb σ Q x H1
inductive jF(Q:VK)(x:V)(H1:Hp):Prop|mk:∀c,x=.bl c->Q (.bl (!c)) H1->jF Q x H1
def Fc(ta:TE):TE:=λσ H Q=>ta σ H λx H1=>jF Q x H1
theorem jl{d}{t:TE}(h:PE X a t):PE X (.BoolOp d [a] aE) t:=λb s c H Q I f=>BoolOp_one (h b s c H Q I f)
theorem jm(n:PE X a ta)(m:PE X (.BoolOp .And (b::Z1) aE) tb):PE X (.BoolOp .And (a::b::Z1) aE) (Ft ta tb):=by intro d s g H Q I h;refine BoolOp_and (aH (n d s g H _ I h) λv k ⟨x,j,i,l,f⟩=>?_);obtain⟨c,rfl,f⟩:=f;cases l;refine UY ?_;cases c with|true=>exact m d k g j Q i f|false=>exact⟨.bl false,j,i,J,f⟩
theorem zS(n:PE X a ta)(m:PE X (.BoolOp .Or (b::Z1) aE) tb):PE X (.BoolOp .Or (a::b::Z1) aE) (Ep ta tb):=by intro d s g H Q I h;refine BoolOp_or (aH (n d s g H _ I h) λv k ⟨x,j,i,l,f⟩=>?_);obtain⟨c,rfl,f⟩:=f;cases l;refine UY ?_;cases c with|false=>exact m d k g j Q i f|true=>exact⟨.bl true,j,i,J,f⟩
theorem AB(i:PE X a ta):PE X (.UnaryOp .Not a aE) (Fc ta):=by intro b s f H Q I h;refine UnaryOp_ (aH (i b s f H _ I h) λv l ⟨x,k,j,g,d⟩=>?_);obtain⟨c,rfl,d⟩:=d;cases g;exact not_of (UY ⟨.bl (!c),k,j,J,d⟩)
def Oj(t:TT)(ta tb:TE):TE:=λσ H Q=>t σ H λc H1=>if c=true then ta σ H1 Q else tb σ H1 Q
theorem Vm(m:PT X c tA)(o:PE X a ta)(n:PE X b tb):PE X (.IfExp c a b aE) (Oj tA ta tb):=by intro f s g H Q I h;refine wpAny_IfExp (aH (m f s g H _ I h) λd i ⟨l,k,j⟩=>?_);cases d with|true=>exact o f i g l Q k j|false=>exact n f i g l Q k j
end
def aK(K:O4)(H:Hp)(a:lv)(xs:List V):Prop:=
 Rd H a (.lst xs)\/
  ∃(o:Obj)(its:Array Sr)(n:Nat),K.lookup a=some o/\o.cls=.type "list"/\o.dict=none/\o.data=.seq its n/\its.size<=TL/\yi xs its.toList
def aG(K:O4)(H:Hp)(a:lv)(xs:List V):Prop:=
 Rd H a (.tup xs)\/
  ∃(o:Obj)(its:Array Sr)(n:Nat),K.lookup a=some o/\o.cls=.type "tuple"/\o.data=.seq its n/\its.size<=TL/\yi xs its.toList
noncomputable def Ey:Sr->Option V|.none=>some .non|.bool b=>some (.bl b)|.int i _=>some (.int i)|.str x _=>some (.str x)|.bytes b _=>some (.byt b)|.float b _=>some (.flt b)|.ref a=>some (.ref a)|.type n=>some (.ty n)|_=>none
theorem yf.abs{x:V}(r:yf x u):Ey u=some x:=by cases x with|non=>cases r;rfl|bl _=>cases r;rfl|int _=>obtain⟨t,rfl⟩:=r;rfl|str _=>obtain⟨t,rfl⟩:=r;rfl|byt _=>obtain⟨t,rfl⟩:=r;rfl|flt _=>obtain⟨t,rfl⟩:=r;rfl|ref _=>cases r;rfl|ty _=>cases r;rfl
theorem yf.inj{x y:V}{u:I}(r:yf x u)(q:yf y u):x=y:=RV (r.abs.symm.trans q.abs)
theorem yi.inj:∀{xs a:List V}{b:List Sr},yi xs b->yi a b->xs=a|_,_,_,.nil,.nil=>rfl|_,_,_,.cons r t,.cons d c=>by rw[r.inj d,yi.inj t c]
section
variable{xs ys:List V}
theorem aK.of{K:O4}(h:H a=some (.lst xs)):aK K H a xs:=.inl (.inl h)
theorem aG.of{K:O4}(h:H a=some (.tup xs)):aG K H a xs:=.inl (.inl h)
theorem Inv.list(I:Inv X pins σ H s)(h:aK X.K H a xs):∃its:O Sr,yi xs its/\PlainL s.heap a its.toArray/\xs.length<=TL:=by
 rcases h with h|⟨o,its,n,hk,c,b,f,d,r⟩;obtain⟨z,its,n,r,e⟩:=h.ok I.hok;exact⟨its,r,⟨_,n,e,J,J,J⟩,z⟩;refine⟨its.toList,r,⟨o,n,I.kIn a o hk,c,b,by omega⟩,?_⟩;have e:=r.length
 simp_all
theorem Inv.tuple(I:Inv X pins σ H s)(h:aG X.K H a xs):∃its:O Sr,yi xs its/\Px s.heap a its.toArray/\xs.length<=TL:=by rcases h with h|⟨o,its,n,hk,c,b,d,r⟩;obtain⟨z,its,r,p,_⟩:=h.ok I.hok;exact⟨its,r,p,z⟩;refine⟨its.toList,r,⟨o,I.kIn a o hk,c,n,by simpa using b⟩,?_⟩;have e:=r.length;simp only[nG]at e;omega
theorem Inv.list_inj(I:Inv X pins σ H s)(h:aK X.K H a xs)(h':aK X.K H a ys):xs=ys:=by
 obtain⟨c,r,⟨o,n,e,_,_,d⟩,_⟩:=I.list h;obtain⟨b,i,⟨j,k,f,_,_,g⟩,_⟩:=I.list h';rw[e]at f;cases f;rw[d]at g;injection g with l _;have:c=b:=by simp_all
 subst this;exact r.inj i
theorem Inv.tuple_inj(I:Inv X pins σ H s)(h:aG X.K H a xs)(h':aG X.K H a ys):xs=ys:=by
 obtain⟨c,r,⟨o,e,_,n,d⟩,_⟩:=I.tuple h;obtain⟨b,i,⟨j,f,_,k,g⟩,_⟩:=I.tuple h';rw[e]at f;cases f;rw[d]at g;injection g with l _;have:c=b:=by simp_all
 subst this;exact r.inj i
end
abbrev Cx.wish(X:Cx)(E:Sr->Sh->Prop):Cx:={X with xe:=E}
abbrev Cx.nox(X:Cx):Cx:=X.wish λ_ _=>False
theorem Cx.Ok.wish{X:Cx}(a:X.Ok)(E:I->Sh->Prop):(X.wish E).Ok:=⟨a.mod,a.kind,a.glob,a.blt,a.above,a.inj,a.has,a.cab,a.hd,a.frames,a.stk,a.exf,a.bs,a.bsz,a.noex,a.exfs,a.funs,a.frf⟩
theorem Cx.Ok.unwish(a:(X.wish E).Ok):X.Ok:=⟨a.mod,a.kind,a.glob,a.blt,a.above,a.inj,a.has,a.cab,a.hd,a.frames,a.stk,a.exf,a.bs,a.bsz,a.noex,a.exfs,a.funs,a.frf⟩
section
theorem Inv.wish(I:Inv X pins σ H s)(E:Sr->Sh->Prop):Inv (X.wish E) pins σ H s:=⟨I.ok.wish E,I.os,I.bare,I.base,I.loc,I.cell,I.free,I.freeC,I.pin,I.hok,I.len⟩
theorem Inv.unwish(I:Inv (X.wish E) pins σ H s):Inv X pins σ H s:=⟨I.ok.unwish,I.os,I.bare,I.base,I.loc,I.cell,I.free,I.freeC,I.pin,I.hok,I.len⟩
theorem SP.unwish{D:wo}{f:Flow}{c:Sh}(h:SP (X.wish E) pins D f c):SP X pins D f c:=by cases f with|next=>obtain⟨a,b,I,q⟩:=h;exact⟨a,b,I.unwish,q⟩|brk=>obtain⟨a,b,I,q⟩:=h;exact⟨a,b,I.unwish,q⟩|cont=>obtain⟨a,b,I,q⟩:=h;exact⟨a,b,I.unwish,q⟩|ret u=>obtain⟨v,a,b,I,r,q⟩:=h;exact⟨v,a,b,I.unwish,r,q⟩
theorem dJ.nox{st:O Sj}{t:TS}(h:dJ X.nox st t):dJ X st t:=λa s b H D I c=>fq (h a s b H D (I.wish _) c) (λ_ _ q=>q.unwish) λ_ _ z=>O2 z
end
section
variable{st:Sj}{Z1:List Sj}{t u:TS}{te:TE}
def zN:TS:=λD σ H=>D.nx σ H
def uD(t u:TS):TS:=λD σ H=>t (D.sq u) σ H
theorem zu:dJ X [] zN:=λ_ _ a H _ I h=>Uh ⟨a,H,I,h⟩
theorem zc(i:PS X st t)(g:dJ X Z1 u):dJ X (st::Z1) (uD t u):=by intro a s c H D I h;refine wpAny_execs_cons (aH (i a s c H (D.sq u) I h) λf d q=>?_);cases f with| next=>obtain⟨b,k,j,q⟩:=q;exact g a d b k D j q|ret v=>exact q|brk=>exact q|cont=>exact q
theorem zg(c:PS X st t):dJ X [st] t:=by intro a s b H D I h;refine wpAny_execs_cons (aH (c a s b H D I h) λf d q=>?_);cases f with|next=>exact Uh q|ret v=>exact q|brk=>exact q|cont=>exact q
theorem Inv.quiet(I:Inv X pins σ H s):interactive X.env=false:=by simp[interactive,I.ok.kind]
def zI(te:TE):TS:=λD σ H=>te σ H λ_ H1=>D.nx σ H1
theorem y0(he:PE X e te)(d:swapsWith e none aE.line X.env=pure false:=by rfl):PS X (.Expr e aE) (zI te):=by intro a s b H D I h;exact wpAny_Expr_any (aH (he a s b H _ I h) λv i ⟨x,g,f,j,c⟩=>⟨b,g,f,c⟩) I.quiet d
def yZ(te:TE):TS:=λD σ H=>te σ H D.rt
theorem zm(he:PE X e te):PS X (.Return (some e) aE) (yZ te):=by intro a s b H D I h;exact wpAny_Return_some (aH (he a s b H _ I h) λv i ⟨x,g,f,c,d⟩=>⟨x,b,g,f,c,d⟩)
def zA(c:TT)(t u:TS):TS:=λD σ H=>c σ H λb H1=>if b=true then t D σ H1 else u D σ H1
theorem yt{a b:List Sj}{i:TT}(n:PT X c i)(p:dJ X a t)(o:dJ X b u):PS X (.If c a b aE) (zA i t u):=by intro f s g H D I h;refine wpAny_If (aH (n f s g H _ I h) λd j ⟨m,l,k⟩=>?_);cases d with|true=>exact p f j g m D l k|false=>exact o f j g m D l k
def AL:TS:=λ_ _ _=>False
theorem Vk:PS X st AL:=λ_ _ _ _ _ _ h=>h.elim
theorem qo:dJ X Ol AL:=λ_ _ _ _ _ _ h=>h.elim
end
abbrev TG:=V->St->Hp->(St->Hp->Prop)->Prop
variable{es:List OP}{fK:List Sj}{te:TE}
abbrev qF:=List V->St->Hp->(St->Hp->Prop)->Prop
def PG(X:Cx)(B:OP)(t:TG):Prop:=
 ∀ (pins:List (lv×Obj)) (s:Sh) (σ:St) (H:Hp) (v:V) (u:Sr) (Q:St->Hp->Prop),Inv X pins σ H s->yf v u->t v σ H Q->
   TX (Tx X.prog X.w) X.A (assign B X.env u) (λ_ s'=>∃σ' H',Inv X pins σ' H' s'/\Q σ' H') X.xe s
def uc(X:Cx)(ts:List OP)(t:qF):Prop:=
 ∀ (pins:List (lv×Obj)) (s:Sh) (σ:St) (H:Hp) (vs:List V) (us:List Sr) (Q:St->Hp->Prop),Inv X pins σ H s->yi vs us->t vs σ H Q->
   TX (Tx X.prog X.w) X.A (assignInOrder ((assignEach ts X.env).map (·.2)) us) (λ_ s'=>∃σ' H',Inv X pins σ' H' s'/\Q σ' H') X.xe s
abbrev qP:=V->V->V->Hp->(Hp->Prop)->Prop
def uu(X:Cx)(t:qP):Prop:=
 ∀ (pins:List (lv×Obj)) (s:Sh) (σ:St) (H:Hp) (o i v:V) (ov B u:Sr) (Q:Hp->Prop),Inv X pins σ H s->yf o ov->yf i B->yf v u->t o i v H Q->
   TX (Tx X.prog X.w) X.A (setItem ov B u) (λ_ s'=>∃H',Inv X pins σ H' s'/\Q H') X.xe s
abbrev yC:=V->V->Hp->VK->Prop
def D5(X:Cx)(B:RP)(t:yC):Prop:=
 ∀ (pins:List (lv×Obj)) (s:Sh) (σ:St) (H:Hp) (x y:V) (v u:Sr) (Q:VK),Inv X pins σ H s->yf x v->yf y u->t x y H Q->
   TX (Tx X.prog X.w) X.A (inplaceOp B v u) (EP X pins σ Q) X.xe s
section
def Zx(i:Nat):TG:=λv σ H Q=>Q (σ.set i (some v)) H
theorem zp(hN:X.N.Nodup)(c:X.N[i]?=some x:=by rfl)(b:Loc X.env.scope x:=by first|exact RW J|exact RX J|assumption)(d:X.fn x=true\/X.env.scope.names.lookup x=some .local:=by first|exact .inl J|exact .inr J|assumption):PG X (.Name x aE) (Zx i):=by intro a s g H v u Q I r h;exact wpAny_assign_Name (CC I hN c b r (λj f=>⟨_,H,f,h⟩) d)
def qM:qF:=λvs σ H Q=>vs=[]/\Q σ H
inductive cJ(t:TG)(u:qF)(vs:List V)(σ:St)(H:Hp)(Q:St->Hp->Prop):Prop|mk:∀v r,vs=v::r->(t v σ H λσ' H'=>u r σ' H' Q)->cJ t u vs σ H Q
theorem qx:uc X [] qM:=by intro a s b H c d Q I r h;obtain⟨e,h⟩:=h;subst e;cases r;exact assignInOrder_nil ⟨b,H,I,h⟩
theorem yu{t:TG}{u:qF}(k:PG X e t)(j:uc X es u)(i:(assignEach (e::es) X.env).map (·.2)=assign e X.env::(assignEach es X.env).map (·.2):=by rfl):uc X (e::es) (cJ t u):=by intro a s c H o q Q I r h;obtain⟨v,p,l,h⟩:=h;subst l;cases r with| cons r f=>rw[i];exact assignInOrder_cons (aH (k a s c H _ _ _ I r h) λ_ d ⟨b,n,m,g⟩=>(j a d b n _ _ Q m f g))
inductive iG(K:O4)(n:Nat)(t:qF)(v:V)(σ:St)(H:Hp)(Q:St->Hp->Prop):Prop|mk:∀a xs,v=.ref a->aG K H a xs->xs.length=n->t xs σ H Q->iG K n t v σ H Q
theorem ky{k:Nat}{t:qF}{n:Nat}(y:X.calm=true)(h:uc X es t)(w:(assignEach es X.env).length=n:=by rfl) (f:(assignEach es X.env).findIdx? (·.1)=none:=by rfl):PG X (.Tuple es k aE) (iG X.K n t):=by intro c s g H v u Q I r d;obtain⟨a,i,z,q,x,d⟩:=d;subst z;cases r;obtain⟨l,j,p,A⟩:=I.tuple q;exact assign_Tuple_tuple (I.ok.hd y) p (by simp[w,<-x,j.length]) f λB m=>(h c _ g H i _ Q (I.kept (t':=s.toks) λb o e=>m b o (br (bf e)) e) (by omega) d)
def yY(to B:TE)(t:qP):TG:=λv σ H Q=>to σ H λo H1=>B σ H1 λi H2=>t o i v H2 λF=>Q σ F
theorem AC{o i:OP}{to d:TE}{t:qP}(q:PE X o to)(w:PE X i d)(p:uu X t)(z:∀v,assign (.Subscript o i aE) X.env v=(do
   let ov<-holding [v] (Tj o X.env);let b<-holding [v,ov] (Tj i X.env)
   standAt aE
   holding [v,ov,b] (setItem ov b v)
   release [v,ov,b] []):=by intro _;rfl):PG X (.Subscript o i aE) (yY to d t):=by intro a s c H v u Q I r h;rw[z];exact a9 (Uo (aH (q a s c H _ I h) λov g ⟨x,F,C,k,n⟩=>(a9 (Uo (aH (w a g c F _ C n) λb f ⟨y,E,B,j,m⟩=>(a9 (UW (a9 (Uo (aH (p a f c E x y v ov b u _ B k j r m) λ_ G ⟨D,A,l⟩=>(wpAny_release ⟨c,D,A,l⟩)))))))))))
def sr(te:TE)(g:TG):TS:=λD σ H=>te σ H λx H1=>g x σ H1 D.nx
theorem uZ{b:OP}{g:TG}(he:PE X e te)(l:PG X b g)(k:swapsWithSole [b] e aE.line X.env=pure false:=by rfl)(j:swappedStores [b] e X.env=pure none:=by rfl)
  (m:(assignEach [b] X.env).map (·.2)=[assign b X.env]:=by rfl):PS X (.Assign [b] e aE) (sr te g):=by intro a s c H D I h;refine wpAny_Assign_stores (aH (he a s c H _ I h) λv d ⟨x,o,n,f,i⟩=>?_) k j;rw[m];exact aH (l a d c o x v _ n f i) λ_ p q=>q
theorem zn{b:Pos}(hN:X.N.Nodup)(he:PE X e te)(k:X.N[i]?=some x:=by rfl)(g:Loc X.env.scope x:=by first|exact RW J|exact RX J|assumption)(j:swapsWith e (some (.Name x b)) aE.line X.env=pure false:=by rfl)(l:X.fn x=true\/X.env.scope.names.lookup x=some .local:=by first|exact .inl J|exact .inr J|assumption):PS X (.Assign [.Name x b] e aE) (sr te (Zx i)):=by intro a s c H D I h;exact wpAny_Assign_Name (aH (he a s c H _ I h) λv q ⟨y,o,n,d,f⟩=>(CC n hN k g d (λp m=>⟨_,o,m,f⟩) l)) j
def Fu(to Z te:TE)(F:V->V->Hp->VK->Prop)(U:yC)(B:qP):TS:=λD σ H=>to σ H λo H1=>Z σ H1 λi H2=>F o i H2 λx H3=>te σ H3 λy H4=>U x y H4 λz H5=>B o i z H5 λH6=>D.nx σ H6
def yN(X:Cx)(t:V->V->Hp->VK->Prop):Prop:=
 ∀ (pins:List (lv×Obj)) (s:Sh) (σ:St) (H:Hp) (o i:V) (ov B:Sr) (Q:VK),Inv X pins σ H s->yf o ov->yf i B->t o i H Q->
   TX (Tx X.prog X.w) X.A (getItem ov B) (EP X pins σ Q) X.xe s
theorem Io{o i:OP}{to m:TE}{d:V->V->Hp->VK->Prop}{j:yC}{c:qP}{q:RP}{cM:Pos}(S:PE X o to)(U:PE X i m)(W:yN X d)(he:PE X e te)(R:D5 X q j)(Q:uu X c)(Z:∀ov g b,augStore i ov g b=(do holding [b,ov,g] (setItem ov g b);release [b,ov,g] [];pure .next):=by intros;rfl):PS X (.AugAssign (.Subscript o i cM) q e aE) (Fu to m te d j c):=by intro a s f H D I h;exact TZ (aH (S a s f H _ I h) λov A ⟨l,H1,I1,p,P⟩=>(aH (U a A f H1 _ I1 P) λg z ⟨k,H2,I2,n,N⟩=>(aH (W a z f H2 l k ov g _ I2 p n N) λbU y ⟨u,H3,I3,E,M⟩=>(aH (he a y f H3 _ I3 M) λv x ⟨t,H4,I4,C,L⟩=>(aH (R a x f H4 u t bU v _ I4 E C L) λb w ⟨r,H5,I5,B,G⟩=>(aH (Q a w f H5 l k r ov g b _ I5 p n B G) λ_ s6 ⟨H6,I6,F⟩=>⟨f,H6,I6,F⟩)))))) Z
inductive DM(f:Int->Int->Int)(x y:V)(H:Hp)(Q:VK):Prop|mk:∀i j,x=.int i->y=.int j->Q (.int (f i j)) H->DM f x y H Q
theorem FC:D5 X .Add (DM λi j=>i+j):=by intro a s g H x y v u Q I c b h;obtain⟨i,j,f,d,q⟩:=h;subst f;subst d;obtain⟨t,rfl⟩:=c;obtain⟨k,rfl⟩:=b;exact iadd_int ⟨.int _,H,I.tok _,⟨_,J⟩,q⟩
end
section
inductive jB(c:TT)(tb:TS)(D:wo)(σ:St)(H:Hp):Prop|mk:∀W:Nat->St->Hp->Prop,(∃m,W m σ H)->(∀m σ H,W m σ H-> c σ H λb H1=>if b=true then∃N:St->Hp->Prop,(∀σ' H',N σ' H'->∃m',m'<m/\W m' σ' H')/\tb (D.lp N) σ H1 else D.nx σ H1)->jB c tb D σ H
theorem Vj{u:TT}{tb:TS}(w:PassesOwn (Tx X.prog X.w) X.A X.env X.xe)(P:PT X c u)(Q:dJ X fK tb):PS X (.While c fK [] aE) (jB u tb):=by
 intro d s B H D I h;obtain⟨W,⟨M,E⟩,j⟩:=h;refine wpAny_While (codeAny_whileLoop (λn L=>∃i A,Inv X d i A L/\W n i A) ?_ M ⟨B,H,I,E⟩);rintro n G ⟨g,z,R,C⟩;refine UF w (aH (P d G g z _ R (j n g z C)) λb F ⟨y,x,m⟩=>?_);cases b with
 | true=>
   obtain⟨N,hN,m⟩:=m;rw[kP J];refine UF w (aH (Q d F g y _ x m) λf S l=>?_);cases f with
   | next=>obtain⟨a,k,t,p⟩:=l;obtain⟨q,r,o⟩:=hN a k p;exact⟨q,r,a,k,t,o⟩
   | cont=>obtain⟨a,k,t,p⟩:=l;obtain⟨q,r,o⟩:=hN a k p;exact⟨q,r,a,k,t,o⟩
   |brk=>exact l
   |ret v=>exact l
 | false=>rw[kr cy];exact Uh ⟨g,y,x,m⟩
end
structure It where
 go:Nat->Hp->Prop
 yld:Nat->Hp->V->Hp->Prop
 stop:Nat->Hp->Prop
def Jf(X:Cx)(B:List (lv×Obj))(H:Hp)(b:lv):Prop:=H b=none/\b≠X.env.locals/\b ∉ X.fs/\(b∈X.ex\/X.s₀.heap.objs.size<=b)/\(∀x c,X.env.cells.lookup x=some c->c≠b)/\∀p∈X.pn++B,p.1≠b
theorem Inv.fpOk{d:Hp}(I:Inv X pins σ H s)(a:s.heap.objs.size<=b)(g:d b=none):Jf X pins d b:=by refine⟨g,fc (dc I.lt a),I.nofs a,.inr (dq I.sz a),λx c e z=>?_,λp f z=>?_⟩;obtain⟨v,q⟩:=I.cell x c e;exact kS (dc q.lt (by simp_all)) (f9 _);exact kS (dc (bf (I.pin p f).1) (by simp_all)) (f9 _)
structure cY(P:R0)(w:SX)(K:O4)(tg:OP)(J:It)(fp:List lv)(it:lv)(tn:Nat->O7->Prop):Prop where
 mem:it∈fp
 obj:∀i h,tn i h->∀b∈fp,∃o,h.get? b=some o/\∀v,o.data≠ .cell v
 keep:∀i h h',tn i h->(∀b∈fp,∀o,h.get? b=some o->h'.get? b=some o)->tn i h'
 item:∀(X:Cx),X.prog=P->X.w=w->X.K=K->X.calm=true->∀(i:Nat)(pins:List (lv×Obj))(s:Sh)(σ:St)(H:Hp)(E:Sr->Sh->Prop),Inv X pins σ H s->(∀b∈fp,Jf X pins H b)->tn i s.heap->J.go i H->
  TX (Tx P w) X.A (TD (.ref it)) (λr s1=>∃u,r=some u/\ TX (Tx P w) X.A (letOwnedTupleGo tg (.ref it) u) (λ_ s2=>∃x H',Inv X pins σ H' s2/\yf x u/\J.yld i H x H'/\tn (i+1) s2.heap/\∀b∈fp,H' b=none) E s1) E s
 done:∀(X:Cx),X.prog=P->X.w=w->X.K=K->X.calm=true->∀(i:Nat)(pins:List (lv×Obj))(s:Sh)(σ:St)(H:Hp)(E:Sr->Sh->Prop),Inv X pins σ H s->(∀b∈fp,Jf X pins H b)->tn i s.heap->J.stop i H->
  TX (Tx P w) X.A (TD (.ref it)) (λr s1=>r=none/\Inv X pins σ H s1) E s
 self:∀(A:mf)(i:Nat)(s:Sh)(Q:Sr->Sh->Prop)(E:Sr->Sh->Prop),tn i s.heap->Q (.ref it) s->TX (Tx P w) A (pyIter (.ref it)) Q E s
abbrev TI:=St->Hp->(It->Hp->Prop)->Prop
inductive t9(X:Cx)(pins:List (lv×Obj))(σ:St)(tg:OP)(R:It->Hp->Prop)(itv:Sr)(s2:Sh):Prop|mk:∀(it:lv)(fp:List lv)(tn:Nat->O7->Prop)(J:It)(H':Hp),itv=.ref it->Inv X pins σ H' s2->cY X.prog X.w X.K tg J fp it tn->tn 0 s2.heap->(∀b∈fp,Jf X pins H' b)->R J H'->t9 X pins σ tg R itv s2
variable{C dx:lv}{osl:Array (Option Sr)}{D:wo}{env:Env}{l tg aU:OP}{fd:O5}{base:O7}{H':Hp}{lo:Int}{pl:List (lv×Obj)}{kvs:List (aJ×V)}{fp:List lv}{outer:List Env}{ks:List aJ}{ns ps:List Str}{vs xs:List V}{ds its us:List Sr}{o:Option Sr}{apos p:Pos}{prog:R0}{R:Sb->Sh->Prop}{sc scope:Sc}{f m name qual:Str}{mA mg:Str->Option Sr}{id:String}{ta tl tv:TE}{g:TG}{tb:TS}{y:V}{r:Sr}
def PI(X:Cx)(F Z:OP)(B:TI):Prop:=
 ∀ (pins:List (lv×Obj)) (s:Sh) (σ:St) (H:Hp) (R:It->Hp->Prop),Inv X pins σ H s->B σ H R->
   TX (Tx X.prog X.w) X.A (Tj Z X.env) (λv U=>TX (Tx X.prog X.w) X.A (pyIter v) (t9 X pins σ F R) X.xe U) X.xe s
theorem pU{M:Ro}{b:Y}{o:Obj}{n:String}{vs:Array I}{Q:Unit->Sh->Prop}(c:s.heap.get? b=some o)(g:o.cls=.type n)(f:o.data=.fields vs)
  (d:["enumerate","zip","dict_itemiterator","dict_reverseitemiterator","odict_iterator","itertools.zip_longest","itertools.pairwise"].contains n=false) (a:Q () s):TX M A (letOwnedTupleGo tg (.ref b) u) Q E s:=by
 cases tg<;>first
  |exact aa a
  |(cases u<;>first
   |exact aa a
   | (refine a9 (Uw c ?_)
      rw[g,f];show TX M A (if(["enumerate","zip","dict_itemiterator","dict_reverseitemiterator","odict_iterator","itertools.zip_longest","itertools.pairwise"].contains n && vs[0]?==some (TF _))=true then _ else _) Q E s;rw[kr (by intro h;rw[d,Bool.false_and]at h;cases h)];exact aa a))
noncomputable def qJ(K:O4)(a:lv):It:=⟨λi H=>∃xs x,aK K H a xs/\xs[i]?=some x,λi H x H'=>H'=H/\∀xs,aK K H a xs->xs[i]?=some x,λi H=>∃xs,aK K H a xs/\xs.length<=i⟩
noncomputable def qH(K:O4)(a:lv):It:=⟨λi H=>∃xs x,aG K H a xs/\xs[i]?=some x,λi H x H'=>H'=H/\∀xs,aG K H a xs->xs[i]?=some x,λi H=>∃xs,aG K H a xs/\xs.length<=i⟩
noncomputable def qI(lo:Int)(n:Nat):It:=⟨λi _=>i<n,λi H x H'=>H'=H/\x=.int (lo+i),λi _=>n<=i⟩
theorem Ma{K:O4}(a f:Y):cY P w K tg (qJ K a) [f] f (λi h=>h.IsListIter f a i) where
 mem:=by simp
 obj:=λi h st b g=>by
  have e:b=f:=by simp_all
  subst e;obtain⟨o,e,c,d⟩:=st
  simp_all
 keep:=λi h G st k=>st.at λo e=>k f (by simp) o e
 item:=by intro X hP r v F i l s L H E I hf st t;subst hP r v;obtain⟨M,x,m,D⟩:=t;obtain⟨q,n,p,R⟩:=I.list m;obtain⟨u,U,Q⟩:=n.get D;obtain⟨C,B,Z,A,z,y⟩:=hf f (by simp);refine UM st p.isList (by simpa using U) λG j N=>?_;obtain⟨o,e,c,d⟩:=id j;exact⟨u,J,pU e c d (by rfl) ⟨x,H,(I.turned (λb o g e=>(N.2 b g).trans e) C B A z y),Q,⟨J,λys S=>by rw[I.list_inj S m];omega⟩,j,λb g=>(hf b g).1⟩⟩
 done:=by intro X hP r v F i l s L H E I hf st t;subst hP r v;obtain⟨M,m,D⟩:=t;obtain⟨q,n,p,R⟩:=I.list m;obtain⟨C,B,Z,A,z,y⟩:=hf f (by simp);have hl:=n.length;exact UL (I.ok.hd F) st p.isList (by simp_all) λG eb=>⟨J,I.turned (λb o g e=>eb b o g e) C B A z y⟩
 self:=λ_ _ _ _ _ st h=>wpAny_pyIter_listiter st h
theorem Nk{K:O4}(a f:Y):cY P w K tg (qH K a) [f] f (λi h=>h.IsTupleIter f a i) where
 mem:=by simp
 obj:=λi h st b g=>by
  have e:b=f:=by simp_all
  subst e;obtain⟨o,e,c,d⟩:=st
  simp_all
 keep:=λi h G st k=>st.at λo e=>k f (by simp) o e
 item:=by intro X hP r v F i l s L H E I hf st t;subst hP r v;obtain⟨M,x,m,D⟩:=t;obtain⟨q,n,p,R⟩:=I.tuple m;obtain⟨u,U,Q⟩:=n.get D;obtain⟨C,B,Z,A,z,y⟩:=hf f (by simp);refine UP st (p) (by simpa using U) λG j N=>?_;obtain⟨o,e,c,d⟩:=id j;exact⟨u,J,pU e c d (by rfl) ⟨x,H,(I.turned (λb o g e=>(N.2 b g).trans e) C B A z y),Q,⟨J,λys S=>by rw[I.tuple_inj S m];omega⟩,j,λb g=>(hf b g).1⟩⟩
 done:=by intro X hP r v F i l s L H E I hf st t;subst hP r v;obtain⟨M,m,D⟩:=t;obtain⟨q,n,p,R⟩:=I.tuple m;obtain⟨C,B,Z,A,z,y⟩:=hf f (by simp);have hl:=n.length;exact UO (I.ok.hd F) st (p) (by simp_all) λG eb=>⟨J,I.turned (λb o g e=>eb b o g e) C B A z y⟩
 self:=λ_ _ _ _ _ st h=>wpAny_pyIter_tupleiter st h
theorem Nj{K:O4}(a:Y)(lo:Int)(n:Nat):cY P w K tg (qI lo n) [a] a (λi h=>IsRangeIter h a (lo+(i:Nat)*1) ((n:Int)-(i:Nat)) 1) where
 mem:=by simp
 obj:=λi h st b f=>by simp_all
 keep:=λi h y st k=>k a (by simp) _ st
 item:=by intro X hP g m l i d s z H E I hf st j;subst hP g m;obtain⟨x,u,C,r,q,p⟩:=hf a (by simp);refine(Walks.range (prog:=X.prog) (I.ok.hd l) a lo 1 n).item i s _ _ j st λv y F B c A=>?_;obtain⟨t,rfl⟩:=B;refine⟨_,J,pU c J J (by rfl) ⟨.int (lo+i),H,(I.turned (λb o f e=>A b o (by simp_all) e) x u r q p),⟨t,?_⟩,⟨J,J⟩,c,λb f=>(hf b f).1⟩⟩;rw[Int.mul_one]
 done:=by intro X hP g m l i d s z H E I hf st j;subst hP g m;obtain⟨x,u,C,r,q,p⟩:=hf a (by simp);exact UN (I.ok.hd l) st (by have:n<=i:=j;omega) λy D=>⟨J,I.turned (λb o f e=>D b o f e) x u r q p⟩
 self:=λ_ _ _ _ _ st h=>UI st h
section
inductive kK(K:O4)(R:It->Hp->Prop)(x:V)(H1:Hp):Prop|mk:∀a,x=.ref a->(∃xs,aK K H1 a xs)->R (qJ K a) H1->kK K R x H1
def EH(K:O4)(B:TE):TI:=λσ H R=>B σ H λx H1=>kK K R x H1
inductive mZ(K:O4)(R:It->Hp->Prop)(x:V)(H1:Hp):Prop|mk:∀a,x=.ref a->(∃xs,aG K H1 a xs)->R (qH K a) H1->mZ K R x H1
def ED(K:O4)(B:TE):TI:=λσ H R=>B σ H λx H1=>mZ K R x H1
theorem jg(hl:PE X l tl):PI X tg l (EH X.K tl):=by
 intro c s g H R I h;refine aH (hl c s g H _ I h) λv f ⟨x,n,d,i,j⟩=>?_;obtain⟨a,e,⟨r,m⟩,q⟩:=j;subst e;cases i;obtain⟨k,t,p,u⟩:=d.list m;refine UH p.isList ⟨f.heap.objs.size,[f.heap.objs.size],_,_,n,J,d.kept λb o e=>be _ e,Ma a _,⟨_,cb _ J,J,J⟩,λb w=>?_,q⟩;have e:b=f.heap.objs.size:=by simp_all
 subst e;exact d.fpOk (au _) (d.hok.fresh (au _))
theorem Zq(hl:PE X l tl):PI X tg l (ED X.K tl):=by
 intro c s g H R I h;refine aH (hl c s g H _ I h) λv f ⟨x,n,d,i,j⟩=>?_;obtain⟨a,e,⟨r,m⟩,q⟩:=j;subst e;cases i;obtain⟨k,t,p,u⟩:=d.tuple m;refine UK (p) ⟨f.heap.objs.size,[f.heap.objs.size],_,_,n,J,d.kept λb o e=>be _ e,Nk a _,⟨_,cb _ J,J,J⟩,λb w=>?_,q⟩;have e:b=f.heap.objs.size:=by simp_all
 subst e;exact d.fpOk (au _) (d.hok.fresh (au _))
theorem Cs{R:It->Hp->Prop}{a:Int}{t u v:Tok}{c:Nat}(I:Inv X pins σ H s)(k: -(2^62)<=lo)(j:lo<2^62)(i: -(2^62)<=a)(g:a<2^62)(q:R (qI lo (a-lo).toNat) H):TX (Tx X.prog X.w) X.A (pyIter (.ref s.heap.objs.size)) (t9 X pins σ tg R) E {s with heap:=s.heap.push {cls:=.type "range",data:=.fields #[.int lo t,.int a u,.int 1 v]},toks:=c}:=by
 refine wpAny_pyIter_range (IsRange.new ..) (small_one k j i g) ?_;have d:Inv X pins σ H {s with heap:=s.heap.push {cls:=.type "range",data:=.fields #[.int lo t,.int a u,.int 1 v]},toks:=c}:=I.kept λb o e=>be _ e;refine⟨(s.heap.push {cls:=.type "range",data:=.fields #[.int lo t,.int a u,.int 1 v]}).objs.size,[(s.heap.push {cls:=.type "range",data:=.fields #[.int lo t,.int a u,.int 1 v]}).objs.size],_,_,H,J,d.kept (t':=c) λb o e=>be _ e,Nj _ lo (a-lo).toNat,?_,λb f=>?_,q⟩
 have m:lo+((0:Nat):Int)*1=lo:=by simp
 have l:(((a-lo).toNat:Nat):Int)-((0:Nat):Int)=rs lo a 1:=by rw[rangeSize_one];split<;>omega
 show IsRangeIter _ _ (lo+((0:Nat):Int)*1) ((((a-lo).toNat:Nat):Int)-((0:Nat):Int)) 1;rw[m,l];exact cb _ J;have e:b=(s.heap.push {cls:=.type "range",data:=.fields #[.int lo t,.int a u,.int 1 v]}).objs.size:=by simpa using f
 subst e;exact d.fpOk (au _) (d.hok.fresh (au _))
inductive kJ(R:It->Hp->Prop)(vs:List V)(H1:Hp):Prop|mk:∀j:Int,vs=[.int j]-> -(2^62)<=j->j<2^62->R (qI 0 j.toNat) H1->kJ R vs H1
def EI(ta:TA):TI:=λσ H R=>ta σ H λvs H1=>kJ R vs H1
inductive kH(R:It->Hp->Prop)(vs:List V)(H1:Hp):Prop|mk:∀i j:Int,vs=[.int i,.int j]->(-(2^62)<=i/\i<2^62/\ -(2^62)<=j/\j<2^62)->R (qI i (j-i).toNat) H1->kH R vs H1
def EJ(ta:TA):TI:=λσ H R=>ta σ H λvs H1=>kH R vs H1
theorem wc{a:OP}{ta:TA}(m:Gl X "range")(l:X.mg "range"=none)(n:PA X [a] ta)(k:TQ [a] X.env=[(false,Tj a X.env)]:=by rfl):PI X tg (.Call (.Name "range" p) [a] [] aE) (EI ta):=by intro b s d H R I h;refine Call_ (Zs I m l boot_range (R7 (aH (n aE b s d H _ I h) λv w ⟨u,x,o,g,c⟩=>?_) k J));obtain⟨j,e,c,i,q⟩:=c;subst e;cases g with| cons r f=>cases f;obtain⟨t,rfl⟩:=r;exact call_range_1 (Cs o (by omega) (by omega) c i (by simp_all))
theorem LR{a b:OP}{ta:TA}(x:Gl X "range")(w:X.mg "range"=none)(y:PA X [a,b] ta)(v:TQ [a,b] X.env=[(false,Tj a X.env),(false,Tj b X.env)]:=by rfl)(d:TQ [b] X.env=[(false,Tj b X.env)]:=by rfl):PI X tg (.Call (.Name "range" p) [a,b] [] aE) (EJ ta):=by intro c s k H R I h;refine Call_ (Zs I x w boot_range (R7 (aH (y aE c s k H _ I h) λB D ⟨A,E,z,l,g⟩=>?_) (by rw[v,d]) (by rw[d];rfl)));obtain⟨i,j,e,⟨g,u,o,n⟩,q⟩:=g;subst e;cases l with| cons r f=>cases f with| cons m f=>cases f;obtain⟨t,rfl⟩:=r;obtain⟨C,rfl⟩:=m;exact call_range_2 (Cs z g u o n q)
inductive cB(g:TG)(tb:TS)(D:wo)(σ:St)(J:It)(H1:Hp):Prop|mk:∀W:Nat->Nat->St->Hp->Prop,(∃m,W 0 m σ H1)->(∀i m σ H,W i m σ H-> (J.stop i H/\D.nx σ H)\/(J.go i H/\∃N:St->Hp->Prop,(∀σ' H',N σ' H'->∃m',m'<m/\W (i+1) m' σ' H')/\∀x H',J.yld i H x H'->g x σ H' λσ2 H2=>tb (D.lp N) σ2 H2))->cB g tb D σ J H1
def Ek(B:TI)(g:TG)(tb:TS):TS:=λD σ H=>B σ H λJ H1=>cB g tb D σ J H1
noncomputable def Kq(B:List lv)(h:O7):List (lv×Obj):=B.filterMap λb=>(h.get? b).map λo=>(b,o)
theorem Y4{o:Obj}(a:b∈fp)(e:h.get? b=some o):(b,o)∈Kq fp h:=List.mem_filterMap.mpr ⟨b,a,by rw[e];rfl⟩
theorem LF{p:lv×Obj}(a:p∈Kq fp h):p.1∈fp/\h.get? p.1=some p.2:=by obtain⟨b,c,e⟩:=List.mem_filterMap.mp a;cases q:h.get? b with|none=>simp_all| some o=>grind
theorem Inv.pinned(I:Inv X pins σ H s)(i:∀b∈fp,Jf X pins H b)(g:∀b∈fp,∃o,s.heap.get? b=some o/\∀v,o.data≠ .cell v):Inv X (pins++Kq fp s.heap) σ H s:=I.pins_of λp f=>(cp.mp f).elim (λz=>I.pin p (di _ z)) λz=>by obtain⟨a,e⟩:=LF z;obtain⟨l,k,j,_⟩:=i p.1 a;obtain⟨o,c,d⟩:=g p.1 a;rw[e]at c;cases c;exact⟨e,l,k,j,d⟩
theorem Inv.unpinned(I:Inv X (pins++pl) σ H s):Inv X pins σ H s:=I.pins_of λp a=>I.pin p (di _ (ee _ a))
theorem xy{Z:OP}{wi:TI}(F:PassesOwn (Tx X.prog X.w) X.A X.env X.xe)(hc:X.calm=true)(hi:PI X tg Z wi)(hg:PG X tg g)(p:dJ X fK tb)(hs:∀x,foldedSetIterable Z X.env x=pure x:=by intro _;rfl):PS X (.For tg Z fK [] aE) (Ek wi g tb):=by
 intro c s σ H D I h;refine wpAny_For (aH (hi c s σ H _ I h) λv s1 h1=>aH h1 λah s2 h2=>?_) hs;obtain⟨it,L,tn,J,H2,e,I2,T,Q,f2,W,⟨m0,w0⟩,A⟩:=h2;subst e;have l:∀{w:Hp},(∀b∈L,w b=none)->∀b∈L,Jf X c w b:=λhn b p=>⟨hn b p,(f2 b p).2⟩
 refine codeAny_forLoop_any (λn s'=>∃i k w,Inv X c k w s'/\tn i s'.heap/\(∀b∈L,w b=none)/\W i n k w) ?_ m0 ⟨0,σ,H2,I2,Q,λb p=>(f2 b p).1,w0⟩;rintro n s3 ⟨i,j,M,I3,C,G,w3⟩;rcases A i n j M w3 with⟨B,qn⟩|⟨go,N,hN,step⟩;refine UF F (aH (T.done X rfl rfl rfl hc i c s3 j M X.xe I3 (l G) C B) λr s4 ⟨S,I4⟩=>?_);subst S;exact Uh ⟨j,M,I4,qn⟩
 . refine UF F (aH (T.item X rfl rfl rfl hc i c s3 j M X.xe I3 (l G) C go) λr s4 ⟨u,S,h4⟩=>?_);subst S;refine UF F (aH h4 λ_ s5 ⟨x,H5,I5,r5,y5,z,U⟩=>(UF F (aH (hg _ s5 j H5 x u _ (I5.pinned (l U) (T.obj _ _ z)) r5 (step x H5 y5)) λ_ s6 ⟨P,H6,I6,q6⟩=>(UF F (aH (p _ s6 P H6 _ I6 q6) λf R y=>?_)))));have again:∀{a:St} {t:Hp},Inv X (c++Kq L s5.heap) a t R->N a t->∃m,m<n/\∃i k w,Inv X c k w R/\tn i R.heap/\(∀b∈L,w b=none)/\W i m k w:=λ{a t} q E=>by obtain⟨m',hm,w7⟩:=hN a t E;refine⟨m',hm,i+1,a,t,q.unpinned,T.keep _ _ _ z λb p o e=>(q.pin (b,o) (di _ (di _ (Y4 p e)))).1,λb p=>?_,w7⟩;obtain⟨o,e,d⟩:=T.obj _ _ z b p;exact(q.pin (b,o) (di _ (di _ (Y4 p e)))).2.1
   cases f with|next=>obtain⟨a,t,q,E⟩:=y;exact again q E|cont=>obtain⟨a,t,q,E⟩:=y;exact again q E|brk=>obtain⟨a,t,q,y⟩:=y;exact⟨a,t,q.unpinned,y⟩|ret v=>obtain⟨x7,a,t,q,r7,y⟩:=y;exact⟨x7,a,t,q.unpinned,r7,y⟩
end
theorem Zm{K:O4}(Pv:Nat->St->Hp->Prop)(l:Pv 0 σ H)(hl:∀i σ H,i<=xs.length->Pv i σ H->aK K H a xs)(o:∀i x σ H,xs[i]?=some x->Pv i σ H->g x σ H λb H2=>tb (D.lp (Pv (i+1))) b H2) (k:∀σ H,Pv xs.length σ H->D.nx σ H):
  cB g tb D σ (qJ K a) H:=by
 refine⟨λi m σ H=>m=xs.length-i/\i<=xs.length/\Pv i σ H,⟨xs.length,by simp,c9 _,l⟩,?_⟩;rintro i m σ H ⟨rfl,j,p⟩;have q:=hl i σ H j p;by_cases c:i<xs.length;refine .inr ⟨⟨xs,xs[i],q,by simp⟩,Pv (i+1),λd n f=>⟨xs.length-(i+1),by omega,J,c,f⟩,λx n y=>?_⟩;obtain⟨e,y⟩:=y
 grind
 have e:i=xs.length:=by omega
 subst e;exact .inl ⟨⟨xs,q,au _⟩,k σ H p⟩
theorem Vs{K:O4}(Pv:Nat->St->Hp->Prop)(n:Pv 0 σ H)(hl:∀i σ H,i<=xs.length->Pv i σ H->aG K H a xs)(j:∀i x σ H,xs[i]?=some x->Pv i σ H->g x σ H λc H2=>tb (D.lp (Pv (i+1))) c H2) (l:∀σ H,Pv xs.length σ H->D.nx σ H):
  cB g tb D σ (qH K a) H:=by
 refine⟨λi m σ H=>m=xs.length-i/\i<=xs.length/\Pv i σ H,⟨xs.length,by simp,c9 _,n⟩,?_⟩;rintro i m σ H ⟨rfl,k,p⟩;have q:=hl i σ H k p;by_cases b:i<xs.length;refine .inr ⟨⟨xs,xs[i],q,by simp[b]⟩,Pv (i+1),λd o f=>⟨xs.length-(i+1),by omega,J,b,f⟩,λx o y=>?_⟩;obtain⟨e,y⟩:=y;subst e;exact j i x σ _ (y xs q) p;have e:i=xs.length:=by omega
 subst e;exact .inl ⟨⟨xs,q,au _⟩,l σ H p⟩
theorem js{n:Nat}(Pv:Nat->St->Hp->Prop)(j:Pv 0 σ H)(l:∀i σ H,i<n->Pv i σ H->g (.int (lo+i)) σ H λb H2=>tb (D.lp (Pv (i+1))) b H2) (f:∀σ H,Pv n σ H->D.nx σ H):
  cB g tb D σ (qI lo n) H:=by
 refine⟨λi m σ H=>m=n-i/\i<=n/\Pv i σ H,⟨n,by simp,c9 _,j⟩,?_⟩;rintro i m σ H ⟨rfl,o,p⟩;by_cases a:i<n;refine .inr ⟨a,Pv (i+1),λc k d=>⟨n-(i+1),by omega,J,a,d⟩,λx k y=>?_⟩;obtain⟨e,y⟩:=y
 simp_all
 have e:i=n:=by omega
 subst e;exact .inl ⟨au _,f σ H p⟩
abbrev R2:=V->V->Hp->VK->Prop
def cQ(X:Cx)(f:Sr->Sr->Sem Sr)(r:R2):Prop:=
 ∀ (pins:List (lv×Obj)) (s:Sh) (σ:St) (H:Hp) (x y:V) (v u:Sr) (Q:VK),Inv X pins σ H s->yf x v->yf y u->r x y H Q->
   TX (Tx X.prog X.w) X.A (f v u) (EP X pins σ Q) X.xe s
def yA(X:Cx)(f:Sr->Sem Sr)(r:V->Hp->VK->Prop):Prop:=
 ∀ (pins:List (lv×Obj)) (s:Sh) (σ:St) (H:Hp) (x:V) (v:Sr) (Q:VK),Inv X pins σ H s->yf x v->r x H Q->
   TX (Tx X.prog X.w) X.A (f v) (EP X pins σ Q) X.xe s
def j6(X:Cx)(f:Sr)(r:List V->Hp->VK->Prop):Prop:=
 ∀ (pins:List (lv×Obj)) (s:Sh) (σ:St) (H:Hp) (xs:List V) (us:List Sr) (Q:VK),Inv X pins σ H s->yi xs us->r xs H Q->
   TX (Tx X.prog X.w) X.A (call f us) (EP X pins σ Q) X.xe s
def Ew(X:Cx)(r:V->Hp->(Bool->Hp->Prop)->Prop):Prop:=
 ∀ (pins:List (lv×Obj)) (s:Sh) (σ:St) (H:Hp) (x:V) (v:Sr) (Q:Bool->Hp->Prop),Inv X pins σ H s->yf x v->r x H Q->
   TX (Tx X.prog X.w) X.A (truthy v) (TP X pins σ Q) X.xe s
def nQ(r:R2)(ta tb:TE):TE:=λσ H Q=>ta σ H λx H1=>tb σ H1 λy H2=>r x y H2 Q
def Og(r:V->Hp->VK->Prop)(ta:TE):TE:=λσ H Q=>ta σ H λx H1=>r x H1 Q
inductive rI(C:Int->Int->Prop)(g:Int->Int->V)(x y:V)(H:Hp)(Q:VK):Prop|mk:∀i j,x=.int i->y=.int j->C i j->Q (g i j) H->rI C g x y H Q
inductive my(g:Int->Int->V)(x y:V)(H:Hp)(Q:VK):Prop|mk:∀i j,x=.int i->y=.int j->Q (g i j) H->my g x y H Q
inductive rU(g:Int->V)(x:V)(H:Hp)(Q:VK):Prop|mk:∀i,x=.int i->Q (g i) H->rU g x H Q
section
variable{a b:OP}{tb tc:TE}
theorem uw(o:PE X a ta)(n:PE X b tb){R:V->V->Hp->Prop}(I:Inv X pins σ H s)(h:ta σ H λx H1=>tb σ H1 λy H2=>R x y H2) {f:Sr->Sr->Sem Sr}
  (m:∀v u d x y H2,Inv X pins σ H2 d->yf x v->yf y u->R x y H2->TX (Tx X.prog X.w) X.A (f v u) Q X.xe d):
  TX (Tx X.prog X.w) X.A (Tj a X.env) (λv c=>TX (Tx X.prog X.w) X.A (Tj b X.env) (λu s₂=>TX (Tx X.prog X.w) X.A (f v u) Q X.xe s₂) X.xe c) X.xe s:=by refine aH (o pins s σ H _ I h) λv g ⟨x,H1,q,j,l⟩=>?_;refine aH (n pins g σ H1 _ q l) λu d ⟨y,H2,p,i,k⟩=>?_;exact m v u d x y H2 p j i k
theorem yd{d:RP}{r:R2}(k:cQ X (S0 d) r)(m:PE X a ta)(l:PE X b tb):PE X (.BinOp a d b aE) (nQ r ta tb):=by intro c s f H Q I h;exact wpAny_BinOp (uw m l I h λv u g x y o n j i q=>k c g f o x y v u Q n j i q)
theorem uG{d:UnaryOp}{r:V->Hp->VK->Prop}(j:yA X (unaryOp d) r)(k:PE X a ta):PE X (.UnaryOp d a aE) (Og r ta):=by intro b s c H Q I h;exact UnaryOp_ (aH (k b s c H _ I h) λv f ⟨x,m,l,g,i⟩=>j b f c m x v Q l g i)
theorem xN{f:Sr->Sr->Sem Sr}{C:Int->Int->Prop}{g:Int->Int->Int}(rule:∀(i j:Int)(t u:Tok)(s:Sh)(Q:Sr->Sh->Prop)(E:Sr->Sh->Prop),C i j->Q (.int (g i j) s.toks) {s with toks:=s.toks+1}->TX (Tx X.prog X.w) X.A (f (.int i t) (.int j u)) Q E s):
  cQ X f (rI C λi j=>.int (g i j)):=by intro a s l H x y v u Q I d c h;obtain⟨i,j,rfl,rfl,k,q⟩:=h;obtain⟨t,rfl⟩:=d;obtain⟨b,rfl⟩:=c;exact rule i j t b s _ _ k ⟨.int (g i j),H,I.tok _,⟨_,J⟩,q⟩
theorem yW{f:Sr->Sr->Sem Sr}{g:Int->Int->Int}(rule:∀(i j:Int)(t u:Tok)(s:Sh)(Q:Sr->Sh->Prop)(E:Sr->Sh->Prop),Q (.int (g i j) s.toks) {s with toks:=s.toks+1}->TX (Tx X.prog X.w) X.A (f (.int i t) (.int j u)) Q E s):
  cQ X f (my λi j=>.int (g i j)):=by intro a s k H x y v u Q I d c h;obtain⟨i,j,rfl,rfl,q⟩:=h;obtain⟨t,rfl⟩:=d;obtain⟨b,rfl⟩:=c;exact rule i j t b s _ _ ⟨.int (g i j),H,I.tok _,⟨_,J⟩,q⟩
theorem si{f:Sr->Sr->Sem Sr}{g:Int->Int->Bool}(rule:∀(i j:Int)(t u:Tok)(s:Sh)(Q:Sr->Sh->Prop)(E:Sr->Sh->Prop),Q (.bool (g i j)) s->TX (Tx X.prog X.w) X.A (f (.int i t) (.int j u)) Q E s):
  cQ X f (my λi j=>.bl (g i j)):=by intro a s k H x y v u Q I d c h;obtain⟨i,j,rfl,rfl,q⟩:=h;obtain⟨t,rfl⟩:=d;obtain⟨b,rfl⟩:=c;exact rule i j t b s _ _ ⟨.bl (g i j),H,I,J,q⟩
def D9(i j:Int):Prop:=0<j/\j<1073741824
def qN(i j:Int):Prop:=(-(2^64)<i/\i<2^64)\/(-(2^64)<j/\j<2^64)
theorem qN.ok{i j:Int}(h:qN i j):IntMulOk i j:=by rcases h with⟨b,a⟩|⟨b,a⟩;exact .of_left (intBits_le_64 b a);exact .of_right (intBits_le_64 b a)
theorem xz:cQ X (S0 .Add) (my λi j=>.int (i+j)):=yW λ_ _ _ _ _ _ _ q=>add_int q
theorem Xk:cQ X (S0 .Sub) (my λi j=>.int (i-j)):=yW λ_ _ _ _ _ _ _ q=>sub_int q
theorem kz:cQ X (S0 .Mult) (rI qN λi j=>.int (i*j)):=xN λ_ _ _ _ _ _ _ a q=>mul_int q a.ok
theorem Bs:cQ X (S0 .FloorDiv) (rI D9 λi j=>.int (i/j)):=xN λi j _ _ _ _ _ a q=>by have c:(0:Int)<j:=a.1;have b:j<1073741824:=a.2;exact floordiv_int (by omega) (by rw[Int.fdiv_eq_ediv_of_nonneg i (by omega)];exact q) (.inl (PyProof.noPylong_small (by omega)))
theorem Wq:cQ X (S0 .Mod) (rI (λ_ j=>0<j) λi j=>.int (i%j)):=xN λi j _ _ _ _ _ a q=>by have b:(0:Int)<j:=a;exact mod_int' (by omega) (by rw[Int.fmod_eq_emod_of_nonneg i (by omega)];exact q)
theorem Oe{f:Sr->Sem Sr}{g:Int->Int}(rule:∀(i:Int)(t:Tok)(s:Sh)(Q:Sr->Sh->Prop)(E:Sr->Sh->Prop),Q (.int (g i) s.toks) {s with toks:=s.toks+1}->TX (Tx X.prog X.w) X.A (f (.int i t)) Q E s):
  yA X f (rU λi=>.int (g i)):=by intro a s c H x v Q I b h;obtain⟨i,rfl,q⟩:=h;obtain⟨t,rfl⟩:=b;exact rule i t s _ _ ⟨.int (g i),H,I.tok _,⟨_,J⟩,q⟩
theorem vH:yA X (unaryOp .USub) (rU λi=>.int (-i)):=Oe λ_ _ _ _ _ q=>neg_int q
end
noncomputable def yX:V->V->Bool|.non,.non=>true|.non,.int _=>true|.int _,.non=>true|.non,.bl _=>true|.bl _,.non=>true|.non,.str _=>true|.str _,.non=>true|.int _,.int _=>true|.bl _,.bl _=>true|.str _,.str _=>true|.byt _,.byt _=>true|.int _,.str _=>true|.str _,.int _=>true|.bl _,.str _=>true|.str _,.bl _=>true|_,_=>false
def On:R2:=λx y H Q=>yX x y=true/\Q (.bl (decide (x=y))) H
def DJ:R2:=λx y H Q=>yX x y=true/\Q (.bl (!decide (x=y))) H
theorem vT{i j:Int}:decide (V.int i=V.int j)=(i==j):=by rw[pb];simp
theorem Ag{i j:Bool}:decide (V.bl i=V.bl j)=(i==j):=by rw[pb];simp
theorem Bf{i j:Str}:decide (V.str i=V.str j)=(i==j):=by rw[pb];simp
theorem Be{i j:Array UInt8}:decide (V.byt i=V.byt j)=(i.toList==j.toList):=by rw[pb];simp
section
variable{a b:OP}{tb tc:TE}
theorem xi{Q:VK}{k a:Bool}(I:Inv X pins σ H s)(q:Q (.bl k) H)(e:k=a):EP X pins σ Q (.bool a) s:=by subst e;exact⟨.bl k,H,I,J,q⟩
theorem vt:cQ X (compareOp .Eq) On:=by
 intro f s g H x y v u Q I d a h;obtain⟨c,q⟩:=h;cases x with
 | non=>
   cases d;cases y with
   |non=>cases a;exact EqNone.eq_none_none (xi I q (by simp))
   |bl j=>cases a;exact EqNone.eq_none_bool (xi I q (by simp))
   |int j=>obtain⟨b,rfl⟩:=a;exact EqNone.eq_none_int (xi I q (by simp))
   |str j=>obtain⟨b,rfl⟩:=a;exact EqNone.eq_none_str (xi I q (by simp))
   |_=>exact kS (show false=true from c) cy
 | bl i=>
   cases d;cases y with
   |non=>cases a;exact EqNone.eq_bool_none (xi I q (by simp))
   |bl j=>cases a;exact eq_bool (xi I q Ag)
   |str j=>obtain⟨b,rfl⟩:=a;exact EqMixed.eq_bool_str (xi I q (by simp))
   |_=>exact kS (show false=true from c) cy
 | int i=>
   obtain⟨t,rfl⟩:=d;cases y with
   |non=>cases a;exact EqNone.eq_int_none (xi I q (by simp))
   |int j=>obtain⟨b,rfl⟩:=a;exact eq_int (xi I q vT)
   |str j=>obtain⟨b,rfl⟩:=a;exact EqMixed.eq_int_str (xi I q (by simp))
   |_=>exact kS (show false=true from c) cy
 | str i=>
   obtain⟨t,rfl⟩:=d;cases y with
   |non=>cases a;exact EqNone.eq_str_none (xi I q (by simp))
   |bl j=>cases a;exact EqMixed.eq_str_bool (xi I q (by simp))
   |int j=>obtain⟨b,rfl⟩:=a;exact EqMixed.eq_str_int (xi I q (by simp))
   |str j=>obtain⟨b,rfl⟩:=a;exact eq_str (xi I q Bf)
   |_=>exact kS (show false=true from c) cy
 | byt i=>
   obtain⟨t,rfl⟩:=d;cases y with
   |byt j=>obtain⟨b,rfl⟩:=a;exact W.eq_bytes (xi I q Be)
   |_=>exact kS (show false=true from c) cy
 |_=>cases y<;>exact kS (show false=true from c) cy
theorem Q1:cQ X (compareOp .NotEq) DJ:=by
 intro f s g H x y v u Q I d a h;obtain⟨c,q⟩:=h;cases x with
 | non=>
   cases d;cases y with
   |non=>cases a;exact EqNone.ne_none_none (xi I q (by simp))
   |bl j=>cases a;exact EqNone.ne_none_bool (xi I q (by simp))
   |int j=>obtain⟨b,rfl⟩:=a;exact EqNone.ne_none_int (xi I q (by simp))
   |str j=>obtain⟨b,rfl⟩:=a;exact EqNone.ne_none_str (xi I q (by simp))
   |_=>exact kS (show false=true from c) cy
 | bl i=>
   cases d;cases y with
   |non=>cases a;exact EqNone.ne_bool_none (xi I q (by simp))
   |bl j=>cases a;exact ne_bool (xi I q (kW not Ag))
   |str j=>obtain⟨b,rfl⟩:=a;exact EqMixed.ne_bool_str (xi I q (by simp))
   |_=>exact kS (show false=true from c) cy
 | int i=>
   obtain⟨t,rfl⟩:=d;cases y with
   |non=>cases a;exact EqNone.ne_int_none (xi I q (by simp))
   |int j=>obtain⟨b,rfl⟩:=a;exact ne_int (xi I q (kW not vT))
   |str j=>obtain⟨b,rfl⟩:=a;exact EqMixed.ne_int_str (xi I q (by simp))
   |_=>exact kS (show false=true from c) cy
 | str i=>
   obtain⟨t,rfl⟩:=d;cases y with
   |non=>cases a;exact EqNone.ne_str_none (xi I q (by simp))
   |bl j=>cases a;exact EqMixed.ne_str_bool (xi I q (by simp))
   |int j=>obtain⟨b,rfl⟩:=a;exact EqMixed.ne_str_int (xi I q (by simp))
   |str j=>obtain⟨b,rfl⟩:=a;exact ne_str (xi I q (kW not Bf))
   |_=>exact kS (show false=true from c) cy
 | byt i=>
   obtain⟨t,rfl⟩:=d;cases y with
   |byt j=>obtain⟨b,rfl⟩:=a;exact W.ne_bytes (xi I q (kW not Be))
   |_=>exact kS (show false=true from c) cy
 |_=>cases y<;>exact kS (show false=true from c) cy
theorem pQ:cQ X (compareOp .Lt) (my λi j=>.bl (decide (i<j))):=si λ_ _ _ _ _ _ _ q=>lt_int q
theorem Q2:cQ X (compareOp .LtE) (my λi j=>.bl (decide (i<=j))):=si λ_ _ _ _ _ _ _ q=>le_int q
theorem zR:cQ X (compareOp .Gt) (my λi j=>.bl (decide (j<i))):=si λ_ _ _ _ _ _ _ q=>gt_int q
theorem EQ:cQ X (compareOp .GtE) (my λi j=>.bl (decide (j<=i))):=si λ_ _ _ _ _ _ _ q=>ge_int q
theorem ye(b:OP){a:OM}(h:a≠ .In:=by decide)(f:a≠ .NotIn:=by decide):behindInMarks a b=false:=by
 have d:(a==CmpOp.In)=false:=by simp_all
 have c:(a==CmpOp.NotIn)=false:=by simp_all
 cases b<;>simp[behindInMarks,d,c]
theorem jx{d:OM}{r:R2}(k:cQ X (compareOp d) r)(n:PE X a ta)(m:PE X b tb)(l:behindInMarks d b=false):PE X (.Compare a [d] [b] aE) (nQ r ta tb):=by intro c s f H Q I h;exact wpAny_Compare1 (uw n m I h λv u g x y p o j i q=>k c g f p x y v u Q o j i q) l
inductive jD(Q:Bool->Hp->Prop)(x:V)(H':Hp):Prop|mk:∀k,x=.bl k->Q k H'->jD Q x H'
def zO(t:TE):TT:=λσ H Q=>t σ H λx H'=>jD Q x H'
theorem zv{g:OM}{r:R2}(t:cQ X (compareOp g) r)(B:PE X a ta)(A:PE X b tb)(w:behindInMarks g b=false):PT X (.Compare a [g] [b] aE) (zO (nQ r ta tb)):=by
 intro d s f H Q I h;refine Us (aH (B d s f H _ I h) λv j ⟨x,L,E,n,q⟩=>aH (A d j f L _ E q) λu i ⟨y,G,D,m,p⟩=>aH (t d i f G x y v u _ D n m p) λc M ⟨z,F,C,l,k,e,o⟩=>?_) w
 subst e;cases l;exact UY ⟨F,C,o⟩
inductive gD(r':R2)(tc:TE)(σ:St)(Q:VK)(y z:V)(H3:Hp):Prop|mk:∀k,z=.bl k->(if k=true then tc σ H3 λw' H4=>r' y w' H4 Q else Q (.bl false) H3)->gD r' tc σ Q y z H3
def Gi(r F:R2)(ta tb B:TE):TE:=λσ H Q=>ta σ H λx H1=>tb σ H1 λy H2=>r x y H2 λz U=>gD F B σ Q y z U
theorem Ky{j g:OM}{r n:R2}(P:cQ X (compareOp j) r)(l:cQ X (compareOp g) n)(W:PE X a ta)(U:PE X b tb)(S:PE X c tc)(R:lastMarks [j,g] [b,c]=false:=by with_unfolding_all rfl):PE X (.Compare a [j,g] [b,c] aE) (Gi r n ta tb tc):=by
 intro f s i H Q I h;refine Compare_chain (aH (W f s i H _ I h) λv D ⟨x,H1,I1,G,N⟩=>chain_link (aH (U f D i H1 _ I1 N) λu C ⟨y,H2,I2,m,M⟩=>aH (P f C i H2 x y v u _ I2 G m M) λd B ⟨z,q,p,F,k,e,o⟩=>?_)) R
 subst e;cases F;refine UY ?_;cases k with|false=>exact ite_ff ⟨.bl false,q,p,J,o⟩|true=>exact ite_tt (chain_last (aH (S f B i q _ p o) λw A ⟨t,H4,Z,E,L⟩=>l f A i H4 y t u w Q Z m E L))
def yO(K:O4)(x:V)(H:Hp)(k:Bool):Prop:=match x with|.non=>k=false|.bl b=>k=b|.int i=>k=(i !=0)|.str y=>y.length<=TL/\k=((y.length:Int) !=0)|.byt y=>y.size<=TL/\k=((y.size:Int) !=0)|.ref p=>(∃xs,aK K H p xs/\k= !xs.isEmpty)\/(∃xs,aG K H p xs/\k= !xs.isEmpty)\/∃kvs,H p=some (.dK kvs)/\k= !kvs.isEmpty|_=>False
theorem MD{a:Type}{kvs:O (a×V)}{vs:O (a×I)}(r:KV kvs vs):(!vs.isEmpty)= !kvs.isEmpty:=by cases r<;>rfl
theorem Dw(r:yi xs its):(!its.toArray.isEmpty)= !xs.isEmpty:=by cases r<;>simp
theorem Qn:(TL:Nat)<2^63:=by rw[TM];decide
theorem GA:Ew X (λx H Q=>∃k,yO X.K x H k/\Q k H):=by intro o s B H x v Q I d h;obtain⟨k,e,q⟩:=h;have C:=TM;cases x with| non=>cases d;subst e;exact truthy_none ⟨H,I,q⟩| bl b=>cases d;subst e;exact UY ⟨H,I,q⟩| int i=>obtain⟨t,rfl⟩:=d;subst e;exact P.truthy_int ⟨H,I,q⟩| str y=>obtain⟨t,rfl⟩:=d;obtain⟨z,a⟩:y.length<=TL/\k=((y.length:Int) !=0):=e;subst a;exact P.truthy_str (by omega) ⟨H,I.tok _,q⟩| byt y=>obtain⟨t,rfl⟩:=d;obtain⟨z,a⟩:y.size<=TL/\k=((y.size:Int) !=0):=e;subst a;exact W.truthy_bytes (by omega) ⟨H,I.tok _,q⟩| ref p=>cases d;have a:=e;rcases a with⟨w,g,a⟩|⟨w,g,a⟩|⟨f,g,a⟩;subst a;obtain⟨n,r,l,u⟩:=I.list g;have c:=r.length;exact wpAny_truthy_list l.isList (by grind) ⟨H,I.tok _,by rw[Dw r];exact q⟩;subst a;obtain⟨n,r,l,u⟩:=I.tuple g;have c:=r.length;exact truthy_tuple l (by grind) ⟨H,I.tok _,by rw[Dw r];exact q⟩;subst a;obtain⟨u,A,j,r,m⟩:f.length<=TL/\(p==TV)=false/\∃j,KV f j/\s.heap.DictOf (zt X.prog X.w) p j:=I.hok p _ g;have c:=Paired.length r;exact wpAny_truthy_dict A m (by omega) ⟨H,I.tok _,by rw[MD r];exact q⟩|_=>exact(e).elim
theorem CV(i:PE X a ta)(he:∀b,isTrue a X.env b=(do let v<-b;standAt a.pos;holding [v] (truthy v))):PT X a (λσ H Q=>ta σ H λx H'=>∃k,yO X.K x H' k/\Q k H'):=by intro c s σ H Q I h;exact isTrue_plain (aH (i c s σ H _ I h) λv d ⟨x,l,j,f,g⟩=>GA c d σ l x v Q j f g) (he _)
theorem Zg{x:V}(r:yi [x] us):∃u,us=[u]/\yf x u:=by cases r with|cons b a=>cases a;simp_all
theorem uM{x:V}(r:yi [x,y] us):∃u a,us=[u,a]/\yf x u/\yf y a:=by cases r with| cons f d=>cases d with|cons c b=>cases b;exact⟨_,_,J,f,c⟩
theorem Lk(c:X.calm=true):j6 X (.builtin "max") (λxs H Q=>∃i j,xs=[.int i,.int j]/\Q (.int (if j>i then j else i)) H):=by
 intro b s d H xs g Q I r h;obtain⟨i,j,rfl,q⟩:=h;obtain⟨u,f,rfl,⟨t,rfl⟩,⟨m,rfl⟩⟩:=uM r;refine max_two_ints (I.ok.hd c) λn l k=>⟨_,H,I.kept k,?_,q⟩
 by_cases a:j>i;rw[kP a,kP a];exact⟨_,J⟩;rw[kr a,kr a];exact⟨_,J⟩
theorem Ll(c:X.calm=true):j6 X (.builtin "min") (λxs H Q=>∃i j,xs=[.int i,.int j]/\Q (.int (if j<i then j else i)) H):=by
 intro b s d H xs g Q I r h;obtain⟨i,j,rfl,q⟩:=h;obtain⟨u,f,rfl,⟨t,rfl⟩,⟨m,rfl⟩⟩:=uM r;refine min_two_ints (I.ok.hd c) λn l k=>⟨_,H,I.kept k,?_,q⟩
 by_cases a:j<i;rw[kP a,kP a];exact⟨_,J⟩;rw[kr a,kr a];exact⟨_,J⟩
end
structure fR(h:O7)(x dx C:lv)(mA:Str->Option Sr):Prop where
 obj:h.get? x=some (SI C dx)
 ns:h.Ns1 dx mA
 ne:dx≠x
theorem LB(n:h.Ns1 dx mA):∃od,h.get? dx=some od/\∀name,SN name od=some (mA name):=by
 obtain⟨o,c,k,f,i,hk,_,g⟩:=n;refine⟨o,f,λname=>?_⟩;have e:=g name;unfold nsFind findBy at e;rw[<-Array.find?_toList]at e;unfold SN;rw[i];dsimp only;split
 rename_i y q
 rw[q]at e;exact kW some e
 rename_i q
 rw[q]at e;have a:c.toList.any (·.refKey)=false:=by rw[PJ];intro y d;obtain⟨z,t,b⟩:=hk y (Array.mem_toList_iff.mp d);simp[DictEntry.refKey,b]
 have j:¬c.toList.any (·.refKey)=true:=by rw[a];exact cy
 rw[kr j];exact kW some e
theorem fR.look{x:Y}(I:fR h x dx C mA):∃od,W.InstAt h x (SI C dx) C (some od)/\∀name,SN name od=some (mA name):=
 let⟨od,a,b⟩:=LB I.ns
 ⟨od,⟨I.obj,J,J,a⟩,b⟩
section
variable{K:O4}{x f:lv}{v:Sr}
theorem Ig{a:Bool}(X:K.In s.heap)(I:fR s.heap x dx C mA)(g:SS K C name=true)(f:SH K C=true)(i:SE K (.ref C) name=some none) (c:mA name=some v) (b:W.handedIn v=true) (h:Q v {s with toks:=s.toks+1}):
  TX (Tx prog w) A (getAttr (.ref x) name a) Q E s:=by obtain⟨j,J,d⟩:=I.look;exact W.get_value X J (SU g).1 (W.findObj_own f i rfl (by rw[d,c])) b h
theorem KA{b:Sem Bool}{Q:Sr×O Sr->Sh->Prop}(X:K.In s.heap)(I:fR s.heap x dx C mA)(a:SS K C name=true)(j:SE K (.ref C) name=some (some (.ref f))) (g:W.isFn K (.ref f)=true) (d:mA name=none) (h:Q (.ref f,[.ref x]) s):
  TX (Tx prog w) A (getMethod (.ref x) name b) Q E s:=by obtain⟨c,J,i⟩:=I.look;exact W.method_fn X J (SU a).1 (SU a).2 j (beq_iff_eq.mp g) (by show(SN name c).map (·.isSome)=some false;rw[i,d];rfl) h
theorem Iy{Q:Unit->Sh->Prop}(X:K.In s.heap)(I:fR s.heap x dx C mA)(l:SE K (.ref C) "__setattr__"=some (some (.builtin "object.__setattr__"))) (m:SV K C=true) (k:W.takerIn K C name=some none) (n:SH K C=true)
  (j:PySem.Within mA ns) (hsz:ns.length<=TL)
  (h:∀h',fR h' x dx C (λy=>if y=name then some v else mA y)->Pc dx s.heap h'->Q () {s with heap:=h',toks:=s.toks+2}):
  TX (Tx prog w) A (setAttr (.ref x) name v) Q E s:=by obtain⟨r,J,u⟩:=I.look;refine W.set_plain X J l (W.osa_open X J m k λb=>?_);obtain⟨z,o,g⟩:=W.any_some n;refine a9 (aa (a9 (a9 (wpAny_loadPart I.obj (a9 (W.Looks.here (W.looks_clsIn X o) ?_))))));rw[g];refine aa (a9 (aa (a9 (wpAny_nsSet1 I.ns λh' c a=>?_))));obtain⟨t,p,q,d,f,i⟩:=c.count (PySem.Within.cons name v j);exact a9 (wpAny_lookBehind d (f▸pastItsLine_dict (dq i (by simp_all))) (aa (h _ ⟨(a.2 _ (ae I.ne)).trans I.obj,c,I.ne⟩ a)))
theorem JM{vs:O I}{b:O (Str×I)}(X:K.In s.heap)(c:W.makesIn K C=true)(i:SE K (.ref C) "__init__"=some (some (.ref f))) (j:W.typeIn K (.ref f)=some (.type "function"))
  (h:Td (Tx prog w) (A.under (.builtin "type.__call__" ⟨.ref C::vs,b⟩)) (.call (.ref f) ⟨.ref (s.heap.objs.size+1)::vs,b⟩) (W.InitBack (s.heap.objs.size+1) R) {s with heap:=(s.heap.push SD).push (SI C s.heap.objs.size)}):
  Td (Tx prog w) A (.call (.ref C) ⟨vs,b⟩) R s:=by obtain⟨k,g,d,t,os⟩:=s;exact W.make_core (W.makes_of X c) (W.looks_findIn X i) (λa=>W.bind_fn X a j) (.inl J) h
end
noncomputable def qg(f:Str)(v:V):List (Str×V)->List (Str×V)|[]=>[(f,v)]|(g,x)::r=>if g=f then(g,v)::r else(g,x)::qg f v r
theorem Q4(f g:Str)(v:V):∀fs:List (Str×V),(qg f v fs).lookup g=if g=f then some v else fs.lookup g| []=>by show QS g [(f,v)]=_;by_cases h:g=f;have a:(g==f)=true:=beq_iff_eq.mpr h;simp only[QS,a,kP h];have a:(g==f)=false:=beq_eq_false_iff_ne.mpr h;simp only[QS,a,kr h]| (k,x)::r=>by have b:=Q4 f g v r;rw[show qg f v ((k,x)::r)=(if k=f then(k,v)::r else(k,x)::qg f v r)from rfl];by_cases hk:k=f;rw[kP hk];by_cases h:g=k;have a:(g==k)=true:=beq_iff_eq.mpr h;simp only[QS,a,kP (h.trans hk)];have a:(g==k)=false:=beq_eq_false_iff_ne.mpr h;simp only[QS,a,kr (λe:g=f=>h (e.trans hk.symm))];rw[kr hk];by_cases h:g=k;have a:(g==k)=true:=beq_iff_eq.mpr h;simp only[QS,a,kr (λe:g=f=>hk (h.symm.trans e))];have a:(g==k)=false:=beq_eq_false_iff_ne.mpr h;simp only[QS,a];exact b
theorem Qo(f:Str)(v:V):∀fs:List (Str×V),f∈(qg f v fs).map (·.1)/\∀g,g∈fs.map (·.1)->g∈(qg f v fs).map (·.1)|[]=>⟨by simp[qg],λg h=>by simp at h⟩| (k,x)::r=>by obtain⟨b,a⟩:=Qo f v r;rw[show qg f v ((k,x)::r)=(if k=f then(k,v)::r else(k,x)::qg f v r)from rfl];by_cases hk:k=f;rw[kP hk];subst hk;exact⟨by simp,λg h=>by simpa using h⟩;rw[kr hk];refine⟨?_,λg h=>?_⟩;rw[d8];exact bp _ b;rw[d8]at h⊢;rcases bc.mp h with e|e;exact bc.mpr (.inl e);exact bp _ (a g e)
theorem Q5(f:Str)(v:V):∀fs:List (Str×V),(qg f v fs).length<=fs.length+1
 |[]=>by simp[qg]
 | (k,x)::r=>by
   have a:=Q5 f v r;rw[show qg f v ((k,x)::r)=(if k=f then(k,v)::r else(k,x)::qg f v r)from rfl]
   grind
theorem fy(r:Yl (some v) o):∃u,o=some u/\yf v u:=by cases o with|none=>exact(r).elim|some u=>exact⟨u,J,r⟩
theorem hL(r:Yl none o):o=none:=by cases o with|none=>rfl|some u=>exact(r).elim
theorem L3(r:yf v u):W.handedIn u=true:=by cases v with|non=>cases(r);rfl|bl b=>cases(r);rfl|int i=>obtain⟨t,e⟩:=(r);cases e;rfl|str x=>obtain⟨t,e⟩:=(r);cases e;rfl|byt b=>obtain⟨t,e⟩:=(r);cases e;rfl|flt b=>obtain⟨t,e⟩:=(r);cases e;rfl|ref a=>cases(r);rfl|ty n=>cases(r);rfl
section
variable{fs qB:List (Str×V)}
theorem Jq(b:bR P w H h)(e:H a=some (.ins C dx fs)):∃mA,fR h a dx C mA/\(∀f,Yl (fs.lookup f) (mA f))/\PySem.Within mA (fs.map (·.1))/\fs.length<=1000/\H dx=some (.own a):=by
 obtain⟨d,z,g,c,mA,n,r,q⟩:=(b a _ e)
 exact⟨mA,⟨c,n,g⟩,r,q,z,d⟩
end
structure iK(K:O4)(C:lv):Prop where
 pg:SS K C Str.empty=true
 hd:SH K C=true
 po:SV K C=true
 sa:SE K (.ref C) "__setattr__"=some (some (.builtin "object.__setattr__"))
theorem iK.get{K:O4}(c:iK K C)(f:Str):SS K C f=true:=c.pg
def Xt(K:O4)(C:lv)(f:Str):Prop:=SE K (.ref C) f=some none
theorem Xt.taker{K:O4}(n:Xt K C f):W.takerIn K C f=some none:=by unfold W.takerIn;rw[(n)];rfl
structure ll(K:O4)(C:lv)(m:Str)(f:lv):Prop where
 at_:SE K (.ref C) m=some (some (.ref f))
 fn:W.isFn K (.ref f)=true
 kp:SJ K (.ref f)=true
section
variable{fs:List (Str×V)}
theorem M6{b:Bool}(I:Inv X pins σ H s)(e:H a=some (.ins C dx fs))(c:iK X.K C)(n:Xt X.K C f)(l:fs.lookup f=some v)(h:∀u s',Inv X pins σ H s'->yf v u->Q u s'):TX (Tx X.prog X.w) A (getAttr (.ref a) f b) Q E s:=by obtain⟨i,O,r,_,_,_⟩:=Jq I.hok e;obtain⟨u,g,d⟩:=fy (l▸r f);exact Ig I.kIn O (c.get f) c.hd n g (L3 d) (h u _ (I.tok _) d)
theorem Dv{g:Y}{b:Sem Bool}{Q:Sr×List Sr->Sh->Prop}(I:Inv X pins σ H s)(e:H a=some (.ins C dx fs))(c:iK X.K C)(k:ll X.K C m g)(l:fs.lookup m=none)(h:Q (.ref g,[.ref a]) s):TX (Tx X.prog X.w) A (getMethod (.ref a) m b) Q E s:=by obtain⟨d,O,r,_,_,_⟩:=Jq I.hok e;exact KA I.kIn O (c.get m) k.at_ k.fn (hL (l▸r m)) h
theorem Nf{Q:Unit->Sh->Prop}(I:Inv X pins σ H s)(e:H a=some (.ins C dx fs))(c:iK X.K C)(n:Xt X.K C f)(hl:fs.length<1000)(k:yf y u)(h:∀s',Inv X pins σ (ji H a (.ins C dx (qg f y fs))) s'->Q () s'):TX (Tx X.prog X.w) A (setAttr (.ref a) f u) Q E s:=by
 obtain⟨v,O,r,i,_,l⟩:=Jq I.hok e;refine Iy I.kIn O c.sa c.po n.taker c.hd i (by rw[ag,TM];omega) λw d j=>h _ (I.write (e▸Sq) (.inr l) (λb q p z=>(j.2 b p).trans z) (let⟨o,_,_,t,_⟩:=d.ns;⟨o,t⟩) ⟨by rw[ja O.ne];omega,?_,O.ne,d.obj,_,d.ns,λg=>?_,λg m=>?_⟩);have:=Q5 f y fs;omega;rw[Q4];by_cases q:g=f;rw[kP q,kP q];exact k
 simp_all
 by_cases q:g=f;rw[q];exact(Qo f y fs).1;refine(Qo f y fs).2 g (i g λz=>m ?_)
 simp_all
theorem Inv.made(I:Inv X pins σ H s):Inv X pins σ (ji (ji H s.heap.objs.size (.own (s.heap.objs.size+1))) (s.heap.objs.size+1) (.ins C s.heap.objs.size []))
  {s with heap:=(s.heap.push SD).push (SI C s.heap.objs.size)}:=by
 have c:(s.heap.push SD).get? s.heap.objs.size=some SD:=cb s.heap J;have g:((s.heap.push SD).push (SI C s.heap.objs.size)).get? (s.heap.objs.size+1)=some (SI C s.heap.objs.size):=by
  have:=cb (s.heap.push SD) (o:=SI C s.heap.objs.size) J
  rwa[gm]at this
 refine(I.laid (o:=.own (s.heap.objs.size+1)) (t':=s.toks) (λb u q=>be _ q) (au _) ⟨_,c⟩).laid (λb u q=>be _ q) (Nat.le_of_eq (gm _ _)) ?_;have a:s.heap.objs.size≠s.heap.objs.size+1:=br (dz _);refine⟨by rw[ja a,zd],c9 _,a,g,λ_=>none,(Heap.Ns1.of_empty ⟨SD,#[],_,c,J,(λe f=>kS f (by simp)),λ_=>rfl⟩).at λo q=>be _ q,λ_=>Sq,λy d=>kS J d⟩
theorem GT(b:attributeBase e f env (Tj e env)=Tj e env)(h:TX (Tx prog w) A (Tj e env) (λo a=>TX (Tx prog w) A (getAttr o f true) Q E a) E s):TX (Tx prog w) A (Tj (.Attribute e f aE) env) Q E s:=
 Attribute_any_ h (by rw[arm_eval_Attribute,b])
end
inductive mK(K:O4)(f:Str)(Q:VK)(x:V)(H1:Hp):Prop|mk:∀a C dx fs v,x=.ref a->H1 a=some (.ins C dx fs)->iK K C->Xt K C f->fs.lookup f=some v->Q v H1->mK K f Q x H1
def me(K:O4)(ta:TE)(f:Str):TE:=λσ H Q=>ta σ H λx H1=>mK K f Q x H1
inductive mM(K:O4)(f:Str)(D:wo)(σ:St)(y x:V)(H2:Hp):Prop|mk:∀a C dx fs,x=.ref a->H2 a=some (.ins C dx fs)->iK K C->Xt K C f->fs.length<1000->D.nx σ (ji H2 a (.ins C dx (qg f y fs)))->mM K f D σ y x H2
def Ef(K:O4)(ta B:TE)(f:Str):TS:=λD σ H=>B σ H λy H1=>ta σ H1 λx H2=>mM K f D σ y x H2
def yK(X:Cx)(F:RP)(B:V->V->Hp->VK->Prop):Prop:=∀(pins:List (lv×Obj))(s:Sh)(σ:St)(H:Hp)(x y:V)(u v:Sr)(Q:VK),Inv X pins σ H s->yf x u->yf y v->B x y H Q->TX (Tx X.prog X.w) X.A (inplaceOp F u v) (EP X pins σ Q) X.xe s
section
variable{o:OP}{cF cM:Pos}
theorem zo(he:PE X e ta)(j:attributeBase e f X.env (Tj e X.env)=Tj e X.env):PE X (.Attribute e f aE) (me X.K ta f):=by intro b s d H Q I h;refine GT j (aH (he b s d H _ I h) λu y ⟨x,r,p,g,a,C,A,z,v,k,m,c,n,l,q⟩=>?_);subst k;obtain rfl:u=Sw a:=g;exact M6 p m c n l λt w o i=>⟨v,r,o,i,q⟩
theorem vf(t:PE X o ta)(p:PE X aU tv)(r:swapsWith aU (some (.Attribute o f cF)) aE.line X.env=pure false):PS X (.Assign [.Attribute o f cF] aU aE) (Ef X.K ta tv f):=by intro b s d H D I h;refine plainObj_wpAny_Assign_Attribute (aH (p b s d H _ I h) λu g ⟨y,E,B,i,q⟩=>aH (t b g d E _ B q) λm G ⟨x,N,A,j,a,C,M,L,v,w,c,n,l,k⟩=>?_) r;subst v;obtain rfl:m=Sw a:=j;exact Nf A w c n l i λF z=>⟨d,_,z,k⟩
inductive rJ(x y:V)(H:Hp)(Q:VK):Prop|mk:∀i j,x=.int i->y=.int j->Q (.int (i+j)) H->rJ x y H Q
theorem FB:yK X .Add rJ:=by
 rintro a s d H x y u v Q I c b ⟨i,j,rfl,rfl,q⟩;obtain⟨t,rfl⟩:=(c)
 obtain⟨f,rfl⟩:=(b)
 exact PyProof.Rows.iadd_int ⟨.int (i+j),H,I.tok _,⟨_,J⟩,q⟩
end
section
variable{c:Sr}{b:Bool}
inductive cO(K:O4)(H:Hp):V->Sr->Prop where|non:cO K H .non (.type "NoneType")|bl (x:Bool):cO K H (.bl x) (.type "bool")|int (i:Int):cO K H (.int i) (.type "int")|str (x:Str):cO K H (.str x) (.type "str")|flt (x:UInt64):cO K H (.flt x) (.type "float")|lst {a:lv} {xs:List V} (e:H a=some (.lst xs)):cO K H (.ref a) (.type "list")|frz {a:lv} {o:Obj} {xs:List V} (e:H a=some (.frz o (.lst xs))):cO K H (.ref a) (.type "list")|tup {a:lv} {xs:List V} (e:H a=some (.tup xs)):cO K H (.ref a) (.type "tuple")|dK {a:lv} {kvs:List (aJ×V)} (e:H a=some (.dK kvs)):cO K H (.ref a) (.type "dict")|dT {a:lv} {kvs:List (List aJ×V)} (e:H a=some (.dT kvs)):cO K H (.ref a) (.type "dict")|ins {a C dx:lv} {fs:List (Str×V)} (e:H a=some (.ins C dx fs)) (cl:iK K C) (ha:SE K (.ref C) "__class__"=some (some (.builtin "object.__class__")))
  (hn:W.specialIn K (.builtin "object.__class__") "__get__"=some (some (.builtin "getset_descriptor.__get__"))) (htk:W.takesIn K (.builtin "object.__class__")=some true)
  (hm:W.mroIn K C (.type "object")=some true):cO K H (.ref a) (.ref C)
theorem Lx{x:V}{t:Sr}(I:Inv X pins σ H s)(d:yf x u)(v:cO X.K H x t)(e:SM X.K t c=some b)(h:∀tk,Q (.bool b) {s with toks:=tk}):TX (Tx X.prog X.w) A (call (.builtin "isinstance") [u,c]) Q E s:=by
 cases v with|non=>cases(d);exact SK W.kitx_none I.kIn Sq e (λz=>nomatch z) h|bl y=>cases(d);exact SK W.kitx_bool I.kIn Sq e (λz=>nomatch z) h|int i=>obtain⟨t,q⟩:=(d);cases q;exact SK W.kitx_int I.kIn Sq e (λz=>nomatch z) h|str y=>obtain⟨t,q⟩:=(d);cases q;exact SK W.kitx_str I.kIn Sq e (λz=>nomatch z) h|flt y=>obtain⟨t,q⟩:=(d);cases q;exact SK W.kitx_float I.kIn Sq e (λz=>nomatch z) h| @lst a k f=>
   cases(d);obtain⟨_,_,n,_,g⟩:=(I.hok a _ f)
   exact SK W.kitx_list I.kIn ⟨_,g,rfl⟩ e (λz=>nomatch z) h| @frz a N k f=>
   cases(d);obtain⟨_,_,_,n,_,g⟩:=(I.hok a _ f)
   exact SK W.kitx_list I.kIn ⟨_,g,rfl⟩ e (λz=>nomatch z) h| @tup a k f=>
   cases(d);obtain⟨_,_,_,p⟩:=(I.hok a _ f)
   obtain⟨⟨o,g,j,_⟩,_⟩:=p;exact SK W.kitx_tuple I.kIn ⟨o,g,j⟩ e (λz=>nomatch z) h| @dK a l f=>
   cases(d);obtain⟨_,_,L,_,p⟩:=(I.hok a _ f)
   obtain⟨o,F,G,g,j,_⟩:=p;exact SK W.kitx_dict I.kIn ⟨o,g,j.1⟩ e (λz=>nomatch z) h| @dT a l f=>
   cases(d);obtain⟨_,_,k,_,o,F,G,g,j,_⟩:=(I.hok a _ f)
   exact SK W.kitx_dict I.kIn ⟨o,g,j.1⟩ e (λz=>nomatch z) h| @ins a C S R f r D w m B=>cases(d);obtain⟨P,O,_⟩:=Jq I.hok f;obtain⟨M,J,_⟩:=O.look;exact SK (W.kitx_own (r.get _) r.hd D w m B) I.kIn J e (λz=>nomatch z) h
end
structure aO(k:Nat)(A:mf):Prop where
 hd:A.handled=none
 dp:A.depth+3*k+5<recursionLimit
 un:A.units+16*k+200<cLine
theorem aO.mono{j k:Nat}(r:aO k A)(h:j<=k):aO j A:=⟨r.hd,by have:=r.dp;omega,by have:=r.un;omega⟩
theorem aO.deeper{k:Nat}{A:mf}(r:aO (k+1) A)(a:Env):aO k (A.deeper a):=⟨r.hd,by have:=r.dp;show A.depth+1+3*k+5<_;omega,by have:=r.un;show A.units+3+16*k+200<_;omega⟩
theorem MF{a:O (Str×I)}:(A.under (.builtin "type.__call__" ⟨.ref C::us,a⟩)).depth=A.depth+1:=by rfl
theorem MG{a:O (Str×I)}:(A.under (.builtin "type.__call__" ⟨.ref C::us,a⟩)).units=A.units+1:=by rfl
theorem aO.make{k:Nat}(r:aO (k+1) A)(C:Y)(a:O I)(b:O (Str×I)):aO k (A.under (.builtin "type.__call__" ⟨.ref C::a,b⟩)):=⟨r.hd,by have:=r.dp;rw[MF];omega,by have:=r.un;rw[MG];omega⟩
theorem aO.depth{k:Nat}{A:mf}(r:aO k A):A.depth<recursionLimit:=by have:=r.dp;omega
theorem aO.units{k:Nat}{A:mf}(r:aO k A):A.units+64<cLine:=by have:=r.un;omega
def lE:TA:=λ_ H Q=>Q [] H
def Vb(ta:TE)(B:TA):TA:=λσ H Q=>ta σ H λx H1=>B σ H1 λxs H2=>Q (x::xs) H2
section
variable{t:TA}
theorem zb:PA X [] lE:=λ_ _ _ _ H Q I h=>J5 ⟨[],H,I,.nil,h⟩
theorem za(m:PE X e te)(l:PA X es t)(k:TQ (e::es) X.env=(false,Tj e X.env)::TQ es X.env:=by rfl):PA X (e::es) (Vb te t):=by intro n a s b H Q I h;rw[k];exact J4 (aH (m a s b H _ I h) λu d ⟨x,r,p,g,j⟩=>(aH (l n a d b r _ p j) λv w ⟨c,q,o,f,i⟩=>⟨x::c,q,o,.cons g f,i⟩))
def Er(t:TA):TE:=λσ H Q=>t σ H λxs H1=>xs.length<=TL/\∀p,H1 p=none->Q (.ref p) (ji H1 p (.tup xs))
def En(t:TA):TE:=λσ H Q=>t σ H λxs H1=>xs.length<=TL/\∀p,H1 p=none->Q (.ref p) (ji H1 p (.lst xs))
theorem Wp{i}(h:PA X es t):PE X (.Tuple es i aE) (Er t):=by intro a s f H Q I k;exact wpAny_Tuple_spliced (aH (h aE a s f H _ I k) λj c ⟨g,l,d,r,z,q⟩=>⟨(r.length▸z),⟨.ref c.heap.objs.size,ji l c.heap.objs.size (.tup g),d.laid (λb u e=>be _ e) (au _) ⟨z,j,r,⟨_,cb _ J,J,_,J⟩,li.push⟩,J,q _ (d.hok.fresh (au _))⟩⟩)
theorem uY(h:PA X es t):PE X (.List es aE) (En t):=by intro a s f H Q I j;exact wpAny_List_spliced (aH (h aE a s f H _ I j) λi c ⟨g,k,d,r,z,q⟩=>⟨(r.length▸z),⟨.ref c.heap.objs.size,ji k c.heap.objs.size (.lst g),d.laid (λb u e=>be _ e) (au _) ⟨z,i,0,r,cb _ J⟩,J,q _ (d.hok.fresh (au _))⟩⟩)
end
abbrev Sp:=List V->Hp->VK->XK->Prop
abbrev lB:=List Env->Hp->Sh->XK->Sr->Sh->Prop
structure iJ(P:R0)(w:SX)(K:O4)(mg:Str->Option Sr)(base:O7)(A:mf)(outer:List Env)(s:Sh)(H:Hp):Prop where
 frames:A.frames=some outer
 mod:Mod K mg base
 bs:∀b o,base.get? b=some o->s.heap.get? b=some o/\H b=none
 bsz:base.objs.size<=s.heap.objs.size
 funs:s.heap.FunFrames base outer
 frf:∀b∈iM outer,H b=none
 hok:bR P w H s.heap
 bare:l0 s.gens
inductive CE(outer:List Env)(P:R0)(w:SX)(H:Hp)(s:Sh)(Q:VK)(u:Sr)(s':Sh):Prop|mk:∀v H',s'.os=s.os->l0 s'.gens->Un (iM outer) [] H H' s.heap s'.heap->bR P w H' s'.heap->yf v u->Q v H'->CE outer P w H s Q u s'
def CR(CX:lB)(outer:List Env)(P:R0)(w:SX)(H:Hp)(s:Sh)(Q:VK)(E:XK)(r:Sb)(B:Sh):Prop:=match r with|.ok (.ret u)=>CE outer P w H s Q u B|.ok _=>False|.error e=>CX outer H s E e B
structure cH(P:R0)(w:SX)(K:O4)(mg:Str->Option Sr)(base:O7)(CX:lB)(k:Nat)(f:lv)(fd:O5)(ps:List Str)(sp:Sp):Prop where
 len:∀vs H Q E,sp vs H Q E->vs.length=ps.length
 run:∀(A:mf)(outer:List Env)(s:Sh)(H:Hp)(args:Args)(us:List Sr)(vs:List V)(Q:VK)(E:XK),aO k A->iJ P w K mg base A outer s H->o0 s fd args (ps.zip us)->yi vs us->sp vs H Q E->
  Td (Tx P w) A (.call (.ref f) args) (CR CX outer P w H s Q E) s
theorem iJ.make{K:O4}(e:iJ P w K mg base A outer s H)(C:Y)(a:O I)(b:O (Str×I)):iJ P w K mg base (A.under (.builtin "type.__call__" ⟨.ref C::a,b⟩)) outer s H:=⟨by first|exact e.frames|(simpa[Around.under,Code.envs,Code.isFrame,pushEnvs]using e.frames),e.mod,e.bs,e.bsz,e.funs,e.frf,e.hok,e.bare⟩
section
variable{s':Sh}
theorem Inv.env0(I:Inv X pins σ H s):iJ X.prog X.w X.K X.mg X.base X.A X.stack s H:=⟨I.ok.frames,I.ok.mod,I.bs,dq I.ok.bsz I.sz,I.stack,I.stkFree,I.hok,I.bare⟩
theorem Inv.after{Q:VK}(I:Inv X pins σ H s)(h:CE X.stack X.prog X.w H s Q u s'):EP X pins σ Q u s':=by obtain⟨v,c,os,bare,un,hok,r,q⟩:=h;obtain⟨f,g,d,t,a⟩:=s';obtain rfl:a=s.os:=os;exact⟨v,c,I.call un hok bare (λb z=>kS z (by simp)),r,q⟩
end
def zG(sp:Sp)(B:List V)(E:XK)(t:TA):TE:=λσ H Q=>t σ H λvs H1=>sp (vs++B) H1 Q E
inductive jH(C:lv)(m:Str)(sp:Sp)(dvs:List V)(E:XK)(t:TA)(σ:St)(Q:VK)(x:V)(H1:Hp):Prop|mk:∀a dx fs,x=.ref a->H1 a=some (.ins C dx fs)->fs.lookup m=none->(t σ H1 λvs H2=>sp (x::(vs++dvs)) H2 Q E)->jH C m sp dvs E t σ Q x H1
def qX(C:lv)(m:Str)(sp:Sp)(B:List V)(E:XK)(ta:TE)(t:TA):TE:=λσ H Q=>ta σ H λx H1=>jH C m sp B E t σ Q x H1
def zL(C:lv)(sp:Sp)(B:List V)(E:XK)(t:TA):TE:=λσ H Q=>t σ H λvs H1=>∀x dx,H1 x=none->H1 dx=none->dx≠x->
 sp (.ref x::(vs++B)) (ji (ji H1 dx (.own x)) x (.ins C dx [])) (λv H2=>v=.non/\Q (.ref x) H2) E
def Y9(K:O4)(U:O5)(B:List Str)(F:List Sr):Prop:=∀(s:Sh)(us:List Sr),K.In s.heap->(us++F).length=B.length->o0 s U ⟨us,[]⟩ (B.zip (us++F))
theorem Y9.all{K:O4}(h:∀us:O I,us.length=ps.length->bindArgs fd ⟨us,[]⟩=pure (ps.zip us)):Y9 K fd ps []:=λs us _ a=>by rw[eh]at a⊢;exact .of_eq (h us a)
def Wy(CX:lB)(X:Cx)(E:XK):Prop:=∀(pins:List (lv×Obj))(σ:St)(H:Hp)(s:Sh)(e:Sr)(s':Sh),Inv X pins σ H s->CX X.stack H s E e s'->X.xe e s'
section
variable{CX:lB}{k:Nat}{f:lv}{sp:Sp}{dvs:List V}{E:XK}{o:OP}{t:TA}
theorem vK{Q:VK}(F:cH X.prog X.w X.K X.mg X.base CX k f fd ps sp)(g:aO k X.A)(j:Y9 X.K fd ps ds)(i:yi dvs ds)(d:Wy CX X E)(I:Inv X pins σ H s) (r:yi vs us) (h:sp (vs++dvs) H Q E):TX (Tx X.prog X.w) X.A (call (.ref f) us) (EP X pins σ Q) X.xe s:=by have b:=r.append i;refine Ub (Tg (F.run X.A X.stack s H ⟨us,[]⟩ (us++ds) (vs++dvs) Q E g I.env0 (j s us I.kIn (b.length▸F.len _ _ _ _ h)) b h) λr c a=>?_);cases r with|error e=>exact d pins σ H s e c I a| ok l=>cases l with|ret u=>exact I.after a|next=>exact O2 a|brk=>exact O2 a|cont=>exact O2 a
theorem IP(F:cH X.prog X.w X.K X.mg X.base CX k f fd ps sp)(j:aO k X.A)(m:Gl X x)(l:X.mg x=some (.ref f))(hk:SJ X.K (.ref f)=true)(o:Y9 X.K fd ps ds)(n:yi dvs ds)(i:Wy CX X E)(u:PA X (e::es) t) (c:(x==("__debug__":Str))=false:=by decide) (he:TQ (e::es) X.env=(false,Tj e X.env)::TQ es X.env:=by rfl) (b:(backTo aE (TQ es X.env)).any (·.1)=false:=by rfl):
  PE X (.Call (.Name x p) (e::es) [] aE) (zG sp dvs E t):=by intro a s g H Q I h;exact T1 (wD I m l (Sz I.ok.mod.kin hk (aH (u aE a s g H _ I h) λw y ⟨v,z,d,r,q⟩=>⟨d.kIn,(vK F j o n i d r q)⟩) he b) c)
theorem IR{A:Sem Bool}(he:PE X o ta)(c:iK X.K C)(j:ll X.K C m f)(F:cH X.prog X.w X.K X.mg X.base CX k f fd ps sp)(G:aO k X.A)(M:Y9 X.K fd ps ds)(L:yi dvs ds)(B:Wy CX X E)(N:PA X (e::es) t)(d:TQ (e::es) X.env=(false,Tj e X.env)::TQ es X.env:=by rfl) (g:(backTo aE (TQ es X.env)).any (·.1)=false:=by rfl)
  (D:Tj (.Call (.Attribute o m apos) (e::es) [] aE) X.env=(do
   let ov<-Tj o X.env
   standAt apos.atName
   let(f,first)<-holding [ov] (getMethod ov m A)
   callWith aE f first (backTo aE (TQ (e::es) X.env)) (backToKw aE (keywordEach [] X.env))):=by rfl):
  PE X (.Call (.Attribute o m apos) (e::es) [] aE) (qX C m sp dvs E ta t):=by intro b s i H Q I h;refine W.methodCall_KW (aH (he b s i H _ I h) λu w ⟨x,S,p,y,a,dx,fs,P,R,l,q⟩=>?_) D;subst P;obtain rfl:u=Sw a:=y;exact Dv p R c j l (Sz I.ok.mod.kin j.kp (aH (N aE b w i S _ p q) λU Z ⟨v,H2,n,r,z⟩=>⟨n.kIn,(vK (vs:=.ref a::v) F G M L B n (.cons J r) z)⟩) d g)
theorem La{n:Sem Bool}(he:PE X o ta)(c:iK X.K C)(g:ll X.K C m f)(F:cH X.prog X.w X.K X.mg X.base CX k f fd ps sp)(t:aO k X.A)(w:Y9 X.K fd ps ds)(v:yi dvs ds)(p:Wy CX X E)(r:Tj (.Call (.Attribute o m apos) [] [] aE) X.env=(do
   let ov<-Tj o X.env
   standAt apos.atName
   let(f,first)<-holding [ov] (getMethod ov m n)
   callWith aE f first (backTo aE (TQ [] X.env)) (backToKw aE (keywordEach [] X.env))):=by rfl):
  PE X (.Call (.Attribute o m apos) [] [] aE) (qX C m sp dvs E ta lE):=by intro b s i H Q I h;refine W.methodCall_KW (aH (he b s i H _ I h) λu A ⟨x,G,d,j,a,D,B,y,z,l,q⟩=>?_) r;subst y;obtain rfl:u=Sw a:=j;exact Dv d z c g l (W.callWith_K0 d.kIn g.kp (vK (vs:=[.ref a]) F t w v p d (.cons J .nil) q))
structure Mk(K:O4)(C f:lv):Prop where
 makes:W.makesIn K C=true
 init:SE K (.ref C) "__init__"=some (some (.ref f))
 fn:W.isFn K (.ref f)=true
 kp:SJ K (.ref C)=true
theorem KK{Q:VK}(M:Mk X.K C f)(F:cH X.prog X.w X.K X.mg X.base CX k f fd ps sp)(m:aO (k+1) X.A)(p:Y9 X.K fd ps ds)(o:yi dvs ds)(l:Wy CX X E) (I:Inv X pins σ H s) (r:yi vs us)
  (h:∀x dx,H x=none->H dx=none->dx≠x->sp (.ref x::(vs++dvs)) (ji (ji H dx (.own x)) x (.ins C dx [])) (λv H2=>v=.non/\Q (.ref x) H2) E):
  TX (Tx X.prog X.w) X.A (call (.ref C) us) (EP X pins σ Q) X.xe s:=by
 have d:=h (s.heap.objs.size+1) s.heap.objs.size (I.hok.fresh (Ry _)) (I.hok.fresh (au _)) (br (dz _));have b:=Inv.made (C:=C) I;have c:yi (V.ref (s.heap.objs.size+1)::(vs++dvs)) (Sw (s.heap.objs.size+1)::(us++ds)):=.cons J (r.append o);have n:(Sw (s.heap.objs.size+1)::us++ds).length=ps.length:=by
  have e:=c.length;rw[F.len _ _ _ _ d]at e
  simp_all
 refine Ub (JM I.kIn M.makes M.init (beq_iff_eq.mp M.fn) (Tg (F.run _ X.stack _ _ ⟨Sw (s.heap.objs.size+1)::us,[]⟩ (Sw (s.heap.objs.size+1)::(us++ds)) _ _ E (m.make C us []) (b.env0.make C us []) (p _ (Sw (s.heap.objs.size+1)::us) b.kIn n) c d) λr g a=>?_))
 cases r with|error e=>exact l pins σ _ _ e g b a| ok q=>cases q with| ret u=>obtain⟨v,y,w,i,t,j⟩:=b.after a;subst t;exact⟨i,⟨V.ref (s.heap.objs.size+1),y,w,J,j⟩⟩|next=>exact O2 a|brk=>exact O2 a|cont=>exact O2 a
theorem IQ(M:Mk X.K C f)(F:cH X.prog X.w X.K X.mg X.base CX k f fd ps sp)(j:aO (k+1) X.A)(m:Gl X x)(l:X.mg x=some (.ref C))(o:Y9 X.K fd ps ds)(n:yi dvs ds)(i:Wy CX X E)(u:PA X (e::es) t) (c:(x==("__debug__":Str))=false:=by decide) (he:TQ (e::es) X.env=(false,Tj e X.env)::TQ es X.env:=by rfl) (b:(backTo aE (TQ es X.env)).any (·.1)=false:=by rfl):
  PE X (.Call (.Name x p) (e::es) [] aE) (zL C sp dvs E t):=by intro a s g H Q I h;exact T1 (wD I m l (Sz I.ok.mod.kin M.kp (aH (u aE a s g H _ I h) λw y ⟨v,z,d,r,q⟩=>⟨d.kIn,(KK M F j o n i d r q)⟩) he b) c)
end
section
variable{CX:lB}{k:Nat}{f:lv}{ks:List Str}{sp:Sp}{E:XK}{mz:Pos}{o:OP}{OF:List PB}{t tk:TA}{nm:Option Str}
variable{g:List Sr->List Sr->List Sr}{gV:List V->List V->List V}
end
structure aA(N P:List Str)(sc:Sc):Prop where
 kind:sc.kind=.function
 co:sc.isCoroutine=false
 gen:sc.isGenerator=false
 nd:N.Nodup
 pre:N.take P.length=P
 par:∀x∈P,sc.names.lookup x=some .local\/sc.names.lookup x=some .cell
 nofree:∀y∈sc.names,y.2≠ .free
theorem aA.of{P:O Str}(i:sc.kind=.function:=by rfl)(g:sc.isCoroutine=false:=by rfl)(f:sc.isGenerator=false:=by rfl)(d:N.Nodup:=by decide+kernel)(c:N.take P.length=P:=by rfl)(b:∀x∈P,sc.names.lookup x=some .local\/sc.names.lookup x=some .cell:=by decide+kernel)(a:∀y∈sc.names,y.2≠ .free:=by decide+kernel):aA N P sc:=⟨i,g,f,d,c,b,a⟩
theorem Dl{kindOf:Str->Option Rp}{x:Str}:∀{a:List (Str×Sr)}{m:Str->Option Sr},(∀v,(x,v) ∉ a)->bindL kindOf a m x=m x
 |[],_,_=>rfl
 | (n,v)::r,m,h=>by
   unfold bindL;rw[Dl λw b=>h w (bp _ b)];split;have:x≠n:=by rintro rfl;exact h v bv
   simp[this];rfl
theorem Dj{kindOf:Str->Option Rp}{x:Str}:∀{a:List (Str×Sr)}{m:Str->Option Sr},(∀v,(x,v) ∉ a)->bindC kindOf a m x=m x
 |[],_,_=>rfl
 | (n,v)::r,m,h=>by
   unfold bindC;rw[Dj λw b=>h w (bp _ b)];split;rfl
   grind
theorem Dk{kindOf:Str->Option Rp}{x:Str}{v:Sr}:∀{P:List Str}{vs:List Sr}{i:Nat}{m:Str->Option Sr},P.Nodup->P[i]?=some x->vs[i]?=some v->kindOf x=some .local->
  bindL kindOf (P.zip vs) m x=some v|[],_,_,_,_,h,_,_=>by simp at h|_::_,[],_,_,_,_,h,_=>by simp at h| p::P,w::vs,0,m,c,b,a,hk=>by simp at b a;subst b;subst a;show bindL kindOf ((p,w)::P.zip vs) m p=_;unfold bindL;rw[Dl λv d=>(d6.mp c).1 (Rf d).1,kP hk];simp| p::P,w::vs,i+1,m,c,b,a,hk=>by unfold bindL;exact Dk (d6.mp c).2 (by simpa using b) (by simpa using a) hk
theorem Di{kindOf:Str->Option Rp}{x:Str}{v:Sr}:∀{P:List Str}{vs:List Sr}{i:Nat}{m:Str->Option Sr},P.Nodup->P[i]?=some x->vs[i]?=some v->kindOf x≠some .local->
  bindC kindOf (P.zip vs) m x=some v|[],_,_,_,_,h,_,_=>by simp at h|_::_,[],_,_,_,_,h,_=>by simp at h| p::P,w::vs,0,m,c,b,a,hk=>by simp at b a;subst b;subst a;show bindC kindOf ((p,w)::P.zip vs) m p=_;unfold bindC;rw[Dj λv d=>(d6.mp c).1 (Rf d).1,kr hk];simp| p::P,w::vs,i+1,m,c,b,a,hk=>by show bindC kindOf ((p,w)::P.zip vs) m x=_;unfold bindC;exact Di (i:=i) (d6.mp c).2 (by simpa using b) (by simpa using a) hk
noncomputable def start(N:List Str)(vs:List V):St:=vs.map some++Rk (N.length-vs.length) none
noncomputable def X7(CX:lB)(P:R0)(w:SX)(K:O4)(mg:Str->Option Sr)(base:O7)(N:List Str)(F:Str)(B:Sc)(f:lv)(Z:Sr)(A:mf)(outer:List Env)(s:Sh)(H:Hp)(E:XK):Cx where
 prog:=P
 w:=w
 K:=K
 mg:=mg
 base:=base
 A:=A.deeper (envOfC F B s.heap.objs.size f Z)
 N:=N
 s₀:=s
 H₀:=H
 env:=envOfC F B s.heap.objs.size f Z
 outer:=outer
 stack:=envOfC F B s.heap.objs.size f Z::outer
 ex:=[]
 calm:=true
 fn:=λ_=>true
 pn:=[]
 xe:=λe s'=>TX (Tx P w) (A.deeper (envOfC F B s.heap.objs.size f Z)) (leaving (envOfC F B s.heap.objs.size f Z) e) (λ_ U=>CX outer H s E e U) (λe' U=>CX outer H s E e' U) s'
theorem Ck{n:Nat}(h:sc.names.lookup x=some .cell):∃c,(cellsFrom n sc.names []).lookup x=some c:=(Option.isSome_iff_exists.mp (W.cellsFrom_some sc.names n [] (.inl h)))
theorem Lw{CX:lB}{K:O4}{f:Y}{B:I}{C:Sh}{E:XK}(S:aA N ps scope) (L:A.handled=none) (g:iJ P w K mg base A outer s H) (hl:vs.length=ps.length) (r:yi vs us)
  (x:InCallC s s.heap.objs.size (bindL (envOfC qual scope s.heap.objs.size f B).kindOf (ps.zip us) λ_=>none) (cellsFrom (s.heap.objs.size+1) scope.names []) (bindC (envOfC qual scope s.heap.objs.size f B).kindOf (ps.zip us) λ_=>none) C):
  Inv (X7 CX P w K mg base N qual scope f B A outer s H E) [] (start N vs) H C:=by
 have G:ps.length<=N.length:=by have:=kW QM S.pre;rw[ia]at this;omega
 obtain⟨t,Q,rfl,hk⟩:=x.done;have j:∀b:Y,b ∉ (X7 CX P w K mg base N qual scope f B A outer s H E).ex:=λb z=>kS (show b∈([]:O Y)from z) (by simp);refine⟨⟨g.mod,S.kind,J,J,au _,λy z c t d=>?_,λy l=>?_,λy c _ h=>?_,λ_=>L,Around.frames_deeper g.frames,.inr ⟨J,J⟩,λb z=>kS z (j b),g.bs,g.bsz,λb _ _=>j b,λb z=>kS z (j b),g.funs,g.frf⟩,J,g.bare,Un.kept hk,⟨_,x.toInCall.ns,λi y v t d R=>?_⟩,λy c h=>⟨_,x.cell y c h⟩,g.hok.fresh (au _),λy c h=>?_,λp n=>kS (show p∈([]:O (Y×Obj))from n) (by simp),g.hok.kept hk,?_⟩
 exact name_of_addr x.apart (PySem.mem_of_lookup t) (PySem.mem_of_lookup d);have l:scope.names.lookup y=some .cell\/scope.names.lookup y=some .free:=l;rcases l with l|l;exact Ck l;exact kS J (S.nofree _ (PySem.mem_of_lookup l));exact Rw (x.above y c (PySem.mem_of_lookup h));have o:i<vs.length:=by unfold start at d;by_cases o:i<vs.length;exact o;rw[QE (by simpa using o)]at d;rw[List.getElem?_replicate]at d;split at d<;>cases d
 have M:vs[i]?=some v:=by unfold start at d;rw[QD (by simpa using o),bq]at d;cases e:vs[i]? with|none=>rw[e]at d;cases d|some a=>rw[e]at d;cases d;rfl
 obtain⟨u,D,F⟩:=r.get M;have n:ps[i]?=some y:=by rw[<-S.pre,List.getElem?_take_of_lt (by omega)];exact t
 have m:ps.Nodup:=by rw[<-S.pre];exact S.nd.sublist (List.take_sublist _ _)
 refine⟨u,F,?_⟩;rcases S.par y (dj n)with k|k;exact .inl ⟨k,Dk m n D k⟩;obtain⟨c,e⟩:=Ck (n:=s.heap.objs.size+1) k;refine .inr ⟨.inl k,c,e,?_⟩;have q:=x.cell y c e;rw[Di m n D (by show scope.names.lookup y≠_;rw[k];decide)]at q;exact q;exact g.hok.fresh (Rw (x.above y c (PySem.mem_of_lookup h)));unfold start;show _=N.length;rw[cq,ag,ie];omega
theorem E7{CX:lB}{K:O4}{k:Nat}{f:lv}{a:Arguments}{dV kV B R cdv U oc:Sr}{Z od:Option lv}{sp:Sp} (lk:K.lookup f=some ⟨oc,od,.func (SF name qual a fK scope dV kV B R Z cdv U),osl⟩) (L:SA K cdv qual=true) (S:aA N ps scope)
  (l:∀vs H Q E,sp vs H Q E->vs.length=ps.length)
  (g:∀(A:mf) (outer:List Env) (s:Sh) (H:Hp) (vs:List V) (Q:VK) (E:XK),aO k (A.deeper (envOfC qual scope s.heap.objs.size f cdv))->sp vs H Q E-> ∃t,dJ (X7 CX P w K mg base N qual scope f cdv A outer s H E) fK t/\t (.of Q) (start N vs) H):
  cH P w K mg base CX (k+1) f (SF name qual a fK scope dV kV B R Z cdv U) ps sp:=by
 refine⟨l,λA outer s H X us vs Q E G z hb r m=>?_⟩;have hl:=l _ _ _ _ m;have KX:K.In s.heap:=z.mod.kin.keeps λb o e=>(z.bs b o e).1;have F:s.heap.NoLimit:=z.mod.nolimit.keeps λb o e=>(z.bs b o e).1;have d:∀y∈ps.zip us,scope.names.lookup y.1=some .local\/(scope.names.lookup y.1=some .cell/\((cellsFrom (s.heap.objs.size+1) scope.names []).lookup y.1).isSome=true):=λ⟨n,v⟩ hy=>by rcases S.par n (Rf hy).1 with q|q;exact .inl q;exact .inr ⟨q,W.cellsFrom_some _ _ _ (.inl q)⟩
 refine codeAny_call_function G.depth (KX _ _ lk) rfl S.co S.gen rfl (W.codeRec_of KX L) (hb _ _ _ _ ?_);refine wpAny_newFunctionEnv_cells S.kind d λah he M x=>?_;subst he;refine⟨F.keeps x.toInCall.keep,codeAny_func ?_⟩;obtain⟨t,ht,hq⟩:=g A outer s H vs Q E (G.deeper _) m;have I:Inv (X7 CX P w K mg base N qual scope f cdv A outer s H E) [] (start N vs) H M:=Lw S G.hd z hl r x;refine fq (ht [] M (start N vs) H _ I hq) (λfl C i=>?_) λe C i=>i;have p:∀{c:St}{j:Hp}{v:V}{u:Sr},Inv (X7 CX P w K mg base N qual scope f cdv A outer s H E) [] c j C->yf v u->Q v j->CE outer P w H s Q u C:=
  λ{c j v u} J D q=>⟨v,j,J.os,J.bare,J.base,J.hok,D,q⟩
 cases fl with| ret u=>obtain⟨v,c,j,J,D,q⟩:=i;exact p J D q| next=>obtain⟨c,j,J,q⟩:=i;exact p (v:=V.non) (u:=Sv) J rfl q| brk=>obtain⟨_,_,_,q⟩:=i;exact O2 q| cont=>obtain⟨_,_,_,q⟩:=i;exact O2 q
section
variable{t:TA}{T:String}{r:List V->Hp->VK->Prop}
def rA(r:List V->Hp->VK->Prop)(t:TA):TE:=λσ H Q=>t σ H λvs H1=>r vs H1 Q
theorem ya(q:j6 X (.builtin id) r)(o:Gl X x)(n:X.mg x=none)(l:S3 x=some (.builtin id))(u:PA X (e::es) t)(m:x≠"__name__":=by decide)(c:(x==("__debug__":Str))=false:=by decide)
  (he:TQ (e::es) X.env=(false,Tj e X.env)::TQ es X.env:=by rfl) (b:(backTo aE (TQ es X.env)).any (·.1)=false:=by rfl):PE X (.Call (.Name x p) (e::es) [] aE) (rA r t):=by intro a s d H Q I h;exact T1 (Zs I o n l (PyProof.Rows.callWith_builtin1 (aH (u aE a s d H _ I h) λg i ⟨f,w,v,j,k⟩=>q a i d w f g Q v j k) he b) m c)
theorem xw(q:j6 X (.type T) r)(o:Gl X x)(n:X.mg x=none)(l:S3 x=some (.type T))(u:PA X (e::es) t)(m:x≠"__name__":=by decide)(c:(x==("__debug__":Str))=false:=by decide)
  (he:TQ (e::es) X.env=(false,Tj e X.env)::TQ es X.env:=by rfl) (b:(backTo aE (TQ es X.env)).any (·.1)=false:=by rfl):PE X (.Call (.Name x p) (e::es) [] aE) (rA r t):=by intro a s d H Q I h;exact T1 (Zs I o n l (R7 (aH (u aE a s d H _ I h) λg i ⟨f,w,v,j,k⟩=>q a i d w f g Q v j k) he b) m c)
end
section
variable{κ:Type}[DecidableEq κ]
noncomputable def yv(kvs:List (κ×V))(k:κ):Option V:=(kvs.find? λB=>decide (B.1=k)).map (·.2)
noncomputable def vw(kvs:List (κ×V))(k:κ)(v:V):List (κ×V):=if(kvs.any λB=>decide (B.1=k))=true then kvs.map (λB=>if B.1=k then(B.1,v)else B)else kvs++[(k,v)]
noncomputable def kj(kvs:List (κ×V))(k:κ):List (κ×V):=kvs.filter λB=>decide (B.1≠k)
theorem wd{p:κ×V}{r:O (κ×V)}{k:κ}(e:p.1=k):yv (p::r) k=some p.2:=by simp[yv,P6,e]
theorem wf{p:κ×V}{r:O (κ×V)}{k:κ}(e:¬p.1=k):yv (p::r) k=yv r k:=by simp[yv,P6,e]
theorem Z4(k:κ):∀kvs:List (κ×V),(kvs.any λa=>decide (a.1=k))=(yv kvs k).isSome|[]=>rfl| p::r=>by rw[PH];by_cases e:p.1=k;simp only[wd e,cf e,Bool.true_or,Option.isSome_some];rw[wf e,fb e,Bool.false_or];exact Z4 k r
theorem CF(k j:κ)(y:V):∀kvs:List (κ×V),yv (kvs.map λa=>if a.1=k then(a.1,y)else a) j=(yv kvs j).map λx=>if j=k then y else x|[]=>rfl| p::r=>by have b:=CF k j y r;rw[d8];by_cases h:p.1=k;rw[kP h];by_cases e:p.1=j;rw[wd (p:=(p.1,y)) e,wd e,RS,kP (e.symm.trans h)];rw[wf (p:=(p.1,y)) e,wf e,b];rw[kr h];by_cases e:p.1=j;rw[wd e,wd e,RS,kr (λz=>h (e.trans z))];rw[wf e,wf e,b]
theorem Df(k j:κ)(y:V):∀kvs:List (κ×V),yv kvs k=none->yv (kvs++[(k,y)]) j=if j=k then some y else yv kvs j
 | [],_=>by by_cases e:k=j;rw[kP e.symm];exact wd e;rw[kr (λz=>e z.symm)];exact wf e
 | p::r,a=>by
   rw[PL];have hk:¬p.1=k:=λz=>by rw[wd z]at a;grind
   rw[wf hk]at a;by_cases e:p.1=j;rw[wd e,wd e,kr (λz=>hk (e.trans z))];rw[wf e,wf e,(Df k j y r a)]
theorem ju(kvs:O (κ×V))(k j:κ)(y:V):yv (vw kvs k y) j=if j=k then some y else yv kvs j:=by
 unfold vw;by_cases a:(kvs.any λb=>decide (b.1=k))=true;rw[kP a,CF];rw[Z4]at a;by_cases e:j=k;obtain⟨x,c⟩:=Option.isSome_iff_exists.mp a;rw[kP e,e,c,RS,kP J]
 simp_all
 rw[kr a];refine Df k j y kvs ?_;rw[Z4]at a
 simp_all
theorem xa(kvs:O (κ×V))(k:κ)(v:V):(vw kvs k v).length<=kvs.length+1:=by unfold vw;split;rw[ag];omega;rw[cq,fg,QO];omega
theorem Xg{kvs:O (κ×V)}{k:κ}(v:V)(h:yv kvs k=none):vw kvs k v=kvs++[(k,v)]:=by unfold vw;rw[Z4,h];rfl
theorem Yl.isSome_eq{o:Option V}{u:Option Sr}(r:Yl o u):o.isSome=u.isSome:=by
 cases o with
 | none=>cases u with
   |none=>rfl
   |some _=>exact(r).elim
 | some _=>cases u with
   |none=>exact(r).elim
   |some _=>rfl
theorem Yl.getD{o:Option V}{u:Option Sr}{d:V}{d':Sr}(r:Yl o u)(a:yf d d'):yf (o.getD d) (u.getD d'):=by
 cases o with
 | none=>cases u with
   |none=>grind
   |some _=>exact(r).elim
 | some _=>cases u with
   |none=>exact(r).elim
   |some _=>exact r
theorem KV.val{kvs:List (κ×V)}{vs:List (κ×Sr)}(r:KV kvs vs)(k:κ):Yl (yv kvs k) (valueAt vs k):=by
 induction r with|nil=>exact Sq| @cons p q g a h t i=>
   obtain⟨d,f⟩:=h;by_cases e:p.1=k;have c:=d.symm.trans e;have b:valueAt (q::a) k=some q.2:=by simp[valueAt,P6,c]
   rw[wd e,b];exact f;have c:¬q.1=k:=λz=>e (d.trans z);have b:valueAt (q::a) k=valueAt a k:=by simp[valueAt,P6,c]
   rw[wf e,b];omega
theorem KV.any{kvs:List (κ×V)}{vs:List (κ×Sr)}(r:KV kvs vs)(k:κ):(kvs.any λa=>decide (a.1=k))=vs.any λa=>decide (a.1=k):=by induction r with|nil=>rfl|cons h t b=>rw[PH,PH,b,h.1]
theorem KV.repl{kvs:List (κ×V)}{vs:List (κ×Sr)}(r:KV kvs vs)(k:κ)(c:yf y u):KV (kvs.map λa=>if a.1=k then(a.1,y)else a) (vs.map λa=>if a.1=k then(a.1,u)else a):=by unfold KV at r⊢;induction r with|nil=>exact .nil| @cons p q i g h t d=>rw[d8,d8];refine .cons ?_ d;obtain⟨b,f⟩:=h;by_cases e:p.1=k;rw[kP e,kP (b.symm.trans e)];exact⟨b,c⟩;rw[kr e,kr (λz=>e (b.trans z))];exact⟨b,f⟩
theorem KV.put{kvs:O (κ×V)}{vs:O (κ×I)}(r:KV kvs vs)(k:κ)(a:yf y u):KV (vw kvs k y) (stored vs k u):=by unfold vw stored;rw[r.any k];by_cases e:(vs.any λb=>decide (b.1=k))=true;rw[kP e,kP e];exact r.repl k a;rw[kr e,kr e];exact Paired.snoc r ⟨J,a⟩
theorem KV.drop{kvs:List (κ×V)}{vs:List (κ×Sr)}(r:KV kvs vs)(k:κ):KV (kj kvs k) (without vs k):=by
 unfold kj without;induction r with|nil=>exact .nil| @cons p q f d h t a=>
   obtain⟨c,b⟩:=h;rw[P1,P1];by_cases e:p.1=k
   simp_all
   rw[kP (by grind),kP (by grind)];exact .cons ⟨c,b⟩ a
theorem KV.length{kvs:O (κ×V)}{vs:O (κ×I)}(r:KV kvs vs):kvs.length=vs.length:=Paired.length r
theorem Co(kvs:O (κ×V))(k:κ):(kj kvs k).length<=kvs.length:=i0 _ _
end
theorem Y8{k:aJ}(r:yf (kV k) u):(zt P w).is k u=true:=by cases k with|inl i=>obtain⟨t,e⟩:=(r);subst e;exact Nn P w i t|inr x=>obtain⟨t,e⟩:=(r);subst e;exact No P w x t
theorem CY{P:R0}{w:SX}:∀{ks:List aJ}{a:List Sr},yi (ks.map kV) a->ItemsAre (zt P w) ks a|[],_,r=>by rw[QU]at r;cases r;exact .nil| k::ks,_,r=>by rw[d8]at r;cases r with|cons h t=>exact .cons (Y8 h) (CY t)
abbrev KT(H:Hp):List (List aJ×V)->List (List aJ×lv×Sr)->Prop:=Paired λp q=>p.1=q.1/\H q.2.1=some (.tup (p.1.map kV))/\yf p.2 q.2.2
theorem KT.val{kvs:List (List aJ×V)}{xs:List (List aJ×lv×Sr)}(r:KT H kvs xs)(k:List aJ):Yl (yv kvs k) ((atKey xs k).map (·.2)):=by
 induction r with|nil=>exact Sq| @cons p q g a h t i=>
   obtain⟨d,_,f⟩:=h;by_cases e:p.1=k;have c:=d.symm.trans e;have b:atKey (q::a) k=some q.2:=by simp[atKey,P6,c]
   rw[wd e,b];exact f;have c:¬q.1=k:=λz=>e (d.trans z);have b:atKey (q::a) k=atKey a k:=by simp[atKey,P6,c]
   rw[wf e,b];omega
theorem KT.repl{kvs:List (List aJ×V)}{xs:List (List aJ×lv×Sr)}(r:KT H kvs xs)(k:List aJ)(d:yf y u):KT H (kvs.map λb=>if b.1=k then(b.1,y)else b) (xs.map (putAt k u)):=by induction r with|nil=>exact .nil| @cons p q j i h t f=>rw[d8,d8];refine .cons ?_ f;obtain⟨a,c,g⟩:=h;unfold putAt;by_cases e:p.1=k;rw[kP e,kP (a.symm.trans e)];exact⟨a,c,d⟩;rw[kr e,kr (λz=>e (a.trans z))];exact⟨a,c,g⟩
theorem KT.put{kvs:O (O aJ×V)}{xs:O (O aJ×Y×I)}(r:KT H kvs xs)(k:O aJ)(d:H b=some (.tup (k.map kV)))(a:yf y u):KT H (vw kvs k y) (storedH xs k b u):=by
 have e:(kvs.any λc=>decide (c.1=k))=(atKey xs k).isSome:=by rw[Z4,(r.val k).isSome_eq,RQ]
 unfold vw storedH;rw[e];by_cases q:(atKey xs k).isSome=true;rw[kP q,kP q];exact r.repl k a;rw[kr q,kr q];exact Paired.snoc r ⟨J,d,a⟩
theorem KT.keeps{kvs:O (O aJ×V)}{xs:O (O aJ×Y×I)}(r:KT H kvs xs)(a:∀b ys,H b=some (.tup ys)->H' b=some (.tup ys)):KT H' kvs xs:=fu r λ_ _ z=>⟨z.1,a _ _ z.2.1,z.2.2⟩
section
theorem zU{u:HO}(b:bR P w H h)(e:Rd H a u):qv P w H h a u:=e.ok b
theorem Vu(b:bR P w H h)(e:Rd H a (.dK kvs)):kvs.length<=TL/\(a==TV)=false/\∃vs,KV kvs vs/\h.DictOf (zt P w) a vs:=(zU b e)
theorem sL(b:bR P w H h)(e:H a=some (.dK kvs)):kvs.length<=TL/\(a==TV)=false/\∃vs,KV kvs vs/\h.DictOf (zt P w) a vs:=Vu b (.inl e)
theorem Xm(c:bR P w H h)(e:H a=some (.tup (ks.map kV))):(tupleKind (zt P w)).is h ks a:=by
 obtain⟨_,b,r,⟨o,g,f,n,d⟩,_⟩:=(c a _ e)
 exact⟨o,b.toArray,n,g,f,d,by simpa using CY r⟩
theorem Q8{kvs:O (O aJ×V)}(d:bR P w H h)(e:Rd H a (.dT kvs)):kvs.length<=TL/\(a==TV)=false/\
  ∃xs,KT H kvs xs/\h.DictOfH (tupleKind (zt P w)) a xs:=by
 obtain⟨z,y,xs,r,o,u,v,s,n,k,j,i⟩:=(show qv P w H h a (.dT kvs)from zU d e)
 refine⟨z,y,xs,r,o,u,v,s,n,k,j,λx b=>?_,i⟩;have c:∀{l:O (O aJ×V)}{m:O (O aJ×Y×I)},KT H l m->∀x∈m,(tupleKind (zt P w)).is h x.1 x.2.1:=by intro l m q;induction q with|nil=>intro x b;exact nomatch b| @cons p q B A f t g=>intro x b;rcases bc.mp b with e|b;subst e;exact Xm d (by rw[<-f.1];exact f.2.1);exact g x b
 exact c r x b
theorem uE{kvs:O (O aJ×V)}(b:bR P w H h)(e:H a=some (.dT kvs)):kvs.length<=TL/\(a==TV)=false/\
 ∃xs,KT H kvs xs/\h.DictOfH (tupleKind (zt P w)) a xs:=Q8 b (.inl e)
end
def DGet(H:Hp)(a:lv)(y:V)(r:Option V):Prop:=(∃kvs k,Rd H a (.dK kvs)/\y=kV k/\r=yv kvs k)\/∃kvs k b,Rd H a (.dT kvs)/\y=.ref b/\H b=some (.tup (k.map kV))/\r=yv kvs k
def Jg(H:Hp)(a:lv)(y v:V)(B:Hp):Prop:=
 (∃kvs k,H a=some (.dK kvs)/\y=kV k/\kvs.length<TL/\B=ji H a (.dK (vw kvs k v)))\/
 ∃kvs k b,H a=some (.dT kvs)/\y=.ref b/\H b=some (.tup (k.map kV))/\kvs.length<TL/\B=ji H a (.dT (vw kvs k v))
theorem DGet.k{H:Hp}{a:Y}{kvs:O (aJ×V)}{k:aJ}(e:H a=some (.dK kvs)):DGet H a (kV k) (yv kvs k):=.inl ⟨kvs,k,.inl e,J,J⟩
theorem DGet.t{kvs:O (O aJ×V)}{k:O aJ}(e:H a=some (.dT kvs))(c:H b=some (.tup (k.map kV))):DGet H a (.ref b) (yv kvs k):=.inr ⟨kvs,k,b,.inl e,J,c,J⟩
theorem Jg.k{H:Hp}{a:Y}{kvs:O (aJ×V)}{k:aJ}{v:V}(e:H a=some (.dK kvs))(hl:kvs.length<TL):Jg H a (kV k) v (ji H a (.dK (vw kvs k v))):=.inl ⟨kvs,k,e,J,hl,J⟩
theorem Jg.t{kvs:O (O aJ×V)}{k:O aJ}(e:H a=some (.dT kvs))(c:H b=some (.tup (k.map kV)))(hl:kvs.length<TL):Jg H a (.ref b) v (ji H a (.dT (vw kvs k v))):=.inr ⟨kvs,k,b,e,J,c,hl,J⟩
section
variable{o:Option V}
theorem Inv.big(I:Inv X pins σ H s):TV<s.heap.objs.size:=(RE (by decide) ((I.mod.glob.keeps I.bk).lt))
theorem Lo(r:A.units+1<cLine)(I:Inv X pins σ H s)(g:DGet H a y (some v))(q:yf y u)(h:∀f s',Inv X pins σ H s'->yf v f->Q f s'):TX (Tx X.prog X.w) A (getItem (.ref a) u) Q E s:=by rcases g with⟨i,k,e,n,l⟩|⟨i,k,b,e,n,x,l⟩;subst n;obtain⟨z,w,C,d,o⟩:=Vu I.hok e;obtain⟨f,j,c⟩:=fy (l▸d.val k);exact wpAny_getItem_of (Y8 q) o.mapOf j (h f _ (I.tok _) c);subst n;cases(q);obtain⟨z,w,B,d,o⟩:=Q8 I.hok e;obtain⟨f,j,c⟩:=fy (l▸d.val k);obtain⟨p,t,m⟩:=df.mp j;refine Ul (TW r) (Xm I.hok x) o t ?_;rw[m];exact h f _ (I.tok _) c
theorem EB(n:A.units+1<cLine)(I:Inv X pins σ H s)(g:DGet H a y o)(m:yf y u)(h:∀s',Inv X pins σ H s'->Q (.bool o.isSome) s'):TX (Tx X.prog X.w) A (compareOp .In u (.ref a)) Q E s:=by rcases g with⟨d,k,e,i,l⟩|⟨d,k,b,e,i,p,l⟩;subst i;obtain⟨z,f,t,c,j⟩:=Vu I.hok e;refine wpAny_in_of (Y8 m) f j.mapOf ?_;rw[<-(c.val k).isSome_eq,<-l];exact h _ (I.tok _);subst i;cases(m);obtain⟨z,f,r,c,j⟩:=Q8 I.hok e;refine wpAny_in_heap (TW n) (Xm I.hok p) f j ?_;have q:=(c.val k).isSome_eq;rw[RQ]at q;rw[<-q,<-l];exact h _ (I.tok _)
theorem Ze{c:HO}(I:Inv X pins σ H s)(f:rT (H a))(g:Pc a s.heap h')(he:∃q,h'.get? a=some q)(d:qv X.prog X.w (ji H a c) h' a c):Inv X pins σ (ji H a c) {s with heap:=h',toks:=t'}:=
 I.write f (.inl J) (λb q i z=>(g.2 b i).trans z) he d
theorem rc{vs:O (aJ×I)}(z:kvs.length<=TL)(c:(a==TV)=false)(b:KV kvs vs)(d:h'.DictOf (zt P w) a vs):qv P w H' h' a (.dK kvs):=⟨z,c,vs,b,d⟩
theorem Lp{Q:Unit->Sh->Prop}(C:A.units+1<cLine)(I:Inv X pins σ H s)(g:Jg H a y v H')(t:yf y u)(w:yf v r)(h:∀s',Inv X pins σ H' s'->Q () s'):TX (Tx X.prog X.w) A (setItem (.ref a) u r) Q E s:=by rcases g with⟨i,k,e,o,l,eH⟩|⟨i,k,b,e,o,x,l,eH⟩;subst o eH;obtain⟨z,n,W,d,p⟩:=sL I.hok e;have B:=d.length▸z;exact wpAny_setItem_pairs (Y8 t) p λM f m=>h _ (Ze I (e▸Sq) m (let⟨q,_,_,j,_⟩:=f;⟨q,j⟩) (rc (by have:=xa i k v;omega) n (d.put k w) f));subst o eH;cases(t);obtain⟨z,n,U,d,p⟩:=uE I.hok e;have B:=Paired.length d▸z;refine UU (TW C) (Xm I.hok x) p λM f m=>h _ ?_;obtain⟨q,N,P,j,L,G,F,_,D⟩:=f;refine Ze I (e▸Sq) m ⟨q,j⟩ ⟨(by have:=xa i k v;omega),n,_,(d.put k x w).keeps λc S R=>?_,q,N,P,j,L,G,F,D⟩;rw[ja (Xl R e (λz=>nomatch z))];omega
end
section
variable{k:aJ}
theorem E3{b:O Sr}(I:Inv X pins σ H s)(e:H a=some (.dK kvs))(g:yf (kV k) u)(l:yv kvs k=some v)(m:b=[]\/∃x,b=[x])(h:∀d s',Inv X pins σ (ji H a (.dK (kj kvs k))) s'->yf v d->Q d s'):TX (Tx X.prog X.w) A (call (.builtin "dict.pop") (.ref a::u::b)) Q E s:=by
 obtain⟨z,B,o,c,n⟩:=sL I.hok e;obtain⟨d,p,j⟩:=fy (l▸c.val k);have y:(keyPart u).isSome=true:=by cases k with|inl i=>obtain⟨t,q⟩:=(g);subst q;rfl|inr x=>obtain⟨t,q⟩:=(g);subst q;rfl
 have C:argsOk "dict.pop" ⟨.ref a::u::b,[]⟩:=by rcases m with q|⟨x,q⟩;subst q;rfl;subst q;rfl
 exact Tc PySem.F.slot_dict_pop n.typeIs PySem.F.entry_dict_pop C (meets_dict_pop_there (zt X.prog X.w) a (Y8 g) b m y)
  ⟨o,d,n,(c.length▸z),p,λD f r=>h d _ (Ze I (e▸Sq) r (let⟨q,_,_,w,_⟩:=f;⟨q,w⟩) (rc (dq (Co kvs k) z) B (c.drop k) f)) j⟩
end
def uq(i:OP):Prop:=∀ov B,subscripted i false ov B=operate [ov,B] (getItem ov B)
theorem BR{a:OP}{T:String}(hl:typeLookup (.type T) "__getitem__"=pure (some (.builtin id))) (l:uq a)
  (h:TX (Tx prog w) A (Tj aU env) (λo d=>TX (Tx prog w) A (Tj a env) (λi s₂=>s₂.TypeIs o T/\TX (Tx prog w) A (getItem o i) Q E s₂) E d) E s):
  TX (Tx prog w) A (Tj (.Subscript aU a aE) env) Q E s:=by refine Subscript_ (fq h (λo d j=>fq j (λi s₂ b=>?_) λ_ _ x=>x) λ_ _ x=>x);obtain⟨k,b⟩:=b;refine a9 ?_;rw[getitemInPython_of_ne k.not_modules];refine a9 (UV k hl ?_);have f:TX (Tx prog w) A (subscripted a false o i) (λr c=>TX (Tx prog w) A (letTemporaryGo aU o r>>=λ_=>pure r) Q E c) E s₂:=l o i▸wpAny_operating (fq b (λr c g=>a9 (wpAny_letTemporaryGo (aa g))) λ_ _ x=>x);first|exact aa (a9 f)|exact a9 (aa (a9 f))|exact a9 f
theorem Nx{o:Option V}(I:Inv X pins σ H s)(g:DGet H a y o):s.TypeIs (.ref a) "dict":=by rcases g with⟨c,k,e,_,_⟩|⟨c,k,b,e,_,_,_⟩;obtain⟨_,_,i,_,d⟩:=Vu I.hok e;exact d.typeIs;obtain⟨_,_,f,_,d⟩:=Q8 I.hok e;exact d.typeIs
inductive jJ(Q:VK)(x y:V)(H2:Hp):Prop|mk:∀a v,x=.ref a->DGet H2 a y (some v)->Q v H2->jJ Q x y H2
def zH(td B:TE):TE:=λσ H Q=>td σ H λx H1=>B σ H1 λy H2=>jJ Q x y H2
inductive mL(Q:VK)(y x:V)(H2:Hp):Prop|mk:∀a o,x=.ref a->DGet H2 a y o->Q (.bl o.isSome) H2->mL Q y x H2
def Ej(B td:TE):TE:=λσ H Q=>B σ H λy H1=>td σ H1 λx H2=>mL Q y x H2
inductive jT(D:wo)(σ:St)(v x y:V)(H3:Hp):Prop|mk:∀a H4,x=.ref a->Jg H3 a y v H4->D.nx σ H4->jT D σ v x y H3
def ET(td B F:TE):TS:=λD σ H=>F σ H λv H1=>td σ H1 λx H2=>B σ H2 λy U=>jT D σ v x y U
section
variable{o i:OP}{cF cM:Pos}{td ty:TE}
theorem qc(p:X.A.units+1<cLine)(r:PE X o td)(t:PE X i ty)(q:uq i:=by exact λ_ _=>rfl):PE X (.Subscript o i aE) (zH td ty):=by intro b s d H Q I h;refine BR PySem.F.slot_dict_getitem.lookup q (aH (r b s d H _ I h) λu j ⟨x,C,A,l,n⟩=>aH (t b j d C _ A n) λG F ⟨y,B,f,k,a,v,w,g,m⟩=>?_);subst w;obtain rfl:u=Sw a:=l;exact⟨Nx f g,Lo p f g k λD E z c=>⟨v,B,z,c,m⟩⟩
theorem AJ(n:X.A.units+1<cLine)(q:PE X i ty)(p:PE X o td):PC X .In i o (Ej ty td):=by intro b s c H Q I h;refine aH (q b s c H _ I h) λD d ⟨y,A,w,f,l⟩=>aH (p b d c A _ w l) λu C ⟨x,z,v,j,a,m,r,g,k⟩=>?_;subst r;obtain rfl:u=Sw a:=j;exact EB n v g f λB t=>⟨.bl m.isSome,z,t,J,k⟩
theorem Xy(t:X.A.units+1<cLine)(z:PE X o td)(A:PE X i ty)(q:PE X aU tv)(w:swapsWith aU (some (.Subscript o i cF)) aE.line X.env=pure false):PS X (.Assign [.Subscript o i cF] aU aE) (ET td ty tv):=by intro b s c H D I h;refine TY (aH (q b s c H _ I h) λr f ⟨v,N,G,l,p⟩=>aH (z b f c N _ G p) λu d ⟨x,M,F,k,n⟩=>aH (A b d c M _ F n) λR Q ⟨y,S,E,j,a,L,B,g,m⟩=>?_) w;subst B;obtain rfl:u=Sw a:=k;exact Lp t E g j l λP C=>⟨c,L,C,m⟩
end
theorem xE(h:O7)(a:TV<h.objs.size):qv P w H (h.push {cls:=.type "dict",data:=.dict #[]}) h.objs.size (.dK []):=⟨c9 _,beq_eq_false_iff_ne.mpr (ae (br a)),[],.nil,Heap.DictOf.new h⟩
theorem Cp(h:O7)(a:TV<h.objs.size):qv P w H (h.push {cls:=.type "dict",data:=.dict #[]}) h.objs.size (.dT []):=⟨c9 _,beq_eq_false_iff_ne.mpr (ae (br a)),[],.nil,_,#[],0,cb _ J,⟨J,J,J⟩,J,J,Rc⟩
def Gm:TE:=λ_ H Q=>∀p,H p=none->Q (.ref p) (ji H p (.dK []))
def Go:TE:=λ_ H Q=>∀p,H p=none->Q (.ref p) (ji H p (.dT []))
section
theorem Kv:PE X (.Dict [] [] aE) Gm:=λa s b H Q I h=>T8 ⟨.ref s.heap.objs.size,_,I.laid (λ_ _ q=>be _ q) (au _) (xE s.heap I.big),J,h _ (I.hok.fresh (au _))⟩
theorem Ku:PE X (.Dict [] [] aE) Go:=λa s b H Q I h=>T8 ⟨.ref s.heap.objs.size,_,I.laid (λ_ _ q=>be _ q) (au _) (Cp s.heap I.big),J,h _ (I.hok.fresh (au _))⟩
end
def vG:List (TE×TE)->St->Hp->(List (V×V)->Hp->Prop)->Prop|[],_,H,Q=>Q [] H|(tk,tv)::r,σ,H,Q=>tk σ H λx H1=>tv σ H1 λy H2=>vG r σ H2 λps B=>Q ((x,y)::ps) B
abbrev VV:List (V×V)->List (Sr×Sr)->Prop:=Paired λp q=>yf p.1 q.1/\yf p.2 q.2
def tZ(X:Cx)(Z:Pos)(F:List (Option OP))(B:List OP)(U:List (TE×TE)):Prop:=
 ∀ (pins:List (lv×Obj)) (s:Sh) (σ:St) (H:Hp) (Q:List (V×V)->Hp->Prop),Inv X pins σ H s->vG U σ H Q->
   TX (Tx X.prog X.w) X.A (evalPairs (pairTrees F B X.env Z)) (λvs s'=>∃ps H',Inv X pins σ H' s'/\VV ps vs/\Q ps H') X.xe s
theorem BA:tZ X aE [] [] []:=λa s b H Q I h=>pairTrees_nil_walk ⟨[],H,I,.nil,h⟩
theorem Xh{k v:OP}{ks:O (Option OP)}{vs:O OP}{f:TE}{b:O (TE×TE)}(hk:PE X k f)(q:PE X v tv)(r:tZ X aE ks vs b):tZ X aE (some k::ks) (v::vs) ((f,tv)::b):=λa s c H Q I h=>pairTrees_cons_walk (aH (hk a s c H _ I h) λu i ⟨x,C,z,l,o⟩=>aH (q a i c C _ z o) λE g ⟨y,B,w,j,n⟩=>aH (r a g c B _ w n) λD F ⟨p,A,t,d,m⟩=>⟨(x,y)::p,A,t,.cons ⟨l,j⟩ d,m⟩)
def Zr(kvs B:List (aJ×V)):List (aJ×V):=B.foldl (λF U=>vw F U.1 U.2) kvs
theorem KV.merge:∀{a:List (aJ×V)}{b:List (aJ×Sr)}{kvs:List (aJ×V)}{vs:List (aJ×Sr)},KV a b->KV kvs vs->KV (Zr kvs a) (merged vs b):=by
 intro a b kvs vs r;induction r generalizing kvs vs with|nil=>intro q;exact q| @cons p q g f h t d=>
   intro c;have e:KV (vw kvs p.1 p.2) (stored vs q.1 q.2):=by
    have:=c.put p.1 h.2
    simp_all
   exact d e
theorem Yi:∀(a kvs:List (aJ×V)),(Zr kvs a).length<=kvs.length+a.length
 |[],kvs=>by show kvs.length<=kvs.length+0;omega
 | p::r,kvs=>by
   have c:=Yi r (vw kvs p.1 p.2);have b:=xa kvs p.1 p.2;show(Zr (vw kvs p.1 p.2) r).length<=_
   grind
theorem Ds{P:R0}{w:SX}:∀{kvs:List (aJ×V)}{f:List (Sr×Sr)},VV (kvs.map λg=>(kV g.1,g.2)) f->∃d,Carries (zt P w) f d/\KV kvs d|[],_,r=>by rw[QU]at r;cases r;exact⟨[],Sq,.nil⟩| p ::kvs,_,r=>by rw[d8]at r;cases r with| @cons a b as j h t=>obtain⟨d,c,q⟩:=Ds t;obtain⟨k,i⟩:=b;exact⟨(p.1,i)::d,⟨Y8 h.1,J,c⟩,.cons ⟨J,h.2⟩ q⟩
def Fv(B:List (TE×TE)):TE:=λσ H Q=>∀p,H p=none->vG B σ (ji H p (.dK [])) λps H2=>H2 p=some (.dK [])/\∃kvs:List (aJ×V),ps=kvs.map (λF=>(kV F.1,F.2))/\kvs.length<=15/\Q (.ref p) (ji H2 p (.dK (Zr [] kvs)))
theorem Bv{a:O (Option OP)}{b:O OP}{d:O (TE×TE)}(h:tZ X aE a b d)(i:a.all (·.isSome)=true)(hl:a.length=b.length)(B:a≠[])(l:a.length<=15):PE X (.Dict a b aE) (Fv d):=by
 intro f s n H Q I q;refine wpAny_Dict_walk (knd:=zt X.prog X.w) i hl B l (aH (h f _ n _ _ (I.laid (t':=s.toks) (λ_ _ q=>be _ q) (au _) (xE s.heap I.big)) (q _ (I.hok.fresh (au s.heap.objs.size)))) λE F ⟨G,N,m,k,e,g,C,L,u⟩=>?_);subst C;obtain⟨p,c,r⟩:=Ds k;obtain⟨z,y,o,t,D⟩:=sL m.hok e;cases t;refine⟨p,c,D,λM j w=>⟨.ref s.heap.objs.size,_,?_,J,u⟩⟩;have v:(Zr [] g).length<=TL:=by have A:=Yi g [];rw[QO]at A;rw[TM];omega
 exact Ze m (e▸Sq) w (let⟨q,_,_,x,_⟩:=j;⟨q,x⟩) (rc v y (r.merge .nil) j)
structure M1(X:Cx)(o:OP)(m:Str)(apos:Pos)(e:OP)(cpos:Pos):Prop where
 base:attributeBase o m X.env (Tj o X.env)=Tj o X.env
 few:((backTo cpos (TQ [e] X.env)).all (λx=> !x.1) && (backToKw cpos (keywordEach [] X.env)).all (λx=>x.1.isSome) && decide (([e]:List OP).length+([]:List PB).length+(if([]:List PB).isEmpty then 0 else 1)<30))=true
 line:(apos.endLine==cpos.line)=true
 trees:backTo cpos (TQ [e] X.env)=[(false,Tj e X.env)]
structure M2(X:Cx)(o:OP)(m:Str)(apos:Pos)(e f:OP)(cpos:Pos):Prop where
 base:attributeBase o m X.env (Tj o X.env)=Tj o X.env
 few:((backTo cpos (TQ [e,f] X.env)).all (λx=> !x.1) && (backToKw cpos (keywordEach [] X.env)).all (λx=>x.1.isSome) && decide (([e,f]:List OP).length+([]:List PB).length+(if([]:List PB).isEmpty then 0 else 1)<30))=true
 line:(apos.endLine==cpos.line)=true
 trees:backTo cpos (TQ [e,f] X.env)=[(false,Tj e X.env),(false,Tj f X.env)]
def qK(H:Hp)(a:lv):Prop:=(∃kvs,Rd H a (.dK kvs))\/∃kvs,Rd H a (.dT kvs)
theorem sT(I:Inv X pins σ H s)(d:qK H a):s.TypeIs (.ref a) "dict"/\(∀b,Sw a=.ref b->∃c,s.heap.get? b=some c/\c.dict=none)/\(a==TV)=false:=by rcases d with⟨g,e⟩|⟨g,e⟩;obtain⟨_,i,m,_,f⟩:=Vu I.hok e;refine⟨f.typeIs,λb q=>?_,i⟩;cases q;obtain⟨c,_,_,k,j,_⟩:=f;exact⟨c,k,j.2.1⟩;obtain⟨_,i,l,_,f⟩:=Q8 I.hok e;refine⟨f.typeIs,λb q=>?_,i⟩;cases q;obtain⟨c,_,_,k,j,_⟩:=f;exact⟨c,k,j.2.1⟩
section
variable{d:V}{o:Option V}
theorem Fp(q:A.units+1<cLine)(I:Inv X pins σ H s)(g:DGet H a y o)(n:yf y u)(h:∀m s',Inv X pins σ H s'->yf (o.getD .non) m->Q m s'):TX (Tx X.prog X.w) A (call (.builtin "dict.get") [.ref a,u]) Q E s:=by rcases g with⟨f,k,e,j,l⟩|⟨f,k,b,e,j,r,l⟩;subst j;obtain⟨z,i,t,c,d⟩:=Vu I.hok e;refine Tc PySem.F.slot_dict_get d.typeIs PySem.F.entry_dict_get (PySem.F.args_dict_get_2 _ _) (meets_dict_get (zt X.prog X.w) a (Y8 n) i) ⟨_,d.mapOf,h _ _ (I.tok _) ?_⟩;rw[l];exact(c.val k).getD J;subst j;cases(n);obtain⟨z,i,p,c,d⟩:=Q8 I.hok e;refine Tc PySem.F.slot_dict_get d.typeIs PySem.F.entry_dict_get (PySem.F.args_dict_get_2 _ _) (meetsH_dict_get (tupleKind (zt X.prog X.w)) a b i) ⟨TW q,k,p,Xm I.hok r,d,h _ _ (I.tok _) ?_⟩;rw[l];exact(c.val k).getD J
theorem FX(v:A.units+1<cLine)(I:Inv X pins σ H s)(g:DGet H a y o)(p:yf y u)(q:yf d r)(h:∀n s',Inv X pins σ H s'->yf (o.getD d) n->Q n s'):TX (Tx X.prog X.w) A (call (.builtin "dict.get") [.ref a,u,r]) Q E s:=by rcases g with⟨i,k,e,m,l⟩|⟨i,k,b,e,m,w,l⟩;subst m;obtain⟨z,j,x,c,f⟩:=Vu I.hok e;refine Tc PySem.F.slot_dict_get f.typeIs PySem.F.entry_dict_get (PySem.F.args_dict_get_3 _ _ _) (meets_dict_get_default (zt X.prog X.w) a (Y8 p) j r) ⟨_,f.mapOf,h _ _ (I.tok _) ?_⟩;rw[l];exact(c.val k).getD q;subst m;cases(p);obtain⟨z,j,t,c,f⟩:=Q8 I.hok e;refine Tc PySem.F.slot_dict_get f.typeIs PySem.F.entry_dict_get (PySem.F.args_dict_get_3 _ _ _) (Tw (tupleKind (zt X.prog X.w)) a b j r) ⟨TW v,k,t,Xm I.hok w,f,h _ _ (I.tok _) ?_⟩;rw[l];exact(c.val k).getD q
end
inductive gA(Q:VK)(a:lv)(y:V)(H2:Hp):Prop|mk:∀o,DGet H2 a y o->Q (o.getD .non) H2->gA Q a y H2
inductive eR(ty:TE)(σ:St)(Q:VK)(x:V)(H1:Hp):Prop|mk:∀a,x=.ref a->qK H1 a->(ty σ H1 λy H2=>gA Q a y H2)->eR ty σ Q x H1
def AZ(td B:TE):TE:=λσ H Q=>td σ H λx H1=>eR B σ Q x H1
inductive fZ(Q:VK)(a:lv)(y z:V)(H3:Hp):Prop|mk:∀o,DGet H3 a y o->Q (o.getD z) H3->fZ Q a y z H3
inductive eQ(ty tx:TE)(σ:St)(Q:VK)(x:V)(H1:Hp):Prop|mk:∀a,x=.ref a->qK H1 a->(ty σ H1 λy H2=>tx σ H2 λz H3=>fZ Q a y z H3)->eQ ty tx σ Q x H1
def Gj(td B F:TE):TE:=λσ H Q=>td σ H λx H1=>eQ B F σ Q x H1
inductive fY(Q:VK)(a:lv)(y:V)(H2:Hp):Prop|mk:∀kvs k v,H2 a=some (.dK kvs)->y=kV k->yv kvs k=some v->Q v (ji H2 a (.dK (kj kvs k)))->fY Q a y H2
inductive eP(ty:TE)(σ:St)(Q:VK)(x:V)(H1:Hp):Prop|mk:∀a,x=.ref a->qK H1 a->(ty σ H1 λy H2=>fY Q a y H2)->eP ty σ Q x H1
def Gq(td B:TE):TE:=λσ H Q=>td σ H λx H1=>eP B σ Q x H1
section
variable{o f:OP}{cpos:Pos}{td ty tx:TE}
theorem Kx(t:X.A.units+1<cLine)(v:PE X o td)(he:PE X e ty)(m:M1 X o "get" apos e cpos):PE X (.Call (.Attribute o "get" apos) [e] [] cpos) (AZ td ty):=by intro b s f H Q I h;refine T2 m.base m.few m.line PySem.F.plainAttrs_dict PySem.F.slot_dict_get PySem.F.type_dict_get (aH (v b s f H _ I h) λu l ⟨x,C,i,p,a,w,d,r⟩=>?_);subst w;obtain rfl:u=Sw a:=p;obtain⟨k,j,_⟩:=sT i d;refine⟨k,j,?_⟩;rw[m.trees];exact I8 J (J3 (J4 (aH (he b l f C _ i r) λL F ⟨y,B,A,n,G,g,q⟩=>J5 (Fp t A g n λD E z c=>⟨_,B,z,c,q⟩))))
theorem Kw(B:X.A.units+1<cLine)(C:PE X o td)(he:PE X e ty)(D:PE X f tx)(m:M2 X o "get" apos e f cpos):PE X (.Call (.Attribute o "get" apos) [e,f] [] cpos) (Gj td ty tx):=by intro b s c H Q I h;refine T2 m.base m.few m.line PySem.F.plainAttrs_dict PySem.F.slot_dict_get PySem.F.type_dict_get (aH (C b s c H _ I h) λu p ⟨x,P,j,t,a,E,d,A⟩=>?_);subst E;obtain rfl:u=Sw a:=t;obtain⟨l,k,_⟩:=sT j d;refine⟨l,k,?_⟩;rw[m.trees];exact I8 J (J3 (J4 (aH (he b p c P _ j A) λZ n ⟨y,N,L,r,w⟩=>J4 (aH (D b n c N _ L w) λfv U ⟨z,M,G,q,W,g,v⟩=>J5 (FX B G g r q λR S F i=>⟨_,M,F,i,v⟩)))))
theorem CN(z:PE X o td)(he:PE X e ty)(m:M1 X o "pop" apos e cpos):PE X (.Call (.Attribute o "pop" apos) [e] [] cpos) (Gq td ty):=by intro b s f H Q I h;refine T2 m.base m.few m.line PySem.F.plainAttrs_dict PySem.F.slot_dict_pop PySem.F.type_dict_pop (aH (z b s f H _ I h) λu n ⟨x,F,g,q,a,B,d,t⟩=>?_);subst B;obtain rfl:u=Sw a:=q;obtain⟨j,i,_⟩:=sT g d;refine⟨j,i,?_⟩;rw[m.trees];refine I8 J (J3 (J4 (aH (he b n f F _ g t) λN M ⟨y,P,E,p,w,k,v,C,A,l,r⟩=>J5 ?_)));subst A;exact E3 E C p l (.inl J) λG L D c=>⟨v,_,D,c,r⟩
end
section
end
section
end
end L2
namespace HT
open PySem PyProof.Rows
variable{sl:lv}{A:mf}{aD:Array Sr}{s:Sh}{vl vu:Sr}{E Q:Sr->Sh->Prop}
theorem eV(A:mf)(s:Sh)(a:Int)(t:Tok)(c:Int)(u:Tok)(prog:R0)(w:SX)(E:I->Sh->Prop)(Q:I->Sh->Prop)(h:Q (.bool (decide (a<c))) s):TX (Tx prog w) A (richCompare .Lt (.int a t) (.int c u)) Q E s:=
 (R8 h)
section
open PySem.SeqAt
open PySem.AutoSeq1 (wpAny_loadPart')
open PySem.MeetsSeq PySem.MeetsSeq2 PySem.MeetsSeq3
end
section
variable{prog:R0}{w:SX}
theorem tW{t b:Y}{vs c:O I}(r:Px s.heap t vs.toArray)(x:Px s.heap b c.toArray)(B:vs≠[])(y:c=[]->Q (.ref t) s) (C:c≠[]->Q (.ref s.heap.objs.size) {s with heap:=s.heap.push {cls:=.type "tuple",data:=.seq (vs++c).toArray}})
  (hsz:vs.length+c.length<=TL):TX (Tx prog w) A (S0 .Add (.ref t) (.ref b)) Q E s:=by
 obtain⟨⟨z,m,o,k⟩,g,v,n,u⟩:=id r;obtain⟨⟨p,f,data2,d⟩,a,j,l,i⟩:=id x;subst v u j i;by_cases q:c=[];exact Th ⟨_,g,J⟩ ⟨_,a,J⟩ Tz TK PySem.F.slot_tuple_add PySem.F.entry_tuple_add (PySem.F.args_tuple_add_2 _ _)
  (tuple_addW1 t b vs.toArray c.toArray n l m f k d (by simp_all) (by grind)) ⟨g,a,y q⟩
 refine Th ⟨_,g,J⟩ ⟨_,a,J⟩ Tz TK PySem.F.slot_tuple_add PySem.F.entry_tuple_add (PySem.F.args_tuple_add_2 _ _)
  (tuple_addW2 t b vs.toArray c.toArray n l m f k d (by simp_all) (by simp_all) (by omega)) ⟨g,a,?_⟩
 simp_all
noncomputable def bY(n d:Nat):Option Int->Nat|none=>d|some v=>if v<0 then(v+(n:Int)).toNat else min v.toNat n
theorem rB(n d:Nat):bY n d none=d:=rfl
theorem tH(n d k:Nat):bY n d (some (k:Int))=min k n:=by rfl
theorem A9(v:Int)(n d:Nat):(if v<0 then max (v+(n:Int)) 0 else min v (n:Int))=((bY n d (some v):Nat):Int):=by
 show(if v<0 then max (v+n) 0 else min v n)=(((if v<0 then(v+n).toNat else min v.toNat n):Nat))
 grind
theorem Mq(lo a:Option Int)(n:Nat):sg lo a 1 (n:Int)=(((bY n 0 lo:Nat):Int),((bY n n a:Nat):Int)):=by
 have b:¬((1)<0):=by omega
 unfold sg;refine Prod.ext ?_ ?_;cases lo with|none=>rfl|some v=>exact A9 v n 0
 cases a with|none=>rfl|some v=>exact A9 v n n
theorem MZ(i j:Nat):ti (i:Int) (j:Int) 1=j-i:=by
 unfold ti;have a:(1:Int)>0:=by omega
 simp only[a,if_true,Int.ediv_one];split<;>omega
theorem J7{v:Sr}{o:Option Int}{Q:Option Int->Sh->Prop}(p:Pw v o)(h:Q o s):TX (Tx prog w) A (Builtin.Slice.slicePartIndex v) Q E s:=by cases p with|none=>exact slicePart_none h|int i t=>exact slicePart_int h
theorem Yo{lo b:Option Int}{n:Nat}{Q:Int×Int×Nat->Sh->Prop}(g:s.heap.IsSliceOf sl vl vu .none)(f:Pw vl lo)(d:Pw vu b)(h:Q (((bY n 0 lo:Nat):Int),1,bY n n b-bY n 0 lo) s):TX (Tx prog w) A (Builtin.Slice.sliceApplied (.ref sl) (pure (n:Int))) Q E s:=by obtain⟨os,a,i,c⟩:=id g;refine a9 (a9 (Ui a c J (a9 (Ui a c J (a9 (Ui a c J (aa (a9 (slicePart_none ?_)))))))));rw[kr (by decide)];refine a9 (J7 f (a9 (J7 d (a9 (aa ?_)))));show TX _ _ (match sg lo b 1 n with|(lo,b)=>pure (lo,(1:Int),ti lo b 1)) _ _ s;rw[Mq lo b n];show TX _ _ (pure (((bY n 0 lo):Int),(1),ti ((bY n 0 lo)) (bY n n b) 1)) _ _ s;rw[MZ];exact aa h
theorem KH(xs:Array I)(i k:Nat):((Ri k).filterMap λ(m:Nat)=>xs[((i:Int)+(m:Int)*1).toNat]?).toArray=((xs.toList.drop i).take k).toArray:=by
 have e:(λ(m:Nat)=>xs[((i:Int)+(m:Int)*1).toNat]?)=λm=>xs[i+m]?:=by
  funext m;have:((i:Int)+(m:Int)*1).toNat=i+m:=by omega
  rw[this]
 rw[e];have:=pick_run xs i k;rw[List.filterMap_map]at this;have a:((λx=>xs[x]?)∘λx=>i+x)=λm=>xs[i+m]?:=rfl;rw[a]at this;rw[this]
theorem gS{t:Y}{lo b:Option Int}(c:Px s.heap t aD)(i:s.heap.IsSliceOf sl vl vu .none)(k:Pw vl lo)(j:Pw vu b)(l:¬(bY aD.size 0 lo=0/\bY aD.size aD.size b=aD.size))
  (h:Q (.ref s.heap.objs.size) {s with heap:=s.heap.push {cls:=.type "tuple",data:=.seq ((aD.toList.drop (bY aD.size 0 lo)).take (bY aD.size aD.size b-bY aD.size 0 lo)).toArray}})
  (hsz:aD.size<=TL):TX (Tx prog w) A (getItem (.ref t) (.ref sl)) Q E s:=by
 have a:sizeOk (.seq ((aD.toList.drop (bY aD.size 0 lo)).take (bY aD.size aD.size b-bY aD.size 0 lo)).toArray):=by show((aD.toList.drop (bY aD.size 0 lo)).take (bY aD.size aD.size b-bY aD.size 0 lo)).toArray.size<=TL;rw[dy,ia,QN,nG];omega
 obtain⟨os,d,g,m⟩:=id i;unfold getItem
 try with_reducible refine Uo ?_
 first|refine a9 (aa ?_)|skip
 refine a9 (wpAny_sequenceKey c.typeIs (by decide) ?_);refine a9 (Uc c.typeIs R9 (dk R9 c.typeIs entry_tuple_getitem ?_ (args_tuple_getitem _ _)))
 show TX _ _ (zw (.ref t)>>=_) _ _ s;refine a9 (tupleItemsOf_ c (a9 (VG ⟨os,d,g⟩ ?_)));rw[kP (by decide)];refine a9 (Yo i k j ?_);have f:¬((((bY aD.size 0 lo):Int)==0 && (1:Int)==1 && (bY aD.size aD.size b-bY aD.size 0 lo)==aD.size)=true):=by intro q;rw[bu,bu]at q;have o:=eq_of_beq q.1.1;have n:=eq_of_beq q.2;exact l ⟨by omega,by omega⟩
 show TX _ _ (if(((bY aD.size 0 lo):Int)==0 && (1)==1 && (bY aD.size aD.size b-bY aD.size 0 lo)==aD.size)=true then _ else _) _ _ s;rw[kr f,KH];first|exact a9 (fe (aa ⟨_,J,aa h⟩) a)|exact a9 (fe (a9 (aa (aa ⟨_,J,aa h⟩))) a)|exact a9 (a9 (fe (aa (aa ⟨_,J,aa h⟩)) a))|exact a9 (a9 (fe (aa ⟨_,J,aa h⟩) a))
end
end HT
namespace L2
open PySem PySem.Spec PyProof.Rows
variable{A:mf}{X:Cx}{e:OP}{H:Hp}{i:Int}{pins:List (lv×Obj)}{es:List OP}{ns:List Int}{xs ys:List V}{its its' us:List Sr}{j t':Nat}{aE:Pos}{s:Sh}{σ:St}{x:V}{u v:Sr}{E:Sr->Sh->Prop}
abbrev TO:=St->Hp->(Option Int->Hp->Prop)->Prop
def PO(X:Cx)(e:Option OP)(t:TO):Prop:=
 ∀ (pins:List (lv×Obj)) (s:Sh) (σ:St) (H:Hp) (Q:Option Int->Hp->Prop),Inv X pins σ H s->t σ H Q->
   TX (Tx X.prog X.w) X.A (evalPart e X.env) (λu s'=>∃o H',Inv X pins σ H' s'/\Pw u o/\Q o H') X.xe s
def IH:TO:=λ_ H Q=>Q none H
inductive jE(Q:Option Int->Hp->Prop)(x:V)(H1:Hp):Prop|mk:∀i,x=.int i->Q (some i) H1->jE Q x H1
def Fd(t:TE):TO:=λσ H Q=>t σ H λx H1=>jE Q x H1
theorem M7:∀{a:List Sr},yi (ns.map V.int) a->Pr a ns:=by induction ns with|nil=>intro a r;rw[QU]at r;cases r;exact .nil| cons n ns d=>intro a r;rw[d8]at r;cases r with| cons c b=>obtain⟨t,e⟩:=c;subst e;exact .cons n t (d b)
section
variable{te:TE}{lo hi:Option OP}{tl th:TO}{p2:Pos}
theorem Jo:PO X none IH:=by intro a s b H Q I h;rw[evalPart_none];exact aa ⟨none,H,I,.none,h⟩
theorem Jm(h:PE X e te):PO X (some e) (Fd te):=by intro a s b H Q I f;rw[evalPart_some];refine aH (h a s b H _ I f) λu k ⟨x,j,g,c,d⟩=>?_;obtain⟨i,rfl,q⟩:=d;obtain⟨t,rfl⟩:=c;exact⟨some i,j,g,.int i t,q⟩
inductive rR(X:Cx)(pins:List (lv×Obj))(s:Sh)(σ:St)(v:Sr)(sl:lv)(Q:VK):Prop|mk:∀T id,typeLookup (.type T) "__getitem__"=pure (some (.builtin id))->s.TypeIs v T->TX (Tx X.prog X.w) X.A (getItem v (.ref sl)) (EP X pins σ Q) X.xe s->rR X pins s σ v sl Q
def qG(X:Cx)(r:V->Option Int->Option Int->Hp->VK->Prop):Prop:=
 ∀ (pins:List (lv×Obj)) (s:Sh) (σ:St) (H:Hp) (x:V) (v vl vu:Sr) (lo hi:Option Int) (sl:lv) (Q:VK),Inv X pins σ H s->yf x v->s.heap.IsSliceOf sl vl vu .none->Pw vl lo->Pw vu hi->r x lo hi H Q->
   rR X pins s σ v sl Q
def Oh(r:V->Option Int->Option Int->Hp->VK->Prop)(te:TE)(B F:TO):TE:=λσ H Q=>te σ H λx H1=>B σ H1 λl H2=>F σ H2 λu U=>r x l u U Q
theorem Vl{r:V->Option Int->Option Int->Hp->VK->Prop}(z:qG X r)(he:PE X e te)(hl:PO X lo tl)(w:PO X hi th):PE X (.Subscript e (.Slice lo hi none p2) aE) (Oh r te tl th):=by intro a s c H Q I h;refine Subscript_ (aH (he a s c H _ I h) λv j ⟨x,L,E,k,o⟩=>(wpAny_Slice (aH (hl a j c L _ E o) λg i ⟨l,G,D,t,n⟩=>aH (w a i c G _ D n) λf d ⟨u,F,C,p,m⟩=>?_)));rw[evalPart_none];refine aa ?_;obtain⟨T,id,B,y,A⟩:=z a {d with heap:=d.heap.push {cls:=.type "slice",data:=.fields #[g,f,.none]}} c F x v g f l u d.heap.objs.size Q (C.kept λb M q=>be _ q) k (Heap.IsSliceOf.new ..) t p m;exact tail_any y B A (by rfl)
noncomputable def nJ(xs:List V)(lo B:Option Int):List V:=(xs.drop (HT.bY xs.length 0 lo)).take (HT.bY xs.length xs.length B-HT.bY xs.length 0 lo)
theorem Ja(xs:O V)(lo a:Option Int):(nJ xs lo a).length<=xs.length:=by unfold nJ;rw[ia,QN];omega
inductive rD(K:O4)(x:V)(lo hi:Option Int)(H:Hp)(Q:VK):Prop|mk:∀a xs,x=.ref a->aG K H a xs->¬(HT.bY xs.length 0 lo=0/\HT.bY xs.length xs.length hi=xs.length)->(∀p,H p=none->Q (.ref p) (ji H p (.tup (nJ xs lo hi))))->rD K x lo hi H Q
theorem Ge:qG X (rD X.K):=by
 intro i s u H x v y w lo g z Q I l t n m h;obtain⟨a,d,rfl,o,p,q⟩:=h;cases l;obtain⟨f,r,k,j⟩:=I.tuple o;have c:f.toArray.size=d.length:=by rw[dy];exact r.length.symm
 refine⟨"tuple",_,PyProof.Rows.slot_tuple_getitem.lookup,k.typeIs,?_⟩;refine HT.gS k t n m (by rw[c];exact p) ?_ (by rw[c];exact j);rw[c];refine⟨.ref s.heap.objs.size,_,I.laid (t':=s.toks) (o:=.tup (nJ d lo g)) (λb A q=>be _ q) (au _) ?_,J,q _ (I.hok.fresh (au _))⟩;exact⟨dq (Ja d lo g) j,_,(r.drop (HT.bY d.length 0 lo)).take (HT.bY d.length d.length g-HT.bY d.length 0 lo),IsTup.new _ _,li.push⟩
inductive mU(K:O4)(x y:V)(H:Hp)(Q:VK):Prop|mk:∀a b xs ys,x=.ref a->y=.ref b->aG K H a xs->aG K H b ys->xs≠[]->xs.length+ys.length<=TL->(ys=[]->Q (.ref a) H)->(ys≠[]->∀p,H p=none->Q (.ref p) (ji H p (.tup (xs++ys))))->mU K x y H Q
theorem yi.nil_iff(r:yi xs us):us=[]↔xs=[]:=by cases r with|nil=>simp|cons _ _=>simp
theorem IL:cQ X (S0 .Add) (mU X.K):=by intro f s A H x y v u Q I j i h;obtain⟨a,b,C,B,rfl,rfl,t,r,p,E,l,k⟩:=h;cases j;cases i;obtain⟨o,d,n,_⟩:=I.tuple t;obtain⟨g,c,m,_⟩:=I.tuple r;refine HT.tW n m (λz=>p (d.nil_iff.mp z)) (λz=>⟨.ref a,H,I,J,l (c.nil_iff.mp z)⟩) (λz=>⟨.ref s.heap.objs.size,_,I.laid (λb D q=>be _ q) (au _) ?_,J,k (λw=>z (c.nil_iff.mpr w)) _ (I.hok.fresh (au _))⟩) (by rw[<-d.length,<-c.length];omega);exact⟨by simp_all,_,d.append c,IsTup.new _ _,li.push⟩
end
noncomputable def mB(n:Nat)(i:Int):Option Nat:=if 0<=i then(if i<n then some i.toNat else none)else if -(n:Int)<=i then some (i+n).toNat else none
def kZ{α:Type}(xs:List α)(i:Int):Option α:=(mB xs.length i).bind λj=>xs[j]?
theorem Bj{n:Nat}(h:mB n i=some j):seqIndex? i n=some j/\j<n/\ -(n:Int)<=i/\i<n:=by
 unfold mB at h;by_cases b:0<=i;rw[kP b]at h;by_cases a:i<n;rw[kP a]at h;have e:=RV h;exact⟨by rw[seqIndex_of b a,e],by omega,by omega,a⟩
 simp_all
 rw[kr b]at h;by_cases a: -n<=i;rw[kP a]at h;have e:=RV h;exact⟨by rw[TH (by omega) a,e],by omega,a,by omega⟩
 simp_all
theorem A3{α:Type}{xs:List α}{v:α}(h:kZ xs i=some v):∃j,seqIndex? i xs.length=some j/\xs[j]?=some v/\j<xs.length/\ -(xs.length:Int)<=i/\i<xs.length:=by unfold kZ at h;cases e:mB xs.length i with|none=>rw[e]at h;cases h| some j=>rw[e]at h;obtain⟨d,c,b,a⟩:=Bj e;exact⟨j,d,h,c,b,a⟩
theorem xb{α:Type}{xs:O α}{v:α}(h:xs[j]?=some v):kZ xs (j:Int)=some v:=by
 have a:=(d7.mp h).1;have e:mB xs.length j=some j:=by
  unfold mB
  simp_all
 unfold kZ;simp_all
def GR(b:OP):Prop:=∀o i,subscripted b false o i=operate [o,i] (getItem o i)
def yF(X:Cx)(r:R2):Prop:=
 ∀ (aU B:OP) (pins:List (lv×Obj)) (s:Sh) (σ:St) (H:Hp) (x y:V) (v u:Sr) (Q:VK),Inv X pins σ H s->yf x v->yf y u->r x y H Q->
   subscripted B false v u=operate [v,u] (getItem v u)->TX (Tx X.prog X.w) X.A (subscriptTail aU B v u) (EP X pins σ Q) X.xe s
def ud(X:Cx)(id:String)(r:V->List V->Hp->VK->Prop):Prop:=
 ∀ (pins:List (lv×Obj)) (s:Sh) (σ:St) (H:Hp) (x:V) (xs:List V) (v:Sr) (us:List Sr) (Q:VK),Inv X pins σ H s->yf x v->yi xs us->r x xs H Q->
   TX (Tx X.prog X.w) X.A (call (.builtin id) (v::us)) (EP X pins σ Q) X.xe s
section
variable{a b:OP}{ta tb:TE}
theorem zk{r:R2}(k:yF X r)(m:PE X a ta)(l:PE X b tb)(j:GR b:=by exact λ_ _=>rfl):PE X (.Subscript a b aE) (nQ r ta tb):=by intro c s d H Q I h;exact Subscript_ (uw m l I h λv u f x y o n i g q=>k a b c f d o x y v u Q n i g q (j _ _))
inductive pj(K:O4)(x y:V)(H:Hp)(Q:VK):Prop|mk:∀p xs i v,x=.ref p->y=.int i->aK K H p xs->kZ xs i=some v->Q v H->pj K x y H Q
inductive cE(K:O4)(x y:V)(H:Hp)(Q:VK):Prop|mk:∀p xs i v,x=.ref p->y=.int i->aG K H p xs->kZ xs i=some v->Q v H->cE K x y H Q
theorem wy:yF X (pj X.K):=by
 intro U c a s n H x y v u Q I A o h k;obtain⟨p,L,i,z,rfl,rfl,B,D,q⟩:=h;cases A;obtain⟨t,rfl⟩:=o;obtain⟨g,r,f,M⟩:=I.list B;obtain⟨j,l,G,R,F,E⟩:=A3 D;obtain⟨w,S,d⟩:=r.get G;have P:=r.length;have N:=Qn;have b:EP X a n Q w s:=⟨z,H,I,d,q⟩
 by_cases m:0<=i;have C:i.toNat=j:=by
  rw[seqIndex_of m E]at l
  simp_all
 exact item_listR f.isList m (by omega) (by simp_all) b k;have C:(i+g.toArray.size).toNat=j:=by
  rw[TH (by omega) F]at l
  simp_all
 exact TU f.isList.typeIs slot_list_getitem.lookup
  (wpAny_getItem_list_neg f.isList (by omega) (by simp_all) (by omega) (by simp_all) ⟨J,b⟩) k
theorem zj:yF X (cE X.K):=by
 intro N a d s A H x y v u Q I g f h l;obtain⟨p,B,i,z,rfl,rfl,m,n,q⟩:=h;cases g;obtain⟨t,rfl⟩:=f;obtain⟨k,r,c,C⟩:=I.tuple m;obtain⟨j,L,o,G,F,E⟩:=A3 n;obtain⟨w,M,b⟩:=r.get o;have D:=Qn;exact TU c.typeIs slot_tuple_getitem.lookup
  (getItem_tuple c (by omega) (by omega) (by rw[dy,<-r.length];omega) (by simp_all) ⟨J,⟨z,H,I,b,q⟩⟩) l
theorem MH(a:O I)(n j:Nat)(u:I):RN (·.setIfInBounds j u) {cls:=.type "list",data:=.seq a.toArray n}={cls:=.type "list",data:=.seq (a.set j u).toArray n}:=by simp[RN]
theorem Inv.lst{a:O (Y×Obj)}{b:St}{H:Hp}{s:Sh}{p:Y}{xs:O V}(I:Inv X a b H s)(h:H p=some (.lst xs)):∃(its:O Sr)(n:Nat),yi xs its/\s.heap.get? p=some {cls:=.type "list",data:=.seq its.toArray n}/\xs.length<=TL:=by obtain⟨z,its,n,r,e⟩:=I.hok p _ h;exact⟨its,n,r,e,z⟩
theorem Inv.lstUpd{p:Y}{n a:Nat}{f:Obj->Obj}(I:Inv X pins σ H s)(h:H p=some (.lst xs))(d:s.heap.get? p=some {cls:=.type "list",data:=.seq its.toArray n}) (c:f {cls:=.type "list",data:=.seq its.toArray n}={cls:=.type "list",data:=.seq its'.toArray a}) (r:yi ys its') (hz:ys.length<=TL) (t:Nat):
  Inv X pins σ (ji H p (.lst ys)) {s with heap:=s.heap.update p f,toks:=t}:=by
 have e:(s.heap.update p f).get? p=some {cls:=.type "list",data:=.seq its'.toArray a}:=by rw[Ph f d (by rw[c]<;>rfl),c]
 exact I.write (by rw[h];trivial) (.inl J) (λb u g q=>(Pg _ _ (ae g)).trans q) ⟨_,e⟩ ⟨hz,its',a,r,e⟩
inductive jV(o i v:V)(H:Hp)(Q:Hp->Prop):Prop|mk:∀p xs k j,o=.ref p->i=.int k->H p=some (.lst xs)->mB xs.length k=some j->Q (ji H p (.lst (xs.set j v)))->jV o i v H Q
theorem J8:uu X jV:=by
 intro a s y H o i v F G u Q I B C A h;obtain⟨p,z,k,j,rfl,rfl,g,E,q⟩:=h;cases B;obtain⟨t,rfl⟩:=C;obtain⟨b,n,r,d,D⟩:=I.lst g;obtain⟨c,M,m,l⟩:=Bj E;have f:=r.length;have L:=Qn;have x:Inv X a y (ji H p (.lst (z.set j v))) {s with heap:=s.heap.update p (RN (·.setIfInBounds j u))}:=
  I.lstUpd g d (MH b n j u) (r.set A j) (by rw[List.length_set];exact D) s.toks
 by_cases w:0<=k;have hk:k.toNat=j:=by rw[seqIndex_of w l]at c;exact RV c
 exact W.ki_setAt d w (by omega) (by rw[dy,<-f];exact l) (by rw[hk];exact⟨_,x,q⟩);have hk:(k+(b.toArray.size:Int)).toNat=j:=by rw[TH (by omega) m]at c;rw[dy,<-f];exact RV c
 exact W.ki_setBack d (by omega) (by rw[dy,<-f];exact m) (by omega) (by rw[hk];exact⟨_,x,q⟩)
theorem NV(lo a:Option Int)(n:Nat):(sliceBounds lo a none n).1=((HT.bY n 0 lo:Nat):Int)/\(sliceBounds lo a none n).2.1=((HT.bY n n a:Nat):Int)/\(sliceBounds lo a none n).2.2=1:=by
 refine⟨?_,?_,J⟩;cases lo with|none=>rfl| some i=>
   simp only[sliceBounds,HT.bY]
   grind
 cases a with|none=>rfl| some i=>
   simp only[sliceBounds,HT.bY]
   grind
theorem N5(a:O I)(lo b:Option Int):slicePick a.toArray lo b none=((a.drop (HT.bY a.length 0 lo)).take (HT.bY a.length a.length b-HT.bY a.length 0 lo)).toArray:=by obtain⟨f,d,c⟩:=NV lo b a.toArray.size;unfold slicePick;rw[f,d,c];simp only[sliceRange_one,pick_run]<;>rfl
inductive rE(K:O4)(x:V)(lo hi:Option Int)(H:Hp)(Q:VK):Prop|mk:∀a xs,x=.ref a->aK K H a xs->(∀p,H p=none->Q (.ref p) (ji H p (.lst (nJ xs lo hi))))->rE K x lo hi H Q
theorem Iz:qG X (rE X.K):=by intro f s t H x v w u lo i y Q I j p l k h;obtain⟨a,c,rfl,o,q⟩:=h;cases j;obtain⟨m,r,g,n⟩:=I.list o;have d:=r.length;refine⟨"list",_,slot_list_getitem.lookup,g.isList.typeIs,(wpAny_getItem_list_slice g.isList p l k .none (by simp) ?_ (by simp_all))⟩;rw[N5,<-d];refine⟨.ref s.heap.objs.size,_,I.laid (λb z q=>be _ q) (au _) ?_,J,q _ (I.hok.fresh (au _))⟩;exact⟨dq (Ja c lo i) n,_,0,(r.drop (HT.bY c.length 0 lo)).take (HT.bY c.length c.length i-HT.bY c.length 0 lo),cb _ J⟩
noncomputable def Vt:V->Bool|.non=>true|.bl _=>true|.int _=>true|.str _=>true|_=>false
noncomputable def nc:V->V->Bool|.non,.non=>true|.bl a,.bl b=>a==b|.bl a,.int b=>(if a then 1 else 0)==b|.int a,.bl b=>a==(if b then 1 else 0)|.int a,.int b=>a==b|.str a,.str b=>a==b|_,_=>false
theorem F5{y:V}(f:yf y u)(c:yf x v)(i:Vt y=true)(g:Vt x=true):SeqAt.EqAt A s u v (nc y x):=by
 cases y with
 | non=>
   cases f;cases x with
   |non=>cases c;exact SeqAt.EqAt.same _
   |bl b=>cases c;exact SeqAt.EqAt.none_bool b
   |int b=>obtain⟨t,rfl⟩:=c;exact SeqAt.EqAt.none_int b t
   |str b=>obtain⟨t,rfl⟩:=c;exact SeqAt.EqAt.none_str b t
   |_=>exact kS (g) cy
 | bl a=>
   cases f;cases x with
   |non=>cases c;exact SeqAt.EqAt.bool_none a
   |bl b=>cases c;exact SeqAt.EqAt.bool_bool a b
   |int b=>obtain⟨t,rfl⟩:=c;exact SeqAt.EqAt.bool_int a b t
   |str b=>obtain⟨t,rfl⟩:=c;exact SeqAt.EqAt.bool_str a b t
   |_=>exact kS (g) cy
 | int a=>
   obtain⟨d,rfl⟩:=f;cases x with
   |non=>cases c;exact SeqAt.EqAt.int_none a d
   |bl b=>cases c;exact SeqAt.EqAt.int_bool a d b
   |int b=>obtain⟨t,rfl⟩:=c;exact SeqAt.EqAt.int_int a d b t
   |str b=>obtain⟨t,rfl⟩:=c;exact Sf a d b t
   |_=>exact kS (g) cy
 | str a=>
   obtain⟨d,rfl⟩:=f;cases x with
   |non=>cases c;exact SeqAt.EqAt.str_none a d
   |bl b=>cases c;exact SeqAt.EqAt.str_bool a d b
   |int b=>obtain⟨t,rfl⟩:=c;exact Sg a d b t
   |str b=>obtain⟨t,rfl⟩:=c;exact SeqAt.EqAt.str_str a d b t
   |_=>exact kS (g) cy
 |_=>exact kS (i) cy
def mC(x:V)(u:Sr):Bool:=match u with|.none=>nc .non x|.bool b=>nc (.bl b) x|.int i _=>nc (.int i) x|.str z _=>nc (.str z) x|_=>false
theorem Aj{y:V}(r:yf y u)(f:Vt y=true):mC x u=nc y x:=by cases y with|non=>cases r;rfl|bl b=>cases r;rfl|int i=>obtain⟨t,rfl⟩:=r;rfl|str z=>obtain⟨t,rfl⟩:=r;rfl|_=>exact kS (f) cy
theorem wI{x:V}:∀{xs:List V}{a:List Sr},yi xs a->xs.all Vt=true->a.any (mC x)=xs.any λy=>nc y x|_,_,.nil,_=>rfl| y::xs,u::a,.cons r t,f=>by rw[List.all_cons,bu]at f;rw[PH,PH,Aj r f.1,wI t f.2]
theorem K7{A:mf}{s:Sh}{x:V}{v:Sr}(c:yf x v)(d:Vt x=true):∀{xs:List V}{b:List Sr},yi xs b->xs.all Vt=true->∀u∈b,SeqAt.EqAt A s u v (mC x u)|_,_,.nil,_=>λu a=>by grind| y::xs,u::b,.cons r t,f=>λg a=>by rw[List.all_cons,bu]at f;rcases bc.mp a with rfl|a;rw[Aj r f.1];exact F5 r c f.1 d;exact K7 c d t f.2 g a
def mY(x:V)(xs:List V):Bool:=xs.any λy=>nc y x
inductive xM(K:O4)(neg:Bool)(x y:V)(H:Hp)(Q:VK):Prop|mk:∀p xs,y=.ref p->(aK K H p xs\/aG K H p xs)->Vt x=true->xs.all Vt=true->Q (.bl (if neg then !mY x xs else mY x xs)) H->xM K neg x y H Q
theorem k9:cQ X (compareOp .In) (xM X.K false):=by intro g s m H x y v u Q I f j h;obtain⟨p,n,rfl,b,i,c,q⟩:=h;cases j;rcases b with b|b;obtain⟨a,r,d,k⟩:=I.list b;refine SeqAt.in_listAt (mC x) d.isList (λw l=>K7 f i r c w (by simp_all)) ⟨.bl _,H,I,J,?_⟩;rw[show a.toArray.any (mC x)=a.any (mC x) by simp,wI r c];exact q;obtain⟨a,r,d,k⟩:=I.tuple b;refine SeqAt.in_tupleAt (mC x) d (λw l=>K7 f i r c w (by simp_all)) ⟨.bl _,H,I,J,?_⟩;rw[show a.toArray.any (mC x)=a.any (mC x) by simp,wI r c];exact q
theorem yc:j6 X (.builtin "len") (λxs H Q=>∃p ys,xs=[.ref p]/\(aK X.K H p ys\/aG X.K H p ys)/\Q (.int ys.length) H):=by intro g s k H xs l Q I r h;obtain⟨p,ys,rfl,b,q⟩:=h;obtain⟨u,rfl,i⟩:=Zg r;cases i;have m:=Qn;rcases b with b|b;obtain⟨f,c,d,j⟩:=I.list b;have a:=c.length;exact Calls.call_len_list d.isList (by grind) ⟨.int ys.length,H,I.tok _,⟨s.toks+1,by rw[dy,a]⟩,q⟩;obtain⟨f,c,d,j⟩:=I.tuple b;have a:=c.length;exact len_tuple d (by grind) ⟨.int ys.length,H,I.tok _,⟨s.toks+1,by rw[dy,a]⟩,q⟩
theorem Vx:j6 X (.builtin "len") (λxs H Q=>∃z,xs=[.str z]/\z.length<=TL/\Q (.int z.length) H):=by intro a s b H xs c Q I r h;obtain⟨z,rfl,d,q⟩:=h;obtain⟨u,rfl,t,rfl⟩:=Zg r;have f:=Qn;exact len_str (by omega) ⟨.int z.length,H,I.tok _,⟨_,J⟩,q⟩
theorem N3:j6 X (.type "tuple") (λxs H Q=>∃p ys,xs=[.ref p]/\((aK X.K H p ys/\∀l,H l=none->Q (.ref l) (ji H l (.tup ys)))\/(aG X.K H p ys/\Q (.ref p) H))):=by intro g s v H xs w Q I r h;obtain⟨p,ys,rfl,h⟩:=h;obtain⟨u,rfl,m⟩:=Zg r;cases m;rcases h with⟨f,q⟩|⟨f,q⟩;obtain⟨a,c,d,i⟩:=I.list f;have j:=c.length;refine call_tuple_list d.isList (λt n=>?_) (by simp_all);have k:=I.kept (t':=s.toks) n;exact⟨.ref t.objs.size,_,(k.laid (t':=s.toks) (λb o e=>be _ e) (au _) (show qv X.prog X.w _ _ _ (.tup ys)from⟨i,a,c,IsTup.new _ _,li.push⟩)),J,q _ (k.hok.fresh (au _))⟩;obtain⟨a,c,d,i⟩:=I.tuple f;exact call_tuple_same d ⟨.ref p,H,I,J,q⟩
def xK(K:O4)(T:String)(x:V)(H:Hp):Prop:=match x with|.str _=>T="str"|.int _=>T="int"|.ref p=>(T="list"/\∃xs,aK K H p xs)\/(T="tuple"/\∃o,K.lookup p=some o/\o.cls=.type "tuple"/\o.dict=none)\/
  (T="dict"/\((∃kvs,H p=some (.dK kvs))\/∃kvs,H p=some (.dT kvs)))\/(T="set"/\∃S n,H p=some (.set S n))|_=>False
theorem AM{T:String}(I:Inv X pins σ H s)(r:yf x v)(d:xK X.K T x H):s.TypeIs v T/\∀a,v=.ref a->∃l,s.heap.get? a=some l/\l.dict=none:=by
 cases x with| str z=>
   obtain⟨t,rfl⟩:=r;cases(show T="str" from d);exact⟨typeIs_str s z t,λ_ e=>nomatch e⟩| int i=>
   obtain⟨t,rfl⟩:=r;cases(show T="int" from d);exact⟨typeIs_int s i t,λ_ e=>nomatch e⟩| ref p=>
   cases r;rcases d with⟨rfl,w,q⟩|⟨rfl,o,hk,u,g⟩|⟨rfl,hk⟩|⟨rfl,S,n,hk⟩;obtain⟨m,_,k,_⟩:=I.list q;refine⟨k.isList.typeIs,λa e=>?_⟩;cases e;obtain⟨o,n,e,c,g,_⟩:=k;exact⟨o,e,g⟩;refine⟨⟨o,I.kIn p o hk,u⟩,λa e=>?_⟩;cases e;exact⟨o,I.kIn _ o hk,g⟩;have z:∃o,s.heap.get? p=some o/\o.ExactDict:=by rcases hk with⟨f,hk⟩|⟨f,hk⟩;obtain⟨_,_,_,_,o,_,_,e,b,_⟩:=I.hok p _ hk;exact⟨o,e,b⟩;obtain⟨_,_,_,_,o,_,_,e,b,_⟩:=I.hok p _ hk;exact⟨o,e,b⟩
   obtain⟨o,e,b⟩:=z;refine⟨⟨o,e,b.1⟩,λa j=>?_⟩;cases j;exact⟨o,e,b.2.1⟩;obtain⟨o,_,_,_,e,b,_⟩:=I.hok p _ hk;refine⟨⟨o,e,b.1⟩,λa j=>?_⟩;cases j;exact⟨o,e,b.2.1⟩|_=>exact O2 d
def Eh(K:O4)(T:String)(r:V->List V->Hp->VK->Prop)(to:TE):TE:=λσ H Q=>to σ H λx H1=>xK K T x H1/\r x [] H1 Q
def DC(K:O4)(T:String)(r:V->List V->Hp->VK->Prop)(to:TE)(t:TA):TE:=λσ H Q=>to σ H λx H1=>xK K T x H1/\t σ H1 λxs H2=>r x xs H2 Q
variable{o:OP}{to:TE}{t:TA}{name:Str}{apos cpos:Pos}{T id:String}{r:V->List V->Hp->VK->Prop}
theorem GI(n:PlainAttrs T)(d:Slot T name id)(f:typeOf (.builtin id)=pure (.type "method_descriptor"))(q:ud X id r)(p:PE X o to)(c:attributeBase o name X.env (Tj o X.env)=Tj o X.env:=by rfl) (b:(apos.endLine==cpos.line)=true:=by rfl):PE X (.Call (.Attribute o name apos) [] [] cpos) (Eh X.K T r to):=by intro a s g H Q I h;refine T5 c b (aH (p a s g H _ I h) λv l ⟨x,w,j,i,k,m⟩=>?_);obtain⟨u,t⟩:=AM j i k;exact⟨T,id,n,d,f,u,t,I8 J (PySem.evalArgs_none (q a l g w x [] v [] Q j i .nil m))⟩
theorem Zu(B:PlainAttrs T)(f:Slot T name id)(j:typeOf (.builtin id)=pure (.type "method_descriptor"))(E:ud X id r)(D:PE X o to)(F:PA X (e::es) t)(d:attributeBase o name X.env (Tj o X.env)=Tj o X.env:=by rfl)
  (g:((backTo cpos (TQ (e::es) X.env)).all (λx=> !x.1) && (backToKw cpos (keywordEach [] X.env)).all (λx=>x.1.isSome) && decide ((e::es).length+([]:O PB).length+(if([]:O PB).isEmpty then 0 else 1)<30))=true:=by rfl)
  (c:(apos.endLine==cpos.line)=true:=by rfl) (C:TQ (e::es) X.env=(false,Tj e X.env)::TQ es X.env:=by rfl) (b:(backTo cpos (TQ es X.env)).any (·.1)=false:=by rfl):
  PE X (.Call (.Attribute o name apos) (e::es) [] cpos) (DC X.K T r to t):=by intro a s i H Q I h;refine T7 d g c J (aH (D a s i H _ I h) λv w ⟨x,P,m,k,q,A⟩=>?_);obtain⟨L,G⟩:=AM m k q;refine⟨T,id,B,f,j,L,G,?_⟩;have l:=F cpos a w i P _ m A;rw[C]at l⊢;refine I8 (by show(false ||(backTo cpos (TQ es X.env)).any (·.1))=false;rw[b]<;>rfl) (J3 ?_);exact aH l λp u ⟨n,N,M,y,z⟩=>E a u i N x n v p Q M k y z
/-xs.append(e),list.index on a module's tuple .. are MtR facts of 06m -/
end
def yE(X:Cx)(id:String)(r:V->List V->Hp->VK->Prop):Prop:=
 ∀ (pins:List (lv×Obj)) (s:Sh) (σ:St) (H:Hp) (x:V) (xs:List V) (v:Sr) (us:List Sr) (Q:VK),Inv X pins σ H s->yf x v->yi xs us->r x xs H Q->
   TX (Tx X.prog X.w) X.A (call (.builtin id) (v::us)) (EP X pins σ Q) X.xe s
theorem yi.one:∀{x:V}{a:List Sr},yi [x] a->∃u,a=[u]/\yf x u|_,_,.cons r .nil=>⟨_,J,r⟩
theorem yi.zero:∀{a:List Sr},yi [] a->a=[]|_,.nil=>rfl
theorem yi.dropLast{xs:List V}{a:List Sr}(h:yi xs a):yi xs.dropLast a.dropLast:=by induction h with|nil=>exact .nil| cons r t b=>cases t with|nil=>exact .nil|cons q c=>exact .cons r b
theorem yi.rep{xs:List V}{a:List Sr}(h:yi xs a):∀k:Nat,yi (Rk k xs).flatten (Rk k a).flatten|0=>.nil| k+1=>by rw[Rl,Rl,QA,QA];exact yi.append h (yi.rep h k)
theorem M4{α:Type}(l:O α):l.eraseIdx (l.length-1)=l.dropLast:=by simp
theorem Dq(a:List Sr):∀(k:Nat)(b:List Sr),List.foldl (λd c=>d++c) b.toArray (Rk k a.toArray)=(b++(Rk k a).flatten).toArray
 |0,b=>by simp
 | k+1,b=>by
   have e:b.toArray++a.toArray=(b++a).toArray:=by simp
   have f:(b++a)++(Rk k a).flatten=b++(Rk (k+1) a).flatten:=by rw[Rl,QA,PK]
   rw[<-f,<-Dq a k (b++a),<-e,Rl,List.foldl_cons]
section
variable{l b:lv}{zs:List V}
theorem Inv.lset{n:Nat}{f:Array Sr->Array Sr}(I:Inv X pins σ H s)(g:H l=some (.lst xs))(e:s.heap.get? l=some {cls:=.type "list",data:=.seq its.toArray n}) (c:f its.toArray=its'.toArray) (a:yi ys its') (hz:ys.length<=TL):
  Inv X pins σ (ji H l (.lst ys)) {s with heap:=s.heap.update l (RN f),toks:=t'}:=by have q:=PySem.IsL.update e f;rw[c]at q;exact I.write (g▸trivial) (.inl J) (λi u d b=>(Pg s.heap (RN f) (ae d)).trans b) ⟨_,q⟩ ⟨hz,its',_,a,q⟩
theorem Inv.lnew(I:Inv X pins σ H s)(a:yi ys its)(hz:ys.length<=TL):Inv X pins σ (ji H s.heap.objs.size (.lst ys)) {s with heap:=s.heap.push {cls:=.type "list",data:=.seq its.toArray},toks:=t'}:=
 I.laid (λ_ _ q=>be _ q) (au _) ⟨hz,its,0,a,cb _ J⟩
theorem Inv.fresh(I:Inv X pins σ H s):H s.heap.objs.size=none:=I.hok.fresh (au _)
theorem Inv.lstM(I:Inv X pins σ H s)(a:H l=some (.lst xs)):xs.length<=TL/\∃(its:O Sr)(n:Nat),yi xs its/\xs.length=its.length/\s.heap.get? l=some {cls:=.type "list",data:=.seq its.toArray n}:=by obtain⟨z,its,n,r,e⟩:=I.hok l _ a;exact⟨z,its,n,r,r.length,e⟩
theorem Cj{n:Nat}(h:n<=TL):ro n=false:=by
 unfold ro
 simp_all
end
section
inductive dZ(x:V)(vs:List V)(H:Hp)(Q:VK):Prop|mk:∀l xs y,x=.ref l->vs=[y]->H l=some (.lst xs)->xs.length<TL->Q .non (ji H l (.lst (xs++[y])))->dZ x vs H Q
theorem vm:yE X "list.append" dZ:=by
 intro b s i H x k v m Q I d f h;obtain⟨l,j,y,rfl,rfl,c,o,q⟩:=h;cases d;obtain⟨u,rfl,g⟩:=f.one;obtain⟨z,a,n,r,p,e⟩:=I.lstM c;refine Tb F.slot_list_append ⟨_,e,J⟩ F.entry_list_append (F.args_list_append_2 _ _) (list_append l a.toArray n u (by simp_all)) ⟨e,⟨.non,_,I.lset c e (by simp) (r.append (.cons g .nil)) ?_,J,q⟩⟩
 grind
inductive gO(x:V)(vs:List V)(H:Hp)(Q:VK):Prop|mk:∀l b xs zs,x=.ref l->vs=[.ref b]->H l=some (.lst xs)->H b=some (.lst zs)->xs.length+zs.length<=TL->Q .non (ji H l (.lst (xs++zs)))->gO x vs H Q
theorem X4:yE X "list.extend" gO:=by
 intro g s y H x D v E Q I j k h;obtain⟨l,b,C,A,rfl,rfl,i,hB,G,q⟩:=h;cases j;obtain⟨u,rfl,m⟩:=k.one;cases m;obtain⟨z,c,n,r,L,e⟩:=I.lstM i;obtain⟨B,a,p,o,t,w⟩:=I.lstM hB;have f:c.toArray.size+a.toArray.size<=TL:=by simp_all
 have d:¬(!c.toArray.isEmpty && ro (c.toArray.size+a.toArray.size))=true:=by rw[Cj f,Bool.and_false];simp
 refine Tb F.slot_list_extend ⟨_,e,J⟩ F.entry_list_extend (F.args_list_extend_2 _ _)
  (AutoSeq1.list_extend_list_list_0 l c.toArray n b a.toArray p d (by omega) (by omega)) ⟨e,w,⟨.non,_,I.lset i e (by simp) (r.append o) ?_,J,q⟩⟩
 simp_all
inductive rG(x:V)(vs:List V)(H:Hp)(Q:VK):Prop|mk:∀l xs y,x=.ref l->vs=[]->H l=some (.lst xs)->xs[xs.length-1]?=some y->Q y (ji H l (.lst xs.dropLast))->rG x vs H Q
theorem FN:yE X "list.pop" rG:=by
 intro d s p H x w v A Q I g i h;obtain⟨l,t,y,rfl,rfl,f,k,q⟩:=h;cases g;have c:=i.zero;subst c;obtain⟨z,a,n,r,o,e⟩:=I.lstM f;obtain⟨u,m,j⟩:=r.get k;have b:a.toArray[a.toArray.size-1]?=some u:=by show a.toArray[a.length-1]?=some u;rw[<-nv,<-o];exact m
 refine Tb F.slot_list_pop ⟨_,e,J⟩ F.entry_list_pop (F.args_list_pop_1 _) (MeetsSeq.list_pop_last l a.toArray n u b (by rw[dy];omega)) ⟨e,?_⟩;refine⟨y,_,I.lset (its':=a.dropLast) f e ?_ r.dropLast ?_,j,q⟩;show a.toArray.eraseIdxIfInBounds (a.toArray.size-1)=a.dropLast.toArray;rw[dy,List.eraseIdxIfInBounds_toArray,M4];rw[List.length_dropLast];omega
inductive rH(x y:V)(H:Hp)(Q:VK):Prop|mk:∀l b xs zs,x=.ref l->y=.ref b->H l=some (.lst xs)->H b=some (.lst zs)->xs.length+zs.length<=TL->(∀p,H p=none->Q (.ref p) (ji H p (.lst (xs++zs))))->rH x y H Q
theorem GF:cQ X (S0 .Add) rH:=by
 intro d s p H x y v u Q I g f h;obtain⟨l,b,A,t,rfl,rfl,k,hB,C,q⟩:=h;cases g;cases f;obtain⟨z,c,n,r,D,e⟩:=I.lstM k;obtain⟨w,a,B,i,j,o⟩:=I.lstM hB;refine P.add_list e o ?_ (by simp_all);have m:c.toArray++a.toArray=(c++a).toArray:=by simp
 rw[m];exact⟨.ref _,_,I.lnew (r.append i) (by simp_all),J,q _ I.fresh⟩
inductive rF(x y:V)(H:Hp)(Q:VK):Prop|mk:∀l k xs,x=.ref l->y=.int k->H l=some (.lst xs)-> -(2^63)<=k->k<2^63->xs.length*k.toNat<=TL->(∀p,H p=none->Q (.ref p) (ji H p (.lst (Rk k.toNat xs).flatten)))->rF x y H Q
theorem Hr{α:Type}(xs:O α)(k:Nat):(Rk k xs).flatten.length=k*xs.length:=by simp
theorem AI:cQ X (S0 .Mult) rF:=by
 intro j s L H x y v u Q I B A h;obtain⟨l,k,M,rfl,rfl,C,E,D,P,q⟩:=h;cases B;obtain⟨t,rfl⟩:=A;obtain⟨z,b,n,r,R,e⟩:=I.lstM C;have f:b.toArray.size*k.toNat<=TL:=by simp_all
 have i:¬b.toArray.size*k.toNat>(2^63-1)/8:=by
  have:TL<=(2^63-1)/8:=by decide
  omega
 have g:¬(!Builtin.List.listFitsIndex k)=true:=by rw[fitsIndex_both E D];simp
 have c:¬ro (b.toArray.size*k.toNat)=true:=by rw[Cj f];simp
 have d:List.foldl (λp o=>p++o) #[] (Rk (if b.toArray.isEmpty=true then 0 else k.toNat) b.toArray)=(Rk k.toNat b).flatten.toArray:=by
  have G:=λm=>by have:=Dq b m [];rw[Ra]at this;exact this
  rw[G];cases b with|nil=>simp|cons a N=>rfl
 refine wpAny_binaryOp_repeat_ref (by rfl) ⟨_,e,J⟩ (λw=>typeIs_int w k t) noFill_list_mul F.fills_int_mul F.slot_int_rmul repeat_list F.slot_int_index.lookup
  (Tb F.slot_int_rmul (typeIs_int s k t) F.entry_int_rmul (F.args_int_rmul_2 _ _) (int___rmul___int_list k t l b.toArray n) ⟨e,J,⟨_,e,J⟩,Tb F.slot_list_mul ⟨_,e,J⟩ F.entry_list_mul (F.args_list_mul_2 _ _) (AutoListH.list___mul___list_int_3 l b.toArray n k t g i c) ⟨e,?_⟩⟩)
 rw[d];exact⟨.ref _,_,I.lnew (r.rep k.toNat) (by rw[Hr,RG];omega),J,q _ I.fresh⟩
end
section
variable{prog:R0}{w:SX}
set_option maxRecDepth 100000 in
end
section
end
end L2
namespace Att
open PySem PySem.W PySem.Calls PyProof.Rows
variable{A:mf}{h:O7}{nP:List Sr}{q:R0}{s:Sh}{E:Sr->Sh->Prop}
theorem Jd{P:Params}:∀(c:List Int)(vs:List Sr),WellAll P h vs (c.map WData.int)->Pr vs c:=by intro c;induction c with| nil=>intro vs w;rw[QU]at w;cases w;exact .nil| cons n c d=>intro vs w;rw[d8]at w;cases w with| cons a b=>cases a;exact .cons _ _ (d _ b)
theorem L5{l:RO}{n:Nat}(v:l.most=some n){P:Params}{b:List WData}(c:l.row.toRowW.claim.pre b=true) (i:WellAll P h nP b):
  ∃a vs ns,nP=[Sw a]/\b=[WData.list (ns.map WData.int)]/\h.get? a=some {cls:=.type "list",data:=.seq vs.toArray}/\Pr vs ns/\ns.length<=n:=by
 have p:l.pre.holds [] {args:=b}=true:=(pre_splitW c).2;obtain⟨d,r,rfl,t,s⟩:=hasAllW_cons ((pre_splitW c).1);obtain rfl:=hasAllW_nil s;obtain⟨u,rfl,q⟩:=hasW_list t;obtain⟨ns,rfl⟩:=items_int q;have f:ns.length<=n:=by
  have j:(WTm.not (.lt (.lit (.int n)) (.len (.arg 0)))).holds [] {args:=[.list (ns.map .int)]}=true:=by
   have j:=(holds_andW p).1
   simp_all
  have w:=condW_of j (w_not (w_lt w_lit (w_len_list (w_arg J))))
  simp_all
 cases i with| cons m k=>cases k;cases m with|list o g=>exact⟨_,_,ns,J,J,o,Jd ns _ g,f⟩
theorem LS(l:RO)(a:O WData):l.row.toRowW.claim.post a (.bool true) a=true:=
 postW_of
  (show WShape.has [] (.bool true) .bool=true by rfl)
  (w_eq_bool (w_res J) w_lit) J
theorem ng{l:RO}{n:Nat}{g:O Str}{H:(Str->Option I)->O7->Prop}{F:SX->O7->Prop}{d:DefRec}(P:l.most=some n) (A:d.params.defaults=[])
  (call:∀(w:SX) (c b:Sh) (mg x:Str->Option I) (s:lv) (o:Obj) (v u j:I) (a:lv) (vs:O I) (t:O Int),Ground q g [] H w c mg x b.heap->F w b.heap->
   b.heap.get? s=some o->o.data=.func (docDef d.name d.params d.body d.scope v u j)->b.heap.CodeRec u d.name->mg d.name=some (.ref s)->
   b.heap.get? a=some {cls:=.type "list",data:=.seq vs.toArray}->Pr vs t->t.length<=n->b.gens=#[]->
   Td (Tx l.prog w) callerA (.call (.ref s) ⟨[.ref a],[]⟩) (λr s'=>r=.ok (.ret (.bool true))/\OldK b.heap s'.heap/\s'.os=b.os/\l0 s'.gens) b):
  WalkO q g H F l.row.toRowW d [] (λf vs=>PySem.call f vs):=by intro w c b mg x G Y s o v u j dV kV N U B D z S E nP as k C L y R;obtain rfl:dV=.none:=Dflts.none D A;obtain rfl:kV=.none:=Dflts.noKw D;obtain⟨a,vs,t,rfl,rfl,m,i,p⟩:=L5 P k y;refine enter_call (Tg (call w c b mg x s o v u j a vs t G Y N (fd_plain U) B z m i p S) λr s' M=>?_);obtain⟨rfl,Z,X,W⟩:=M;exact⟨.inl ⟨.bool true,.bool true,[],J,λ_=>rfl,.bool true,LS l _,λ_=>⟨List.Pairwise.nil,λ_ Q=>(nomatch Q)⟩⟩,Z,X,W⟩
section
variable{prog:R0}{w:SX}{K:O4}
end
end Att
namespace L2
open PySem PySem.Spec PyProof.Rows
variable{a c f it:lv}{A:mf}{osl sl:Array (Option Sr)}{its:Array Sr}{X:Cx}{D:wo}{env:Env}{tg:OP}{fd:O5}{h':O7}{H H' H2:Hp}{lo:Int}{pins cI:List (lv×Obj)}{fp:List lv}{cK iD:List OP}{ns:List Int}{cap:List Nat}{ps:List Str}{xs:List V}{us vs:List Sr}{i:Nat}{v:Option Sr}{aE:Pos}{P prog q:R0}{R:Sb->Sh->Prop}{scope:Sc}{s s':Sh}{sp:Sp}{σ σ':St}{st:Sj}{qual x:Str}{mb mg:Str->Option Sr}{ta:TA}{te:TE}{g:TG}{tb:TS}{tc:TT}{bU:Sr}{E Ex Q:Sr->Sh->Prop}{w:SX}
theorem Dg:∀{vs:List Sr}{a:List Int},Pr vs a->yi (a.map V.int) vs|_,_,.nil=>.nil|_,_,.cons n t h=>.cons ⟨t,J⟩ (Dg h)
def ur(H:Hp):Prop:=∀b,H b=none\/∃o xs,H b=some (.frz o (.lst xs))
theorem KD {K:O4} {CX:lB} {k:Nat} {R:lv} {c:Sh}(KX:K.In c.heap) (y:c.heap.Ns Tv mg) (l:c.heap.Ns builtinsNs mb) (M:∀x:Str,x≠"__name__"->mb x=S3 x) (A:c.heap.NoLimit) (hg:c.gens=#[])
  (N:c.heap.get? a=some {cls:=.type "list",data:=.seq vs.toArray}) (X:Pr vs ns) (hl:ns.length<=TL) (hr:aO k callerA)
  (F:∀base:O7,K.In base->base.Ns Tv mg->cH P w K mg base CX k R fd [x] sp) (j:∀(s:Sh)(u:Sr),o0 s fd ⟨[u],[]⟩ [(x,u)])
  (L:∀H:Hp,ur H->aK K H a (ns.map V.int)->sp [.ref a] H (λv _=>v=.bl true) λ_ _ _=>False)
  (Q:∀H e s',CX [] H c (λ_ _ _=>False) e s'->False):
  Td (Tx P w) callerA (.call (.ref R) ⟨[.ref a],[]⟩) (λr s'=>r=.ok (.ret (.bool true))/\OldK c.heap s'.heap/\s'.os=c.os/\l0 s'.gens) c:=by
 have rv:=Dg X;have U:=X.length;have i:∀H:Hp,ur H->aK K H a (ns.map V.int)->bR P w H c.heap->(∀b,H b≠none->b=a)->(H a≠none->K.lookup a=none)->
   Td (Tx P w) callerA (.call (.ref R) ⟨[.ref a],[]⟩) (λr s'=>r=.ok (.ret (.bool true))/\OldK c.heap s'.heap/\s'.os=c.os/\l0 s'.gens) c:=by
  intro H Z hS t hA hK;have f:∀{b:lv}{o:Obj},c.heap.get? b=some o->H b=none->(nM c.heap H).get? b=some o:=λe n=>KB e n;have G:∀{b:lv}{o:Obj}{D:Array OO}{E:Nat},c.heap.get? b=some o->o.data=.dict D E->H b=none:=λ{b o D E} e d=>by grind
  have g:∀{b:lv}{m:Str->Option Sr},c.heap.Ns b m->(nM c.heap H).Ns b m:=λ{b m} ⟨o,D,E,e,d,r⟩=>⟨o,D,E,f e (G e d),d,r⟩
  have B:=λb o e=>f (KX b o e) (by grind)
  have hM:Mod K mg (nM c.heap H):=⟨B,g y,⟨mb,g l,M⟩,let⟨mc,h1,h2⟩:=A;⟨mc,g h1,h2⟩⟩
  refine Tg ((F _ B (g y)).run callerA [] c H ⟨[.ref a],[]⟩ [.ref a] [.ref a] _ _ hr ⟨J,hM,λb o e=>HF e,Nat.le_of_eq (Lv _ _),trivial,λb l=>kS (show b∈[]from l) (by simp),t,.of_eq hg⟩ (j c (.ref a)) (.cons J .nil) (L H Z hS)) λr s' h=>?_;cases r with|error e=>exact(Q H e s' h).elim| ok fl=>
    cases fl with|next=>exact O2 h|brk=>exact O2 h|cont=>exact O2 h| ret u=>
      obtain⟨v,H',os,C,S,p,r',q⟩:=h;subst q;obtain rfl:u=Ss true:=r';refine⟨J,OldK.of_keep λb o e=>?_,os,C⟩;cases q:H b with|none=>exact S.keep b o e q (by intro z;exact kS (show b∈[]from z) (by simp)) (by simp)| some u=>
        rcases Z b with z|⟨ob,xs,z⟩
        simp_all
        obtain⟨e1,_⟩:=t b _ z;obtain⟨e2,_⟩:=p b _ (S.frzs b ob _ z)
        simp_all
 cases hk:K.lookup a with| some o=>
   have e:=KX a o hk;rw[N]at e;cases e;refine i (λ_=>none) (λ_=>.inl J) (.inr ⟨_,vs.toArray,_,hk,J,J,J,by simp_all,by omega⟩) (λb u z=>by simp_all) (λb z=>kS J z) λz=>kS J z| none=>
   refine i (λb=>if b=a then some (.frz {cls:=.type "list",data:=.seq vs.toArray} (.lst (ns.map V.int)))else none) (λb=>?_) (.inl (.inr ⟨{cls:=.type "list",data:=.seq vs.toArray},kP J⟩)) (λb u z=>?_) (λb z=>?_) λ_=>hk
   grind
   by_cases l:b=a;cases((kP l).symm.trans z);subst l;exact⟨N,by simp_all,vs,_,rv,N⟩
   simp_all
   simp_all
theorem tE{l:RO}{n k:Nat}{c:O Str}{XP:(Str->Option I)->O7->Prop}{D:SX->O7->Prop}{d:DefRec}{K:Params->O4}{CX:SX->lB}{sp:SX->Sp}(M:l.most=some n) (y:n<=TL) (A:d.params.defaults=[]) (L:aO k callerA)
  (R:∀(w:SX)(h:O7),D w h->(K w.params).In h)
  (F :∀(w:SX) (mg:Str->Option I) (p:lv) (h:O7),(K w.params).In h->h.Ns Tv mg->mg d.name=some (.ref p)-> ∃ fd:O5,(∀(s:Sh) (u:I),o0 s fd ⟨[u],[]⟩ [(x,u)])/\
     ∀base:O7,(K w.params).In base->base.Ns Tv mg->cH l.prog w (K w.params) mg base (CX w) k p fd [x] (sp w))
  (t:∀(w:SX)(H:Hp)(a:lv)(m:O Int),m.length<=n->ur H->aK (K w.params) H a (m.map V.int)->sp w [.ref a] H (λv _=>v=.bl true) λ_ _ _=>False)
  (B:∀(w:SX)(H:Hp)(s:Sh)(e:I)(r:Sh),CX w [] H s (λ_ _ _=>False) e r->False):
  W.WalkO q c XP D l.row.toRowW d [] (λf vs=>PySem.call f vs):=by refine Att.ng M A λw C i mg mb p o pm cd Z a vs m G Y ho hd P z j g b N=>?_;have E:=R w _ Y;obtain⟨fd,Q,X⟩:=F w mg p _ E G.T.g z;exact KD E G.T.g G.T.b G.T.builtins G.T.nolimit N j g (dq b y) L X Q (λH U S=>t w H a m b U S) λH e r=>B w H i e r
noncomputable def jh(s:Sj):Arguments:=match s with|.FunctionDef _ a _ _ _ _ _ _ _ _=>a|_=>{posonlyargs:=[],args:=[],vararg:=none,kwonlyargs:=[],kw_defaults:=[],kwarg:=none,defaults:=[]}
noncomputable def xq(s:Sj):List Sj:=match s with|.FunctionDef _ _ b _ _ _ _ _ _ _=>b|_=>[]
noncomputable def ze(s:Sj):Sc:=match s with|.FunctionDef _ _ _ _ _ _ sc _ _ _=>sc|_=>{kind:=.function,names:=[],isGenerator:=false,isCoroutine:=false}
abbrev dX:lB:=λ_ _ _ _ _ _=>False
abbrev E0:XK:=λ_ _ _=>False
theorem sJ:Wy dX X E0:=λ_ _ _ _ _ _ _ h=>h.elim
structure lA(K:O4)(x qual:Str)(st:Sj)(f:lv)(fd:O5):Prop where
 ex:∃(oc:Sr)(od:Option lv)(kV doc pm:Sr)(an:Option lv)(cdv ct:Sr)(osl:Array (Option Sr)),fd=SF x qual (jh st) (xq st) (ze st) .none kV doc pm an cdv ct/\K.lookup f=some ⟨oc,od,.func fd,osl⟩/\SA K cdv qual=true
 kp:SJ K (.ref f)=true
section
variable{K:O4}{base:O7}
theorem lA.ok{N:O Str}{k:Nat}(F:lA K x qual st f fd)(S:aA N ps (ze st))(b:∀vs H Q E,sp vs H Q E->vs.length=ps.length)(a:∀(cdv:I) (A:mf) (outer:O Env) (s:Sh) (H:Hp) (vs:O V) (Q:VK) (E:XK),aO k (A.deeper (envOfC qual (ze st) s.heap.objs.size f cdv))->sp vs H Q E-> ∃t,dJ (X7 dX P w K mg base N qual (ze st) f cdv A outer s H E).nox (xq st) t/\t (.of Q) (start N vs) H):cH P w K mg base dX (k+1) f fd ps sp:=by obtain⟨o,n,kV,l,m,r,cdv,p,g,rfl,i,d⟩:=F.ex;refine E7 i d S b λA outer s H vs Q E j c=>?_;obtain⟨t,h,q⟩:=a cdv A outer s H vs Q E j c;exact⟨t,h.nox,q⟩
theorem lA.binds(F:lA K x qual st f fd)(h:∀(kV a c:I)(g:Option Y)(cdv d:I)(b:O I),b.length=ps.length->bindArgs (SF x qual (jh st) (xq st) (ze st) .none kV a c g cdv d) ⟨b,[]⟩=pure (ps.zip b)):Y9 K fd ps []:=by obtain⟨l,k,kV,a,c,g,cdv,d,i,rfl,m,j⟩:=F.ex;exact .all (h kV a c g cdv d)
theorem vC{j:I}{i g:Option Y}{kV a b cdv d:I}(l:K.lookup f=some ⟨j,i,.func (SF x qual (jh st) (xq st) (ze st) .none kV a b g cdv d),osl⟩)(c:SA K cdv qual=true) (k:SJ K (.ref f)=true):lA K x qual st f (SF x qual (jh st) (xq st) (ze st) .none kV a b g cdv d):=⟨⟨j,i,kV,a,b,g,cdv,d,osl,J,l,c⟩,k⟩
end
theorem ki{k:Nat}(a:aO k A):A.units+1<cLine:=gu (Rt (by decide) _) a.units
theorem yx{n:Nat}(h:n<=1000):n<TL:=gu h (by decide)
section
theorem pv(i:Nat)(hN:X.N[i]?=some x:=by rfl)(b:tY X.env.scope x:=by first|exact RW J|exact RX (RW J)|exact RX (RX J))(c:(x==("__debug__":Str))=false:=by decide)
 (a:(x==("__classdict__":Str))=false:=by decide):PE X (.Name x aE) (Yn i):=GK hN b c a
end
theorem yn{A B:Prop}(h:B):if false=true then A else B:=by simp_all
theorem xx{A B:Prop}(h:A):if true=true then A else B:=by simp_all
theorem Qp{c A B:Prop}[Decidable c](b:c->A)(a:¬c->B):if c then A else B:=by simp_all
def zh(H B:Hp):Prop:=∀b o,H b=some o->B b=some o
theorem zh.refl(H:Hp):zh H H:=λ_ _ h=>h
theorem zh.trans{d:Hp}(a:zh H d)(b:zh d H2):zh H H2:=λc o h=>b c o (a c o h)
theorem zh.seq{K:O4}(e:zh H H')(h:aK K H a xs):aK K H' a xs:=by rcases h with(h|⟨o,h⟩)|h;exact .inl (.inl (e _ _ h));exact .inl (.inr ⟨o,e _ _ h⟩);exact .inr h
section
variable{κ:Type}[DecidableEq κ]
theorem IJ{kvs:O (κ×V)}{k:κ}{v:V}(h:yv kvs k=some v):k∈kvs.map (·.1):=by
 have q:(kvs.any λa=>decide (a.1=k))=true:=by rw[Z4,h];rfl
 simp_all
end
section
theorem NQ{B a D:OP}{y t:Sr}(I:Nat->Sh->Prop)(z:∀e s',Ex e s'->notedBy (Tx prog w) A env (λx u=>R (.error x) u) e s')(l:∀n s,I n s->TX (Tx prog w) A (TD y) (λr b=>match r with
   |none=>R (.ok .next) b
   | some v=>TX (Tx prog w) A (letOwnedTupleGo a y v) (λ_ s₂=>TX (Tx prog w) A (assign a env v) (λ_ s₂=> TX (Tx prog w) A (forIn iD true λc r=>if r=true then do let ok<-isTrue c env (Tj c env);pure (O3 ok)else pure (O3 r)) (λok f=> if ok=true then TX (Tx prog w) A (Tj B env) (λx j=>TX (Tx prog w) A (call (.builtin "list.append") [t,x]) (λ_ i=>∃m,m<n/\I m i) (λ_ _=>False) j) Ex f
     else∃m,m<n/\I m f) (λ_ _=>False) s₂) (λ_ _=>False) s₂) (λ_ _=>False) b) (λ_ _=>False) s)
  (n:Nat) (h:I n s):
  Td (Tx prog w) A (.compLoop (.ListComp B [⟨a,D,iD,0⟩] scope aE) 0 y t env) R s:=by
 refine codeAny_loop J I (λn s C=>(wpAny_noted ?_)) n h;rw[compTurn_list];refine a9 (UW (a9 (fq (l n s C) (λr b d=>?_) λ_ _ g=>g.elim)));cases r with
 |none=>exact aa d
 | some v=>
   refine a9 (fq d (λ_ b d=>(a9 (fq d (λ_ s₂ q=>a9 (fq q (λok f k=>?_) λ_ _ g=>g.elim)) λ_ _ g=>g.elim))) λ_ _ g=>g.elim);cases ok with
   |false=>exact aa ⟨J,k⟩
   | true=>exact a9 (a9 (fq k (λx j p=>a9 (fq p (λ_ i o=>aa (aa ⟨J,o⟩)) λ_ _ g=>g.elim)) z))
end
noncomputable def eJ(B:Env):List (Str×Rp)->List (Str×lv)->List (Str×lv)|[],F=>F|(n,k)::r,F=>if k==.free then eJ B r ((n,(B.cells.lookup n).getD 0)::F)else eJ B r F
theorem Xq(j:∀x∈scope.names,x.2=.free->∃c,env.cells.lookup x.1=some c):closureFor scope env=pure (eJ env scope.names []):=by
 have go:∀(l:O (Str×Rp))(b:O (Str×Y)),(∀x∈l,x.2=.free->∃c,env.cells.lookup x.1=some c)->
   (forIn (m:=Sem) l b λx r=>(if(x.2==Rs)=true then do let a<-cellOf env x.1;pure (O3 ((x.1,a)::r))else pure (O3 r)))=pure (eJ env l b):=by
  intro l;induction l with|nil=>intro b _;rfl| cons p r f=>
    obtain⟨n,k⟩:=p;intro b h;have g:=λx i=>h x (bp _ i);rw[QB];by_cases hk:k=.free;subst hk;obtain⟨c,m⟩:=h (n,.free) bv J;have e:cellOf env n=pure c:=by unfold cellOf;rw[m]
    rw[kP (by rfl),e,pure_bind,pure_bind];dsimp only;rw[f _ g];show _=pure (if(Rs==.free)=true then eJ env r ((n,(env.cells.lookup n).getD 0)::b)else eJ env r b)
    simp_all
    have d:(k==Rs)=false:=by simp_all
    rw[d,kr cy,pure_bind];dsimp only;rw[f _ g];show _=pure (if(k==.free)=true then eJ env r ((n,(env.cells.lookup n).getD 0)::b)else eJ env r b);rw[d,kr cy]
 have e:=go scope.names [] j;unfold closureFor
 simp_all
theorem Wx{a:Env}{x:Str}{c:lv}:∀{l:List (Str×Rp)}{b:List (Str×lv)},(∀x∈l,x.2=.free->∃c,a.cells.lookup x.1=some c)->(eJ a l b).lookup x=some c->b.lookup x=some c\/a.cells.lookup x=some c
 |[],b,_,h=>.inl h
 | (n,k)::r,b,hf,h=>by
   have d:=λx f=>hf x (bp _ f);unfold eJ at h;split at h
   rename_i hk
   obtain⟨i,g⟩:=hf (n,k) bv (by simp_all);rcases Wx d h with q|q
   grind
   simp_all
   exact Wx d h
theorem Vw{b:Env}{x:Str}:∀{l:List (Str×Rp)}{a:List (Str×lv)},(x,Rs)∈l\/(∃c,a.lookup x=some c)->∃c,(eJ b l a).lookup x=some c
 | [],a,h=>by rcases h with h|h;cases h;exact h
 | (n,k)::r,a,h=>by
   unfold eJ;split
   rename_i hk
   have hk:k=.free:=by simp_all
   subst hk;refine Vw ?_;rcases h with h|⟨c,h⟩;rcases bc.mp h with h|h
   simp_all
   simp_all
   grind
   rename_i hk
   refine Vw ?_
   grind
theorem Vh(a:∀y∈scope.names,y.2≠ .cell)(h:(relabel scope env).names.lookup x=some .cell\/(relabel scope env).names.lookup x=some .free):(x,Rs)∈scope.names:=by
 have go:∀(l:O (Str×Rp)),(∀y∈l,y.2≠ .cell)->∀k,(k=Rq\/k=.free)->
   (l.map λ(n,k)=>if(k==Rs && env.scope.kind==.function && env.kindOf n==some .cell)then(n,Rq)else(n,k)).lookup x=some k->(x,Rs)∈l:=by intro l;induction l with|nil=>simp| cons p r b=>grind
 rcases h with h|h;exact go scope.names a _ (.inl J) h;exact go scope.names a _ (.inr J) h
abbrev lH(B:List Sr):Obj:={cls:=.type "list",data:=.seq B.toArray B.length}
theorem LC(a:O I)(u:I):({cls:=.type "list",data:=.seq (a.toArray.push u) (a.length+1)}:Obj)=lH (a++[u]):=by simp
noncomputable def bQ(k:Nat)(cap:List Nat)(B:St):St:=Rk k none++cap.map λj=>(B[j]?).getD none
noncomputable def nI(own:List Str)(cap:List Nat)(N:List Str):List Str:=own++cap.map λj=>(N[j]?).getD Str.empty
def qt(X:Cx)(own:List Str)(cap:List Nat)(B:Sc)(C:lv)(Z:List lv)(F:Sh)(U:Hp):Cx:={X with N:=nI own cap X.N,s₀:=F,H₀:=U,env:=compEnvC B (eJ X.env B.names []) C X.env,outer:=X.stack,ex:=Z,fn:=λ_=>false,pn:=[],xe:=λ_ _=>False}
def pJ(X:Cx)(B:Sc):List Nat->Prop|[]=>True|j::r=>(∃x,X.N[j]?=some x/\(X.env.scope.names.lookup x=some .cell\/X.env.scope.names.lookup x=some .free)/\(relabel B X.env).names.lookup x≠some .local)/\pJ X B r
theorem pJ.mem{X:Cx}{c:Sc}:∀{cap:List Nat},pJ X c cap->∀j∈cap,∃x,X.N[j]?=some x/\(X.env.scope.names.lookup x=some .cell\/X.env.scope.names.lookup x=some .free)/\(relabel c X.env).names.lookup x≠some .local|[],_,_,h=>nomatch h| _::_,⟨a,b⟩,j,h=>by rcases bc.mp h with rfl|h;exact a;exact pJ.mem b j h
structure aX(X:Cx)(own:List Str)(cap:List Nat)(scope:Sc):Prop where
 kind:scope.kind=.function
 free:∀x∈scope.names,x.2=.free->X.env.kindOf x.1=some .cell\/X.env.kindOf x.1=some .free
 cell:∀x∈scope.names,x.2≠ .cell
 names:∀x∈scope.names,x.2=.local->scope.names.lookup x.1=some .local
 cap:pJ X scope cap
section
variable{H₂:Hp}{s₂:Sh}{own:List Str}{C:lv}
theorem aX.has(S:aX X own cap scope)(a:X.Ok):∀x∈scope.names,x.2=.free->∃c,X.env.cells.lookup x.1=some c:=λx b hk=>a.has _ (S.free x b hk)
theorem aX.look(S:aX X own cap scope)(a:X.Ok)(h:(eJ X.env scope.names []).lookup x=some c):X.env.cells.lookup x=some c:=by rcases Wx (S.has a) h with q|q;cases q;omega
theorem Un.cellK{g a:O Y}{h:O7}(u:Un g a H H' h h')(n:H c=none)(b:c ∉ a)(z:h.IsCell c v):h'.IsCell c v:=by obtain⟨o,d,f⟩:=z;obtain⟨i,e⟩:=u.any d n b;exact⟨_,e,f⟩
theorem Ln(I:Inv X pins σ H₂ s₂)(S:aX X own cap scope)(f:∀b∈fp,Jf X pins H₂ b)(g:s₂.heap.objs.size<=C)(d:∀b∈fp,b<s₂.heap.objs.size):(qt X own cap scope C fp s₂ H₂).Ok where
 mod:=I.ok.mod
 kind:=S.kind
 glob:=I.ok.glob
 blt:=I.ok.blt
 above:=g
 inj:=λx y c j i=>I.ok.inj x y c (S.look I.ok j) (S.look I.ok i)
 has:=λx h=>Vw (.inl (Vh S.cell h))
 cab:=λx c h=>by cases h
 hd:=I.ok.hd
 frames:=I.ok.frames
 stk:=.inl J
 exf:=λb a=>⟨br (dc (d b a) g),λx c h=>(f b a).2.2.2.2.1 x c (S.look I.ok h)⟩
 bs:=I.bs
 bsz:=dq I.ok.bsz I.sz
 noex:=λb o e a=>by rcases(f b a).2.2.2.1 with z|z;exact I.ok.noex b o e z;exact kS (dc (bf e) (dq I.ok.bsz z)) (f9 _)
 exfs:=λb a z=>by rcases bc.mp (I.stkSub b z)with e|e;exact(f b a).2.1 e;exact(f b a).2.2.1 e
 funs:=I.stack
 frf:=λb a=>I.stkFree b a
theorem Cm(I:Inv X pins σ H₂ s₂)(S:aX X own cap scope)(f:∀b∈fp,Jf X pins H₂ b){F:List lv}(u:Un F fp H₂ H' s₂.heap h')(m:Str->Option Sr):∀(i:Nat)(x:Str)(v:V),(nI own cap X.N)[i]?=some x->(bQ own.length cap σ)[i]?=some (some v)->tY (relabel scope X.env) x->∃q,yf v q/\yL (compEnvC scope (eJ X.env scope.names []) C X.env) h' m x q:=by
 intro i x v a k E;unfold bQ at k;unfold nI at a;by_cases D:i<own.length
 grind
 rw[QE (by simpa using D)]at k a;rw[ie]at k;rw[bq]at a k;cases e:cap[i-own.length]? with|none=>simp_all| some j=>
   rw[e]at a k;obtain⟨y,t,hk,n⟩:=S.cap.mem j (dj e);have a:(X.N[j]?).getD Str.empty=x:=RV a;rw[t]at a;have a:y=x:=a;subst a;have p:σ[j]?=some (some v):=by grind
   obtain⟨G,H,B⟩:=I.loc;obtain⟨q,r,l⟩:=B j y v t p (.inr hk);refine⟨q,r,?_⟩;rcases l with⟨s,_⟩|⟨_,c,o,z⟩;have s:X.env.scope.names.lookup y=some .local:=s
   simp_all
   have d:=E.resolve_left n;obtain⟨L,g⟩:=Vw (.inl (Vh S.cell d));have w:=S.look I.ok g;rw[o]at w;cases w;exact .inr ⟨d,c,g,u.cellK (I.freeC y c o) (λA=>(f c A).2.2.2.2.1 y c o J) z⟩
theorem Dp(I:Inv X pins σ H₂ s₂)(S:aX X own cap scope)(f:∀b∈fp,Jf X pins H₂ b)(J:Inv (qt X own cap scope C fp s₂ H₂) cI σ' H' s'):Inv (qt X own cap scope C fp s₂ H₂) cI (bQ own.length cap σ) H' s':=by obtain⟨m,a,_⟩:=id J.loc;refine⟨J.ok,J.os,J.bare,J.base,⟨m,a,Cm I S f J.base m⟩,J.cell,J.free,J.freeC,J.pin,J.hok,?_⟩;unfold bQ;show _=(nI own cap X.N).length;unfold nI;simp
theorem Cl{D:Y}{j:O V}(I:Inv X pins σ H₂ s₂)(f:∀b∈fp,Jf X pins H₂ b)(J:Inv (qt X own cap scope C fp s₂ H₂) cI σ' H' s')(w:Pc C s'.heap h') (z:s₂.heap.objs.size<=C) (y:s₂.heap.objs.size<=D) (m:D≠C) (x:s'.heap.get? D=some (lH us)) (i:H' D=none) (hl:j.length<=TL) (r:yi j us):
  Inv X pins σ (ji H' D (.lst j)) {s' with heap:=h'}:=by
 have same:∀b o,b≠C->s'.heap.get? b=some o->h'.get? b=some o:=λb o a e=>(w.2 b a).trans e;have p:∀b o,s₂.heap.get? b=some o->b≠C/\b≠D:=λb o e=>⟨br (dc (bf e) z),br (dc (bf e) y)⟩
 have u:=J.base;have P:H' C=none:=J.free;have l:bR X.prog X.w (ji H' D (.lst j)) h':=by
  intro b t e;by_cases a:b=D;subst a;rw[zd]at e;cases e;exact⟨hl,us,us.length,r,same b _ m x⟩;rw[ja a]at e;refine(J.hok b t e).stay (λc v E q=>same c v ?_ q) (λc q=>?_) λc k q=>?_
  grind
  rw[ja (zi q i)];exact q;rw[ja (zi q i)];exact q
 refine I.call' (ch:=fp) J.os ⟨λb o e n a d=>?_,λb o e n a d=>?_,λb o e n d=>?_,λb o e d=>?_,λb k e=>?_,λb o k e=>?_,λb s e=>?_⟩ l J.bare λb a=>?_;exact same b o (p b o e).1 (u.keep b o e n a d);obtain⟨A,q⟩:=u.slot b o e n a d
 simp_all
 rw[ja (p b o e).2];exact u.free b o e n d;obtain⟨B,q⟩:=u.there b o e d
 simp_all
 have q:=u.tups b k e;rw[ja (zi q i)];exact q;have q:=u.frzs b o k e;rw[ja (zi q i)];exact q;obtain⟨g,q⟩:=u.tbls b s e;exact⟨g,(ja (zi q i)▸q)⟩;obtain⟨N,M,L,H,G,F⟩:=f b a
 grind
end
def qO(X:Cx)(B:List OP)(t:TT):Prop:=
 ∀ (pins:List (lv×Obj)) (s:Sh) (σ:St) (H:Hp) (Q:Bool->Hp->Prop),Inv X pins σ H s->t σ H Q->
   TX (Tx X.prog X.w) X.A (forIn B true λc r=>if r=true then do let ok<-isTrue c X.env (Tj c X.env);pure (O3 ok)else pure (O3 r)) (TP X pins σ Q) X.xe s
def pI:TT:=λ_ H Q=>Q true H
theorem wv:qO X [] pI:=by intro a s b H Q I h;exact aa ⟨H,I,h⟩
theorem Xz{c:OP}{t:TT}(h:PT X c t):qO X [c] t:=by intro a s d H Q I g;rw[QB];rw[kP J];refine a9 (a9 (aH (h a s d H Q I g) λb k ⟨j,i,f⟩=>(aa ?_)));dsimp only;rw[QC];exact aa ⟨j,i,f⟩
inductive bV(J:It)(g:TG)(tc:TT)(te:TE)(k:Nat)(cap:List Nat)(σ:St)(H:Hp)(Q:VK):Prop| mk:∀W:Nat->Nat->List V->Hp->Prop,(∃m,W 0 m [] H)->(∀i m ys H,W i m ys H-> (J.stop i H/\ys.length<=TL/\∀p,H p=none->Q (.ref p) (ji H p (.lst ys)))\/
   (J.go i H/\ys.length<=TL/\∃N:List V->Hp->Prop,(∀ys' H',N ys' H'->∃m',m'<m/\W (i+1) m' ys' H')/\∀x H',J.yld i H x H'->g x (bQ k cap σ) H' λσ2 H2=>tc σ2 H2 λb H3=>if b=true then te σ2 H3 λy H4=>N (ys++[y]) H4 else N ys H3))->bV J g tc te k cap σ H Q
def DA(B:TI)(g:TG)(F:TT)(te:TE)(k:Nat)(cap:List Nat):TE:=λσ H Q=>B σ H λJ H1=>bV J g F te k cap σ H1 Q
section
variable{own:List Str}{bW iN:OP}{wi:TI}
theorem Cc{Zw:Cx->O Str->O Nat->Sc->Y->O Y->Sh->Hp->I->Sh->Prop}{f:Sh}{tn:Nat->O7->Prop}{J:It}{W:Nat->Nat->O V->Hp->Prop}{m0:Nat}{QQ:O V->Hp->Prop}{RR:I->Y->Sb->Sh->Prop}(hc:X.calm=true) (S:aX X own cap scope)
  (hg:∀C fp s₂ H₂,PG (qt X own cap scope C fp s₂ H₂) tg g) (ht:∀C fp s₂ H₂,qO (qt X own cap scope C fp s₂ H₂) iD tc) (he:∀C fp s₂ H₂,PE ((qt X own cap scope C fp s₂ H₂).wish (Zw X own cap scope C fp s₂ H₂)) iN te)
  (E:Inv X pins σ H2 f) (T:cY X.prog X.w X.K tg J fp it tn) (a6:tn 0 f.heap) (f2:∀b∈fp,Jf X pins H2 b) (w0:W 0 m0 [] H2)
  (az:∀i m l H,W i m l H-> (J.stop i H/\l.length<=TL/\QQ l H)\/
   (J.go i H/\l.length<=TL/\∃N:O V->Hp->Prop,(∀ay t,N ay t->∃m',m'<m/\W (i+1) m' ay t)/\∀x t,J.yld i H x t->g x (bQ own.length cap σ) t λax H2=>tc ax H2 λb H3=>if b=true then te ax H3 λy H4=>N (l++[y]) H4 else N l H3))
  (hZ:∀(D C:Y)(e:I)(P:Sh),Zw X own cap scope C fp f H2 e P->notedBy (Tx X.prog X.w) X.A (compEnvC scope (eJ X.env scope.names []) C X.env) (λx bg=>RR (.ref D) C (.error x) bg) e P)
  (bj:∀(D C:Y) (cI:O (Y×Obj)) (bd:St) (t:Hp) (P:Sh) (w:O I) (l:O V),Inv (qt X own cap scope C fp f H2) cI bd t P->f.heap.objs.size<=C->f.heap.objs.size<=D->D≠C->P.heap.get? D=some (lH w)->t D=none-> l.length<=TL->yi l w->QQ l t->RR (.ref D) C (.ok .next) P):
  TX (Tx X.prog X.w) X.A (newList []) (λbb s=>TX (Tx X.prog X.w) X.A (newFunctionEnv scope X.env.globals (eJ X.env scope.names []) [] X.env.qual none .none (some X.env)) (λU a3=>Td (Tx X.prog X.w) X.A (.compStart (.ListComp iN [⟨tg,bW,iD,0⟩] scope aE) 0 (.ref it) bb {U with scope:=relabel scope X.env}) (RR bb U.locals) a3) X.xe s) X.xe f:=by
 refine fe (wpAny_newFunctionEnv S.cell (by intro y hy;simp at hy) (λG A k=>?_) S.kind);generalize ak:f.heap.push {cls:=.type "list",dict:=none,data:=.seq [].toArray}=g2 at A k⊢;have aq:g2.objs.size=f.heap.objs.size+1:=by rw[<-ak,gm]
 have hC:f.heap.objs.size<=g2.objs.size:=aq▸Ry _;have ap:f.heap.objs.size≠g2.objs.size:=aq▸br (dz _);have below:∀b,b<f.heap.objs.size->b≠g2.objs.size/\b≠f.heap.objs.size:=λb j=>⟨(aq▸br (RD j)),br j⟩
 have bU:=λb o e=>k.extBut b o (below b (bf e)).1 (be _ (ak▸be _ e));have aj:∀b∈fp,b<f.heap.objs.size:=λb j=>by obtain⟨o,e,_⟩:=T.obj _ _ a6 b j;exact bf e
 have B:∀a,f.heap.objs.size<=a->H2 a=none:=λa ha=>E.hok.fresh ha;have ok:=Ln E S f2 hC aj;have a7:=T.keep _ _ _ a6 λb j o e=>bU b o e;let M:=qt X own cap scope g2.objs.size fp f H2;have u1:Un (iM X.stack) fp H2 H2 f.heap G:=Un.kept bU;have start:Inv M [(f.heap.objs.size,lH [])] (bQ own.length cap σ) H2 {f with heap:=G,toks:=f.toks+([]:O (Str×I)).length}:=by
  refine⟨ok,rfl,E.bare,u1,⟨_,A,Cm E S f2 u1 _⟩,λx c e=>?_,B _ hC,λx c e=>E.freeC x c (S.look E.ok e),λp Q=>?_,E.hok.kept bU,?_⟩;obtain⟨v,z⟩:=E.cell x c (S.look E.ok e);obtain⟨o,ho,hd⟩:=z;exact⟨v,o,bU c o ho,hd⟩;have e:p=(f.heap.objs.size,lH []):=by simpa[M,qt]using Q
  subst e;refine⟨(k.extBut _ _ ap (be _ (ak▸cb _ rfl))),B _ (au _),ap,λz=>?_,λv z=>by cases z⟩;obtain⟨_,o,ho,_⟩:=E.stack.mem z;exact kS (bf ho) (f9 _);unfold bQ;show _=(nI own cap X.N).length;unfold nI;simp
 have F:∀{D:Y}{o:Obj}{t:Hp},f.heap.objs.size<=D->(∀b∈fp,t b=none)->∀b∈fp,Jf M [(D,o)] t b:=λ{D o t} hD hn b j=>
  ⟨hn b j,(ok.exf b j).1,ok.exfs b j,.inl j,λx c e=>(ok.exf b j).2 x c e,λp Q=>by
   have e:p=(D,o):=by simpa[M,qt]using Q
   subst e;exact ae (br (dc (aj b j) hD))⟩
 have R:∀s:Sh,s={f with heap:=G,toks:=f.toks+([]:O (Str×I)).length}->
   Td (Tx X.prog X.w) X.A (.compLoop (.ListComp iN [⟨tg,bW,iD,0⟩] scope aE) 0 (.ref it) (.ref f.heap.objs.size) (compEnvC scope (eJ X.env scope.names []) g2.objs.size X.env))
    (RR (.ref f.heap.objs.size) g2.objs.size) s:=by
  rintro s rfl;refine NQ (λn P=>∃i t w l,Inv M [(f.heap.objs.size,lH w)] (bQ own.length cap σ) t P/\tn i P.heap/\(∀b∈fp,t b=none)/\yi l w/\W i n l t) (hZ _ _) ?_ m0
   ⟨0,H2,[],[],start,a7,λb j=>(f2 b j).1,.nil,w0⟩
  rintro n s3 ⟨i,H3,w,l,I3,a5,ba,rv,w3⟩;rcases az i n l H3 w3 with⟨a4,hl,qn⟩|⟨go,hl,N,hN,step⟩;refine aH (T.done M rfl rfl rfl hc i _ s3 _ H3 _ I3 (F (au _) ba) a5 a4) λr s4 ⟨hr,I4⟩=>?_;subst hr;have L:=I4.pin (f.heap.objs.size,lH w) (di _ bv);exact bj _ _ _ _ H3 s4 w l I4 hC (au _) ap L.1 L.2.1 hl rv qn;refine aH (T.item M rfl rfl rfl hc i _ s3 _ H3 _ I3 (F (au _) ba) a5 go) λr s4 ⟨u,hr,h4⟩=>?_;subst hr;refine aH h4 λ_ s5 ⟨x,H5,I5,r5,y5,ah,bl⟩=>(aH (hg _ _ _ _ _ s5 _ H5 x u _ (I5.pinned (F (au _) bl) (T.obj _ _ ah)) r5 (step x H5 y5)) λ_ s6 ⟨aw,H6,I6,q6⟩=>(aH (ht _ _ _ _ _ s6 aw H6 _ I6 q6) λb s7 ⟨H7,I7,q7⟩=>?_))
  have aS:∀{av:St}{H8:Hp}{s8:Sh},Inv M ([(f.heap.objs.size,lH w)]++Kq fp s5.heap) av H8 s8->tn (i+1) s8.heap/\∀b∈fp,H8 b=none:=λ{av H8 s8} Z=>by refine⟨T.keep _ _ _ ah λb j o e=>(Z.pin (b,o) (di _ (di _ (Y4 j e)))).1,λb j=>?_⟩;obtain⟨o,e,d⟩:=T.obj _ _ ah b j;exact(Z.pin (b,o) (di _ (di _ (Y4 j e)))).2.1
  cases b with| false=>
    rw[kr cy]at q7;obtain⟨m',hm,w7⟩:=hN _ _ q7;rw[kr cy];obtain⟨t7,n7⟩:=aS I7;exact⟨m',hm,i+1,H7,w,l,Dp E S f2 I7.unpinned,t7,n7,rv,w7⟩| true=>
    rw[kP rfl]at q7;rw[kP rfl];refine fq (he _ _ _ _ _ s7 aw H7 _ (I7.wish _) q7) (λy s8 h8=>?_) λ_ _ z=>z;obtain⟨z,H8,Z,r8,bi⟩:=h8;have Z:=Z.unwish;obtain⟨m',hm,w8⟩:=hN _ _ bi;obtain⟨t8,n8⟩:=aS Z;have p8:=Z.pin (f.heap.objs.size,lH w) (di _ (ee _ bv));have bn:=rv.length▸hl;refine append_at p8.1 λh9 a8 bk=>⟨m',hm,i+1,H8,w++[y],l++[z],?_,T.keep _ _ _ t8 λb j o e=>(a8.2 b (λq=>?_)).trans e,n8,yi.append rv (.cons r8 .nil),w8⟩
    have J1:Inv M [] (bQ own.length cap σ) H8 {s8 with heap:=h9,toks:=s8.toks}:=((Dp E S f2 Z).pins_of λp Q=>by cases Q).turned (λb o j e=>(a8.2 b j).trans e) p8.2.1 p8.2.2.1 (.inr (au _)) (λx c e q=>by
     obtain⟨v,hv⟩:=E.cell x c (S.look E.ok e);exact kS (dc hv.lt (q▸au _)) (f9 _)) (λp Q=>by
     have:p∈[]:=by simpa[M,qt]using Q
     cases this)
    exact J1.pins_of λp Q=>by
     have e:p=(f.heap.objs.size,lH (w++[y])):=by simpa using Q
     subst e;exact⟨(bk.trans (kW some (LC w y))),p8.2.1,p8.2.2.1,p8.2.2.2.1,λv z=>by cases z⟩
    exact kS (aj b j) (q▸f9 _)
 exact codeAny_compStart_list (R _ rfl) (T.self _ 0 _ _ _ a7 (R _ rfl))
theorem q8(F:X.calm=true)(S:aX X own cap scope)(B:PI X tg bW wi)(E:∀C fp s₂ H₂,PG (qt X own cap scope C fp s₂ H₂) tg g) (y:∀C fp s₂ H₂,qO (qt X own cap scope C fp s₂ H₂) iD tc) (he:∀C fp s₂ H₂,PE (qt X own cap scope C fp s₂ H₂) iN te)
  (z:∀x,foldedSetIterable bW X.env x=pure x:=by intro _;rfl):PE X (.ListComp iN [⟨tg,bW,iD,0⟩] scope aE) (DA wi g tc te own.length cap):=by intro b s r H Q I h;rw[eval_ListComp];refine Ud rfl z (Xq (S.has I.ok)) S.kind S.names (aH (B b s r H _ I h) λv s1 N=>aH N λw Z M=>?_);obtain⟨it,fp,U,J,H2,e,o,T,c,l,W,⟨m0,t⟩,a⟩:=M;subst e;refine Cc (Zw:=λ_ _ _ _ _ _ _ _ _ _=>False) F S E y he o T c l t a (λ_ _ _ _ h=>h.elim) λD C cI p H' s' R P n L G i j k A u q=>?_;obtain⟨m,f,_⟩:=id n.loc;exact⟨m,f,λh' d=>⟨.ref D,_,Cl o l n d L G i j k A u,rfl,q D k⟩⟩
def Em(i:Nat)(te:TE):TS:=λD σ H=>te σ H λx H1=>D.nx (σ.set i (some x)) H1
theorem zT{y:Str}{Q d:Pos}(hc:X.calm=true)(S:aX X own cap scope)(hi:PI X tg bW wi)(hg:∀C fp s₂ H₂,PG (qt X own cap scope C fp s₂ H₂) tg g) (ht:∀C fp s₂ H₂,qO (qt X own cap scope C fp s₂ H₂) iD tc) (he:∀C fp s₂ H₂,PE (qt X own cap scope C fp s₂ H₂) iN te)
  (hN:X.N.Nodup) (hy:X.N[i]?=some y) (hl:X.env.scope.names.lookup y=some .local)
  (w:swapsWith (.ListComp iN [⟨tg,bW,iD,0⟩] scope aE) (some (.Name y Q)) d.line X.env=pure true)
  (hs:∀x,foldedSetIterable bW X.env x=pure x:=by intro _;rfl):PS X (.Assign [.Name y Q] (.ListComp iN [⟨tg,bW,iD,0⟩] scope aE) d) (Em i (DA wi g tc te own.length cap)):=by
 intro l s P H D I h;rw[exec_Assign_Name_used _ _ _ _ w];refine a9 (UW (a9 ?_));refine a9 (fq (Ud rfl hs (Xq (S.has I.ok)) S.kind S.names (aH (hi l s P H _ I h) λv s1 h1=>aH h1 λah s2 h2=>?_)) (λ_ s' hq=>aa (aa hq)) λ_ _ e=>e)
 obtain⟨it,fp,tn,J,H2,e,f,T,r,U,W,⟨m0,w0⟩,k⟩:=h2;subst e;refine Cc (Zw:=λ_ _ _ _ _ _ _ _ _ _=>False) hc S hg ht he f T r U w0 k (λ_ _ _ _ h=>h.elim) λL C cI Z H' s' us ys N j hD n M R E rv q=>?_;obtain⟨m,B,_⟩:=id N.loc;refine wpAny_assign_Name (De (Cl f U N ⟨rfl,λ_ _=>rfl⟩ j hD n M R E rv) hN hy (.inl hl) (v:=.ref L) rfl (λs5 I5 F=>?_) (.inr hl));have t:∀a,(a=X.env.locals\/X.env.cells.lookup y=some a)->C≠a:=λa G z=>by rcases G with e|e;exact kS (dc f.lt (by rw[<-e,<-z];exact j)) (f9 _);obtain⟨v,u⟩:=f.cell y a e;exact kS (dc u.lt (z▸j)) (f9 _)
 obtain⟨a,sb,G⟩:=F;refine⟨m,B.sameBut sb (t a G),λh6 A=>⟨P.set i (some (.ref L)),_,(I5.turned (λb o hb e=>(A.2 b hb).trans e) (ja (ae n)▸N.free) ?_ (.inr (dq f.sz j)) (λx c e z=>?_) λp hp z=>?_),q L R⟩⟩;exact λz=>kS (dc f.lt (z▸j)) (f9 _);obtain⟨v,u⟩:=f.cell x c e;exact kS (dc u.lt (z▸j)) (f9 _);exact kS (dc (bf (f.pin p hp).1) (z▸j)) (f9 _)
end
section
inductive pp(K:O4)(xs:List V)(H:Hp)(Q:VK):Prop|mk:∀x n t b,xs=[x,.ty n]->cO K H x t->SM K t (.type n)=some b->Q (.bl b) H->pp K xs H Q
theorem IV:j6 X (.builtin "isinstance") (pp X.K):=by intro a s i H j k Q I r h;obtain⟨x,n,t,b,rfl,c,e,q⟩:=h;obtain⟨u,l,rfl,g,f⟩:=uM r;cases(f);exact Lx I g c e λd=>⟨.bl b,H,I.tok d,J,q⟩
theorem C4:cQ X (compareOp .LtE) (λx y H Q=>∃i j,x=.str i/\y=.str j/\Q (.bl (!decide (j.cps.toList<i.cps.toList))) H):=by intro a s d H x y v u Q I c b h;obtain⟨i,j,rfl,rfl,q⟩:=h;obtain⟨t,rfl⟩:=c;obtain⟨f,rfl⟩:=b;exact P.le_str (xi I q J)
theorem Zn(y:X.calm=true):j6 X (.builtin "all") (λxs H Q=>∃(a:lv)(bs:List Bool),xs=[.ref a]/\aK X.K H a (bs.map V.bl)/\Q (.bl (bs.all id)) H):=by
 intro k s B H xs C Q I r h;obtain⟨a,bs,rfl,l,q⟩:=h;obtain⟨u,rfl,m⟩:=Zg r;cases m;obtain⟨c,g,p,F⟩:=I.list l;have j:=g.length;rw[ag]at j;refine call_all_walk (UH p.isList ⟨s.heap.objs.size,_,_,_,_,_,λi=>(bs[i]?).getD false,J,Walks.list (A:=X.A.in1) (I.ok.hd y) s.heap.objs.size a (br (by obtain⟨_,e,_⟩:=p.isList;exact bf e)) c.toArray,⟨⟨_,cb _ J,J,J⟩,p.isList.push _⟩,?_,λG D hk=>?_⟩);intro i v E L M hP f;have hP:c[i]?=some v:=by simpa using hP
 cases e:bs[i]? with| none=>have:=List.getElem?_eq_none_iff.mp e;rw[(List.getElem?_eq_none_iff.mpr (by omega))]at hP;cases hP| some b=>obtain⟨u,w,n⟩:=g.get (by rw[bq,e];rfl);rw[w]at hP;cases hP;cases(n);dsimp only at f;rw[e]at f;exact aa f
 have e:((Ri c.toArray.size).all λi=>(bs[i]?).getD false)=bs.all id:=by rw[dy,<-j];clear q l g j;rw[pb,fi,fi];constructor;intro h x t;obtain⟨i,d,rfl⟩:=List.mem_iff_getElem.mp t;have:=h i (cr.mpr d);simpa[d]using this;intro h i d;have d:=cr.mp d;have:=h (bs[i]) (QK d);simpa[d]using this
 rw[e];refine⟨.bl (bs.all id),H,I.kept λb o e=>hk b o (λA=>?_) (be _ e),J,q⟩;have z:b=s.heap.objs.size:=by simpa using A
 exact kS (bf e) (z▸f9 _)
theorem Do(U:X.calm=true):j6 X (.builtin "sum") (λxs H Q=>∃(a:Y)(ns:O Int),xs=[.ref a]/\aK X.K H a (ns.map V.int)/\(∀n∈ns,0<=n)/\ns.sum<2^63/\Q (.int ns.sum) H):=by
 intro C s Z H xs us Q I r h;obtain⟨a,ns,rfl,S,A,W,q⟩:=h;obtain⟨u,rfl,N⟩:=Zg r;cases N;obtain⟨c,B,p,hz⟩:=I.list S;have f:a<s.heap.objs.size:=by obtain⟨_,e,_⟩:=p.isList;exact bf e
 have E:=B.length;rw[ag]at E;have m:∀k,k<=ns.length->preSum (λi=>(ns[i]?).getD 0) k=(ns.take k).sum:=by intro k;induction k with|zero=>intro _;rfl| succ k w=>intro hk;rw[preSum,w (by omega),fh,(cg (by omega)),Rm];simp
 have D:∀(l:O Int),(∀n∈l,0<=n)->0<=l.sum:=by intro l;induction l with|nil=>intro _;exact fm _| cons a r w=>intro h;have W:=h a bv;have h2:=w λn d=>h n (bp _ d);rw[Rn];omega
 have L:∀k,(ns.take k).sum<=ns.sum:=by
  intro k;have e:ns.sum=(ns.take k).sum+(ns.drop k).sum:=by rw[<-Rm,List.take_append_drop]
  have:=D (ns.drop k) λn d=>A n (QY d);omega
 refine call_sum_walk (UH p.isList ⟨s.heap.objs.size,_,_,_,_,_,λi=>(ns[i]?).getD 0,J,Walks.list (A:=X.A.in1) (I.ok.hd U) s.heap.objs.size a (br f) c.toArray,⟨⟨_,cb _ J,J,J⟩,p.isList.push _⟩,?_,?_,?_,λh' G M hk=>?_⟩);intro b y;rw[gm];rcases bc.mp y with z|z;rw[z];exact dz _;have z:b=a:=by simpa using z
 rw[z];exact RD f;intro i v hP;have hP:c[i]?=some v:=by simpa using hP
 have F:i<ns.length:=by have:=(d7.mp hP).1;omega
 obtain⟨u,R,P⟩:=B.get (by rw[bq,cg F];rfl);rw[R]at hP;cases hP;obtain⟨t,rfl⟩:=(P)
 exact⟨t,by dsimp only;rw[cg F];rfl⟩;intro j g;rw[dy]at g;have g:j<ns.length:=by omega
 have x:=m (j+1) (by omega);have h3:=L (j+1);have h5:=D (ns.take j) λn d=>A n (QZ d);have h6:=A _ (QK g);rw[preSum,(m j (by omega)),cg g]at x;have x:(ns.take j).sum+ns[j]=(ns.take (j+1)).sum:=x;refine⟨?_,?_⟩;dsimp only;rw[cg g];unfold InLong;omega;rw[m (j+1) (by omega)];unfold InLong;omega;have e:preSum (λi=>(ns[i]?).getD 0) c.toArray.size=ns.sum:=by rw[dy,<-E,m _ (au _),gy]
 rw[e];refine⟨.int ns.sum,H,I.kept λb o e=>hk b o (λy=>?_) (be _ e),⟨M,J⟩,q⟩;have z:b=s.heap.objs.size:=by simpa using y
 exact kS (bf e) (z▸f9 _)
end
section
theorem MJ{t:Y}{v:I}(a:s.heap.IsTupleIter it t i)(f:s.heap.IsTuple t its)(d:its[i]?=some v)(k:∀g,g.IsTupleIter it t (i+1)->Pc it s.heap g->Q v {s with heap:=g}):TX (Tx prog w) A (vi (.ref it)) Q E s:=by obtain⟨o,c,l,b⟩:=id a;obtain⟨n,j,_,p,m⟩:=f;refine a9 (Uc a.typeIs PySem.F.slot_tuple_iterator_next (dk PySem.F.slot_tuple_iterator_next a.typeIs PySem.F.entry_tuple_iterator_next ?_ (PySem.F.args_tuple_iterator_next_1 _)));show TX _ _ (field (.ref it) 0>>=_) _ _ s;refine a9 (Ui c b J ?_);rw[kr (λz=>by grind)];refine a9 (Ui c b J (a9 (UR j m ?_)));simp only[dm,d];refine a9 (US c b (by simp) (aa ⟨v,J,aa (k _ ⟨_,Ph _ c (RL (RJ b _)),(RH ..).trans l,?_⟩ (Pe ..))⟩));rw[RJ b];rfl
theorem N6{t:Y}(d:A.handled=none)(a:s.heap.IsTupleIter it t i)(j:s.heap.IsTuple t its)(f:its[i]?=none)(k:∀g x,Pa it s.heap g->(∃o,g.get? x=some o/\o.cls=.type "StopIteration")->E (.ref x) {s with heap:=g}):TX (Tx prog w) A (vi (.ref it)) Q E s:=by
 obtain⟨o,c,q,b⟩:=id a;obtain⟨n,l,_,p,m⟩:=j;refine a9 (Uc a.typeIs PySem.F.slot_tuple_iterator_next (dk PySem.F.slot_tuple_iterator_next a.typeIs PySem.F.entry_tuple_iterator_next ?_ (PySem.F.args_tuple_iterator_next_1 _)));show TX _ _ (field (.ref it) 0>>=_) _ _ s;refine a9 (Ui c b J ?_);rw[kr (λz=>by grind)];refine a9 (Ui c b J (a9 (UR l m ?_)));simp only[dm,f];refine a9 (UQ (a9 (US c b (by simp) (a9 ?_))));refine a9 (fe (a9 (UD (by rfl) (fe (a9 (Um ?_)) (by size_fits)))) (by size_fits));first|rw[(d)]|rw[d]
 exact a9 (aa (UX (k _ _ (((Pe ..).extBut.push _).push _) ⟨_,cb _ J,J⟩)))
theorem M0{e t:Y}{v:I}{Q:Option I->Sh->Prop}(he:Ps s.heap e it i bU)(U:s.heap.IsTupleIter it t i)(ht:s.heap.IsTuple t its)(hv:its[i]?=some v)(a:e≠it)(k:∀g,IsEnumOut g e it ((i:Int)+1) v s.heap.objs.size->g.IsTupleIter it t (i+1)->g.get? s.heap.objs.size=some {cls:=.type "tuple",data:=.seq #[.int i s.toks,v]}->g.objs.size=s.heap.objs.size+1-> (∀b o,b≠e->b≠it->s.heap.get? b=some o->g.get? b=some o)->Q (some (.ref s.heap.objs.size)) {s with heap:=g,toks:=s.toks+1}):TX (Tx prog w) A (TD (.ref e)) Q E s:=by
 have hT:s.TypeIs (.ref e) "enumerate":=⟨_,he,J⟩
 refine a9 (Ua (Uc hT PySem.F.slot_enumerate_next (dk PySem.F.slot_enumerate_next hT PySem.F.entry_enumerate_next ?_ (PySem.F.args_enumerate_next_1 _))));obtain⟨L,gs,d,H,os⟩:=s;show TX _ _ (field (.ref e) 2>>=_) _ _ _;refine a9 (Ui he J J (a9 (MJ U ht hv λg1 y q=>?_)));have x:=(q.2 e a).trans he;refine a9 (Ui x J J (a9 (Ui x J J (a9 (wpAny_mkInt (a9 (UT x (by simp) λg2 F p=>(a9 (UT F (by simp) λM D n=>(a9 (Uz ?_)))))))))));have u:Ps (M.push {cls:=.type "tuple",data:=.seq #[.int i H,v]}) e it (i+1) bU:=be _ D;generalize c:M.push {cls:=.type "tuple",data:=.seq #[.int i H,v]}=G at u;have f:M.objs.size=L.objs.size:=by rw[n.1,p.1,q.1]
 have B:=bf he;have R:G.get? L.objs.size=some {cls:=.type "tuple",data:=.seq #[.int i H,v]}:=by rw[<-c,<-f];exact cb _ J
 have P:G.objs.size=L.objs.size+1:=by rw[<-c,gm,f]
 have S:∀b o,b≠e->b≠it->L.get? b=some o->G.get? b=some o:=λb o z N hb=>(c▸be _ (n.extBut b o z (p.extBut b o z (q.extBut b o N hb))))
 have C:G.IsTupleIter it t (i+1):=by rw[<-c];obtain⟨o,ho,r⟩:=(y.extBut p.extBut (ae a)).extBut n.extBut (ae a);exact⟨o,be _ ho,r⟩
 show TX _ _ (we (.ref e)>>=_) _ _ ⟨G,gs,d,H+1,os⟩;rw[f];clear c D n F p x q y f M g2 g1;refine a9 (a9 (Ui u J J (aa (a9 (UQ (a9 (Ui u J J (a9 (UT u (by simp) λg5 Z m=>(a9 ?_))))))))));refine a9 (UT Z (by simp) λg6 X l=>(UT X (by simp) λg7 W j=>(a9 (Ut (aa ⟨_,J,aa (k g7 W ?_ ?_ ?_ ?_)⟩)))));exact((C.extBut m.extBut (ae a)).extBut l.extBut (ae a)).extBut j.extBut (ae a);exact j.extBut _ _ (fc B) (l.extBut _ _ (fc B) (m.extBut _ _ (fc B) R));rw[j.1,l.1,m.1,P];exact λb o z N hb=>j.extBut b o z (l.extBut b o z (m.extBut b o z (S b o z N hb)))
theorem LY{e t:Y}{Q:Option I->Sh->Prop}(l:A.handled=none)(he:Ps s.heap e it i bU)(a:s.heap.IsTupleIter it t i)(f:s.heap.IsTuple t its)(d:its[i]?=none)(k:∀g,Pa it s.heap g->Q none {s with heap:=g}):TX (Tx prog w) A (TD (.ref e)) Q E s:=by
 have b:s.TypeIs (.ref e) "enumerate":=⟨_,he,J⟩
 refine a9 (Ua (Uc b PySem.F.slot_enumerate_next (dk PySem.F.slot_enumerate_next b PySem.F.entry_enumerate_next ?_ (PySem.F.args_enumerate_next_1 _))));show TX _ _ (field (.ref e) 2>>=_) _ _ _;exact a9 (Ui he J J (a9 (N6 l a f d λg x c ⟨o,j,m⟩=>(a9 (fz ⟨o,j,m⟩ Tk (aa (k _ c)))))))
theorem JO(t:Y)(a:Array I)(n:Nat)(i:Option Y)(m:Array (Option I)):
  Meets (Builtin.«enumerate.__new__» ⟨[.type "enumerate",.ref t],[]⟩) (λ_ R s=>s.heap.get? t=some {cls:=.type "tuple",dict:=i,data:=.seq a n,slots:=m}/\ R (.ok (.ret (.ref (s.heap.push {cls:=.type "tuple_iterator",data:=.fields #[.ref t,.int 0 0]}).objs.size)))
     {s with heap:=(s.heap.push {cls:=.type "tuple_iterator",data:=.fields #[.ref t,.int 0 0]}).push {cls:=.type "enumerate",data:=.fields #[.none,.bool false,.ref s.heap.objs.size,TF 0,.none,.none]}}):=
 .of_wp λj w A R s h=>by
  obtain⟨o,g,d,l,os⟩:=s;obtain⟨b,h⟩:=h;have k:=sub_enumerate;have f:Heap.IsTuple (Shared.heap ⟨o,g,d,l,os⟩) t a:=⟨_,b,J,n,J⟩
  wp_walk using ot b
  refine wpAny_stack_any λst=>aa ?_;split
  rename_i c _ _ _ _ _
  cases(c==Sy "enumerate")
  wp_walk using ot b,UK f
  exact⟨_,J,h⟩
  wp_walk using ot b,UK f
  exact⟨_,J,h⟩
  wp_walk using ot b,UK f
  exact⟨_,J,h⟩
theorem Mu{t:Y}(l:s.heap.IsTuple t its)(k:∀g,Ps g (s.heap.objs.size+1) s.heap.objs.size 0 .none->g.IsTupleIter s.heap.objs.size t 0->g.objs.size=s.heap.objs.size+2->(∀b o,s.heap.get? b=some o->g.get? b=some o)->Q (.ref (s.heap.objs.size+1)) {s with heap:=g}):
  TX (Tx prog w) A (call (.type "enumerate") [.ref t]) Q E s:=by
 obtain⟨⟨c,d,u,j⟩,m,r,n,p⟩:=l;subst r p;refine callType_new PySem.F.called_enumerate (by rfl) (PySem.F.typeCall_enumerate_1 _) (PySem.F.newCall_enumerate_1 _) (λa=>PySem.F.args_object_init_2 a _) PySem.F.entry_enumerate_new (JO t its n d j) ⟨m,?_⟩;have f:(s.heap.push {cls:=.type "tuple_iterator",data:=.fields #[.ref t,.int 0 0]}).objs.size=s.heap.objs.size+1:=gm ..;rw[f];have i:Ps ((s.heap.push {cls:=.type "tuple_iterator",data:=.fields #[.ref t,.int 0 0]}).push {cls:=.type "enumerate",data:=.fields #[.none,.bool false,.ref s.heap.objs.size,TF 0,.none,.none]}) (s.heap.objs.size+1) s.heap.objs.size 0 .none:=by
  have q:=cb (s.heap.push {cls:=.type "tuple_iterator",data:=.fields #[.ref t,.int 0 0]}) (o:={cls:=.type "enumerate",data:=.fields #[.none,.bool false,.ref s.heap.objs.size,TF 0,.none,.none]}) J
  grind
 refine⟨⟨_,i,J⟩,k _ i ⟨_,be _ (cb _ J),J,J⟩ (by rw[gm,f]) λb o e=>be _ (be _ e)⟩
end
def yH(K:O4)(a:lv):It:=⟨λi H=>∃xs x,aG K H a xs/\xs[i]?=some x,λi H x H'=>∃p y,x=.ref p/\H p=none/\H'=ji H p (.tup [.int i,y])/\∀xs,aG K H a xs->xs[i]?=some y,λi H=>∃xs,aG K H a xs/\xs.length<=i⟩
theorem L7{K:O4}{k1}(a e j:Y)(L:e≠j)(l:TL≥2):cY P w K (.Tuple cK k1 aE) (yH K a) [e,j] e (λi h=>(∃bU,Ps h e j i bU)/\h.IsTupleIter j a i) where
 mem:=by simp
 obj:=λi h st b l=>by
  obtain⟨⟨bU,A⟩,D⟩:=st;rcases bc.mp l with z|z
  simp_all
  have z:b=j:=by simp_all
  rw[z];obtain⟨o,F,c,d⟩:=D
  simp_all
 keep:=λi h h' st k=>by obtain⟨⟨bU,A⟩,o,F,r⟩:=st;exact⟨⟨bU,k e (by simp) _ A⟩,o,k j (by simp) o F,r⟩
 item:=by
  intro X hP Z hK hc i B s σ H E I hf st hg;subst hP Z hK;obtain⟨xs,x,G,hx⟩:=hg;obtain⟨U,R,p,hz⟩:=I.tuple G;obtain⟨u,hu,ru⟩:=R.get hx;obtain⟨⟨bU,A⟩,D⟩:=st;obtain⟨f0,f1,f2,f3,f4,f5⟩:=hf e (by simp);obtain⟨g0,g1,g2,g3,g4,g5⟩:=hf j (by simp);refine M0 A D (p) (by simpa using hu) L λg ho aj hT aq hk=>⟨.ref s.heap.objs.size,J,Uu ho λg' av C=>?_⟩
  have M:=fc (bf A);have ak:s.heap.objs.size≠j:=by obtain⟨o,F,_⟩:=D;exact fc (bf F)
  have y:=λb o N S z=>(C.2 b N).trans (hk b o N S z);have ap:=(C.2 _ M).trans hT;have f:=I.hok.fresh (au _);have I1:Inv X B σ (ji H s.heap.objs.size (.tup [.int i,x])) {s with heap:=g',toks:=s.toks+1}:=by
   refine I.step (ch:=[e,j]) (λb l=>?_) (λb o N S t z _=>y b o (λq=>t (by grind)) (λq=>t (by grind)) z)
    (λb o N S t z _=>⟨o.slots,y b o (λq=>t (by grind)) (λq=>t (by grind)) z⟩) (λb o t z n=>?_) (λb o t z=>⟨o,y b o (λq=>t (by grind)) (λq=>t (by grind)) z⟩)
    (λb Q z=>(ja (zi z f)▸z)) (λb o Q z=>(ja (zi z f)▸z)) (λb ps z=>⟨#[],by rw[ja (zi z f),z];simp⟩) (λm hm=>?_) (λb ob z=>?_) I.bare
   grind
   rw[ja (br (bf z))];exact n;obtain⟨o,es,ep,ah,r⟩:=hm;exact⟨o,es,ep,y _ o (ae f1) (ae g1) ah,r⟩;by_cases l:b=s.heap.objs.size;subst l;rw[zd]at z;cases z;exact⟨by omega,[.int i s.toks,u],.cons ⟨_,J⟩ (.cons ru .nil),⟨_,ap,J,_,J⟩,λq G=>by simp_all⟩
   rw[ja l]at z;refine(I.hok b ob z).stay (λc v hc q=>?_) (λc q=>(ja (zi q f)▸q)) λc Q q=>(ja (zi q f)▸q)
   grind
  refine⟨.ref s.heap.objs.size,_,I1,J,⟨_,x,J,f,J,λQ hy=>by rw[I.tuple_inj hy G];omega⟩,⟨⟨u,by grind⟩,?_⟩,λb l=>?_⟩;obtain⟨o,F,r⟩:=aj;exact⟨o,(C.2 j (ae L)).trans F,r⟩;rcases bc.mp l with q|q;rw[q,ja (ae M)];omega;have q:b=j:=by simp_all
  rw[q,ja (ae ak)];omega
 done:=by intro X hP Z hK hc i B s σ H E I hf st hg;subst hP Z hK;obtain⟨xs,G,hx⟩:=hg;obtain⟨U,R,p,hz⟩:=I.tuple G;obtain⟨⟨bU,A⟩,D⟩:=st;obtain⟨g0,g1,g2,g3,g4,g5⟩:=hf j (by simp);have hl:=R.length;exact LY (I.ok.hd hc) A D (p) (by simp_all) λg eb=>⟨J,I.turned (λb o l z=>eb b o l z) g0 g1 g3 g4 g5⟩
 self:=λ_ _ _ _ _ st h=>by obtain⟨⟨bU,A⟩,_⟩:=st;exact UG A h
section
inductive kM(K:O4)(R:It->Hp->Prop)(vs:List V)(H1:Hp):Prop|mk:∀a xs,vs=[.ref a]->aG K H1 a xs->R (yH K a) H1->kM K R vs H1
def Fa(K:O4)(ta:TA):TI:=λσ H R=>ta σ H λvs H1=>kM K R vs H1
theorem wZ{o}{E:Pos}{a:OP}{p:Pos}(B:Gl X "enumerate")(y:X.mg "enumerate"=none)(D:PA X [a] ta)(w:TQ [a] X.env=[(false,Tj a X.env)]:=by rfl):PI X (.Tuple cK o E) (.Call (.Name "enumerate" p) [a] [] aE) (Fa X.K ta):=by
 intro f s j H R I h;refine Call_ (Zs I B y boot_enumerate (R7 (aH (D aE f s j H _ I h) λM c ⟨L,F,d,l,m⟩=>?_) w J));obtain⟨t,G,e,x,q⟩:=m;subst e;obtain⟨u,rfl,k⟩:=Zg l;cases k;obtain⟨r,N,n,P⟩:=d.tuple x;refine Mu (n) λg i A v hk=>(UG i ⟨c.heap.objs.size+1,[c.heap.objs.size+1,c.heap.objs.size],_,_,F,J,d.kept hk,L7 t (c.heap.objs.size+1) c.heap.objs.size (Nat.succ_ne_self _) (by rw[TM];omega),⟨⟨_,i⟩,A⟩,λb C=>?_,q⟩)
 rcases bc.mp C with z|z;rw[z];exact d.fpOk (Ry _) (d.hok.fresh (Ry _));have z:b=c.heap.objs.size:=by simp_all
 rw[z];exact d.fpOk (au _) (d.hok.fresh (au _))
end
theorem xG{K:O4}(Pv:Nat->St->Hp->Prop)(l:Pv 0 σ H)(hl:∀i σ H,i<=xs.length->Pv i σ H->aG K H a xs)(s:∀i x σ H p,xs[i]?=some x->Pv i σ H->H p=none->g (.ref p) σ (ji H p (.tup [.int i,x])) λb H2=>tb (D.lp (Pv (i+1))) b H2) (k:∀σ H,Pv xs.length σ H->D.nx σ H):
  cB g tb D σ (yH K a) H:=by
 refine⟨λi m σ H=>m=xs.length-i/\i<=xs.length/\Pv i σ H,⟨xs.length,by simp,c9 _,l⟩,?_⟩;rintro i m σ H ⟨rfl,j,p⟩;have q:=hl i σ H j p;by_cases c:i<xs.length;refine .inr ⟨⟨xs,xs[i],q,by simp⟩,Pv (i+1),λf n d=>⟨xs.length-(i+1),by omega,J,c,d⟩,λx n y=>?_⟩;obtain⟨d,o,rfl,t,rfl,r⟩:=y
 grind
 have e:i=xs.length:=by omega
 subst e;exact .inl ⟨⟨xs,q,au _⟩,k σ H p⟩
noncomputable def yI(lo:Int)(n:Nat):It:=⟨λi _=>i<n,λi H x H'=>H'=H/\x=.int (lo-i),λi _=>n<=i⟩
theorem L6{K:O4}(a:Y)(lo:Int)(n:Nat):cY P w K tg (yI lo n) [a] a (λi h=>IsRangeIter h a (lo+(i:Nat)*(-1)) ((n:Int)-(i:Nat)) (-1)) where
 mem:=by simp
 obj:=λi h st b f=>by simp_all
 keep:=λi h y st k=>k a (by simp) _ st
 item:=by
  intro X hP g m l i d s z H E I hf st j;subst hP g m;obtain⟨x,u,C,r,q,p⟩:=hf a (by simp);refine(Walks.range (I.ok.hd l) a lo (-1) n).item i s _ _ j st λv y F B c A=>?_;obtain⟨t,rfl⟩:=B;refine⟨_,J,pU c J J (by rfl) ⟨.int (lo-i),H,(I.turned (λb o f e=>A b o (by simp_all) e) x u r q p),⟨t,?_⟩,⟨J,J⟩,c,λb f=>(hf b f).1⟩⟩
  grind
 done:=by intro X hP g m l i d s z H E I hf st j;subst hP g m;obtain⟨x,u,C,r,q,p⟩:=hf a (by simp);exact UN (I.ok.hd l) st (by have:n<=i:=j;omega) λy D=>⟨J,I.turned (λb o f e=>D b o f e) x u r q p⟩
 self:=λ_ _ _ _ _ st h=>UI st h
section
inductive kO(R:It->Hp->Prop)(vs:List V)(H1:Hp):Prop|mk:∀n:Nat,vs=[.int ((n:Int)-1),.int (-1),.int (-1)]->(n:Int)<2^62->R (yI ((n:Int)-1) n) H1->kO R vs H1
def E9(ta:TA):TI:=λσ H R=>ta σ H λvs H1=>kO R vs H1
theorem IU {a b c:OP} {p:Pos} (D:Gl X "range") (C:X.mg "range"=none) (F:PA X [a,b,c] ta) (B:TQ [a,b,c] X.env=[(false,Tj a X.env),(false,Tj b X.env),(false,Tj c X.env)]:=by rfl)
  (g:TQ [b,c] X.env=[(false,Tj b X.env),(false,Tj c X.env)]:=by rfl):
  PI X tg (.Call (.Name "range" p) [a,b,c] [] aE) (E9 ta):=by
 intro d s m H R I h;refine Call_ (Zs I D C boot_range (R7 (aH (F aE d s m H _ I h) λP j ⟨N,u,M,y,A⟩=>?_) (by rw[B,g]) (by rw[g];rfl)));obtain⟨n,e,Q,q⟩:=A;subst e;cases y with| cons r f=>
   cases f with| cons z f=>
     cases f with| cons k f=>
       cases f;obtain⟨t,rfl⟩:=r;obtain⟨v,rfl⟩:=z;obtain⟨i,rfl⟩:=k;refine call_range_3 (by decide) ?_ (.inl (PyProof.noPylong_small (by omega)));have w:rs (n-1) (-1) (-1)=n:=by
        unfold rs
        grind
       have x:r0 (n-1) (-1) (-1)=true:=by
        unfold r0;simp only[Builtin.Range.rangeFitsLong,bu]
        grind
       refine wpAny_pyIter_range (IsRange.new ..) x ?_;rw[w];have l:Inv X d m u {j with heap:=j.heap.push {cls:=.type "range",data:=.fields #[.int (n-1) t,.int (-1) v,.int (-1) i]},toks:=j.toks}:=M.kept λb o e=>be _ e;refine⟨_,[_],_,_,u,J,l.kept λb o e=>be _ e,L6 _ (n-1) n,?_,λb E=>?_,q⟩;have L:n-1+((0:Nat):Int)*(-1)=n-1:=by omega
       have G:n-((0:Nat):Int)=n:=by omega
       rw[L,G];exact cb _ J;rw[(ai.mp E)];exact l.fpOk (au _) (l.hok.fresh (au _))
end
theorem JE{n:Nat}(Pv:Nat->St->Hp->Prop)(j:Pv 0 σ H)(l:∀i σ H,i<n->Pv i σ H->g (.int (lo-i)) σ H λb H2=>tb (D.lp (Pv (i+1))) b H2) (f:∀σ H,Pv n σ H->D.nx σ H):
  cB g tb D σ (yI lo n) H:=by
 refine⟨λi m σ H=>m=n-i/\i<=n/\Pv i σ H,⟨n,by simp,c9 _,j⟩,?_⟩;rintro i m σ H ⟨rfl,o,p⟩;by_cases a:i<n;refine .inr ⟨a,Pv (i+1),λc k d=>⟨n-(i+1),by omega,J,a,d⟩,λx k y=>?_⟩;obtain⟨e,y⟩:=y
 simp_all
 have e:i=n:=by omega
 subst e;exact .inl ⟨au _,f σ H p⟩
theorem Z3:entryFor table "dict.update.loop"=some Builtin.«dict.update.loop»:=entryFor_of_tree (by kernel_rfl)
theorem vg:plainId "dict.update.loop"=true:=by decide+kernel
theorem LD:typeLookup (.type "tuple") "keys"=pure none:=am_miss_of_fast (by decide+kernel)
section
set_option maxRecDepth 8000 in
theorem NY{xs:Array Sr}{k:Nat}{u:Tok}(hx:s.heap.get? a=some {cls:=.type "tuple",dict:=none,data:=.seq xs k,slots:=sl})(hA:A.handled=none)
  (h:∀h' tk e,Heap.NewExcOf s.heap h' e "AttributeError"->E (.ref e) {s with heap:=h',toks:=tk}):TX (Tx prog w) A (getAttrBy (.ref a) (.str "keys" u) false) Q E s:=by
 obtain⟨hp,g,d,tk,os⟩:=s;have hT:∀tk',(⟨hp,g,d,tk',os⟩:Sh).TypeIs (.ref a) "tuple":=λ_=>⟨_,hx,rfl⟩
 have f1:=TR;have f3:=PySem.F.slot_tuple_getattribute.lookup;have f4:=PySem.F.slot_tuple_getattribute.bind (.ref a);have f5:=am_tuple_getattr_none;unfold getAttrBy
 repeat(any_goals (first|assumption|exact hT _|((with_reducible show TX _ _ (call (Value.builtin "tuple.__getattribute__") _ _) _ _ _);refine Tb PySem.F.slot_tuple_getattribute (hT _) am_entry_tuple_getattribute (PySem.F.args_tuple_getattribute_2 _ _) (meets_getattribute_miss_tuple a xs k sl "keys" _ LD (by decide+kernel) (by size_fits)) ⟨hx,hA,λh' tk' e hx'=>?_⟩)|wp_step))
 obtain⟨t',u',he⟩:=hx'.there;show TX _ _ (getattributeRaised _ _ _ _ _ _ _) _ _ _;unfold getattributeRaised
 repeat(any_goals (first|assumption|wp_step))
 exact h _ _ _ hx'.of
theorem Ng{xs:Array I}{k:Nat}{Q:Option I->Sh->Prop}(d:s.heap.get? a=some {cls:=.type "tuple",dict:=none,data:=.seq xs k,slots:=sl})(i:A.handled=none)
  (h:∀h' tk,(∀b o,s.heap.get? b=some o->h'.get? b=some o)->Q none {s with heap:=h',toks:=tk}):TX (Tx prog w) A (getAttr? (.ref a) "keys") Q E s:=by refine a9 (wpAny_mkText (a9 (Ua (NY d i λh' tk e x=>?_))));obtain⟨c,r,f,g,_⟩:=x.there;exact a9 (fz ⟨_,f,g⟩ TR (aa (h _ _ x.keeps)))
end
section
end
noncomputable def ug(x:Str):It:=⟨λi _=>i<x.cps.size,λi H v H'=>H'=H/\∃c,x.cps[i]?=some c/\v=.str ⟨#[c]⟩,λi _=>x.cps.size<=i⟩
theorem Lb{K:O4}{q:String}(a:Y)(x:Str)(t:Tok)(n:q="str_ascii_iterator"\/q="str_iterator"):cY P w K tg (ug x) [a] a (λi h=>i<=x.cps.size/\h.IsStrIter a q x t i) where
 mem:=by simp
 obj:=λi h st b C=>by
  have e:b=a:=by simp_all
  subst e;obtain⟨_,o,e,c,d⟩:=st
  simp_all
 keep:=λi h g st k=>by obtain⟨z,o,e,r⟩:=st;exact⟨z,o,k a (by simp) o e,r⟩
 item:=by
  intro X hP Q S B i m s Z H E I hf st p;subst hP Q S;obtain⟨z,st⟩:=st;obtain⟨N,M,f2,L,G,F⟩:=hf a (by simp);have D:∀(g:O7)(l:Nat)(v:Sr),SignAt x i v->g.IsStrIter a q x t (i+1)->(∀b o,b ∉ [a]->s.heap.get? b=some o->g.get? b=some o)->
    ∃u,some v=some u/\TX (Tx X.prog X.w) X.A (letOwnedTupleGo tg (.ref a) u) (λ_ s2=>∃y U,Inv X m Z U s2/\yf y u/\(ug x).yld i H y U/\(i+1<=x.cps.size/\s2.heap.IsStrIter a q x t (i+1))/\∀b∈[a],U b=none) E {s with heap:=g,toks:=l}:=by intro g l v A f j;obtain⟨c,u,R,rfl⟩:=A;obtain⟨o,e1,e2,e3⟩:=id f;refine⟨_,J,pU e1 e2 e3 (by grind) ⟨.str ⟨#[c]⟩,H,(I.turned (λb o C e=>j b o (by simp_all) e) N M L G F),⟨u,J⟩,⟨J,c,R,J⟩,⟨p,f⟩,λb C=>(hf b C).1⟩⟩
  rcases n with rfl|rfl;exact(Walks.strAscii (I.ok.hd B) a x t).item i s _ _ p st λv g l A f j=>D g l v A f j;exact(Walks.strWide (I.ok.hd B) a x t).item i s _ _ p st λv g l A f j=>D g l v A f j
 done:=by
  intro X hP Q S B i m s Z H E I hf st p;subst hP Q S;obtain⟨z,st⟩:=st;have p:x.cps.size<=i:=p;have e:i=x.cps.size:=by omega
  subst e;obtain⟨N,M,f2,L,G,F⟩:=hf a (by simp);rcases n with rfl|rfl;exact(Walks.strAscii (I.ok.hd B) a x t).done s _ _ st λg l j=>⟨J,I.turned (λb o C e=>j b o (by simp_all) e) N M L G F⟩
  exact(Walks.strWide (I.ok.hd B) a x t).done s _ _ st λg l j=>⟨J,I.turned (λb o C e=>j b o (by simp_all) e) N M L G F⟩
 self:=λ_ _ _ _ _ st h=>by rcases n with rfl|rfl;exact wpAny_pyIter_striter_ascii st.2 h;exact wpAny_pyIter_striter_wide st.2 h
section
inductive m9(R:It->Hp->Prop)(v:V)(H1:Hp):Prop|mk:∀x,v=.str x->R (ug x) H1->m9 R v H1
def EC(B:TE):TI:=λσ H R=>B σ H λv H1=>m9 R v H1
theorem GN{l:OP}{j:TE}(hl:PE X l j):PI X tg l (EC j):=by
 intro a s i H R I h;refine aH (hl a s i H _ I h) λv c ⟨x,r,g,n,p⟩=>?_;obtain⟨y,e,q⟩:=p;subst e;obtain⟨t,rfl⟩:=n;have k:∀d,(d="str_ascii_iterator"\/d="str_iterator")->t9 X a i tg R (.ref c.heap.objs.size) {c with heap:=c.heap.push {cls:=.type d,data:=.fields #[.str y t,.int 0 0]}}:=λd f=>by
  refine⟨c.heap.objs.size,[c.heap.objs.size],_,_,r,J,g.kept λb o e=>be _ e,Lb _ y t f,⟨c9 _,_,cb _ J,J,J⟩,λb u=>?_,q⟩;have e:b=c.heap.objs.size:=by simp_all
  subst e;exact g.fpOk (au _) (g.hok.fresh (au _))
 cases m:y.cps.all (· <128);exact wpAny_pyIter_wide m (k _ (.inr J));exact wpAny_pyIter_ascii m (k _ (.inl J))
end
section
variable{K:O4}{k:Nat}{Q:VK}
theorem uX(Pv:Nat->O V->Hp->Prop)(s:Pv 0 [] H)(hl:∀i ys H,i<=xs.length->Pv i ys H->aG K H a xs/\ys.length<=TL)(v:∀i x ys H,xs[i]?=some x->Pv i ys H->g x (bQ k cap σ) H λc H2=>tc c H2 λb j=>if b=true then te c j λy t=>Pv (i+1) (ys++[y]) t else Pv (i+1) ys j)
  (r:∀ys H,Pv xs.length ys H->∀p,H p=none->Q (.ref p) (ji H p (.lst ys))):bV (qH K a) g tc te k cap σ H Q:=by
 refine⟨λi m ys H=>m=xs.length-i/\i<=xs.length/\Pv i ys H,⟨xs.length,by simp,c9 _,s⟩,?_⟩;rintro i m ys H ⟨rfl,o,p⟩;obtain⟨q,f⟩:=hl i ys H o p;by_cases d:i<xs.length;refine .inr ⟨⟨xs,xs[i],q,by simp⟩,f,Pv (i+1),λl u n=>⟨xs.length-(i+1),by omega,J,d,n⟩,λx u y=>?_⟩;obtain⟨e,y⟩:=y
 grind
 have e:i=xs.length:=by omega
 subst e;exact .inl ⟨⟨xs,q,au _⟩,f,r ys H p⟩
theorem wC(Pv:Nat->O V->Hp->Prop)(t:Pv 0 [] H)(hl:∀i ys H,i<=xs.length->Pv i ys H->aK K H a xs/\ys.length<=TL)(o:∀i x ys H,xs[i]?=some x->Pv i ys H->g x (bQ k cap σ) H λc H2=>tc c H2 λb j=>if b=true then te c j λy u=>Pv (i+1) (ys++[y]) u else Pv (i+1) ys j)
  (s:∀ys H,Pv xs.length ys H->∀p,H p=none->Q (.ref p) (ji H p (.lst ys))):bV (qJ K a) g tc te k cap σ H Q:=by
 refine⟨λi m ys H=>m=xs.length-i/\i<=xs.length/\Pv i ys H,⟨xs.length,by simp,c9 _,t⟩,?_⟩;rintro i m ys H ⟨rfl,r,p⟩;obtain⟨q,f⟩:=hl i ys H r p;by_cases d:i<xs.length;refine .inr ⟨⟨xs,xs[i],q,by simp[d]⟩,f,Pv (i+1),λl v n=>⟨xs.length-(i+1),by omega,J,d,n⟩,λx v y=>?_⟩;obtain⟨e,y⟩:=y;subst e;exact o i x ys _ (y xs q) p;have e:i=xs.length:=by omega
 subst e;exact .inl ⟨⟨xs,q,au _⟩,f,s ys H p⟩
theorem Zj{n:Nat}(Pv:Nat->O V->Hp->Prop)(r:Pv 0 [] H)(hl:∀i ys H,i<=n->Pv i ys H->ys.length<=TL)(u:∀i ys H,i<n->Pv i ys H->g (.int (lo+i)) (bQ k cap σ) H λa H2=>tc a H2 λb f=>if b=true then te a f λy s=>Pv (i+1) (ys++[y]) s else Pv (i+1) ys f)
  (q:∀ys H,Pv n ys H->∀p,H p=none->Q (.ref p) (ji H p (.lst ys))):bV (qI lo n) g tc te k cap σ H Q:=by
 refine⟨λi m ys H=>m=n-i/\i<=n/\Pv i ys H,⟨n,by simp,c9 _,r⟩,?_⟩;rintro i m ys H ⟨rfl,o,p⟩;have d:=hl i ys H o p;by_cases c:i<n;refine .inr ⟨c,d,Pv (i+1),λj t l=>⟨n-(i+1),by omega,J,c,l⟩,λx t y=>?_⟩;obtain⟨e,y⟩:=y
 simp_all
 have e:i=n:=by omega
 subst e;exact .inl ⟨au _,d,q ys H p⟩
theorem FJ(Pv:Nat->O V->Hp->Prop)(r:Pv 0 [] H)(hl:∀i ys H,i<=x.cps.size->Pv i ys H->ys.length<=TL)(u:∀i c ys H,x.cps[i]?=some c->Pv i ys H->g (.str ⟨#[c]⟩) (bQ k cap σ) H λa H2=>tc a H2 λb j=>if b=true then te a j λy s=>Pv (i+1) (ys++[y]) s else Pv (i+1) ys j)
  (q:∀ys H,Pv x.cps.size ys H->∀p,H p=none->Q (.ref p) (ji H p (.lst ys))):bV (ug x) g tc te k cap σ H Q:=by
 refine⟨λi m ys H=>m=x.cps.size-i/\i<=x.cps.size/\Pv i ys H,⟨x.cps.size,by simp,c9 _,r⟩,?_⟩;rintro i m ys H ⟨rfl,o,p⟩;have f:=hl i ys H o p;by_cases d:i<x.cps.size;refine .inr ⟨d,f,Pv (i+1),λl t n=>⟨x.cps.size-(i+1),by omega,J,d,n⟩,λv t y=>?_⟩;obtain⟨e,c,w,rfl⟩:=y
 simp_all
 have e:i=x.cps.size:=by omega
 subst e;exact .inl ⟨au _,f,q ys H p⟩
end
inductive T where|non|bl (b:Bool)|int (i:Int)|str (x:Str)|tup (ts:List T)|lst (ts:List T)|dct
inductive yJ(H:Hp)(f:List V->HO)(L:List V->Prop)(v:V):Prop|mk:∀a xs,v=.ref a->H a=some (f xs)->L xs->yJ H f L v
inductive D7(A:V->Prop)(L:List V->Prop)(xs:List V):Prop|mk:∀v vs,xs=v::vs->A v->L vs->D7 A L xs
mutual
noncomputable def Is(H:Hp):T->V->Prop|.non,v=>v=.non|.bl b,v=>v=.bl b|.int i,v=>v=.int i|.str x,v=>v=.str x|.tup ts,v=>yJ H .tup (λxs=>IsL H ts xs) v|.lst ts,v=>yJ H .lst (λxs=>IsL H ts xs) v|.dct,v=>∃a,v=.ref a/\H a=some (.dK [])
noncomputable def IsL(H:Hp):List T->List V->Prop|[],xs=>xs=[]|t::ts,xs=>D7 (λv=>Is H t v) (λvs=>IsL H ts vs) xs
end
variable{p:lv}{es:Array OO}{kvs:List (aJ×V)}{ts:List T}{o:Obj}{v:V}
def zy(H B:Hp):Prop:=∀b xs,H b=some (.tup xs)->B b=some (.tup xs)
theorem zh.tups(s:zh H H'):zy H H':=λb a e=>s b _ e
theorem zy.refl(H:Hp):zy H H:=λ_ _ e=>e
theorem zy.trans{f:Hp}(a:zy H f)(b:zy f H2):zy H H2:=λc d e=>b c d (a c d e)
theorem zh.new(h:H p=none)(o:HO):zh H (ji H p o):=λb u q=>(ja (zi q h)▸q)
theorem zy.upd{H:Hp}{p:Y}{o a:HO}(h:H p=some o)(c:∀xs,o≠ .tup xs):zy H (ji H p a):=λb xs e=>(ja (Xl e h (λz=>c xs z.symm))▸e)
mutual
theorem Is.mono{H H':Hp}(s:zh H H'):∀{t:T}{v:V},Is H t v->Is H' t v|.non,v,h=>h|.bl b,v,h=>h|.int i,v,h=>h|.str x,v,h=>h| .tup ts,v,h=>by obtain⟨a,xs,e,ha,hl⟩:=h;exact⟨a,xs,e,s a _ ha,IsL.mono s hl⟩| .lst ts,v,h=>by obtain⟨a,xs,e,ha,hl⟩:=h;exact⟨a,xs,e,s a _ ha,IsL.mono s hl⟩| .dct,v,h=>by obtain⟨a,e,ha⟩:=h;exact⟨a,e,s a _ ha⟩
theorem IsL.mono{H H':Hp}(s:zh H H'):∀{ts:List T}{xs:List V},IsL H ts xs->IsL H' ts xs|[],xs,h=>h| t::ts,xs,h=>by obtain⟨v,vs,e,h1,h2⟩:=h;exact⟨v,vs,e,Is.mono s h1,IsL.mono s h2⟩
end
mutual
noncomputable def bS:T->Prop|.tup ts=>qb ts|.lst _=>False|.dct=>False|_=>True
noncomputable def qb:List T->Prop|[]=>True|t::ts=>bS t/\qb ts
end
mutual
theorem Is.tups{H H':Hp}(s:zy H H'):∀{t:T}{v:V},bS t->Is H t v->Is H' t v
 |.non,v,_,h=>h
 |.bl b,v,_,h=>h
 |.int i,v,_,h=>h
 |.str x,v,_,h=>h
 | .tup ts,v,f,h=>by
   obtain⟨a,xs,e,ha,hl⟩:=h;have f:qb ts:=by unfold bS at f;exact f
   exact⟨a,xs,e,s a _ ha,IsL.tups s f hl⟩
 |.lst ts,v,f,h=>by unfold bS at f;exact f.elim
 |.dct,v,f,h=>by unfold bS at f;exact f.elim
theorem IsL.tups{H H':Hp}(s:zy H H'):∀{ts:List T}{xs:List V},qb ts->IsL H ts xs->IsL H' ts xs
 |[],xs,_,h=>h
 | t::ts,xs,f,h=>by
   obtain⟨v,vs,e,h1,h2⟩:=h;have f:bS t/\qb ts:=by unfold qb at f;exact f
   exact⟨v,vs,e,Is.tups s f.1 h1,IsL.tups s f.2 h2⟩
end
theorem qb.all:qb ts↔∀t∈ts,bS t:=by induction ts with|nil=>simp[qb]|cons t ts a=>simp[qb,a]
theorem IsL.length{H:Hp}:∀{ts:List T}{xs:List V},IsL H ts xs->xs.length=ts.length|[],xs,h=>by cases h;rfl| t::ts,xs,h=>by obtain⟨v,b,rfl,_,a⟩:=h;simp[IsL.length a]
theorem IsL.get{H:Hp}:∀{ts:List T}{xs:List V}{i:Nat}{t:T},IsL H ts xs->ts[i]?=some t->∃v,xs[i]?=some v/\Is H t v|[],_,_,_,_,e=>by simp at e| t ::ts,xs,i,g,h,e=>by obtain⟨v,f,rfl,b,a⟩:=h;cases i with|zero=>simp at e;subst e;exact⟨v,J,b⟩| succ i=>obtain⟨w,d,c⟩:=IsL.get a (by simpa using e);exact⟨w,by simpa using d,c⟩
theorem IsL.get'(h:IsL H ts xs)(e:xs[i]?=some v):∃t,ts[i]?=some t/\Is H t v:=by
 have d:=h.length;have a:i<ts.length:=by have:=(d7.mp e).1;omega
 obtain⟨w,b,c⟩:=h.get (cg a);rw[e]at b;cases b;exact⟨_,cg a,c⟩
theorem IsL.append{H:Hp}:∀{ts b:List T}{xs a:List V},IsL H ts xs->IsL H b a->IsL H (ts++b) (xs++a)|[],b,xs,a,h,k=>by cases h;exact k| t::ts,b,xs,a,h,k=>by obtain⟨v,c,rfl,f,d⟩:=h;exact⟨v,c++a,J,f,IsL.append d k⟩
theorem IsL.drop{H:Hp}:∀{ts:List T}{xs:List V}(n:Nat),IsL H ts xs->IsL H (ts.drop n) (xs.drop n)|ts,xs,0,h=>h|[],xs,n+1,h=>by cases h;exact rfl| t::ts,xs,n+1,h=>by obtain⟨v,b,rfl,c,a⟩:=h;exact IsL.drop n a
theorem IsL.take{H:Hp}:∀{ts:List T}{xs:List V}(n:Nat),IsL H ts xs->IsL H (ts.take n) (xs.take n)|ts,xs,0,h=>rfl|[],xs,n+1,h=>by cases h;exact rfl| t::ts,xs,n+1,h=>by obtain⟨v,a,rfl,c,b⟩:=h;exact⟨v,a.take n,J,c,IsL.take n b⟩
theorem IsL.one{t:T}(h:Is H t v):IsL H [t] [v]:=⟨v,[],J,h,J⟩
theorem ft{t u:T}{w:V}(h:Is H t v)(k:Is H u w):IsL H [t,u] [v,w]:=⟨v,[w],J,h,w,[],J,k,J⟩
noncomputable def rp:T->String|.non=>"NoneType"|.bl _=>"bool"|.int _=>"int"|.str _=>"str"|.tup _=>"tuple"|.lst _=>"list"|.dct=>"dict"
theorem Is.ty{K:O4}{t:T}(h:Is H t v):cO K H v (.type (rp t)):=by cases t with|non=>cases(h);exact .non|bl b=>cases(h);exact .bl b|int i=>cases(h);exact .int i|str x=>cases(h);exact .str x|tup f=>obtain⟨a,d,rfl,c,_⟩:=h;exact .tup c|lst f=>obtain⟨a,d,rfl,c,_⟩:=h;exact .lst c|dct=>obtain⟨a,rfl,c⟩:=h;exact .dK c
noncomputable def yQ:T->Bool|.int _=>true|.bl _=>true|_=>false
noncomputable def DO:T->Bool|.bl _=>true|_=>false
noncomputable def EL:T->Bool|.tup _=>true|_=>false
noncomputable def EK:T->Bool|.str _=>true|_=>false
theorem Hm(K:O4)(t:T):SM K (.type (rp t)) (.type "int")=some (yQ t):=by cases t<;>kernel_rfl
theorem KC(K:O4)(t:T):SM K (.type (rp t)) (.type "bool")=some (DO t):=by cases t<;>kernel_rfl
theorem CZ(K:O4)(t:T):SM K (.type (rp t)) (.type "tuple")=some (EL t):=by cases t<;>kernel_rfl
theorem wB(K:O4)(t:T):SM K (.type (rp t)) (.type "str")=some (EK t):=by cases t<;>kernel_rfl
def pL:HO->Prop|.dK _=>True|.dT _=>True|_=>False
section
variable{d:lv}{u u':HO}
theorem Inv.retag(I:Inv X pins σ H s)(e:H d=some u)(i:∀xs,u≠ .tup xs)(l:∀x,u≠ .own x)(k:∀ps,u≠ .tbl ps)(B:∀o v,X.H₀ d≠some (.frz o v))(ok:qv X.prog X.w (ji H d u') s.heap d u'):Inv X pins σ (ji H d u') s:=by
 have a:∀{b},H b=none->b≠d:=λz q=>by simp_all
 refine⟨I.ok,I.os,I.bare,⟨I.base.keep,I.base.slot,λb f q n m=>?_,I.base.there,λb xs q=>?_,λb f v q=>?_,λb ps q=>?_⟩,I.loc,I.cell,?_,λx c q=>?_,λp r=>?_,λb f q=>?_,I.len⟩;have z:=I.base.free b f q n m;rw[ja (a z)];exact z;have z:=I.base.tups b xs q;rw[ja (Xl z e (λw=>i xs w.symm))];exact z;have z:=I.base.frzs b f v q;rw[ja (λw=>by simp_all)];exact z;obtain⟨g,z⟩:=I.base.tbls b ps q;exact⟨g,(ja (Xl z e (λw=>k _ w.symm))▸z)⟩;rw[ja (a I.free)];exact I.free;rw[ja (a (I.freeC x c q))];exact I.freeC x c q;obtain⟨A,y,t⟩:=I.pin p r;exact⟨A,by rw[ja (a y)];omega,t⟩;by_cases j:b=d;subst j;rw[zd]at q;simp_all;rw[ja j]at q;exact(I.hok b f q).stay (λ_ _ _ z=>z) (λc z=>(ja (Xl z e (λw=>l _ w.symm))▸z)) λc xs z=>(ja (Xl z e (λw=>i _ w.symm))▸z)
theorem pL.no(h:pL u):(∀xs,u≠ .tup xs)/\(∀x,u≠ .own x)/\(∀ps,u≠ .tbl ps)/\∀o v,u≠ .frz o v:=by cases u<;>first|exact h.elim|exact⟨(λ_ z=>by cases z),(λ_ z=>by cases z),(λ_ z=>by cases z),λ_ _ z=>by cases z⟩
theorem Inv.nofrz(I:Inv X pins σ H s)(e:H d=some u)(h:pL u):∀o v,X.H₀ d≠some (.frz o v):=λo v q=>by have z:=I.base.frzs d o v q;rw[e]at z;cases z;exact h.no.2.2.2 _ _ J
theorem Inv.freeze(I:Inv X pins σ H s)(e:H d=some u)(h:pL u):∃o,Inv X pins σ (ji H d (.frz o u)) s:=by
 obtain⟨g,f,i,k⟩:=h.no;have ok:=I.hok d u e;have a:∃o,s.heap.get? d=some o:=by cases u<;>first|exact h.elim|(obtain⟨_,_,_,_,o,_,_,b,_⟩:=ok;exact⟨o,b⟩)
 obtain⟨o,b⟩:=a;refine⟨o,I.retag e g f i (I.nofrz e h) ⟨b,ok.stay (λ_ _ _ z=>z) (λc z=>?_) λc j z=>?_⟩⟩;rw[ja (Xl z e (λw=>f _ w.symm))];exact z;rw[ja (Xl z e (λw=>g _ w.symm))];exact z
theorem Inv.thaw(I:Inv X pins σ H s)(e:H d=some (.frz o u))(a:∀o v,X.H₀ d≠some (.frz o v)):Inv X pins σ (ji H d u) s:=by refine I.retag e (λ_ z=>by cases z) (λ_ z=>by cases z) (λ_ z=>by cases z) a ?_;obtain⟨_,ok⟩:=I.hok d _ e;refine ok.stay (λ_ _ _ z=>z) (λc z=>?_) λc b z=>?_;rw[ja (Xl z e (λw=>by cases w))];exact z;rw[ja (Xl z e (λw=>by cases w))];exact z
end
def Ff(d:lv)(o:Obj)(u:HO)(D:wo):wo where
 nx:=λσ H=>H d=some (.frz o u)/\D.nx σ (ji H d u)
 rt:=λv H=>H d=some (.frz o u)/\D.rt v (ji H d u)
 bk:=λσ H=>H d=some (.frz o u)/\D.bk σ (ji H d u)
 ct:=λσ H=>H d=some (.frz o u)/\D.ct σ (ji H d u)
inductive rC(ts:TS)(D:wo)(σ:St)(H:Hp):Prop|mk:∀d u,H d=some u->pL u->(∀o,ts (Ff d o u D) σ (ji H d (.frz o u)))->rC ts D σ H
inductive rw(te:TE)(σ:St)(H:Hp)(Q:VK):Prop|mk:∀d u,H d=some u->pL u->(∀o,te σ (ji H d (.frz o u)) λv H'=>H' d=some (.frz o u)/\Q v (ji H' d u))->rw te σ H Q
section
theorem vA{ts:TS}(h:PS X st ts):PS X st (rC ts):=by intro c s l H D I m;obtain⟨d,u,e,j,q⟩:=m;obtain⟨o,n⟩:=I.freeze e j;have g:=I.nofrz e j;refine aH (h c s l _ _ n (q o)) λf p hf=>?_;cases f with|next=>obtain⟨a,i,J,b,k⟩:=hf;exact⟨a,_,J.thaw b g,k⟩|brk=>obtain⟨a,i,J,b,k⟩:=hf;exact⟨a,_,J.thaw b g,k⟩|cont=>obtain⟨a,i,J,b,k⟩:=hf;exact⟨a,_,J.thaw b g,k⟩|ret v=>obtain⟨x,a,i,J,r,b,k⟩:=hf;exact⟨x,a,_,J.thaw b g,r,k⟩
theorem AK{e:OP}(h:PE X e te):PE X e (rw te):=by intro a s c H Q I f;obtain⟨d,u,e,b,q⟩:=f;obtain⟨o,i⟩:=I.freeze e b;exact aH (h a s c _ _ i (q o)) λv j ⟨x,l,J,r,g,k⟩=>⟨x,_,J.thaw g (I.nofrz e b),r,k⟩
end
theorem vI{k:aJ}{u:I}(h:(zt P w).is k u=true):yf (kV k) u:=by rcases wr h with⟨i,t,rfl,rfl⟩|⟨x,t,rfl,rfl⟩;exact⟨t,J⟩;exact⟨t,J⟩
theorem KV.get:∀{kvs:List (aJ×V)}{vs:List (aJ×Sr)}{i:Nat}{a:aJ×V},KV kvs vs->kvs[i]?=some a->∃u,vs[i]?=some (a.1,u)/\yf a.2 u:=by intro kvs vs i a r;induction r generalizing i with|nil=>simp| @cons p q c b h t d=>grind
def yG(d:lv)(o:Obj)(kvs:List (aJ×V)):It:=⟨λi H=>H d=some (.frz o (.dK kvs))/\i<kvs.length,λi H x H'=>H'=H/\∃B,kvs[i]?=some B/\x=kV B.1,λi H=>H d=some (.frz o (.dK kvs))/\kvs.length<=i⟩
theorem Bg{h:O7}{d:Y}{i:Nat}(j:bR P w H h)(e:H d=some (.frz o (.dK kvs)))(b:o.data=.dict es i):∃vs,KV kvs vs/\h.DictAt (zt P w) d vs i:=by obtain⟨g,p,q,vs,a,n,l,m,f,k,c,r⟩:=j d _ e;rw[g]at f;cases f;rw[b]at c;cases c;exact⟨vs,a,o,es,g,k,b,r⟩
theorem L9{K:O4}(d g:Y)(o:Obj)(kvs:O (aJ×V))(es:Array OO)(N:Nat)(F:o.data=.dict es N):cY P w K tg (yG d o kvs) [g] g (λi h=>h.IsKeyIter g d i kvs.length N) where
 mem:=by simp
 obj:=λi h st b j=>by
  have e:b=g:=by simp_all
  subst e;obtain⟨o,e,c,dd⟩:=st
  simp_all
 keep:=λi h M st k=>st.at λo e=>k g (by simp) o e
 item:=by intro X hP q u L i l s Q H E I hf st t;subst hP q u;obtain⟨x,G⟩:=t;obtain⟨R,a,D⟩:=Bg I.hok x F;obtain⟨C,B,Z,A,z,y⟩:=hf g (by simp);have r:=a.length;have m:=cg G;obtain⟨v,U,rv⟩:=a.get m;refine wpAny_pyNext_dict_item (by simp_all) D U λp M n f S=>?_;rw[<-r]at f;obtain⟨o1,e1,c1,d1⟩:=id f;exact⟨p,J,pU e1 c1 d1 (by rfl) ⟨kV kvs[i].1,H,(I.turned (λb o j e=>(S.2 b j).trans e) C B A z y),vI n,⟨J,_,m,J⟩,f,λb j=>(hf b j).1⟩⟩
 done:=by intro X hP q u L i l s Q H E I hf st t;subst hP q u;obtain⟨x,G⟩:=t;obtain⟨R,a,D⟩:=Bg I.hok x F;obtain⟨C,B,Z,A,z,y⟩:=hf g (by simp);have r:=a.length;exact wpAny_pyNext_dict_end (I.ok.hd L) (by rw[<-r];omega) D (List.getElem?_eq_none_iff.mpr (by omega)) λM eb=>⟨J,I.turned (λb o j e=>eb b o j e) C B A z y⟩
 self:=λ_ _ _ _ _ st h=>wpAny_pyIter_keyiter st h
section
inductive kL(R:It->Hp->Prop)(v:V)(H1:Hp):Prop|mk:∀d o kvs,v=.ref d->H1 d=some (.frz o (.dK kvs))->R (yG d o kvs) H1->kL R v H1
def EG(B:TE):TI:=λσ H R=>B σ H λv H1=>kL R v H1
theorem Ik{l:OP}{j:TE}(hl:PE X l j):PI X tg l (EG j):=by
 intro a s t H R I h;refine aH (hl a s t H _ I h) λv f ⟨x,D,c,u,w⟩=>?_;obtain⟨d,o,i,e,z,q⟩:=w;subst e;cases u;obtain⟨n,G,A,E,g,F,p,C,m,B,k,r⟩:=c.hok d _ z;rw[n]at m;cases m;have y:=g.length;refine wpAny_pyIter_dict A ⟨o,p,n,B,k,r⟩ ⟨f.heap.objs.size,[f.heap.objs.size],_,_,D,J,c.kept λb o e=>be _ e,L9 d _ o i p C k,⟨_,cb _ J,J,by simp_all⟩,λb L=>?_,q⟩;have e:b=f.heap.objs.size:=by simp_all
 subst e;exact c.fpOk (au _) (c.hok.fresh (au _))
end
section
variable{d:lv}{k:Nat}{Q:VK}
end
theorem W8:∀{xs:List V}{a:List Sr},xs.length=a.length->(∀(j:Nat) x u,xs[j]?=some x->a[j]?=some u->yf x u)->yi xs a|[],[],_,_=>.nil|x::xs,u::a,b,h=>.cons (h 0 x u J J) (W8 (by simp_all) λj y v d c=>h (j+1) y v (by simp_all) (by simp_all))|[],_::_,b,_=>by grind|_::_,[],b,_=>by grind
section
theorem Xr(B:X.calm=true):j6 X (.type "list") (λxs H Q=>∃d kvs,xs=[.ref d]/\Rd H d (.dK kvs)/\∀l,H l=none->Q (.ref l) (ji H l (.lst (kvs.map λi=>kV i.1)))):=by
 intro n s N H xs R Q I r h;obtain⟨d,kvs,rfl,A,q⟩:=h;obtain⟨u,rfl,t⟩:=Zg r;cases t;obtain⟨o,C,P,f,G⟩:=Vu I.hok A;obtain⟨Z,L⟩:=G.dictAt;have a:=f.length;refine W.kdl_call (W.kdl_dict C) (I.ok.hd B) L (a▸o) λU S g M hk D b=>⟨.ref s.heap.objs.size,_,I.laid hk (au _) ?_,J,q _ (I.hok.fresh (au _))⟩
 refine⟨by rw[ag];exact o,g.toList,M,W8 ?_ ?_,(Array.toArray_toList▸D)⟩;rw[ag,a,<-b.1];simp;intro j x v c F;obtain⟨k,y,p,E⟩:=b.2 j v (nv▸F);rw[bq]at c;cases m:kvs[j]? with|none=>rw[m]at c;cases c| some i=>rw[m]at c;have c:kV i.1=x:=RV c;obtain⟨w,z,_⟩:=f.get m;rw[z]at p;rw[<-c,(kW Prod.fst (RV p))];exact vI E
end
noncomputable def off(S:lv->Prop)(H:Hp):Hp:=λb=>@ite _ (S b) (Classical.propDecidable _) none (H b)
theorem X2{S:Y->Prop}{b:Y}{o:HO}:off S H b=some o↔¬S b/\H b=some o:=by unfold off;simp
theorem JR{S:Y->Prop}(s:zh H H'):zh (off S H) (off S H'):=λb o e=>by rw[X2]at e⊢;exact⟨e.1,s _ _ e.2⟩
theorem FS{S:Y->Prop}:zh (off S H) H:=λb o e=>(X2.mp e).2
def Sd(S:lv->Prop)(H:Hp):Prop:=∀b,S b->H b≠none
theorem HG{S:Y->Prop}{o:HO}(d:Sd S H)(h:H p=none):off S (ji H p o) p=some o:=X2.mpr ⟨λz=>d p z h,zd⟩
theorem JQ(H:Hp):off (λ_=>False) H=H:=by funext b;unfold off;simp
theorem Is.off{S:Y->Prop}{H:Hp}{t:T}{v:V}(h:Is (off S H) t v):Is H t v:=h.mono FS
theorem Is.off0{t:T}(h:Is H t v):Is (L2.off (λ_=>False) H) t v:=by rw[JQ];exact h
theorem iX{S:Y->Prop}(d:Sd S H)(a:H p=none)(h:IsL (L2.off S H) ts xs):Is (L2.off S (ji H p (.tup xs))) (.tup ts) (.ref p):=⟨p,xs,J,HG d a,IsL.mono (JR (zh.new a _)) h⟩
end L2
namespace HT
open PySem PyProof.Rows
open PySem.SeqAt
open PySem.AutoSeq1 (wpAny_loadPart')
open PySem.MeetsSeq PySem.MeetsSeq2 PySem.MeetsSeq3
variable{A:mf}{aD:Array Sr}{ws:List Sr}{s:Sh}{E Q:Sr->Sh->Prop}
section
variable{prog:R0}{w:SX}
theorem rO{t b:Y}(o:Px s.heap t ([]:O I).toArray)(r:Px s.heap b ws.toArray)(h:Q (.ref b) s):TX (Tx prog w) A (S0 .Add (.ref t) (.ref b)) Q E s:=by
 obtain⟨⟨v,u,j,l⟩,i,q,n,p⟩:=id o;obtain⟨⟨k,g,data2,c⟩,a,f,m,d⟩:=id r;subst q p f d;exact Th ⟨_,i,J⟩ ⟨_,a,J⟩ Tz TK PySem.F.slot_tuple_add PySem.F.entry_tuple_add (PySem.F.args_tuple_add_2 _ _)
  (tuple_addW0 t b [].toArray ws.toArray n m u g l c J) ⟨i,a,h⟩
theorem gU{t j:Y}{i g:I}{lo c:Option Int}(b:Px s.heap t aD)(k:s.heap.IsSliceOf j i g .none)(m:Pw i lo)(l:Pw g c)(o:bY aD.size 0 lo=0/\bY aD.size aD.size c=aD.size) (h:Q (.ref t) s):TX (Tx prog w) A (getItem (.ref t) (.ref j)) Q E s:=by
 obtain⟨os,d,f,n⟩:=id k;unfold getItem
 try with_reducible refine Uo ?_
 first|refine a9 (aa ?_)|skip
 refine a9 (wpAny_sequenceKey b.typeIs (by rfl) ?_);refine a9 (Uc b.typeIs R9 (dk R9 b.typeIs entry_tuple_getitem ?_ (args_tuple_getitem _ _)))
 show TX _ _ (zw (.ref t)>>=_) _ _ s;refine a9 (tupleItemsOf_ b (a9 (VG ⟨os,d,f⟩ ?_)));rw[kP (by rfl)];refine a9 (Yo k m l ?_);have a:(((bY aD.size 0 lo):Int)==0 && (1:Int)==1 && (bY aD.size aD.size c-bY aD.size 0 lo)==aD.size)=true:=by simp_all
 show TX _ _ (if(((bY aD.size 0 lo):Int)==0 && (1)==1 && (bY aD.size aD.size c-bY aD.size 0 lo)==aD.size)=true then _ else _) _ _ s;rw[kP a];refine a9 (a9 (VG b.typeIs (aa ?_)));rw[kP (by rfl)];exact a9 (UQ (aa ⟨_,J,aa h⟩))
end
end HT
namespace L2
open PySem PySem.Spec PyProof.Rows
variable{L e f:lv}{A:mf}{vs:Array Sr}{X:Cx}{env:Env}{base:O7}{H H₀:Hp}{pins:List (lv×Obj)}{outer:List Env}{N:List Str}{oe:Obj}{P:R0}{scope:Sc}{s s₀:Sh}{σ:St}{qual:Str}{mg:Str->Option Sr}{Q:Unit->Sh->Prop}{cd:Sr}{E Ex:Sr->Sh->Prop}{w:SX}
section
variable{S:lv->Prop}
inductive kA(S:lv->Prop)(x y:V)(H:Hp)(Q:VK):Prop|mk:∀ts us,Is (off S H) (.tup ts) x->Is (off S H) (.tup us) y->Sd S H->ts.length+us.length<=TL->(∀v H',zh H H'->Is (off S H') (.tup (ts++us)) v->Q v H')->kA S x y H Q
theorem KW:cQ X (S0 .Add) (kA S):=by intro c s B H x y v u Q I n m h;obtain⟨R,P,⟨a,i,rfl,A,k⟩,⟨b,l,rfl,z,j⟩,d,W,q⟩:=h;have g:=(X2.mp A).2;have f:=(X2.mp z).2;have N:=k.length;have M:=j.length;by_cases t:i=[];subst t;have L:=io.mp (by simpa using N.symm);subst L;cases n;cases m;obtain⟨F,C,E,_⟩:=I.tuple (aG.of g);obtain⟨o,U,D,_⟩:=I.tuple (aG.of f);cases C;exact HT.rO E D ⟨.ref b,H,I,J,q _ H (zh.refl H) ⟨b,l,J,z,j⟩⟩;refine IL c s B H (.ref a) (.ref b) v u Q I n m ⟨a,b,i,l,J,J,aG.of g,aG.of f,t,by omega,λr=>?_,λr p w=>q _ _ (zh.new w _) (iX d w (IsL.append k j))⟩;have G:=io.mp (by rw[<-M,r];rfl);subst G;refine q _ H (zh.refl H) ?_;rw[eh];exact⟨a,i,J,A,k⟩
noncomputable def iY{α:Type}(xs:List α)(lo B:Option Int):List α:=(xs.drop (HT.bY xs.length 0 lo)).take (HT.bY xs.length xs.length B-HT.bY xs.length 0 lo)
theorem Af{ts:O T}{xs:O V}(h:IsL H ts xs)(lo a:Option Int):IsL H (iY ts lo a) (nJ xs lo a):=by unfold iY nJ;rw[h.length];exact IsL.take _ (IsL.drop _ h)
inductive mQ(S:lv->Prop)(x:V)(lo hi:Option Int)(H:Hp)(Q:VK):Prop|mk:∀ts,Is (off S H) (.tup ts) x->Sd S H->(∀v H',zh H H'->Is (off S H') (.tup (iY ts lo hi)) v->Q v H')->mQ S x lo hi H Q
theorem Fs:qG X (mQ S):=by
 intro c s A H x v C B lo g D Q I l t n m h;obtain⟨k,⟨a,b,rfl,y,j⟩,d,q⟩:=h;have f:=(X2.mp y).2;have z:=j.length;by_cases i:HT.bY b.length 0 lo=0/\HT.bY b.length b.length g=b.length;cases l;obtain⟨E,r,o,F⟩:=I.tuple (aG.of f);have w:=dy▸r.length.symm;refine⟨"tuple",_,PyProof.Rows.slot_tuple_getitem.lookup,o.typeIs,(HT.gU o t n m (by simp_all) ⟨.ref a,H,I,J,q _ H (zh.refl H) ?_⟩)⟩;have e:iY k lo g=k:=by unfold iY;rw[<-z,i.1,i.2,z,PV,Nat.sub_zero,gy]
 rw[e];exact⟨a,b,J,y,j⟩;exact Ge c s A H (.ref a) v C B lo g D Q I l t n m ⟨a,b,J,aG.of f,i,λp u=>q _ _ (zh.new u _) (iX d u (Af j lo g))⟩
end
section
variable{S:lv->Prop}{aL:Str->Bool}
theorem je{n:Nat}(h:n<=1000):n<=TL:=dq h (by decide)
end
section
variable{M:Ro}{T0:lv}{cls a0:Sr}
end
section
variable{K:O4}{E:XK}
end
section
variable{K:O4}{E:XK}
end
structure yD(K:O4)(mg:Str->Option Sr)(base:O7)(x:Str)(C:lv):Prop where
 cls:OwnCls x C [.type "ValueError",.type "Exception",.type "BaseException",.type "object"] "ValueError.__new__" mg base
 keep:SJ K (.ref C)=true
section
variable{M:Ro}{h:O7}{g:Array O6}{d:Drawn}{t:Nat}{os:OsState}{Q:Bool->Sh->Prop}
end
section
variable{E:XK}{s':Sh}{e:Sr}{R:Sh->Prop}
end
section
end
section
variable{a C:lv}
end
section
variable{K:O4}
end
end L2
namespace PySem
open Sem (wp)
noncomputable def qn:List Str:=["__class__","__getattribute__","__getattr__","__init__"]
abbrev vE:List Sr:=[.type "ValueError",.type "Exception",.type "BaseException",.type "object"]
section
variable{M:Ro}{prog:R0}{w:SX}{A:mf}{E:Sr->Sh->Prop}{h:O7}{g:Array O6}{d:Drawn}{t:Nat}{os:OsState}{a:lv}{o:Obj}{nm q:Str} {C N:lv} {bs bm:List Sr} {hdct:Bool} {sn:List Str} {sub:List Sr} {ab:Bool} {col:Option Bool} {dd:Option lv} {k0 k1 k2 k3 k5:Option Sr} {rL:String} {mN:Str->Option Sr}
end
section
variable{M:Ro}{prog:R0}{w:SX}{A:mf}{E:Sr->Sh->Prop}{h:O7}{g:Array O6}{d:Drawn}{t:Nat}{os:OsState}{a:lv}{o:Obj}{nm q:Str} {C N:lv} {bs bm:List Sr} {hdct:Bool} {sn:List Str} {sub:List Sr} {ab:Bool} {col:Option Bool} {dd:Option lv} {k0 k1 k2 k3 k5:Option Sr} {rL:String} {mN:Str->Option Sr}
end
end PySem
namespace L2
open PySem PySem.Spec PyProof.Rows
variable{A:mf}{X:Cx}{H:Hp}{pins:List (lv×Obj)}{cK es:List OP}{cap:List Nat}{prog:R0}{s:Sh}{σ:St}{mg:Str->Option Sr}{E Q:Sr->Sh->Prop}{w:SX}
structure yB(K:O4)(C D:lv):Prop where
 c:∃nm q N bs hdct sn sub ab col dd k0 k1 k2 k3 k5,K.lookup C=some (excClassObj nm q C N bs (.ref D::vE) hdct sn sub ab col dd k0 k1 k2 k3 k5 "ValueError.__new__")/\W.nsOkIn K N=true/\∀n∈qn,SR K N n=some none
 d:∃nm q N bs hdct sn sub ab col dd k0 k1 k2 k3 k5,K.lookup D=some (excClassObj nm q D N bs vE hdct sn sub ab col dd k0 k1 k2 k3 k5 "ValueError.__new__")/\W.nsOkIn K N=true/\∀n∈qn,SR K N n=some none
section
variable{K:O4}{C D:lv}{base:O7}{x:Str}
end
mutual
noncomputable def aY:T->PyData|.non=>.none|.bl b=>.bool b|.int i=>.int i|.str x=>.str x|.tup ts=>.tuple (j7 ts)|.lst ts=>.list (j7 ts)|.dct=>.dict []
noncomputable def j7:List T->List PyData|[]=>[]|t::r=>aY t::j7 r
end
section
mutual
theorem Vi(I:Inv X pins σ H s):∀{t:T}{v:V}{u:Sr},(aY t).canLay0=true->Is H t v->yf v u->∃as,Reads s.heap u (aY t) as
 | .non,v,u,_,h,r=>by cases(show v=.non from h);cases(show u=Sv from r);exact⟨_,by unfold aY;exact .none⟩
 | .bl b,v,u,_,h,r=>by cases(show v=.bl b from h);cases(show u=Ss b from r);exact⟨_,by unfold aY;exact .bool b⟩
 | .int i,v,u,_,h,r=>by
   cases(show v=.int i from h);obtain⟨t,rfl⟩:=(show∃t,u=Su i t from r)
   exact⟨_,by unfold aY;exact .int i t⟩
 | .str x,v,u,_,h,r=>by
   cases(show v=.str x from h);obtain⟨t,rfl⟩:=(show∃t,u=Sx x t from r)
   exact⟨_,by unfold aY;exact .str x t⟩
 | .tup ts,v,u,l,h,r=>by obtain⟨a,xs,rfl,ha,hl⟩:=h;cases(show u=Sw a from r);obtain⟨its,rv,⟨o,e,c,n,d⟩,_⟩:=I.tuple (aG.of ha);obtain⟨as,ra⟩:=Ye I (by unfold aY R1 at l;exact l) hl rv;exact⟨_,by unfold aY;exact .tuple e c d (by simpa using ra)⟩
 | .lst ts,v,u,l,h,r=>by obtain⟨a,xs,rfl,ha,hl⟩:=h;cases(show u=Sw a from r);obtain⟨its,rv,⟨o,n,e,c,_,d⟩,_⟩:=I.list (aK.of ha);obtain⟨as,ra⟩:=Ye I (by unfold aY R1 at l;exact l) hl rv;exact⟨_,by unfold aY;exact .list e c d (by simpa using ra)⟩
 |.dct,v,u,l,h,r=>by unfold aY R1 at l;cases l
theorem Ye(I:Inv X pins σ H s):∀{ts:List T}{xs:List V}{us:List Sr},R3 (j7 ts)=true->IsL H ts xs->yi xs us->∃as,ReadsAll s.heap us (j7 ts) as| [],xs,us,_,h,r=>by cases(show xs=[]from h);cases r;exact⟨_,by unfold j7;exact .nil⟩| t ::ts,xs,us,l,h,r=>by obtain⟨v,vs,rfl,h1,h2⟩:=h;cases r with| cons r1 r2=>unfold j7 R3 at l;rw[bu]at l;obtain⟨as,ra⟩:=Vi I l.1 h1 r1;obtain⟨bs,rb⟩:=Ye I l.2 h2 r2;exact⟨_,by unfold j7;exact .cons ra rb⟩
end
end
inductive DH(f:Bool->Bool)(x y:V)(H:Hp)(Q:VK):Prop|mk:∀t u,Is H t x->Is H u y->(aY t).canLay0=true->(aY u).canLay0=true->(aY t).depth<=20->Q (.bl (f (R5 (aY t) (aY u)))) H->DH f x y H Q
section
theorem Br(o:X.A.units+64<cLine):cQ X (compareOp .Eq) (DH id):=by intro a s m H x y v u Q I g f h;obtain⟨t,n,l,k,c,b,d,q⟩:=h;obtain⟨as,j⟩:=Vi I c l g;obtain⟨p,i⟩:=Vi I b k f;exact SeqAt.rcAt_reads j i c b (by omega) X.prog X.w _ _ ⟨.bl _,H,I,J,q⟩
end
noncomputable def iT(B:List Int):List T:=B.map T.int
theorem V9:∀ns:List Int,j7 (iT ns)=ns.map PyData.int|[]=>by rfl| n::r=>by show j7 (T.int n::iT r)=_;unfold j7;rw[V9 r];rfl
theorem Cb:∀ns:List Int,R3 (j7 (iT ns))=true|[]=>rfl| n::r=>by show R3 (j7 (T.int n::iT r))=true;unfold j7 aY R3;rw[Cb r];rfl
theorem Dt:∀ns:List Int,R4 (j7 (iT ns))=0|[]=>rfl| n::r=>by show R4 (j7 (T.int n::iT r))=0;unfold j7 aY R4;rw[Dt r];rfl
theorem JC:∀ns c:List Int,R6 (j7 (iT ns)) (j7 (iT c))=decide (ns=c):=λns c=>by
 rw[V9,V9];induction ns generalizing c with|nil=>cases c<;>rfl| cons a r d=>
   cases c with|nil=>rfl| cons b q=>
     simp only[d8,R6,R5]
     grind
theorem IsL.ints{H:Hp}:∀{a:List Int}{xs:List V},IsL H (iT a) xs↔xs=a.map V.int|[],xs=>Iff.rfl| n::r,xs=>by constructor;rintro⟨v,d,rfl,c,b⟩;rw[IsL.ints.mp b,(c)];rfl;rintro rfl;exact⟨_,_,J,J,IsL.ints.mpr J⟩
theorem Ho(a:O Int):(aY (.tup (iT a))).canLay0=true:=(Cb a)
def tt(B F:List Int):T:=.tup [.tup (iT B),.tup (iT F)]
section
end
section
inductive mS(K:O4)(o i:V)(H:Hp)(Q:VK):Prop|mk:∀p xs k v,o=.ref p->i=.int k->0<=k->aK K H p xs->xs[k.toNat]?=some v->Q v H->mS K o i H Q
theorem JF:yN X (mS X.K):=by intro b s u H o i y z Q I d f h;obtain⟨p,x,k,v,rfl,rfl,n,l,m,q⟩:=h;cases(d);obtain⟨t,rfl⟩:=f;obtain⟨j,r,g,A⟩:=I.list l;obtain⟨w,c,a⟩:=r.get m;have C:=r.length;have B:=Qn;have hk:=(d7.mp c).1;exact wpAny_getItem_list g.isList n (by omega) (by simpa using c) ⟨v,H,I,a,q⟩
end
section
def Zt(h:O7)(z B to:lv)(F:Sr):Prop:=h.get? z=some {cls:=.type "zip",data:=.fields #[F,.bool false,.bool true,.ref B,.ref to]}
def pK(h:O7)(U F B:lv):Prop:=h.get? U=some {cls:=.type "tuple",data:=.seq #[.ref F,.ref B]}
theorem B6{z b to:Y}{c:I}(hz:Zt s.heap z b to c)(h:Q (.ref z) s):TX (Tx prog w) A (pyIter (.ref z)) Q E s:=
 have a:=⟨_,hz,J⟩
 UJ a PySem.F.slot_zip_iter (dk PySem.F.slot_zip_iter a PySem.F.entry_zip_iter (aa ⟨_,J,"zip",_,a,PySem.F.slot_zip_next.lookup,h⟩) (PySem.F.args_zip_iter_1 _))
theorem LA{d}{g:Pos}{z a to T:Y}{Q:Unit->Sh->Prop}(hz:Zt s.heap z a to (TF T))(f:∀h',Zt h' z a to .none->Pc z s.heap h'->Q () {s with heap:=h'}):TX (Tx prog w) A (letOwnedTupleGo (.Tuple cK d g) (.ref z) (.ref T)) Q E s:=by refine a9 (Uw hz ((show TX _ _ (if(["enumerate","zip","dict_itemiterator","dict_reverseitemiterator","odict_iterator","itertools.zip_longest","itertools.pairwise"].contains "zip" && (#[TF T,.bool false,.bool true,.ref a,.ref to])[0]?==some (TF T))=true then _ else _) Q E s from ?_)));rw[kP (by simp)];exact a9 (UQ (UT hz (by simp) λh' b c=>f h' b c))
end
section
theorem Es(a b c:I):argsOk "object.__init__" ⟨[a,b,c],[("strict",.bool true)]⟩:=by unfold argsOk;kernel_rfl
end
theorem B2:S3 "zip"=some (.type "zip"):=by decide+kernel
section
end
section
variable{a b:lv}{xs zs:List V}{g:TG}{tc:TT}{te:TE}{k:Nat}{Q:VK}
end
section
theorem Dr(bt:Nat->Nat->Bool):∀k,argBest bt k<=k|0=>au 0| k+1=>by have:=Dr bt k;show(if bt (k+1) (argBest bt k)then k+1 else argBest bt k)<=k+1;split<;>omega
theorem Wb(f:Nat->Int):∀k i,i<=k->f (argBest (λi j=>decide (f i<f j)) k)<=f i
 | 0,i,h=>by
   have:i=0:=by omega
   subst this;exact fm _
 | k+1,i,h=>by
   have b:=Wb f k;have e:argBest (λi j=>decide (f i<f j)) (k+1)=if decide (f (k+1)<f (argBest (λi j=>decide (f i<f j)) k))=true then k+1 else argBest (λi j=>decide (f i<f j)) k:=rfl
   rw[e];split
   rename_i c
   have c:=cz c;by_cases a:i=k+1;subst a;exact fm _;have:=b i (by omega);omega
   rename_i c
   have c:¬(f (k+1)<f (argBest (λi j=>decide (f i<f j)) k)):=λz=>c (cf z);by_cases a:i=k+1;subst a;omega;exact b i (by omega)
theorem Lm(W:X.calm=true):j6 X (.builtin "min") (λxs H Q=>∃(a:Y)(ns:O Int),xs=[.ref a]/\aK X.K H a (ns.map V.int)/\ns≠[]/\∀m,m∈ns->(∀n∈ns,m<=n)->Q (.int m) H):=by
 intro B s σ H xs us Q I r h;obtain⟨a,ns,rfl,M,Z,q⟩:=h;obtain⟨u,rfl,F⟩:=Zg r;cases F;obtain⟨f,A,p,hz⟩:=I.list M;have k:a<s.heap.objs.size:=by obtain⟨_,e,_⟩:=p.isList;exact bf e
 have S:=A.length;rw[ag]at S;have N:0<ns.length:=by cases ns with|nil=>exact kS J Z|cons=>simp
 have d:∀i v,f[i]?=some v->∃t,v=Su (ns.getD i 0) t:=λi v c=>by have l:=(d7.mp c).1;obtain⟨u,L,G⟩:=A.get (x:=V.int (ns.getD i 0)) (by rw[bq,fj,cg (by omega)];rfl);rw[L]at c;cases c;exact G
 refine call_min_walk (UH p.isList ⟨s.heap.objs.size,_,_,_,_,_,λi j=>decide (ns.getD i 0<ns.getD j 0),J,Walks.list (A:=X.A.in1) (I.ok.hd W) s.heap.objs.size a (br k) f.toArray,⟨⟨_,cb _ J,J,J⟩,p.isList.push _⟩,?_,by rw[dy];omega,?_,λv h' tk c hk=>?_⟩);intro b w;simp only[bc,ii,or_false]at w⊢;rcases w with rfl|rfl;simp;simp;exact RD k;intro i j E D s' Q' E' l U y;obtain⟨t,rfl⟩:=d i E (by simpa using l);obtain⟨t',rfl⟩:=d j D (by simpa using U);exact HT.eV _ _ _ _ _ _ _ _ _ _ y;have x:f.toArray.size=ns.length:=by rw[dy];omega
 rw[x]at c;obtain⟨t,rfl⟩:=d (argBest (λi j=>decide (ns.getD i 0<ns.getD j 0)) (ns.length-1)) v (by rw[List.getElem?_toArray]at c;exact c);clear c;generalize C:argBest (λi j=>decide (ns.getD i 0<ns.getD j 0)) (ns.length-1)=m;have R:=C▸Dr _ _;have g:m<ns.length:=by omega
 refine⟨.int (ns.getD m 0),H,I.kept λb o e=>hk b o (λw=>?_) (be _ e),⟨_,J⟩,q _ ?_ λn P=>?_⟩;have z:b=s.heap.objs.size:=by simpa using w
 exact kS (bf e) (z▸f9 _);rw[fj,cg g];exact QK g;obtain⟨i,l,rfl⟩:=List.mem_iff_getElem.mp P;have:=Wb (λi=>ns.getD i 0) (ns.length-1) i (by omega);rw[C]at this;have e:ns.getD i 0=ns[i]:=by rw[fj,cg l];rfl
 rw[<-e];exact this
inductive mT(x:V)(ys:List V)(H:Hp)(Q:VK):Prop|mk:∀(ts:List T)(u:T)(y:V),ys=[y]->Is H (.tup ts) x->Is H u y->(∀t∈ts,(aY t).canLay0=true)->(aY u).canLay0=true->(aY u).depth<=20->Q (.int ((ts.countP λt=>R5 (aY t) (aY u):Nat):Int)) H->mT x ys H Q
theorem Bb(A:mf)(s:Sh)(j:A.units+40<cLine){x:Sr}{d:PyData}{o:List lv}(c:Reads s.heap x d o)(lb:d.canLay0=true)(n:d.depth<=20){e:Sr->Bool}(he:∀u t as,Reads s.heap u (aY t) as->(aY t).canLay0=true->e u=R5 (aY t) d):∀{a:List Sr}{ts:List T}{as:List lv},ReadsAll s.heap a (j7 ts) as->R3 (j7 ts)=true->(∀u∈a,SeqAt.EqAt A s u x (e u))/\a.countP e=ts.countP λt=>R5 (aY t) d
 | a,[],as,r,_=>by cases r;exact⟨λu h=>(by simp at h),J⟩
 | a,t::ts,as,r,l=>by
   unfold j7 at r l;have l:(aY t).canLay0=true/\R3 (j7 ts)=true:=by simpa[R3]using l
   cases r with
   | cons f i=>obtain⟨m,k⟩:=Bb A s j c lb n he i l.2;have g:=he _ _ _ f l.1;refine⟨λu b=>?_,?_⟩;rcases bc.mp b with rfl|b;rw[g];exact SeqAt.eqAt_reads _ _ A s _ _ _ _ f c l.1 lb (by omega);exact m u b;rw[PN,PN,k,g]
open Classical in
theorem LE(hu:X.A.units+64<cLine):ud X "tuple.count" mT:=by
 intro pins s σ H x xs v us Q I rx rv h;obtain⟨ts,u,y,rfl,hx,hy,lts,lu,du,q⟩:=h;obtain⟨a,zs,rfl,ha,hz⟩:=hx;cases(show v=Sw a from rx);obtain⟨u',rfl,ru⟩:=rv.one;obtain⟨bs,rb⟩:=Vi I lu hy ru;obtain⟨its,r,ht,hzl⟩:=I.tuple (aG.of ha);have la:R3 (j7 ts)=true:=by clear hz q;induction ts with|nil=>rfl| cons t ts ih=>unfold j7;simp only[R3,bu];exact⟨lts t bv,ih λt' h=>lts t' (bp _ h)⟩
 obtain⟨as,ra⟩:=Ye I la hz r;let e:Sr->Bool:=λz=>decide (∃t as,Reads s.heap z (aY t) as/\(aY t).canLay0=true/\R5 (aY t) (aY u)=true);have he:∀z t as,Reads s.heap z (aY t) as->(aY t).canLay0=true->e z=R5 (aY t) (aY u):=λz t as rz lz=>by rw[pb];refine⟨λh=>?_,λh=>cf ⟨t,as,rz,lz,h⟩⟩;obtain⟨t',as',rz',lz',h'⟩:=cz h;rw[SeqAt.Reads.unique _ _ _ _ _ lz rz rz'];exact h'
 obtain⟨o,eo,hc,n,hd⟩:=ht;have eo':s.heap.get? a=some {cls:=.type "tuple",dict:=o.dict,data:=.seq its.toArray n,slots:=o.slots}:=by rw[eo,<-hc,<-hd]
 have hun:X.A.in1.units=X.A.units+1:=rfl;obtain⟨c1,c2⟩:=Bb X.A.in1 s (by omega) rb lu du he ra la;refine Tb PySem.F.slot_tuple_count ⟨_,eo',rfl⟩ PySem.F.entry_tuple_count (PySem.F.args_tuple_count_2 _ _) (SeqAt.tuple_countAt a its.toArray n o.dict o.slots u' e) ⟨eo',λz hz'=>c1 z (by simpa using hz'),?_⟩;rw[List.toList_toArray,c2];exact⟨.int _,H,I.tok _,⟨_,rfl⟩,q⟩
end
section
variable{o e:OP}{to:TE}{t:TA}{name:Str}{apos cpos:Pos}{id:String}{r:V->List V->Hp->VK->Prop}
def Ei(r:V->List V->Hp->VK->Prop)(to:TE)(t:TA):TE:=λσ H Q=>to σ H λx H1=>(∃p xs,x=.ref p/\H1 p=some (.tup xs))/\t σ H1 λxs H2=>r x xs H2 Q
theorem GJ(g:Slot "tuple" name id)(l:typeOf (.builtin id)=pure (.type "method_descriptor"))(R:ud X id r)(P:PE X o to)(U:PA X (e::es) t)(f:attributeBase o name X.env (Tj o X.env)=Tj o X.env:=by rfl)
  (i:((backTo cpos (TQ (e::es) X.env)).all (λx=> !x.1) && (backToKw cpos (keywordEach [] X.env)).all (λx=>x.1.isSome) && decide ((e::es).length+([]:O PB).length+(if([]:O PB).isEmpty then 0 else 1)<30))=true:=by rfl)
  (d:(apos.endLine==cpos.line)=true:=by rfl) (M:TQ (e::es) X.env=(false,Tj e X.env)::TQ es X.env:=by rfl) (c:(backTo cpos (TQ es X.env)).any (·.1)=false:=by rfl):
  PE X (.Call (.Attribute o name apos) (e::es) [] cpos) (Ei r to t):=by
 intro b s j H Q I h;refine T7 f i d J (aH (P b s j H _ I h) λv B ⟨x,H1,u,D,z,F⟩=>?_);obtain⟨p,xs,rfl,N⟩:=z;cases D;obtain⟨_,L,_,⟨k,m,S,n,hd⟩,G⟩:=(u.hok p _ N)
 refine⟨"tuple",id,PySem.F.plainAttrs_tuple,g,l,⟨k,m,S⟩,λa e=>?_,?_⟩;cases e;exact⟨k,m,G k m⟩;have q:=U cpos b B j H1 _ u F;rw[M]at q⊢;exact I8 (by show(false ||(backTo cpos (TQ es X.env)).any (·.1))=false;rw[c]<;>rfl) (J3 (aH q λy A ⟨w,Z,W,C,E⟩=>R b A j Z (.ref p) w (.ref p) y Q W J C E))
end
section
end
end L2
namespace L2
open PySem PySem.Spec PyProof.Rows PySem.W
variable{A:mf}{p:Array Nat}{h:O7}{gs:List (List Int)}{g:List Int}{vs:List Sr}{prog:R0}{s:Sh}{E:Sr->Sh->Prop}{w:SX}
noncomputable def yg(lt:Nat->Nat->Bool){α:Type}:KasT α->α|.ret a=>a|.ask i j k=>yg lt (k (lt i j))
def jz(n:Nat)(lt:Nat->Nat->Bool){α:Type}:KasT α->Prop|.ret _=>True|.ask i j k=>i<n/\j<n/\jz n lt (k (lt i j))
section
variable{n:Nat}{lt:Nat->Nat->Bool}
theorem jr{α a:Type}{f:α->KasT a}:∀t:KasT α,yg lt (t.bind f)=yg lt (f (yg lt t))|.ret _=>rfl|.ask i j k=>jr (k (lt i j))
theorem Za{α a:Type}{f:α->KasT a}:∀{t:KasT α},jz n lt t->jz n lt (f (yg lt t))->jz n lt (t.bind f)|.ret _,_,h=>h|.ask i j k,h,g=>⟨h.1,h.2.1,Za h.2.2 g⟩
theorem B7{α:Type}{a:Nat->Nat->(Bool->Sh->Prop)->Sh->Prop}{Q:α->Sh->Prop}{s:Sh}(b:∀i j,i<n->j<n->∀C:Bool->Sh->Prop,C (lt i j) s->a i j C s):∀{t:KasT α},jz n lt t->Q (yg lt t) s->t.kasWp a Q s|.ret _,_,q=>q|.ask i j k,h,q=>b i j h.1 h.2.1 _ (B7 b h.2.2 q)
def qa(n:Nat)(p:Array Nat):Prop:=p.toList.Perm (Ri n)
theorem qa.bd(h:qa n p)(a:0<n)(k:Nat):p.getD k 0<n:=by
 by_cases hk:k<p.size;have e:p.getD k 0=p[k]:=by simp[Array.getD,hk]
 rw[e];exact cr.mp (h.mem_iff.mp (by simp));have e:p.getD k 0=0:=by simp[Array.getD,hk]
 rw[e];exact a
theorem qa.rev(h:qa n p)(i j:Nat):qa n (Tq p i j):=(mirror_perm p i j _).toList.trans h
theorem qa.bub(h:qa n p)(i j:Nat):qa n (bubble p i j):=(bubble_perm p i j).toList.trans h
theorem uQ(a:0<n){p:Array Nat}(h:qa n p):∀f m,jz n lt (kas_asc p f m)|0,_=>trivial| f+1,m=>by refine⟨h.bd a _,h.bd a _,?_⟩;dsimp only;split;trivial;exact uQ a h f (m+1)
theorem Js(c:0<n):∀f {p:Array Nat} m q,qa n p->jz n lt (kas_desc f p m q)/\qa n (yg lt (kas_desc f p m q)).1|0,_,_,_,h=>⟨trivial,h⟩| f+1,p,m,q,h=>by show(_/\_/\jz n lt (ite _ _ _))/\qa n (yg lt (ite _ _ _:KasT (Array Nat×Nat×Nat))).1;split;split;obtain⟨a,b⟩:=Js c f (m+1) 0 (h.rev (m-(q+1)) m);exact⟨⟨h.bd c _,h.bd c _,a⟩,b⟩;obtain⟨a,b⟩:=Js c f (m+1) 0 h;exact⟨⟨h.bd c _,h.bd c _,a⟩,b⟩;show(_/\_/\(_/\_/\jz n lt (ite _ _ _)))/\qa n (yg lt (ite _ _ _:KasT (Array Nat×Nat×Nat))).1;split;exact⟨⟨h.bd c _,h.bd c _,h.bd c _,h.bd c _,trivial⟩,h⟩;obtain⟨a,b⟩:=Js c f (m+1) (q+1) h;exact⟨⟨h.bd c _,h.bd c _,h.bd c _,h.bd c _,a⟩,b⟩
theorem CD(a:0<n)(h:qa n p)(m r:Nat):jz n lt (Ts m r p)/\qa n (yg lt (Ts m r p)).2:=by unfold Ts;refine⟨Za (uQ a (h.rev 0 m) _ _) trivial,?_⟩;rw[jr];exact h.rev 0 m
theorem Q9(c:0<n)(h:qa n p)(m r:Nat):jz n lt (Tp m r p)/\qa n (yg lt (Tp m r p)).2:=by
 unfold Tp;obtain⟨a,b⟩:=Js c (r-(m+1)) (m+1) 0 h;generalize kas_desc (r-(m+1)) p (m+1) 0=t at a b;have d:jz n lt (if(yg lt t).2.2>0 then Ts (yg lt t).2.1 r (Tq (yg lt t).1 ((yg lt t).2.1-((yg lt t).2.2+1)) (yg lt t).2.1)else Ts (yg lt t).2.1 r (yg lt t).1)/\
   qa n (yg lt (if(yg lt t).2.2>0 then Ts (yg lt t).2.1 r (Tq (yg lt t).1 ((yg lt t).2.1-((yg lt t).2.2+1)) (yg lt t).2.1)else Ts (yg lt t).2.1 r (yg lt t).1)).2:=by split;exact CD c (b.rev _ _) _ _;exact CD c b _ _
 refine⟨Za a d.1,?_⟩;rw[jr];exact d.2
theorem IX(b:0<n)(h:qa n p)(r:Nat):jz n lt (To r p)/\qa n (yg lt (To r p)).2:=by
 unfold To;have a:=uQ (lt:=lt) b h (r-1) 1;generalize kas_asc p (r-1) 1=t at a;generalize f:yg lt t=m;have d:jz n lt (if(m==r)=true then KasT.ret (m,p)else if m>1 then KasT.ask (p.getD 0 0) (p.getD (m-1) 0) λc=>if c=true then KasT.ret (m,p)else Tp m r (Tq p 0 m)else Tp m r p)/\
   qa n (yg lt (if(m==r)=true then KasT.ret (m,p)else if m>1 then KasT.ask (p.getD 0 0) (p.getD (m-1) 0) λc=>if c=true then KasT.ret (m,p)else Tp m r (Tq p 0 m)else Tp m r p)).2:=by split;exact⟨trivial,h⟩;split;show(_/\_/\jz n lt (ite _ _ _))/\qa n (yg lt (ite _ _ _:KasT (Nat×Array Nat))).2;split;exact⟨⟨h.bd b _,h.bd b _,trivial⟩,h⟩;obtain⟨x,y⟩:=Q9 b (h.rev 0 m) m r;exact⟨⟨h.bd b _,h.bd b _,x⟩,y⟩;exact Q9 b h m r
 subst f;refine⟨Za a d.1,?_⟩;rw[jr];exact d.2
theorem Kp(a:0<n){p:Array Nat}(h:qa n p)(k:Nat):∀f l r,jz n lt (kas_place p k f l r)|0,_,_=>trivial| f+1,l,r=>by unfold kas_place;split;trivial;refine⟨h.bd a _,h.bd a _,?_⟩;dsimp only;split;exact Kp a h k f _ _;exact Kp a h k f _ _
theorem Aa(c:0<n):∀f {p:Array Nat} k,qa n p->jz n lt (Tn f p k)/\qa n (yg lt (Tn f p k))|0,_,_,h=>⟨trivial,h⟩| f+1,p,k,h=>by unfold Tn;obtain⟨a,b⟩:=Aa c f (k+1) (h.bub k (k-yg lt (kas_place p k k 0 k)));refine⟨Za (Kp c h k k 0 k) a,?_⟩;rw[jr];exact b
theorem wW(d:0<n):jz n lt (Tr n)/\qa n (yg lt (Tr n)):=by
 unfold Tr;have f:qa n (List.toArray (Ri n)):=List.Perm.refl _;obtain⟨a,b⟩:=IX d f n;generalize To n (List.toArray (Ri n))=t at a b;have c:jz n lt (if(yg lt t).1<n then Tn (n-max (yg lt t).1 1) (yg lt t).2 (max (yg lt t).1 1)else KasT.ret (yg lt t).2)/\
   qa n (yg lt (if(yg lt t).1<n then Tn (n-max (yg lt t).1 1) (yg lt t).2 (max (yg lt t).1 1)else KasT.ret (yg lt t).2)):=by split;exact Aa d _ _ b;exact⟨trivial,b⟩
 refine⟨Za a c.1,?_⟩;rw[jr];exact c.2
end
structure rS(R:mf->Prop)(P:R0)(w:SX)(h:O7)(vs:List Sr)(κ:SortKind)(lt:Nat->Nat->Bool):Prop where
 kind:∀(A:mf),R A->∀(s:Sh)(E:Sr->Sh->Prop)(Q:SortKind->Sh->Prop),(∀b o,h.get? b=some o->s.heap.get? b=some o)->Q κ s->TX (Tx P w) A (keyKind' vs.toArray) Q E s
 ask:∀i j,i<vs.length->j<vs.length->∀(A:mf),R A->∀(s:Sh)(E:Sr->Sh->Prop)(Q:Bool->Sh->Prop),(∀b o,h.get? b=some o->s.heap.get? b=some o)->Q (lt i j) s->TX (Tx P w) A (keyLt' κ (vs.getD i Sv) (vs.getD j Sv)) Q E s
theorem Z6{α:Type}(vs:O α)(d:α):(Ri vs.length).map (λi=>vs.getD i d)=vs:=by refine List.ext_getElem (by simp) λi b a=>?_;simp[(cg a)]
section
variable{h0:O7}{κ:SortKind}{lt:Nat->Nat->Bool}
def Zz(lt:Nat->Nat->Bool)(vs:List Sr):List Sr:=if vs.length<2 then vs else(yg lt (Tr vs.length)).toList.map λi=>vs.getD i Sv
theorem NW:(Zz lt vs).Perm vs:=by
 unfold Zz;split;exact List.Perm.refl _
 rename_i h
 exact(List.Perm.map (λi=>vs.getD i Sv) ((wW (n:=vs.length) (by omega)).2)).trans (List.Perm.of_eq (Z6 vs Sv))
theorem NK{R:mf->Prop}(D:R A){a:Y}{n:Nat}{P:PySem.Fin->Sh->Prop}(r:s.heap.get? a=some (seqObj "list" vs.toArray n))(u:vs.length<64)(O:2<=vs.length->rS R prog w h0 vs κ lt)(hk:∀b o,h0.get? b=some o->b≠a/\s.heap.get? b=some o) (h:P (.done (.ret .none)) {s with heap:=sortedHeap s.heap a vs (Zz lt vs).toArray}):
  TX (Tx prog w) A (Builtin.«list.sort» ⟨[.ref a],[]⟩) P E s:=by
 rw[list_sort_plain];refine a9 (listItems_at r J (a9 (Tu r J ?_ (by rw[dy,TM];omega) (c9 _))));have q:=get?_update_seq r (λ_=>(#[]));generalize (if(#[]).size==vs.toArray.size then n else n+1)=y at q;refine a9 (seqEpoch_at q J (a9 (Uz (a9 (Uy (Uo ?_) (c9 _))) (by show vs.length<=_;rw[TM];omega))));have l:(((s.heap.update a (RN λ_=>(#[]))).push (seqObj "tuple" vs.toArray 0)).push (seqObj "list" #[] 0)).get? a=some (seqObj "list" #[] y):=be _ (be _ q);have z:∀b o,h0.get? b=some o->(((s.heap.update a (RN λ_=>(#[]))).push (seqObj "tuple" vs.toArray 0)).push (seqObj "list" #[] 0)).get? b=some o:=λb o e=>by obtain⟨L,y⟩:=hk b o e;exact be _ (be _ (by rw[Pf _ _ _ _ L];exact y))
 dsimp only;by_cases m:vs.length<2;have c:=dy▸m;have v:Zz lt vs=vs:=by unfold Zz;rw[kP m]
 rw[kP c,kP c];refine a9 (aa ?_);rw[StateT.run_pure];refine a9 (aa ?_);have d:(arrOf (SortSt.mk' general' (vs.toArray.zip vs.toArray) #[] 7 none)).map (·.2)=vs.toArray:=by show(vs.toArray.zip vs.toArray).map (·.2)=vs.toArray;refine Array.ext (by simp) λi X G=>by simp
 rw[d];refine a9 (seqEpoch_at l J (a9 (Tu l J ?_ (c9 _) (by rw[dy,TM];omega))));simp;rw[v]at h;exact aa h;have c:=dy▸m;have O:=O (by omega);have v:Zz lt vs=(yg lt (Tr vs.length)).toList.map λi=>vs.getD i Sv:=by unfold Zz;rw[kr m]
 obtain⟨H,W⟩:=wW (n:=vs.length) (by omega);rw[kr c,kr c];refine a9 (O.kind _ D _ _ _ z ?_);generalize B:({s with heap:=(((s.heap.update a (RN λ_=>(#[]))).push (seqObj "tuple" vs.toArray 0)).push (seqObj "list" #[] 0))})=S at *;have k:S.heap=(((s.heap.update a (RN λ_=>(#[]))).push (seqObj "tuple" vs.toArray 0)).push (seqObj "list" #[] 0)):=by rw[<-B]
 have run:=kat_run (E:=E) (G:=λp g=>g=S/\p=yg lt (Tr vs.length))
  (Q:=λf g=>g=S/\failedOf f=none/\arrOf f=(yg lt (Tr vs.length)).map (kas_item (vs.toArray.zip vs.toArray))) J (by omega) u
  (λp f g _ G U F=>⟨F.1,U,(F.2▸G)⟩)
  (B7 (λi j N M C Q=>O.ask i j N M _ D _ _ _ (k▸z) Q) H ⟨J,J⟩)
 refine a9 (fq run ?_ λ_ _ x=>x);rintro⟨⟨⟩,f⟩ g ⟨rfl,hf,t⟩;have d:=v▸kat_snds J t;rw[d];rw[<-k]at l;refine a9 (seqEpoch_at l J (a9 (Tu l J ?_ (c9 _) (by rw[dy,NW.length_eq,TM];omega))));rw[hf];simp;rw[<-B];exact aa h
end
def tI(g:List Int):T:=.tup (iT g)
noncomputable def qS(B:Bool):List Int->List Int->Bool|p::r,q::t=>if(p==q)=true then qS B r t else decide (p<q)|_,_=>B
def nD(h:O7)(v:Sr)(g:List Int):Prop:=∃a o n,∃us:List Sr,v=.ref a/\h.get? a=some o/\o.cls=.type "tuple"/\o.data=.seq us.toArray n/\yi (g.map V.int) us
theorem KE{α d:Type}{f:α->d}{j:List d}{l:List d}(p:j.Perm l):∀{xs:List α},l=xs.map f->∃a:List α,j=a.map f/\a.Perm xs:=by
 induction p with
 | nil=>simp
 | cons u p o=>
   intro xs e;cases xs with
   |nil=>cases e
   | cons x xs=>injection e with c b;obtain⟨a,w,q⟩:=o b;exact⟨x::a,by simp_all,q.cons x⟩
 | swap u v l=>
   intro xs e
   match xs,e with
   | x::y::xs,e=>injection e with c b;injection b with s r;exact⟨y::x::xs,by rw[c,s,r];rfl,List.Perm.swap _ _ _⟩
 | trans p q i g=>intro xs e;obtain⟨t,c,n⟩:=g e;obtain⟨k,b,m⟩:=i c;exact⟨k,b,m.trans n⟩
section
theorem Cf{b a:Bool}{Q:Bool->Sh->Prop}:∀{g g':List Int}{j d:List Sr}(i:Nat),yi (g.map V.int) j->yi (g'.map V.int) d->Q (qS a g g') s->KatLex prog w A b a Q (j.zip d) i s|[],_,_,_,i,.nil,_,q=>q|_::_,[],_,_,i,.cons _ _,.nil,q=>q| p::r,f::t,_,_,i,.cons n m,.cons l k,q=>by obtain⟨x,rfl⟩:=n;obtain⟨y,rfl⟩:=l;refine kat_cons (wpAny_eqBool_int ?_);have q:Q (if(p==f)=true then qS a r t else decide (p<f)) s:=q;by_cases c:(p==f)=true;rw[kP c]at q;rw[c];exact kat_yes (Cf (i+1) m k q);rw[kr c]at q;rw[Bool.eq_false_iff.mpr c];refine kat_no ?_;cases o:(b && i==0)with|true=>exact oneLt_int q|false=>exact kat_one _ _ (R8 q)
theorem nD.keep{h':O7}{v:I}(t:nD h v g)(k:∀b o,h.get? b=some o->h'.get? b=some o):nD h' v g:=by obtain⟨a,o,n,c,e,d,r⟩:=t;exact⟨a,o,n,c,e,k _ _ d,r⟩
theorem Dx{h:O7}:∀{gs:List (List Int)}{vs:List Sr},Paired (λg v=>nD h v g) gs vs->(∀g∈gs,g≠[])->∃fs,KatTups h vs fs/\fs.length=vs.length/\∀f∈fs,∃i t,f=Su i t
 |_,_,.nil,_=>⟨[],trivial,J,λf hf=>by grind⟩
 | g ::gs,v::vs,.cons w s,b=>by
   obtain⟨fs,k,l,z⟩:=Dx s λx m=>b x (bp _ m);obtain⟨a,o,n,y,rfl,j,q,p,d⟩:=w;cases g with
   |nil=>simp_all
   | cons i g=>
     cases d with
     | cons r t=>
       rename_i u c
       refine⟨u::fs,KatTups.cons j q p (by simp) k,by grind,λf hf=>?_⟩;rcases bc.mp hf with rfl|hf;obtain⟨t,rfl⟩:=r;simp
       simp_all
theorem LN(P:Paired (λg v=>nD h v g) gs vs)(d:∀g∈gs,g≠[])(L:2<=vs.length):rS (λ_=>True) prog w h vs (tuples' true) (λi j=>qS (decide ((gs.getD i []).length<(gs.getD j []).length)) (gs.getD i []) (gs.getD j [])):=by
 have m:∀i,i<vs.length->nD h (vs.getD i Sv) (gs.getD i []):=by
  clear d L;induction P with
  |nil=>simp
  | cons r t H=>grind
 constructor;intro A _ s E Q k q;obtain⟨b,c,l,x⟩:=Dx P d;have y:KatTups s.heap vs b:=by
  clear l x m q L d P
  revert b
  induction vs with
  | nil=>intro b c;cases b with
    |nil=>trivial
    |cons=>exact c.elim
  | cons v vs H=>intro b c;cases b with
    |nil=>exact c.elim
    | cons f b=>obtain⟨⟨a,o,M,n,e,B,r⟩,c⟩:=c;exact⟨⟨a,o,M,n,e,k _ _ B,r⟩,H b c⟩
 refine kat_kind (T:=.type "int") y (by omega) (λv u=>?_) (by rfl) q;obtain⟨i,t,rfl⟩:=x v u;exact Looks.now;intro i j x R A _ s E Q k q;obtain⟨a,o,n,X,W,B,hc,S,u⟩:=(m i x).keep k;obtain⟨a',Z,n',N,D,z,U,C,p⟩:=(m j R).keep k;rw[W,D];have G:=u.length;have F:=p.length;rw[ag]at G F;refine kat_lt B S z C ?_;rw[dy,dy,<-G,<-F];exact Cf 0 u p q
end
section
variable{X:Cx}
theorem hI{b:List (lv×Obj)}{k:St}{H:Hp}{s:Sh}(I:Inv X b k H s):∀{gs:List (List Int)}{xs:List V}{f:List Sr},IsL H (gs.map tI) xs->yi xs f->Paired (λg v=>nD s.heap v g) gs f| [],xs,f,h,r=>by cases(h);cases r;exact .nil| g ::gs,xs,f,h,r=>by obtain⟨v,x,rfl,u,t⟩:=h;cases r with| cons m l=>refine .cons ?_ (hI I t l);obtain⟨a,w,rfl,q,p⟩:=u;cases(m);obtain⟨i,j,⟨o,e,c,n,d⟩,_⟩:=I.tuple (aG.of q);rw[IsL.ints.mp p]at j;exact⟨a,o,n,i,J,e,c,d,j⟩
end
end L2
namespace L2
open PySem PySem.Spec PyProof.Rows
variable{A:mf}{X:Cx}{es iD:List OP}{cap:List Nat}{aE:Pos}{prog:R0}{s:Sh}{E:Sr->Sh->Prop}{w:SX}
section
open Classical in
end
theorem Am(g:O Int):(aY (tI g)).canLay0=true:=Ho g
theorem IY(g:O Int):(aY (tI g)).depth<=20:=by unfold tI aY PyData.depth;rw[Dt];decide
theorem F6(g g':O Int):R5 (aY (tI g)) (aY (tI g'))=decide (g=g'):=(JC g g')
section
end
section
end
section
end
section
end
inductive mR(x:V)(lo hi:Option Int)(H:Hp)(Q:VK):Prop|mk:∀ts,Is H (.lst ts) x->(∀p H',zh H H'->H p=none->Is H' (.lst (iY ts lo hi)) (.ref p)->Q (.ref p) H')->mR x lo hi H Q
def zK(t:TA):TE:=λσ H Q=>t σ H λxs H1=>xs.length<=1000/\∀p H',zh H1 H'->H1 p=none->H' p=some (.lst xs)->Q (.ref p) H'
def zP(t:TA):TE:=λσ H Q=>t σ H λxs H1=>xs.length<=1000/\∀p H',zh H1 H'->H1 p=none->H' p=some (.tup xs)->Q (.ref p) H'
section
theorem Fr:qG X mR:=by intro b s f H x v j i lo d k Q I l o n m h;obtain⟨u,⟨a,g,rfl,t,r⟩,q⟩:=h;exact Iz b s f H (.ref a) v j i lo d k Q I l o n m ⟨a,g,J,aK.of t,λp c=>q p _ (zh.new c _) c ⟨p,_,J,zd,(Af r lo d).mono (zh.new c _)⟩⟩
theorem yq{t:TA}(h:PA X es t):PE X (.List es aE) (zK t):=by intro a s f H Q I j;refine wpAny_List_spliced (aH (h aE a s f H _ I j) λi c ⟨g,k,d,r,z,q⟩=>⟨(r.length▸je z),?_⟩);have hf:=d.hok.fresh (au _);exact⟨.ref c.heap.objs.size,ji k c.heap.objs.size (.lst g),d.laid (λb u e=>be _ e) (au _) ⟨je z,i,0,r,cb _ J⟩,J,q _ _ (zh.new hf _) hf zd⟩
theorem zx{t:TA}{i}(h:PA X es t):PE X (.Tuple es i aE) (zP t):=by intro a s f H Q I k;refine wpAny_Tuple_spliced (aH (h aE a s f H _ I k) λj c ⟨g,l,d,r,z,q⟩=>⟨(r.length▸je z),?_⟩);have hf:=d.hok.fresh (au _);exact⟨.ref c.heap.objs.size,ji l c.heap.objs.size (.tup g),d.laid (λb u e=>be _ e) (au _) ⟨je z,j,r,IsTup.new _ _,li.push⟩,J,q _ _ (zh.new hf _) hf zd⟩
end
section
inductive mW(x y:V)(H:Hp)(Q:VK):Prop|mk:∀(ts us:List T),Is H (.tup ts) x->Is H (.tup us) y->ts.length+us.length<=1000->(∀v H',zh H H'->Is H' (.tup (ts++us)) v->Q v H')->mW x y H Q
theorem HY:cQ X (S0 .Add) mW:=by intro a s c H x y v u Q I k j h;obtain⟨f,d,n,m,l,q⟩:=h;exact KW a s c H x y v u Q I k j ⟨f,d,n.off0,m.off0,λb z=>z.elim,je l,λv o g i=>q v o g i.off⟩
end
inductive mV(x y:V)(H:Hp)(Q:VK):Prop|mk:∀l b xs zs,x=.ref l->y=.ref b->H l=some (.lst xs)->H b=some (.lst zs)->xs.length+zs.length<=1000->(∀p H',zh H H'->H p=none->H' p=some (.lst (xs++zs))->Q (.ref p) H')->mV x y H Q
inductive mO(K:O4)(vs:List V)(H:Hp)(Q:VK):Prop|mk:∀p ys,vs=[.ref p]->aK K H p ys->(∀l H',zh H H'->H l=none->H' l=some (.tup ys)->Q (.ref l) H')->mO K vs H Q
section
theorem Zd:cQ X (S0 .Add) mV:=by intro a s d H x y v u Q I g f ⟨l,b,xs,zs,e1,e2,h1,h2,h3,q⟩;exact GF a s d H x y v u Q I g f ⟨l,b,xs,zs,e1,e2,h1,h2,by rw[TM];omega,λp c=>q p _ (zh.new c _) c zd⟩
theorem qy:j6 X (.type "tuple") (mO X.K):=by intro a s c H d f Q I r ⟨p,ys,e,h,q⟩;exact N3 a s c H d f Q I r ⟨p,ys,e,.inl ⟨h,λl b=>q l _ (zh.new b _) b zd⟩⟩
end
section
variable{e bW iN tg:OP}{t:TE}{scope:Sc}{own:List Str}
end
end L2
namespace L2
open PySem PySem.Spec PyProof.Rows PySem.W
structure Ord(n:Nat)(lt:Nat->Nat->Bool):Prop where
 irr:∀i,lt i i=false
 tr:∀i j k,lt i j=true->lt j k=true->lt i k=true
 tot:∀i j,i<n->j<n->i≠j->lt i j=true\/lt j i=true
def Dn(lt:Nat->Nat->Bool)(p:Array Nat)(m:Nat):Prop:=∀i j,i<j->j<m->lt (p.getD j 0) (p.getD i 0)=true
section
variable{n:Nat}{lt:Nat->Nat->Bool}
end
section
variable{X:Cx}
theorem MX{α b γ:Type}{R:α->b->Prop}{xs:List α}{a:List b}(h:Paired R xs a){dx:α}{k:b}:∀(l:List Nat),(∀i∈l,i<a.length)->Paired R (l.map λi=>xs.getD i dx) (l.map λi=>a.getD i k):=by
 have f:∀i,i<a.length->R (xs.getD i dx) (a.getD i k):=by induction h with|nil=>intro i d;simp at d| cons r t c=>intro i d;cases i with|zero=>exact r|succ i=>exact c i (by simpa using d)
 intro l;induction l with|nil=>intro _;exact .nil|cons i l c=>intro g;exact .cons (f i (g i bv)) (c λj m=>g j (bp _ m))
theorem Bi{H:Hp}{ts:List T}{xs:List V}(h:IsL H ts xs){dt:T}{dx:V}:∀(l:List Nat),(∀i∈l,i<xs.length)->IsL H (l.map λi=>ts.getD i dt) (l.map λi=>xs.getD i dx)|[],_=>rfl| i::l,b=>by have g:=b i bv;have a:=h.length;obtain⟨v,f,d⟩:=h.get (t:=ts.getD i dt) (by rw[fj,cg (by omega)];rfl);refine⟨_,_,J,?_,Bi h l λj c=>b j (bp _ c)⟩;show Is H (ts.getD i dt) (xs.getD i dx);rw[fj (l:=xs),f];exact d
end
end L2
namespace L2
open PySem PySem.Spec PyProof.Rows
section
variable{X:Cx}
end
end L2
namespace L2
open PySem PySem.Spec PyProof.Rows PySem.W
variable{A:mf}{es:Array OO}{h:O7}{H:Hp}{ks:List (List Int)}{Q:Option Sr->Sh->Prop}{s:Sh}{E:Sr->Sh->Prop}
def qj(h:O7)(d:lv)(B:Array OO)(F:Nat):Prop:=∃o,h.get? d=some o/\o.ExactDict/\o.data=.dict B F
section
variable{prog:R0}{w:SX}{d it:lv}{ep i:Nat}
theorem qj.ty(x:qj s.heap d es ep):s.TypeIs (.ref d) "dict":=let⟨o,a,b,_⟩:=x;⟨o,a,b.1⟩
theorem qj.at{h':O7}(x:qj h d es ep)(k:∀o,h.get? d=some o->h'.get? d=some o):qj h' d es ep:=let⟨o,a,r⟩:=x;⟨o,k o a,r⟩
theorem qj.lt(x:qj h d es ep):d<h.objs.size:=let⟨_,a,_⟩:=x;bf a
theorem JA{Q:I->Sh->Prop}(f:(d==TV)=false)(x:qj s.heap d es ep)(g:Q (.ref s.heap.objs.size) {s with heap:=s.heap.push {cls:=.type "dict_keyiterator",data:=.fields #[.ref d,.int 0 0,.int es.size 0,.int ep 0]}}):TX (Tx prog w) A (pyIter (.ref d)) Q E s:=by have b:=x.ty;obtain⟨o,c,i,a⟩:=id x;refine UJ b F.slot_dict_iter (dk F.slot_dict_iter b F.entry_dict_iter (a9 (a9 (UC b (aa ?_)))) (F.args_dict_iter_1 _));show TX _ _ (qm d>>=_) _ _ s;unfold qm;rw[kr (f▸cy)];refine a9 (aa (a9 (Ue c a (a9 (Uf c a (a9 (fe (aa ⟨_,J,"dict_keyiterator",_,⟨_,cb _ J,J⟩,F.slot_dict_keyiterator_next.lookup,?_⟩))))))));simpa[TF]using g
theorem JB(a:s.heap.IsKeyIter it d i es.size ep)(x:qj s.heap d es ep)(k:i<es.size)(n:∀h',h'.IsKeyIter it d (i+1) es.size ep->Pc it s.heap h'->Q (some es[i].key) {s with heap:=h'}):TX (Tx prog w) A (TD (.ref it)) Q E s:=by
 obtain⟨o,g,m,f⟩:=id a;obtain⟨p,b,l,c⟩:=id x;refine a9 (Ua (Uc a.typeIs OZ (dk OZ a.typeIs OU (a9 (aa (a9 (a9 ?_)))) (OR _))))
 first|refine a9 (VB a.typeIs (aa ?_))|refine a9 (VE a.typeIs (aa ?_))
 refine a9 (Uj g f ?_);show TX _ _ (if(Sw d==Sv)=true then _ else _) _ _ s;rw[kr (show¬((Sw d==Sv)=true)from cy)];refine a9 (aa (a9 (Ue b c ?_)));rw[kr (by simp)];refine a9 (aa (a9 (Uf b c ?_)));rw[kr (by simp)];refine aa ?_;simp only[dm,fw k];refine a9 ?_;first|refine a9 (VB a.typeIs (aa ?_))|refine a9 (VE a.typeIs (aa ?_))
 refine a9 (Uq a.typeIs ?_);show TX _ _ (setField (.ref it) 1 (TF (i+1))>>=_) _ _ s;refine a9 (US g f (by simp) ?_);have j:(s.heap.update it (Obj.mapFields (·.setIfInBounds 1 (TF (i+1))))).IsKeyIter it d (i+1) es.size ep:=
  ⟨_,Ph _ g (RL (RJ f _)),(RH ..).trans m,by rw[RJ f];simp[TF]⟩
 exact a9 (Uo (a9 (Uq j.typeIs (aa (aa ⟨_,J,aa (n _ j (Pe ..))⟩)))))
theorem Ia(k:A.handled=none)(a:s.heap.IsKeyIter it d i es.size ep)(x:qj s.heap d es ep)(j:es.size<=i)(m:∀h',Pa it s.heap h'->Q none {s with heap:=h'}):TX (Tx prog w) A (TD (.ref it)) Q E s:=by
 obtain⟨n,f,p,g⟩:=id a;obtain⟨o,b,l,c⟩:=id x;refine a9 (Ua (Uc a.typeIs OZ (dk OZ a.typeIs OU (a9 (aa (a9 (a9 ?_)))) (OR _))))
 first|refine a9 (VB a.typeIs (aa ?_))|refine a9 (VE a.typeIs (aa ?_))
 refine a9 (Uj f g ?_);show TX _ _ (if(Sw d==Sv)=true then _ else _) _ _ s;rw[kr (show¬((Sw d==Sv)=true)from cy)];refine a9 (aa (a9 (Ue b c ?_)));rw[kr (by simp)];refine a9 (aa (a9 (Uf b c ?_)));rw[kr (by simp)];refine aa ?_;simp only[dm,nu j];refine a9 ?_;first|refine a9 (VB a.typeIs (aa ?_))|refine a9 (VE a.typeIs (aa ?_))
 show TX _ _ (setField (.ref it) 0 .none>>=_) _ _ s;refine a9 (US f g (by simp) (a9 (a9 (fe (a9 (UD (by first|rfl|(rfl)) (fe (a9 (Um ?_)) (by size_fits)))) (by size_fits)))));rw[(k)];refine a9 (aa (UX ?_));exact a9 (fz ⟨_,cb _ J,J⟩ Tk (aa (m _ (((Pe ..).extBut.push _).push _))))
theorem LW(n:A.handled=none)(I:Y)(j:d≠I):Walks prog w A I [I,d] [I] es.size (λi v=>∃e,es[i]?=some e/\v=e.key) (λi h=>h.IsKeyIter I d i es.size ep/\qj h d es ep) where
 sub:=λb a=>by simp at a;simp[a]
 frame:=λ_ _ _ st hk=>⟨st.1.at λo e=>hk I (by simp) o e,st.2.at λo e=>hk d (by simp) o e⟩
 item:=λi s Q E m st g=>JB st.1 st.2 m λl f c=>g _ l s.toks ⟨_,fw m,J⟩ ⟨f,st.2.at λo e=>c.extBut d o j e⟩ λb o a e=>c.extBut b o (λh=>a (by simp[h])) e
 done:=λs Q E st g=>Ia n st.1 st.2 (au _) λl k=>g l s.toks λb o a e=>k b o (λh=>a (by simp[h])) e
 self:=λ_ _ _ _ st g=>wpAny_pyIter_keyiter st.1 g
theorem BJ(lo:(d==TV)=false):KdlSrc prog w "dict" d d es.size (λi v=>∃e,es[i]?=some e/\v=e.key) (λh=>qj h d es ep) where
 type:=λ_ x=>x.ty
 there:=λ_ x=>⟨x.lt,x.lt⟩
 keep:=λ_ _ x hk=>x.at λo e=>hk d (.inl J) o e
 notList:=by decide
 notTuple:=by decide
 hint:=λ_ _ _ _ x a=>kdl_hint_dict x.ty a
 iter:=λ_ _ b x=>⟨_,_,(λ_ _ a=>JA lo x a),LW b _ (br x.lt),⟨⟨_,cb _ J,J,J⟩,x.at λo e=>be _ e⟩⟩
end
noncomputable def kI(g:List Int):List aJ:=g.map Sm
theorem nO(g:O Int):(kI g).map kV=g.map V.int:=by unfold kI;rw[ck];rfl
theorem Ay{g g':List Int}(h:kI g=kI g'):g=g':=by unfold kI at h;induction g generalizing g' with|nil=>simp_all| cons a g c=>cases g' with|nil=>cases h| cons b g'=>grind
inductive rX(H:Hp)(d:lv)(ks:List (List Int)):Prop|mk:∀kvs:List (List aJ×V),H d=some (.dT kvs)->kvs.map (·.1)=ks.map kI->rX H d ks
theorem rX.len{d:Y}{kvs:O (O aJ×V)}(e:H d=some (.dT kvs))(k:kvs.map (·.1)=ks.map kI):kvs.length=ks.length:=by
 have:=kW QM k
 grind
theorem zD{kvs:List (List aJ×V)}{xs:List (List aJ×lv×Sr)}(a:KT H kvs xs):∀{ks:List (List Int)},kvs.map (·.1)=ks.map kI->IsL H (ks.map tI) (xs.map λx=>V.ref x.2.1):=by
 induction a with
 | nil=>
   intro ks k;cases ks with
   |nil=>rfl
   |cons=>cases k
 | @cons p x j i f t d=>
   intro ks k;cases ks with
   |nil=>cases k
   | cons g ks=>injection k with b c;refine⟨_,_,J,⟨x.2.1,_,J,f.2.1,?_⟩,d c⟩;have b:p.1=kI g:=b;rw[b,nO];exact IsL.ints.mpr J
section
variable{X:Cx}
inductive jX(xs:List V)(H:Hp)(Q:VK):Prop|mk:∀d ks,xs=[.ref d]->rX H d ks->(∀ys p H',zh H H'->H p=none->H' p=some (.lst ys)->IsL H' (ks.map tI) ys->Q (.ref p) H')->jX xs H Q
theorem Mv(G:X.calm=true):j6 X (.type "list") jX:=by
 intro p s P H c S Q I r h;obtain⟨d,W,rfl,⟨A,e,k⟩,q⟩:=h;obtain⟨u,rfl,y⟩:=Zg r;cases(y);obtain⟨z,F,c,f,⟨o,es,ep,D,l,g,w,_,_⟩⟩:=uE I.hok e;have B:=Paired.length f;have E:=TN w;refine kdl_call (BJ F) (I.ok.hd G) ⟨o,D,l,g⟩ (by omega) λh' U b N hk Z a=>?_;have C:yi (c.map λx=>V.ref x.2.1) b.toList:=W8 (by have i:=a.1;simp_all) λj x v m e2=>by obtain⟨en,i,L⟩:=a.2 j v (by simp_all);rw[Ti w j]at i;rw[bq]at m;cases M:c[j]? with|none=>simp_all| some R=>rw[M]at m i;cases m;cases i;rw[L];rfl
 have t:=I.hok.fresh (au s.heap.objs.size);have n:=zh.new t (.lst (c.map λx=>V.ref x.2.1));exact⟨.ref s.heap.objs.size,_,I.laid (o:=.lst (c.map λx=>V.ref x.2.1)) hk (au _) ⟨by simp_all,b.toList,N,C,by omega⟩,J,q _ _ _ n t zd ((zD f k).mono n)⟩
end
end L2
namespace L2
open PySem PySem.Spec PyProof.Rows
variable{a:lv}{A:mf}{sl:Array (Option Sr)}{its xs:Array Sr}{X:Cx}{Q:Option Sr->Sh->Prop}{prog:R0}{R:Sb->Sh->Prop}{s:Sh}{E:Sr->Sh->Prop}{w:SX}
theorem MI:typeLookup (.type "list") "keys"=pure none:=am_miss_of_fast (by rfl)
section
set_option maxRecDepth 8000 in
theorem NL{k:Nat}{u:Tok}{Q:Sr->Sh->Prop}(hx:s.heap.get? a=some {cls:=.type "list",dict:=none,data:=.seq xs k,slots:=sl})(hA:A.handled=none)
  (h:∀h' tk e,Heap.NewExcOf s.heap h' e "AttributeError"->E (.ref e) {s with heap:=h',toks:=tk}):TX (Tx prog w) A (getAttrBy (.ref a) (.str "keys" u) false) Q E s:=by
 obtain⟨hp,g,d,tk,os⟩:=s;have hT:∀tk',(⟨hp,g,d,tk',os⟩:Sh).TypeIs (.ref a) "list":=λ_=>⟨_,hx,rfl⟩
 have f1:=TR;have f3:=PySem.F.slot_list_getattribute.lookup;have f4:=PySem.F.slot_list_getattribute.bind (.ref a);have f5:=am_list_getattr_none;unfold getAttrBy
 repeat(any_goals (first|assumption|exact hT _|((with_reducible show TX _ _ (call (Value.builtin "list.__getattribute__") _ _) _ _ _);refine Tb PySem.F.slot_list_getattribute (hT _) am_entry_list_getattribute (PySem.F.args_list_getattribute_2 _ _) (meets_getattribute_miss_list a xs k sl "keys" _ MI (by decide+kernel) (by size_fits)) ⟨hx,hA,λh' tk' e hx'=>?_⟩)|wp_step))
 obtain⟨t',u',he⟩:=hx'.there;show TX _ _ (getattributeRaised _ _ _ _ _ _ _) _ _ _;unfold getattributeRaised
 repeat(any_goals (first|assumption|wp_step))
 exact h _ _ _ hx'.of
theorem K9{k:Nat}(d:s.heap.get? a=some {cls:=.type "list",dict:=none,data:=.seq xs k,slots:=sl})(i:A.handled=none)
  (h:∀h' tk,(∀b o,s.heap.get? b=some o->h'.get? b=some o)->Q none {s with heap:=h',toks:=tk}):TX (Tx prog w) A (getAttr? (.ref a) "keys") Q E s:=by refine a9 (wpAny_mkText (a9 (Ua (NL d i λh' tk e x=>?_))));obtain⟨c,r,f,g,_⟩:=x.there;exact a9 (fz ⟨_,f,g⟩ TR (aa (h _ _ x.keeps)))
end
abbrev Je:=List aJ×lv×Sr
noncomputable def Ap(xs rows:List Je):List Je:=rows.foldl (λB r=>storedH B r.1 r.2.1 r.2.2) xs
theorem NC(xs:O Je)(k:O aJ)(a:Y)(v:I):(storedH xs k a v).length<=xs.length+1:=by
 unfold storedH
 grind
section
def sy(prog:R0)(w:SX)(h:O7)(d B:lv)(v:Sr)(r:Je):Prop:=∃b,v=.ref b/\b≠d/\b≠B/\r.2.1≠d/\r.2.1≠B/\h.IsTuple b #[.ref r.2.1,r.2.2]/\(tupleKind (zt prog w)).is h r.1 r.2.1
theorem sy.keep{h h':O7}{d a:Y}{v:I}{r:Je}(p:sy prog w h d a v r)(k:∀c o,c≠d->c≠a->h.get? c=some o->h'.get? c=some o):sy prog w h' d a v r:=by obtain⟨b,e,l,j,i,g,⟨o,t,x,n,u⟩,⟨s,y,m,f,q⟩⟩:=p;exact⟨b,e,l,j,i,g,⟨o,k _ _ l j t,x,n,u⟩,⟨s,y,m,k _ _ i g f,q⟩⟩
theorem Lr{d F t:lv}{rows:List Je}(hu:A.units+1<cLine)(hh:A.handled=none)(B:d≠F)(aj:t≠F)(ah:t≠d)(hl:its.size=rows.length)(ak:rows.length<=TL):
  ∀ (k i:Nat) (s:Sh) (xs:List Je),rows.length-i=k->i<=rows.length->xs.length<=i->s.heap.IsListIter F t i->s.heap.IsList t its->s.heap.DictOfH (tupleKind (zt prog w)) d xs->
    (∀(j:Nat) v r,its[j]?=some v->rows[j]?=some r->sy prog w s.heap d F v r)->
    (∀h' tk,h'.DictOfH (tupleKind (zt prog w)) d (Ap xs (rows.drop i))->(∀b o,b≠d->b≠F->s.heap.get? b=some o->h'.get? b=some o)->R (.ok (.ret .none)) {s with heap:=h',toks:=tk})->
    Td (Tx prog w) A (.builtin "dict.update.loop" ⟨[.ref d,.ref F,TF i,.none],[]⟩) R s:=by
 intro k;induction k with| zero=>
   intro i s xs hk hi hz f Q hd W hR;have e:i=rows.length:=by omega
   refine Te Z3 ?_;rw[mu vg _];refine a9 (UL (hh) f Q (nu (by omega)) λh' eb=>(a9 (aa (aa (hR h' s.toks ?_ λb o H n z=>eb b o n z)))));rw[e,PU];obtain⟨o,es,ep,Z,hc,D,he,C,y⟩:=hd;refine⟨o,es,ep,eb d o B Z,hc,D,he,λx G=>?_,y⟩;obtain⟨S,aD,m,a,p⟩:=C x G;refine⟨S,aD,m,eb _ _ (λz=>?_) a,p⟩;obtain⟨oi,u,E,_⟩:=f;rw[z,u]at a;cases a;rw[E]at p;exact kS p.1 (by decide)| succ k ih=>
   intro i s xs hk hi hz f Q hd W hR;have l:i<rows.length:=by omega
   have G:its[i]?=some its[i]:=fw (by omega);refine Te Z3 ?_;rw[mu vg _];refine a9 (UM f Q G λg N L=>?_);obtain⟨b,hb,aS,az,ay,ax,P,M⟩:=(W i _ _ G (cg l)).keep (λc o _ n z=>L.extBut c o n z);have aw:g.DictOfH (tupleKind (zt prog w)) d xs:=by obtain⟨o,es,ep,Z,hc,D,he,C,y⟩:=hd;refine⟨o,es,ep,L.extBut d o B Z,hc,D,he,λx G=>?_,y⟩;obtain⟨S,aD,m,a,p⟩:=C x G;refine⟨S,aD,m,L.extBut _ _ (λz=>?_) a,p⟩;obtain⟨oi,u,E,_⟩:=f;rw[z,u]at a;cases a;rw[E]at p;exact kS p.1 (by decide)
   rw[hb];refine a9 (Uo (a9 (UZ (a9 (VG (Pb P) ?_)))));rw[kP (by rfl)];obtain⟨ob,X,_,nb,aq⟩:=P;refine a9 (UR X aq (aa (Uo (Ug (TW hu) M aw (λg2 av q=>(aa ⟨TC vg _,?_⟩)) (dq (Rw (gu hz l)) ak)))));have e1:TF (i+1)=TF ((i+1)):=by simp
   have keep:=λc o H n z=>q.extBut c o H (L.extBut c o n z);rw[e1];have lz:=NC xs rows[i].1 rows[i].2.1 rows[i].2.2;refine ih (i+1) _ _ (by omega) l (by omega) (N.extBut q.extBut (ae B)) (Q.extBut L.extBut aj |>.extBut q.extBut ah) av (λj v r hv U=>(W j v r hv U).keep keep) λh' tk hD ap=>(hR h' tk ?_ λc o H n z=>ap c o H n (keep c o H n z))
   rw[(PR l)];exact hD
end
inductive dQ(H:Hp)(b:lv)(r:List Int×V):Prop|mk:∀kb,H b=some (.tup [.ref kb,r.2])->H kb=some (.tup (r.1.map V.int))->dQ H b r
theorem zW{X:Cx}{c:List (lv×Obj)}{k:St}{H:Hp}{s:Sh}(I:Inv X c k H s):∀{d:List lv}{rows:List (List Int×V)},Paired (dQ H) d rows->∃a:List Je,a.length=d.length/\Paired (λ(r:List Int×V) (q:Je)=>kI r.1=q.1/\H q.2.1=some (.tup (q.1.map kV))/\yf r.2 q.2.2) rows a/\
  ∀(j:Nat) b q,d[j]?=some b->a[j]?=some q->s.heap.IsTuple b #[.ref q.2.1,q.2.2]/\(tupleKind (zt X.prog X.w)).is s.heap q.1 q.2.1
 |_,_,.nil=>⟨[],J,.nil,λj b q f=>by simp⟩
 | b ::d,r::rows,.cons h t=>by
   obtain⟨a,B,y,A⟩:=zW I t;obtain⟨v,f,hk⟩:=h;obtain⟨_,w,m,x,_⟩:=(I.hok b _ f)
   cases m with
   | @cons _ z _ _ u p=>
     cases p with
     | @cons _ l _ _ o n=>
       cases n;cases(u);rw[<-nO]at hk;refine⟨(kI r.1,v,l)::a,by grind,.cons ⟨J,hk,o⟩ y,λj C q i g=>?_⟩;cases j with
       | zero=>simp at i g;subst i g;exact⟨x,Xm I.hok hk⟩
       |succ j=>grind
section
end
section
end
end L2
namespace L2
open PySem PySem.Spec PyProof.Rows PySem.W
variable{A:mf}{Q:Bool->Sh->Prop}{s:Sh}{E:Sr->Sh->Prop}
section
variable{prog:R0}{w:SX}{K:Type}[DecidableEq K](knd:KeyKind prog w K)
variable{knd}
theorem Mg{n:Nat}{ks:O K}{a:Y}(hk:IsTupleKey knd s.heap ks a)(h:Q true s):TX (Tx prog w) A (eqIsQuiet (n+1) (.ref a)) Q E s:=by have g:=hk.typeIs;obtain⟨o,q,m,i,_,k,j⟩:=hk;unfold eqIsQuiet;refine a9 (UV g F.slot_tuple_eq.lookup (a9 (fz g Tl (a9 (UR i k (a9 ?_))))));rw[<-nh];refine Uk _ (λZ1 r c=>r.1=none/\c=s/\∀v∈Z1,carriedByValue v=true) _ ?_ ?_ _ _ ⟨J,J,j.byValue⟩;rintro v Z1 r c ⟨f,rfl,b⟩;rw[eqIsQuiet_byValue _ (b v bv)];exact a9 (aa (aa ⟨J,J,λu d=>b u (bp _ d)⟩));rintro⟨p,l⟩ c ⟨f,rfl,_⟩;subst f;exact aa h
end
def tN(k:List (List Int)):T:=.tup (k.map tI)
abbrev Ev:=List (List Int)
variable{kvs:List (Ev×V)}{P:R0}
theorem Vr:∀(a:List Int),qb (a.map T.int)|[]=>trivial|c::a=>⟨trivial,Vr a⟩
section
variable{w:SX}{H H':Hp}{d:lv}
end
section
variable{X:Cx}{o i e aU:OP}{aE cF cM:Pos}{td ty tv:TE}
end
end L2
namespace L2
open PySem PySem.Spec PyProof.Rows
variable{A:mf}{its:Array Sr}{X:Cx}{prog:R0}{R:Sb->Sh->Prop}{w:SX}
def pG(h h':O7):Prop:=∀c o,o.cls=.type "tuple"->h.get? c=some o->h'.get? c=some o
section
variable{h h':O7}
end
section
end
section
def Al(prog:R0)(w:SX)(h:O7)(v:Sr)(F:aJ×Sr):Prop:=∃b B,v=.ref b/\h.IsTuple b #[B,F.2]/\(zt prog w).is F.1 B=true
theorem IZ{d x t:lv}{rows:List (aJ×Sr)}(hh:A.handled=none)(p:d≠x)(Q:t≠x)(P:t≠d)(hl:its.size=rows.length)(S:rows.length<=TL):
  ∀ (k i:Nat) (s:Sh) (kvs:List (aJ×Sr)),rows.length-i=k->i<=rows.length->kvs.length<=i->s.heap.IsTupleIter x t i->s.heap.IsTuple t its->s.heap.DictOf (zt prog w) d kvs->
    (∀(j:Nat) v F,its[j]?=some v->rows[j]?=some F->∃b,v=.ref b/\b≠d/\b≠x/\Al prog w s.heap v F)->
    (∀h' tk,h'.DictOf (zt prog w) d (merged kvs (rows.drop i))->(∀b o,b≠d->b≠x->s.heap.get? b=some o->h'.get? b=some o)->R (.ok (.ret .none)) {s with heap:=h',toks:=tk})->
    Td (Tx prog w) A (.builtin "dict.update.loop" ⟨[.ref d,.ref x,TF i,.none],[]⟩) R s:=by
 intro k;induction k with| zero=>
   intro i s kvs hk hi hz q G hd L hR;have e:i=rows.length:=by omega
   refine Te Z3 ?_;rw[mu vg _];refine a9 (UO (hh) q G (nu (by omega)) λh' eb=>(a9 (aa (aa (hR h' s.toks ?_ λb o m a z=>eb b o a z)))));rw[e,PU];obtain⟨o,es,ep,N,r⟩:=hd;exact⟨o,es,ep,eb d o p N,r⟩| succ k ih=>
   intro i s kvs hk hi hz q G hd L hR;have l:i<rows.length:=by omega
   have hx:its[i]?=some its[i]:=fw (by omega);obtain⟨b,hb,aq,H,b',av,E,ap,C⟩:=L i _ _ hx (cg l);rw[hb]at E;cases E;refine Te Z3 ?_;rw[mu vg _];refine a9 (UP q G hx λg D B=>?_);have n:=ap.extBut B.extBut H;have aj:g.DictOf (zt prog w) d kvs:=by obtain⟨o,es,ep,N,r⟩:=hd;exact⟨o,es,ep,B.extBut d o p N,r⟩
   rw[hb];refine a9 (Uo (a9 (UZ (a9 (VG (Pb n) ?_)))));rw[kP (by rfl)];obtain⟨ob,M,_,nb,Z⟩:=n;refine a9 (UR M Z (aa (Uo (wpAny_dictSet_pairs C aj (λg2 ah f=>(aa ⟨TC vg _,?_⟩)) (dq (Rw (gu hz l)) S)))));have e1:TF (i+1)=TF (i+1):=by simp
   rw[e1];refine ih (i+1) _ _ (by omega) l ?_ (D.extBut f.extBut (ae p)) (G.extBut B.extBut Q |>.extBut f.extBut P) ah (λj v F hv U=>?_) λh' tk hD X=>?_;unfold stored;split;rw[ag];omega;rw[cq,ij];omega;obtain⟨c,hc,m,a,c',y,u,ak,W⟩:=L j v F hv U;refine⟨c,hc,m,a,c',y,u,?_,W⟩;rw[hc]at u;cases u;exact(ak.extBut B.extBut a).extBut f.extBut m;refine hR h' tk ?_ λc o m a z=>X c o m a ((λc o m a z=>f.extBut c o m (B.extBut c o a z)) c o m a z);rw[(PR l)];exact hD
end
section
def GP:List V->Hp->VK->Prop:=λxs H Q=>∃(a:lv)(bs:List lv)(kvs:List (aJ×V)),xs=[.ref a]/\H a=some (.tup (bs.map V.ref))/\Paired (λ(b:lv) (B:aJ×V)=>H b=some (.tup [kV B.1,B.2])) bs kvs/\
 ∀p,H p=none->Q (.ref p) (ji H p (.dK (Zr [] kvs)))
theorem Ms (hc:X.calm=true):j6 X (.type "dict") GP:=by
 intro ax s σ H xs us Q I r h;obtain⟨a,i,d,rfl,ha,aq,q⟩:=h;obtain⟨u,rfl,rx⟩:=Zg r;cases rx;obtain⟨hz,l,rv,⟨⟨cc,cd,a5,aw⟩,h1,h2,n,h3⟩,nd⟩:=(I.hok a _ ha)
 have h4:=nd _ h1;subst h2 h3 h4;have hh:=I.ok.hd hc;have rowsOf:∀(i:O Y) (d:O (aJ×V)),Paired (λb k=>H b=some (.tup [kV k.1,k.2])) i d->∃c:O (aJ×Sr),KV d c/\c.length=i.length/\
   ∀(j:Nat) b k,i[j]?=some b->c[j]?=some k->Al X.prog X.w s.heap (.ref b) k/\H b≠none:=by
  intro i d hp;induction hp with|nil=>exact⟨[],.nil,J,λj b k G=>by simp at G⟩| @cons b k i d G _ ih=>
    obtain⟨c,F,hl,hr⟩:=ih;obtain⟨_,ay,N,U,_⟩:=(I.hok b _ G)
    cases N with| @cons _ kq _ _ r1 r2=>cases r2 with| @cons _ vq _ _ r3 r4=>cases r4;refine⟨(k.1,vq)::c,.cons ⟨J,r3⟩ F,by simp[hl],λj b' R M L=>?_⟩;cases j with| zero=>simp at M L;subst M L;exact⟨⟨b,kq,J,U,Y8 r1⟩,by rw[G];simp⟩|succ j=>exact hr j b' R (by simpa using M) (by simpa using L)
 obtain⟨c,F,a3,w⟩:=rowsOf i d aq;have aj:l.length=i.length:=by have:=rv.length;rw[ag]at this;omega
 have aS:i.length<=TL:=by rw[ag]at hz;exact hz
 refine Ta (Q₁:=λy p=>y=.ref s.heap.objs.size/\p={s with heap:=s.heap.push {cls:=.type "dict",data:=.dict #[]}}) PySem.F.kt_called_dict (PySem.F.kt_typeCall_dict_1 _) PySem.F.entry_dict_init (Tt _ ⟨J,J⟩) ?_;rintro y p ⟨rfl,rfl⟩;have f:(s.heap.push {cls:=.type "dict",data:=.dict #[]}).DictOf (zt X.prog X.w) s.heap.objs.size []:=Heap.DictOf.new s.heap;have x:(s.heap.push {cls:=.type "dict",data:=.dict #[]}).get? a=some {cls:=.type "tuple",dict:=none,data:=.seq l.toArray n,slots:=aw}:=be _ h1;have D:=bf h1;refine⟨f.typeIs,PySem.F.args_dict_init_2 _ _,(a9 (a9 (UC f.typeIs ?_)))⟩;refine aa ?_;show TX _ _ (re "dict.__init__" s.heap.objs.size (.ref a) [] .none) _ _ _;refine a9 (VG ⟨_,x,J⟩ ?_);rw[kP (by decide)];refine a9 (Ng x hh λg tk hk=>(a9 (UQ ?_)));have B:g.IsTuple a l.toArray:=⟨_,hk _ _ x,J,n,J⟩
 refine a9 (UK B (aa ⟨TC vg _,?_⟩));have m:s.heap.objs.size+1<=g.objs.size:=by obtain⟨o,es,ep,W,_⟩:=f;exact bf (hk _ _ W)
 have ak:(g.push {cls:=.type "tuple_iterator",data:=.fields #[.ref a,.int 0 0]}).DictOf (zt X.prog X.w) s.heap.objs.size []:=by obtain⟨o,es,ep,W,P⟩:=f;exact⟨o,es,ep,be _ (hk _ _ W),P⟩
 have up:∀b o,s.heap.get? b=some o->(g.push {cls:=.type "tuple_iterator",data:=.fields #[.ref a,.int 0 0]}).get? b=some o:=λb o e=>be _ (hk _ _ (be _ e));refine IZ (A:=X.A.in1) (rows:=c) hh (br (RB m)) (br (RE D (RB m))) (br D) (by rw[dy];omega) (by omega) c.length 0 _ [] (by omega) (c9 _) (au _)
  ⟨_,cb _ J,J,J⟩ (B.push _) ak (λj v k A ah=>?_) λh' az hD hK=>?_
 have A:l[j]?=some v:=by simpa using A
 have hj:j<i.length:=by have:=(d7.mp A).1;omega
 obtain⟨u,hu,ru⟩:=rv.get (by rw[bq,cg hj];rfl);rw[hu]at A;cases A;cases(ru);obtain⟨⟨b',S,av,ap,E⟩,a4⟩:=w j i[j] k (cg hj) ah;cases av;obtain⟨ob,C,P⟩:=ap;have t:=bf C;exact⟨i[j],J,br t,br (RE t (RB m)),i[j],S,J,⟨ob,up _ _ C,P⟩,E⟩;refine⟨J,?_⟩;have Z:(Zr [] d).length<=TL:=by
  have M:=Yi d [];have L:d.length=i.length:=by have:=F.length;omega
  have e3:([]:O (aJ×V)).length=0:=rfl;omega
 refine⟨.ref s.heap.objs.size,_,I.laid (λb o e=>hK b o (br (bf e)) (br (RE (bf e) (RB m))) (up b o e)) (au _) (rc Z ?_ (F.merge .nil) hD),J,q _ (I.hok.fresh (au _))⟩;obtain⟨_,z,_⟩:=xE (P:=X.prog) (w:=X.w) (H:=H) s.heap I.big;exact z
end
end L2
namespace L2
open PySem PySem.Spec PyProof.Rows PySem.W
variable{a b:lv}{A:mf}{es:Array OO}{X:Cx}{D:wo}{e f:OP}{h:O7}{H:Hp}{pins:List (lv×Obj)}{kvs:List (aJ×V)}{cK:List OP}{ns:List Int}{cap:List Nat}{its:List Sr}{o:Obj}{apos cpos aE cM:Pos}{P prog:R0}{R:Sb->Sh->Prop}{s:Sh}{σ:St}{td te to tv tx:TE}{g:TG}{tb:TS}{y:V}{u v:Sr}{E Q:Sr->Sh->Prop}{w:SX}
noncomputable def eZ:Option Int->List Int->Option Int|b,[]=>b|none,k::r=>eZ (some k) r|some m,k::r=>eZ (some (if k<m then k else m)) r
noncomputable def uy:Option (Int×Tok)->Array Sr|none=>#[]|some (n,t)=>#[.int n t,.int n t]
theorem eV(A:mf)(s:Sh)(a:Int)(t:Tok)(c:Int)(u:Tok)(prog:R0)(w:SX)(E:I->Sh->Prop)(Q:I->Sh->Prop)(h:Q (.bool (decide (a<c))) s):TX (Tx prog w) A (richCompare .Lt (.int a t) (.int c u)) Q E s:=
 (R8 h)
section
theorem Hv{B t S:lv}{M:Sr}(hh:A.handled=none)(h1:t≠B)(G:S≠B)(h3:t≠S)(hv:Pr its ns):
  ∀ (m i:Nat) (s:Sh) (b:Option (Int×Tok)) (c:Nat),its.length-i=m->i<=its.length->s.heap.IsListIter B t i->s.heap.IsList t its.toArray->s.heap.get? S=some {cls:=.type "list",data:=.seq (uy b) c}->
    (∀h' tk v,(match eZ (b.map (·.1)) (ns.drop i)with|none=>v=M|some n=>∃u,v=.int n u)->(∀c o,c≠B->c≠S->s.heap.get? c=some o->h'.get? c=some o)->R (.ok (.ret v)) {s with heap:=h',toks:=tk})->
    Td (Tx P w) A (.builtin "min.loop" ⟨[.ref B,.none,.ref S],[("default",M)]⟩) R s:=by
 have hl:=hv.length;intro m;induction m with
 | zero=>
   intro i s b c hk hi r L E C;refine Te F.entry_min_loop ?_;rw[mu OW _];refine a9 (a9 (Uw E (aa (a9 (UZ (UL (hh) r L (nu (by simp;omega)) λh' eb=>?_))))));rw[List.drop_of_length_le (by omega)]at C;cases b with
   | none=>exact a9 (UQ (aa (C h' s.toks M J λc o y _ z=>eb c o y z)))
   | some q=>exact a9 (VH (eb S _ G E) J (a9 (Ut (aa (C _ s.toks (.int q.1 q.2) ⟨q.2,J⟩ λc o y H z=>by rw[Pf _ _ _ _ H];exact eb c o y z)))) cG)
 | succ m ih=>
   intro i s b c hk hi r L E C;have p:i<its.length:=by omega
   have hx:its.toArray[i]?=some its[i]:=by simp[p]
   obtain⟨a,d,W,Z⟩:=hv.at i (its[i]) (cg p);have ed:ns.drop i=a::ns.drop (i+1):=by obtain⟨h1,G⟩:=d7.mp Z;rw[PR h1,G]
   rw[ed]at C;refine Te F.entry_min_loop ?_;rw[mu OW _];refine a9 (a9 (Uw E (aa (a9 (UZ (UM r L hx λg D X=>?_))))));rw[W];have f:=X.extBut S _ G E;have U:∀(l:Sh)(N:Option (Int×Tok))(k:Nat),Pc S g l.heap->l={s with heap:=l.heap,toks:=l.toks}->l.heap.get? S=some {cls:=.type "list",data:=.seq (uy N) k}->eZ (N.map (·.1)) (ns.drop (i+1))=eZ (b.map (·.1)) (a::ns.drop (i+1))->Td (Tx P w) A (.builtin "min.loop" ⟨[.ref B,.none,.ref S],[("default",M)]⟩) R l:=λl N k Q es ah em=>by refine ih (i+1) l N k (by omega) p (D.extBut Q.extBut (ae G)) (L.extBut X.extBut h1 |>.extBut Q.extBut h3) ah λh' tk v hm k'=>?_;rw[es];exact C h' tk v (em▸hm) λc o y H z=>k' c o y H (Q.extBut c o H (X.extBut c o y z))
   have up:∀{xs:Array Sr}{c0:Nat}{g0:O7},g0.get? S=some {cls:=.type "list",data:=.seq xs c0}->∃k,(g0.update S (RN λ_=>#[Su a d,.int a d])).get? S=some {cls:=.type "list",data:=.seq (uy (some (a,d))) k}:=λh=>⟨_,get?_update_seq h _⟩
   cases b with
   | none=>show TX _ _ (updateSeq S _>>=λ_=>again _) _ _ _;obtain⟨k,x⟩:=up f;exact a9 (VH f J (aa ⟨TC OW _,U {s with heap:=_} (some (a,d)) k (Pe ..) J x J⟩))
   | some q=>refine a9 (aa (a9 (UZ (Uo (a9 (eV _ _ _ _ _ _ _ _ _ _ (a9 (Uo (UY (a9 (Ut (aa ?_))))))))))));by_cases j:a<q.1;rw[cf j];obtain⟨k,x⟩:=up f;exact a9 (VH f J (a9 (Ut (aa ⟨TC OW _,U {s with heap:=_} (some (a,d)) k (Pe ..) J x (by show _=eZ (some (if a<q.1 then a else q.1)) _;rw[kP j];rfl)⟩))) cG);rw[fb j];exact a9 (Ut (aa ⟨TC OW _,U {s with heap:=g} (some q) c (Pd ..) J f (by show _=eZ (some (if a<q.1 then a else q.1)) _;rw[kr j];rfl)⟩))
end
theorem kl:S3 "min"=some (.builtin "min"):=by decide+kernel
noncomputable def oI:Option Int->V|none=>.non|some i=>.int i
section
inductive jG(K:O4)(Q:VK)(vs:List V)(H1:Hp):Prop|mk:∀a ns,vs=[.ref a]->aK K H1 a (ns.map V.int)->Q (oI (eZ none ns)) H1->jG K Q vs H1
def Fx(K:O4)(ta:TA):TE:=λσ H Q=>ta σ H λvs H1=>jG K Q vs H1
theorem IS{kc}{Z U:Pos}{a:OP}{ta:TA}{p:Pos}(hg:Gl X "min")(hm:X.mg "min"=none)(hc:X.calm=true)(ha:PA X [a] ta)(hs:TQ [a] X.env=(false,Tj a X.env)::TQ [] X.env:=by rfl)(t:((backTo aE (TQ [a] X.env)).any (·.1))=false:=by rfl):PE X (.Call (.Name "min" p) [a] [⟨some "default",.Constant .none kc Z,U⟩] aE) (Fx X.K ta):=by
 intro d s B H Q I h;refine T1 (Zs I hg hm kl (W.callWith_of (P:=λ_=>True) (by rw[t];rfl) (λh _=>⟨.machine,.inr (.inl J),?_⟩) ?_));exact λA Q E s _ q=>(aa q)
 have C:backTo aE (TQ [a] X.env)=(false,Tj a X.env)::backTo aE (TQ [] X.env):=by rw[hs];rfl
 rw[C];refine evalArgs_kwB J ?_;rw[<-C];refine aH (ha aE d s B H _ I h) λus L ⟨vs,G,I1,R,S⟩=>?_;obtain⟨b,i,rfl,hq,q⟩:=S;refine kws_cons (aH (Qk d L B G (λv D=>v=.non/\D=G) I1 ⟨J,J⟩) λdv j ⟨x,D,z,P,e1,e2⟩=>kws_nil ⟨trivial,?_⟩);subst e1 e2;obtain rfl:dv=Sv:=P;obtain⟨u,rfl,M⟩:=Zg R;cases(M);obtain⟨r,N,l,hz⟩:=z.list hq;have k:b<j.heap.objs.size:=by obtain⟨_,e,_⟩:=l.isList;exact bf e
 have w:checkBuiltinCall "min" ⟨[.ref b],[("default",.none)]⟩=pure ():=by kernel_rfl
 refine Ub (Tf F.plain_min F.entry_min (UD w ?_));have y:Builtin.Builtins.bindParams "min" ["key","default"] 0 {kw:=[("default",.none)]}=pure [none,some Sv]:=by kernel_rfl
 refine a9 (UD y ?_);show TX _ _ (pyIter (.ref b)>>=_) _ _ j;refine a9 (UH l.isList (a9 (Uy (aa ⟨TC OW _,?_⟩) (c9 _))));have g:(j.heap.push {cls:=.type "list_iterator",data:=.fields #[.ref b,.int 0 0]}).objs.size=j.heap.objs.size+1:=op ..;refine Hv (z.ok.hd hc) (br k) (g▸fc (dz _)) (g▸br (RD k)) (M7 N) r.length 0 _ none 0 (by omega) (c9 _) ⟨_,be _ (cb _ J),J,J⟩ ((l.isList.push _).push _) (cb _ J) λh' tk v f m=>?_;have keep:∀c o,j.heap.get? c=some o->h'.get? c=some o:=λc o e=>by have:=bf e;exact m c o (br this) (g▸br (RD this)) (be _ (be _ e))
 have f:yf (oI (eZ none i)) v:=by rw[PV]at f;cases e:eZ none i with|none=>rw[show eZ (Option.map (·.1) (none:Option (Int×Tok))) i=eZ none i from rfl,e]at f;exact f|some n=>rw[show eZ (Option.map (·.1) (none:Option (Int×Tok))) i=eZ none i from rfl,e]at f;exact f
 exact⟨_,_,z.kept keep,f,q⟩
end
section
variable{K:Type}[DecidableEq K](knd:KeyKind prog w K)
abbrev cT(K:Type):=List K ⊕ K
noncomputable def X9:cT K->Bool|.inl _=>true|.inr _=>false
def dW(h:O7):cT K->Sr->Prop|.inl k,v=>∃a,v=.ref a/\IsTupleKey knd h k a|.inr k,v=>knd.is k v=true
noncomputable def Ww:cT K->Int|.inl k=>tupleKeyHash knd k|.inr k=>knd.hash k
noncomputable def wA:cT K->Nat|.inl k=>k.length+1|.inr _=>1
inductive bT(h:O7):List (cT K)->List Sr->Prop|nil:bT h [] []|cons {k:cT K} {v:Sr} {ks:List (cT K)} {vs:List Sr}:dW knd h k v->bT h ks vs->bT h (k::ks) (v::vs)
def Zo(h:O7)(ks:List (cT K))(a:lv):Prop:=∃o aD n,h.get? a=some o/\o.cls=.type "tuple"/\o.data=.seq aD n/\bT knd h ks aD.toList
def wF(ks:List (cT K)):Int:=reduceHash (wh (ks.map (Ww knd)))
def K6(ks:List (cT K)):Nat:=(ks.map wA).sum+1
variable{knd}
theorem dW.inj{h:O7}{x y:cT K}{v:Sr}(f:dW knd h x v)(c:dW knd h y v):x=y:=by
 cases x with
 | inl k=>
   obtain⟨a,rfl,i⟩:=f;cases y with
   | inl d=>obtain⟨b,e,g⟩:=c;cases e;rw[i.inj g]
   |inr d=>exact kS (knd.byValue _ _ c) (λz=>by cases z)
 | inr k=>
   cases y with
   | inl d=>obtain⟨b,rfl,g⟩:=c;exact kS (knd.byValue _ _ f) (λz=>by cases z)
   |inr d=>rw[knd.inj _ _ _ f c]
theorem dW.keeps{h h':O7}{k:cT K}{v:Sr}{d:lv}{o:Obj}{i j}(x:dW knd h k v)(c:h.get? d=some o)(f:o.data=.dict i j)(b:Pc d h h'):dW knd h' k v:=by cases k with| inl k=>obtain⟨a,e,g⟩:=x;exact⟨a,e,g.keeps c f b⟩|inr k=>exact x
theorem bT.inj{h:O7}{x y:List (cT K)}{vs:List Sr}(d:bT knd h x vs)(a:bT knd h y vs):x=y:=by induction d generalizing y with|nil=>cases a;rfl| cons g _ c=>cases a with|cons f b=>rw[g.inj f,c b]
theorem Zo.typeIs{ks:O (cT K)}(x:Zo knd s.heap ks a):s.TypeIs (.ref a) "tuple":=let⟨o,_,_,b,c,_⟩:=x;⟨o,b,c⟩
theorem Zo.inj{h:O7}{a:Y}{x y:O (cT K)}(j:Zo knd h x a)(i:Zo knd h y a):x=y:=by obtain⟨o,r,n,k,_,m,l⟩:=j;obtain⟨g,c,q,d,_,b,f⟩:=i;obtain rfl:o=g:=RV (k.symm.trans d);rw[m]at b;injection b with p _;subst p;exact l.inj f
theorem bT.keeps{h h':O7}{ks:List (cT K)}{vs:List Sr}{d:lv}{o:Obj}{i j}(x:bT knd h ks vs)(c:h.get? d=some o)(f:o.data=.dict i j)(b:Pc d h h'):bT knd h' ks vs:=by induction x with|nil=>exact .nil|cons g _ a=>exact .cons (g.keeps c f b) a
theorem Zo.keeps{h h':O7}{ks:O (cT K)}{a d:Y}{o:Obj}{p q}(x:Zo knd h ks a)(j:h.get? d=some o)(l:o.data=.dict p q)(g:Pc d h h'):Zo knd h' ks a:=by
 obtain⟨i,r,n,b,m,f,k⟩:=x;have c:a≠d:=by grind
 exact⟨i,r,n,(g.2 a c).trans b,m,f,k.keeps j l g⟩
theorem Me{k:cT K}{Q:Int->Sh->Prop}(b:A.units<cLine)(hk:dW knd s.heap k v)(h:Q (Ww knd k) {s with toks:=s.toks+wA k}):TX (Tx prog w) A (pyHash v) Q E s:=by cases k with| inl k=>obtain⟨a,rfl,c⟩:=hk;exact wpAny_pyHash_tuple b c h|inr k=>exact knd.pyHash hk h
theorem LZ{x y:cT K}{Q:Bool->Sh->Prop}(i:A.units<cLine)(g:X9 x=X9 y)(f:dW knd s.heap x u)(d:dW knd s.heap y v)(h:Q (decide (x=y)) s):TX (Tx prog w) A (eqBool u v) Q E s:=by
 cases x with
 | inl k=>
   cases y with
   | inl c=>
     obtain⟨a,rfl,l⟩:=f;obtain⟨b,rfl,j⟩:=d;refine wpAny_eqBool_tuple i l j ?_
     simp_all
   |inr c=>cases g
 | inr k=>
   cases y with
   |inl c=>cases g
   | inr c=>
     refine knd.eqBool f d ?_
     simp_all
theorem Nm{ks:O (cT K)}{Q:Int->Sh->Prop}(v:A.units+2<cLine)(hk:Zo knd s.heap ks a)(h:Q (wF knd ks) {s with toks:=s.toks+K6 ks}):TX (Tx prog w) A (pyHash (.ref a)) Q E s:=by
 have j:=hk.typeIs;obtain⟨o,y,n,q,_,t,r⟩:=hk;first|unfold pyHashByItsType|skip
 first|refine a9 (wpAny_cRoomFor_or (.inr (show A.units<cLine by omega)) ?_)|skip
 refine a9 (UV j F.slot_tuple_hash.lookup ?_);rw[kr (by simp)];refine a9 (UV j F.slot_tuple_hash.lookup (a9 (wpAny_callSpecialIfBoundUnlessNone?_slot j F.slot_tuple_hash (dk F.slot_tuple_hash j F.entry_tuple_hash ?_ (F.args_tuple_hash_1 _)))));show TX _ _ (zw (.ref a)>>=_) _ _ s;refine a9 (U0 q t (a9 ?_));rw[<-nh];refine Uk _
  (λZ1 b l=>∃d qR,ks=d++qR/\bT knd s.heap qR Z1/\b.toList=d.map (Ww knd)/\l={s with toks:=s.toks+(d.map wA).sum})
  _ ?_ ?_ _ _ ⟨[],ks,J,r,J,J⟩
 . rintro x Z1 b l ⟨d,qR,rfl,m,p,rfl⟩;cases m with| @cons k c f _ u g=>
     refine a9 (Me ?room u ?_)
     case room=>grind
     first|exact aa ⟨d++[k],f,by simp,g,by grind,by grind⟩|exact a9 (aa (aa ⟨d++[k],f,by simp,g,by simp[p],by simp[Nat.add_assoc]⟩))
 rintro b l ⟨d,qR,rfl,m,p,rfl⟩;cases m;rw[eh]at h;show TX _ _ (retInt (wh b.toList)) _ _ _;rw[p];refine wpAny_ret_mkInt ?_;show TX _ _ (if(decide (-(2)^63<=wh (d.map (Ww knd))) && decide (wh (d.map (Ww knd))<2^63))=true then _ else _) Q E _;unfold wF reduceHash K6 at h;by_cases i:(decide (-(2)^63<=wh (d.map (Ww knd))) && decide (wh (d.map (Ww knd))<2^63))=true;rw[kP i];rw[kP i]at h;exact aa (by omega);rw[kr i];rw[kr i]at h;exact a9 (UQ (aa (by omega)))
theorem Np{x y:List (cT K)}{P:Fin->Sh->Prop}(hu:A.units<cLine)(G:x.map X9=y.map X9)(hx:Zo knd s.heap x a)(X:Zo knd s.heap y b)(h:P (.done (.ret (.bool (decide (x=y))))) s):TX (Tx prog w) A (Builtin.«tuple.__eq__» ⟨[.ref a,.ref b],[]⟩) P E s:=by
 have W:=X.typeIs;obtain⟨oa,z,na,N,_,U,R⟩:=hx;obtain⟨ob,t,nb,M,_,S,Q⟩:=X;show TX _ _ (isInstance (.ref b) (.type "tuple")>>=_) _ _ s;refine a9 (fz W Tl (a9 (U0 N U (a9 (U0 M S (a9 ?_))))));refine Uk _
  (λZ1 r B=>r.1=none/\B=s/\∃o m d c,Z1=List.zip d c/\bT knd s.heap o d/\bT knd s.heap m c/\o.map X9=m.map X9/\decide (o=m)=decide (x=y)/\(d.length==c.length)=(z.size==t.size))
  _ ?_ ?_ _ _ ⟨J,J,x,y,z.toList,t.toList,J,R,Q,G,J,by simp⟩
 rintro⟨u,v⟩ Z1 r B ⟨Z,rfl,o,m,d,c,C,j,f,k,i,g⟩;cases j with
 |nil=>simp at C
 | @cons k1 u' F n h1 q=>
   cases f with
   |nil=>grind
   | @cons k2 v' D l h2 p=>
     obtain⟨⟨rfl,rfl⟩,rfl⟩:=C;rw[d8,d8]at k;injection k with L H;refine a9 (LZ hu L h1 h2 ?_);by_cases hk:k1=k2;subst hk;rw[cf J];refine aa ⟨J,J,F,D,n,l,J,q,p,H,?_,by simp_all⟩
     simp_all
     rw[fb hk];have hf:decide (x=y)=false:=by simp_all
     rw[hf]at h;exact a9 (aa (aa (aa h)))
 rintro⟨r1,r2⟩ B ⟨Z,rfl,o,m,d,c,C,j,f,k,i,g⟩;subst Z;refine aa ?_;have ah:(z.size==t.size)=decide (x=y):=by
  rw[<-i,<-g];cases j with
  | nil=>
    cases f with
    |nil=>simp
    |cons _ _=>simp
  | cons _ _=>
    cases f with
    |nil=>simp
    |cons _ _=>simp at C
 show P (.done (.ret (.bool (z.size==t.size)))) B
 simp_all
theorem M3{x y:O (cT K)}{Q:Bool->Sh->Prop}(i:A.units+2<cLine)(g:x.map X9=y.map X9)(d:Zo knd s.heap x a)(f:Zo knd s.heap y b)(h:Q (decide (x=y)) s):TX (Tx prog w) A (eqBool (.ref a) (.ref b)) Q E s:=by
 unfold eqBool
 try with_reducible refine Uo ?_
 by_cases c:(Sw a==Sw b)=true;rw[kP c];have e:a=b:=by simp_all
 subst e;obtain rfl:=d.inj f;exact a9 (UQ (aa (by simp_all)))
 . rw[kr c];refine a9 (wpAny_richCompare_same_room d.typeIs f.typeIs F.slot_tuple_eq (dk F.slot_tuple_eq d.typeIs F.entry_tuple_eq (Np ?room g d f ⟨_,J,(λe=>nomatch e),UY h⟩) (F.args_tuple_eq_2 _ _)) (by omega))
   grind
theorem KI{n:Nat}{k:cT K}{Q:Bool->Sh->Prop}(hk:dW knd s.heap k v)(h:Q true s):TX (Tx prog w) A (eqIsQuiet (n+1) v) Q E s:=by cases k with| inl k=>obtain⟨a,rfl,b⟩:=hk;exact Mg b h| inr k=>rw[eqIsQuiet_byValue _ (knd.byValue _ _ hk)];exact aa h
theorem Mf{ks:List (cT K)}{Q:Bool->Sh->Prop}(hk:Zo knd s.heap ks a)(h:Q true s):TX (Tx prog w) A (eqIsQuiet 8 (.ref a)) Q E s:=by
 have f:=hk.typeIs;obtain⟨o,q,m,i,_,k,j⟩:=hk;unfold eqIsQuiet;refine a9 (UV f F.slot_tuple_eq.lookup (a9 (fz f Tl (a9 (UR i k (a9 ?_))))));rw[<-nh];refine Uk _ (λZ1 r c=>r.1=none/\c=s/\∃ks,bT knd s.heap ks Z1) _ ?_ ?_ _ _ ⟨J,J,_,j⟩;rintro v Z1 r c ⟨d,rfl,g,b⟩;cases b with| cons l t=>exact a9 (KI l (aa ⟨J,J,_,t⟩))
 rintro⟨p,n⟩ c ⟨d,rfl,_⟩;subst d;exact aa h
end
structure Shape(K κ:Type) where
 f:κ->List (cT K)
 inj:∀a b,f a=f b->a=b
 one:∀a b,(f a).map X9=(f b).map X9
def jc{prog:R0}{w:SX}{K B:Type}[DecidableEq K][DecidableEq B](knd:KeyKind prog w K)(S:Shape K B):HeapKind prog w B where
 is:=λh k a=>Zo knd h (S.f k) a
 hash:=λk=>wF knd (S.f k)
 draws:=λk=>K6 (S.f k)
 room:=λA=>A.units+2<cLine
 inj:=λU F=>S.inj _ _ (U.inj F)
 keeps:=λx ho hd hs=>x.keeps ho hd hs
 pyHash:=λZ hk h=>Nm Z hk h
 eqBool:=λ{_ _ _ x y _ _ _} Z U F h=>M3 Z (S.one x y) U F (by
  have e:decide (S.f x=S.f y)=decide (x=y):=by by_cases c:x=y;rw[c];simp;rw[fb c,fb λz=>c (S.inj _ _ z)]
  rw[e];exact h)
 quiet:=λhk h=>Mf hk h
structure aN(κ:Type)[DecidableEq κ] where
 S:Shape aJ κ
 tr:κ->T
 fro:∀k,bS (tr k)
 of:∀{P:R0}{w:SX}{H:Hp}{h:O7},bR P w H h->∀{k:κ}{a:lv},Is H (tr k) (.ref a)->(jc (zt P w) S).is h k a
abbrev Yb(B:Type):=B×lv×Sr
section
variable{κ:Type}[DecidableEq κ]{τ:aN κ}
def Qj(τ:aN κ)(P:R0)(w:SX)(d:lv)(xs:List (Yb κ)):O7->Prop:=λh=>∃o es ep,h.get? d=some o/\o.ExactDict/\o.data=.dict es ep/\es.toList=xs.map (entryOfKey (jc (zt P w) τ.S))
theorem Qj.ok{d:Y}{xs:O (Yb κ)}(x:Qj τ P w d xs h):qv P w H h d (.ext (Qj τ P w d xs)):=by refine⟨x,?_,λg f y k=>?_⟩;obtain⟨o,_,_,a,_⟩:=x;exact⟨o,a⟩;obtain⟨o,b,c,a,r⟩:=y;exact⟨o,b,c,k o a,r⟩
abbrev KG(τ:aN κ)(H:Hp):List (κ×V)->List (Yb κ)->Prop:=Paired λp q=>p.1=q.1/\Is H (τ.tr p.1) (.ref q.2.1)/\yf p.2 q.2.2
theorem KG.val{kvs:List (κ×V)}{xs:List (Yb κ)}(r:KG τ H kvs xs)(k:κ):Yl (yv kvs k) ((atKey xs k).map (·.2)):=by
 induction r with|nil=>exact Sq| @cons p q i a h t f=>
   obtain⟨d,_,g⟩:=h;by_cases e:p.1=k;have c:q.1=k:=by rw[<-d,e]
   have b:atKey (q::a) k=some q.2:=by simp[atKey,P6,c]
   rw[wd e,b];exact g;have c:¬q.1=k:=λz=>e (d.trans z);have b:atKey (q::a) k=atKey a k:=by simp[atKey,P6,c]
   rw[wf e,b];exact f
theorem KG.repl{kvs:List (κ×V)}{xs:List (Yb κ)}(r:KG τ H kvs xs)(k:κ)(d:yf y u):KG τ H (kvs.map λb=>if b.1=k then(b.1,y)else b) (xs.map (putAt k u)):=by induction r with|nil=>exact .nil| @cons p q j i h t f=>rw[d8,d8];refine .cons ?_ f;obtain⟨a,c,g⟩:=h;unfold putAt;by_cases e:p.1=k;rw[kP e,kP (by rw[<-a,e])];exact⟨a,c,d⟩;rw[kr e,kr (λz=>e (a.trans z))];exact⟨a,c,g⟩
theorem KG.put{kvs:O (κ×V)}{xs:O (Yb κ)}(r:KG τ H kvs xs)(k:κ)(d:Is H (τ.tr k) (.ref b))(a:yf y u):KG τ H (vw kvs k y) (storedH xs k b u):=by
 have e:(kvs.any λc=>decide (c.1=k))=(atKey xs k).isSome:=by rw[Z4,(r.val k).isSome_eq,RQ]
 unfold vw storedH;rw[e];by_cases q:(atKey xs k).isSome=true;rw[kP q,kP q];exact r.repl k a;rw[kr q,kr q];exact Paired.snoc r ⟨J,d,a⟩
theorem KG.tups{H a:Hp}{kvs:O (κ×V)}{xs:O (Yb κ)}(r:KG τ H kvs xs)(t:zy H a):KG τ a kvs xs:=fu r λ_ _ z=>⟨z.1,z.2.1.tups t (τ.fro _),z.2.2⟩
inductive aM(τ:aN κ)(P:R0)(w:SX)(H:Hp)(d:lv)(kvs:List (κ×V)):Prop|mk:∀xs:List (Yb κ),H d=some (.ext (Qj τ P w d xs))->(d==TV)=false->kvs.length<=TL->(xs.map (·.1)).Nodup->KG τ H kvs xs->aM τ P w H d kvs
section
variable{H':Hp}{d:lv}{kvs:List (κ×V)}
theorem aM.same(n:aM τ P w H d kvs)(s:zh H H'):aM τ P w H' d kvs:=by obtain⟨f,e,a,b,c,r⟩:=n;exact⟨f,s _ _ e,a,b,c,fu r λ_ _ z=>⟨z.1,z.2.1.mono s,z.2.2⟩⟩
theorem aM.by(n:aM τ P w H d kvs)(t:zy H H')(e:H' d=H d):aM τ P w H' d kvs:=by obtain⟨f,g,a,b,c,r⟩:=n;exact⟨f,e.trans g,a,b,c,r.tups t⟩
theorem aM.tups{o:HO}(n:aM τ P w H d kvs):zy H (ji H d o):=by obtain⟨b,e,_⟩:=n;exact zy.upd e (λa z=>by cases z)
theorem aM.ne{a:O V}(n:aM τ P w H d kvs)(h:H b=some (.lst a)):b≠d:=λz=>by obtain⟨c,e,_⟩:=n;rw[z,e]at h;cases h
theorem aM.dict(i:bR P w H h)(n:aM τ P w H d kvs):(d==TV)=false/\∃xs,KG τ H kvs xs/\xs.length<=TL/\h.DictOfH (jc (zt P w) τ.S) d xs:=by
 obtain⟨xs,e,a,b,c,r⟩:=n;obtain⟨⟨o,z,A,y,v,u,s⟩,_⟩:=(i d _ e)
 have D:=Paired.length r;refine⟨a,xs,r,by omega,o,z,A,y,v,u,s,?_,c⟩;have g:∀{l:O (κ×V)}{m:O (Yb κ)},KG τ H l m->∀x∈m,(jc (zt P w) τ.S).is h x.1 x.2.1:=by intro l m q;induction q with|nil=>intro x f;exact nomatch f| @cons p q C B j t k=>intro x f;rcases bc.mp f with e|f;subst e;rw[<-j.1];exact τ.of i j.2.1;exact k x f
 exact g r
end
inductive mJ(τ:aN κ)(P:R0)(w:SX)(f:Bool->Bool)(Q:VK)(y x:V)(H2:Hp):Prop|mk:∀d b kvs k,x=.ref d->y=.ref b->aM τ P w H2 d kvs->Is H2 (τ.tr k) (.ref b)->Q (.bl (f (yv kvs k).isSome)) H2->mJ τ P w f Q y x H2
def El(τ:aN κ)(P:R0)(w:SX)(f:Bool->Bool)(B td:TE):TE:=λσ H Q=>B σ H λy H1=>td σ H1 λx H2=>mJ τ P w f Q y x H2
inductive jI(τ:aN κ)(P:R0)(w:SX)(Q:VK)(x y:V)(H2:Hp):Prop|mk:∀d b kvs k v,x=.ref d->y=.ref b->aM τ P w H2 d kvs->Is H2 (τ.tr k) (.ref b)->yv kvs k=some v->Q v H2->jI τ P w Q x y H2
def Fw(τ:aN κ)(P:R0)(w:SX)(td B:TE):TE:=λσ H Q=>td σ H λx H1=>B σ H1 λy H2=>jI τ P w Q x y H2
inductive jR(τ:aN κ)(P:R0)(w:SX)(D:wo)(σ:St)(v x y:V)(H3:Hp):Prop|mk:∀d b kvs k,x=.ref d->y=.ref b->aM τ P w H3 d kvs->Is H3 (τ.tr k) (.ref b)->kvs.length<TL->(∀o,aM τ P w (ji H3 d o) d (vw kvs k v)->D.nx σ (ji H3 d o))->jR τ P w D σ v x y H3
def EV(τ:aN κ)(P:R0)(w:SX)(td B F:TE):TS:=λD σ H=>F σ H λv H1=>td σ H1 λx H2=>B σ H2 λy U=>jR τ P w D σ v x y U
def zJ(τ:aN κ)(P:R0)(w:SX):TE:=λ_ H Q=>∀p o,H p=none->aM τ P w (ji H p o) p []->Q (.ref p) (ji H p o)
def IG(τ:aN κ)(P:R0)(w:SX)(te B:TE):TE:=λσ H Q=>∀p o,H p=none->aM τ P w (ji H p o) p []->te σ (ji H p o) λx H1=>B σ H1 λy H2=>∃b k,x=.ref b/\Is H2 (τ.tr k) (.ref b)/\aM τ P w H2 p []/\∀o',aM τ P w (ji H2 p o') p [(k,y)]->Q (.ref p) (ji H2 p o')
section
variable{o i aU:OP}{cF:Pos}{ty:TE}
theorem Y3(a:A.units+3<cLine):(jc (zt P w) τ.S).room A.in1:=by show A.in1.units+2<cLine;omega
theorem GG(z:X.A.units+3<cLine)(B:PE X i ty)(A:PE X o td):PC X .In i o (El τ X.prog X.w id ty td):=by intro a s j H Q I h;refine aH (B a s j H _ I h) λv l ⟨y,M,G,m,t⟩=>aH (A a l j M _ G t) λu P ⟨x,L,g,p,d,b,f,k,E,D,n,w,r⟩=>?_;subst E D;obtain rfl:u=Sw d:=p;obtain rfl:v=Sw b:=m;obtain⟨C,N,c,_,F⟩:=n.dict g.hok;refine wpAny_in_heap (Y3 z) (τ.of g.hok w) C F ?_;have q:=(c.val k).isSome_eq;rw[RQ]at q;rw[<-q];exact⟨.bl (yv f k).isSome,L,g.tok _,J,r⟩
theorem Bw(F:X.A.units+3<cLine)(M:PE X o td)(N:PE X i ty)(G:uq i):PE X (.Subscript o i aE) (Fw τ X.prog X.w td ty):=by intro a s m H Q I h;refine BR PySem.F.slot_dict_getitem.lookup G (aH (M a s m H _ I h) λu r ⟨x,W,S,w,A⟩=>aH (N a r m W _ S A) λC s2 ⟨y,U,j,t,d,b,B,k,v,R,P,n,D,l,z⟩=>?_);subst R P;obtain rfl:u=Sw d:=w;obtain rfl:C=Sw b:=t;obtain⟨hd,Z,f,_,q⟩:=n.dict j.hok;obtain⟨w',E,c⟩:=fy (l▸f.val k);obtain⟨p,L,g⟩:=df.mp E;refine⟨q.typeIs,Ul (Y3 F) (τ.of j.hok D) q L ?_⟩;rw[g];exact⟨v,U,j.tok _,c,z⟩
theorem xA(P:X.A.units+3<cLine)(R:PE X o td)(U:PE X i ty)(N:PE X aU tv)(Q:swapsWith aU (some (.Subscript o i cF)) aE.line X.env=pure false):PS X (.Assign [.Subscript o i cF] aU aE) (EV τ X.prog X.w td ty tv):=by intro a s c H D I h;refine TY (aH (N a s c H _ I h) λr A ⟨v,H1,I1,E,L⟩=>aH (R a A c H1 _ I1 L) λu z ⟨x,H2,I2,C,G⟩=>aH (U a z c H2 _ I2 G) λM s3 ⟨y,H3,m,B,d,b,g,k,ex,ey,n,p,hl,F⟩=>?_) Q;subst ex ey;obtain rfl:u=Sw d:=C;obtain rfl:M=Sw b:=B;obtain⟨W,xs,f,hz,dd⟩:=n.dict m.hok;refine UU (Y3 P) (τ.of m.hok p) dd λh' l j=>?_;obtain⟨q,es,ep,t,h2,h3,h4,_,Z⟩:=l;obtain⟨w,e0,_⟩:=id n;have S:=xa g k v;refine⟨c,_,Ze m (e0▸Sq) j ⟨q,t⟩ (Qj.ok ⟨q,es,ep,t,h2,h3,h4⟩),F _ ⟨_,zd,W,by omega,Z,(f.put k p E).tups n.tups⟩⟩
theorem BK(h:O7):Qj τ P w h.objs.size [] (h.push {cls:=.type "dict",data:=.dict #[]}):=⟨_,#[],0,cb _ J,⟨J,J,J⟩,J,J⟩
theorem Vn:PE X (.Dict [] [] aE) (zJ τ X.prog X.w):=λa s b H Q I h=>T8 ⟨.ref s.heap.objs.size,_,I.laid (λ_ _ q=>be _ q) (au _) (BK s.heap).ok,J,h _ _ (I.hok.fresh (au _)) ⟨[],zd,beq_eq_false_iff_ne.mpr (ae (br I.big)),c9 _,Rc,.nil⟩⟩
theorem LP{v:OP}(hu:X.A.units+3<cLine)(he:PE X e te)(E:PE X v tv):PE X (.Dict [some e] [v] aE) (IG τ X.prog X.w te tv):=by
 intro a s i H Q I q;rw[arm_eval_Dict];refine a9 (UW ?_);let t:Sem Sr:=do let x<-Tj v X.env;standAt aE;pure x
 show TX _ _ (dictDisplay ([(Tj e X.env,t)].map λp=>(some p.1,p.2))) _ _ _;rw[dictDisplay_pairs _ (by simp) (by simp)];refine a9 ?_;refine a9 (wpAny_alloc (a9 (Uo ?_)));rw[kP (by simp)];refine a9 (evalPairs_cons ?_);refine aH (he a _ i _ _ (I.laid (o:=.ext (Qj τ X.prog X.w s.heap.objs.size [])) (t':=s.toks) (λ_ _ q=>be _ q) (au _) (BK s.heap).ok) (q _ _ (I.hok.fresh (au s.heap.objs.size)) ⟨[],zd,(beq_eq_false_iff_ne.mpr (ae (br I.big))),c9 _,Rc,.nil⟩)) λu w ⟨x,Z,W,A,D⟩=>?_;refine a9 (aH (E a w i Z _ W D) λu2 s2 ⟨y,H2,g,z,b,k,R,l,n,C⟩=>?_);subst R;obtain rfl:u=Sw b:=A;refine a9 (UW (aa (evalPairs_nil ?_)));refine Uo ?_;rw[QB];obtain⟨G,r,B,_,d⟩:=n.dict g.hok;cases B;obtain⟨o,U,_⟩:=id n;refine a9 (a9 (a9 (Ug (k:=k) (show X.A.units+2<cLine by omega) (τ.of g.hok l) d (λh' f F=>aa ?_) (by rw[QO];exact c9 _))));dsimp only;rw[QC];refine aa (aa (aa (aa ?_)));obtain⟨j,S,c,m,P,N,M,_,L⟩:=f;refine⟨.ref s.heap.objs.size,_,Ze g (by rw[U];exact Sq) F ⟨j,m⟩ (Qj.ok ⟨j,S,c,m,P,N,M⟩),J,C _ ⟨_,zd,G,by show 1<=TL;decide,L,?_⟩⟩;exact(KG.put (kvs:=[]) (xs:=[]) .nil k l z).tups n.tups
end
end
theorem Qm{α b:Type}(f:α->b):∀(l:List α)(j:Nat),(l.eraseIdx j).map f=(l.map f).eraseIdx j|[],_=>rfl|_::_,0=>rfl| a::l,j+1=>by show f a::(l.eraseIdx j).map f=f a::(l.map f).eraseIdx j;rw[Qm f l j]
section
variable{K:Type}[DecidableEq K]{knd:HeapKind prog w K}
theorem Jb{d:Y}{xs:O (K×Y×I)}{k:K}{dflt:I}(u:knd.room A)(b:knd.is s.heap k a)(C:s.heap.DictOfH knd d xs)(c:∀p,atKey xs k=some p->Q p.2 {s with toks:=s.toks+knd.draws k})
  (m:atKey xs k=none->∀h',h'.DictOfH knd d (storedH xs k a dflt)->Pc d s.heap h'->Q dflt {s with heap:=h',toks:=s.toks+knd.draws k}) (hsz:xs.length<=TL):
  TX (Tx prog w) A (dictSetDefault d (.ref a) dflt) Q E s:=by
 obtain⟨o,G,F,i,D,g,q,n,t⟩:=C;unfold dictSetDefault
 try with_reducible refine Uo ?_
 refine a9 (knd.pyHash u b (a9 (wpAny_dictFind_heap u b i g q n t ?_ ?_)));intro l;have r:=atKey_none_of_get l;refine a9 (UQ (a9 (wpAny_updateDictKeys (hz:=by have e:=TN q;omega) i g (aa (m r _ ⟨_,_,F+1,Ph _ i (RK (RI g _)),D.mapDictKeys _,RI g _,?_,?_,?_⟩ (Pe ..))))))
 rw[storedH_new r];simp[q,entryOfKey];rw[storedH_new r];intro x f;rcases cp.mp f with f|f;exact knd.keeps (n x f) i g (Pe ..);rw[ai.mp f];exact knd.keeps b i g (Pe ..);rw[storedH_new r,bo,Rb];exact⟨t,by simp,λx f y B z=>(not_mem_keys_of_get l ((by simpa using B)▸z▸f))⟩;intro j p v;refine a9 (Ue i g ?_);rw[Ti q j,v];exact a9 (UQ (aa (c p (atKey_of_get t v))))
theorem NX{d:Y}{xs:O (K×Y×I)}{k:K}{Q:Option OO->Sh->Prop}(u:knd.room A)(b:knd.is s.heap k a)(B:s.heap.DictOfH knd d xs)(f:atKey xs k=none->Q none {s with toks:=s.toks+knd.draws k})
  (c:∀j p,xs[j]?=some (k,p)->∀h',h'.DictOfH knd d (xs.eraseIdx j)->Pc d s.heap h'->Q (some (entryOfKey knd (k,p))) {s with heap:=h',toks:=s.toks+knd.draws k}) (hsz:xs.length<=TL):
  TX (Tx prog w) A (qq d (.ref a)) Q E s:=by
 obtain⟨o,D,F,i,C,g,n,m,v⟩:=B;unfold qq
 try with_reducible refine Uo ?_
 refine a9 (knd.pyHash u b (a9 (wpAny_dictFind_heap u b i g n m v ?_ ?_)));intro q;exact aa (f (atKey_none_of_get q));intro j p t;refine a9 (Ue i g ?_);rw[Ti n j,t];refine a9 (wpAny_updateDictKeys (hz:=by have e:=TN n;omega) i g (aa (c j p t _ ⟨_,_,F+1,Ph _ i (RK (RI g _)),C.mapDictKeys _,RI g _,?_,?_,?_⟩ (Pe ..))))
 rw[Qm,<-n];obtain⟨l⟩:=D;have r:j<l.length:=by have H:=(d7.mp t).1;have y:=kW QM n;rw[ag]at y;have G:l.length=xs.length:=y;omega
 simp[Array.eraseIdxIfInBounds_eq,r];intro x z;exact knd.keeps (m x (List.mem_of_mem_eraseIdx z)) i g (Pe ..);rw[Qm];exact v.sublist (List.eraseIdx_sublist ..)
end
section
variable{κ:Type}[DecidableEq κ]{τ:aN κ}
theorem KG.erase {kvs:List (κ×V)} {xs:List (Yb κ)} (r:KG τ H kvs xs) (s:(xs.map (·.1)).Nodup) {j:Nat} {k:κ} {p:lv×Sr} (f:xs[j]?=some (k,p)):KG τ H (kj kvs k) (xs.eraseIdx j):=by
 induction r generalizing j with
 |nil=>rw[List.getElem?_nil]at f;cases f
 | @cons a q x w h t o=>
   have d:=d6.mp s;unfold kj;rw[P1];cases j with
   | zero=>
     rw [List.getElem?_cons_zero]at f;cases f;rw[kr (by simp[(h.1)])];have keep:∀{l:List (κ×V)} {m:List (Yb κ)},KG τ H l m->k ∉ m.map (·.1)->(l.filter λn=>decide (n.1≠k))=l:=by
      intro l m q;induction q with
      |nil=>exact λ_=>rfl
      | @cons b c A y u v g=>intro hk;have i:b.1≠k:=λz=>hk (bc.mpr (.inl (z.symm.trans u.1)));rw[P1,kP (by simp[i]),g λz=>hk (bp _ z)]
     rw[keep t d.1];exact t
   | succ j=>
     rw[List.getElem?_cons_succ]at f;have i:a.1≠k:=λz=>(d.1 (by show q.1∈_;rw[<-h.1,z];exact(QX (dj f))))
     rw[kP (by simp[i])];exact .cons h (o d.2 f)
theorem aM.typ{d:Y}{kvs:O (κ×V)}(b:bR P w H h)(n:aM τ P w H d kvs):∃o,h.get? d=some o/\o.cls=.type "dict"/\o.dict=none:=by obtain⟨_,f,_,_,o,g,i,c,a,_⟩:=n.dict b;exact⟨o,c,a.1,a.2.1⟩
inductive dY(τ:aN κ)(P:R0)(w:SX)(Q:VK)(d:lv)(y z:V)(H3:Hp):Prop|mk:∀b kvs k,y=.ref b->aM τ P w H3 d kvs->Is H3 (τ.tr k) (.ref b)->(∀v,yv kvs k=some v->∀o,aM τ P w (ji H3 d o) d (kj kvs k)->Q v (ji H3 d o))->(yv kvs k=none->Q z H3)->dY τ P w Q d y z H3
inductive eN(τ:aN κ)(P:R0)(w:SX)(ty tx:TE)(σ:St)(Q:VK)(x:V)(H1:Hp):Prop|mk:∀d kvs0,x=.ref d->aM τ P w H1 d kvs0->(ty σ H1 λy H2=>tx σ H2 λz H3=>dY τ P w Q d y z H3)->eN τ P w ty tx σ Q x H1
def Gv(τ:aN κ)(P:R0)(w:SX)(td B F:TE):TE:=λσ H Q=>td σ H λx H1=>eN τ P w B F σ Q x H1
variable{o:OP}{ty:TE}
theorem Ks(hu:X.A.units+4<cLine)(ho:PE X o td)(he:PE X e ty)(hf:PE X f tx)(m:M2 X o "pop" apos e f cpos):PE X (.Call (.Attribute o "pop" apos) [e,f] [] cpos) (Gv τ X.prog X.w td ty tx):=by
 intro g s B H Q I h;refine T2 m.base m.few m.line PySem.F.plainAttrs_dict PySem.F.slot_dict_pop PySem.F.type_dict_pop (aH (ho g s B H _ I h) λu s1 ⟨x,H1,I1,rx,d,Z,ex,n0,q1⟩=>?_);subst ex;obtain rfl:u=Sw d:=rx;obtain⟨W,P,t1,t2⟩:=n0.typ I1.hok;refine⟨⟨W,P,t1⟩,λb q=>by cases q;exact⟨W,P,t2⟩,?_⟩;rw[m.trees];refine I8 J (J3 (J4 (aH (he g s1 B H1 _ I1 q1) λiv s2 ⟨y,H2,I2,ry,q2⟩=>J4 (aH (hf g s2 B H2 _ I2 q2) λfv s3 ⟨z,H3,w,R,b,i,k,ey,n,ik,q3,S⟩=>J5 ?_))))
 subst ey;obtain rfl:iv=Sw b:=ry;obtain⟨F,N,r,hz,A⟩:=n.dict w.hok;refine dk PySem.F.slot_dict_pop A.typeIs PySem.F.entry_dict_pop (a9 (a9 (UC A.typeIs (aa ?_)))) (PySem.F.args_dict_pop_3 _ _ _);obtain⟨o1,es,ep,C,ap,E,D,ak,hn⟩:=id A;have a:atKey N k=none->yv i k=none:=λl=>by have q:=(r.val k).isSome_eq;rw[l]at q;cases c:yv i k with|none=>rfl|some p=>rw[c]at q;cases q
 dsimp only;rw[kr (by exact cy)];refine a9 (Ue C E (a9 (aa ?_)));by_cases em:es.isEmpty=true;rw[kP em];refine a9 (UQ (a9 (aa ?_)));have x0:N=[]:=by
  have h1:=TN D;have h2:es.size=0:=by simpa using em
  exact io.mp (by omega)
 rw[kP (show none.isNone=true from rfl)];exact a9 (Ux F (a9 (UQ (aa ⟨fv,J,z,H3,w,R,S (a (by rw[x0];rfl))⟩))));rw[kr em];refine a9 (NX (Y3 (by omega)) (τ.of w.hok ik) A (λl=>?_) (λj p hj h' M hs=>?_) hz);rw[kP (show none.isNone=true from rfl)];exact a9 (Ux F (a9 (UQ (aa ⟨fv,J,z,H3,w.tok _,R,S (a l)⟩))));rw[kr (show¬(some (entryOfKey _ (k,p))).isNone=true from cy)];have t:=r.val k;rw[(atKey_of_get hn hj)]at t;obtain⟨U,G,L,hq,h2,h3,h4,_,h5⟩:=M;obtain⟨ah,e0,_⟩:=id n;cases c:yv i k with|none=>rw[c]at t;exact t.elim| some v=>rw[c]at t;have aj:=Co i k;refine a9 (Ut (aa ⟨p.2,J,v,_,Ze w (e0▸Sq) hs ⟨U,hq⟩ (Qj.ok ⟨U,G,L,hq,h2,h3,h4⟩),t,q3 v c _ ⟨_,zd,F,by omega,h5,(r.erase hn hj).tups n.tups⟩⟩))
end
section
variable{κ:Type}[DecidableEq κ]{τ:aN κ}
inductive fX(τ:aN κ)(P:R0)(w:SX)(Q:VK)(d:lv)(y z:V)(H3:Hp):Prop|mk:∀b kvs k,y=.ref b->aM τ P w H3 d kvs->Is H3 (τ.tr k) (.ref b)->Q ((yv kvs k).getD z) H3->fX τ P w Q d y z H3
inductive eO(τ:aN κ)(P:R0)(w:SX)(ty tx:TE)(σ:St)(Q:VK)(x:V)(H1:Hp):Prop|mk:∀d kvs0,x=.ref d->aM τ P w H1 d kvs0->(ty σ H1 λy H2=>tx σ H2 λz H3=>fX τ P w Q d y z H3)->eO τ P w ty tx σ Q x H1
def Gs(τ:aN κ)(P:R0)(w:SX)(td B F:TE):TE:=λσ H Q=>td σ H λx H1=>eO τ P w B F σ Q x H1
inductive jS(τ:aN κ)(P:R0)(w:SX)(D:wo)(σ:St)(b d:lv)(k:κ)(z:V)(H4:Hp):Prop|mk:∀kvs,aM τ P w H4 d kvs->Is H4 (τ.tr k) (.ref b)->kvs.length<TL->(∀o,aM τ P w (ji H4 d o) d (vw kvs k z)->D.nx σ (ji H4 d o))->jS τ P w D σ b d k z H4
inductive gF(τ:aN κ)(P:R0)(w:SX)(tv:TE)(rd:V->V->Hp->VK->Prop)(D:wo)(σ:St)(x y:V)(H2:Hp):Prop|mk:∀d b kvs k v,x=.ref d->y=.ref b->aM τ P w H2 d kvs->Is H2 (τ.tr k) (.ref b)->yv kvs k=some v->(tv σ H2 λy2 H3=>rd v y2 H3 λz H4=>jS τ P w D σ b d k z H4)->gF τ P w tv rd D σ x y H2
def EU(τ:aN κ)(P:R0)(w:SX)(td B F:TE)(U:V->V->Hp->VK->Prop):TS:=λD σ H=>td σ H λx H1=>B σ H1 λy H2=>gF τ P w F U D σ x y H2
variable{o i aU:OP}{ty:TE}
theorem Kt(hu:X.A.units+4<cLine)(U:PE X o td)(he:PE X e ty)(W:PE X f tx)(m:M2 X o "get" apos e f cpos):PE X (.Call (.Attribute o "get" apos) [e,f] [] cpos) (Gs τ X.prog X.w td ty tx):=by
 intro a s c H Q I h;refine T2 m.base m.few m.line PySem.F.plainAttrs_dict PySem.F.slot_dict_get PySem.F.type_dict_get (aH (U a s c H _ I h) λu C ⟨x,H1,t,F,d,p,ex,N,M⟩=>?_);subst ex;obtain rfl:u=Sw d:=F;obtain⟨l,j,A,w⟩:=N.typ t.hok;refine⟨⟨l,j,A⟩,λb q=>by cases q;exact⟨l,j,w⟩,?_⟩;rw[m.trees];refine I8 J (J3 (J4 (aH (he a C c H1 _ t M) λR B ⟨y,H2,I2,E,L⟩=>J4 (aH (W a B c H2 _ I2 L) λfv s3 ⟨z,H3,i,D,b,P,k,ey,n,S,G⟩=>J5 ?_))))
 subst ey;obtain rfl:R=Sw b:=E;obtain⟨Z,v,g,hz,r⟩:=n.dict i.hok;exact Tc PySem.F.slot_dict_get r.typeIs PySem.F.entry_dict_get (PySem.F.args_dict_get_3 _ _ _) (Tw (jc (zt X.prog X.w) τ.S) d b Z fv) ⟨Y3 (by omega),k,v,τ.of i.hok S,r,⟨_,H3,i.tok _,(g.val k).getD D,G⟩⟩
theorem Ip{N:RP}{M:V->V->Hp->VK->Prop}(P:X.A.units+3<cLine)(ho:PE X o td)(hi:PE X i ty)(hv:PE X aU tv)(C:yK X N M)(ha:∀ov g c,augStore i ov g c=(do holding [c,ov,g] (setItem ov g c);release [c,ov,g] [];pure .next):=by intros;rfl):PS X (.AugAssign (.Subscript o i cM) N aU aE) (EU τ X.prog X.w td ty tv M):=by intro a s j H D I h;refine TZ (aH (ho a s j H _ I h) λu s1 ⟨x,H1,I1,rx,q1⟩=>aH (hi a s1 j H1 _ I1 q1) λg s2 ⟨y,H2,L,ry,d,b,m,k,v,ex,ey,n,r,l,q2⟩=>?_) ha;subst ex ey;obtain rfl:u=Sw d:=rx;obtain rfl:g=Sw b:=ry;obtain⟨R,W,f,_,F⟩:=n.dict L.hok;obtain⟨w',hw,w⟩:=fy (l▸f.val k);obtain⟨p,hp,B⟩:=df.mp hw;refine Ul (Y3 P) (τ.of L.hok r) F hp ?_;rw[B];refine aH (hv a _ j H2 _ (L.tok _) q2) λZ s4 ⟨S,H3,I4,t,q3⟩=>aH (C a s4 j H3 v S w' Z _ I4 w t q3) λw3 s5 ⟨z,H4,G,rz,m,n,r,hl,q4⟩=>?_;obtain⟨R,W,f,hz,F⟩:=n.dict G.hok;refine UU (Y3 P) (τ.of G.hok r) F λh' E A=>?_;obtain⟨q,es,ep,Q,h2,h3,h4,_,h5⟩:=E;obtain⟨U,e0,_⟩:=id n;have ah:=xa m k z;refine⟨j,_,Ze G (e0▸Sq) A ⟨q,Q⟩ (Qj.ok ⟨q,es,ep,Q,h2,h3,h4⟩),q4 _ ⟨_,zd,R,by omega,h5,(f.put k r rz).tups n.tups⟩⟩
end
section
variable{d it v:lv}{ep i:Nat}{ok ov:Sr}
theorem BI(c:(d==TV)=false)(x:qj s.heap d es ep)(b:Q (.ref s.heap.objs.size) {s with heap:=s.heap.push {cls:=.type "dict_items",data:=.fields #[.ref d]}}):TX (Tx prog w) A (call (.builtin "dict.items") [.ref d]) Q E s:=by have a:=x.ty;refine dk F.slot_dict_items a F.entry_dict_items (a9 (a9 (UC a (aa ?_)))) (F.args_dict_items_1 _);unfold qm;rw[kr (by simp_all)];exact a9 (aa (a9 (fe (aa ⟨_,J,b⟩))))
theorem BG(b:s.heap.IsItemsView v d)(x:qj s.heap d es ep)(j:Q (.ref s.heap.objs.size) {s with heap:=s.heap.push {cls:=.type "dict_itemiterator",data:=.fields #[.none,.bool false,.ref d,.int 0 0,.int es.size 0,.int ep 0,.none,.none]}}):TX (Tx prog w) A (pyIter (.ref v)) Q E s:=by
 obtain⟨k,c,i,f⟩:=id b;obtain⟨o,g,l,a⟩:=id x;refine UJ b.typeIs OY (dk OY b.typeIs F.entry_dict_items_iter ?_ (F.args_dict_items_iter_1 _));refine a9 (aa (a9 (a9 (Ui c f J (aa (a9 (a9 (Ue g a (a9 (Uf g a ?_))))))))));simp only[show ri "dict_itemiterator"=true by rfl,if_true];refine fe (aa ⟨_,J,"dict_itemiterator",_,⟨_,cb _ J,J⟩,F.slot_dict_itemiterator_next.lookup,?_⟩)
  (by simp only[sizeOk,rf,dy,cq,fg,QO,TM];omega)
 simpa[TF,rf]using j
theorem BF{Q:Option I->Sh->Prop}(u:Pt s.heap it d i es.size ep ok ov)(x:qj s.heap d es ep)(hi:i<es.size)(hQ:∀h',IsItemIterOut h' it d (i+1) es.size ep es[i].key es[i].val s.heap.objs.size->h'.get? s.heap.objs.size=some {cls:=.type "tuple",data:=.seq #[es[i].key,es[i].val]}->h'.objs.size=s.heap.objs.size+1-> (∀b o,b≠it->s.heap.get? b=some o->h'.get? b=some o)->Q (some (.ref s.heap.objs.size)) {s with heap:=h'}):TX (Tx prog w) A (TD (.ref it)) Q E s:=by
 obtain⟨N,g,U,S,os⟩:=s;obtain⟨od,P,aj,R⟩:=id x;have L:Shared.TypeIs ⟨N,g,U,S,os⟩ (.ref it) "dict_itemiterator":=⟨_,u,J⟩
 refine a9 (Ua (Uc L OX (dk OX L OT (a9 (aa (a9 (a9 ?_)))) (OQ _))));first|refine a9 (VA L (aa ?_))|refine a9 (VD L (aa ?_))
 refine a9 (Uj u J ?_);show TX _ _ (if(Sw d==Sv)=true then _ else _) _ _ _;rw[kr (show¬((Sw d==Sv)=true)from cy)];refine a9 (aa (a9 (Ue P R ?_)));rw[kr (by simp)];refine a9 (aa (a9 (Uf P R ?_)));rw[kr (by simp)];refine aa ?_;simp only[dm,fw hi];refine a9 ?_;first|refine a9 (VA L (aa ?_))|refine a9 (VD L (aa ?_))
 refine a9 (Up L ?_);show TX _ _ (setField (.ref it) 3 (TF (i+1))>>=_) _ _ ⟨N,g,U,S,os⟩;refine a9 (UT u (by simp) λn k j=>?_);have l:Shared.TypeIs ⟨n,g,U,S,os⟩ (.ref it) "dict_itemiterator":=⟨_,k,J⟩
 refine a9 (Uo (a9 (Up l (a9 (Up l (a9 (Uz ?_)))))));have a:Pt (n.push {cls:=.type "tuple",data:=.seq #[es[i].key,es[i].val]}) it d (i+1) es.size ep ok ov:=be _ k;generalize f:n.push {cls:=.type "tuple",data:=.seq #[es[i].key,es[i].val]}=m at a;have c:=j.1;have z:m.get? N.objs.size=some {cls:=.type "tuple",data:=.seq #[es[i].key,es[i].val]}:=by rw[<-f,<-c];exact cb _ J
 have y:m.objs.size=N.objs.size+1:=by rw[<-f,gm,c]
 have B:∀b o,b≠it->N.get? b=some o->m.get? b=some o:=λb o v e=>(f▸be _ (j.extBut b o v e))
 show TX _ _ (Builtin.Dict_items.ownedTupleIsFree (.ref it)>>=_) _ _ ⟨m,g,U,S,os⟩;rw[c];clear f k j l c n;refine a9 (a9 (Ui a J J (aa ?_)));refine a9 (Ui a J J (a9 (Ui a J J (a9 (UT a (by simp) λah H t=>(a9 (UT H (by simp) λZ G r=>(a9 (UT G (by simp) λX D q=>(a9 (UT D (by simp) λM C p=>?_)))))))))));have W:=λb o v e=>p.extBut b o v (q.extBut b o v (r.extBut b o v (t.extBut b o v e)));refine a9 (Ut (aa (aa ⟨_,J,aa (hQ M C (W _ _ (fc (bf (u))) z) ?_ λb o v e=>W b o v (B b o v e))⟩)));rw[p.1,q.1,r.1,t.1,y]
theorem Ai{Q:Option I->Sh->Prop}(j:A.handled=none)(a:Pt s.heap it d i es.size ep ok ov)(x:qj s.heap d es ep)(g:es.size<=i)(l:∀h',Pa it s.heap h'->Q none {s with heap:=h'}):TX (Tx prog w) A (TD (.ref it)) Q E s:=by
 obtain⟨m,c,k,f⟩:=id x;have b:s.TypeIs (.ref it) "dict_itemiterator":=⟨_,a,J⟩
 refine a9 (Ua (Uc b OX (dk OX b OT (a9 (aa (a9 (a9 ?_)))) (OQ _))));first|refine a9 (VA b (aa ?_))|refine a9 (VD b (aa ?_))
 refine a9 (Uj a J ?_);show TX _ _ (if(Sw d==Sv)=true then _ else _) _ _ s;rw[kr (show¬((Sw d==Sv)=true)from cy)];refine a9 (aa (a9 (Ue c f ?_)));rw[kr (by simp)];refine a9 (aa (a9 (Uf c f ?_)));rw[kr (by simp)];refine aa ?_;simp only[dm,nu g];refine a9 ?_;first|refine a9 (VA b (aa ?_))|refine a9 (VD b (aa ?_))
 show TX _ _ (setField (.ref it) 2 .none>>=_) _ _ s;refine a9 (US a J (by simp) (a9 (a9 (fe (a9 (UD (by rfl) (fe (a9 (Um ?_)) (by size_fits)))) (by size_fits)))));rw[(j)];refine a9 (aa (UX ?_));exact a9 (fz ⟨_,cb _ J,J⟩ Tk (aa (l _ (((Pe ..).extBut.push _).push _))))
theorem BH(a:Pt s.heap it d i es.size ep ok ov)(h:Q (.ref it) s):TX (Tx prog w) A (pyIter (.ref it)) Q E s:=kcp_self a h
end
def ui(d:lv)(o:Obj)(kvs:List (List aJ×V)):It:=⟨λi H=>H d=some (.frz o (.dT kvs))/\i<kvs.length,λi H v H'=>∃p b B,v=.ref p/\H p=none/\kvs[i]?=some B/\H b=some (.tup (B.1.map kV))/\H'=ji H p (.tup [.ref b,B.2]),λi H=>H d=some (.frz o (.dT kvs))/\kvs.length<=i⟩
theorem vV{d:Y}{kvs:O (O aJ×V)}(u:bR P w H h)(e:H d=some (.frz o (.dT kvs))):(d==TV)=false/\h.get? d=some o/\o.ExactDict/\∃es ep,o.data=.dict es ep/\es.size=kvs.length/\∀i f,kvs[i]?=some f->∃(hi:i<es.size)(b:Y),es[i].key=.ref b/\H b=some (.tup (f.1.map kV))/\yf f.2 es[i].val:=by
 obtain⟨A,_⟩:=u d _ e;obtain⟨z,E,g,n,⟨F,es,ep,x,t,k,y,_,_⟩⟩:=Q8 u (.inr ⟨o,e⟩);rw[A]at x;cases x;have C:=Paired.length n;have D:=TN y;refine⟨E,A,t,es,ep,k,by omega,λi f hk=>?_⟩;have hi:i<kvs.length:=by grind
 have j:i<es.size:=by omega
 have s:g[i]?=some g[i]:=cg (by omega);have v:f.1=g[i].1/\H g[i].2.1=some (.tup (f.1.map kV))/\yf f.2 g[i].2.2:=by
  have B:∀{l:O (O aJ×V)}{m:O (O aJ×Y×I)},KT H l m->∀{i:Nat}{p q},l[i]?=some p->m[i]?=some q->p.1=q.1/\H q.2.1=some (.tup (p.1.map kV))/\yf p.2 q.2.2:=by intro l m r;induction r with|nil=>simp| cons a _ G=>grind
  grind
 have c:=Ti y i;rw[s,fw j]at c;have c:=RV c;exact⟨j,g[i].2.1,by rw[c];rfl,v.2.1,(c▸v.2.2)⟩
theorem Ni{K:O4}{k1}(d x:Y)(o:Obj)(kvs:O (O aJ×V))(y:Array OO)(M:Nat)(j:o.data=.dict y M):cY P w K (.Tuple cK k1 aE) (ui d o kvs) [x] x (λi h=>∃ok ov,Pt h x d i y.size M ok ov) where
 mem:=by simp
 obj:=λi h st b G=>by grind
 keep:=λi h h' ⟨ok,ov,st⟩ k=>⟨ok,ov,k x (by simp) _ st⟩
 item:=by
  intro X hP N hK u i p s σ H E I hf st W;subst hP N hK;obtain⟨hH,U⟩:=W;obtain⟨ok,ov,st⟩:=st;obtain⟨hd,h0,t,aj,ak,a,Q,B⟩:=vV I.hok hH;rw[j]at a;cases a;obtain⟨S,b,C,G,rv⟩:=B i kvs[i] (cg U);obtain⟨f0,L,f2,f3,f4,f5⟩:=hf x (by simp);refine BF st ⟨o,h0,t,j⟩ S λg gi gT gz gk=>⟨.ref s.heap.objs.size,J,Uv gi λg' ah F=>?_⟩
  have f:=I.hok.fresh (au _);have A:=fc (bf st);have l:=λc o n e=>F.extBut c o n (gk c o n e);have Z:=F.extBut _ _ A gT;have I1:Inv X p σ (ji H s.heap.objs.size (.tup [.ref b,kvs[i].2])) {s with heap:=g',toks:=s.toks}:=by
   refine I.step (λc u=>(ai.mp u▸⟨f3,L,f4,f5⟩)) (λc o n1 n2 v e _=>l c o (λz=>v (by grind)) e)
    (λc o n1 n2 v e _=>⟨o.slots,l c o (λz=>v (by grind)) e⟩) (λc o v e n=>(ja (br (bf e))▸n)) (λc o v e=>⟨o,l c o (λz=>v (by grind)) e⟩)
    (λc zs e=>(ja (zi e f)▸e)) (λc o zs e=>(ja (zi e f)▸e)) (λc ps e=>⟨#[],by rw[ja (zi e f),e];simp⟩) (λm hm=>?_) (λc ob e=>?_) I.bare
   obtain⟨o,y,M,R,r⟩:=hm;exact⟨o,y,M,l _ o (ae L) R,r⟩;by_cases D:c=s.heap.objs.size;subst D;rw[zd]at e;cases e;exact⟨by show 2<=TL;rw[TM];omega,[y[i].key,y[i].val],.cons C (.cons rv .nil),⟨_,Z,J,_,J⟩,λq hq=>by simp_all⟩
   rw[ja D]at e;refine(I.hok c ob e).stay (λd o u q=>?_) (λd q=>(ja (zi q f)▸q)) λd zs q=>(ja (zi q f)▸q)
   grind
  exact⟨.ref s.heap.objs.size,_,I1,J,⟨_,b,_,J,f,cg U,G,J⟩,⟨_,_,ah⟩,λc u=>by rw[ai.mp u,ja (ae A)];omega⟩
 done:=by intro X hP N hK u i p s σ H E I hf st W;subst hP N hK;obtain⟨hH,U⟩:=W;obtain⟨ok,ov,st⟩:=st;obtain⟨hd,h0,t,aj,ak,a,Q,_⟩:=vV I.hok hH;rw[j]at a;cases a;obtain⟨f0,L,f2,f3,f4,f5⟩:=hf x (by simp);exact Ai (I.ok.hd u) st ⟨o,h0,t,j⟩ (by omega) λh' eb=>⟨J,I.turned (λb o G e=>eb b o G e) f0 L f3 f4 f5⟩
 self:=λ_ _ _ _ _ ⟨ok,ov,st⟩ h=>BH st h
section
variable{o:OP}{k1:_}
inductive gQ(R:It->Hp->Prop)(x:V)(H1:Hp):Prop|mk:∀d ob kvs,x=.ref d->H1 d=some (.frz ob (.dT kvs))->R (ui d ob kvs) H1->gQ R x H1
def FA(to:TE):TI:=λσ H R=>to σ H λx H1=>gQ R x H1
theorem Kr(C:PE X o to)(g:attributeBase o "items" X.env (Tj o X.env)=Tj o X.env:=by rfl)(f:(apos.endLine==cpos.line)=true:=by rfl):PI X (.Tuple cK k1 cM) (.Call (.Attribute o "items" apos) [] [] cpos) (FA to):=by
 intro j s y H R I h;refine T5 g f (aH (C j s y H _ I h) λv i ⟨x,G,m,z,d,n,p,F,D,q⟩=>?_);subst F;cases z;obtain⟨B,w,l,r,t,c,A,_⟩:=vV m.hok D;have u:qj i.heap d r t:=⟨n,w,l,c⟩
 refine⟨"dict","dict.items",PySem.F.plainAttrs_dict,PySem.F.slot_dict_items,PySem.F.type_dict_items,u.ty,λa e=>?_,I8 J (PySem.evalArgs_none (BI B u ?_))⟩;cases e;exact⟨n,w,l.2.1⟩;refine BG ⟨_,cb _ J,J,J⟩ (u.at λo e=>be _ e) ?_;have k:i.heap.objs.size<=(i.heap.push {cls:=.type "dict_items",data:=.fields #[.ref d]}).objs.size:=by simp
 refine⟨_,[(i.heap.push {cls:=.type "dict_items",data:=.fields #[.ref d]}).objs.size],_,_,G,J,(m.kept (t':=i.toks) (h':=(i.heap.push {cls:=.type "dict_items",data:=.fields #[.ref d]}).push {cls:=.type "dict_itemiterator",data:=.fields #[.none,.bool false,.ref d,.int 0 0,.int r.size 0,.int t 0,.none,.none]}) λb o e=>be _ (be _ e)),Ni d _ n p r t c,⟨_,_,cb _ J⟩,λb E=>?_,q⟩;rw[ai.mp E];exact m.fpOk k (m.hok.fresh k)
end
theorem L0{d:Y}{kvs:O (O aJ×V)}(Pv:Nat->St->Hp->Prop)(s:Pv 0 σ H)(hl:∀i σ H,i<=kvs.length->Pv i σ H->H d=some (.frz o (.dT kvs)))(v:∀i c σ H,kvs[i]?=some c->Pv i σ H->∀p b,H p=none->H b=some (.tup (c.1.map kV))->g (.ref p) σ (ji H p (.tup [.ref b,c.2])) λf H2=>tb (D.lp (Pv (i+1))) f H2) (r:∀σ H,Pv kvs.length σ H->D.nx σ H):
  cB g tb D σ (ui d o kvs) H:=by
 refine⟨λi m σ H=>m=kvs.length-i/\i<=kvs.length/\Pv i σ H,⟨kvs.length,by simp,c9 _,s⟩,?_⟩;rintro i m σ H ⟨rfl,n,p⟩;have q:=hl i σ H n p;by_cases a:i<kvs.length;refine .inr ⟨⟨q,a⟩,Pv (i+1),λj t k=>⟨kvs.length-(i+1),by omega,J,a,k⟩,λx t y=>?_⟩;obtain⟨u,b,c,rfl,l,hk,w,rfl⟩:=y
 grind
 have e:i=kvs.length:=by omega
 subst e;exact .inl ⟨⟨q,au _⟩,r σ H p⟩
def uk(d:lv)(o:Obj)(kvs:List (aJ×V)):It:=⟨λi H=>H d=some (.frz o (.dK kvs))/\i<kvs.length,λi H v H'=>∃p B,v=.ref p/\H p=none/\kvs[i]?=some B/\H'=ji H p (.tup [kV B.1,B.2]),λi H=>H d=some (.frz o (.dK kvs))/\kvs.length<=i⟩
theorem IN{K:Type}[DecidableEq K]{prog:R0}{w:SX}{knd:PySem.KeyKind prog w K}:∀{a:List OO}{kvs:List (K×Sr)}{i:Nat}{e:OO}{q:K×Sr},Pairs knd a kvs->a[i]?=some e->kvs[i]?=some q->knd.is q.1 e.key=true/\e.val=q.2:=by intro a kvs i e q h;induction h generalizing i with|nil=>simp| cons _ _ _ b=>cases i with|zero=>intro d c;cases d;cases c;exact⟨by assumption,by assumption⟩|succ i=>exact b
theorem xF{d:Y}(j:bR P w H h)(e:H d=some (.frz o (.dK kvs))):(d==TV)=false/\h.get? d=some o/\o.ExactDict/\∃es ep,o.data=.dict es ep/\es.size=kvs.length/\∀i f,kvs[i]?=some f->∃(hi:i<es.size),yf (kV f.1) es[i].key/\yf f.2 es[i].val:=by
 obtain⟨m,_⟩:=j d _ e;obtain⟨z,s,x,a,⟨y,es,ep,l,g,c,hk,k,_⟩⟩:=Vu j (.inr ⟨o,e⟩);rw[m]at l;cases l;have r:=Paired.length a;have q:=k.length▸nG;refine⟨s,m,g,es,ep,c,by omega,λi f b=>?_⟩;have hi:i<es.size:=by have:=(d7.mp b).1;omega
 obtain⟨u,p,n⟩:=KV.get a b;obtain⟨v,t⟩:=IN k (by rw[nv,fw hi]) p;exact⟨hi,vI v,(t▸n)⟩
theorem ND{K:O4}{k1}(d x:Y)(o:Obj)(kvs:O (aJ×V))(y:Array OO)(L:Nat)(j:o.data=.dict y L):cY P w K (.Tuple cK k1 aE) (uk d o kvs) [x] x (λi h=>∃ok ov,Pt h x d i y.size L ok ov) where
 mem:=by simp
 obj:=λi h st b hb=>by grind
 keep:=λi h h' ⟨ok,ov,st⟩ k=>⟨ok,ov,k x (by simp) _ st⟩
 item:=by
  intro X hP M Z u i p s σ H E I hf st U;subst hP M Z;obtain⟨hH,S⟩:=U;obtain⟨ok,ov,st⟩:=st;obtain⟨hd,h0,t,aj,ak,a,N,B⟩:=xF I.hok hH;rw[j]at a;cases a;obtain⟨R,C,rv⟩:=B i kvs[i] (cg S);obtain⟨f0,G,f2,f3,f4,f5⟩:=hf x (by simp);refine BF st ⟨o,h0,t,j⟩ R λg gi gT gz gk=>⟨.ref s.heap.objs.size,J,Uv gi λg' ah F=>?_⟩
  have f:=I.hok.fresh (au _);have A:=fc (bf st);have l:=λc o n e=>F.extBut c o n (gk c o n e);have W:=F.extBut _ _ A gT;have I1:Inv X p σ (ji H s.heap.objs.size (.tup [kV kvs[i].1,kvs[i].2])) {s with heap:=g',toks:=s.toks}:=by
   refine I.step (λc u=>(ai.mp u▸⟨f3,G,f4,f5⟩)) (λc o n1 n2 v e _=>l c o (λz=>v (by grind)) e)
    (λc o n1 n2 v e _=>⟨o.slots,l c o (λz=>v (by grind)) e⟩) (λc o v e n=>(ja (br (bf e))▸n)) (λc o v e=>⟨o,l c o (λz=>v (by grind)) e⟩)
    (λc zs e=>(ja (zi e f)▸e)) (λc o zs e=>(ja (zi e f)▸e)) (λc ps e=>⟨#[],by rw[ja (zi e f),e];simp⟩) (λm hm=>?_) (λc ob e=>?_) I.bare
   obtain⟨o,y,L,Q,r⟩:=hm;exact⟨o,y,L,l _ o (ae G) Q,r⟩;by_cases D:c=s.heap.objs.size;subst D;rw[zd]at e;cases e;exact⟨by show 2<=TL;rw[TM];omega,[y[i].key,y[i].val],.cons C (.cons rv .nil),⟨_,W,J,_,J⟩,λq hq=>by simp_all⟩
   rw[ja D]at e;refine(I.hok c ob e).stay (λd o u q=>?_) (λd q=>(ja (zi q f)▸q)) λd zs q=>(ja (zi q f)▸q)
   grind
  exact⟨.ref s.heap.objs.size,_,I1,J,⟨_,_,J,f,cg S,J⟩,⟨_,_,ah⟩,λc u=>by rw[ai.mp u,ja (ae A)];omega⟩
 done:=by intro X hP M Z u i p s σ H E I hf st U;subst hP M Z;obtain⟨hH,S⟩:=U;obtain⟨ok,ov,st⟩:=st;obtain⟨hd,h0,t,aj,ak,a,N,_⟩:=xF I.hok hH;rw[j]at a;cases a;obtain⟨f0,G,f2,f3,f4,f5⟩:=hf x (by simp);exact Ai (I.ok.hd u) st ⟨o,h0,t,j⟩ (by omega) λh' eb=>⟨J,I.turned (λb o hb e=>eb b o hb e) f0 G f3 f4 f5⟩
 self:=λ_ _ _ _ _ ⟨ok,ov,st⟩ h=>BH st h
section
variable{o:OP}{k1:_}
inductive eX(R:It->Hp->Prop)(x:V)(H1:Hp):Prop|mk:∀d ob kvs,x=.ref d->H1 d=some (.frz ob (.dK kvs))->R (uk d ob kvs) H1->eX R x H1
def Ih(to:TE):TI:=λσ H R=>to σ H λx H1=>eX R x H1
theorem LQ(C:PE X o to)(g:attributeBase o "items" X.env (Tj o X.env)=Tj o X.env:=by rfl)(f:(apos.endLine==cpos.line)=true:=by rfl):PI X (.Tuple cK k1 cM) (.Call (.Attribute o "items" apos) [] [] cpos) (Ih to):=by
 intro j s y H R I h;refine T5 g f (aH (C j s y H _ I h) λv i ⟨x,G,m,z,d,n,p,F,D,q⟩=>?_);subst F;cases z;obtain⟨B,w,l,r,t,c,A,_⟩:=xF m.hok D;have u:qj i.heap d r t:=⟨n,w,l,c⟩
 refine⟨"dict","dict.items",PySem.F.plainAttrs_dict,PySem.F.slot_dict_items,PySem.F.type_dict_items,u.ty,λa e=>?_,I8 J (PySem.evalArgs_none (BI B u ?_))⟩;cases e;exact⟨n,w,l.2.1⟩;refine BG ⟨_,cb _ J,J,J⟩ (u.at λo e=>be _ e) ?_;have k:i.heap.objs.size<=(i.heap.push {cls:=.type "dict_items",data:=.fields #[.ref d]}).objs.size:=by simp
 refine⟨_,[(i.heap.push {cls:=.type "dict_items",data:=.fields #[.ref d]}).objs.size],_,_,G,J,(m.kept (t':=i.toks) (h':=(i.heap.push {cls:=.type "dict_items",data:=.fields #[.ref d]}).push {cls:=.type "dict_itemiterator",data:=.fields #[.none,.bool false,.ref d,.int 0 0,.int r.size 0,.int t 0,.none,.none]}) λb o e=>be _ (be _ e)),ND d _ n p r t c,⟨_,_,cb _ J⟩,λb E=>?_,q⟩;rw[ai.mp E];exact m.fpOk k (m.hok.fresh k)
end
theorem M5{d:Y}(Pv:Nat->St->Hp->Prop)(r:Pv 0 σ H)(hl:∀i σ H,i<=kvs.length->Pv i σ H->H d=some (.frz o (.dK kvs)))(u:∀i b σ H,kvs[i]?=some b->Pv i σ H->∀p,H p=none->g (.ref p) σ (ji H p (.tup [kV b.1,b.2])) λc H2=>tb (D.lp (Pv (i+1))) c H2) (n:∀σ H,Pv kvs.length σ H->D.nx σ H):
  cB g tb D σ (uk d o kvs) H:=by
 refine⟨λi m σ H=>m=kvs.length-i/\i<=kvs.length/\Pv i σ H,⟨kvs.length,by simp,c9 _,r⟩,?_⟩;rintro i m σ H ⟨rfl,l,p⟩;have q:=hl i σ H l p;by_cases a:i<kvs.length;refine .inr ⟨⟨q,a⟩,Pv (i+1),λf s j=>⟨kvs.length-(i+1),by omega,J,a,j⟩,λx s y=>?_⟩;obtain⟨t,b,rfl,k,hk,rfl⟩:=y
 grind
 have e:i=kvs.length:=by omega
 subst e;exact .inl ⟨⟨q,au _⟩,n σ H p⟩
theorem L1{d:Y}(Pv:Nat->St->Hp->Prop)(r:Pv 0 σ H)(hl:∀i σ H,i<=kvs.length->Pv i σ H->H d=some (.frz o (.dK kvs)))(k:∀i b σ H,kvs[i]?=some b->Pv i σ H->g (kV b.1) σ H λc H2=>tb (D.lp (Pv (i+1))) c H2) (n:∀σ H,Pv kvs.length σ H->D.nx σ H):
  cB g tb D σ (yG d o kvs) H:=by
 refine⟨λi m σ H=>m=kvs.length-i/\i<=kvs.length/\Pv i σ H,⟨kvs.length,by simp,c9 _,r⟩,?_⟩;rintro i m σ H ⟨rfl,l,p⟩;have q:=hl i σ H l p;by_cases a:i<kvs.length;refine .inr ⟨⟨q,a⟩,Pv (i+1),λf s j=>⟨kvs.length-(i+1),by omega,J,a,j⟩,λx s y=>?_⟩;obtain⟨rfl,b,hk,rfl⟩:=y;exact k i b σ _ hk p;have e:i=kvs.length:=by omega
 subst e;exact .inl ⟨⟨q,au _⟩,n σ H p⟩
section
variable{K:Type}[DecidableEq K]{knd:HeapKind prog w K}
end
section
end
section
variable{κ:Type}[DecidableEq κ]{τ:aN κ}
inductive fV(τ:aN κ)(P:R0)(w:SX)(Q:VK)(d:lv)(y z:V)(H3:Hp):Prop|mk:∀b kvs k,y=.ref b->aM τ P w H3 d kvs->Is H3 (τ.tr k) (.ref b)->kvs.length<TL->(∀v,yv kvs k=some v->Q v H3)->(yv kvs k=none->∀o,aM τ P w (ji H3 d o) d (vw kvs k z)->Q z (ji H3 d o))->fV τ P w Q d y z H3
inductive eL(τ:aN κ)(P:R0)(w:SX)(ty tx:TE)(σ:St)(Q:VK)(x:V)(H1:Hp):Prop|mk:∀d kvs0,x=.ref d->aM τ P w H1 d kvs0->(ty σ H1 λy H2=>tx σ H2 λz H3=>fV τ P w Q d y z H3)->eL τ P w ty tx σ Q x H1
def Gy(τ:aN κ)(P:R0)(w:SX)(td B F:TE):TE:=λσ H Q=>td σ H λx H1=>eL τ P w B F σ Q x H1
variable{o:OP}{ty:TE}
theorem KY(hu:X.A.units+4<cLine)(ho:PE X o td)(he:PE X e ty)(hf:PE X f tx)(m:M2 X o "setdefault" apos e f cpos):PE X (.Call (.Attribute o "setdefault" apos) [e,f] [] cpos) (Gy τ X.prog X.w td ty tx):=by
 intro a s r H Q I h;refine T2 m.base m.few m.line PySem.F.plainAttrs_dict PySem.F.slot_dict_setdefault PySem.F.type_dict_setdefault (aH (ho a s r H _ I h) λu s1 ⟨x,H1,S,rx,d,L,ex,n0,q1⟩=>?_);subst ex;obtain rfl:u=Sw d:=rx;obtain⟨G,D,Z,W⟩:=n0.typ S.hok;refine⟨⟨G,D,Z⟩,λb q=>by cases q;exact⟨G,D,W⟩,?_⟩;rw[m.trees];refine I8 J (J3 (J4 (aH (he a s1 r H1 _ S q1) λiv s2 ⟨y,H2,I2,ry,q2⟩=>J4 (aH (hf a s2 r H2 _ I2 q2) λR s3 ⟨z,H3,l,E,b,i,k,ey,n,M,hl,q3,q4⟩=>J5 ?_))))
 subst ey;obtain rfl:iv=Sw b:=ry;obtain⟨P,xs,j,hz,C⟩:=n.dict l.hok;refine dk PySem.F.slot_dict_setdefault C.typeIs PySem.F.entry_dict_setdefault (a9 (a9 (UC C.typeIs (aa ?_)))) (PySem.F.args_dict_setdefault_3 _ _ _);show TX _ _ (if(d==TV)=true then _ else(dictSetDefault d (.ref b) R>>=_)) _ _ s3;rw[kr (P▸cy)];have g:=j.val k;refine a9 (Jb (Y3 (by omega)) (τ.of l.hok M) C (λp hp=>?_) (λt h' B hs=>?_) hz);rw[hp]at g;cases c:yv i k with|none=>rw[c]at g;exact g.elim| some v=>rw[c]at g;exact aa ⟨p.2,J,v,H3,l.tok _,g,q3 v c⟩
 rw[t]at g;cases c:yv i k with|some v=>rw[c]at g;exact g.elim| none=>obtain⟨F,w,A,N,h2,h3,h4,_,h5⟩:=B;obtain⟨U,e0,_⟩:=id n;have ah:=xa i k z;exact aa ⟨R,J,z,_,Ze l (e0▸Sq) hs ⟨F,N⟩ (Qj.ok ⟨F,w,A,N,h2,h3,h4⟩),E,q4 c _ ⟨_,zd,P,by omega,h5,(j.put k M E).tups n.tups⟩⟩
end
section
theorem vZ{i:Int}{v:V}(a:Is H (.int i) v)(r:yf v u):dW (zt P w) h (.inr (.inl i)) u:=by cases(a);exact Y8 r
theorem Ii{x:Str}{v:V}(a:Is H (.str x) v)(r:yf v u):dW (zt P w) h (.inr (.inr x)) u:=by cases(a);exact Y8 r
theorem Ij(d:bR P w H h){g:O Int}{v:V}(a:Is H (tI g) v)(r:yf v u):dW (zt P w) h (.inl (kI g)) u:=by obtain⟨b,i,rfl,c,f⟩:=a;rw[IsL.ints.mp f,<-nO]at c;cases(r);exact⟨b,J,Xm d c⟩
theorem Bm(l:bR P w H h){c b:T}{f d:cT aJ}(i:Is H (.tup [c,b]) (.ref a))(y:∀v u,Is H c v->yf v u->dW (zt P w) h f u)(x:∀v u,Is H b v->yf v u->dW (zt P w) h d u):Zo (zt P w) h [f,d] a:=by
 obtain⟨L,D,e,t,s⟩:=i;cases e;obtain⟨_,m,r,⟨o,B,A,n,z⟩,_⟩:=(l a _ t)
 obtain⟨G,E,rfl,q,F,g,rfl,p,C⟩:=s;cases(C);cases r with| cons k r=>cases r with| cons j r=>cases r;exact⟨o,_,n,B,A,z,by simpa using bT.cons (y _ _ q k) (.cons (x _ _ p j) .nil)⟩
end
noncomputable def dS:aN (Str×Int) where
 S := { f:=λp=>[.inr (.inr p.1),.inr (.inl p.2)]
        inj:=λa b e=>by
         injection e with e1 e2;injection e2 with e2 _;injection e1 with e1;injection e1 with e1;injection e2 with e2;injection e2 with e2;exact Prod.ext e1 e2
        one:=λ_ _=>rfl}
 tr:=λp=>.tup [.str p.1,.int p.2]
 fro:=λ_=>⟨trivial,trivial,trivial⟩
 of:=λok _ _ i=>Bm ok i (λ_ _=>Ii) (λ_ _=>vZ)
def fC:aN (List Int×Int) where
 S := { f:=λp=>[.inl (kI p.1),.inr (.inl p.2)]
        inj:=λa b e=>by
         injection e with e1 e2;injection e2 with e2 _;injection e1 with e1;injection e2 with e2;injection e2 with e2;exact Prod.ext (Ay e1) e2
        one:=λ_ _=>rfl}
 tr:=λp=>.tup [tI p.1,.int p.2]
 fro:=λp=>⟨Vr p.1,trivial,trivial⟩
 of:=λok _ _ i=>Bm ok i (λ_ _=>Ij ok) (λ_ _=>vZ)
def lW(rows:List (List Int×V))(kvs:List (List aJ×V)):List (List aJ×V):=rows.foldl (λB r=>vw B (kI r.1) r.2) kvs
inductive jY(as:List V)(H:Hp)(Q:VK):Prop|mk:∀(p:lv)(bs:List lv)(rows:List (List Int×V)),as=[.ref p]->H p=some (.lst (bs.map V.ref))->Paired (dQ H) bs rows->(∀d H',zh H H'->H d=none->H' d=some (.dT (lW rows []))->Q (.ref d) H')->jY as H Q
theorem C0{H:Hp}:∀{rows:List (List Int×V)}{d:List Je}{kvs:List (List aJ×V)}{xs:List Je},Paired (λ(r:List Int×V) (q:Je)=>kI r.1=q.1/\H q.2.1=some (.tup (q.1.map kV))/\yf r.2 q.2.2) rows d->KT H kvs xs->
  KT H (lW rows kvs) (Ap xs d)/\(lW rows kvs).length<=kvs.length+rows.length
 |_,_,kvs,_,.nil,r=>⟨r,au _⟩
 | r::rows,q::d,kvs,xs,.cons h t,f=>by
   obtain⟨g,j,i⟩:=h;have b:=f.put q.1 j i;rw[<-g]at b;obtain⟨a,c⟩:=C0 t b;have e:storedH xs (kI r.1) q.2.1 q.2.2=storedH xs q.1 q.2.1 q.2.2:=by rw[g]
   rw[e]at a;refine⟨a,dq c ?_⟩;have:=xa kvs (kI r.1) r.2
   grind
section
theorem Mt(hc:X.calm=true)(hu:X.A.units+8<cLine):j6 X (.type "dict") jY:=by
 intro ah s σ H as us Q I r h;obtain⟨p,F,k,rfl,hp,W,q⟩:=h;obtain⟨u,rfl,rx⟩:=Zg r;cases(rx);obtain⟨hz,f,n,rv,h1⟩:=(I.hok p _ hp)
 have hh:=I.ok.hd hc;obtain⟨rh,aq,z,l⟩:=zW I W;have S:f.length=F.length:=by have:=rv.length;simp_all
 have ap:F.length<=TL:=by simp_all
 refine Ta (Q₁:=λw i=>w=.ref s.heap.objs.size/\i={s with heap:=s.heap.push {cls:=.type "dict",data:=.dict #[]}}) PySem.F.kt_called_dict (PySem.F.kt_typeCall_dict_1 _) PySem.F.entry_dict_init (Tt _ ⟨J,J⟩) ?_;rintro w i ⟨rfl,rfl⟩;have c:(s.heap.push {cls:=.type "dict",data:=.dict #[]}).DictOfH (tupleKind (zt X.prog X.w)) s.heap.objs.size []:=Heap.DictOfH.new s.heap;have E:=c.typeIs (s:={s with heap:=s.heap.push {cls:=.type "dict",data:=.dict #[]}});have t:(s.heap.push {cls:=.type "dict",data:=.dict #[]}).get? p=some {cls:=.type "list",dict:=none,data:=.seq f.toArray n,slots:=#[]}:=be _ h1;have D:=bf h1;refine⟨E,PySem.F.args_dict_init_2 _ _,(a9 (a9 (UC E (aa ?_))))⟩;show TX _ _ (re "dict.__init__" s.heap.objs.size (.ref p) [] .none) _ _ _;refine a9 (VG ⟨_,t,J⟩ ?_);rw[kP (by rfl)];refine a9 (K9 t hh λg tk hk=>(a9 (UQ ?_)));have y:g.IsList p f.toArray:=⟨_,hk _ _ t,J,n,J⟩
 refine a9 (UH y (aa ⟨TC vg _,?_⟩));have d:s.heap.objs.size+1<=g.objs.size:=by obtain⟨o,G,L,C,_⟩:=c;exact bf (hk _ _ C)
 have U:(g.push {cls:=.type "list_iterator",data:=.fields #[.ref p,.int 0 0]}).DictOfH (tupleKind (zt X.prog X.w)) s.heap.objs.size []:=by obtain⟨o,G,L,C,a1,a2,a3,_,Z⟩:=c;exact⟨o,G,L,be _ (hk _ _ C),a1,a2,a3,(λx hx=>by grind),Z⟩
 have M:∀b o,s.heap.get? b=some o->(g.push {cls:=.type "list_iterator",data:=.fields #[.ref p,.int 0 0]}).get? b=some o:=λb o e=>be _ (hk _ _ (be _ e));refine Lr (A:=X.A.in1) (rows:=rh) (by grind) hh (br (RB d)) (br (RE D (RB d))) (br D) (by simp_all) (by omega) rh.length 0 _ [] (by omega) (c9 _) (au _)
  ⟨_,cb _ J,J,J⟩ (y.push _) U (λj v r P hr=>?_) λh' ak hD hK=>?_
 have P:f[j]?=some v:=by simp_all
 have hj:j<F.length:=by grind
 obtain⟨u,R,ru⟩:=rv.get (by rw[bq,cg hj];rfl);rw[R]at P;cases P;cases(ru);obtain⟨⟨ob,B,rr⟩,⟨ok,aD,m,A,rk⟩⟩:=l j F[j] r (cg hj) hr;have l1:=bf B;have l2:=bf A;exact⟨F[j],J,br l1,br (RE l1 (RB d)),br l2,br (RE l2 (RB d)),⟨ob,M _ _ B,rr⟩,⟨ok,aD,m,M _ _ A,rk⟩⟩;refine⟨J,?_⟩;obtain⟨N,aj⟩:=C0 z .nil;have av:=Paired.length z;have a:=I.hok.fresh (au s.heap.objs.size);have sm:=zh.new a (.dT (lW k []));obtain⟨_,zz,_⟩:=Cp (P:=X.prog) (w:=X.w) (H:=H) s.heap I.big;obtain⟨o,G,L,C,a1,a2,a3,_,Z⟩:=hD;refine⟨.ref s.heap.objs.size,_,I.laid (o:=.dT (lW k [])) (λb o e=>hK b o (br (bf e)) (br (RE (bf e) (RB d))) (M b o e)) (au _) ⟨?_,zz,_,N.keeps λb ys e=>sm _ _ e,o,G,L,C,a1,a2,a3,Z⟩,J,q _ _ sm a zd⟩
 grind
end
section
variable{d:lv}{kvs:List (List aJ×V)}{tc:TT}{k:Nat}{Q:VK}
theorem Cd(Pv:Nat->O V->Hp->Prop)(v:Pv 0 [] H)(hl:∀i ys H,i<=kvs.length->Pv i ys H->H d=some (.frz o (.dT kvs))/\ys.length<=TL)(B:∀i f ys H,kvs[i]?=some f->Pv i ys H->∀p b,H p=none->H b=some (.tup (f.1.map kV))->g (.ref p) (bQ k cap σ) (ji H p (.tup [.ref b,f.2])) λa H2=>tc a H2 λb l=>if b=true then te a l λy w=>Pv (i+1) (ys++[y]) w else Pv (i+1) ys l)
  (u:∀ys H,Pv kvs.length ys H->∀p,H p=none->Q (.ref p) (ji H p (.lst ys))):bV (ui d o kvs) g tc te k cap σ H Q:=by
 refine⟨λi m ys H=>m=kvs.length-i/\i<=kvs.length/\Pv i ys H,⟨kvs.length,by simp,c9 _,v⟩,?_⟩;rintro i m ys H ⟨rfl,t,p⟩;obtain⟨q,j⟩:=hl i ys H t p;by_cases c:i<kvs.length;refine .inr ⟨⟨q,c⟩,j,Pv (i+1),λn z r=>⟨kvs.length-(i+1),by omega,J,c,r⟩,λx z y=>?_⟩;obtain⟨A,b,f,rfl,s,hk,C,rfl⟩:=y
 grind
 have e:i=kvs.length:=by omega
 subst e;exact .inl ⟨⟨q,au _⟩,j,u ys H p⟩
end
end L2
namespace L2
open PySem PySem.Spec PyProof.Rows
inductive gH(x y:V)(H:Hp)(Q:VK):Prop|mk:∀p,y=.ref p->H p=some (.tup [])->Q (.bl true) H->gH x y H Q
theorem LM{X:Cx}:cQ X (compareOp .NotIn) gH:=by intro a s i H x y v u Q I j b h;obtain⟨p,rfl,g,q⟩:=h;cases b;obtain⟨d,r,c,k⟩:=I.tuple (aG.of g);cases r;exact SeqAt.notIn_tupleAt (λ_=>false) c (λy f=>by simp at f) ⟨.bl true,H,I,by simp[yf],q⟩
end L2
namespace L2
open PySem PySem.Spec PyProof.Rows PySem.W
variable{A:mf}{es:Array OO}{X:Cx}{H:Hp}{cap:List Nat}{Q:Option Sr->Sh->Prop}{P:R0}{s:Sh}{E:Sr->Sh->Prop}{w:SX}
section
variable{prog:R0}{d it v:lv}{ep i:Nat}
theorem Id{Q:I->Sh->Prop}(c:(d==TV)=false)(x:qj s.heap d es ep)(b:Q (.ref s.heap.objs.size) {s with heap:=s.heap.push {cls:=.type "dict_values",data:=.fields #[.ref d]}}):TX (Tx prog w) A (call (.builtin "dict.values") [.ref d]) Q E s:=by have a:=x.ty;refine dk F.slot_dict_values a F.entry_dict_values (a9 (a9 (UC a (aa ?_)))) (F.args_dict_values_1 _);unfold qm;rw[kr (by simp_all)];exact a9 (aa (a9 (fe (aa ⟨_,J,b⟩))))
theorem Ib{Q:I->Sh->Prop}(b:s.heap.IsValuesView v d)(x:qj s.heap d es ep)(j:Q (.ref s.heap.objs.size) {s with heap:=s.heap.push {cls:=.type "dict_valueiterator",data:=.fields #[.ref d,.int 0 0,.int es.size 0,.int ep 0]}}):TX (Tx prog w) A (pyIter (.ref v)) Q E s:=by obtain⟨k,c,i,f⟩:=id b;obtain⟨o,g,l,a⟩:=id x;refine UJ b.typeIs O1 (dk O1 b.typeIs F.entry_dict_values_iter ?_ (F.args_dict_values_iter_1 _));refine a9 (aa (a9 (a9 (Ui c f J (aa (a9 (a9 (Ue g a (a9 (Uf g a ?_))))))))));simp only[show ri "dict_valueiterator"=false by rfl,pq,if_false];refine fe (aa ⟨_,J,"dict_valueiterator",_,⟨_,cb _ J,J⟩,F.slot_dict_valueiterator_next.lookup,?_⟩);simpa[TF]using j
theorem Ic(a:s.heap.IsValIter it d i es.size ep)(x:qj s.heap d es ep)(k:i<es.size)(n:∀h',h'.IsValIter it d (i+1) es.size ep->Pc it s.heap h'->Q (some es[i].val) {s with heap:=h'}):TX (Tx prog w) A (TD (.ref it)) Q E s:=by
 obtain⟨o,g,m,f⟩:=id a;obtain⟨p,b,l,c⟩:=id x;refine a9 (Ua (Uc a.typeIs O0 (dk O0 a.typeIs OV (a9 (aa (a9 (a9 ?_)))) (OS _))))
 first|refine a9 (VC a.typeIs (aa ?_))|refine a9 (VF a.typeIs (aa ?_))
 refine a9 (Uj g f ?_);show TX _ _ (if(Sw d==Sv)=true then _ else _) _ _ s;rw[kr (show¬((Sw d==Sv)=true)from cy)];refine a9 (aa (a9 (Ue b c ?_)));rw[kr (by simp)];refine a9 (aa (a9 (Uf b c ?_)));rw[kr (by simp)];refine aa ?_;simp only[dm,fw k];refine a9 ?_;first|refine a9 (VC a.typeIs (aa ?_))|refine a9 (VF a.typeIs (aa ?_))
 refine a9 (Ur a.typeIs ?_);show TX _ _ (setField (.ref it) 1 (TF (i+1))>>=_) _ _ s;refine a9 (US g f (by simp) ?_);have j:(s.heap.update it (Obj.mapFields (·.setIfInBounds 1 (TF (i+1))))).IsValIter it d (i+1) es.size ep:=
  ⟨_,Ph _ g (RL (RJ f _)),(RH ..).trans m,by rw[RJ f];simp[TF]⟩
 exact a9 (Uo (a9 (Ur j.typeIs (a9 (Ur j.typeIs (aa (aa ⟨_,J,aa (n _ j (Pe ..))⟩)))))))
theorem F7(k:A.handled=none)(a:s.heap.IsValIter it d i es.size ep)(x:qj s.heap d es ep)(j:es.size<=i)(m:∀h',Pa it s.heap h'->Q none {s with heap:=h'}):TX (Tx prog w) A (TD (.ref it)) Q E s:=by
 obtain⟨n,f,p,g⟩:=id a;obtain⟨o,b,l,c⟩:=id x;refine a9 (Ua (Uc a.typeIs O0 (dk O0 a.typeIs OV (a9 (aa (a9 (a9 ?_)))) (OS _))))
 first|refine a9 (VC a.typeIs (aa ?_))|refine a9 (VF a.typeIs (aa ?_))
 refine a9 (Uj f g ?_);show TX _ _ (if(Sw d==Sv)=true then _ else _) _ _ s;rw[kr (show¬((Sw d==Sv)=true)from cy)];refine a9 (aa (a9 (Ue b c ?_)));rw[kr (by simp)];refine a9 (aa (a9 (Uf b c ?_)));rw[kr (by simp)];refine aa ?_;simp only[dm,nu j];refine a9 ?_;first|refine a9 (VC a.typeIs (aa ?_))|refine a9 (VF a.typeIs (aa ?_))
 show TX _ _ (setField (.ref it) 0 .none>>=_) _ _ s;refine a9 (US f g (by simp) (a9 (a9 (fe (a9 (UD (by first|rfl|(rfl)) (fe (a9 (Um ?_)) (by size_fits)))) (by size_fits)))));rw[(k)];refine a9 (aa (UX ?_));exact a9 (fz ⟨_,cb _ J,J⟩ Tk (aa (m _ (((Pe ..).extBut.push _).push _))))
theorem JD(n:A.handled=none)(I:Y)(j:d≠I):Walks prog w A I [I,d] [I] es.size (λi v=>∃e,es[i]?=some e/\v=e.val) (λi h=>h.IsValIter I d i es.size ep/\qj h d es ep) where
 sub:=λb a=>by simp at a;simp[a]
 frame:=λ_ _ _ st hk=>⟨st.1.at λo e=>hk I (by simp) o e,st.2.at λo e=>hk d (by simp) o e⟩
 item:=λi s Q E m st g=>Ic st.1 st.2 m λl f c=>g _ l s.toks ⟨_,fw m,J⟩ ⟨f,st.2.at λo e=>c.extBut d o j e⟩ λb o a e=>c.extBut b o (λh=>a (by simp[h])) e
 done:=λs Q E st g=>F7 n st.1 st.2 (au _) λl k=>g l s.toks λb o a e=>k b o (λh=>a (by simp[h])) e
 self:=λ_ _ _ _ st g=>wpAny_pyIter_valiter st.1 g
theorem Fy:KdlSrc prog w "dict_values" v d es.size (λi x=>∃e,es[i]?=some e/\x=e.val) (λh=>h.IsValuesView v d/\qj h d es ep) where
 type:=λ_ x=>x.1.typeIs
 there:=λ_ x=>⟨let⟨_,b,_⟩:=x.1;bf b,x.2.lt⟩
 keep:=λ_ _ x hk=>⟨let⟨o,b,r⟩:=x.1;⟨o,hk v (.inl J) o b,r⟩,x.2.at λo e=>hk d (.inr J) o e⟩
 notList:=by decide
 notTuple:=by decide
 hint:=λ_ _ _ _ x a=>kdl_hint_values x.1.typeIs a
 iter:=λ_ _ c x=>⟨_,_,(λ_ _ a=>Ib x.1 x.2 a),JD c _ (br x.2.lt),⟨⟨_,cb _ J,J,J⟩,x.2.at λo e=>be _ e⟩⟩
end
theorem ER{α a:Type}{R:α->a->Prop}{xs:List α}{b:List a}(p:Paired R xs b):∀{j:Nat}{x:α},xs[j]?=some x->∃y,b[j]?=some y/\R x y:=by induction p with|nil=>exact λh=>nomatch h| cons d _ c=>intro j x e;cases j with|zero=>cases e;exact⟨_,J,d⟩|succ j=>exact c e
inductive fG(v d:lv)(h:O7):Prop|mk:h.IsValuesView v d->fG v d h
theorem fG.ok{h:O7}{v d:Y}(x:fG v d h):qv P w H h v (.ext (fG v d)):=by refine⟨x,?_,λc b y k=>?_⟩;obtain⟨o,a,_⟩:=x;exact⟨o,a⟩;obtain⟨o,a,r⟩:=y;exact⟨o,k o a,r⟩
section
variable{κ:Type}[DecidableEq κ]{τ:aN κ}
inductive jC(τ:aN κ)(P:R0)(w:SX)(Q:VK)(x:V)(H1:Hp):Prop|mk:∀d kvs,x=.ref d->aM τ P w H1 d kvs->(∀v H2,zh H1 H2->H1 v=none->H2 v=some (.ext (fG v d))->Q (.ref v) H2)->jC τ P w Q x H1
def Fe(τ:aN κ)(P:R0)(w:SX)(td:TE):TE:=λσ H Q=>td σ H λx H1=>jC τ P w Q x H1
inductive jW(τ:aN κ)(P:R0)(w:SX)(as:List V)(H:Hp)(Q:VK):Prop|mk:∀v d kvs,as=[.ref v]->H v=some (.ext (fG v d))->aM τ P w H d kvs->(∀l H',zh H H'->H l=none->H' l=some (.lst (kvs.map (·.2)))->Q (.ref l) H')->jW τ P w as H Q
variable{o:OP}{apos cpos:Pos}{td:TE}
theorem IT(A:PE X o td)(c:attributeBase o "values" X.env (Tj o X.env)=Tj o X.env:=by rfl)(b:(apos.endLine==cpos.line)=true:=by rfl):PE X (.Call (.Attribute o "values" apos) [] [] cpos) (Fe τ X.prog X.w td):=by
 intro f s t H Q I h;refine T5 c b (aH (A f s t H _ I h) λu j ⟨x,L,k,w,d,y,C,n,q⟩=>?_);subst C;obtain rfl:u=Sw d:=w;obtain⟨B,F,v,z,⟨l,D,E,p,i,g,G,_,_⟩⟩:=n.dict k.hok;have r:qj j.heap d D E:=⟨l,p,i,g⟩
 refine⟨"dict","dict.values",PySem.F.plainAttrs_dict,PySem.F.slot_dict_values,PySem.F.type_dict_values,r.ty,λa e=>?_,I8 J (PySem.evalArgs_none (Id B r ?_))⟩;cases e;exact⟨l,p,i.2.1⟩;have m:=k.hok.fresh (au j.heap.objs.size);exact⟨.ref j.heap.objs.size,_,k.laid (λ_ _ q=>be _ q) (au _) (fG.ok ⟨_,cb _ J,J,J⟩),J,q _ _ (zh.new m _) m zd⟩
theorem Mw(P:X.calm=true):j6 X (.type "list") (jW τ X.prog X.w):=by
 intro A s W H as us Q I r h;obtain⟨v,d,b,rfl,G,n,q⟩:=h;obtain⟨u,rfl,E⟩:=Zg r;cases(E);obtain⟨hd,Z,g,z,⟨o,es,ep,L,t,i,C,_,_⟩⟩:=n.dict I.hok;have N:=TN C;obtain⟨⟨f⟩,_⟩:=(I.hok v _ G)
 refine kdl_call (Fy) (I.ok.hd P) ⟨f,⟨o,L,t,i⟩⟩ (by omega) λh' tk a U hk R c=>?_;have M:=Paired.length g;have p:yi (b.map (·.2)) a.toList:=W8 (by have l:=c.1;have D:a.toList.length=a.size:=nG;rw[ag];omega) λj x y k S=>by obtain⟨en,l,D⟩:=c.2 j y (nv▸S);rw[Ti C j]at l;rw[bq]at k;cases w:b[j]? with|none=>rw[w]at k;cases k| some kv=>rw[w]at k;cases k;obtain⟨x',m,_,_,F⟩:=ER g w;rw[m]at l;cases l;rw[D];exact F
 have B:=I.hok.fresh (au s.heap.objs.size);exact⟨.ref s.heap.objs.size,_,I.laid (o:=.lst (b.map (·.2))) hk (au _) ⟨by rw[ag];omega,a.toList,U,p,by simpa using R⟩,J,q _ _ (zh.new B (.lst (b.map (·.2)))) B zd⟩
end
section
variable{tg:OP}
end
section
variable{d:lv}{o:Obj}{kvs:List (List aJ×V)}{g:TG}{tc:TT}{te:TE}{k:Nat}{σ:St}{Q:VK}
end
end L2
namespace L2
open PySem PySem.Spec PyProof.Rows
variable{a b it:lv}{A:mf}{its:Array Sr}{X:Cx}{e:OP}{OK:O7->Prop}{H:Hp}{cK es:List OP}{cap:List Nat}{xs zs:List V}{i:Nat}{Q:Option Sr->Sh->Prop}{aE:Pos}{P prog:R0}{s:Sh}{σ:St}{te:TE}{g:TG}{tc:TT}{bU v:Sr}{E:Sr->Sh->Prop}{w:SX}
section
theorem MC{e t:Y}(he:Ps s.heap e it i bU)(c:s.heap.IsListIter it t i)(j:s.heap.IsList t its)(f:its[i]?=some v)(a:e≠it)(k:∀g,IsEnumOut g e it ((i:Int)+1) v s.heap.objs.size->g.IsListIter it t (i+1)->g.get? s.heap.objs.size=some {cls:=.type "tuple",data:=.seq #[.int i s.toks,v]}->g.objs.size=s.heap.objs.size+1-> (∀b o,b≠e->b≠it->s.heap.get? b=some o->g.get? b=some o)->Q (some (.ref s.heap.objs.size)) {s with heap:=g,toks:=s.toks+1}):TX (Tx prog w) A (TD (.ref e)) Q E s:=by
 have d:s.TypeIs (.ref e) "enumerate":=⟨_,he,J⟩
 exact a9 (Ua (Uc d PySem.F.slot_enumerate_next (dk PySem.F.slot_enumerate_next d PySem.F.entry_enumerate_next (enumerate_next_item he c j f a λg q p n m l=>aa (k g q p n m l)) (PySem.F.args_enumerate_next_1 _))))
theorem LX{e t:Y}(l:A.handled=none)(he:Ps s.heap e it i bU)(a:s.heap.IsListIter it t i)(f:s.heap.IsList t its)(d:its[i]?=none)(k:∀g,Pa it s.heap g->Q none {s with heap:=g}):TX (Tx prog w) A (TD (.ref e)) Q E s:=by
 have b:s.TypeIs (.ref e) "enumerate":=⟨_,he,J⟩
 refine a9 (Ua (Uc b PySem.F.slot_enumerate_next (dk PySem.F.slot_enumerate_next b PySem.F.entry_enumerate_next ?_ (PySem.F.args_enumerate_next_1 _))));show TX _ _ (field (.ref e) 2>>=_) _ _ _;exact a9 (Ui he J J (a9 (UA l a f d λg x c ⟨o,j,m⟩=>(a9 (fz ⟨o,j,m⟩ Tk (aa (k _ c)))))))
end
def uj(a:lv):It:=⟨λi H=>∃xs x,H a=some (.lst xs)/\xs[i]?=some x,λi H x H'=>∃p y,x=.ref p/\H p=none/\H'=ji H p (.tup [.int i,y])/\∀xs,H a=some (.lst xs)->xs[i]?=some y,λi H=>∃xs,H a=some (.lst xs)/\xs.length<=i⟩
theorem Nh{K:O4}{k1}(a e j:Y)(G:e≠j)(l:TL≥2):cY P w K (.Tuple cK k1 aE) (uj a) [e,j] e (λi h=>(∃bU,Ps h e j i bU)/\h.IsListIter j a i) where
 mem:=by simp
 obj:=λi h st b l=>by
  obtain⟨⟨bU,A⟩,D⟩:=st;rcases bc.mp l with z|z
  simp_all
  have z:b=j:=by simp_all
  rw[z];obtain⟨o,F,c,d⟩:=D
  simp_all
 keep:=λi h h' st k=>by obtain⟨⟨bU,A⟩,o,F,r⟩:=st;exact⟨⟨bU,k e (by simp) _ A⟩,o,k j (by simp) o F,r⟩
 item:=by
  intro X hP Z hK hc i B s σ H E I hf st hg;subst hP Z hK;obtain⟨xs,x,N,hx⟩:=hg;obtain⟨U,R,p,hz⟩:=I.list (.inl (.inl N));obtain⟨u,hu,ru⟩:=R.get hx;obtain⟨⟨bU,A⟩,D⟩:=st;obtain⟨f0,f1,f2,f3,f4,f5⟩:=hf e (by simp);obtain⟨g0,g1,g2,g3,g4,g5⟩:=hf j (by simp);refine MC A D p.isList (by simpa using hu) G λg ho aj hT aq hk=>⟨.ref s.heap.objs.size,J,Uu ho λg' av C=>?_⟩
  have L:=fc (bf A);have ak:s.heap.objs.size≠j:=by obtain⟨o,F,_⟩:=D;exact fc (bf F)
  have y:=λb o M S z=>(C.2 b M).trans (hk b o M S z);have ap:=(C.2 _ L).trans hT;have f:=I.hok.fresh (au _);have I1:Inv X B σ (ji H s.heap.objs.size (.tup [.int i,x])) {s with heap:=g',toks:=s.toks+1}:=by
   refine I.step (ch:=[e,j]) (λb l=>?_) (λb o M S t z _=>y b o (λq=>t (by grind)) (λq=>t (by grind)) z)
    (λb o M S t z _=>⟨o.slots,y b o (λq=>t (by grind)) (λq=>t (by grind)) z⟩) (λb o t z n=>?_) (λb o t z=>⟨o,y b o (λq=>t (by grind)) (λq=>t (by grind)) z⟩)
    (λb Q z=>(ja (zi z f)▸z)) (λb o Q z=>(ja (zi z f)▸z)) (λb ps z=>⟨#[],by rw[ja (zi z f),z];simp⟩) (λm hm=>?_) (λb ob z=>?_) I.bare
   grind
   rw[ja (br (bf z))];exact n;obtain⟨o,es,ep,ah,r⟩:=hm;exact⟨o,es,ep,y _ o (ae f1) (ae g1) ah,r⟩;by_cases l:b=s.heap.objs.size;subst l;rw[zd]at z;cases z;exact⟨by omega,[.int i s.toks,u],.cons ⟨_,J⟩ (.cons ru .nil),⟨_,ap,J,_,J⟩,λq N=>by simp_all⟩
   rw[ja l]at z;refine(I.hok b ob z).stay (λc v hc q=>?_) (λc q=>(ja (zi q f)▸q)) λc Q q=>(ja (zi q f)▸q)
   grind
  refine⟨.ref s.heap.objs.size,_,I1,J,⟨_,x,J,f,J,λQ hy=>by simp_all⟩,⟨⟨u,by grind⟩,?_⟩,λb l=>?_⟩;obtain⟨o,F,r⟩:=aj;exact⟨o,(C.2 j (ae G)).trans F,r⟩;rcases bc.mp l with q|q;rw[q,ja (ae L)];omega;have q:b=j:=by simp_all
  rw[q,ja (ae ak)];omega
 done:=by intro X hP Z hK hc i B s σ H E I hf st hg;subst hP Z hK;obtain⟨xs,N,hx⟩:=hg;obtain⟨U,R,p,hz⟩:=I.list (.inl (.inl N));obtain⟨⟨bU,A⟩,D⟩:=st;obtain⟨g0,g1,g2,g3,g4,g5⟩:=hf j (by simp);have hl:=R.length;exact LX (I.ok.hd hc) A D p.isList (by simp_all) λg eb=>⟨J,I.turned (λb o l z=>eb b o l z) g0 g1 g3 g4 g5⟩
 self:=λ_ _ _ _ _ st h=>by obtain⟨⟨bU,A⟩,_⟩:=st;exact UG A h
section
inductive gR(R:It->Hp->Prop)(vs:List V)(H1:Hp):Prop|mk:∀a xs,vs=[.ref a]->H1 a=some (.lst xs)->R (uj a) H1->gR R vs H1
def Fz(ta:TA):TI:=λσ H R=>ta σ H λvs H1=>gR R vs H1
theorem KF{o}{E:Pos}{a:OP}{ta:TA}{p:Pos}(B:Gl X "enumerate")(y:X.mg "enumerate"=none)(D:PA X [a] ta)(w:TQ [a] X.env=[(false,Tj a X.env)]:=by rfl):PI X (.Tuple cK o E) (.Call (.Name "enumerate" p) [a] [] aE) (Fz ta):=by
 intro f s j H R I h;refine Call_ (Zs I B y boot_enumerate (R7 (aH (D aE f s j H _ I h) λM c ⟨L,F,d,l,m⟩=>?_) w J));obtain⟨t,G,e,x,q⟩:=m;subst e;obtain⟨u,rfl,k⟩:=Zg l;cases k;obtain⟨r,N,n,P⟩:=d.list (.inl (.inl x));refine call_enumerate_list n.isList λg i A v hk=>(UG i ⟨c.heap.objs.size+1,[c.heap.objs.size+1,c.heap.objs.size],_,_,F,J,d.kept hk,Nh t (c.heap.objs.size+1) c.heap.objs.size (Nat.succ_ne_self _) (by rw[TM];omega),⟨⟨_,i⟩,A⟩,λb C=>?_,q⟩)
 rcases bc.mp C with z|z;rw[z];exact d.fpOk (Ry _) (d.hok.fresh (Ry _));have z:b=c.heap.objs.size:=by simp_all
 rw[z];exact d.fpOk (au _) (d.hok.fresh (au _))
end
section
variable{k:Nat}{Q:VK}
theorem JK(Pv:Nat->O V->Hp->Prop)(s:Pv 0 [] H)(hl:∀i ys H,i<=xs.length->Pv i ys H->H a=some (.lst xs)/\ys.length<=TL)(z:∀i x ys H p,xs[i]?=some x->Pv i ys H->H p=none->g (.ref p) (bQ k cap σ) (ji H p (.tup [.int i,x])) λc H2=>tc c H2 λb l=>if b=true then te c l λy t=>Pv (i+1) (ys++[y]) t else Pv (i+1) ys l)
  (r:∀ys H,Pv xs.length ys H->∀p,H p=none->Q (.ref p) (ji H p (.lst ys))):bV (uj a) g tc te k cap σ H Q:=by
 refine⟨λi m ys H=>m=xs.length-i/\i<=xs.length/\Pv i ys H,⟨xs.length,by simp,c9 _,s⟩,?_⟩;rintro i m ys H ⟨rfl,o,p⟩;obtain⟨q,j⟩:=hl i ys H o p;by_cases d:i<xs.length;refine .inr ⟨⟨xs,xs[i],q,by simp⟩,j,Pv (i+1),λn u f=>⟨xs.length-(i+1),by omega,J,d,f⟩,λx u y=>?_⟩;obtain⟨f,v,rfl,A,rfl,w⟩:=y
 simp_all
 have e:i=xs.length:=by omega
 subst e;exact .inl ⟨⟨xs,q,au _⟩,j,r ys H p⟩
end
section
variable{K:O4}{k:Nat}{Q:VK}
end
section
theorem X8{t:Y}(a:s.heap.IsListIter it t i)(c:s.heap.IsList t its)(b:its[i]?=some v)(k:∀g,g.IsListIter it t (i+1)->Pc it s.heap g->Q (some v) {s with heap:=g}):TX (Tx prog w) A (vr (.ref it)) Q E s:=(a9 (Ua (UB a c b λg f d=>aa (k g f d))))
theorem Yr{t:Y}(j:A.handled=none)(a:s.heap.IsListIter it t i)(d:s.heap.IsList t its)(c:its[i]?=none)(k:∀g,Pa it s.heap g->Q none {s with heap:=g}):TX (Tx prog w) A (vr (.ref it)) Q E s:=(a9 (Ua (UA j a d c λg x b ⟨o,f,l⟩=>(a9 (fz ⟨o,f,l⟩ Tk (aa (k _ b)))))))
end
theorem Q3{h:O7}(b:bR P w H h)(e:H a=some (.lst xs)):∃its:O I,yi xs its/\h.IsList a its.toArray:=by
 obtain⟨_,its,n,r,t⟩:=(b a _ e)
 exact⟨its,r,_,t,J,n,J⟩
section
end
section
end
section
variable{k:Nat}{Q:VK}
end
section
end
abbrev TJ:=Str->TE
section
variable{e1 e2:OP}{t:TJ}
end
section
variable{j k:Nat}{p0 p1 p2:Pos}
end
section
end
section
end
section
variable{K:O4}{k:Nat}{Q:VK}
end
section
variable{o f:OP}{apos cpos:Pos}{td ty tx:TE}
end
section
variable{T:String}{r d:lv}{n:Nat}{P:Nat->Sr->Prop}
theorem FK{R:List Sr->Sh->Prop}(S:W.KdlSrc prog w T r d n P OK)(G:A.handled=none)(k:OK s.heap)(F:n<=TL)(h:∀(h':O7)(g:Nat)(l:List Sr),(∀b o,s.heap.get? b=some o->h'.get? b=some o)->s.heap.objs.size<h'.objs.size->l.length=n->(∀(j:Nat)(v:Sr),l[j]?=some v->P j v)->R l {s with heap:=h',toks:=g}):
  TX (Tx prog w) A (collect (.ref r)) R E s:=by
 obtain⟨D,C⟩:=S.there _ k;have u:∀(h':O7)(g:Nat)(a:Array Sr)(c:Nat),(∀b o,b≠s.heap.objs.size->(s.heap.push {cls:=.type "list",data:=.seq [].toArray}).get? b=some o->h'.get? b=some o)->h'.get? s.heap.objs.size=some {cls:=.type "list",dict:=none,data:=.seq a c,slots:=#[]}->ItemsOf P a n->R a.toList {s with heap:=h',toks:=g}:=λh' g a c hk i p=>h h' g a.toList (λb o e=>hk b o (br (bf e)) (be _ e)) (bf i) (nG▸p.1) λj v e=>p.2 j v (nv▸e)
 refine a9 (wpAny_runValue (Te entry_proto_collect' ?_));rw[mu PySem.F.plain_proto_collect _];refine a9 (fe (aa ⟨TC PySem.F.plain_list_iadd _,Te entry_list_iadd' ?_⟩));rw[mu PySem.F.plain_list_iadd _];refine fq (W.kdl_extend (R:=λq m=>q=.ok (.ret (.ref s.heap.objs.size))/\∃(h':O7)(g:Nat)(a:Array Sr)(c:Nat),m={s with heap:=h',toks:=g}/\h'.get? s.heap.objs.size=some {cls:=.type "list",dict:=none,data:=.seq a c,slots:=#[]}/\R a.toList m)
  S G (S.keep _ (s.heap.push {cls:=.type "list",data:=.seq [].toArray}) k λb _ o e=>be _ e) s.heap.objs.size (fc D) (fc C) (.ref s.heap.objs.size) 0 (cb _ J) (λh' g a c hk i p=>⟨J,h',g,a,c,J,i,u h' g a c hk i p⟩) F) (λf m x=>?_) λe m x=>?_
 cases f with| done f=>obtain⟨e,h',g,a,c,rfl,i,t⟩:=x;cases e;exact a9 (Uw i (aa t))| again B=>refine⟨x.1,Tg x.2 λq z y=>?_⟩;obtain⟨rfl,h',g,a,c,rfl,i,t⟩:=y;exact a9 (Uw i (aa t))
 exact nomatch x.1
end
section
end
end L2
namespace L2
open PySem PySem.Spec PyProof.Rows PySem.W
variable{A:mf}{X:Cx}{H:Hp}{gs:List (List Int)}{its:List Sr}{R:Sb->Sh->Prop}
def xP(gs:List (List Int))(i j:Nat):Bool:=qS (decide ((gs.getD i []).length<(gs.getD j []).length)) (gs.getD i []) (gs.getD j [])
def lD(gs:List (List Int)):List Nat:=if gs.length<2 then Ri gs.length else(yg (xP gs) (Tr gs.length)).toList
def qU(gs:List (List Int)):List (List Int):=(lD gs).map λi=>gs.getD i []
theorem Qa(gs:O (O Int)):(lD gs).Perm (Ri gs.length):=by unfold lD;split;exact List.Perm.refl _;exact(wW (by omega)).2
theorem Lu(gs:O (O Int)):(qU gs).Perm gs:=((Qa gs).map _).trans (.of_eq (Z6 gs []))
theorem ID(e:its.length=gs.length):Zz (xP gs) its=(lD gs).map λi=>its.getD i Sv:=by unfold Zz lD;rw[e];split;rw[<-e];exact(Z6 its Sv).symm;rfl
theorem Gg{xs:O V}(d:IsL H (gs.map tI) xs)(f:yi xs its)(hl:xs.length=gs.length):∃b,yi b ((lD gs).map λi=>its.getD i Sv)/\IsL H ((qU gs).map tI) b/\b.length=gs.length:=by
 have g:=f.length;have a:∀i∈lD gs,i<gs.length:=λi h=>cr.mp ((Qa gs).mem_iff.mp h);have c:=Bi d (dt:=T.non) (dx:=V.non) (lD gs) λi h=>by have:=a i h;omega
 have j:((lD gs).map λi=>(gs.map tI).getD i T.non)=(qU gs).map tI:=by unfold qU;rw[ck];refine QT λi d=>?_;have:=a i d;show(gs.map tI).getD i T.non=tI (gs.getD i []);rw[fj,fj,bq,cg this];rfl
 rw[j]at c;exact⟨_,MX (γ:=Unit) f (lD gs) λi h=>by have:=a i h;omega,c,by rw[ag,(Qa gs).length_eq,d9]⟩
section
inductive jU(as:List V)(H:Hp)(Q:VK):Prop|mk:∀(d:lv)(gs:List (List Int)),as=[.ref d]->rX H d gs->(∀g∈gs,g≠[])->gs.length<64->(∀(xs':List V)(l:lv),IsL H ((qU gs).map tI) xs'->H l=none->Q (.ref l) (ji H l (.lst xs')))->jU as H Q
theorem Mx(hc:X.calm=true):j6 X (.builtin "sorted") jU:=by
 intro F s σ H as us Q I r h;obtain⟨d,gs,rfl,⟨U,e,k⟩,y,aj,q⟩:=h;obtain⟨u,rfl,S⟩:=Zg r;cases(S);have L:=rX.len e k;obtain⟨z,hd,E,f,⟨o,es,ep,w,A,m,p,_,_⟩⟩:=uE I.hok e;have W:=Paired.length f;have ah:=TN p;refine Calls.call_function_entry kind_sorted plain_sorted entry_sorted (args_sorted1 _) (a9 (aa (a9 (FK (BJ hd) (I.ok.hd hc) ⟨o,w,A,m⟩ (by omega) λt tk l hk g Z hP=>(a9 (Uy ?_ (by omega)))))));have G:yi (E.map λx=>V.ref x.2.1) l:=W8 (by simp_all) λj x v D e2=>by obtain⟨en,C,B⟩:=hP j v e2;rw[Ti p j]at C;rw[bq]at D;cases e3:E[j]? with|none=>simp_all| some x'=>rw[e3]at D C;cases D;cases C;rw[B];rfl
 have M:=zD f k;have a:(t.push (seqObj "list" l.toArray 0)).get? t.objs.size=some (seqObj "list" l.toArray 0):=cb _ J;refine a9 (Uo (dk slot_list_sort ⟨_,a,J⟩ entry_list_sort (NK (lt:=xP gs) trivial a (by omega) (λB=>LN (hI I M G) y B) (λb o e=>?_) ⟨_,J,aa ⟨_,J,?_⟩⟩) (args_list_sort _)));have n:=hk b o e;exact⟨br (bf n),be _ n⟩;rw[ID (by rw[Z];omega)];obtain⟨c,R,P,N⟩:=Gg M G (by rw[ag];omega);obtain⟨e,p⟩:=sortedHeap_at a;refine⟨.ref t.objs.size,ji H t.objs.size (.lst c),I.laid (λb o w=>?_) (Rw g) (⟨(N▸je (by omega)),_,e,R,?_⟩),J,q c _ P (I.hok.fresh (Rw g))⟩;have n:=hk b o w;have i:=bf n;rw[sortedHeap_old (br i) (by rw[size_push'];exact RD i)];exact be _ n;simpa[seqObj]using p
end
section
variable{κ:Type}[DecidableEq κ]{τ:aN κ}
noncomputable def sY(xs rows:List (Yb κ)):List (Yb κ):=rows.foldl (λB r=>storedH B r.1 r.2.1 r.2.2) xs
theorem NB(xs:O (Yb κ))(k:κ)(a:Y)(v:I):(storedH xs k a v).length<=xs.length+1:=by unfold storedH;split;rw[ag];omega;rw[cq,ij];exact au _
section
variable{prog:R0}{w:SX}{h h':O7}
theorem dW.keep{x:cT aJ}{u:Sr}(d:dW (zt prog w) h x u)(k:pG h h'):dW (zt prog w) h' x u:=by cases x with| inl a=>obtain⟨c,e,o,b,n,g,f,r⟩:=d;exact⟨c,e,o,b,n,k _ _ f g,f,r⟩|inr a=>exact d
theorem bT.keep{ks:List (cT aJ)}{a:List Sr}(x:bT (zt prog w) h ks a)(k:pG h h'):bT (zt prog w) h' ks a:=by induction x with|nil=>exact .nil|cons c _ b=>exact .cons (c.keep k) b
theorem wV{ks:κ}{a:Y}(x:(jc (zt prog w) τ.S).is h ks a)(k:pG h h'):(jc (zt prog w) τ.S).is h' ks a:=by obtain⟨o,b,n,d,c,g,f⟩:=x;exact⟨o,b,n,k _ _ c d,c,g,f.keep k⟩
def su(τ:aN κ)(prog:R0)(w:SX)(h:O7)(v:Sr)(r:Yb κ):Prop:=∃b,v=.ref b/\h.IsTuple b #[.ref r.2.1,r.2.2]/\(jc (zt prog w) τ.S).is h r.1 r.2.1
theorem su.keep{v:I}{r:Yb κ}(p:su τ prog w h v r)(k:pG h h'):su τ prog w h' v r:=by obtain⟨b,e,⟨o,d,a,n,f⟩,c⟩:=p;exact⟨b,e,⟨o,k _ _ a d,a,n,f⟩,wV c k⟩
theorem Vv{d:Y}{xs:O (Yb κ)}(x:h.DictOfH (jc (zt prog w) τ.S) d xs)(kd:∀o,h.get? d=some o->h'.get? d=some o)(k:pG h h'):h'.DictOfH (jc (zt prog w) τ.S) d xs:=by obtain⟨o,l,m,g,j,c,i,b,a⟩:=x;exact⟨o,l,m,kd o g,j,c,i,λy f=>wV (b y f) k,a⟩
theorem Lq{d u t:lv}{l:Array Sr}{rows:List (Yb κ)}(hu:A.units+3<cLine)(hh:A.handled=none)(B:d≠u)(Z:t≠u)(X:t≠d)(hl:l.size=rows.length)(ah:rows.length<=TL):
  ∀ (k i:Nat) (s:Sh) (xs:List (Yb κ)),rows.length-i=k->i<=rows.length->xs.length<=i->s.heap.IsListIter u t i->s.heap.IsList t l->s.heap.DictOfH (jc (zt prog w) τ.S) d xs->
    (∀(j:Nat) v r,l[j]?=some v->rows[j]?=some r->su τ prog w s.heap v r)->
    (∀h' tk,h'.DictOfH (jc (zt prog w) τ.S) d (sY xs (rows.drop i))->(∀b o,b≠d->b≠u->s.heap.get? b=some o->h'.get? b=some o)->R (.ok (.ret .none)) {s with heap:=h',toks:=tk})->
    Td (Tx prog w) A (.builtin "dict.update.loop" ⟨[.ref d,.ref u,TF i,.none],[]⟩) R s:=by
 intro k;induction k with| zero=>
   intro i s xs hk hi hz n M P S hR;have e:i=rows.length:=by omega
   have tk:∀h',Pa u s.heap h'->pG s.heap h':=λh' L c o a z=>L c o (λy=>by obtain⟨oi,m,p,_⟩:=n;rw[y,m]at z;cases z;rw[p]at a;exact kS a (by decide)) z
   refine Te Z3 ?_;rw[mu vg _];refine a9 (UL (hh) n M (nu (by omega)) λh' L=>(a9 (aa (aa (hR h' s.toks ?_ λb o E C z=>L b o C z)))));rw[e,PU];exact Vv P (λo W=>L d o B W) (tk h' L)| succ k ih=>
   intro i s xs hk hi hz n M P S hR;have q:i<rows.length:=by omega
   have hx:l[i]?=some l[i]:=fw (by omega);have f:∀c o,o.cls=.type "tuple"->s.heap.get? c=some o->c≠u:=λc o a z y=>by obtain⟨oi,m,p,_⟩:=n;rw[y,m]at z;cases z;rw[p]at a;exact kS a (by decide)
   have D:∀c o,o.cls=.type "tuple"->s.heap.get? c=some o->c≠d:=λc o a z y=>by obtain⟨oi,es,ep,m,p,_⟩:=P;rw[y,m]at z;cases z;rw[p.1]at a;exact kS a (by decide)
   refine Te Z3 ?_;rw[mu vg _];refine a9 (UM n M hx λg G N=>?_);have kg:=λc o a z=>N.extBut c o (f c o a z) z;obtain⟨b,hb,H,F⟩:=(S i _ _ hx (cg q)).keep kg;rw[hb];refine a9 (Uo (a9 (UZ (a9 (VG (Pb H) ?_)))));rw[kP (by rfl)];obtain⟨ob,U,_,nb,ak⟩:=H;refine a9 (UR U ak (aa (Uo (Ug (Y3 hu) F (Vv P (λo W=>N.extBut d o B W) kg) (λg2 ap x=>(aa ⟨TC vg _,?_⟩)) (dq (Rw (gu hz q)) ah)))));have e1:TF (i+1)=TF (i+1):=by simp
   have keep:=λc o E C z=>x.extBut c o E (N.extBut c o C z);rw[e1];have lz:=NB xs rows[i].1 rows[i].2.1 rows[i].2.2;refine ih (i+1) _ _ (by omega) q (by omega) (G.extBut x.extBut (ae B)) (M.extBut N.extBut Z |>.extBut x.extBut X) ap (λj v r hv Q=>(S j v r hv Q).keep λc o a z=>keep c o (D c o a z) (f c o a z) z) λh' tk hD aj=>(hR h' tk ?_ λc o E C z=>aj c o E C (keep c o E C z))
   rw[(PR q)];exact hD
end
inductive fO(τ:aN κ)(H:Hp)(b:lv)(r:κ×V):Prop|mk:∀kb,H b=some (.tup [.ref kb,r.2])->Is H (τ.tr r.1) (.ref kb)->fO τ H b r
theorem fO.same{a:Hp}{b:Y}{r:κ×V}(p:fO τ H b r)(s:zh H a):fO τ a b r:=let⟨c,f,d⟩:=p;⟨c,s _ _ f,d.mono s⟩
def wg(rows:List (κ×V))(kvs:List (κ×V)):List (κ×V):=rows.foldl (λB r=>vw B r.1 r.2) kvs
inductive jZ(τ:aN κ)(P:R0)(w:SX)(as:List V)(H:Hp)(Q:VK):Prop|mk:∀(p:lv)(bs:List lv)(rows:List (κ×V)),as=[.ref p]->H p=some (.lst (bs.map V.ref))->Paired (fO τ H) bs rows->(∀d H',zh H H'->H d=none->aM τ P w H' d (wg rows [])->Q (.ref d) H')->jZ τ P w as H Q
theorem zV{X:Cx}{c:List (lv×Obj)}{k:St}{H:Hp}{s:Sh}(I:Inv X c k H s):∀{d:List lv}{rows:List (κ×V)},Paired (fO τ H) d rows->∃a:List (Yb κ),a.length=d.length/\KG τ H rows a/\
  ∀(j:Nat) b q,d[j]?=some b->a[j]?=some q->s.heap.IsTuple b #[.ref q.2.1,q.2.2]/\(jc (zt X.prog X.w) τ.S).is s.heap q.1 q.2.1
 |_,_,.nil=>⟨[],J,.nil,λj b q f=>by simp at f⟩
 | b ::d,r::rows,.cons h t=>by
   obtain⟨a,A,z,y⟩:=zV I t;obtain⟨v,f,hk⟩:=h;obtain⟨_,w,m,x,_⟩:=(I.hok b _ f)
   cases m with
   | @cons _ C _ _ u p=>
     cases p with
     | @cons _ l _ _ o n=>
       cases n;cases(u);refine⟨(r.1,v,l)::a,by simp[A],.cons ⟨J,hk,o⟩ z,λj B q i g=>?_⟩;cases j with
       | zero=>simp at i g;subst i g;exact⟨x,τ.of I.hok hk⟩
       |succ j=>exact y j B q (by simpa using i) (by simpa using g)
theorem B9{H:Hp}:∀{rows:List (κ×V)}{c:List (Yb κ)}{kvs:List (κ×V)}{xs:List (Yb κ)},KG τ H rows c->KG τ H kvs xs->KG τ H (wg rows kvs) (sY xs c)/\(wg rows kvs).length<=kvs.length+rows.length|_,_,kvs,_,.nil,r=>⟨r,au _⟩| r::rows,q::c,kvs,xs,.cons h t,d=>by obtain⟨f,i,g⟩:=h;obtain⟨a,b⟩:=B9 t (d.put r.1 i g);rw[f]at a;refine⟨by show KG τ H (wg rows (vw kvs r.1 r.2)) (sY (storedH xs q.1 q.2.1 q.2.2) c);rw[f];exact a,?_⟩;have:=xa kvs r.1 r.2;have b:(wg (r::rows) kvs).length<=(vw kvs r.1 r.2).length+rows.length:=b;rw[fg];omega
section
theorem Mr(hc:X.calm=true)(hu:X.A.units+8<cLine):j6 X (.type "dict") (jZ τ X.prog X.w):=by
 intro aq s σ H as us Q I r h;obtain⟨p,F,t,rfl,hp,ap,q⟩:=h;obtain⟨u,rfl,rx⟩:=Zg r;cases(rx);obtain⟨hz,f,n,rv,h1⟩:=(I.hok p _ hp)
 have hh:=I.ok.hd hc;obtain⟨R,ay,B,k⟩:=zV I ap;have aj:f.length=F.length:=by have:=rv.length;rw[ag]at this;omega
 have ax:F.length<=TL:=by rw[ag]at hz;exact hz
 refine Ta (Q₁:=λw i=>w=.ref s.heap.objs.size/\i={s with heap:=s.heap.push {cls:=.type "dict",data:=.dict #[]}}) PySem.F.kt_called_dict (PySem.F.kt_typeCall_dict_1 _) PySem.F.entry_dict_init (Tt _ ⟨J,J⟩) ?_;rintro w i ⟨rfl,rfl⟩;have d:(s.heap.push {cls:=.type "dict",data:=.dict #[]}).DictOfH (jc (zt X.prog X.w) τ.S) s.heap.objs.size []:=Heap.DictOfH.new s.heap;have E:=d.typeIs (s:={s with heap:=s.heap.push {cls:=.type "dict",data:=.dict #[]}});have l:(s.heap.push {cls:=.type "dict",data:=.dict #[]}).get? p=some {cls:=.type "list",dict:=none,data:=.seq f.toArray n,slots:=#[]}:=be _ h1;have D:=bf h1;refine⟨E,PySem.F.args_dict_init_2 _ _,(a9 (a9 (UC E (aa ?_))))⟩;show TX _ _ (re "dict.__init__" s.heap.objs.size (.ref p) [] .none) _ _ _;refine a9 (VG ⟨_,l,J⟩ ?_);rw[kP (by decide)];refine a9 (K9 (s:={s with heap:=s.heap.push {cls:=.type "dict",data:=.dict #[]}}) l hh λg tk hk=>(a9 (UQ ?_)));have A:g.IsList p f.toArray:=⟨_,hk _ _ l,J,n,J⟩
 refine a9 (UH A (aa ⟨TC vg _,?_⟩));have m:s.heap.objs.size+1<=g.objs.size:=by obtain⟨o,G,L,C,_⟩:=d;exact bf (hk _ _ C)
 have ak:(g.push {cls:=.type "list_iterator",data:=.fields #[.ref p,.int 0 0]}).DictOfH (jc (zt X.prog X.w) τ.S) s.heap.objs.size []:=by obtain⟨o,G,L,C,a1,a2,N,_,M⟩:=d;exact⟨o,G,L,be _ (hk _ _ C),a1,a2,N,(λx hx=>by cases hx),M⟩
 have P:∀b o,s.heap.get? b=some o->(g.push {cls:=.type "list_iterator",data:=.fields #[.ref p,.int 0 0]}).get? b=some o:=λb o e=>be _ (hk _ _ (be _ e));refine Lq (A:=X.A.in1) (rows:=R) (by have:X.A.in1.units=X.A.units+1:=rfl;omega) hh (br (RB m)) (br (RE D (RB m))) (br D) (by rw[dy];omega) (by omega) R.length 0 _ [] (by omega) (c9 _) (au _)
  ⟨_,cb _ J,J,J⟩ (A.push _) ak (λj v r y hr=>?_) λh' aw hD hK=>?_
 have y:f[j]?=some v:=by simpa using y
 have hj:j<F.length:=by have:=(d7.mp y).1;omega
 obtain⟨u,W,ru⟩:=rv.get (by rw[bq,cg hj];rfl);rw[W]at y;cases y;cases(ru);obtain⟨⟨ob,Z,rr⟩,ah⟩:=k j F[j] r (cg hj) hr;exact⟨F[j],J,⟨ob,P _ _ Z,rr⟩,wV ah λc o _ e=>P c o e⟩;refine⟨J,?_⟩;obtain⟨S,av⟩:=B9 B .nil;have az:=Paired.length B;have a:=I.hok.fresh (au s.heap.objs.size);obtain⟨o,G,L,C,a1,a2,N,_,M⟩:=hD;rw[PV]at N M;have sm:=zh.new a (.ext (Qj τ X.prog X.w s.heap.objs.size (sY [] R)));have U:(wg t []).length<=TL:=by have:([]:O (κ×V)).length=0:=rfl;omega
 exact⟨.ref s.heap.objs.size,_,I.laid (λb o e=>hK b o (br (bf e)) (br (RE (bf e) (RB m))) (P b o e)) (au _) (Qj.ok ⟨o,G,L,C,a1,a2,N⟩),J,q _ _ sm a ⟨_,zd,(beq_eq_false_iff_ne.mpr (ae (br I.big))),U,M,fu S λ_ _ z=>⟨z.1,z.2.1.mono sm,z.2.2⟩⟩⟩
end
end
end L2
namespace L2
open PySem PySem.Spec PyProof.Rows
variable{S a i1 i2 l1 l2 lo t1 t2 z:lv}{A:mf}{a1 a2 xs ys:Array Sr}{X:Cx}{b:OP}{h h':O7}{H:Hp}{pins:List (lv×Obj)}{σ:List (Option V)}{cK:List OP}{cap:List Nat}{i k1:Nat}{oT:Obj}{Q:Option Sr->Sh->Prop}{aE:Pos}{P prog:R0}{R:Sb->Sh->Prop}{s:Sh}{ta:TA}{f1 x y:Sr}{E:Sr->Sh->Prop}{w:SX}
inductive fU(Q:VK)(a:lv)(y z:V)(H3:Hp):Prop|mk:∀kvs k,y=kV k->H3 a=some (.dK kvs)->kvs.length<TL->(∀v,yv kvs k=some v->Q v H3)->(yv kvs k=none->Q z (ji H3 a (.dK (vw kvs k z))))->fU Q a y z H3
inductive eK(ty tx:TE)(σ:St)(Q:VK)(x:V)(H1:Hp):Prop|mk:∀a,x=.ref a->qK H1 a->(ty σ H1 λy H2=>tx σ H2 λz H3=>fU Q a y z H3)->eK ty tx σ Q x H1
def Gz(td B F:TE):TE:=λσ H Q=>td σ H λx H1=>eK B F σ Q x H1
variable{o e f:OP}{apos cpos:Pos}{td ty tx:TE}
theorem KZ(ho:PE X o td)(he:PE X e ty)(hf:PE X f tx)(m:M2 X o "setdefault" apos e f cpos):PE X (.Call (.Attribute o "setdefault" apos) [e,f] [] cpos) (Gz td ty tx):=by
 intro b s n H Q I h;refine T2 m.base m.few m.line PySem.F.plainAttrs_dict PySem.F.slot_dict_setdefault PySem.F.type_dict_setdefault (aH (ho b s n H _ I h) λu L ⟨x,H1,C,N,a,ex,d,U⟩=>?_);subst ex;obtain rfl:u=Sw a:=N;obtain⟨F,E,_⟩:=sT C d;refine⟨F,E,?_⟩;rw[m.trees];refine I8 J (J3 (J4 (aH (he b L n H1 _ C U) λiv G ⟨y,H2,I2,M,S⟩=>J4 (aH (hf b G n H2 _ I2 S) λfv s3 ⟨z,H3,r,t,j,k,ey,A,hl,R,P⟩=>J5 ?_))))
 subst ey;obtain⟨z0,w,D,i,B⟩:=sL r.hok A;have g:=i.val k;refine Tc PySem.F.slot_dict_setdefault B.typeIs PySem.F.entry_dict_setdefault (PySem.F.args_dict_setdefault_3 _ _ _) (kt_meets_setdefault (zt X.prog X.w) a (Y8 M) w fv) ⟨D,B,(i.length▸z0),λv W=>?_,λhn h' l Z=>?_⟩;rw[W]at g;cases c:yv j k with|none=>rw[c]at g;exact g.elim|some p=>rw[c]at g;exact⟨p,H3,r.tok _,g,R p c⟩
 rw[hn]at g;cases c:yv j k with|some p=>rw[c]at g;exact g.elim| none=>exact⟨z,_,Ze r (A▸Sq) Z (let⟨q,_,_,hq,_⟩:=l;⟨q,hq⟩) (rc (by have:=xa j k z;omega) w (i.put k t) l),t,P c⟩
section
theorem Mc{G to j f:Y}{F D a b:I}(hz:Zt s.heap z G to .none)(ak:pK s.heap G j f)(a6:s.heap.get? to=some {cls:=.type "tuple",data:=.seq #[a,b]})
  (a8:s.heap.IsListIter j t1 i) (a7:s.heap.IsListIter f t2 i)
  (h1:s.heap.IsList t1 a1) (h2:s.heap.IsList t2 a2) (e1:a1[i]?=some F) (e2:a2[i]?=some D) (nd:[z,G,to,j,f].Nodup) (nt:t1 ∉ [z,to,j,f]/\t2 ∉ [z,to,j,f])
  (k:∀g,Zt g z G to (TF s.heap.objs.size)->pK g G j f->g.get? to=some {cls:=.type "tuple",data:=.seq #[F,D]}->g.IsListIter j t1 (i+1)->g.IsListIter f t2 (i+1)-> g.get? s.heap.objs.size=some {cls:=.type "tuple",data:=.seq #[F,D]}->g.objs.size=s.heap.objs.size+1->(∀c o,c≠z->c≠to->c≠j->c≠f->s.heap.get? c=some o->g.get? c=some o)->Q (some (.ref s.heap.objs.size)) {s with heap:=g}):
  TX (Tx prog w) A (TD (.ref z)) Q E s:=by
 have hT:s.TypeIs (.ref z) "zip":=⟨_,hz,J⟩
 simp at nd;simp at nt;obtain⟨⟨n1,n2,n3,n4⟩,⟨n5,n6,n7⟩,⟨n8,n9⟩,X⟩:=nd;obtain⟨⟨m1,m2,m3,m4⟩,m5,m6,m7,m8⟩:=nt;unfold TD;refine a9 (Ua (Uc (name:=Str.ofString "__next__") hT PySem.F.slot_zip_next (dk PySem.F.slot_zip_next hT PySem.F.entry_zip_next ?_ (PySem.F.args_zip_next_1 _))));obtain⟨hp,S,d,R,os⟩:=s;show TX _ _ (field (.ref z) 2>>=_) _ _ _;refine a9 (Ui hz J (x:=.bool true) J ?_);show TX _ _ (field (.ref z) 3>>=_) _ _ _;refine a9 (Ui hz J (x:=.ref G) J ?_);refine a9 (UR ak J ?_);dsimp only;refine a9 ?_;unfold we;refine a9 (Ui hz J (x:=.none) J (aa ?_));simp only[if_true];refine a9 (UQ (a9 (Ui hz J (x:=.ref to) J ?_)));dsimp only;refine a9 (UT hz (by simp) λP N l=>?_);replace l:Pc z hp P:=l;replace N:Zt P z G to .ellipsis:=N;refine a9 ?_;have az:P.IsListIter j t1 i:=a8.extBut l.extBut (ae n3);have aw:P.IsListIter f t2 i:=a7.extBut l.extBut (ae n4);have bd:P.IsList t1 a1:=h1.extBut l.extBut m1;have bb:P.IsList t2 a2:=h2.extBut l.extBut m5;rw[show([Sw j,Sw f]:O I).zipIdx=[(Sw j,0),(Sw f,1)]from rfl,QB];refine a9 (a9 (UE ?_));refine X8 az bd e1 λg2 ay n=>?_;replace n:Pc j P g2:=n;dsimp only;have L:=n.extBut _ _ n8 (l.extBut _ _ (ae n2) a6);refine a9 (UR (s:=⟨g2,S,d,R,os⟩) L J ?_);dsimp only;refine a9 (wpAny_updateSeq_pair (s:=⟨g2,S,d,R,os⟩) L λg3 aj m=>?_);replace m:Pc to g2 g3:=m;refine a9 (Ut (aa ?_));dsimp only;rw[QB];refine a9 (a9 (UE ?_));have av:g3.IsListIter f t2 i:=(aw.extBut n.extBut (ae X)).extBut m.extBut (ae n9);have ba:g3.IsList t2 a2:=(bb.extBut n.extBut m7).extBut m.extBut m6;refine X8 av ba e2 λg4 aq t=>?_;replace t:Pc f g3 g4:=t;dsimp only;have H:=t.extBut _ _ n9 aj;refine a9 (UR (s:=⟨g4,S,d,R,os⟩) H J ?_);dsimp only;refine a9 (wpAny_updateSeq_pair (s:=⟨g4,S,d,R,os⟩) H λv u p=>?_);replace p:Pc to g4 v:=p;replace u:v.get? to=some {cls:=.type "tuple",data:=.seq #[F,D]}:=u;refine a9 (Ut (aa ?_));dsimp only;rw[QC];refine aa ?_;dsimp only;refine a9 (UR (s:=⟨v,S,d,R,os⟩) u J ?_);dsimp only;refine a9 (Uz (s:=⟨v,S,d,R,os⟩) ?_);have a5:Zt v z G to .ellipsis:=p.extBut _ _ n2 (t.extBut _ _ n4 (m.extBut _ _ n2 (n.extBut _ _ n3 N)));have M:v.objs.size=hp.objs.size:=by rw[p.1,t.1,m.1,n.1,l.1]
 have y:=λc o q1 q2 q3 q4 e=>p.extBut c o q2 (t.extBut c o q4 (m.extBut c o q2 (n.extBut c o q3 (l.extBut c o q1 e))));have ax:v.IsListIter j t1 (i+1):=((ay.extBut m.extBut (ae n8)).extBut t.extBut X).extBut p.extBut (ae n8);have ap:v.IsListIter f t2 (i+1):=aq.extBut p.extBut (ae n9);have Z:z<hp.objs.size:=bf hz;dsimp only;rw[M];have ah:Zt (v.push {cls:=.type "tuple",data:=.seq [F,D].toArray}) z G to .ellipsis:=be _ a5;have aS:(v.push {cls:=.type "tuple",data:=.seq [F,D].toArray}).get? hp.objs.size=some {cls:=.type "tuple",data:=.seq #[F,D]}:=by rw[<-M];exact cb _ J
 have x:∀c o,v.get? c=some o->(v.push {cls:=.type "tuple",data:=.seq [F,D].toArray}).get? c=some o:=λc o e=>be _ e;have W:(v.push {cls:=.type "tuple",data:=.seq [F,D].toArray}).objs.size=hp.objs.size+1:=by rw[gm,M]
 generalize v.push {cls:=.type "tuple",data:=.seq [F,D].toArray}=g6 at ah aS x W⊢;refine a9 ?_;unfold Builtin.SmallTypes.ownedTupleHandOut;refine a9 (UT ah (by simp) λg7 a4 C=>?_);replace C:Pc z g6 g7:=C;refine UT a4 (by simp) λg8 a3 B=>?_;replace B:Pc z g7 g8:=B;have U:=λc o q e=>B.extBut c o q (C.extBut c o q (x c o e));refine aa ⟨_,J,aa (k g8 a3 ?_ (U _ _ (ae n2) u) ?_ ?_ ?_ ?_ λc o q1 q2 q3 q4 e=>U c o q1 (y c o q1 q2 q3 q4 e))⟩;exact U _ _ (ae n1) (y _ _ (ae n1) n5 n6 n7 ak);obtain⟨o,e,r⟩:=ax;exact⟨o,U _ _ (ae n3) e,r⟩;obtain⟨o,e,r⟩:=ap;exact⟨o,U _ _ (ae n4) e,r⟩;exact B.extBut _ _ (fc Z) (C.extBut _ _ (fc Z) aS);rw[B.1,C.1,W]
theorem Le{q to j f:Y}{a b:I}(t:A.handled=none)(hz:Zt s.heap z q to .none)(B:pK s.heap q j f)(X:s.heap.get? to=some {cls:=.type "tuple",data:=.seq #[a,b]})
  (F:s.heap.IsListIter j t1 i) (D:s.heap.IsListIter f t2 i)
  (h1:s.heap.IsList t1 a1) (Z:s.heap.IsList t2 a2) (e1:a1[i]?=none) (e2:a2[i]?=none) (L:[z,q,to,j,f].Nodup) (H:t1 ∉ [z,to,j,f]/\t2 ∉ [z,to,j,f])
  (k:∀g,(∀c o,c≠z->c≠j->c≠f->s.heap.get? c=some o->g.get? c=some o)->Q none {s with heap:=g}):
  TX (Tx prog w) A (TD (.ref z)) Q E s:=by
 have R:s.TypeIs (.ref z) "zip":=⟨_,hz,J⟩
 simp at L;simp at H;obtain⟨⟨n1,n2,N,M⟩,⟨n5,n6,n7⟩,⟨n8,n9⟩,x⟩:=L;obtain⟨⟨U,m2,m3,m4⟩,P,m6,S,m8⟩:=H;unfold TD;refine a9 (Ua (Uc R PySem.F.slot_zip_next (dk PySem.F.slot_zip_next R PySem.F.entry_zip_next ?_ (PySem.F.args_zip_next_1 _))));obtain⟨hp,gs,d,tk,os⟩:=s;show TX _ _ (field (.ref z) 2>>=_) _ _ _;refine a9 (Ui hz J J ?_);refine a9 (Ui hz J (x:=.ref q) J ?_);refine a9 (UR B J ?_);dsimp only;refine a9 ?_;refine a9 (Ui hz J (x:=.none) J (aa ?_));refine a9 (UQ (a9 (Ui hz J (x:=.ref to) J ?_)));dsimp only;refine a9 (UT hz (by simp) λg1 y l=>?_);refine a9 ?_;have p:=D.extBut l.extBut (ae M);have G:=Z.extBut l.extBut P;rw[show([Sw j,Sw f]:O I).zipIdx=[(Sw j,0),(Sw f,1)]from rfl,QB];refine a9 (a9 (UE ?_));refine Yr t (F.extBut l.extBut (ae N)) (h1.extBut l.extBut U) e1 λg2 m=>?_;dsimp only;refine a9 (UT (m _ _ N y) (by simp) λg3 W n=>?_);refine a9 ?_;show TX _ _ (forIn [(Sw f,1)] PUnit.unit _>>=_) _ _ _;refine a9 ?_;rw[QB];refine a9 ?_;dsimp only;refine a9 (Yr t ((p.extBut m (ae x)).extBut n.extBut (ae M)) ((G.extBut m S).extBut n.extBut P) e2 λg4 C=>?_);refine aa ?_;dsimp only;rw[QC];refine aa (a9 (UQ ?_));refine a9 ?_;refine a9 (fe ?_ (by size_fits));refine a9 (UD (a:=Sv) (by first|rfl|(rfl)) ?_);refine fe ?_ (by size_fits);refine a9 (Um ?_);first|rw[(t)]|rw[t]
 refine a9 (aa (UX ?_));exact a9 (fz (b:=true) ⟨_,cb _ J,J⟩ Tk (aa (k _ λc o r v u e=>be _ (be _ ((λc o r v u e=>C c o u (n.extBut c o r (m c o v (l.extBut c o r e)))) c o r v u e)))))
end
def uo(a b:lv):It:=⟨λi H=>∃xs ys x y,H a=some (.lst xs)/\H b=some (.lst ys)/\xs[i]?=some x/\ys[i]?=some y,λi H v H'=>∃p x y,v=.ref p/\H p=none/\H'=ji H p (.tup [x,y])/\(∀xs,H a=some (.lst xs)->xs[i]?=some x)/\∀ys,H b=some (.lst ys)->ys[i]?=some y,λi H=>∃xs ys,H a=some (.lst xs)/\H b=some (.lst ys)/\xs.length<=i/\ys.length<=i⟩
theorem Mb{K:O4}{k1}(a b z N to l j:Y)(Q:[z,N,to,l,j].Nodup)(hb:TL≥2):cY P w K (.Tuple cK k1 aE) (uo a b) [z,N,to,l,j] z (λi h=>Zt h z N to .none/\pK h N l j/\(∃u v,h.get? to=some {cls:=.type "tuple",data:=.seq #[u,v]})/\h.IsListIter l a i/\h.IsListIter j b i) where
 mem:=by simp
 obj:=λi h st c f=>by
  obtain⟨R,C,⟨u,v,B⟩,h1,h2⟩:=st;simp at f;rcases f with rfl|rfl|rfl|rfl|rfl;exact⟨_,R,λv q=>by cases q⟩
  exact⟨_,C,λv q=>by cases q⟩
  exact⟨_,B,λv q=>by cases q⟩
  obtain⟨o,e1,c,d⟩:=h1;exact⟨o,e1,λv q=>by rw[d]at q;cases q⟩;obtain⟨o,e1,c,d⟩:=h2;exact⟨o,e1,λv q=>by rw[d]at q;cases q⟩
 keep:=λi h h' st k=>by obtain⟨R,C,⟨u,v,B⟩,⟨o1,e1,r1⟩,o2,e2,r2⟩:=st;exact⟨k z (by simp) _ R,k N (by simp) _ C,⟨u,v,k to (by simp) _ B⟩,⟨o1,k l (by simp) o1 e1,r1⟩,o2,k j (by simp) o2 e2,r2⟩
 item:=by
  intro X hP hw hK f i Z s σ H E I hf st hg;subst hP hw hK;obtain⟨xs,ys,x,y,F,D,hx,hy⟩:=hg;obtain⟨ax,rv,p⟩:=Q3 I.hok F;obtain⟨aw,ah,q⟩:=Q3 I.hok D;obtain⟨u,hu,ru⟩:=rv.get hx;obtain⟨v,hv,av⟩:=ah.get hy;obtain⟨R,C,⟨u0,v0,B⟩,U,S⟩:=st;have ff:=λc f=>(hf c f).1;have ne:∀{c d:Y}{o:HO},H c=some o->d∈[z,N,to,l,j]->c≠d:=λ{c d o} e hd q=>by rw[q,ff d hd]at e;cases e
  refine Mc R C B U S p q (by simpa using hu) (by simpa using hv) Q ⟨λm=>?_,λm=>?_⟩ λg gz a3 aS a5 a4 gT a6 gk=>?_;simp at m;rcases m with m|m|m|m<;>exact ne F (by simp) m;simp at m;rcases m with m|m|m|m<;>exact ne D (by simp) m;refine⟨.ref s.heap.objs.size,J,LA gz λg' az L=>?_⟩;have G:=I.hok.fresh (au _);have ay:∀c∈[z,N,to,l,j],c<s.heap.objs.size:=λc f=>by simp at f;rcases f with rfl|rfl|rfl|rfl|rfl;exact bf R;exact bf C;exact bf B;obtain⟨o,e,_⟩:=U;exact bf e;obtain⟨o,e,_⟩:=S;exact bf e
  have ap:=λc f=>fc (ay c f);have t:∀c o,c ∉ [z,to,l,j]->s.heap.get? c=some o->g'.get? c=some o:=λc o n e=>by simp at n;exact L.extBut c o n.1 (gk c o n.1 n.2.1 n.2.2.1 n.2.2.2 e)
  have aq:=L.extBut _ _ (ap z (by simp)) gT;have A:∀c o,H c=some o->c ∉ [z,to,l,j]:=λc o e m=>ne e (show c∈[z,N,to,l,j] by simp at m⊢;rcases m with m|m|m|m<;>simp[m]) J
  have I1:Inv X Z σ (ji H s.heap.objs.size (.tup [x,y])) {s with heap:=g',toks:=s.toks}:=by
   refine I.step (λc f=>?_) (λc o n1 n2 M e _=>t c o M e)
    (λc o n1 n2 M e _=>⟨o.slots,t c o M e⟩) (λc o M e n=>?_) (λc o M e=>⟨o,t c o M e⟩)
    (λc zs e=>(ja (zi e G)▸e)) (λc o zs e=>(ja (zi e G)▸e)) (λc ps e=>⟨#[],by rw[ja (zi e G),e];simp⟩) (λm hm=>?_) (λc ob e=>?_) I.bare
   obtain⟨f0,f1,f2,f3,f4,f5⟩:=hf c (by simp at f⊢;rcases f with f|f|f|f<;>simp[f])
   exact⟨f3,f1,f4,f5⟩;rw[ja (br (bf e))];exact n;obtain⟨o,es,ep,aj,r⟩:=hm;refine⟨o,es,ep,t _ o (λm=>?_) aj,r⟩;simp at m;rcases m with m|m|m|m;exact(hf z (by simp)).2.1 m.symm;exact(hf to (by simp)).2.1 m.symm;exact(hf l (by simp)).2.1 m.symm;exact(hf j (by simp)).2.1 m.symm;by_cases ak:c=s.heap.objs.size;subst ak;rw[zd]at e;cases e;exact⟨by omega,[u,v],.cons ru (.cons av .nil),⟨_,aq,J,_,J⟩,λq hq=>by rw[aq]at hq;cases hq;rfl⟩
   rw[ja ak]at e;refine(I.hok c ob e).stay (λd o f q=>?_) (λd q=>(ja (zi q G)▸q)) λd zs q=>(ja (zi q G)▸q)
   rcases f with rfl|f;exact t d o (A d _ e) q;exact t d o (A d _ f) q
  refine⟨.ref s.heap.objs.size,_,I1,J,⟨_,x,y,J,G,J,λzs e=>by rw[F]at e;cases e;exact hx,λzs e=>by rw[D]at e;cases e;exact hy⟩,⟨az,L.extBut _ _ ?_ a3,⟨u,v,L.extBut _ _ ?_ aS⟩,a5.extBut L.extBut ?_,a4.extBut L.extBut ?_⟩,λc f=>?_⟩;simp at Q;exact ae Q.1.1;simp at Q;exact ae Q.1.2.1;simp at Q;exact ae Q.1.2.2.1;simp at Q;exact ae Q.1.2.2.2;rw[ja (ae (ap c f))];exact ff c f
 done:=by
  intro X hP hw hK f i Z s σ H E I hf st hg;subst hP hw hK;obtain⟨xs,ys,F,D,hx,hy⟩:=hg;obtain⟨ax,rv,p⟩:=Q3 I.hok F;obtain⟨aw,ah,q⟩:=Q3 I.hok D;obtain⟨R,C,⟨u0,v0,B⟩,U,S⟩:=st;have ne:∀{c d:Y}{o:HO},H c=some o->d∈[z,N,to,l,j]->c≠d:=λ{c d o} e hd q=>by rw[q,(λc f=>(hf c f).1) d hd]at e;cases e
  have l1:=rv.length;have l2:=ah.length;refine Le (I.ok.hd f) R C B U S p q (by simp;omega) (by simp;omega) Q ⟨λm=>?_,λm=>?_⟩ λg gk=>⟨J,?_⟩
  simp at m;rcases m with m|m|m|m<;>exact ne F (by simp) m;simp at m;rcases m with m|m|m|m<;>exact ne D (by simp) m;have t:∀c o,c ∉ [z,l,j]->s.heap.get? c=some o->g.get? c=some o:=λc o n e=>by simp at n;exact gk c o n.1 n.2.1 n.2.2 e
  have A:∀c o,H c=some o->c ∉ [z,l,j]:=λc o e m=>ne e (show c∈[z,N,to,l,j] by simp at m⊢;rcases m with m|m|m<;>simp[m]) J
  refine I.step (λc f=>?_) (λc o n1 n2 M e _=>t c o M e)
   (λc o n1 n2 M e _=>⟨o.slots,t c o M e⟩) (λ_ _ _ _ n=>n) (λc o M e=>⟨o,t c o M e⟩)
   (λ_ _ e=>e) (λ_ _ _ e=>e) (λc ps e=>⟨#[],by rw[e];simp⟩) (λm hm=>?_) (λc ob e=>?_) I.bare
  obtain⟨f0,f1,f2,f3,f4,f5⟩:=hf c (by simp at f⊢;rcases f with f|f|f<;>simp[f])
  exact⟨f3,f1,f4,f5⟩;obtain⟨o,es,ep,aj,r⟩:=hm;refine⟨o,es,ep,t _ o (λm=>?_) aj,r⟩;simp at m;rcases m with m|m|m;exact(hf z (by simp)).2.1 m.symm;exact(hf l (by simp)).2.1 m.symm;exact(hf j (by simp)).2.1 m.symm;refine(I.hok c ob e).stay (λd o f q=>?_) (λd q=>q) λd zs q=>q;rcases f with rfl|f;exact t d o (A d _ e) q;exact t d o (A d _ f) q
 self:=λ_ _ _ _ _ st h=>by obtain⟨R,_⟩:=st;exact B6 R h
noncomputable def iQ(h:O7)(F B:lv):O7:=((((h.push {cls:=.type "list_iterator",data:=.fields #[.ref F,.int 0 0]}).push {cls:=.type "list_iterator",data:=.fields #[.ref B,.int 0 0]}).push {cls:=.type "tuple",data:=.seq #[.ref h.objs.size,.ref (h.objs.size+1)]}).push {cls:=.type "tuple",data:=.seq #[.none,.none]}).push {cls:=.type "zip",data:=.fields #[.none,.bool false,.bool true,.ref (h.objs.size+2),.ref (h.objs.size+3)]}
theorem GE(h:O7)(i d:Y):Zt (iQ h i d) (h.objs.size+4) (h.objs.size+2) (h.objs.size+3) .none/\pK (iQ h i d) (h.objs.size+2) h.objs.size (h.objs.size+1)/\(iQ h i d).get? (h.objs.size+3)=some {cls:=.type "tuple",data:=.seq #[.none,.none]}/\
  (iQ h i d).IsListIter h.objs.size i 0/\(iQ h i d).IsListIter (h.objs.size+1) d 0/\(iQ h i d).objs.size=h.objs.size+5/\∀c o,h.get? c=some o->(iQ h i d).get? c=some o:=by
 have b:∀(g:O7)(o:Obj)(n:Nat),g.objs.size=n->o.isFreed=false->(g.push o).get? n=some o:=λg o n e f=>(e▸cb _ f)
 have a:∀(g:O7)(o:Obj)(n:Nat),g.objs.size=n->(g.push o).objs.size=n+1:=λg o n e=>by rw[gm,e]
 refine⟨?_,?_,?_,?_,?_,?_,λc o e=>?_⟩;exact b _ _ _ (a _ _ _ (a _ _ _ (a _ _ _ (a _ _ _ J)))) J;exact be _ (be _ (b _ _ _ (a _ _ _ (a _ _ _ J)) J));exact be _ (b _ _ _ (a _ _ _ (a _ _ _ (a _ _ _ J))) J);exact⟨_,be _ (be _ (be _ (be _ (b _ _ _ J J)))),J,J⟩;exact⟨_,be _ (be _ (be _ (b _ _ _ (a _ _ _ J) J))),J,J⟩;exact a _ _ _ (a _ _ _ (a _ _ _ (a _ _ _ (a _ _ _ J))));exact be _ (be _ (be _ (be _ (be _ e))))
section
theorem JP(a b:Y)(r q:Array I)(n m:Nat)(x v:Option Y)(u t:Array (Option I)):Meets (Builtin.«zip.__new__» ⟨[.type "zip",.ref a,.ref b],[("strict",.bool true)]⟩) (λ_ R s=>s.heap.get? a=some {cls:=.type "list",dict:=x,data:=.seq r n,slots:=u}/\s.heap.get? b=some {cls:=.type "list",dict:=v,data:=.seq q m,slots:=t}/\ R (.ok (.ret (.ref (s.heap.objs.size+4)))) {s with heap:=iQ s.heap a b}):=
 .of_wp λl w A R s h=>by
  obtain⟨p,g,d,k,os⟩:=s;obtain⟨f,c,h⟩:=h;have o:=sub_zip;have j:Heap.IsList (Shared.heap ⟨p,g,d,k,os⟩) a r:=⟨_,f,J,n,J⟩
  have i:Heap.IsList (Shared.heap ⟨p.push {cls:=.type "list_iterator",data:=.fields #[.ref a,.int 0 0]},g,d,k,os⟩) b q:=⟨_,be _ c,J,m,J⟩
  wp_walk using UH j,UH i
  refine⟨_,J,?_⟩;simp at h⊢;exact h
theorem Mz{Q:Sr->Sh->Prop}(h1:s.heap.IsList t1 a1)(h2:s.heap.IsList t2 a2)(k:∀g,Zt g (s.heap.objs.size+4) (s.heap.objs.size+2) (s.heap.objs.size+3) .none->pK g (s.heap.objs.size+2) s.heap.objs.size (s.heap.objs.size+1)->g.get? (s.heap.objs.size+3)=some {cls:=.type "tuple",data:=.seq #[.none,.none]}-> g.IsListIter s.heap.objs.size t1 0->g.IsListIter (s.heap.objs.size+1) t2 0->g.objs.size=s.heap.objs.size+5->(∀c o,s.heap.get? c=some o->g.get? c=some o)->Q (.ref (s.heap.objs.size+4)) {s with heap:=g}):
  TX (Tx prog w) A (call (.type "zip") [.ref t1,.ref t2] [("strict",.bool true)]) Q E s:=by
 have f:=PySem.F.called_zip;obtain⟨c,tl,N⟩:=f.mro;have x:=f.made;have M:=f.sub;have X:checkTypeCall "zip" ⟨[.ref t1,.ref t2],[("strict",.bool true)]⟩=pure ():=by kernel_rfl
 have B:checkBuiltinCall "zip.__new__" ⟨[.type "zip",.ref t1,.ref t2],[("strict",.bool true)]⟩=pure ():=by kernel_rfl
 obtain⟨⟨c1,G,D,u⟩,z,n,L,l⟩:=h1;obtain⟨⟨c2,F,C,t⟩,y,m,H,j⟩:=h2;replace n:c1=.type "list":=n;replace m:c2=.type "list":=m;replace l:D=.seq a1 L:=l;replace j:C=.seq a2 H:=j;subst n m l j;refine Ub (codeAny_of_tree ?_);show TX _ _ (callAny (.type "zip") _) _ _ _;refine aa ⟨Code.quiet_builtin _ (by decide+kernel),Te PySem.F.entry_type_call ?_⟩;rw[Around.under_plain (weight_type_call_type "zip" _ _) (units_type_call_type "zip" _ _)];have S:=f.notType;have R:=f.canCreate
 repeat any_goals first|assumption|wp_step
 refine Tg (Tf f.plain PySem.F.entry_zip_new (UD B (JP t1 t2 a1 a2 L H G F u t prog w A.in1 (wants (λi d=>i=.ref (s.heap.objs.size+4)/\d={s with heap:=iQ s.heap t1 t2}) E) s ⟨z,y,⟨J,J⟩⟩))) λr d v=>?_;cases r with
 |error e=>exact v
 | ok fl =>
   cases fl with
   | ret i=>
     obtain⟨rfl,rfl⟩:=(show i=.ref (s.heap.objs.size+4)/\d={s with heap:=iQ s.heap t1 t2}from v)
     obtain⟨P,f2,f3,f4,f5,f6,f7⟩:=GE s.heap t1 t2;have W:=f.init.lookup;have Z:=f.init.bind (.ref (s.heap.objs.size+4))
     repeat any_goals first|assumption|wp_step
     refine Tg (Tf f.init.plain PySem.F.entry_object_init (f.init.check _ _ _ _ _ _ _ _ ⟨_,P,J⟩ (Es _ _ _) ?_)) (R:=wants (λr b=>r=.none/\b=⟨iQ s.heap t1 t2,s.gens,s.drawn,s.toks,s.os⟩) E) λq b a=>?_
     . have U:(some "zip.__new__" !=some "object.__new__")=true:=by decide
       repeat any_goals first|assumption|wp_step
       exact⟨J,J⟩
     cases q with
     |error e=>exact a
     | ok p=>
       cases p with
       | ret r=>
         obtain⟨rfl,rfl⟩:=(show r=.none/\b=_ from a)
         repeat any_goals first|assumption|wp_step
         exact k _ P f2 f3 f4 f5 f6 f7
       |_=>exact a.elim
   |_=>exact v.elim
end
section
inductive kF(R:It->Hp->Prop)(vs:List V)(H1:Hp):Prop|mk:∀a b xs ys,vs=[.ref a,.ref b]->H1 a=some (.lst xs)->H1 b=some (.lst ys)->R (uo a b) H1->kF R vs H1
def EM(ta:TA):TI:=λσ H R=>ta σ H λvs H1=>kF R vs H1
theorem Il{M L}{cM G F:Pos}{a:OP}{p:Pos}(hg:Gl X "zip")(hm:X.mg "zip"=none)(ha:PA X [a,b] ta)(Z:TQ [a,b] X.env=(false,Tj a X.env)::TQ [b] X.env:=by rfl)(j:((backTo aE (TQ [a,b] X.env)).any (·.1))=false:=by rfl):PI X (.Tuple cK M cM) (.Call (.Name "zip" p) [a,b] [⟨some "strict",.Constant (.bool true) L G,F⟩] aE) (EM ta):=by
 intro f s o H R I h;refine T1 (Zs I hg hm B2 (W.callWith_of (P:=λ_=>True) (by rw[j];rfl) (λh _=>⟨.machine,.inr (.inl J),?_⟩) ?_));exact λA Q E s _ q=>(aa q)
 have n:backTo aE (TQ [a,b] X.env)=(false,Tj a X.env)::backTo aE (TQ [b] X.env):=by rw[Z];rfl
 rw[n];refine evalArgs_kwB J ?_;rw[<-n];refine aH (ha aE f s o H _ I h) λus d ⟨vs,H1,i,z,B⟩=>?_;obtain⟨t,r,xs,ys,rfl,U,S,q⟩:=B;refine kws_cons (Constant_bool (kws_nil ⟨trivial,?_⟩));cases z with| cons y v=>
   cases v with| cons x w=>
     cases w;cases y;cases x;obtain⟨P,rv,D⟩:=Q3 i.hok U;obtain⟨N,u,C⟩:=Q3 i.hok S;refine Mz D C λg m f2 f3 f4 f5 f6 f7=>(B6 m ⟨d.heap.objs.size+4,[d.heap.objs.size+4,d.heap.objs.size+2,d.heap.objs.size+3,d.heap.objs.size,d.heap.objs.size+1],_,_,H1,J,i.kept f7,Mb t r _ _ _ _ _ (by simp) (by rw[TM];omega),⟨m,f2,⟨_,_,f3⟩,f4,f5⟩,λc l=>?_,q⟩)
     have k:d.heap.objs.size<=c:=by simp at l;rcases l with rfl|rfl|rfl|rfl|rfl<;>omega
     exact i.fpOk k (i.hok.fresh k)
end
section
variable{b:lv}{xs zs:List V}{g:TG}{tc:TT}{te:TE}{k:Nat}{σ:St}{Q:VK}
theorem Hq(F:xs.length=zs.length)(Pv:Nat->O V->Hp->Prop)(C:Pv 0 [] H)(hl:∀i ys H,i<=xs.length->Pv i ys H->H a=some (.lst xs)/\H b=some (.lst zs)/\ys.length<=TL)(w:∀i x z ys H p,xs[i]?=some x->zs[i]?=some z->Pv i ys H->H p=none->g (.ref p) (bQ k cap σ) (ji H p (.tup [x,z])) λc H2=>tc c H2 λb q=>if b=true then te c q λy D=>Pv (i+1) (ys++[y]) D else Pv (i+1) ys q)
  (B:∀ys H,Pv xs.length ys H->∀p,H p=none->Q (.ref p) (ji H p (.lst ys))):bV (uo a b) g tc te k cap σ H Q:=by
 refine⟨λi m ys H=>m=xs.length-i/\i<=xs.length/\Pv i ys H,⟨xs.length,by simp,c9 _,C⟩,?_⟩;rintro i m ys H ⟨rfl,A,p⟩;obtain⟨j,f,o⟩:=hl i ys H A p;by_cases d:i<xs.length;refine .inr ⟨⟨xs,zs,xs[i],zs[i],j,f,by simp[d],by simp[(by omega)]⟩,o,Pv (i+1),λr E l=>⟨xs.length-(i+1),by omega,J,d,l⟩,λx E y=>?_⟩;obtain⟨l,t,s,rfl,n,rfl,v,u⟩:=y;exact w i t s ys H l (v xs j) (u zs f) p n;have e:i=xs.length:=by omega
 subst e;exact .inl ⟨⟨xs,zs,j,f,au _,by omega⟩,o,B ys H p⟩
end
theorem iF{b:Y}(d:a<lo)(c:lo<=b):b≠a:=fc (dc d c)
abbrev Qu(h:O7)(z TI TO:lv)(F B:Sr):Prop:=h.get? z=some {cls:=.type "zip",dict:=none,data:=.fields #[F,B,.bool false,.ref TI,.ref TO],slots:=#[]}
section
theorem Kz{TI TO T:Y}{Q:Bool->Sh->Prop}(hz:Qu s.heap z TI TO (TF T) f1)(g:s.heap.get? T=some oT)(k:∀h' f,Qu h' z TI TO (TF T) f->Pc z s.heap h'->Q false {s with heap:=h'}):
  TX (Tx prog w) A (we (.ref z)) Q E s:=by refine a9 (Ui hz J J ?_);show TX _ _ (loadIfAlive ((T:Int).toNat)>>=_) _ _ _;rw[dm];refine a9 (W.kdx_alive g (a9 (Ui hz J (x:=f1) J ?_)));by_cases c:(f1 !=Ss true)=true;rw[kP c];exact a9 (UT hz (by simp) λd b a=>(aa (k d (.bool true) b a)));rw[kr c];exact aa (k s.heap f1 hz (Pd _ _))
theorem NZ{TI TO T:Y}{n:Nat}{Q:I->Sh->Prop}(D:SY z TI TO i1 i2 l1 l2)(hz:Qu s.heap z TI TO (TF T) f1) (M:s.heap.get? T=some oT) (r:Pu s.heap TI (.ref i1) (.ref i2))
  (R:s.heap.IsListIter i1 l1 k1) (P:s.heap.IsListIter i2 l2 n) (q:s.heap.IsList l1 xs) (p:s.heap.IsList l2 ys) (L:xs[k1]?=some x) (H:ys[n]?=some y)
  (N:∀h' l,Qu h' z TI TO (TF T) l->h'.IsListIter i1 l1 (k1+1)->h'.IsListIter i2 l2 (n+1)->Pu h' s.heap.objs.size x y->h'.objs.size=s.heap.objs.size+1-> (∀c o,c≠z->c≠i1->c≠i2->s.heap.get? c=some o->h'.get? c=some o)->Q (.ref s.heap.objs.size) {s with heap:=h'}):
  TX (Tx prog w) A (Builtin.«zip.__next__» ⟨[.ref z],[]⟩) (λt s'=>∃v,t=.done (.ret v)/\Q v s') E s:=by
 show TX _ _ (field (.ref z) 2>>=_) _ _ _;refine a9 (Ui hz J J (a9 (Ui hz J J (a9 (UR r J (a9 (Kz hz M λG l g a=>(a9 ?_))))))));rw[<-nh];refine a9 (a9 (Uo (a9 (UB (R.extBut a.extBut D.i1z) (q.extBut a.extBut D.l1z) L λF k b=>aa (aa (a9 (a9 (Uo (a9 (UB ((P.extBut a.extBut D.i2z).extBut b.extBut D.i12.symm) ((p.extBut a.extBut D.l2z).extBut b.extBut D.l2i1) H λf j d=>aa (aa ?_)))))))))));refine aa ?_;have i:f.objs.size=s.heap.objs.size:=by rw[d.1,b.1,a.1]
 refine a9 (Uz (hsz:=by show 2<=TL;decide) (aa ⟨_,J,?_⟩));rw[i];have m:∀c o,f.get? c=some o->(f.push {cls:=.type "tuple",data:=.seq #[x,y]}).get? c=some o:=λc o e=>be _ e;refine N _ l (m _ _ (d.extBut _ _ D.i2z.symm (b.extBut _ _ D.i1z.symm g))) ((k.extBut d.extBut D.i12).at λo e=>m _ o e) (j.at λo e=>m _ o e) ?_ ?_ λc o C B u e=>m c o ((λc o C B u e=>d.extBut _ _ u (b.extBut _ _ B (a.extBut _ _ C e))) c o C B u e);rw[<-i];exact cb _ J;rw[gm,i]
theorem NF{TI TO T:Y}{Q:Fin->Sh->Prop}(n:A.handled=none)(l:i1≠z)(k:l1≠z)(hz:Qu s.heap z TI TO (TF T) f1) (q:s.heap.get? T=some oT) (i:Pu s.heap TI (.ref i1) (.ref i2))
  (t:s.heap.IsListIter i1 l1 k1) (g:s.heap.IsList l1 xs) (m:xs[k1]?=none)
  (r:∀h' e,(∀c o,c≠z->c≠i1->s.heap.get? c=some o->h'.get? c=some o)->(∃o,h'.get? e=some o/\o.cls=.type "StopIteration")->E (.ref e) {s with heap:=h'}):
  TX (Tx prog w) A (Builtin.«zip.__next__» ⟨[.ref z],[]⟩) Q E s:=by show TX _ _ (field (.ref z) 2>>=_) _ _ _;refine a9 (Ui hz J J (a9 (Ui hz J J (a9 (UR i J (a9 (Kz hz q λj u f a=>(a9 ?_))))))));rw[<-nh];exact a9 (a9 (Uo (a9 (UA n (t.extBut a.extBut l) (g.extBut a.extBut k) m λd e b p=>(r d e (λc o y v x=>b _ _ v (a.extBut _ _ y x)) p)))))
structure lR(z TI TO i1 i2 l1 l2 lo:lv)(xs ys:Array Sr)(i:Nat)(h:O7):Prop where
 own:(IsZip h z TI TO .none/\∃a b,Pu h TO a b)\/∃(T:lv)(f1:Sr)(oT:Obj),Qu h z TI TO (TF T) f1/\h.get? T=some oT/\lo<=T
 pair:Pu h TI (.ref i1) (.ref i2)
 it1:h.IsListIter i1 l1 i
 it2:h.IsListIter i2 l2 i
 li1:h.IsList l1 xs
 li2:h.IsList l2 ys
variable{TI TO:lv}
theorem lR.at'(x:lR z TI TO i1 i2 l1 l2 lo xs ys i h)(hl:∀c∈[z,TI,TO,i1,i2,l1,l2],c<lo)(s:S<lo)(g:S ∉ [z,TI,TO,i1,i2,l1,l2])(k:∀b o,b≠S->h.get? b=some o->h'.get? b=some o):lR z TI TO i1 i2 l1 l2 lo xs ys i h':=by simp at g;obtain⟨f,r,q,p,n,m,l⟩:=g;refine⟨?_,k _ _ (ae r) x.pair,x.it1.at λo e=>k _ o (ae p) e,x.it2.at λo e=>k _ o (ae n) e,x.li1.at λo e=>k _ o (ae m) e,x.li2.at λo e=>k _ o (ae l) e⟩;rcases x.own with⟨a,b,c,d⟩|⟨T,t,j,a,b,c⟩;exact .inl ⟨k _ _ (ae f) a,b,c,k _ _ (ae q) d⟩;exact .inr ⟨T,t,j,k _ _ (ae f) a,k _ _ (iF s c) b,c⟩
theorem Li(D:SY z TI TO i1 i2 l1 l2)(hl:∀c∈[z,TI,TO,i1,i2,l1,l2],c<lo)(st:lR z TI TO i1 i2 l1 l2 lo xs ys i s.heap)(j:lo<=s.heap.objs.size)(r:xs[i]?=some x)(q:ys[i]?=some y)(u:∀h',lR z TI TO i1 i2 l1 l2 lo xs ys (i+1) h'->Pu h' s.heap.objs.size x y->h'.objs.size=s.heap.objs.size+1->(∀c o,c≠z->c≠TO->c≠i1->c≠i2->s.heap.get? c=some o->h'.get? c=some o)->Q (some (.ref s.heap.objs.size)) {s with heap:=h'}):
  TX (Tx prog w) A (TD (.ref z)) Q E s:=by
 simp at hl;obtain⟨L,S,R,H,G,P,N⟩:=hl;rcases st.own with⟨a,b,c,d⟩|⟨T,M,v,a,b,c⟩;exact wpAny_pyNext_zip_item D a st.pair d st.it1 st.it2 st.li1 st.li2 r q λh' p U n m g l f=>u h' ⟨.inr ⟨_,.bool false,_,p,g,j⟩,f _ _ D.TIz D.TITO D.TIi1 D.TIi2 st.pair,n,m,st.li1.at λo e=>f _ o D.l1z D.l1TO D.l1i1 D.l1i2 e,st.li2.at λo e=>f _ o D.l2z D.l2TO D.l2i1 D.l2i2 e⟩ g l f;have t:s.TypeIs (.ref z) "zip":=⟨_,a,J⟩
 refine a9 (Ua (Uc t PySem.F.slot_zip_next (dk PySem.F.slot_zip_next t PySem.F.entry_zip_next (NZ D a b st.pair st.it1 st.it2 st.li1 st.li2 r q λh' k p n m g l f=>aa (u h' ⟨.inr ⟨T,k,v,p,f _ _ (iF L c) (iF H c) (iF G c) b,c⟩,f _ _ D.TIz D.TIi1 D.TIi2 st.pair,n,m,st.li1.at λo e=>f _ o D.l1z D.l1i1 D.l1i2 e,st.li2.at λo e=>f _ o D.l2z D.l2i1 D.l2i2 e⟩ g l λc o F _ C B e=>f c o F C B e)) (PySem.F.args_zip_next_1 _))))
theorem Lh(g:A.handled=none)(D:SY z TI TO i1 i2 l1 l2)(st:lR z TI TO i1 i2 l1 l2 lo xs ys i s.heap)(f:xs[i]?=none)(k:∀h',(∀c o,c≠z->c≠TO->c≠i1->c≠i2->s.heap.get? c=some o->h'.get? c=some o)->Q none {s with heap:=h'}):TX (Tx prog w) A (TD (.ref z)) Q E s:=by
 rcases st.own with⟨a,b,c,d⟩|⟨T,t,r,a,b,c⟩;exact wpAny_pyNext_zip_end g D a st.pair d st.it1 st.it2 st.li1 st.li2 (.inl f) k;have j:s.TypeIs (.ref z) "zip":=⟨_,a,J⟩
 refine a9 (Ua (Uc j PySem.F.slot_zip_next (dk PySem.F.slot_zip_next j PySem.F.entry_zip_next (NF g D.i1z D.l1z a b st.pair st.it1 st.li1 f λh' e hk m=>?_) (PySem.F.args_zip_next_1 _))))
 obtain⟨o,l,n⟩:=m;exact a9 (fz ⟨o,l,n⟩ Tk (aa (k _ λc o q _ p _ e=>hk c o q p e)))
structure lS(xs ys:Array Sr)(lo:lv)(h:O7)(as:List lv):Prop where
 rise:as.Pairwise (· < ·)
 above:∀a∈as,lo<=a
 pairs:∀(j:Nat)(a:lv),as[j]?=some a->∃x y,xs[j]?=some x/\ys[j]?=some y/\Pu h a x y
theorem lS.there{as:O Y}(g:lS xs ys lo h as)(c:a∈as):a<h.objs.size:=by obtain⟨j,b⟩:=List.mem_iff_getElem?.mp c;obtain⟨_,_,_,_,e⟩:=g.pairs j a b;exact bf e
theorem lS.at'{as:O Y}(g:lS xs ys lo h as)(k:∀c o,lo<=c->h.get? c=some o->h'.get? c=some o):lS xs ys lo h' as:=⟨g.rise,g.above,λj a b=>let⟨x,y,i,f,d⟩:=g.pairs j a b;⟨x,y,i,f,k _ _ (g.above a (dj b)) d⟩⟩
end
section
theorem JJ{TI TO:lv}(hh:A.handled=none)(D:SY z TI TO i1 i2 l1 l2)(hl:∀c∈[z,TI,TO,i1,i2,l1,l2],c<lo)(P:S<lo)(U:S ∉ [z,TI,TO,i1,i2,l1,l2])(hn:xs.size<=TL)(ah:xs.size<=ys.size)(C:Sr){h₁:O7}(hR:∀h' r d c as,(∀b o,b≠S->b≠z->b≠TO->b≠i1->b≠i2->h₁.get? b=some o->h'.get? b=some o)->h'.get? S=some {cls:=.type "list",dict:=none,data:=.seq d c,slots:=#[]}->as.length=xs.size->lS xs ys lo h' as-> d.toList=as.map Sw->R (.ok (.ret C)) {s with heap:=h',toks:=r}):
  ∀ (k i:Nat) (h:O7) (r c:Nat) (d:Array Sr) (as:List lv),xs.size-i=k->i<=xs.size->lR z TI TO i1 i2 l1 l2 lo xs ys i h->(∀b o,b≠S->b≠z->b≠TO->b≠i1->b≠i2->h₁.get? b=some o->h.get? b=some o)->
    h.get? S=some {cls:=.type "list",dict:=none,data:=.seq d c,slots:=#[]}->d.toList=as.map Sw->as.length=i->lS xs ys lo h as->lo<=h.objs.size->
    Td (Tx prog w) A (.builtin "list.extend.loop" ⟨[.ref S,.ref z,C],[]⟩) R {s with heap:=h,toks:=r}:=by
 have Q:=U;have N:=hl;simp at Q;simp at N;obtain⟨n1,n2,n3,n4,n5,n6,n7⟩:=Q;obtain⟨b1,b2,b3,b4,b5,b6,b7⟩:=N;intro k;induction k with| zero=>
   intro i h r c d as hk hi t f hS g m y n;refine Te PySem.F.entry_extend_loop ?_;rw[mu PySem.F.plain_extend_loop _];refine a9 (Lh hh D t (nu (by omega)) λh' he=>(aa (hR h' r d c as (λb o Z H G F E e=>he b o H G F E (f b o Z H G F E e)) (he S _ n1 n3 n4 n5 hS) (by omega) (y.at' λb o q e=>he b o (iF b1 q) (iF b3 q) (iF b4 q) (iF b5 q) e) g)))| succ k ih=>
   intro i h r c d as hk hi t f hS g m y n;have u:i<xs.size:=by omega
   have p:i<ys.size:=by omega
   have L:d.size=i:=by rw[<-nG,g,ag,m]
   refine Te PySem.F.entry_extend_loop ?_;rw[mu PySem.F.plain_extend_loop _];refine a9 (Li D hl t n (fw u) (fw p) λh' M ht hz v=>?_);have W:=v S _ n1 n3 n4 n5 hS;have X:∀b o,b≠S->h'.get? b=some o->(h'.update S (RN (·.push (Sw h.objs.size)))).get? b=some o:=λb o l e=>(Pg _ _ (ae l)).trans e;have hT:=X _ _ (fc (bf hS)) ht;refine a9 ?_;refine VH W J (aa ⟨TC PySem.F.plain_extend_loop _,ih (i+1) _ r _ (d.push (Sw h.objs.size)) (as++[h.objs.size]) (by omega) u (M.at' hl P U X) (λb o Z H G F E e=>X b o Z (v b o H G F E (f b o Z H G F E e))) (Ph _ W J) (by rw[Array.toList_push,g,bo];rfl) (by rw[cq,m];rfl) ⟨?_,?_,?_⟩ ?_⟩) (by rw[L];omega) (by rw[op,L];omega)
   refine List.pairwise_append.mpr ⟨y.rise,List.pairwise_singleton _ _,λa x b l=>?_⟩;rw[ai.mp l];exact y.there x;intro a x;rcases cp.mp x with x|x;exact y.above a x;rw[ai.mp x];exact n;intro j b B;rcases Nat.lt_trichotomy j as.length with h1|h1|h1;rw[QD h1]at B;obtain⟨x',y',e1,e2,e3⟩:=y.pairs j b B;have l:=y.above b (dj B);exact⟨x',y',e1,e2,X b _ (iF P l) (v b _ (iF b1 l) (iF b3 l) (iF b4 l) (iF b5 l) e3)⟩;subst h1;have l:h.objs.size=b:=by simpa using B
   subst l;exact⟨_,_,(m▸fw u),(m▸fw p),hT⟩;rw[(lc (by rw[cq,ij];omega))]at B;cases B;exact Rw (gu n (bf hT))
end
theorem Nl:typeLookup (.type "zip") "__len__"=pure none:=by rw[typeLookup_type,S8];kernel_rfl
theorem NP:typeLookup (.type "zip") "__length_hint__"=pure none:=by rw[typeLookup_type,S8];kernel_rfl
section
variable{TI TO:lv}
theorem Md(C:A.handled=none)(D:SY z TI TO i1 i2 l1 l2)(hl:∀c∈[z,TI,TO,i1,i2,l1,l2],c<lo)(S:Y)(k:S<lo)(i:S ∉ [z,TI,TO,i1,i2,l1,l2])(p:lo<=s.heap.objs.size)(st:lR z TI TO i1 i2 l1 l2 lo xs ys 0 s.heap)(n:xs.size<=ys.size) (y:xs.size<=TL) (g:I) (l:Nat) (x:s.heap.get? S=some {cls:=.type "list",data:=.seq #[] l})
  (hz:IsZip s.heap z TI TO .none)
  (F:∀h' tk m c as,(∀b o,b≠S->b≠z->b≠TO->b≠i1->b≠i2->s.heap.get? b=some o->h'.get? b=some o)->h'.get? S=some {cls:=.type "list",dict:=none,data:=.seq m c,slots:=#[]}->as.length=xs.size->lS xs ys lo h' as-> m.toList=as.map Sw->R (.ok (.ret g)) {s with heap:=h',toks:=tk}):
  TX (Tx prog w) A.in1 (Builtin.List.listExtendWith (.ref S) (.ref z) g)
   (λu s'=>match u with|.done f=>R (.ok f) s'|.again c'=>c'.quiet=true/\Td (Tx prog w) A c' R s') (λe s'=>R (.error e) s') s:=by
 have t:S≠z:=λe=>i (by simp[e]);have r:s.TypeIs (.ref z) "zip":=⟨_,hz,J⟩
 refine a9 (VG r ?_);have L:rn (.ref S) (.ref z)=false:=by simp[rn,t]
 have H:(Sy "zip"==Sy "list")=false:=by decide
 have G:(Sy "zip"==Sy "tuple")=false:=by decide
 simp only[L,H,G];refine a9 (wpAny_pyIter_zip hz (a9 (Uo (a9 (UV r Nl (a9 (UV r NP (aa ?_))))))));refine a9 (UQ (a9 (a9 (VH x J ?_))));have d:=Ph (RN (·.push Sv)) x J;refine VH d J ?_;have gP:∀b o,b≠S->s.heap.get? b=some o->((s.heap.update S (RN (·.push Sv))).update S (RN (·.pop))).get? b=some o:=
  λb o v e=>(Pg _ _ (ae v)).trans ((Pg _ _ (ae v)).trans e)
 refine aa ⟨TC PySem.F.plain_extend_loop _,JJ C D hl k i y n g F xs.size 0 _ s.toks _ #[] [] (Nat.sub_zero _) (c9 _) (st.at' hl k i gP) (λb o q _ _ _ _ e=>gP b o q e) (Ph (RN (·.pop)) d J) J J ⟨List.Pairwise.nil,(λ_ E=>nomatch E),(λj a B=>by simp at B)⟩ (by rw[Pj,Pj];exact p)⟩
theorem JI(y:A.handled=none)(D:SY z TI TO i1 i2 l1 l2)(hl:∀c∈[z,TI,TO,i1,i2,l1,l2],c<lo)(S:Y)(i:S<lo)(d:S ∉ [z,TI,TO,i1,i2,l1,l2])(k:lo<=s.heap.objs.size)(st:lR z TI TO i1 i2 l1 l2 lo xs ys 0 s.heap)(j:xs.size<=ys.size) (x:xs.size<=TL) (n:s.heap.get? S=some {cls:=.type "list",data:=.seq #[]})
  (hz:IsZip s.heap z TI TO .none)
  (C:∀h' tk a c as,(∀b o,b≠S->b≠z->b≠TO->b≠i1->b≠i2->s.heap.get? b=some o->h'.get? b=some o)->h'.get? S=some {cls:=.type "list",dict:=none,data:=.seq a c,slots:=#[]}->as.length=xs.size->lS xs ys lo h' as-> a.toList=as.map Sw->R (.ok (.ret .none)) {s with heap:=h',toks:=tk}):
  TX (Tx prog w) A.in1 (Builtin.«list.__init__» ⟨[.ref S,.ref z],[]⟩)
   (λp s'=>match p with|.done f=>R (.ok f) s'|.again c'=>c'.quiet=true/\Td (Tx prog w) A c' R s') (λe s'=>R (.error e) s') s:=by
 refine a9 (a9 (UR n J (aa (a9 (VH n J ?_)))));have gP:∀b o,b≠S->s.heap.get? b=some o->(s.heap.update S (RN (λ_=>(#[])))).get? b=some o:=
  λb o B e=>(Pg _ _ (ae B)).trans e
 exact a9 (Ut (Md y D hl S i d (by rw[Pj];exact k) (st.at' hl i d gP) j x .none _ (Ph (RN (λ_=>(#[]))) n J) (gP _ _ (λe=>d (by simp[e])) hz) (λh' tk a c as hk m l E g=>(C h' tk a c as (λb o q v u t r e=>hk b o q v u t r (gP b o q e)) m l E g))))
theorem JH{Q:I->Sh->Prop}(y:A.handled=none)(D:SY z TI TO i1 i2 l1 l2)(hl:∀c∈[z,TI,TO,i1,i2,l1,l2],c<s.heap.objs.size)(st:lR z TI TO i1 i2 l1 l2 (s.heap.objs.size+1) xs ys 0 s.heap)(m:xs.size<=ys.size)(x:xs.size<=TL)(hz:IsZip s.heap z TI TO .none)(C:∀h' tk a c as,(∀b o,b≠z->b≠TO->b≠i1->b≠i2->s.heap.get? b=some o->h'.get? b=some o)->h'.get? s.heap.objs.size=some {cls:=.type "list",dict:=none,data:=.seq a c,slots:=#[]}->as.length=xs.size->lS xs ys (s.heap.objs.size+1) h' as-> a.toList=as.map Sw->Q (.ref s.heap.objs.size) {s with heap:=h',toks:=tk}):
  TX (Tx prog w) A (call (.type "list") [.ref z]) Q E s:=by
 refine Ta (Q₁:=λf d=>f=.ref s.heap.objs.size/\d={s with heap:=s.heap.push {cls:=.type "list",data:=.seq #[]}}) PySem.F.called_list (PySem.F.typeCall_list_1 _) PySem.F.entry_list_init
  (code_list_new _ ⟨J,J⟩) λf d g=>?_
 obtain⟨rfl,rfl⟩:=g;have q:(s.heap.push {cls:=.type "list",data:=.seq #[]}).get? s.heap.objs.size=some {cls:=.type "list",data:=.seq #[]}:=cb _ J;have i:=λe=>f9 _ (hl _ e);have l:∀b o,s.heap.get? b=some o->(s.heap.push {cls:=.type "list",data:=.seq #[]}).get? b=some o:=λb o e=>be _ e;have j:=λc B=>RD (hl c B);exact⟨⟨_,q,J⟩,PySem.F.args_list_init_2 _ _,JI (A:=A.in1) y D j _ (dz _) i (by rw[gm];exact au _) (st.at' j (dz _) i λb o _ e=>l b o e) m x q (l _ _ hz) (λh' tk a c as hk p n F k=>⟨J,C h' tk a c as (λb o v u t r e=>hk b o (br (bf e)) v u t r (l b o e)) p n F k⟩)⟩
end
theorem kY:S3 "list"=some (.type "list"):=by decide+kernel
def lF(H:Hp):List (lv×List V)->Hp|[]=>H|p::r=>ji (lF H r) p.1 (.tup p.2)
theorem C3{H:Hp}{b:lv}{o:HO}:∀{a:List (lv×List V)},lF H a b=some o->H b=some o\/∃p∈a,p.1=b/\o=.tup p.2|[],e=>.inl e| p::r,e=>by by_cases c:b=p.1;subst c;have e:ji (lF H r) p.1 (.tup p.2) p.1=some o:=e;rw[zd]at e;cases e;exact .inr ⟨p,bv,J,J⟩;have e:ji (lF H r) p.1 (.tup p.2) b=some o:=e;rw[ja c]at e;exact(C3 e).imp id λ⟨q,f,d⟩=>⟨q,bp _ f,d⟩
theorem Ca{H:Hp}{b:lv}:∀{a:List (lv×List V)},(∀p∈a,p.1≠b)->lF H a b=H b|[],_=>rfl| p::r,h=>by show ji (lF H r) p.1 (.tup p.2) b=_;rw[ja (λz=>h p bv z.symm)];exact Ca λq c=>h q (bp _ c)
theorem Bl{H:Hp}:∀{b:List (lv×List V)},(b.map (·.1)).Nodup->∀p∈b,lF H b p.1=some (.tup p.2)| q::r,c,p,a=>by obtain⟨f,d⟩:=d6.mp c;show ji (lF H r) q.1 (.tup q.2) p.1=_;rcases bc.mp a with rfl|a;exact zd;rw[ja (λz=>f (by show q.1∈List.map (λx:lv×List V=>x.1) r;rw[<-z];exact QX a))];exact Bl d p a
section
variable{H':Hp}
theorem Inv.grown{t':Nat}(I:Inv X pins σ H s)(k:∀b u,s.heap.get? b=some u->h'.get? b=some u)(d:∀b,b<s.heap.objs.size->H' b=H b)(g:∀b o,H' b=some o->s.heap.objs.size<=b->qv X.prog X.w H' h' b o):Inv X pins σ H' {s with heap:=h',toks:=t'}:=by
 have a:=λb o e=>(d b (I.hok b o e).lt▸e)
 refine I.un ⟨λb o q _ _ _=>k b o q,λb o q _ _ _=>⟨o.slots,k b o q⟩,λb o q n _=>(d b (bf q)▸n),λb o q _=>⟨o,k b o q⟩,λb f q=>a _ _ q,λb o u q=>a _ _ q,λb i q=>⟨#[],by rw[a _ _ q];simp⟩⟩ λb o e=>?_;by_cases c:b<s.heap.objs.size;rw[d b c]at e;exact(I.hok b o e).stay (λc u _ q=>k c u q) (λc q=>a _ _ q) λc f q=>a _ _ q;exact g b o e (Rx c)
inductive rq(Q:VK)(vs:List V)(H1:Hp):Prop| mk:∀a b xs ys,vs=[.ref a,.ref b]->H1 a=some (.lst xs)->H1 b=some (.lst ys)->xs.length<=ys.length->
   (∀l (as:List lv) H2,zh H1 H2->H1 l=none->H2 l=some (.lst (as.map V.ref))->as.length=xs.length->(∀(j:Nat)(p:lv),as[j]?=some p->∃x y,xs[j]?=some x/\ys[j]?=some y/\H2 p=some (.tup [x,y]))->Q (.ref l) H2)->rq Q vs H1
def Of(ta:TA):TE:=λσ H Q=>ta σ H λvs H1=>rq Q vs H1
theorem C7:∀as:List lv,yi (as.map V.ref) (as.map Sw)|[]=>.nil|a::r=>.cons J (C7 r)
theorem MY{a:OP}{p q d:Pos}(ay:Gl X "list")(av:X.mg "list"=none)(ax:Gl X "zip")(aq:X.mg "zip"=none)(Z:X.calm=true)(ha:PA X [a,b] ta)(he:TQ [.Call (.Name "zip" q) [a,b] [] d] X.env=(false,Tj (.Call (.Name "zip" q) [a,b] [] d) X.env)::TQ [] X.env:=by rfl) (ap:(backTo aE (TQ [] X.env)).any (·.1)=false:=by rfl)
  (az:TQ [a,b] X.env=(false,Tj a X.env)::TQ [b] X.env:=by rfl) (M:(backTo d (TQ [b] X.env)).any (·.1)=false:=by rfl):
  PE X (.Call (.Name "list" p) [.Call (.Name "zip" q) [a,b] [] d] [] aE) (Of ta):=by
 intro G s σ H Q I h;refine T1 (Zs I ay av kY (R7 ?_ he ap));rw[he];refine J4 (T1 (Zs I ax aq B2 (R7 (aH (ha d G s σ H _ I h) λus A ⟨vs,H1,B,F,q1⟩=>?_) az M)));obtain⟨t1,t2,D,C,rfl,hx,hy,a3,kk⟩:=q1;obtain⟨u,n,rfl,ra,F⟩:∃u n,us=u::n/\yf (.ref t1) u/\yi [.ref t2] n:=by cases F with|cons h1 h2=>exact⟨_,_,J,h1,h2⟩
 obtain⟨v,rfl,rb⟩:=Zg F;cases(ra);cases(rb);obtain⟨aj,rv,p1⟩:=Q3 B.hok hx;obtain⟨ah,E,p2⟩:=Q3 B.hok hy;have z1:=(B.hok t1 _ hx).1;have lx:=Paired.length rv;have ly:=Paired.length E;have b1:t1<A.heap.objs.size:=by obtain⟨_,e,_⟩:=p1;exact bf e
 have b2:t2<A.heap.objs.size:=by obtain⟨_,e,_⟩:=p2;exact bf e
 refine call_zip_2 p1 p2 λg f1 f2 f3 f4 f5 f6 f7=>(J5 (JH (B.ok.hd Z) (zipApart_new b1 b2) (λc Z=>?_) ⟨.inl ⟨f1,_,_,f3⟩,f2,f4,f5,p1.at λo e=>f7 _ o e,p2.at λo e=>f7 _ o e⟩ (by simp;omega) (by simp;omega) f1 λh' tk a5 c as hk hS hl hG S=>?_))
 rw[f6];simp at Z;have t:A.heap.objs.size<A.heap.objs.size+5:=Nat.lt_add_of_pos_right (by decide);rcases Z with rfl|rfl|rfl|rfl|rfl|rfl|rfl;exact Ru (by decide) _;exact Ru (by decide) _;exact Ru (by decide) _;exact t;exact Ru (by decide) _;exact RE b1 t;exact RE b2 t;rw[f6]at hS hG⊢;rw[dy]at hl;generalize hN:A.heap.objs.size=N at *;have bU:∀b u,A.heap.get? b=some u->h'.get? b=some u:=λb u e=>by have f:=hN▸bf e;exact hk b u (br (dc f (Rv _ _))) (br (dc f (Rv _ _))) (br f) (br (dc f (Rv _ _))) (f7 b u e)
 have U:=λp i=>hG.above p i;let r:=(D.zip C).map λq=>[q.1,q.2]
 have tl:r.length=as.length:=by rw[ag,QR];omega
 have nd:((as.zip r).map (·.1)).Nodup:=by rw[List.map_fst_zip (by omega)];exact hG.rise.imp λh=>br h
 have L:∀p∈as.zip r,p.1∈as:=λp i=>(Rf i).1;have aS:∀(j:Nat) p,as[j]?=some p->∃x y,D[j]?=some x/\C[j]?=some y/\(p,[x,y])∈as.zip r:=λj p m=>by have a4:=(d7.mp m).1;have l:D[j]?=some D[j]:=cg (by omega);have k:C[j]?=some C[j]:=cg (by omega);refine⟨_,_,l,k,dj (i:=j) ?_⟩;rw[QI];refine⟨m,?_⟩;rw[bq,(QI (z:=(D[j],C[j]))).mpr ⟨l,k⟩];rfl
 have w:∀b,N<=b->H1 b=none:=λb f=>B.hok.fresh (hN▸f);let W:=ji (lF H1 (as.zip r)) (N+5) (.lst (as.map V.ref));have aw:∀p∈as.zip r,W p.1=some (.tup p.2):=λp i=>by show ji _ _ _ _=_;rw[ja (fc (U _ (L p i)))];exact Bl nd p i
 have sm:∀b,b<N->W b=H1 b:=λb f=>by show ji _ _ _ _=_;rw[ja (br (dc f (Rv _ _)))];exact Ca λp i=>fc (dc f (Rw (gu (Rv _ 5) (U _ (L p i)))))
 have R:W (N+5)=some (.lst (as.map V.ref)):=zd;refine⟨.ref (N+5),W,B.grown bU (λb f=>sm b (hN▸f)) (λb o e f=>?_),J,kk _ as W (λb o e=>(sm b (Rz λz=>by rw[w b z]at e;cases e)▸e)) (w _ (Rv _ _)) R (by omega) λj p m=>?_⟩;by_cases c5:b=N+5;subst c5;rw[R]at e;cases e;refine⟨by rw[ag];omega,as.map Sw,c,C7 as,?_⟩;rw[<-S];simpa using hS;have e:ji (lF H1 (as.zip r)) (N+5) (.lst (as.map V.ref)) b=some o:=e;rw[ja c5]at e;rcases C3 e with z|⟨p,i,rfl,rfl⟩;rw[w b (hN▸f)]at z;cases z;obtain⟨j,m⟩:=List.mem_iff_getElem?.mp i;rw[QI]at m;obtain⟨x,y,l,k,e3⟩:=hG.pairs j p.1 m.1;have ej:=m.2;rw[bq]at ej;obtain⟨q,hq,ak⟩:=df.mp ej;rw[QI]at hq;obtain⟨u1,h1,F⟩:=yi.get rv hq.1;obtain⟨u2,h2,r2⟩:=yi.get E hq.2;have l:aj[j]?=some x:=by simpa using l
 have k:ah[j]?=some y:=by simpa using k
 rw[h1]at l;rw[h2]at k;cases l;cases k;rw[<-ak];exact⟨by show 2<=TL;decide,[_,_],.cons F (.cons r2 .nil),⟨_,e3,J,_,J⟩,λo' P=>by rw[e3]at P;cases P;rfl⟩;obtain⟨x,y,l,k,e3⟩:=aS j p m;exact⟨x,y,l,k,aw _ e3⟩
end
end L2
namespace My
open PySem PySem.Spec PyProof.Rows L2
variable{af l p:lv}{X:Cx}{e:OP}{base:O7}{H:Hp}{b:Int}{σ:L2.St}{es:List OP}{cap:List Nat}{ps:List Str}{ts:List T}{xs ys:List V}{us:List Sr}{i q:Nat}{aE:Pos}{P:R0}{sp:Sp}{kd x:Str}{mg:Str->Option Sr}{te:TE}{v:V}{Q:VK}{w:SX}
noncomputable def bI(i:Nat):Sj:=Challenge.pw_meetwall_k81_whole_made_of_boxes_as_one.main.body.getD i (.Pass ⟨0,0,0,0⟩)
abbrev Wk:Sj:=bI 23
abbrev Xc:Sj:=bI 24
abbrev jw:Sj:=bI 25
abbrev Z0:Sj:=bI 26
abbrev Qc:Sj:=bI 27
abbrev Kf:Sj:=bI 28
abbrev Qd:Sj:=bI 29
abbrev Xd:Sj:=bI 30
abbrev Yg:Sj:=bI 31
abbrev Y1:Sj:=bI 32
abbrev Qe:Sj:=bI 33
abbrev Yc:Sj:=bI 34
abbrev Wl:Sj:=bI 35
abbrev qw:Sj:=bI 36
abbrev Qh:Sj:=bI 37
abbrev Z5:Sj:=bI 38
abbrev Y2:Sj:=bI 39
abbrev vL:Sj:=bI 40
abbrev Y0:Sj:=bI 41
theorem Fk:S3 "isinstance"=some (.builtin "isinstance"):=by decide+kernel
theorem wu:S3 "len"=some (.builtin "len"):=by decide+kernel
theorem Xs:S3 "all"=some (.builtin "all"):=by decide+kernel
theorem Ab:S3 "sum"=some (.builtin "sum"):=by decide+kernel
theorem Fj:S3 "int"=some (.type "int"):=by decide+kernel
theorem GU:S3 "bool"=some (.type "bool"):=by decide+kernel
theorem uT:S3 "str"=some (.type "str"):=by decide+kernel
theorem qi:S3 "tuple"=some (.type "tuple"):=by decide+kernel
theorem wJ:S3 "dict"=some (.type "dict"):=by decide+kernel
theorem Ju:S3 "list"=some (.type "list"):=by decide+kernel
def Ok(P:R0)(w:SX)(K:O4)(mg:Str->Option Sr)(base:O7)(x:Str)(k:Nat)(B:List Str)(sp:Sp):Prop:=∃f fd,cH P w K mg base dX k f fd B sp/\Y9 K fd B []/\SJ K (.ref f)=true/\mg x=some (.ref f)
theorem tQ{n:Nat}(h:us.length=n+1):∃a r,us=a::r/\r.length=n:=by cases us with|nil=>cases h|cons a r=>exact⟨a,r,J,Nat.succ.inj h⟩
theorem xR(h:us.length=1):∃a,us=[a]:=List.length_eq_one_iff.mp h
theorem DL(h:us.length=2):∃a b,us=[a,b]:=by obtain⟨a,r,rfl,g⟩:=tQ h;obtain⟨b,rfl⟩:=xR g;exact⟨a,b,J⟩
theorem DK(h:us.length=3):∃a b c,us=[a,b,c]:=by obtain⟨a,r,rfl,g⟩:=tQ h;obtain⟨b,c,rfl⟩:=DL g;exact⟨a,b,c,J⟩
theorem xQ(h:us.length=4):∃a b c d,us=[a,b,c,d]:=by obtain⟨a,r,rfl,g⟩:=tQ h;obtain⟨b,c,d,rfl⟩:=DK g;exact⟨a,b,c,d,J⟩
theorem Oo(h:us.length=5):∃a b c d e,us=[a,b,c,d,e]:=by obtain⟨a,r,rfl,g⟩:=tQ h;obtain⟨b,c,d,e,rfl⟩:=xQ g;exact⟨a,b,c,d,e,J⟩
@[elab_as_elim] theorem Ow{P:O I->Prop}(h:us.length=1)(k:∀a,P [a]):P us:=by obtain⟨a,rfl⟩:=xR h;exact k a
@[elab_as_elim] theorem Ov{P:O I->Prop}(h:us.length=2)(k:∀a b,P [a,b]):P us:=by obtain⟨a,b,rfl⟩:=DL h;exact k a b
@[elab_as_elim] theorem Ou{P:O I->Prop}(h:us.length=3)(k:∀a b c,P [a,b,c]):P us:=by obtain⟨a,b,c,rfl⟩:=DK h;exact k a b c
@[elab_as_elim] theorem Ot{P:O I->Prop}(h:us.length=4)(k:∀a b c d,P [a,b,c,d]):P us:=by obtain⟨a,b,c,d,rfl⟩:=xQ h;exact k a b c d
@[elab_as_elim] theorem Os{P:O I->Prop}(h:us.length=5)(k:∀a b c d e,P [a,b,c,d,e]):P us:=by obtain⟨a,b,c,d,e,rfl⟩:=Oo h;exact k a b c d e
theorem yb{k:Nat}{p:Pos}{t:TA}(h:Ok X.prog X.w X.K X.mg X.base x k ps sp)(c:aO k X.A)(j:PA X (e::es) t)(g:Gl X x:=by rfl)
  (b:(x==("__debug__":Str))=false:=by decide) (he:TQ (e::es) X.env=(false,Tj e X.env)::TQ es X.env:=by rfl) (a:(backTo aE (TQ es X.env)).any (·.1)=false:=by rfl):
  PE X (.Call (.Name x p) (e::es) [] aE) (zG sp [] E0 t):=by obtain⟨f,l,F,i,hk,d⟩:=h;exact IP F c g d hk i .nil sJ j b he a
def bP(K:O4)(mg:Str->Option Sr)(x:Str)(st:Sj):Prop:=∃f fd,lA K x x st f fd/\mg x=some (.ref f)
theorem xt{i:Int}(h:∃t,X.mg x=some (.int i t))(a:Gl X x:=by rfl)(b:(x==("__debug__":Str))=false:=by decide):PE X (.Name x aE) (tC (.int i)):=by obtain⟨t,h⟩:=h;exact By a h ⟨t,J⟩ b
structure Txt(K:O4)(mg:Str->Option Sr):Prop where
 BOXES:∃t,mg "BOXES"=some (.int 0 t)
 WALLS:∃t,mg "WALLS"=some (.int 1 t)
 FIRSTS:∃t,mg "FIRSTS"=some (.int 2 t)
 SCRIPTS:∃t,mg "SCRIPTS"=some (.int 3 t)
 MOST_BOXES:∃t,mg "MOST_BOXES"=some (.int 99 t)
 MOST_WALLS:∃t,mg "MOST_WALLS"=some (.int 6 t)
 MOST_FIRSTS:∃t,mg "MOST_FIRSTS"=some (.int 40 t)
 MOST_SCRIPTS:∃t,mg "MOST_SCRIPTS"=some (.int 20 t)
 MOST_DEEDS_OF_SCRIPT:∃t,mg "MOST_DEEDS_OF_SCRIPT"=some (.int 80 t)
 MOST_HANDS:∃t,mg "MOST_HANDS"=some (.int 60 t)
 MOST_DEEDS:∃t,mg "MOST_DEEDS"=some (.int 1200 t)
 MOST_RAISED:∃t,mg "MOST_RAISED"=some (.int 99 t)
 MOST_AWAITED:∃t,mg "MOST_AWAITED"=some (.int 9999 t)
 MOST_WORKED:∃t,mg "MOST_WORKED"=some (.int 999 t)
 MOST_LETTERS:∃t,mg "MOST_LETTERS"=some (.int 8 t)
 MODES:∃a,mg "MODES"=some (.ref a)/\∀H,aG K H a [.str "both",.str "come",.str "go"]
 isi:mg "isinstance"=none
 int:mg "int"=none
 bool:mg "bool"=none
 str:mg "str"=none
 tuple:mg "tuple"=none
 dict:mg "dict"=none
 list:mg "list"=none
 len:mg "len"=none
 all:mg "all"=none
 sum:mg "sum"=none
 range:mg "range"=none
 enumerate:mg "enumerate"=none
 sorted:mg "sorted"=none
 zip:mg "zip"=none
inductive mt(A:T->Prop)(f:T->Bool)(vs:List V)(H:Hp)(Q:VK)(e0:XK):Prop|mk:∀t v,vs=[v]->Is H t v->A t->(∀H',zh H H'->Q (.bl (f t)) H')->mt A f vs H Q e0
section
variable{p1 p2:Pos}
theorem Xj{n:Str}{T:String}(i:X.mg "isinstance"=none)(g:X.mg n=none)(f:S3 n=some (.type T))(he:PE X e te)(k:Gl X "isinstance":=by rfl)(j:Gl X n:=by rfl)(c:n≠"__name__":=by decide)(d:(n==("__debug__":Str))=false:=by decide)
  (b:TQ [e,.Name n p2] X.env=(false,Tj e X.env)::TQ [.Name n p2] X.env:=by rfl) (l:(backTo aE (TQ [.Name n p2] X.env)).any (·.1)=false:=by rfl) (a:TQ [.Name n p2] X.env=(false,Tj (.Name n p2) X.env)::TQ [] X.env:=by rfl):
  PE X (.Call (.Name "isinstance" p1) [e,.Name n p2] [] aE) (rA (pp X.K) (Vb te (Vb (tC (.ty T)) lE))):=
 ya IV k i Fk (za he (za (IO j g f J c d) zb a) b) (he:=b)
end
noncomputable def K8:T->Bool|.int _=>true|_=>false
section
variable{K:O4}
theorem Om:aA ["thing"] ["thing"] (ze Wk):=.of
theorem Nv(D:bP K mg "is_whole" Wk)(T:Txt K mg):Ok P w K mg base "is_whole" 1 ["thing"] (mt (λ_=>True) K8):=by
 obtain⟨f,j,F,g⟩:=D;refine⟨f,j,(F.ok Om (λd H Q E h=>?_) (λl A a s H d Q E n h=>?_)),F.binds λ_ _ _ _ _ _ m i=>(by obtain⟨_,rfl⟩:=xR i;rfl),F.kp,g⟩;obtain⟨t,v,rfl,_⟩:=h;rfl;obtain⟨t,v,rfl,b,_,k⟩:=h;refine⟨_,zg (zm (jm (Xj T.isi T.int Fj (pv 0)) (jl (AB (Xj T.isi T.bool GU (pv 0)))))),⟨v,"int",_,_,J,b.ty,Hm K t,_,J,(Qp (λc=>?_) (λc=>?_))⟩⟩;refine⟨v,"bool",_,_,J,b.ty,KC K t,_,J,?_⟩;have e:(!DO t)=K8 t:=by cases t<;>first|rfl|(exact kS c (by simp[yQ]))
 rw[e];exact k H (zh.refl H);have e:false=K8 t:=by cases t<;>first|rfl|(exact kS J c)
 rw[e];exact k H (zh.refl H)
end
abbrev dD:=Int×Str
inductive aF where|rai (b k:Int)|awa (b m:Int)|com (w:Int)|goo (w:Int)|lea (w:Int)|beg (s:Nat) (ms:List dD)|wor (d:Int)|say (x:Str)
abbrev yh:=List aF
abbrev X6:=Nat×List dD
structure aC where
 b:Int
 w:Int
 fs:List X6
 ss:List yh
noncomputable def nK(m:dD):T:=.tup [.int m.1,.str m.2]
def tR(B:List dD):T:=.tup (B.map nK)
def eD:aF->T|.rai b k=>.tup [.str "raise",.int b,.int k]|.awa b m=>.tup [.str "await",.int b,.int m]|.com w=>.tup [.str "come",.int w]|.goo w=>.tup [.str "go",.int w]|.lea w=>.tup [.str "leave",.int w]|.beg s B=>.tup [.str "begin",.int s,tR B]|.wor d=>.tup [.str "work",.int d]|.say x=>.tup [.str "say",.str x]
def eS(s:yh):T:=.tup (s.map eD)
def eC(c:X6):T:=.tup [.int c.1,tR c.2]
def eH(h:aC):T:=.tup [.int h.b,.int h.w,.tup (h.fs.map eC),.tup (h.ss.map eS)]
noncomputable def dw:aF->Str|.rai _ _=>"raise"|.awa _ _=>"await"|.com _=>"come"|.goo _=>"go"|.lea _=>"leave"|.beg _ _=>"begin"|.wor _=>"work"|.say _=>"say"
theorem Yt(d:aF):∃r,eD d=.tup (.str (dw d)::r):=by cases d<;>exact⟨_,J⟩
inductive rW(K:O4)(H:Hp)(v:V)(i:Nat)(t:T):Prop|mk:∀a xs u,v=.ref a->aG K H a xs->kZ xs ((i:Nat):Int)=some u->Is H t u->rW K H v i t
theorem Is.at{K:O4}{t:T}(h:Is H (.tup ts) v)(e:ts[i]?=some t):rW K H v i t:=by obtain⟨a,b,rfl,d,c⟩:=h;obtain⟨u,g,f⟩:=c.get e;exact⟨a,b,u,J,aG.of d,xb g,f⟩
theorem xj{own:O Str}{a:Sc}(b:Sc)(c:X.env.scope=b)(j:a.kind=.function)(i:∀x∈a.names,x.2=.free->b.names.lookup x.1=some .cell\/b.names.lookup x.1=some .free)(g:∀x∈a.names,x.2≠ .cell) (f:∀x∈a.names,x.2=.local->a.names.lookup x.1=some .local) (d:pJ X a cap):aX X own cap a:=by subst c;exact⟨j,i,g,f,d⟩
theorem iZ{A B:L2.St->Hp->Prop}(h:A (σ.set i (some v)) H):Zx i v σ H (λa H2=>pI a H2 λb c=>if b=true then A a c else B a c):=by
 show if true=true then A (σ.set i (some v)) H else B (σ.set i (some v)) H
 exact xx h
theorem DN{A B:Hp->Prop}(h:A H):pI σ H (λb a=>if b=true then A a else B a):=by
 show if true=true then A H else B H
 exact xx h
theorem jy{o:Option Rp}(h:o=some .cell):o≠some .local:=λz=>by simp_all
theorem Yv{n:Nat}(h:n<=1000):n<=TL:=Rw (yx h)
theorem CO:PE X e (λ_ _ _=>False):=λ_ _ _ _ _ _ h=>h.elim
theorem Jp{K:O4}{k:Nat}(j:H af=some (.tup xs))(s:xs.length<=1000)(q:∀(i:Nat)(x:V)(c:Hp)(R:VK),xs[i]?=some x->zh H c->(∀l,zh c l->R (.bl true) l)->te ((bQ k cap σ).set 0 (some x)) c R)(o:∀c,zh H c->Q (.bl true) c):bV (qH K af) (Zx 0) pI te k cap σ H (λv H1=>∃(a:Y)(bs:O Bool),[v]=[V.ref a]/\aK K H1 a (bs.map V.bl)/\Q (.bl (bs.all id)) H1):=by
 refine uX (λi f d=>zh H d/\f=Rk i (V.bl true)) ⟨zh.refl H,J⟩ (λi f d t ⟨b,r⟩=>⟨aG.of (b _ _ j),by rw[r,ie];exact Yv (by omega)⟩) ?_ ?_;rintro i x f d p ⟨b,rfl⟩;exact iZ (q i x d _ p b λl m=>⟨b.trans m,ld.symm⟩);rintro f d ⟨b,rfl⟩ n g;refine⟨n,Rk xs.length true,J,aK.of (by rw[zd,QV]),?_⟩;have e:(Rk xs.length true).all id=true:=by simp
 rw[e];exact o _ (b.trans (zh.new g _))
inductive spT(A:List V->Hp->Prop)(vs:List V)(H:Hp)(Q:VK)(e0:XK):Prop|mk:A vs H->(∀H',zh H H'->Q (.bl true) H')->spT A vs H Q e0
def pE(vs:List V)(_:Hp):Prop:=∃i lo hi,vs=[.int i,.int lo,.int hi]/\lo<=i/\i<=hi
def qE(vs:List V)(H:Hp):Prop:=∃ts v lo hi,vs=[v,.int lo,.int hi]/\Is H (.tup ts) v/\lo<=(ts.length:Int)/\(ts.length:Int)<=hi
def D3(vs:List V)(H:Hp):Prop:=∃x v h,vs=[.int x,v]/\Is H (eH h) v/\0<=x/\x<h.b
noncomputable def yT(c:Nat):Bool:= !decide ((⟨#[c]⟩:Str).cps.toList<("a":Str).cps.toList) && !decide (("z":Str).cps.toList<(⟨#[c]⟩:Str).cps.toList)
def xJ(x:Str):Bool:=decide (1<=x.length/\x.length<=8) && x.cps.toList.all yT
def tX(vs:List V)(_:Hp):Prop:=∃x,vs=[.str x]/\xJ x=true
section
variable{K:O4}
theorem qf{st:Sj}{N:O Str}{k:Nat}(D:bP K mg x st)(S:aA N ps (ze st))(a:∀(f:Y)(cdv:I)(A:mf)(outer:O Env)(s:Sh)(H:Hp)(vs:O V)(Q:VK)(E:XK),aO k (A.deeper (envOfC x (ze st) s.heap.objs.size f cdv))->sp vs H Q E-> let X:=(X7 dX P w K mg base N x (ze st) f cdv A outer s H E).nox;∃t,dJ X (xq st) t/\t (.of Q) (start N vs) H) (c:autoParam (∀vs H Q E,sp vs H Q E->vs.length=ps.length) xY._auto_1) (l:autoParam (∀(kV d g:I)(o:Option Y)(cdv n:I)(b:O I),b.length=ps.length->bindArgs (SF x x (jh st) (xq st) (ze st) .none kV d g o cdv n) ⟨b,[]⟩=pure (ps.zip b)) xX._auto_1):Ok P w K mg base x (k+1) ps sp:=by obtain⟨f,m,F,j⟩:=D;exact⟨f,m,F.ok S c (λcdv A outer s H vs Q E i h=>a f cdv A outer s H vs Q E i h),F.binds l,F.kp,j⟩
theorem Mp:aA ["thing","least","most"] ["thing","least","most"] (ze Xc):=.of
theorem N1(D:bP K mg "is_within" Xc)(c:Ok P w K mg base "is_whole" 1 ["thing"] (mt (λ_=>True) K8)):Ok P w K mg base "is_within" 2 ["thing","least","most"] (spT pE):=by refine qf D Mp ?_;rintro f m A a s H o Q E d ⟨⟨i,lo,g,rfl,l,j⟩,k⟩ X;refine⟨_,zg (zm (jm (yb c d (za (pv 0) zb)) (jl (Ky Q2 Q2 (pv 1) (pv 0) (pv 2))))),⟨.int i,_,J,J,trivial,λn b=>⟨_,J,xx ⟨lo,i,J,J,_,J,?_⟩⟩⟩⟩;rw[cf l];refine xx ⟨i,g,J,J,?_⟩;rw[cf j];exact k n b
theorem EZ:aA ["thing","least","most"] ["thing","least","most"] (ze jw):=.of
theorem Wr(D:bP K mg "is_tuple_within" jw)(T:Txt K mg):Ok P w K mg base "is_tuple_within" 1 ["thing","least","most"] (spT qE):=by refine qf D EZ ?_;rintro f o A b s H p Q E q ⟨⟨j,v,lo,m,rfl,c,g,d⟩,k⟩ X;refine⟨_,zg (zm (jm (Xj T.isi T.tuple qi (pv 0)) (jl (Ky Q2 Q2 (pv 1) (ya yc J T.len wu (za (pv 0) zb)) (pv 2))))),⟨v,"tuple",_,_,J,c.ty,CZ K (.tup j),_,J,xx ?_⟩⟩;obtain⟨a,i,rfl,n,l⟩:=c;rw[<-l.length]at g d;refine⟨a,i,J,.inr (aG.of n),lo,_,J,J,_,J,?_⟩;rw[cf g];refine xx ⟨_,m,J,J,?_⟩;rw[cf d];exact k H (zh.refl H)
theorem Ga:aA ["thing","house"] ["thing","house"] (ze Kf):=.of
theorem LJ(D:bP K mg "is_box" Kf)(T:Txt K mg)(g:Ok P w K mg base "is_within" 2 ["thing","least","most"] (spT pE)):Ok P w K mg base "is_box" 3 ["thing","house"] (spT D3):=by refine qf D Ga ?_;rintro f o A b s H p Q E l ⟨⟨x,v,h,rfl,i,m,q⟩,k⟩ X;obtain⟨a,c,u,rfl,d,n,j⟩:=Is.at (i:=0) i J;cases(j);exact⟨_,zg (zm (yb g l (za (pv 0) (za zf (za (yd Xk (zk zj (pv 1) (xt T.BOXES)) zf) zb))))),a,c,_,_,J,J,d,n,_,_,J,J,⟨x,0,h.b-1,J,m,by omega⟩,k⟩
theorem Nc:aA ["thing"] ["thing"] (ze Z0):=.of
theorem N9(D:bP K mg "is_letters" Z0)(T:Txt K mg):Ok P w K mg base "is_letters" 1 ["thing"] (spT tX):=by
 refine qf D Nc ?_;rintro f r A l s H v Q E y ⟨⟨x,rfl,a⟩,k⟩ X;refine⟨_,zc (yt (gg (Kj (vz (wq (Xj T.isi T.str uT (pv 0)))) (Wo (zv vt (ya Vx (by rfl) T.len wu (za (pv 0) zb)) zf (ye _))))) (zg (zm q9)) zu) (zg (zm (ya (Zn J) J T.all Xs (za (q8 (own:=["letter"]) (cap:=[]) J (xj (ze Z0) J J (by decide+kernel) (by decide+kernel) (by decide+kernel) trivial) (GN (pv 0)) (λ_ _ _ _=>zp (i:=0) (by show(["letter"]:O Str).Nodup;decide+kernel)) (λ_ _ _ _=>wv) (λ_ _ _ _=>Ky C4 C4 zr (pv 0) zr)) zb)))),?_⟩
 unfold xJ at a;rw[bu,kU,fi]at a;obtain⟨⟨u,t⟩,a⟩:=a;have m:x.length<=TL:=Yv (by omega);refine⟨.str x,"str",_,_,J,(show Is H (.str x) (.str x)from rfl).ty,wB K (.str x),_,J,yn ⟨x,J,m,J,_,J,?_⟩⟩;rw[vT];refine Qp (λc=>kS (show x.length=0 by simpa using c) (by omega)) (λ_=>⟨x,J,?_⟩);have n:x.cps.size<=TL:=m;refine FJ (λi b j=>j=H/\b=Rk i (V.bl true)) ⟨J,J⟩ (λi b j z ⟨_,e⟩=>by rw[e,ie];omega) ?_ ?_;rintro i c b j q ⟨rfl,rfl⟩;refine iZ ?_;have g:=a c (dj (nv▸q));unfold yT at g;rw[bu]at g;refine⟨"a",_,J,J,_,J,Qp (λ_=>⟨_,"z",J,J,J,?_⟩) (λd=>kS g.1 d)⟩;rw[g.2];exact ld.symm;rintro b j ⟨rfl,rfl⟩ p o;refine⟨p,Rk x.cps.size true,J,aK.of (by rw[zd,QV]),?_⟩;have e:(Rk x.cps.size true).all id=true:=by simp
 rw[e];exact k _ (zh.new o _)
theorem Ix:aA ["thing"] ["thing"] (ze Qc):=.of
theorem MT(D:bP K mg "is_word" Qc)(T:Txt K mg)(g:Ok P w K mg base "is_letters" 1 ["thing"] (spT tX)):Ok P w K mg base "is_word" 2 ["thing"] (spT tX):=by refine qf D Ix ?_;rintro f j A b s H m Q E i ⟨⟨x,rfl,c⟩,k⟩ X;refine⟨_,zg (zm (jm (yb g i (za (pv 0) zb)) (jl (jx Q2 (ya Vx (by rfl) T.len wu (za (pv 0) zb)) (xt T.MOST_LETTERS) (ye _))))),?_⟩;have a:=c;unfold xJ at a;rw[bu,kU]at a;refine⟨⟨x,J,c⟩,λl d=>⟨_,J,xx ⟨x,J,Yv (by omega),_,8,J,J,?_⟩⟩⟩;rw[cf (by omega)];exact k l d
end
def ny(b w:Int):aF->Prop|.rai x k=>0<=x/\x<b/\1<=k/\k<=99|.awa x m=>0<=x/\x<b/\1<=m/\m<=9999|.com x=>x=0/\w=1|.goo x=>x=0/\w=1|.lea x=>x=0/\w=1|.wor d=>0<=d/\d<=999|.say x=>x="come"\/x="go"|_=>False
def yM:aF->Prop|.beg _ _=>False|_=>True
theorem ny.no{w:Int}{d:aF}(h:ny b w d):yM d:=by cases d<;>first|trivial|exact h.elim
def D6(m:Str):Prop:=m="both"\/m="come"\/m="go"
def ue(w:Int)(B:List dD):Prop:=B=[]\/∃m,B=[(0,m)]/\w=1/\D6 m
noncomputable def nL:List dD->Option Str|[]=>none|m::_=>some m.2
noncomputable def pY(o:Option Str)(m:Str):Bool:=decide (o=some "both") ||decide (o=some m)
def lQ(o:Option Str):aF->Bool|.com _=>pY o "come"|.goo _=>pY o "go"|.lea _=>o.isSome|_=>true
noncomputable def kD(o:Option Str):aF->Option Str|.lea _=>none|_=>o
def fI(o:Option Str):yh->Bool|[]=>true|d::r=>lQ o d && fI (kD o d) r
structure iO(h:aC):Prop where
 b0:0<=h.b
 b99:h.b<=99
 w01:h.w=0\/h.w=1
 n1:1<=h.ss.length
 n20:h.ss.length<=20
 f1:1<=h.fs.length
 f8:h.fs.length<=8
 call:∀c∈h.fs,c.1<h.ss.length/\ue h.w c.2
 len:∀s∈h.ss,s.length<=80
 pl:∀s∈h.ss,∀d∈s,ny h.b h.w d
 fit:∀c∈h.fs,fI (nL c.2) (h.ss.getD c.1 [])=true
def xW(vs:List V)(H:Hp):Prop:=∃B h,vs=[.int 0,B]/\Is H (eH h) B/\h.w=1
def DY(vs:List V)(H:Hp):Prop:=∃v B m h,vs=[v,B]/\Is H (nK (0,m)) v/\Is H (eH h) B/\h.w=1/\D6 m
def DZ(vs:List V)(H:Hp):Prop:=∃v F B h,vs=[v,F]/\Is H (tR B) v/\Is H (eH h) F/\ue h.w B
def D2(vs:List V)(H:Hp):Prop:=∃(c:X6)(v:V)(B:Int)(h:aC)(F:V),vs=[v,.int B,F]/\Is H (eC c) v/\Is H (eH h) F/\B<=(c.1:Int)/\c.1<h.ss.length/\ue h.w c.2
def D1(vs:List V)(H:Hp):Prop:=∃d v B h F,vs=[v,.int B,F]/\Is H (eD d) v/\Is H (eH h) F/\ny h.b h.w d
def DX(vs:List V)(H:Hp):Prop:=∃s v B h F,vs=[v,.int B,F]/\Is H (eS s) v/\Is H (eH h) F/\s.length<=80/\∀d∈s,ny h.b h.w d
def nr(vs:List V)(H:Hp):Prop:=∃h v,vs=[v]/\Is H (eH h) v/\iO h
noncomputable def mE:Option Str->List (aJ×V)|none=>[]|some m=>[(Sm 0,.str m)]
def D4(vs:List V)(H:Hp):Prop:=∃b w d B a o,vs=[B,.ref a]/\Is H (eD d) B/\H a=some (.dK (mE o))/\ny b w d/\lQ o d=true
def D0(vs:List V)(H:Hp):Prop:=∃(b w:Int)(B:List yh)(F:V)(c:X6)(U:V),vs=[F,U]/\Is H (.tup (B.map eS)) F/\Is H (eC c) U/\c.1<B.length/\ue w c.2/\(∀s∈B,∀d∈s,ny b w d)/\fI (nL c.2) (B.getD c.1 [])=true
def D8(B:List yh)(lo:Nat)(H:Hp)(d:lv):Prop:=∃kvs:List (aJ×V),H d=some (.dK kvs)/\kvs.length<=B.length-lo/\∀j,lo<=j->j<B.length->∃p,yv kvs (Sm (j:Int):aJ)=some (.ref p)/\H p=some (.tup [.int 1,.int ((B.getD j []).length:Int)])
inductive pd(vs:List V)(H:Hp)(Q:VK)(e0:XK):Prop|mk:∀(ss:List yh)(v:V),vs=[v]->Is H (.tup (ss.map eS)) v->ss.length<=20->(∀s∈ss,∀d∈s,yM d)->(∀d H',zh H H'->D8 ss 0 H' d->Q (.ref d) H')->pd vs H Q e0
section
variable{K:O4}
theorem Iv:aA ["thing","house"] ["thing","house"] (ze Qd):=.of
theorem MS(D:bP K mg "is_wall" Qd)(T:Txt K mg)(g:Ok P w K mg base "is_within" 2 ["thing","least","most"] (spT pE)):Ok P w K mg base "is_wall" 3 ["thing","house"] (spT xW):=by refine qf D Iv ?_;rintro f n A b s H o Q E l ⟨⟨v,h,rfl,i,p⟩,k⟩ X;obtain⟨a,c,u,rfl,d,m,j⟩:=Is.at (i:=1) i J;cases(j);exact⟨_,zg (zm (yb g l (za (pv 0) (za zf (za (yd Xk (zk zj (pv 1) (xt T.WALLS)) zf) zb))))),a,c,_,_,J,J,d,m,_,_,J,J,⟨0,0,h.w-1,J,by omega,by omega⟩,k⟩
theorem Ml:aA ["thing","house"] ["thing","house"] (ze Xd):=.of
theorem NO(D:bP K mg "is_member" Xd)(T:Txt K mg)(B:Ok P w K mg base "is_tuple_within" 1 ["thing","least","most"] (spT qE))(z:Ok P w K mg base "is_wall" 3 ["thing","house"] (spT xW)):Ok P w K mg base "is_member" 4 ["thing","house"] (spT DY):=by
 refine qf D Ml ?_;rintro f S A j s H U Q E t ⟨⟨v,F,m,h,rfl,r,M,C,G⟩,k⟩ X;obtain⟨u,o,L⟩:=T.MODES;refine⟨_,zc (yt (gg (Kj (vz (wq (yb B (t.mono (by decide)) (za (pv 0) (za zf (za zf zb)))))) (Wo (vz (wq (yb z t (za (zk zj (pv 0) zf) (za (pv 1) zb)))))))) (zg (zm q9)) zu) (zg (zm (jm (Xj T.isi T.str uT (zk zj (pv 0) zf)) (jl (jx k9 (zk zj (pv 0) zf) (By (v:=.ref u) J o J) J))))),⟨⟨_,v,2,2,J,r,fm _,fm _⟩,λH1 i=>⟨_,J,yn ?_⟩⟩⟩
 have d:=r.mono i;obtain⟨a,x,W,rfl,y,N,l⟩:=Is.at (i:=0) d J;cases(l);refine⟨a,x,_,_,J,J,y,N,⟨F,h,J,M.mono i,C⟩,λp q=>⟨_,J,yn ?_⟩⟩;obtain⟨a2,b,Z,R,c,g,n⟩:=Is.at (i:=1) (d.mono q) J;cases R;cases(n);refine⟨a,b,_,_,J,J,c,g,.str m,"str",_,_,J,(show Is p (.str m) (.str m)from rfl).ty,wB K (.str m),_,J,xx ⟨a,b,_,_,J,J,c,g,u,_,J,.inr (L p),J,J,?_⟩⟩;have e:mY (.str m) [.str "both",.str "come",.str "go"]=true:=by rcases G with rfl|rfl|rfl<;>rfl
 rw[e];exact k p (i.trans q)
theorem Yx:aA ["thing","house","last","member"] ["thing","house"] (ze Yg):=.of
theorem K0(D:bP K mg "are_members" Yg)(T:Txt K mg)(R:Ok P w K mg base "is_member" 4 ["thing","house"] (spT DY)):Ok P w K mg base "are_members" 5 ["thing","house"] (spT DZ):=by
 refine qf D Yx ?_;rintro f ah A t s H vs Q E Z ⟨⟨v,F,S,h,rfl,G,hH,y⟩,k⟩ X;refine⟨_,zc (yt (vz (wq (Xj T.isi T.tuple qi (pv 0)))) (zg (zm q9)) zu) (zc (zn (i:=2) Yx.nd (uG vH zf)) (zc (xy RY J (Zq (pv 0)) (zp (i:=3) Yx.nd) (zc (yt (gg (Kj (vz (wq (yb R Z (za (pv 3) (za (pv 1) zb))))) (Wo (zv Q2 (zk zj (pv 3) zf) (pv 2) (ye _))))) (zg (zm q9)) zu) (zg (zn (i:=2) Yx.nd (zk zj (pv 3) zf)))))
  (zg (zm q9)))),⟨v,"tuple",_,_,J,Is.ty G,CZ K (.tup (S.map nK)),_,J,yn ?_⟩⟩
 obtain⟨a,N,rfl,L,hl⟩:=G;refine⟨_,J,a,J,⟨N,aG.of L⟩,Vs (λi q p=>zh H p/\∃l r,q=[some (.ref a),some F,some (.int l),r]/\(i=0->l= -1)) ⟨zh.refl H,_,_,J,λ_=>rfl⟩ (λi q p _ e=>aG.of (e.1 _ _ L)) ?_ λq p e=>?_⟩;rintro i x q p U ⟨c,l,r,rfl,B⟩;obtain⟨tt,n,j⟩:=hl.get' U;rw[bq]at n;obtain⟨mm,b,rfl⟩:=df.mp n;rcases y with rfl|⟨m,rfl,W,y⟩;cases b;obtain rfl:i=0:=by have:=(d7.mp b).1;simpa using this
 cases b;cases B J;refine⟨⟨x,F,m,h,J,j.mono c,hH.mono c,W,y⟩,λH2 C=>⟨_,J,yn ?_⟩⟩;obtain⟨M,d,u0,rfl,g,o,u⟩:=Is.at (i:=0) ((j.mono c).mono C) J;cases(u);exact⟨M,d,_,_,J,J,g,o,_,_,J,J,_,J,yn ⟨M,d,_,_,J,J,g,o,c.trans C,_,_,J,λz=>kS z (Nat.succ_ne_zero _)⟩⟩;obtain⟨c,l,r,rfl,_⟩:=e;exact k p c
theorem M9:aA ["thing","least","house"] ["thing","least","house"] (ze Y1):=.of
theorem N8(D:bP K mg "is_calling" Y1)(T:Txt K mg)(W:Ok P w K mg base "is_tuple_within" 1 ["thing","least","most"] (spT qE))(U:Ok P w K mg base "is_within" 2 ["thing","least","most"] (spT pE))(S:Ok P w K mg base "are_members" 5 ["thing","house"] (spT DZ)):Ok P w K mg base "is_calling" 6 ["thing","least","house"] (spT D2):=by
 refine qf D M9 ?_;rintro f aj A p s H vs Q E u ⟨⟨c,v,q,h,hv,rfl,F,G,h1,h2,Z⟩,k⟩ X;refine⟨_,zc (yt (vz (wq (yb W (u.mono (by decide)) (za (pv 0) (za zf (za zf zb)))))) (zg (zm q9)) zu) (zg (zm (jm (yb U (u.mono (by decide)) (za (zk zj (pv 0) zf) (za (pv 1) (za (yd Xk (ya yc J T.len wu (za (zk zj (pv 2) (xt T.SCRIPTS)) zb)) zf) zb)))) (jl (yb S (u.mono (by decide)) (za (zk zj (pv 0) zf) (za (pv 2) zb))))))),⟨⟨_,v,2,2,J,F,fm _,fm _⟩,λH1 i=>⟨_,J,yn ?_⟩⟩⟩
 have g:=F.mono i;obtain⟨a,L,ux,rfl,N,ea,r⟩:=Is.at (i:=0) g J;cases(r);obtain⟨ah,M,uh,rfl,m,B,t⟩:=Is.at (i:=3) (G.mono i) J;obtain⟨as,j,rfl,z,x⟩:=t;have y:=x.length;rw[ag]at y;refine⟨a,L,_,_,J,J,N,ea,ah,M,_,_,J,J,m,B,as,j,J,.inr (aG.of z),_,_,J,J,⟨_,_,_,J,h1,by omega⟩,λH2 o=>⟨_,J,xx ?_⟩⟩;obtain⟨a2,l,b,e2,n,C,d⟩:=Is.at (i:=1) (g.mono o) J;cases e2;exact⟨a,l,_,b,J,J,n,C,⟨b,_,_,h,J,d,G.mono (i.trans o),Z⟩,λH3 R=>k H3 (i.trans (o.trans R))⟩
theorem BC:aA ["thing","number","house","word"] ["thing","number","house"] (ze Qe):=.of
theorem MQ(D:bP K mg "is_deed" Qe)(T:Txt K mg)(o1:Ok P w K mg base "is_tuple_within" 1 ["thing","least","most"] (spT qE))(o2:Ok P w K mg base "is_within" 2 ["thing","least","most"] (spT pE))(o4:Ok P w K mg base "is_box" 3 ["thing","house"] (spT D3))(o5:Ok P w K mg base "is_wall" 3 ["thing","house"] (spT xW)) (o6:Ok P w K mg base "is_word" 2 ["thing"] (spT tX)):Ok P w K mg base "is_deed" 7 ["thing","number","house"] (spT D1):=by
 refine qf D BC ?_;rintro f ap A ah s H vs Q E hr ⟨⟨d,v,ak,h,M,rfl,ht,hH,B⟩,k⟩ X;have U:=hr.mono (show 2<=6 by decide);have Z:=hr.mono (show 3<=6 by decide);refine⟨_,zc (yt (gg (Kj (vz (wq (yb o1 (hr.mono (show 1<=6 by decide)) (za (pv 0) (za zf (za zf zb)))))) (Wo (vz (wq (Xj T.isi T.str uT (zk zj (pv 0) zf))))))) (zg (zm q9)) zu) (zc (zn (i:=3) BC.nd (zk zj (pv 0) zf)) (zc (yt (zv vt (pv 3) zr (ye _)) qo zu) (zc (yt (zv vt (pv 3) zr (ye _)) (zg (zm (jm (jx vt (ya yc (by rfl) T.len wu (za (pv 0) zb)) zf (ye _)) (jm (yb o4 Z (za (zk zj (pv 0) zf) (za (pv 2) zb))) (jl (yb o2 U (za (zk zj (pv 0) zf) (za zf (za (xt T.MOST_RAISED) zb))))))))) zu) (zc (yt (zv vt (pv 3) zr (ye _)) (zg (zm (jm (jx vt (ya yc (by rfl) T.len wu (za (pv 0) zb)) zf (ye _)) (jm (yb o4 Z (za (zk zj (pv 0) zf) (za (pv 2) zb))) (jl (yb o2 U (za (zk zj (pv 0) zf) (za zf (za (xt T.MOST_AWAITED) zb))))))))) zu) (zc (yt (zv Q1 (ya yc (by rfl) T.len wu (za (pv 0) zb)) zf (ye _)) qo zu) (zc (yt (zv k9 (pv 3) (Wp (za zr (za zr (za zr zb)))) J) (zg (zm (yb o5 Z (za (zk zj (pv 0) zf) (za (pv 2) zb))))) zu) (zc (yt (zv vt (pv 3) zr (ye _)) (zg (zm (yb o2 U (za (zk zj (pv 0) zf) (za zf (za (xt T.MOST_WORKED) zb)))))) zu) (zg (zm (jm (jx vt (pv 3) zr (ye _)) (jl (yb o6 U (za (zk zj (pv 0) zf) zb))))))))))))),?_⟩
 obtain⟨r,C⟩:=Yt d;have hl:r.length=1\/r.length=2:=by cases d<;>first|exact B.elim|(injection C with e;injection e with _ e;rw[<-e];simp)
 refine⟨⟨_,v,2,3,J,C▸ht,by rw[fg];omega,by rw[fg];omega⟩,λH1 u=>⟨_,J,yn ?_⟩⟩;have i:=ht.mono u;have q:=hH.mono u;obtain⟨a,xs,u0,rfl,sq,ea,aj⟩:=Is.at (i:=0) (C▸i) J;cases(aj);refine⟨a,xs,_,_,J,J,sq,ea,.str (dw d),"str",_,_,J,(show Is H1 (.str (dw d)) (.str (dw d))from rfl).ty,wB K (.str (dw d)),_,J,yn ⟨a,xs,_,_,J,J,sq,ea,J,_,J,?_⟩⟩;cases d with| rai N m=>obtain⟨S,R,m0,m1⟩:=B;obtain⟨F,l,o,b,c⟩:=i;cases o;refine yn ⟨J,_,J,xx ⟨a,l,J,.inr (aG.of b),J,_,J,?_⟩⟩;rw[c.length];obtain⟨_,_,rfl,_,_,_,rfl,n,_,_,rfl,i2,_⟩:=id c;cases(n);cases(i2);refine xx ⟨a,_,1,.int N,J,J,aG.of b,(xb J),⟨N,M,h,J,q,S,R⟩,λt j=>⟨_,J,xx ⟨a,_,2,.int m,J,J,aG.of (j _ _ b),(xb J),⟨m,1,99,J,m0,m1⟩,λH3 W=>k H3 (u.trans (j.trans W))⟩⟩⟩| awa N m=>obtain⟨S,R,m0,m1⟩:=B;obtain⟨F,l,o,b,c⟩:=i;cases o;refine yn ⟨J,_,J,yn ⟨J,_,J,xx ⟨a,l,J,.inr (aG.of b),J,_,J,?_⟩⟩⟩;rw[c.length];obtain⟨_,_,rfl,_,_,_,rfl,n,_,_,rfl,i2,_⟩:=id c;cases(n);cases(i2);refine xx ⟨a,_,1,.int N,J,J,aG.of b,(xb J),⟨N,M,h,J,q,S,R⟩,λt j=>⟨_,J,xx ⟨a,_,2,.int m,J,J,aG.of (j _ _ b),(xb J),⟨m,1,9999,J,m0,m1⟩,λH3 W=>k H3 (u.trans (j.trans W))⟩⟩⟩| say x=>obtain⟨F,l,o,b,c⟩:=i;cases o;refine yn ⟨J,_,J,yn ⟨J,_,J,yn ⟨a,l,J,.inr (aG.of b),J,_,J,?_⟩⟩⟩;rw[c.length];obtain⟨_,_,rfl,_,_,_,rfl,n,_⟩:=id c;cases(n);refine yn ⟨by decide,λp z=>⟨p,_,J,.inr (aG.of zd),J,J,_,J,yn ⟨J,_,J,yn ⟨J,_,J,xx ?_⟩⟩⟩⟩;have g:=zh.new z (.tup [.str "come",.str "go",.str "leave"]);exact⟨a,_,1,.str x,J,J,aG.of (g _ _ b),(xb J),⟨x,J,(by rcases B with rfl|rfl<;>decide+kernel)⟩,λt j=>k t (u.trans (g.trans j))⟩|beg x y=>exact B.elim| com x=>obtain⟨G,L⟩:=B;cases G;obtain⟨F,l,o,b,c⟩:=i;cases o;refine yn ⟨J,_,J,yn ⟨J,_,J,yn ⟨a,l,J,.inr (aG.of b),J,_,J,?_⟩⟩⟩;rw[c.length];obtain⟨_,_,rfl,_,_,_,rfl,n,_⟩:=id c;cases(n);refine yn ⟨by decide,λp z=>⟨p,_,J,.inr (aG.of zd),J,J,_,J,xx ?_⟩⟩;have g:=zh.new z (.tup [.str "come",.str "go",.str "leave"]);exact⟨a,_,1,.int 0,J,J,aG.of (g _ _ b),(xb J),⟨M,h,J,q.mono g,L⟩,λt j=>k t (u.trans (g.trans j))⟩| goo x=>obtain⟨G,L⟩:=B;cases G;obtain⟨F,l,o,b,c⟩:=i;cases o;refine yn ⟨J,_,J,yn ⟨J,_,J,yn ⟨a,l,J,.inr (aG.of b),J,_,J,?_⟩⟩⟩;rw[c.length];obtain⟨_,_,rfl,_,_,_,rfl,n,_⟩:=id c;cases(n);refine yn ⟨by decide,λp z=>⟨p,_,J,.inr (aG.of zd),J,J,_,J,xx ?_⟩⟩;have g:=zh.new z (.tup [.str "come",.str "go",.str "leave"]);exact⟨a,_,1,.int 0,J,J,aG.of (g _ _ b),(xb J),⟨M,h,J,q.mono g,L⟩,λt j=>k t (u.trans (g.trans j))⟩| lea x=>obtain⟨G,L⟩:=B;cases G;obtain⟨F,l,o,b,c⟩:=i;cases o;refine yn ⟨J,_,J,yn ⟨J,_,J,yn ⟨a,l,J,.inr (aG.of b),J,_,J,?_⟩⟩⟩;rw[c.length];obtain⟨_,_,rfl,_,_,_,rfl,n,_⟩:=id c;cases(n);refine yn ⟨by decide,λp z=>⟨p,_,J,.inr (aG.of zd),J,J,_,J,xx ?_⟩⟩;have g:=zh.new z (.tup [.str "come",.str "go",.str "leave"]);exact⟨a,_,1,.int 0,J,J,aG.of (g _ _ b),(xb J),⟨M,h,J,q.mono g,L⟩,λt j=>k t (u.trans (g.trans j))⟩| wor x=>obtain⟨S,R⟩:=B;obtain⟨F,l,o,b,c⟩:=i;cases o;refine yn ⟨J,_,J,yn ⟨J,_,J,yn ⟨a,l,J,.inr (aG.of b),J,_,J,?_⟩⟩⟩;rw[c.length];obtain⟨_,_,rfl,_,_,_,rfl,n,_⟩:=id c;cases(n);refine yn ⟨by decide,λp z=>⟨p,_,J,.inr (aG.of zd),J,J,_,J,yn ⟨J,_,J,xx ?_⟩⟩⟩;have g:=zh.new z (.tup [.str "come",.str "go",.str "leave"]);exact⟨a,_,1,.int x,J,J,aG.of (g _ _ b),(xb J),⟨x,0,999,J,S,R⟩,λt j=>k t (u.trans (g.trans j))⟩
theorem Mn:aA ["thing","number","house"] ["thing","number","house"] (ze Yc):=.of
theorem N0(D:bP K mg "is_script" Yc)(T:Txt K mg)(B:Ok P w K mg base "is_tuple_within" 1 ["thing","least","most"] (spT qE))(z:Ok P w K mg base "is_deed" 7 ["thing","number","house"] (spT D1)):Ok P w K mg base "is_script" 8 ["thing","number","house"] (spT DX):=by
 refine qf D Mn ?_;rintro f Z A g s H vs Q E p ⟨⟨m,v,j,h,L,rfl,o,S,W,U⟩,k⟩ X;refine⟨_,zc (yt (vz (wq (yb B (p.mono (by decide)) (za (pv 0) (za zf (za (xt T.MOST_DEEDS_OF_SCRIPT) zb)))))) (zg (zm q9)) zu) (zg (zm (ya (Zn J) J T.all Xs (za (q8 (own:=["deed"]) (cap:=[1,2]) J (xj (ze Yc) J J (by decide+kernel) (by decide+kernel) (by decide+kernel) ⟨⟨_,J,.inl J,jy J⟩,⟨_,J,.inl J,jy J⟩,trivial⟩) (Zq (pv 0)) (λ_ _ _ _=>zp (i:=0) (by show(["deed","number","house"]:O Str).Nodup;decide+kernel)) (λ_ _ _ _=>wv)
   (λ_ _ _ _=>yb z p (za (pv 0) (za (pv 1) (za (pv 2) zb))))) zb)))),?_⟩
 have M:(m.map eD).length=m.length:=ag _;refine⟨⟨_,v,0,80,J,o,by omega,by omega⟩,λH1 c=>⟨_,J,yn ?_⟩⟩;obtain⟨a,u,rfl,r,q⟩:=o.mono c;have F:=q.length;refine⟨a,J,⟨u,aG.of r⟩,Jp r (by omega) (λi x t R G n C=>?_) λt y=>k t (c.trans y)⟩;obtain⟨tt,b,l⟩:=q.get' G;rw[bq]at b;obtain⟨d,N,rfl⟩:=df.mp b;exact⟨⟨d,x,j,h,L,J,l.mono n,S.mono (c.trans n),U d (dj N)⟩,C⟩
theorem KM:aA ["thing"] ["thing"] (ze Wl):=⟨J,J,J,by simp,J,by decide+kernel,by decide+kernel⟩
theorem Nr(D:bP K mg "is_frame" Wl)(T:Txt K mg)(i:Ok P w K mg base "is_tuple_within" 1 ["thing","least","most"] (spT qE))(y:Ok P w K mg base "is_within" 2 ["thing","least","most"] (spT pE)):Ok P w K mg base "is_frame" 3 ["thing"] (spT nr):=by
 refine qf D KM ?_;rintro f aj A g s H vs Q E n ⟨⟨h,v,rfl,z,F⟩,k⟩ X;have c:=n.mono (show 1<=2 by decide);obtain⟨b0,t,w0,n1,W,f1,ah,_⟩:=F;refine⟨_,zc (yt (vz (wq (yb i c (za (pv 0) (za zf (za zf zb)))))) (zg (zm q9)) zu) (zc (yt (gg (Kj (vz (wq (yb y n (za (zk zj (pv 0) (xt T.BOXES)) (za zf (za (xt T.MOST_BOXES) zb)))))) (Wo (vz (wq (yb y n (za (zk zj (pv 0) (xt T.WALLS)) (za zf (za (xt T.MOST_WALLS) zb))))))))) (zg (zm q9)) zu)
  (zg (zm (jm (yb i c (za (zk zj (pv 0) (xt T.FIRSTS)) (za zf (za (xt T.MOST_FIRSTS) zb)))) (jl (yb i c (za (zk zj (pv 0) (xt T.SCRIPTS)) (za zf (za (xt T.MOST_SCRIPTS) zb))))))))),⟨⟨_,v,4,4,J,z,fm _,fm _⟩,λH1 b=>⟨_,J,yn ?_⟩⟩⟩
 have j:∀{G:Hp},zh H G->∃p q r,v=.ref p/\G p=some (.tup [.int h.b,.int h.w,q,r])/\Is G (.tup (h.fs.map eC)) q/\Is G (.tup (h.ss.map eS)) r:=λ{G} M=>by obtain⟨p,xs,rfl,hp,u1,c,rfl,i1,u2,r2,rfl,i2,L,R,rfl,m,C,x,rfl,l,Z⟩:=z.mono M;cases(i1);cases(i2);cases(Z);exact⟨p,L,C,J,hp,m,l⟩
 obtain⟨p,q,r,rfl,B,_,_⟩:=j b;have lf:(h.fs.map eC).length=h.fs.length:=ag _;have ls:(h.ss.map eS).length=h.ss.length:=ag _;refine⟨p,_,_,_,J,J,aG.of B,J,⟨_,0,99,J,b0,t⟩,λH2 a=>⟨_,J,yn ⟨p,_,_,_,J,J,aG.of (a _ _ B),J,⟨_,0,6,J,by omega,by omega⟩,λH3 d=>⟨_,J,yn ?_⟩⟩⟩⟩;obtain⟨U,S,R,o,h3,m,_⟩:=j (b.trans (a.trans d));cases o;refine⟨p,_,_,_,J,J,aG.of h3,J,⟨_,S,1,40,J,m,by omega,by omega⟩,λH4 u=>⟨_,J,xx ?_⟩⟩;obtain⟨U,q4,x,o,h4,_,l⟩:=j (b.trans (a.trans (d.trans u)));cases o;exact⟨p,_,_,_,J,J,aG.of h4,J,⟨_,x,1,20,J,l,by omega,by omega⟩,λH5 N=>k H5 (b.trans (a.trans (d.trans (u.trans N))))⟩
end
noncomputable def DT(n i q:Nat):List aF:=[.rai 0 1,.awa 0 ((n:Int)*((q:Int)+1))]
noncomputable def gP(n i:Nat):List Nat:=(Ri n).filter λj=>decide (j≠i)
def tT(n i q:Nat):List aF:=.rai (i:Int) 1::(gP n i).map λj:Nat=>aF.awa (j:Int) ((q:Int)+1)
noncomputable def rP(n i:Nat):List Nat:=[2*i+1,2*i+2].filter λj=>decide (j<n)
def tS(n i q:Nat):List aF:=(rP n i).map (λj:Nat=>aF.awa (j:Int) ((q:Int)+1))++[.rai (i:Int) 1]++(if i=0 then[]else[.awa 0 ((q:Int)+1)])
theorem sV{k:Int}(h:H p=some (.tup [.str "raise",.int b,.int k])):Is H (eD (.rai b k)) (.ref p):=⟨p,_,J,h,_,_,J,J,_,_,J,J,_,_,J,J,J⟩
theorem rg{k:Int}(h:H p=some (.tup [.str "await",.int b,.int k])):Is H (eD (.awa b k)) (.ref p):=⟨p,_,J,h,_,_,J,J,_,_,J,J,_,_,J,J,J⟩
theorem Qq(h:H p=some (.tup [.str "say",.str x])):Is H (eD (.say x)) (.ref p):=⟨p,_,J,h,_,_,J,J,_,_,J,J,J⟩
theorem rj(h:H l=some (.lst xs))(i:IsL H ts xs):Is H (.lst ts) (.ref l):=⟨l,xs,J,h,i⟩
theorem xn{H:Hp}:∀{ts b:List T}{xs a:List V},IsL H ts xs->IsL H b a->IsL H (ts++b) (xs++a)|[],b,xs,a,h,g=>by cases(h);exact g| t::ts,b,xs,a,h,g=>by obtain⟨v,r,rfl,d,c⟩:=h;exact⟨v,r++a,J,d,xn c g⟩
theorem wz{t:T}(h:Is H t v):IsL H [t] [v]:=⟨v,[],J,h,J⟩
theorem mF{i j:Int}(d:0<=i)(c:i<=1000)(b:0<=j)(a:j<=1000):qN i j:=by unfold qN;omega
theorem CM(n i:Nat):(Ri (n+1)).filter (λj=>decide (j≠i))=(Ri n).filter (λj=>decide (j≠i))++if n≠i then[n]else[]:=by
 rw[Rj,PZ]
 grind
theorem IM(n i:Nat):(gP n i).length<=n:=by
 unfold gP
 grind
theorem A4(n i:Nat):(rP n i).length<=2:=by unfold rP;grind
theorem ig(a:O dD):qb (a.map nK):=by rw[qb.all];intro t b;obtain⟨m,_,rfl⟩:=bz.mp b;exact⟨trivial,trivial,trivial⟩
theorem ir(d:aF):bS (eD d):=by cases d with| beg j a=>exact⟨trivial,trivial,ig a,trivial⟩|_=>first|exact⟨trivial,trivial,trivial⟩|exact⟨trivial,trivial,trivial,trivial⟩
theorem fx(b:O aF):qb (b.map eD):=by rw[qb.all];intro t a;obtain⟨m,_,rfl⟩:=bz.mp a;exact ir m
theorem gc(a:O yh):qb (a.map eS):=by rw[qb.all];intro t b;obtain⟨m,_,rfl⟩:=bz.mp b;exact fx m
structure Gr(H0 H:Hp)(l:lv)(ds:List aF)(ys:List V):Prop where
 same:zh H0 H
 at':H l=some (.lst ys)
 it:IsL H (ds.map eD) ys
theorem Gr.apps{j a:Hp}{f d:O aF}{c:O V}(n:j l=none)(g:Gr j H l f ys)(s:zh H a)(i:IsL a (d.map eD) c):Gr j (ji a l (.lst (ys++c))) l (f++d) (ys++c):=by
 have k:zy a (ji a l (.lst (ys++c))):=λb m e=>by rw[ja (λz=>by rw[z,s _ _ g.at']at e;cases e)];exact e
 refine⟨λb o e=>?_,zd,?_⟩;rw[ja (λz=>by simp_all)];exact s _ _ (g.same _ _ e);rw[bo];exact xn (IsL.tups k (fx f) (g.it.mono s)) (IsL.tups k (fx d) i)
theorem Gr.app{b a:Hp}{c:O aF}{d:aF}(f:b l=none)(g:Gr b H l c ys)(s:zh H a)(i:Is a (eD d) v):Gr b (ji a l (.lst (ys++[v]))) l (c++[d]) (ys++[v]):=g.apps f s (wz i)
theorem Vc{n:Nat}(h:n<1000):n<TL:=dc h (je (au 1000))
theorem back{a n:Nat}(h:a<n):((i:Int)-(a:Int))%(n:Int)=(((i+n-a)%n:Nat):Int):=by rw[Int.natCast_emod,Int.ofNat_sub (by omega),Po,show((i:Int)+n-a)=(i-a)+n by omega,Pk]
noncomputable def mj(n i q:Nat):Nat->Nat->Nat->List aF|0,_,_=>[]|f+1,k,B=>if B<n then aF.rai ((k*n+i:Nat):Int) 1::.awa ((k*n+(i+n-B)%n:Nat):Int) ((q:Int)+1)::mj n i q f (k+1) (2*B)else[]
def xU(n i q:Nat):List aF:=mj n i q 5 0 1
noncomputable def mx(n:Nat):Nat->Nat->Nat|0,_=>0|f+1,B=>if B<n then mx n f (2*B)+1 else 0
theorem IC{n:Nat}:∀{f k a:Nat},n<=a->mj n i q f k a=[]|0,_,_,_=>rfl|f+1,k,a,h=>by unfold mj;rw[kr (by omega)]
def K4(kd:Str):Prop:=kd="shared"\/kd="own"\/kd="spread"\/kd="tree"
def kQ(kd:Str)(n i q:Nat):List aF:=if kd="shared" then DT n i q else if kd="own" then tT n i q else if kd="spread" then xU n i q else tS n i q
def one(kd:Str)(n i q:Nat):List aF:=.say "come"::kQ kd n i q++[.say "go"]
def fJ(kd:Str)(n i p:Nat):List aF:=(Ri p).flatMap (one kd n i)
theorem BQ{n i q:Nat}:∀(f k a:Nat),(mj n i q f k a).length<=2*f
 |0,_,_=>au 0
 | f+1,k,a=>by
   unfold mj;by_cases h:a<n;rw[kP h,fg,fg];have:=BQ (n:=n) (i:=i) (q:=q) f (k+1) (2*a);omega
   grind
theorem kC{n:Nat}(h:i<n):(gP n i).length+1<=n:=by
 unfold gP;have a:=(List.length_filter_lt_length_iff_exists (p:=λj=>decide (j≠i))).mpr ⟨i,cr.mpr h,by simp⟩
 grind
theorem Jt{n:Nat}(d:i<n)(f:n<=16):(kQ kd n i q).length<=16:=by
 unfold kQ;by_cases c:kd="shared";rw[kP c];show 2<=16;decide;rw[kr c];by_cases b:kd="own";rw[kP b];unfold tT;rw[fg,ag];have:=kC d;omega;rw[kr b];by_cases a:kd="spread";rw[kP a];have:=BQ (n:=n) (i:=i) (q:=q) 5 0 1;unfold xU;omega;rw[kr a];unfold tS;rw[cq,cq,ag];have:=A4 n i
 grind
theorem HX{n:Nat}(b:i<n)(a:n<=16):(one kd n i q).length<=18:=by
 unfold one;rw[cq,fg];have:=Jt (kd:=kd) (q:=q) b a
 simp_all
theorem Cn(kd:Str)(n i p:Nat):fJ kd n i (p+1)=fJ kd n i p++one kd n i p:=by unfold fJ;rw[Rj,P7];simp
theorem Bc{kd:Str}{n i:Nat}(b:i<n)(a:n<=16):∀p,(fJ kd n i p).length<=18*p|0=>au 0| p+1=>by rw[Cn,cq];have:=Bc (kd:=kd) b a p;have:=HX (kd:=kd) (q:=p) b a;omega
abbrev xC:Sj:=bI 68
abbrev xD:Sj:=bI 69
abbrev Kg:Sj:=bI 70
inductive pc(K:O4)(vs:List V)(H:Hp)(Q:VK)(e0:XK):Prop|mk:∀(a:lv)(ns:List Int)(k:Nat),vs=[.ref a,.int (k:Int)]->aK K H a (ns.map V.int)->(∀c:Int,Q (.int c) H)->pc K vs H Q e0
inductive nV(K:O4)(vs:List V)(H:Hp)(Q:VK)(e0:XK):Prop|mk:∀(a:lv)(ns:List Int)(k:Nat),vs=[.ref a,.int (k:Int)]->aK K H a (ns.map V.int)->(∀(l:lv)(x:Int),H l=none->Q (.ref l) (ji H l (.lst [.int x])))->nV K vs H Q e0
inductive mr(vs:List V)(H:Hp)(Q:VK)(e0:XK):Prop|mk:∀(a:lv)(x m:Int),vs=[.ref a,.int m]->H a=some (.lst [.int x])->0<m->m<=100->(0<=x%m->x%m<m->Q (.int (x%m)) (ji H a (.lst [.int (x/m)])))->mr vs H Q e0
section
variable{K:O4}
theorem KL:aA ["script","k"] ["script","k"] (ze xC):=.of
theorem JT(D:bP K mg "_law_acell" xC)(T:Txt K mg):Ok P w K mg base "_law_acell" 1 ["script","k"] (pc K):=by refine qf D KL ?_;rintro f i A b s H j Q E m ⟨a,l,k,rfl,g,d⟩ X;refine⟨_,zc (yt (zv pQ (pv 1) (ya yc (by rfl) T.len wu (za (pv 0) zb)) (ye _)) (zg (zm (zk wy (pv 0) (pv 1)))) zu) (zg (zm zf)),⟨a,_,J,.inl g,_,_,J,J,_,J,Qp (λc=>?_) (λc=>?_)⟩⟩;have c:=cz c;rw[ag]at c;exact⟨a,_,_,_,J,J,g,xb (by rw[bq,cg (by omega)];rfl),d _⟩;exact d 0
theorem Cy:aA ["script","k","cell","p","number","last","turn"] ["script","k"] (ze xD):=.of
theorem JV(D:bP K mg "_law_atape" xD)(T:Txt K mg)(r:Ok P w K mg base "_law_acell" 1 ["script","k"] (pc K)):Ok P w K mg base "_law_atape" 2 ["script","k"] (nV K):=by
 refine qf D Cy ?_;rintro f z A n s H F Q E x ⟨a,t,k,rfl,y,q⟩ X;have b:=Cy.nd;refine⟨_,zc (zn (i:=2) b (yb r x (za (pv 0) (za (pv 1) zb)))) (zc (yt (zv vt (yd Wq (pv 2) zf) zf (ye _)) (zg (zm (uY (za (yd Bs (pv 2) zf) zb)))) zu) (zc (zn (i:=3) b zf) (zc (zn (i:=4) b zf) (zc (zn (i:=5) b (yd Wq (yd xz (yd xz (yd kz (yd Wq (pv 2) (pv 3)) zf) (yd kz zf (pv 1))) zf) (pv 3))) (zc (xy RY J (wc J T.range (za zf zb)) (zp (i:=6) b) (zc (zn (i:=4) b (yd xz (yd kz (pv 4) (pv 3)) (pv 5))) (zg (zn (i:=5) b (yd Wq (yd xz (yd xz (yd kz (pv 5) (pv 5)) (yd kz zf (pv 1))) (pv 6)) (pv 3))))))
  (zg (zm (uY (za (pv 4) zb))))))))),⟨a,t,k,J,y,λc=>⟨_,_,J,J,(show(0:Int)<2 by decide),J,_,J,Qp (λ_=>?_) (λ_=>?_)⟩⟩⟩
 exact⟨_,_,J,J,⟨by decide,by decide⟩,cG,λl p=>q l _ p⟩;have d:(0:Int)<2305843009213693951:=by decide
 have L:=lh c d;refine⟨_,_,J,J,d,_,_,J,J,.inr ⟨by decide,by decide⟩,_,_,J,J,.inl ⟨by decide,by decide⟩,_,_,J,J,_,_,J,J,_,_,J,J,d,⟨7,J,by decide,by decide,(js (λj i C=>C=H/\∃(o g:Int)(m:Option V),0<=g/\g<2305843009213693951/\i=[some (.ref a),some (.int k),some (.int c),some (.int 2305843009213693951),some (.int o),some (.int g),m]) ⟨J,0,(c%2305843009213693951*48271+69621*k+11)%2305843009213693951,none,Pm _ (by decide),lh _ d,J⟩ ?_ ?_)⟩⟩;rintro j i B G ⟨rfl,o,g,m,v,u,rfl⟩;exact⟨_,_,J,J,.inr ⟨by decide,by decide⟩,_,_,J,J,⟨_,_,J,J,.inr ⟨by omega,by omega⟩,_,_,J,J,.inl ⟨by decide,by decide⟩,_,_,J,J,_,_,J,J,_,_,J,J,d,⟨J,_,_,_,Pm _ (by decide),lh _ d,J⟩⟩⟩;rintro i B ⟨rfl,o,g,m,v,u,rfl⟩;exact⟨cG,λl p=>q l _ p⟩
theorem Da:aA ["tape","many","found"] ["tape","many"] (ze Kg):=.of
theorem LG(D:bP K mg "_law_adigit" Kg)(T:Txt K mg):Ok P w K mg base "_law_adigit" 1 ["tape","many"] mr:=by refine qf D Da ?_;rintro f j A c s H k Q E l ⟨a,x,m,rfl,d,b,i,g⟩ X;exact⟨_,zc (zn (i:=2) Da.nd (yd Wq (zk wy (pv 0) zf) (pv 1))) (zc (uZ (yd Bs (zk wy (pv 0) zf) (pv 1)) (AC (pv 0) zf J8)) (zg (zm (pv 2)))),⟨a,_,_,_,J,J,aK.of d,J,_,_,J,J,b,⟨a,_,_,_,J,J,aK.of d,J,_,_,J,J,⟨b,by omega⟩,a,_,_,_,J,J,d,J,((g (Pm _ (by omega)) (lh _ b)))⟩⟩⟩
end
abbrev Xf:Sj:=bI 71
inductive mv(vs:List V)(H:Hp)(Q:VK)(e0:XK):Prop|mk:∀(kd:Str)(n i q:Nat),vs=[.str kd,.int (n:Int),.int (i:Int),.int (q:Int)]->K4 kd->i<n->n<=16->q<4->(∀v H',zh H H'->Is H' (.lst ((kQ kd n i q).map eD)) v->Q v H')->mv vs H Q e0
theorem hY{a:Hp}(s:zh H a)(h:a l=none):H l=none:=by cases z:H l with|none=>rfl|some o=>rw[s _ _ z]at h;cases h
section
variable{K:O4}
theorem Db:aA ["kind","n","i","q","found","k","far"] ["kind","n","i","q"] (ze Xf):=.of
theorem LH(D:bP K mg "_law_aphase" Xf)(T:Txt K mg):Ok P w K mg base "_law_aphase" 1 ["kind","n","i","q"] mv:=by
 refine qf D Db ?_;rintro f a5 A av s H vs Q E hr ⟨C,n,i,q,rfl,k4,hi,a4,hq,o⟩ X;have N:=Db.nd;refine⟨_,zc (yt (zv vt (pv 0) zr (ye _)) (zg (zm (yq (za (zx (za zr (za zf (za zf zb)))) (za (zx (za zr (za zf (za (yd kz (pv 1) (yd xz (pv 3) zf)) zb)))) zb))))) zu) (zc (yt (zv vt (pv 0) zr (ye _)) (zg (zm (yd Zd (yq (za (zx (za zr (za (pv 2) (za zf zb)))) zb)) (q8 (own:=["j"]) (cap:=[3,2]) J (xj (ze Xf) J J (by decide+kernel) (by decide+kernel) (by decide+kernel) ⟨⟨_,J,.inl J,jy J⟩,⟨_,J,.inl J,jy J⟩,trivial⟩) (wc J T.range (za (pv 1) zb)) (λ_ _ _ _=>zp (i:=0) (by show(["j","q","i"]:O Str).Nodup;decide+kernel)) (λ_ _ _ _=>Xz (zv Q1 (pv 0) (pv 2) (ye _))) (λ_ _ _ _=>zx (za zr (za (pv 0) (za (yd xz (pv 1) zf) zb)))))))) zu)
  (zc (yt (zv vt (pv 0) zr (ye _)) (zc (zn (i:=4) N (yd Zd (q8 (own:=["j"]) (cap:=[3,1]) J (xj (ze Xf) J J (by decide+kernel) (by decide+kernel) (by decide+kernel) ⟨⟨_,J,.inl J,jy J⟩,⟨_,J,.inl J,jy J⟩,trivial⟩) (Zq (zx (za (yd xz (yd kz zf (pv 2)) zf) (za (yd xz (yd kz zf (pv 2)) zf) zb)))) (λ_ _ _ _=>zp (i:=0) (by show(["j","q","n"]:O Str).Nodup;decide+kernel)) (λ_ _ _ _=>Xz (zv pQ (pv 0) (pv 2) (ye _))) (λ_ _ _ _=>zx (za zr (za (pv 0) (za (yd xz (pv 1) zf) zb)))))
    (yq (za (zx (za zr (za (pv 2) (za zf zb)))) zb))))
   (zc (yt (zv zR (pv 2) zf (ye _)) (zg (y0 (Zu PySem.F.plainAttrs_list PySem.F.slot_list_append PySem.F.type_list_append vm (pv 4) (za (zx (za zr (za zf (za (yd xz (pv 3) zf) zb)))) zb)))) zu) (zg (zm (pv 4))))) zu)
  (zc (zn (i:=4) N (yq zb)) (zc (zn (i:=5) N zf) (zc (zn (i:=6) N zf) (zc (Vj RY (zv pQ (pv 6) (pv 1) (ye _)) (zc (zn (i:=4) N (yd Zd (pv 4) (yq (za (zx (za zr (za (yd xz (yd kz (pv 5) (pv 1)) (pv 2)) (za zf zb)))) (za (zx (za zr (za (yd xz (yd kz (pv 5) (pv 1)) (yd Wq (yd Xk (pv 2) (pv 6)) (pv 1))) (za (yd xz (pv 3) zf) zb)))) zb))))) (zc (zn (i:=5) N (yd xz (pv 5) zf)) (zg (zn (i:=6) N (yd kz zf (pv 6)))))))
  (zg (zm (pv 4))))))))),?_⟩
 unfold kQ at o;refine⟨J,_,J,Qp (λc=>?_) (λc=>?_)⟩;have c:C="shared":=V.str.inj (cz c);rw[kP c]at o;refine⟨by show 3<=1000;decide,λp1 H1 r h1 g1=>?_⟩;refine⟨_,_,J,J,_,_,J,J,mF (by omega) (by omega) (by omega) (by omega),by show 3<=1000;decide,λp2 H2 M h2 g2=>?_⟩;refine⟨by show 2<=1000;decide,λl Zl u hl gl=>?_⟩;exact o _ _ (r.trans (M.trans u)) (rj gl ((xn (wz (sV (M _ _ g1))) (wz (rg g2))).mono u));have c0:¬C="shared":=λz=>c (by rw[z];exact cf J);rw[kr c0]at o;refine⟨J,_,J,Qp (λc=>?_) (λc=>?_)⟩;have c:C="own":=V.str.inj (cz c);rw[kP c]at o;refine⟨by show 3<=1000;decide,λp1 H3 u h1 g3=>?_⟩;refine⟨by show 1<=1000;decide,λl1 H4 L ak g4=>?_⟩;refine⟨_,J,by omega,by omega,?_⟩;let az:Nat->O V->Hp->Prop:=λj b g=>zh H4 g/\IsL g (((Ri j).filter λz=>decide (z≠i)).map λz:Nat=>eD (.awa (z:Int) ((q:Int)+1))) b;refine Zj (lo:=0) (n:=(n:Int).toNat) az ⟨zh.refl H4,J⟩ (λj b g hj ⟨_,e⟩=>?_) ?_ ?_;have e:=e.length;rw[ag]at e;have:=i0 (λz=>decide (z≠i)) (Ri j);rw[d9]at this;rw[dm]at hj;exact je (by omega);rintro j b B hj ⟨U,e⟩;refine⟨J,_,J,Qp (λz=>?_) (λz=>?_)⟩;have z:j≠i:=λe=>by rw[e,gh]at z;simp at z
 refine⟨_,_,J,J,by show 3<=1000;decide,λp H6 d hp F=>?_⟩;rw[gh]at F;refine⟨U.trans d,?_⟩;rw[CM,kP z,bo];exact xn (e.mono d) (wz (rg F));have z:j=i:=OL λe=>z (by have:V.int (0+(j:Int))≠V.int (i:Int):=λy=>e (by have:=V.int.inj y;omega);rw[fb this];rfl)
 refine⟨U,?_⟩;rw[CM,kr (λy=>y z),eh];exact e;rintro b B ⟨U,e⟩ t v;rw[dm,show((Ri n).filter λz=>decide (z≠i))=gP n i from rfl]at e;have d:=zh.new v (.lst b);have F:ji B t (.lst b) t=some (.lst b):=zd;generalize ji B t (.lst b)=H6 at d F⊢;have el:=e.length;rw[ag]at el;have ol:=IM n i;refine⟨l1,t,_,_,J,J,d _ _ (U _ _ g4),F,by show 1+b.length<=1000;omega,λl3 a6 G aj aw=>?_⟩;refine o _ _ (u.trans (L.trans (U.trans (d.trans G)))) (rj aw ?_);have:=xn (wz (sV (d _ _ (U _ _ (L _ _ g3))))) (e.mono d);have e2:(tT n i q).map eD=[eD (.rai (i:Int) 1)]++(gP n i).map λz:Nat=>eD (.awa (z:Int) ((q:Int)+1)):=by unfold tT;rw[d8,ck];rfl
 rw[e2];exact this.mono G;have c1:¬C="own":=λz=>c (by rw[z];exact cf J);rw[kr c1]at o;refine⟨J,_,J,Qp (λc=>?_) (λc=>?_)⟩;have c:C="tree":=V.str.inj (cz c);have c2:¬C="spread":=λz=>by rw[c]at z;exact kS z (by decide)
 rw[kr c2]at o;refine⟨_,_,J,J,mF (by omega) (by omega) (by omega) (by omega),_,_,J,J,_,_,J,J,mF (by omega) (by omega) (by omega) (by omega),_,_,J,J,by show 2<=1000;decide,λp0 H0 s0 h0 g0=>?_⟩;refine⟨p0,J,⟨_,aG.of g0⟩,?_⟩;let ay:Nat->O V->Hp->Prop:=λj b g=>zh H0 g/\IsL g (((([2*i+1,2*i+2]:O Nat).take j).filter λz=>decide (z<n)).map λz:Nat=>eD (.awa (z:Int) ((q:Int)+1))) b;refine uX (xs:=[.int (2*(i:Int)+1),.int (2*(i:Int)+2)]) ay ⟨zh.refl H0,J⟩ (λj b g hj ⟨s',e⟩=>⟨aG.of (s' _ _ g0),?_⟩) ?_ ?_;have e:=e.length;rw[ag]at e;have:=i0 (λz=>decide (z<n)) (([2*i+1,2*i+2]:O Nat).take j);rw[ia]at this;have t2:([2*i+1,2*i+2]:O Nat).length=2:=rfl;exact je (by omega);rintro j x b g hx ⟨r,e⟩;obtain⟨z,hz,rfl⟩:∃z:Nat,([2*i+1,2*i+2]:O Nat)[j]?=some z/\x=V.int (z:Int):=by match j,hx with|0,hx=>cases hx;exact⟨_,J,by congr 1⟩|1,hx=>cases hx;exact⟨_,J,by congr 1⟩
 refine⟨_,_,J,J,_,J,Qp (λc=>?_) (λc=>?_)⟩;have c:z<n:=by have:=cz c;omega
 refine⟨_,_,J,J,by show 3<=1000;decide,λp Zp d hp gp=>?_⟩;refine⟨r.trans d,?_⟩;rw[List.take_succ,hz,PZ,bo];show IsL _ (_++List.map _ (PX _ [z])) _;rw[P1,kP (cf c)];exact xn (e.mono d) (wz (rg gp));have c:¬z<n:=λy=>c (cf (by omega));refine⟨r,?_⟩;rw[List.take_succ,hz,PZ,bo];show IsL _ (_++List.map _ (PX _ [z])) _;rw[P1,kr (by rw[fb c];exact cy),List.filter_nil,QU,eh];exact e;rintro b B ⟨r,e⟩ t v;rw[show((([2*i+1,2*i+2]:O Nat).take ([.int (2*(i:Int)+1),.int (2*(i:Int)+2)]:O V).length).filter λz=>decide (z<n))=rP n i from rfl]at e;have ol:=A4 n i;have d:=zh.new v (.lst b);have F:ji B t (.lst b) t=some (.lst b):=zd;generalize ji B t (.lst b)=H6 at d F⊢;have el:=e.length;rw[ag]at el;refine⟨by show 3<=1000;decide,λp1 H7 G h1 g7=>?_⟩;refine⟨by show 1<=1000;decide,λl1 H8 W ak g8=>?_⟩;refine⟨t,l1,_,_,J,J,W _ _ (G _ _ F),g8,by show b.length+1<=1000;omega,λl3 H9 s9 aj g9=>?_⟩;have ah:H l3=none:=hY (s0.trans (r.trans (d.trans (G.trans W)))) aj;have S9:zh H H9:=s0.trans (r.trans (d.trans (G.trans (W.trans s9))));have i9:IsL H9 (((rP n i).map (λz:Nat=>aF.awa (z:Int) ((q:Int)+1))++[aF.rai (i:Int) 1]).map eD) (b++[.ref p1]):=by rw[bo,ck];exact xn (e.mono (d.trans (G.trans (W.trans s9)))) (wz (sV (s9 _ _ (W _ _ g7))))
 have G9:Gr H H9 l3 _ _:=⟨S9,g9,i9⟩
 refine⟨_,_,J,J,_,J,Qp (λc=>?_) (λc=>?_)⟩;have c:¬i=0:=by have:=cz c;omega
 refine⟨.inl ⟨J,_,aK.of g9⟩,_,_,J,J,by show 3<=1000;decide,λp4 a7 Z h4 ax=>?_⟩;refine⟨l3,_,_,J,J,Z _ _ g9,Vc (by rw[cq];show b.length+1<1000;omega),?_⟩;have S:=G9.app ah Z (rg ax);refine(o _ _ S.same (rj S.at' ?_));unfold tS;rw[kr c];exact S.it;have c:i=0:=OL λz=>c (cf (by omega));refine(o _ _ S9 (rj g9 ?_));unfold tS;rw[kP c,eh];exact i9;have c2:C="spread":=by rcases k4 with z|z|z|z;exact kS z c0;exact kS z c1;exact z;exact kS (by rw[z];exact cf J) c
 rw[kP c2]at o;refine⟨by show 0<=1000;decide,λl H0 s0 hl g0=>?_⟩;let aq:Nat->L2.St->Hp->Prop:=λm σ g=>∃(k a:Nat)(l:Y)(ds:O aF)(b:O V),zh H g/\g l=some (.lst b)/\IsL g (ds.map eD) b/\ds++mj n i q m k a=xU n i q/\n<=a*2^m/\a<=32/\m+k=5/\ds.length=2*k/\σ=[some (.str C),some (.int (n:Int)),some (.int (i:Int)),some (.int (q:Int)),some (.ref l),some (.int (k:Int)),some (.int (a:Int))];refine⟨aq,⟨5,0,1,l,[],[],s0,g0,J,J,by omega,by omega,J,J,by simp[L2.start]⟩,?_⟩
 rintro m σ H1 ⟨k,a,l,ds,b,S1,ap,R,e1,hn,a3,hm,hd,rfl⟩;refine⟨_,_,J,J,_,J,Qp (λc=>?_) (λc=>?_)⟩;have c:a<n:=by have:=cz c;omega
 obtain⟨m,rfl⟩:∃m',m=m'+1:=by cases m with|zero=>rw[Nat.pow_zero,Nat.mul_one]at hn;omega|succ m=>exact⟨m,J⟩
 refine⟨_,λaS g z=>⟨m,by omega,z⟩,?_⟩;have yl:=R.length;rw[ag]at yl;have e4:(k:Int)*(n:Int)+(i:Int)=((k*n+i:Nat):Int):=by rw[Po,Int.natCast_mul]
 have e5:(k:Int)*(n:Int)+((i:Int)-(a:Int))%(n:Int)=((k*n+(i+n-a)%n:Nat):Int):=by rw[back c,Po,Int.natCast_mul]
 refine⟨_,_,J,J,mF (by omega) (by omega) (by omega) (by omega),_,_,J,J,by show 3<=1000;decide,λp1 H2 r h1 g1=>?_⟩;refine⟨_,_,J,J,mF (by omega) (by omega) (by omega) (by omega),_,_,J,J,_,_,J,J,(by omega),_,_,J,J,_,_,J,J,by show 3<=1000;decide,λp2 H3 M h2 g2=>?_⟩;refine⟨by show 2<=1000;decide,λl1 H4 u ak g3=>?_⟩;refine⟨l,l1,_,_,J,J,u _ _ (M _ _ (r _ _ ap)),g3,by show b.length+2<=1000;omega,λt B L v g4=>?_⟩;have r1:Is B (eD (.rai ((k*n+i:Nat):Int) 1)) (.ref p1):=sV (by rw[<-e4];exact L _ _ (u _ _ (M _ _ g1)));have r2:Is B (eD (.awa ((k*n+(i+n-a)%n:Nat):Int) ((q:Int)+1))) (.ref p2):=rg (by rw[<-e5];exact L _ _ (u _ _ g2));refine⟨_,_,J,J,_,_,J,J,mF (by omega) (by omega) (by omega) (by omega),?_⟩;refine⟨k+1,2*a,t,ds++[.rai ((k*n+i:Nat):Int) 1,.awa ((k*n+(i+n-a)%n:Nat):Int) ((q:Int)+1)],_,S1.trans (r.trans (M.trans (u.trans L))),g4,?_,?_,?_,by omega,by omega,?_,?_⟩;rw[bo];exact xn (R.mono (r.trans (M.trans (u.trans L)))) (xn (wz r1) (wz r2));rw[<-e1,PK];congr 1;show _=(if a<n then _ else _);rw[kP c];rfl;rw[Nat.pow_succ]at hn;rw[RG 2 a,Nat.mul_assoc,RG 2];exact hn;rw[cq,hd];show 2*k+2=2*(k+1);omega;have e6:(k:Int)+1=((k+1:Nat):Int):=by omega
 have e7:2*(a:Int)=((2*a:Nat):Int):=by omega
 rw[<-e6,<-e7];rfl;have c:n<=a:=OL λz=>c (cf (by omega));rw[IC c,eh]at e1;subst e1;exact(o _ _ S1 (rj ap R))
end
section
variable{K:O4}
theorem uN:aA ["thing","number","script"] ["thing"] (ze qw):=.of
theorem Vo(D:bP K mg "is_well_formed" qw)(T:Txt K mg)(o1:Ok P w K mg base "is_frame" 3 ["thing"] (spT nr))(o2:Ok P w K mg base "is_script" 8 ["thing","number","house"] (spT DX))(o3:Ok P w K mg base "is_calling" 6 ["thing","least","house"] (spT D2)):Ok P w K mg base "is_well_formed" 9 ["thing"] (spT nr):=by
 refine qf D uN ?_;rintro f aq A G s H vs Q E hr ⟨⟨h,v,rfl,m,F⟩,k⟩ X;refine⟨_,zc (yt (vz (wq (yb o1 (hr.mono (by decide)) (za (pv 0) zb)))) (zg (zm q9)) zu) (zc (xy RY J (wZ J T.enumerate (za (zk zj (pv 0) (xt T.SCRIPTS)) zb)) (ky J (yu (zp (i:=1) uN.nd) (yu (zp (i:=2) uN.nd) qx))) (zg (yt (vz (wq (yb o2 hr (za (pv 2) (za (pv 1) (za (pv 0) zb)))))) (zg (zm q9)) zu)))
  (zg (zm (ya (Zn J) J T.all Xs (za (q8 (own:=["calling"]) (cap:=[0]) J (xj (ze qw) J J (by decide+kernel) (by decide+kernel) (by decide+kernel) ⟨⟨_,J,.inl J,jy J⟩,trivial⟩) (Zq (zk zj (pv 0) (xt T.FIRSTS))) (λ_ _ _ _=>zp (i:=0) (by show(["calling","thing"]:O Str).Nodup;decide+kernel)) (λ_ _ _ _=>wv)
   (λ_ _ _ _=>yb o3 (hr.mono (by decide)) (za (pv 0) (za zf (za (pv 1) zb))))) zb))))),⟨⟨h,v,J,m,F⟩,λH1 C=>⟨_,J,yn ?_⟩⟩⟩
 obtain⟨a,xs,us,rfl,sq,ea,U⟩:=Is.at (i:=3) (m.mono C) J;obtain⟨as,u,rfl,o,ah⟩:=U;let r:Nat->L2.St->Hp->Prop:=λi t j=>∃L y,t=[some (.ref a),L,y]/\zh H1 j;refine⟨a,xs,_,_,J,J,sq,ea,as,u,J,aG.of o,(xG r ⟨none,none,J,zh.refl H1⟩ (λi t j _ ⟨_,_,_,l⟩=>aG.of (l _ _ o)) ?_ ?_)⟩;rintro i x t j p S ⟨L,y,rfl,l⟩ hp;obtain⟨tt,b,N⟩:=ah.get' S;rw[bq]at b;obtain⟨B,Z,rfl⟩:=df.mp b;have hm:=dj Z;have g:=l.trans (zh.new hp (.tup [.int i,x]));exact⟨p,_,J,aG.of zd,J,_,_,J,_,_,J,J,⟨⟨B,x,i,h,_,J,N.mono g,m.mono (C.trans g),F.len B hm,F.pl B hm⟩,λH4 s4=>⟨_,J,yn ⟨_,_,J,g.trans s4⟩⟩⟩⟩;rintro t H2 ⟨L,y,rfl,l⟩;have d:=C.trans l;obtain⟨a',xf,uf,e',z,ak,W⟩:=Is.at (i:=2) (m.mono d) J;cases e';obtain⟨af,xf,rfl,q,n⟩:=W;have aj:=n.length;rw[ag]at aj;have ap:=F.f8;refine⟨a,_,_,_,J,J,z,ak,af,J,⟨xf,aG.of q⟩,Jp q (by omega) (λi x j R S g kk=>?_) λj s'=>k j (d.trans s')⟩;obtain⟨tt,b,M⟩:=n.get' S;rw[bq]at b;obtain⟨c,hc,rfl⟩:=df.mp b;obtain⟨c1,c2⟩:=F.call c (dj hc);exact⟨⟨c,x,0,h,_,J,M.mono g,m.mono (d.trans g),by omega,c1,c2⟩,kk⟩
theorem ko:aA ["scripts","brought","number","hands","deeds","deed"] ["scripts"] (ze Qh):=.of
theorem MN(D:bP K mg "brought_by_scripts" Qh)(T:Txt K mg):Ok P w K mg base "brought_by_scripts" 1 ["scripts"] pd:=by
 refine qf D ko ?_;rintro f a8 A ak s H vs Q E hr ⟨l,v,rfl,ht,a7,hN,k⟩ X;refine⟨_,zc (zn (i:=1) ko.nd Kv) (zc (xy RY J (IU J T.range (za (yd Xk (ya yc (by rfl) T.len wu (za (pv 0) zb)) zf) (za (uG vH zf) (za (uG vH zf) zb)))) (zp (i:=2) ko.nd) (zc (zn (i:=3) ko.nd zf) (zc (zn (i:=4) ko.nd (ya yc (by rfl) T.len wu (za (zk zj (pv 0) (pv 2)) zb))) (zc (xy RY J (Zq (zk zj (pv 0) (pv 2))) (zp (i:=5) ko.nd) (zg (yt (zv vt (zk zj (pv 5) zf) zr (ye _)) qo zu)))
   (zg (Xy (ki hr) (pv 1) (pv 2) (Wp (za (pv 3) (za (pv 4) zb))) J))))))
  (zg (zm (pv 1)))),?_⟩
 obtain⟨a,C,rfl,ha,hl⟩:=ht;have G:=hl.length;rw[ag]at G;intro d hd;have s0:=zh.new hd (.dK []);let W:Nat->L2.St->Hp->Prop:=λi σ B=>(∃x2 x3 x4 g,σ=[some (.ref a),some (.ref d),x2,x3,x4,g])/\zh H B/\D8 l (l.length-i) B d;refine⟨a,C,J,.inr (aG.of (s0 _ _ ha)),_,_,J,J,_,J,_,J,C.length,J,(by omega),(JE W ⟨⟨none,none,none,none,J⟩,s0,[],zd,c9 _,λj h1 h2=>kS h2 (by omega)⟩ ?_ ?_)⟩;rintro i σ B hi ⟨⟨x2,x3,x4,g,rfl⟩,y,ap,n,a6,az⟩;obtain⟨m,hm⟩:∃m:Nat,m+i+1=l.length:=⟨l.length-i-1,by omega⟩
 have em:C.length-1-i=(m:Int):=by omega
 rw[em];have R:m<l.length:=by omega
 have N:=cg R;have aS:l.getD m []=l[m]:=by rw[fj,N];rfl
 obtain⟨u,eu,aw⟩:=hl.get (by rw[bq,N];rfl);have U:=xb eu;obtain⟨as,Z,rfl,t,S⟩:=aw.mono y;have F:=S.length;rw[ag]at F;refine⟨a,C,_,_,J,J,aG.of (y _ _ ha),U,as,Z,J,.inr (aG.of t),⟨a,C,_,_,J,J,aG.of (y _ _ ha),U,as,J,⟨Z,aG.of t⟩,(Vs (λj c H2=>H2=B/\∃g,c=[some (.ref a),some (.ref d),some (.int m),some (.int 1),some (.int Z.length),g]) ⟨J,_,J⟩ (λj c H2 _ ⟨e,_⟩=>(e▸aG.of t)) ?_ ?_)⟩⟩;rintro j x c H2 hx ⟨rfl,g,rfl⟩;obtain⟨tt,L,aq⟩:=S.get' hx;rw[bq]at L;obtain⟨dd,a3,rfl⟩:=df.mp L;have hn:=hN _ (QK R) dd (dj a3);obtain⟨r,ax⟩:=Yt dd;obtain⟨a5,ah,u5,rfl,aj,a4,av⟩:=Is.at (i:=0) (ax▸aq) J;cases(av);refine⟨a5,ah,_,_,J,J,aj,a4,J,_,J,?_⟩;cases dd<;>first|exact hn.elim|exact yn ⟨J,_,J⟩
 rintro c H2 ⟨rfl,g,rfl⟩;refine⟨cG,λp hp=>?_⟩;have sp:=zh.new hp (.tup [.int 1,.int Z.length]);refine⟨d,_,J,Jg.k (k:=(Sm m:aJ)) (sp _ _ n) (yx (by omega)),⟨_,_,_,_,J⟩,(λb o e=>(ja (zi e hd)▸sp _ _ (y _ _ e))),_,zd,?_,λj h1 h2=>?_⟩;have:=xa ap (Sm m:aJ) (.ref p);omega;rw[ju];by_cases ej:j=m;subst ej;exact⟨p,kP J,by rw[ja (λz=>by rw[z,n]at hp;cases hp),zd,aS,F]⟩;obtain⟨q,ay,M⟩:=az j (by omega) h2;exact⟨q,by rw[kr (λz=>ej (by have:=Sn z;omega))];exact ay,(ja (Xl M n (by intro z;cases z))▸sp _ _ M)⟩;rintro σ B ⟨⟨x2,x3,x4,g,rfl⟩,y,hB⟩;rw[G,Nat.sub_self]at hB;exact k d B y hB
end
theorem BV{f:Nat->Nat}{M:Nat}(h:∀i,f i<=M):∀n,0<=((Ri n).map λj=>(f j:Int)).sum/\((Ri n).map λj=>(f j:Int)).sum<=((M*n:Nat):Int)|0=>⟨fm _,fm _⟩| n+1=>by have:=BV h n;have:=h n;rw[Rj,bo,Rm,Nat.mul_succ];simp;omega
theorem An{K:O4}{k:Nat}(d:H af=some (.tup xs))(l:xs.length<=100){f:Nat->Nat}{M:Nat}(s:∀i,f i<=M)(q:∀(i:Nat)(x:V)(R:VK),xs[i]?=some x->R (.int (f i:Int)) H->te ((bQ k cap σ).set 0 (some x)) H R)(m:∀p (c:O Int) H',zh H H'->aK K H' p (c.map V.int)->(∀n∈c,0<=n)->c.sum<=((M*xs.length:Nat):Int)->Q (.ref p) H'):bV (qH K af) (Zx 0) pI te k cap σ H Q:=by let g:Nat->O V->Hp->Prop:=λi a b=>b=H/\a=((Ri i).map λj=>(f j:Int)).map V.int;refine uX g ⟨J,J⟩ (λi a b v ⟨u,t⟩=>⟨(u▸aG.of d),by rw[t,ag,ag,d9];exact Yv (by omega)⟩) ?_ ?_;rintro i x a b o ⟨rfl,rfl⟩;refine iZ (q i x _ o ⟨J,?_⟩);rw[Rj,bo,bo];rfl;rintro a b ⟨rfl,rfl⟩ p r;refine m p _ _ (zh.new r _) (aK.of zd) (λn l=>?_) (BV s xs.length).2;obtain⟨j,_,rfl⟩:=bz.mp l;exact Pp _
section
variable{K:O4}
theorem Ve:aA ["house","brought","hands","deeds"] ["house"] (ze Z5):=.of
theorem Nu(D:bP K mg "is_small_enough" Z5)(T:Txt K mg)(o1:Ok P w K mg base "brought_by_scripts" 1 ["scripts"] pd):Ok P w K mg base "is_small_enough" 2 ["house"] (spT nr):=by
 refine qf D Ve ?_;rintro f bj A aj s H vs Q E hr ⟨⟨h,v,rfl,ht,F⟩,k⟩ X;have hu:=ki hr;refine⟨_,zc (zn (i:=1) Ve.nd (yb o1 hr (za (zk zj (pv 0) (xt T.SCRIPTS)) zb))) (zc (zn (i:=2) Ve.nd (ya (Do J) J T.sum Ab (za (q8 (own:=["calling"]) (cap:=[1]) J (xj (ze Z5) J J (by decide+kernel) (by decide+kernel) (by decide+kernel) ⟨⟨_,J,.inl J,jy J⟩,trivial⟩) (Zq (zk zj (pv 0) (xt T.FIRSTS))) (λ_ _ _ _=>zp (i:=0) (by show(["calling","brought"]:O Str).Nodup;decide+kernel)) (λ_ _ _ _=>wv)
   (λ_ _ _ _=>zk (r:=cE K) zj (qc hu (pv 1) (zk (r:=cE K) zj (pv 0) zf (λ_ _=>rfl))) zf (λ_ _=>rfl))) zb)))
  (zc (zn (i:=3) Ve.nd (ya (Do J) J T.sum Ab (za (q8 (own:=["calling"]) (cap:=[1]) J (xj (ze Z5) J J (by decide+kernel) (by decide+kernel) (by decide+kernel) ⟨⟨_,J,.inl J,jy J⟩,trivial⟩) (Zq (zk zj (pv 0) (xt T.FIRSTS))) (λ_ _ _ _=>zp (i:=0) (by show(["calling","brought"]:O Str).Nodup;decide+kernel)) (λ_ _ _ _=>wv)
   (λ_ _ _ _=>zk (r:=cE K) zj (qc hu (pv 1) (zk (r:=cE K) zj (pv 0) zf (λ_ _=>rfl))) zf (λ_ _=>rfl))) zb)))
  (zg (zm (jm (jx Q2 (pv 2) (xt T.MOST_HANDS) (ye _)) (jl (jx Q2 (pv 3) (xt T.MOST_DEEDS) (ye _)))))))),?_⟩
 obtain⟨a,xs,us,rfl,sq,ea,ax⟩:=Is.at (i:=3) ht J;refine⟨a,xs,_,_,J,J,sq,ea,h.ss,us,J,ax,F.n20,λs hs d hd=>(F.pl s hs d hd).no,λd H1 s1 ⟨ba,aS,bg,az⟩=>?_⟩;have bi:=F.f8;have C:∀{G:Hp},zh H1 G->∃m n g,aG K G a m/\kZ m ((2:Nat):Int)=some (.ref n)/\G n=some (.tup g)/\g.length<=8/\∀(i:Nat) x,g[i]?=some x->∃b r j p,x=.ref b/\G b=some (.tup (.int j::r))/\DGet G d (.int j) (some (.ref p))/\G p=some (.tup [.int 1,.int (h.ss.getD ((h.fs.getD i (0,[])).1) []).length]):=λ{G} U=>by obtain⟨a',m,uf,e',S,a5,ay⟩:=Is.at (i:=2) (ht.mono (s1.trans U)) J;cases e';obtain⟨n,g,rfl,a4,z⟩:=ay;have a3:=z.length;rw[ag]at a3;refine⟨m,n,g,S,a5,a4,by omega,λi x q=>?_⟩;obtain⟨tt,u,aw⟩:=z.get' q;rw[bq]at u;obtain⟨c,hc,rfl⟩:=df.mp u;obtain⟨p,t,y⟩:=az c.1 (c9 _) (F.call c (dj hc)).1;obtain⟨b,_,rfl,B,u6,r6,rfl,i6,_⟩:=aw;cases(i6);exact⟨b,r6,c.1,p,J,B,t▸DGet.k (k:=(Sm c.1:aJ)) (U _ _ aS),by rw[show h.fs.getD i (0,[])=c from by rw[fj,hc];rfl];exact U _ _ y⟩
 have l:∀i,(h.ss.getD ((h.fs.getD i (0,[])).1) []).length<=80:=λi=>by rw[fj];cases e:h.ss[(h.fs.getD i (0,[])).1]? with|none=>simp|some s=>exact F.len s (dj e)
 obtain⟨m,n,g,q1,q2,q3,q4,q5⟩:=C (zh.refl _);refine⟨a,m,_,_,J,J,q1,q2,n,J,⟨g,aG.of q3⟩,An q3 (by omega) (M:=1) (λ_=>au _) (λi x R q kR=>?_) λp1 ap H2 s2 N av bd=>⟨p1,ap,J,N,av,by omega,?_⟩⟩;obtain⟨b,r,j,p,rfl,B,dg,y⟩:=q5 i x q;exact⟨b,_,0,_,J,J,aG.of B,(xb J),d,_,J,dg,p,_,_,_,J,J,aG.of y,J,kR⟩;obtain⟨x3,a7,L,ah,Z,o,a8,W⟩:=C s2;refine⟨a,x3,_,_,J,J,ah,Z,a7,J,⟨L,aG.of o⟩,An o (by omega) l (λi x R q kR=>?_) λp2 ak H3 s3 M aq bb=>⟨p2,ak,J,M,aq,by omega,?_⟩⟩;obtain⟨b,r,j,p,rfl,B,dg,y⟩:=W i x q;exact⟨b,_,0,_,J,J,aG.of B,(xb J),d,_,J,dg,p,_,_,_,J,J,aG.of y,J,kR⟩;refine⟨_,_,J,J,_,J,?_⟩;rw[cf (by omega)];refine xx ⟨_,_,J,J,?_⟩;rw[cf (by omega)];exact k _ (s1.trans (s2.trans s3))
theorem Ld{o:Option Str}:yv (mE o) (Sm 0:aJ)=o.map V.str:=by cases o<;>rfl
theorem Kc:aA ["deed","had","word"] ["deed","had"] (ze Y2):=.of
theorem N7(D:bP K mg "is_allowed" Y2):Ok P w K mg base "is_allowed" 1 ["deed","had"] (spT D4):=by
 refine qf D Kc ?_;rintro f aj A M s H vs Q E hr ⟨⟨b,ww,d,dv,G,o,rfl,F,U,C,N⟩,k⟩ X;have hu:=ki hr;refine⟨_,zc (zn (i:=2) Kc.nd (zk zj (pv 0) zf)) (zc (yt (zv k9 (pv 2) (Wp (za zr (za zr zb))) J) (zg (zm (jx k9 (Kx hu (pv 1) (zk zj (pv 0) zf) ⟨J,J,J,J⟩) (Wp (za zr (za (pv 2) zb))) J))) zu) (zc (yt (zv vt (pv 2) zr (ye _)) (zg (zm (tD (AJ hu (zk zj (pv 0) zf) (pv 1))))) zu) (zc (yt (zv vt (pv 2) zr (ye _)) qo zu) (zg (zm q9))))),?_⟩
 obtain⟨r,S⟩:=Yt d;obtain⟨a,xs,u0,rfl,sq,ea,R⟩:=Is.at (i:=0) (S▸F) J;cases(R);refine⟨a,xs,_,_,J,J,sq,ea,(by decide),λp hp=>⟨p,_,J,.inr (aG.of zd),J,J,_,J,?_⟩⟩;have n:=zh.new hp (.tup [.str "come",.str "go"]);have j:=n _ _ U;generalize ji H p (.tup [.str "come",.str "go"])=H1 at n j⊢;have u:qK H1 G:=.inl ⟨_,.inl j⟩;have t:=Ld▸DGet.k j;have fl:∀v,(o.map V.str).getD .non=v->Vt v=true:=λv e=>by subst e;cases o<;>rfl
 have z:∀m,(m="come"\/m="go")->pY o m=true->mY ((o.map V.str).getD .non) [.str "both",.str m]=true:=λm hm h=>by unfold pY at h;rw[pu,kU,kU]at h;rcases h with rfl|rfl;rfl;rcases hm with rfl|rfl<;>rfl
 cases d with| com x=>
   obtain⟨rfl,Z⟩:=C;obtain⟨a',c,W,B,g,l,i⟩:=Is.at (i:=1) (F.mono n) J;cases B;cases(i);refine xx ⟨G,J,u,a,c,_,_,J,J,g,l,_,t,(by decide),λL q=>⟨L,_,J,.inr (aG.of zd),fl _ J,J,?_⟩⟩;show Q (.bl (mY ((o.map V.str).getD .non) [.str "both",.str "come"])) _;rw[(z "come" (.inl J) N)];exact k _ (n.trans (zh.new q _))| goo x=>
   obtain⟨rfl,Z⟩:=C;obtain⟨a',c,W,B,g,l,i⟩:=Is.at (i:=1) (F.mono n) J;cases B;cases(i);refine xx ⟨G,J,u,a,c,_,_,J,J,g,l,_,t,(by decide),λL q=>⟨L,_,J,.inr (aG.of zd),fl _ J,J,?_⟩⟩;show Q (.bl (mY ((o.map V.str).getD .non) [.str "both",.str "go"])) _;rw[(z "go" (.inr J) N)];exact k _ (n.trans (zh.new q _))| lea x=>
   obtain⟨rfl,Z⟩:=C;obtain⟨a',c,W,B,g,l,i⟩:=Is.at (i:=1) (F.mono n) J;cases B;cases(i);refine yn ⟨J,_,J,xx ⟨a,c,_,_,J,J,g,l,G,_,J,t,?_⟩⟩;have e:(o.map V.str).isSome=true:=by have:=N;cases o with|none=>cases this|some m=>rfl
   rw[e];exact k H1 n|beg x y=>exact C.elim|_=>exact yn ⟨J,_,J,yn ⟨J,_,J,yn (k _ n)⟩⟩
theorem wU:aA ["scripts","calling","had","deed"] ["scripts","calling"] (ze vL):=.of
theorem HH(D:bP K mg "fits" vL)(T:Txt K mg)(o1:Ok P w K mg base "is_allowed" 1 ["deed","had"] (spT D4)):Ok P w K mg base "fits" 2 ["scripts","calling"] (spT D0):=by
 refine qf D wU ?_;rintro f b1 A ba s H vs Q E hr ⟨⟨b,ww,ss,sv,c,cv,rfl,hs,ak,ap,hm,hN,hg⟩,k⟩ X;refine⟨_,zc (zn (i:=2) wU.nd (xw (Ms J) J T.dict wJ (za (zk zj (pv 1) zf) zb))) (zc (xy RY J (Zq (zk zj (pv 0) (zk zj (pv 1) zf))) (zp (i:=3) wU.nd) (zc (yt (vz (wq (yb o1 hr (za (pv 3) (za (pv 2) zb))))) qo zu) (zc (yt (zv vt (zk zj (pv 3) zf) zr (ye _)) (zg (y0 (CN (pv 2) (zk zj (pv 3) zf) ⟨J,J,J,J⟩))) zu) (zg (yt (gg (AF (zv vt (zk zj (pv 3) zf) zr (ye _)) (BB (vz (wq CO))))) qo zu)))))
  (zg (zm q9))),?_⟩
 obtain⟨ac,xc,um,rfl,a3,bJ,bi⟩:=Is.at (i:=1) ak J;obtain⟨am,xm,rfl,bG,l⟩:=bi;have hb:∃(bs:List lv)(g:List (aJ×V)),xm=bs.map V.ref/\Paired (λb kv=>H b=some (.tup [kV kv.1,kv.2])) bs g/\Zr [] g=mE (nL c.2):=by rcases hm with e|⟨m,e,_,_⟩;rw[e]at l⊢;cases(l);exact⟨[],[],J,.nil,J⟩;rw[e]at l⊢;obtain⟨u1,r1,rfl,i1,e1⟩:=l;cases(e1);obtain⟨bb,ys,rfl,bE,u2,r2,rfl,i2,u3,r3,rfl,i3,e3⟩:=i1;cases(i2);cases(i3);cases(e3);exact⟨[bb],[(Sm 0,.str m)],J,.cons bE .nil,J⟩
 obtain⟨bs,g,rfl,bC,bw⟩:=hb;refine⟨ac,xc,_,_,J,J,a3,bJ,am,bs,g,J,bG,bC,λn W=>?_⟩;rw[bw];have C:=zh.new W (.dK (mE (nL c.2)));have aj:ji H n (.dK (mE (nL c.2))) n=some (.dK (mE (nL c.2))):=zd;generalize ji H n (.dK (mE (nL c.2)))=H0 at C aj⊢;obtain⟨b2,ax,un,e',L,aq,bg⟩:=Is.at (i:=0) (ak.mono C) J;cases e';cases(bg);have S:=cg ap;rw[fj,S]at hg;obtain⟨as,aw,us,rfl,aS,bH,bd⟩:=Is.at hs (by rw[bq,S];rfl);obtain⟨ad,xd,rfl,v,bx⟩:=bd;have N:∀{F:Hp}{o:HO},zh H F->zh H (ji F n o):=λ{F o} p b u e=>(ja (zi e W)▸p b u e)
 refine⟨ac,ax,_,_,J,J,L,aq,as,aw,_,_,J,J,(aS.elim (λh=>.inl (h.elim (λz=>.inl (C _ _ z)) (λ⟨o,z⟩=>.inr ⟨o,C _ _ z⟩))) .inr),bH,ad,J,⟨xd,aG.of (C _ _ v)⟩,?_⟩;let bN:Nat->L2.St->Hp->Prop:=λi σ H'=>∃o x3,σ=[some (.ref as),some (.ref ac),some (.ref n),x3]/\zh H H'/\H' n=some (.dK (mE o))/\fI o (ss[c.1].drop i)=true;refine Vs bN
  ⟨_,none,J,C,aj,hg⟩ (λi σ H' _ q0=>by obtain⟨_,_,_,p,_⟩:=q0;exact aG.of (p _ _ v)) ?_ (λσ F q0=>by obtain⟨o,x3,e,p,_⟩:=q0;exact by subst e;exact k F p)
 rintro i x σ F hx ⟨o,x3,rfl,p,t,U⟩;obtain⟨tt,R,j⟩:=bx.get' hx;rw[bq]at R;obtain⟨B,ah,rfl⟩:=df.mp R;have hn:=hN _ (QK ap) B (dj ah);obtain⟨bB,Z⟩:=d7.mp ah;rw[PR bB,Z]at U;obtain⟨ga,gn⟩:lQ o B=true/\fI (kD o B) (ss[c.1].drop (i+1))=true:=by
  have q:(lQ o B && fI (kD o B) (ss[c.1].drop (i+1)))=true:=U
  rwa[bu]at q
 refine⟨⟨b,ww,B,x,n,o,J,j.mono p,t,hn,ga⟩,λH2 s2=>⟨_,J,yn ?_⟩⟩;have d:=p.trans s2;have a:=s2 _ _ t;obtain⟨r,bn⟩:=Yt B;obtain⟨a5,G,u5,rfl,M,av,bl⟩:=Is.at (i:=0) (bn▸j.mono d) J;cases(bl);refine⟨a5,G,_,_,J,J,M,av,J,_,J,?_⟩;cases B with|beg x y=>exact hn.elim| lea x=>
   obtain⟨rfl,b0⟩:=hn;obtain⟨a6,az,u6,e6,a8,bL,bk⟩:=Is.at (i:=1) (j.mono d) J;cases e6;cases(bk);obtain⟨m,rfl⟩:∃m,o=some m:=by have:=ga;cases o with|none=>cases this|some m=>exact⟨m,J⟩
   have s3:zh H (ji H2 n (.dK [])):=N d;obtain⟨a7,ay,u7,e7,a4,bK,bj⟩:=Is.at (i:=0) (j.mono s3) J;cases e7;cases(bj);exact xx ⟨n,J,.inl ⟨_,.inl a⟩,a5,az,_,_,J,J,a8,bL,_,Sm 0,_,a,J,J,a5,ay,_,_,J,J,a4,bK,J,_,J,yn (yn ⟨none,_,J,s3,zd,gn⟩)⟩|_=>exact yn ⟨a5,G,_,_,J,J,M,av,J,_,J,yn (yn ⟨_,_,J,d,a,gn⟩)⟩
theorem KN:aA ["thing"] ["thing"] (ze Y0):=.of
theorem Nt(D:bP K mg "is_house" Y0)(T:Txt K mg)(o1:Ok P w K mg base "is_well_formed" 9 ["thing"] (spT nr))(o2:Ok P w K mg base "is_small_enough" 2 ["house"] (spT nr))(Z:Ok P w K mg base "fits" 2 ["scripts","calling"] (spT D0)):Ok P w K mg base "is_house" 22 ["thing"] (spT nr):=by
 refine qf D KN ?_;rintro f aj A o s H vs Q E t ⟨⟨h,v,rfl,l,F⟩,k⟩ X;refine⟨_,zc (yt (gg (Kj (vz (wq (yb o1 (t.mono (by decide)) (za (pv 0) zb)))) (Wo (vz (wq (yb o2 (t.mono (by decide)) (za (pv 0) zb))))))) (zg (zm q9)) zu) (zg (zm (ya (Zn J) J T.all Xs (za (q8 (own:=["calling"]) (cap:=[0]) J (xj (ze Y0) J J (by decide+kernel) (by decide+kernel) (by decide+kernel) ⟨⟨_,J,.inl J,jy J⟩,trivial⟩) (Zq (zk zj (pv 0) (xt T.FIRSTS))) (λ_ _ _ _=>zp (i:=0) (by show(["calling","thing"]:O Str).Nodup;decide+kernel)) (λ_ _ _ _=>wv)
   (λ_ _ _ _=>yb Z (t.mono (by decide)) (za (zk (r:=cE K) zj (pv 1) (xt T.SCRIPTS) (λ_ _=>rfl)) (za (pv 0) zb)))) zb)))),⟨⟨h,v,J,l,F⟩,λH1 B=>⟨_,J,yn ⟨⟨h,v,J,l.mono B,F⟩,λH2 U=>⟨_,J,yn ?_⟩⟩⟩⟩⟩
 have b:=B.trans U;obtain⟨a,L,uf,rfl,S,ea,r⟩:=Is.at (i:=2) (l.mono b) J;obtain⟨af,M,rfl,j,g⟩:=r;have u:=g.length;rw[ag]at u;have ah:=F.f8;refine⟨a,L,_,_,J,J,S,ea,af,J,⟨M,aG.of j⟩,Jp j (by omega) (λi x G R hx z kk=>?_) λG W=>k G (b.trans W)⟩;obtain⟨tt,d,p⟩:=g.get' hx;rw[bq]at d;obtain⟨c,C,rfl⟩:=df.mp d;obtain⟨c1,c2⟩:=F.call c (dj C);obtain⟨a',m,N,e',n,y,q⟩:=Is.at (i:=3) (l.mono (b.trans z)) J;cases e';exact⟨a,m,_,_,J,J,n,y,⟨h.b,h.w,h.ss,N,c,x,J,q,p.mono z,c1,c2,F.pl,F.fit c (dj C)⟩,kk⟩
end
end My
namespace My
structure pF(A D:Type) where
 scr:A->List D
 bg:A->Nat->Option A
 ra:D->Option (Nat×Int)
 aw:D->Option (Nat×Int)
section
variable{A D:Type}[DecidableEq A]
noncomputable def lX(l:List (A×Nat))(h:A):Nat:=match l with|[]=>0|(g,n)::r=>if g=h then n else lX r h
noncomputable def uv(l:List (A×Nat))(h:A)(n:Nat):List (A×Nat):=match l with|[]=>[(h,n)]|(g,m)::r=>if g=h then(g,n)::r else(g,m)::uv r h n
noncomputable def Vz(l:List (A×Nat)):List A:=l.map (·.1)
noncomputable def EA(l:List (A×Nat)):Nat:=(l.map (·.2)).sum
theorem BW{f:A->Nat}:∀{l a:List A},l.Nodup->(∀x∈l,x∈a)->(l.map f).sum<=(a.map f).sum
 |[],_,_,_=>c9 _
 | x::r,a,b,c=>by
   have q:(r.map f).sum<=((a.erase x).map f).sum:=BW (d6.mp b).2 λy d=>by grind
   have p:=(List.perm_cons_erase (c x bv)).map f
   grind
noncomputable def Wc(l:List (Nat×List A))(b:Nat):List A:=match l with|[]=>[]|(c,hs)::r=>if c=b then hs else Wc r b
noncomputable def Yf(l:List (Nat×List A))(b:Nat):List (Nat×List A):=match l with|[]=>[]|(c,hs)::r=>if c=b then r else(c,hs)::Yf r b
noncomputable def Z9(l:List (Nat×List A))(b:Nat)(h:A):List (Nat×List A):=match l with|[]=>[(b,[h])]|(c,hs)::r=>if c=b then(c,hs++[h])::r else(c,hs)::Z9 r b h
noncomputable def Z8(l:List (Nat×List A)):Nat:=(l.map (·.2.length)).sum
def mi(l:List (Nat×List A))(p:A->Prop):Prop:=∀r∈l,∀h∈r.2,p h
theorem CL{b:Nat}:∀{l:List (Nat×List A)},Z8 (Yf l b)+(Wc l b).length=Z8 l|[]=>rfl| (c,a)::r=>by unfold Yf Wc;by_cases e:c=b;rw[kP e,kP e];show Z8 r+a.length=a.length+Z8 r;omega;rw[kr e,kr e];have q:=CL (b:=b) (l:=r);show a.length+Z8 (Yf r b)+_=a.length+Z8 r;omega
structure WS(A:Type) where
 done:List (A×Nat)
 sums:List Int
 ready:List A
 wait:List (Nat×List A)
 stop:List A
 wov:List A
variable(M:pF A D)
def tM(s:WS A)(h:A):Option D:=(M.scr h)[lX s.done h]?
def Ea(s:WS A)(h:A):Bool:=match tM M s h with|none=>false| some d=>match M.aw d with|none=>true|some (b,m)=>decide (m<=s.sums.getD b 0)
def rQ(l:List (A×Nat))(g:Option A):List (A×Nat):=match g with|none=>l|some g=>uv l g 0
noncomputable def GQ(l:List Int)(r:Option (Nat×Int)):List Int:=match r with|none=>l|some (b,k)=>l.set b (l.getD b 0+k)
def F0(s:WS A)(h:A):List (A×Nat):=rQ (uv s.done h (lX s.done h+1)) (M.bg h (lX s.done h))
structure Wv(all:List A)(s:WS A):Prop where
 nd:(Vz s.done).Nodup
 sub:∀h∈Vz s.done,h∈all
 rdy:∀h∈s.ready,h∈Vz s.done
 wai:mi s.wait (· ∈Vz s.done)
 low:∀h∈Vz s.done,lX s.done h<=(M.scr h).length
 bgn:∀h g p,M.bg h p=some g->g∈Vz s.done->h∈Vz s.done/\p<lX s.done h
 len:s.ready.length+Z8 s.wait+s.stop.length<=s.done.length
 wov:s.wov.length=EA s.done
 cnt:∀h,s.wov.count h=lX s.done h
structure OI(all:List A):Prop where
 inj:∀h p h' p' g,M.bg h p=some g->M.bg h' p'=some g->h=h'/\p=p'
 new:∀h p g,M.bg h p=some g->g∈all/\g≠h
 nd:all.Nodup
noncomputable def tot(B:List A):Nat:=(B.map λh=>(M.scr h).length).sum
def qR(B:List A)(s:WS A):Nat:=(tot M B-s.wov.length)*(B.length+1)+s.ready.length
variable{M}
theorem MA(l:O A)(h x:A):(l++[h]).count x=l.count x+if h=x then 1 else 0:=by grind
end
end My
namespace My
section
variable{A D:Type}[DecidableEq A]
noncomputable def xu(l:List (Nat×List A)):List A:=l.flatMap (·.2)
theorem AT{l:O (Nat×O A)}{h:A}:h∈xu l↔∃r∈l,h∈r.2:=QW
theorem AR{b:Nat}:∀(l:List (Nat×List A)),(xu l).Perm (Wc l b++xu (Yf l b))|[]=>.refl _| (c,a)::r=>by unfold Wc Yf;by_cases e:c=b;rw[kP e,kP e];exact .refl _;rw[kr e,kr e];show(a++xu r).Perm (Wc r b++(a++xu (Yf r b)));refine((AR (b:=b) r).append_left a).trans ?_;rw[<-PK,<-PK];exact List.perm_append_comm.append_right _
theorem AQ{b:Nat}{h:A}:∀(l:List (Nat×List A)),(xu (Z9 l b h)).Perm (h::xu l)|[]=>.refl _| (c,a)::r=>by unfold Z9;by_cases e:c=b;rw[kP e];show(a++[h]++xu r).Perm (h::(a++xu r));rw[PK];exact Rh;rw[kr e];exact((AQ r).append_left a).trans Rh
theorem AO{b:Nat}:∀{l:List (Nat×List A)},(l.map (·.1)).Nodup->((Yf l b).map (·.1)).Nodup/\∀r∈Yf l b,r∈l/\r.1≠b|[],_=>⟨Rc,λ_ h=>nomatch h⟩| (c,m)::q,j=>by obtain⟨i,g⟩:=d6.mp j;unfold Yf;by_cases e:c=b;rw[kP e];exact⟨g,λr a=>⟨bp _ a,λz=>i (by show c∈_;rw[e,<-z];exact QX a)⟩⟩;rw[kr e];obtain⟨k,d⟩:=AO g;refine⟨d6.mpr ⟨λz=>?_,k⟩,λr a=>?_⟩;obtain⟨r,a,f⟩:=bz.mp z;exact i (by show c∈_;have f:r.1=c:=f;rw[<-f];exact QX (d r a).1);rcases bc.mp a with z|z;rw[z];exact⟨bv,e⟩;exact⟨bp _ (d r z).1,(d r z).2⟩
theorem AN{b:Nat}{h:A}:∀{l:List (Nat×List A)},(l.map (·.1)).Nodup->((Z9 l b h).map (·.1)).Nodup/\(∀k∈(Z9 l b h).map (·.1),k=b\/k∈l.map (·.1))/\∀r∈Z9 l b h,∀x∈r.2,(x=h/\r.1=b)\/∃q∈l,q.1=r.1/\x∈q.2|[],_=>⟨by simp[Z9],by simp[Z9],by simp[Z9]⟩| (c,s)::q,j=>by obtain⟨g,f⟩:=d6.mp j;unfold Z9;by_cases e:c=b;rw[kP e];refine⟨d6.mpr ⟨g,f⟩,λk hk=>.inr hk,λr d x a=>?_⟩;rcases bc.mp d with z|z;rw[z]at a⊢;rcases cp.mp a with y|y;exact .inr ⟨_,bv,J,y⟩;exact .inl ⟨ai.mp y,e⟩;exact .inr ⟨_,bp _ z,J,a⟩;rw[kr e];obtain⟨n,i,m⟩:=AN f;refine⟨d6.mpr ⟨λz=>?_,n⟩,λk hk=>?_,λr d x a=>?_⟩;rcases i _ z with y|y;exact e y;exact g y;rcases bc.mp hk with z|z;exact .inr (z▸bv);exact(i k z).imp id (bp _);rcases bc.mp d with z|z;rw[z]at a⊢;exact .inr ⟨_,bv,J,a⟩;exact(m r z x a).imp id λ⟨y,o,p⟩=>⟨y,bp _ o,p⟩
variable(M:pF A D)
inductive Lg(held:A->Nat->Bool)(d0:List (A×Nat))(s0:List Int):List A->List (A×Nat)->List Int->Prop|nil:Lg held d0 s0 [] d0 s0|snoc:∀{s:WS A}{h:A}{x:D},Lg held d0 s0 s.wov s.done s.sums->h∈Vz s.done->Ea M s h=true->tM M s h=some x->held h (lX s.done h)=false->Lg held d0 s0 (s.wov++[h]) (F0 M s h) (GQ s.sums (M.ra x))
structure WI(held:A->Nat->Bool)(d0:List (A×Nat))(s0:List Int)(s:WS A):Prop where
 one:(s.ready++(xu s.wait++s.stop)).Nodup
 key:(s.wait.map (·.1)).Nodup
 cov:∀h∈Vz s.done,h∈s.ready\/h∈xu s.wait\/h∈s.stop\/tM M s h=none
 wt:∀r∈s.wait,∀h∈r.2,∃x m,tM M s h=some x/\M.aw x=some (r.1,m)/\¬m<=s.sums.getD r.1 0
 st:∀h∈s.stop,held h (lX s.done h)=true
 lg:Lg M held d0 s0 s.wov s.done s.sums
end
end My
namespace My
variable{s0:List Int}
section
variable{A D:Type}[DecidableEq A]{M:pF A D}{held:A->Nat->Bool}{d0:List (A×Nat)}
end
end My
namespace My
variable{r ws:List Nat}{i:Nat}{hl:Nat->Nat->Bool}
structure HW where
 n:Nat
 S:Nat->yh
 cm:Nat->Bool
noncomputable def Zv:aF->Bool|.com _=>true|_=>false
noncomputable def sC:aF->Bool|.goo _=>true|_=>false
noncomputable def j0:aF->Bool|.lea _=>true|_=>false
def Ya(s:yh)(p:Nat):Nat:=(s.take p).countP Zv
def dR(s:yh)(p:Nat):Nat:=(s.take p).countP sC
def Qr(s:yh)(p:Nat):Bool:=(s.take p).any j0
noncomputable def nH(b:Nat):aF->Int|.rai x k=>if x.toNat=b then k else 0|_=>0
def eG(s:yh)(p b:Nat):Int:=((s.take p).map (nH b)).sum
def jq(s:yh)(p:Nat):aF->Option (Nat×Int)|.awa b m=>some (b.toNat,m)|.goo _=>some (1000,(dR s p:Int)+1)|_=>none
noncomputable def aR(c:Nat->Nat)(i:Nat):Nat->Nat:=λj=>if j=i then c i+1 else c j
variable(h:HW)
def Zi(c:Nat->Nat)(i:Nat):Bool:=h.cm i && decide (c i<(h.S i).length) && !(Qr (h.S i) (c i))
def cC(c:Nat->Nat):List Nat:=(Ri h.n).filter (Zi h c)
def lif(c:Nat->Nat):Option Int:=L2.eZ none ((cC h c).map λi=>(Ya (h.S i) (c i):Int))
def lev(c:Nat->Nat)(b:Nat):Int:=((Ri h.n).map λi=>eG (h.S i) (c i) b).sum
def Yh(c:Nat->Nat)(g:Nat)(k:Int):Bool:=if g=1000 then(match lif h c with|none=>true|some l=>decide (l≥k))else decide (lev h c g≥k)
def qe(c:Nat->Nat)(i:Nat):Bool:=match(h.S i)[c i]? with|none=>false| some d=>match jq (h.S i) (c i) d with|none=>true|some g=>Yh h c g.1 g.2
noncomputable def Qi:aF->List Nat|.rai b _=>[b.toNat]|_=>[]
def fH(c:Nat->Nat)(i:Nat)(d:aF):List Nat:=Qi d++if lif h (aR c i)=lif h c then[]else[1000]
structure Ws where
 c:Nat->Nat
 rdy:List Nat
 wai:List (Nat×List Nat)
 wov:List Nat
 stp:List Nat
def ke:List Nat->List Nat->List (Nat×List Nat)->List Nat×List (Nat×List Nat)|[],r,w=>(r,w)|g::gs,r,w=>ke gs (r++Wc w g) (Yf w g)
def pV(s:Ws)(i:Nat)(d:aF):Ws:=⟨aR s.c i,(ke (fH h s.c i d) s.rdy s.wai).1++[i],(ke (fH h s.c i d) s.rdy s.wai).2,s.wov++[i],s.stp⟩
def fS(hl:Nat->Nat->Bool)(s:Ws)(i:Nat):Ws:=if hl i (s.c i)=true then{s with stp:=s.stp++[i]}else match(h.S i)[s.c i]? with|none=>s| some d=>if qe h s.c i then pV h s i d else match jq (h.S i) (s.c i) d with|some g=>{s with wai:=Z9 s.wai g.1 i}|none=>s
inductive dB:List Nat->(Nat->Nat)->Prop|nil:dB [] (λ_=>0)|snoc:∀{ws c i},dB ws c->i<h.n->qe h c i=true->dB (ws++[i]) (aR c i)
structure Wi(hl:Nat->Nat->Bool)(off:Nat->Prop)(Jx:List Nat->(Nat->Nat)->Prop)(s:Ws):Prop where
 lg:dB h s.wov s.c
 lt:∀i,i∈s.rdy\/i∈xu s.wai++s.stp->i<h.n
 one:(s.rdy++(xu s.wai++s.stp)).Nodup
 key:(s.wai.map (·.1)).Nodup
 cov:∀i,i<h.n->i∈s.rdy\/i∈xu s.wai++s.stp\/(h.S i)[s.c i]?=none\/off i
 wt:∀r∈s.wai,∀i∈r.2,∃d k,(h.S i)[s.c i]?=some d/\jq (h.S i) (s.c i) d=some (r.1,k)/\Yh h s.c r.1 k=false
 st:∀i∈s.stp,hl i (s.c i)=true
 no:∀i,i∈s.rdy\/i∈xu s.wai++s.stp->¬off i
 jj:Jx s.wov s.c
def mD(hl:Nat->Nat->Bool)(Jx:List Nat->(Nat->Nat)->Prop):Prop:=∀ws c i d,dB h ws c->Jx ws c->i<h.n->(h.S i)[c i]?=some d->qe h c i=true->hl i (c i)=false->Jx (ws++[i]) (aR c i)
variable{h}
theorem Ko:∀{gs:List Nat}{r:List Nat}{w:List (Nat×List Nat)},((ke gs r w).1++xu (ke gs r w).2).Perm (r++xu w)|[],_,_=>.refl _| g::gs,r,w=>by have q:=Ko (gs:=gs) (r:=r++Wc w g) (w:=Yf w g);rw[PK]at q;exact q.trans ((AR w).symm.append_left r)
theorem Bz:∀{gs:List Nat}{r:List Nat}{w:List (Nat×List Nat)},(w.map (·.1)).Nodup->((ke gs r w).2.map (·.1)).Nodup/\∀q∈(ke gs r w).2,q∈w/\q.1 ∉ gs|[],_,w,k=>⟨k,λq a=>⟨a,ii⟩⟩| g::gs,r,w,k=>by obtain⟨m,l⟩:=AO k;obtain⟨j,i⟩:=Bz m;refine⟨j,λq a=>?_⟩;obtain⟨f,d⟩:=i q a;obtain⟨c,b⟩:=l q f;exact⟨c,λz=>(bc.mp z).elim b d⟩
theorem dB.low{c:Nat->Nat}(L:dB h ws c):∀i,c i<=(h.S i).length/\(h.n<=i->c i=0):=by
 induction L with|nil=>exact λi=>⟨c9 _,λ_=>rfl⟩| snoc L f a b=>
   rename_i ws c i
   intro j;unfold aR;by_cases e:j=i;subst e;rw[kP J];refine⟨?_,λz=>by omega⟩;unfold qe at a;cases q:(h.S j)[c j]? with|none=>rw[q]at a;cases a|some d=>exact(d7.mp q).1
   rw[kr e];exact b j
theorem dB.cnt{c:Nat->Nat}(L:dB h ws c):∀i,ws.count i=c i:=by
 induction L with|nil=>exact λi=>rfl| snoc L b d a=>
   intro j;rw[MA,a];unfold aR
   rename_i i
   by_cases e:i=j;rw[kP e,kP e.symm,e];rw[kr e,kr λz=>e z.symm];rfl
noncomputable def J0(c:Nat->Nat)(n:Nat):Nat:=((Ri n).map c).sum
theorem BT{c:Nat->Nat}{i:Nat}:∀{n:Nat},J0 (aR c i) n=J0 c n+if i<n then 1 else 0|0=>rfl| n+1=>by have a:=BT (c:=c) (i:=i) (n:=n);unfold J0 at a⊢;rw[Rj,bo,bo,Rm,Rm,a];simp;unfold aR;by_cases e:n=i;subst e;rw[kP J,kr (f9 _),kP (dz _)];omega;rw[kr e];by_cases q:i<n;rw[kP q,kP (by omega)];omega;rw[kr q,kr (by omega)];omega
theorem dB.len{c:Nat->Nat}(L:dB h ws c):ws.length=J0 c h.n:=by
 induction L with| nil=>
   have e:∀l:List Nat,(l.map λ_=>0).sum=0:=λl=>by induction l with|nil=>rfl|cons a r b=>rw[d8,Rn,b]
   exact(e _).symm| snoc L d f b=>rw[cq,b,BT,kP d];rfl
theorem BS{c f:Nat->Nat}(a:∀i,c i<=f i):∀n,J0 c n<=J0 f n|0=>au _| n+1=>by have:=BS a n;have:=a n;unfold J0 at *;rw[Rj,bo,bo,Rm,Rm];simp;omega
variable(h)
def Va:Nat:=J0 (λi=>(h.S i).length) h.n
def p9(s:Ws):Nat:=(Va h-s.wov.length)*(h.n+1)+s.rdy.length
variable{h}
theorem dB.most{c:Nat->Nat}(L:dB h ws c):ws.length<=Va h:=(L.len▸BS (λi=>(L.low i).1) _)
theorem wE{c:Nat->Nat}{b:Nat}{d:aF}(a:(h.S i)[c i]?=some d)(f:b ∉ Qi d):lev h (aR c i) b=lev h c b:=by
 unfold lev;congr 1;refine QT λj _=>?_;unfold aR;by_cases e:j=i;subst e;rw[kP J];unfold eG;rw[fh,a,bo,Rm];have:nH b d=0:=by cases d with|rai x k=>exact kr λz=>f (by rw[<-z];exact ai.mpr J)|_=>rfl
 simp[this];rw[kr e]
theorem X3:∀{n:Nat}{l:O Nat},l.Nodup->(∀i∈l,i<n)->l.length<=n:=λ{n l} b f=>by
 have q:=BW (f:=λ_=>1) b λx d=>cr.mpr (f x d);have e:∀l:O Nat,(l.map λ_=>1).sum=l.length:=λl=>by induction l with|nil=>rfl|cons a r c=>rw[d8,Rn,c,fg];omega
 rw[e,e,d9]at q;exact q
theorem hF{b:Nat->Prop}{C:O Nat->(Nat->Nat)->Prop}{s:Ws}{d:aF}(w:(i::(s.rdy++(xu s.wai++s.stp))).Nodup)(A:i<h.n)(e:(h.S i)[s.c i]?=some d)(m:qe h s.c i=true)(lg:dB h s.wov s.c)(t:∀j,j∈s.rdy\/j∈xu s.wai++s.stp->j<h.n)(key:(s.wai.map (·.1)).Nodup)(f:∀j,j<h.n->j≠i->j∈s.rdy\/j∈xu s.wai++s.stp\/(h.S j)[s.c j]?=none\/b j) (wt:∀r∈s.wai,∀i∈r.2,∃d k,(h.S i)[s.c i]?=some d/\jq (h.S i) (s.c i) d=some (r.1,k)/\Yh h s.c r.1 k=false) (st:∀i∈s.stp,hl i (s.c i)=true) (o:∀j,j=i\/(j∈s.rdy\/j∈xu s.wai++s.stp)->¬b j) (jj:C (s.wov++[i]) (aR s.c i)):
  Wi h hl b C (pV h s i d):=by
 have x:=λz=>(d6.mp w).1 (di _ z);obtain⟨H,G⟩:=Bz key;have l:((ke (fH h s.c i d) s.rdy s.wai).1++[i]++(xu (ke (fH h s.c i d) s.rdy s.wai).2++s.stp)).Perm (i::(s.rdy++(xu s.wai++s.stp))):=by rw[PK];refine List.perm_middle.trans (List.Perm.cons i ?_);have q:=(Ko (gs:=fH h s.c i d) (r:=s.rdy) (w:=s.wai)).append_right s.stp;rw[PK,PK]at q;exact q
 have y:∀j,j∈(ke (fH h s.c i d) s.rdy s.wai).1++[i]\/j∈xu (ke (fH h s.c i d) s.rdy s.wai).2++s.stp->j=i\/(j∈s.rdy\/j∈xu s.wai++s.stp):=λj a=>by rcases bc.mp (l.mem_iff.mp (cp.mpr a))with z|z;exact .inl z;exact .inr (cp.mp z)
 have n:∀{j},j≠i->aR s.c i j=s.c j:=λz=>kr z;refine⟨(lg.snoc A m),λj a=>?_,l.nodup_iff.mpr w,H,λj a=>?_,λp M j a=>?_,λj a=>?_,λj a=>o j (y j a),jj⟩;rcases y j a with z|z;rw[z];exact A;exact t j z;by_cases c:j=i;exact .inl (di _ (c▸ai.mpr J));have L:(h.S j)[aR s.c i j]?=(h.S j)[s.c j]?:=by rw[n c]
 rcases f j a c with z|z|z|z;exact(cp.mp (l.mem_iff.mpr (bp _ (ee _ z)))).imp id .inl;exact(cp.mp (l.mem_iff.mpr (bp _ (di _ z)))).imp id .inl;exact .inr (.inr (.inl (L.trans z)));exact .inr (.inr (.inr z));obtain⟨v,u⟩:=G p M;obtain⟨B,k,F,E,D⟩:=wt p v j a;have c:j≠i:=λz=>x (ee _ (z▸AT.mpr ⟨p,v,a⟩));refine⟨B,k,by show(h.S j)[aR s.c i j]?=_;rw[n c];exact F,by show jq (h.S j) (aR s.c i j) B=_;rw[n c];exact E,?_⟩;show Yh h (aR s.c i) p.1 k=false;rw[<-D];unfold Yh;by_cases g:p.1=1000;rw[kP g,kP g];have:lif h (aR s.c i)=lif h s.c:=by refine OL λz=>u ?_;unfold fH;rw[kr z,g];exact di _ (ai.mpr J)
 rw[this];rw[kr g,kr g,wE e λz=>u (ee _ z)];show hl j (aR s.c i j)=true;rw[n (λz=>x (di _ (z▸a)))];exact st j a
theorem Wi.turn{off:Nat->Prop}{Jx:List Nat->(Nat->Nat)->Prop}(Z:mD h hl Jx){s:Ws}(W:Wi h hl off Jx s)(v:s.rdy=r++[i]):Wi h hl off Jx (fS h hl {s with rdy:=r} i)/\p9 h (fS h hl {s with rdy:=r} i)<p9 h s:=by
 have o:=W.one;rw[v]at o;have w:(i::(r++(xu s.wai++s.stp))).Nodup:=(List.Perm.nodup_iff (by rw[PK];exact Rh)).mp o;obtain⟨hn,C⟩:=d6.mp w;have x:i∈s.rdy:=by rw[v];simp
 have A:=W.lt i (.inl x);have sub:∀j,j∈r\/j∈xu s.wai++s.stp->j∈s.rdy\/j∈xu s.wai++s.stp:=λj a=>a.imp (λz=>(v▸ee _ z)) id;have l:=λj a=>W.lt j (sub j a);have lr:s.rdy.length=r.length+1:=by rw[v];simp
 have b:∀j,j<h.n->j≠i->j∈r\/j∈xu s.wai++s.stp\/(h.S j)[s.c j]?=none\/off j:=λj a f=>by rcases W.cov j a with c|c;rw[v]at c;rcases cp.mp c with y|y;exact .inl y;exact kS (ai.mp y) f;exact .inr c
 unfold fS;by_cases q:hl i (s.c i)=true;rw[kP q];have n:(r++(xu s.wai++(s.stp++[i]))).Perm (i::(r++(xu s.wai++s.stp))):=by rw[<-PK,<-PK,<-PK];exact(Rg)
 have t:∀j,j∈r\/j∈xu s.wai++(s.stp++[i])->j=i\/(j∈r\/j∈xu s.wai++s.stp):=λj a=>by have:=n.mem_iff.mp (cp.mpr a);rcases bc.mp this with z|z;exact .inl z;exact .inr (cp.mp z)
 refine⟨⟨W.lg,λj a=>?_,n.nodup_iff.mpr w,W.key,λj a=>?_,W.wt,λj a=>?_,λj a=>?_,W.jj⟩,?_⟩;rcases t j a with z|z;rw[z];exact A;exact l j z;by_cases f:j=i;exact .inr (.inl (by rw[f];simp));rcases b j a f with z|z|z;exact .inl z;exact .inr (.inl (by rw[<-PK];exact ee _ z));exact .inr (.inr z);rcases cp.mp a with z|z;exact W.st j z;rw[ai.mp z];exact q;rcases t j a with z|z;rw[z];exact W.no i (.inl x);exact W.no j (sub j z);unfold p9;simp;omega;rw[kr q];cases e:(h.S i)[s.c i]? with
 | none=>refine⟨⟨W.lg,l,C,W.key,λj a=>?_,W.wt,W.st,λj a=>W.no j (sub j a),W.jj⟩,?_⟩;by_cases f:j=i;rw[f];exact .inr (.inr (.inl e));exact b j a f;unfold p9;simp;omega
 | some d=>
   by_cases m:qe h s.c i=true;simp only[m];have B:=hF (s:={s with rdy:=r}) w A e m W.lg l W.key b W.wt W.st (λj a=>a.elim (λz=>(z▸W.no i (.inl x))) λz=>W.no j (sub j z)) (Z _ _ _ _ W.lg W.jj A e m (Bool.eq_false_iff.mpr q));refine⟨B,?_⟩;have u:=B.lg.most;have u:(s.wov++[i]).length<=Va h:=u;rw[cq]at u;have u:s.wov.length+1<=Va h:=u;have m2:((ke (fH h s.c i d) r s.wai).1++[i]).length<=h.n:=X3 (List.nodup_append.mp B.one).1 λj a=>B.lt j (.inl a);show(Va h-(s.wov++[i]).length)*(h.n+1)+((ke (fH h s.c i d) r s.wai).1++[i]).length<(Va h-s.wov.length)*(h.n+1)+s.rdy.length;have R:(s.wov++[i]).length=s.wov.length+1:=by simp
   obtain⟨k,hk⟩:∃k,Va h-s.wov.length=k+1:=⟨Va h-s.wov.length-1,by omega⟩
   have E:Va h-(s.wov.length+1)=k:=by omega
   rw[R,hk,E,Nat.add_mul];omega;simp only[m,if_false,pq];obtain⟨g,F⟩:∃g,jq (h.S i) (s.c i) d=some g:=by
    cases q:jq (h.S i) (s.c i) d with
    |none=>unfold qe at m;simp[e,q]at m
    |some g=>exact⟨g,J⟩
   have Q:Yh h s.c g.1 g.2=false:=by unfold qe at m;simpa[e,F]using m
   simp only[F];obtain⟨U,k2,S⟩:=AN W.key;have n:(r++(xu (Z9 s.wai g.1 i)++s.stp)).Perm (i::(r++(xu s.wai++s.stp))):=
    (List.Perm.append_left r ((AQ s.wai).append_right _)).trans Rh
   have t:∀j,j∈r\/j∈xu (Z9 s.wai g.1 i)++s.stp->j=i\/(j∈r\/j∈xu s.wai++s.stp):=λj a=>by rcases bc.mp (n.mem_iff.mp (cp.mpr a))with z|z;exact .inl z;exact .inr (cp.mp z)
   refine⟨⟨W.lg,λj a=>?_,n.nodup_iff.mpr w,U,λj a=>?_,λp X j a=>?_,W.st,λj a=>?_,W.jj⟩,?_⟩;rcases t j a with z|z;rw[z];exact A;exact l j z;by_cases f:j=i;rw[f];exact(cp.mp (n.mem_iff.mpr bv)).imp id .inl;rcases b j a f with z|z|z;exact .inl z;exact(cp.mp (n.mem_iff.mpr (bp _ (di _ z)))).imp id .inl;exact .inr (.inr z);rcases S p X j a with⟨rfl,z⟩|⟨P,D,G,H⟩;exact⟨d,g.2,e,by rw[z];exact F,(z▸Q)⟩;obtain⟨d',k,N,M,L⟩:=W.wt P D j H;exact⟨d',k,N,(G▸M),(G▸L)⟩;rcases t j a with z|z;rw[z];exact W.no i (.inl x);exact W.no j (sub j z);unfold p9;simp;omega
theorem Wi.fin{off:Nat->Prop}{Jx:O Nat->(Nat->Nat)->Prop}{s:Ws}(W:Wi h hl off Jx s)(e:s.rdy=[])(c:i<h.n):qe h s.c i=false\/i∈s.stp\/off i:=by
 rcases W.cov i c with y|y|y|y;rw[e]at y;nomatch y
 rcases cp.mp y with y|y;obtain⟨r,b,a⟩:=AT.mp y;obtain⟨d,k,j,g,f⟩:=W.wt r b i a;refine .inl ?_;unfold qe;rw[j];simp only[g];exact f;exact .inr (.inl y);refine .inl ?_;unfold qe;rw[y];exact .inr (.inr y)
theorem Wi.first{Jx:O Nat->(Nat->Nat)->Prop}(c:Jx [] λ_=>0):Wi h hl (λ_=>False) Jx ⟨λ_=>0,Ri h.n,[],[],[]⟩:=⟨.nil,λi a=>a.elim cr.mp (λz=>nomatch z),by show(Ri h.n++([]++[])).Nodup;rw[eh,eh];exact Re,Rc,λi a=>.inl (cr.mpr a),λr b=>(nomatch b),λi a=>(nomatch a),λ_ _=>id,c⟩
end My
namespace L2
open PySem PySem.Spec PyProof.Rows
variable{P:R0}
theorem Hw{w:SX}{H:Hp}{h:O7}(f:bR P w H h){b:T}{a:lv}{c:cT aJ}(i:Is H (.tup [b]) (.ref a))(m:∀v u,Is H b v->yf v u->dW (zt P w) h c u):Zo (zt P w) h [c] a:=by
 obtain⟨A,x,e,l,k⟩:=i;cases e;obtain⟨_,g,r,⟨o,s,q,n,p⟩,_⟩:=(f a _ l)
 obtain⟨z,y,rfl,j,t⟩:=k;cases(t);cases r with| cons d r=>cases r;exact⟨o,_,n,s,q,p,by simpa using bT.cons (m _ _ j d) .nil⟩
def bZ:aN Nat where
 S := { f:=λi=>[.inr (.inl (i:Int))]
        inj:=λa b e=>by
         injection e with e1 _;injection e1 with e1;injection e1 with e1;exact Pq e1
        one:=λ_ _=>rfl}
 tr:=λi=>tI [(i:Int)]
 fro:=λi=>Vr [(i:Int)]
 of:=λok _ _ i=>Hw ok i (λ_ _=>vZ)
end L2
namespace My
open PySem PySem.Spec PyProof.Rows L2
variable{r:List (Str×V)}{l:List Nat}{i:Nat}{P:R0}{f:Str}{mg:Str->Option Sr}{v:V}
def kN(i:Nat):List aJ:=kI [(i:Int)]
theorem Wu{j:Nat}(h:kN i=kN j):i=j:=by have:=Ay h;injection this with e _;exact Pq e
noncomputable def yo{α:Type}(k:Nat->α)(n:Nat)(f:Nat->V):List (α×V):=(Ri n).map λi=>(k i,f i)
section
variable{α:Type}[DecidableEq α]{k:Nat->α}(hk:∀{i j},k i=k j->i=j)
include hk
theorem Xu{f:Nat->V}{i:Nat}:∀{l:List Nat},yv (l.map λj=>(k j,f j)) (k i)=if i∈l then some (f i)else none|[]=>rfl| j::l=>by rw[d8];by_cases e:j=i;rw[wd (by rw[e]),kP (e▸bv),e];rw[wf (λz=>e (hk z)),Xu];by_cases m:i∈l;rw[kP m,kP (bp _ m)];rw[kr m,kr (λz=>(bc.mp z).elim (λy=>e y.symm) m)]
theorem V6{f:Nat->V}{n:Nat}:yv (yo k n f) (k i)=if i<n then some (f i)else none:=by unfold yo;rw[Xu hk];simp
theorem C6{f:Nat->V}(a:l.Nodup)(m:i∈l):vw (l.map λj=>(k j,f j)) (k i) v=l.map λj=>(k j,if j=i then v else f j):=by unfold vw;rw[kP (im.mpr ⟨(k i,f i),QX (f:=λj=>(k j,f j)) m,cf J⟩),ck];refine QT λj _=>?_;show(if k j=k i then(k j,v)else(k j,f j))=(k j,if j=i then v else f j);by_cases e:j=i;rw[kP (by rw[e]),kP e];rw[kr (λz=>e (hk z)),kr e]
theorem LT{f:Nat->V}{n:Nat}(h:i<n):vw (yo k n f) (k i) v=yo k n λj=>if j=i then v else f j:=C6 hk Re (cr.mpr h)
theorem J2{f:Nat->V}{n:Nat}:vw (yo k n f) (k n) v=yo k (n+1) λj=>if j=n then v else f j:=by rw[Xg _ (by rw[V6 hk,kr (f9 _)])];unfold yo;rw[Rj,bo];congr 1;refine QT λj a=>?_;show(k j,f j)=(k j,if j=n then v else f j);rw[kr (br (cr.mp a))];simp
theorem MB{f:Nat->V}:kj (l.map λj=>(k j,f j)) (k i)=(l.filter λj=>decide (j≠i)).map λj=>(k j,f j):=by unfold kj;rw[P4];congr 1;refine P0 λj _=>?_;show decide (k j≠k i)=_;rw[pb,kU,kU];exact⟨λz y=>z (by rw[y]),λz y=>z (hk y)⟩
end
theorem C8{α:Type}{k:Nat->α}{n:Nat}{f g:Nat->V}(h:∀i,i<n->f i=g i):yo k n f=yo k n g:=QT λj a=>by rw[h j (cr.mp a)]
theorem kx{α:Type}{k:Nat->α}{n:Nat}{f:Nat->V}:(yo k n f).length=n:=by unfold yo;rw[ag,d9]
noncomputable def iH(B:List dD):Bool:=B.any λm=>decide (m.2≠"go")
def aB(B:aC):HW:=⟨B.fs.length,λi=>B.ss.getD ((B.fs.getD i (0,[])).1) [],λi=>iH (B.fs.getD i (0,[])).2⟩
def rV(B:aC):aF->Prop|.rai b _=>0<=b/\b<B.b|.awa b _=>0<=b/\b<B.b|.com w=>w=0/\B.w=1|.goo w=>w=0/\B.w=1|.lea w=>w=0/\B.w=1|.wor _=>True|.say _=>True|.beg _ _=>False
def kT(B:List dD):Prop:=B=[]\/∃m,B=[(0,m)]
structure cA(hs:aC):Prop where
 w01:hs.w=0\/hs.w=1
 n1:hs.fs.length<=40
 call:∀c∈hs.fs,c.1<hs.ss.length
 mem:∀c∈hs.fs,kT c.2
 mw:hs.w=0->∀c∈hs.fs,c.2=[]
 len:∀s∈hs.ss,s.length<=80
 kd:∀s∈hs.ss,∀d∈s,rV hs d
 b0:0<=hs.b
 b9:hs.b<=99
 fit:∀i p x,i<hs.fs.length->((aB hs).S i)[p]?=some (.com x)->(aB hs).cm i=true/\Qr ((aB hs).S i) p=false
theorem sA{a:aC}(W:cA a)(f:i<a.fs.length):∃c,a.fs[i]?=some c/\c∈a.fs/\(aB a).S i∈a.ss/\(aB a).S i=a.ss.getD c.1 []/\a.ss[c.1]?=some ((aB a).S i)/\(aB a).cm i=iH c.2:=by
 have e:=cg f;have b:a.fs.getD i (0,[])=a.fs[i]:=by rw[fj,e];rfl
 have g:=QK f;have d:=W.call _ g;have j:=cg d;have k:(aB a).S i=a.ss[a.fs[i].1]:=by show a.ss.getD ((a.fs.getD i (0,[])).1) []=_;rw[b,fj,j];rfl
 refine⟨_,e,g,?_,?_,?_,?_⟩;rw[k];exact QK d;show a.ss.getD ((a.fs.getD i (0,[])).1) []=_;rw[b];rw[k];exact j;show iH (a.fs.getD i (0,[])).2=_;rw[b]
theorem qY{a:aC}(W:cA a){p:Nat}{d:aF}(b:i<a.fs.length)(h:((aB a).S i)[p]?=some d):rV a d:=by obtain⟨c,_,_,m,_⟩:=sA W b;exact W.kd _ m _ (dj h)
theorem uF{a:aC}(W:cA a)(b:i<a.fs.length):((aB a).S i).length<=80:=by obtain⟨c,_,_,m,_⟩:=sA W b;exact W.len _ m
noncomputable def xv:Sj->List Sj|.ClassDef _ _ _ b _ _ _ _ _ _ _=>b|_=>[]
noncomputable def dE:Sj:=.Pass ⟨0,0,0,0⟩
def Fn:Sj:=bI 45
abbrev Wg:Sj:=(xv Fn).getD 0 dE
abbrev Kd:Sj:=bI 46
noncomputable def aT:List Str:=["calling","script","call","begins","needs","came"]
structure aI(K:O4)(C:lv)(fs:List Str):Prop where
 cls:iK K C
 no:∀f∈fs,Xt K C f
theorem aI.n{K:O4}{C:Y}{a:O Str}(c:aI K C a)(h:f∈a:=by decide+kernel):Xt K C f:=c.no f h
def iI(P:R0)(w:SX)(K:O4)(mg:Str->Option Sr)(base:O7)(x:Str)(C:lv)(k:Nat)(B:List Str)(sp:Sp):Prop:=∃f fd,cH P w K mg base dX k f fd B sp/\Y9 K fd B []/\Mk K C f/\mg x=some (.ref C)
def bD(P:R0)(w:SX)(K:O4)(mg:Str->Option Sr)(base:O7)(C:lv)(m:Str)(k:Nat)(B:List Str)(sp:Sp):Prop:=∃f fd,cH P w K mg base dX k f fd B sp/\Y9 K fd B []/\ll K C m f
def nC(K:O4)(mg:Str->Option Sr)(x q:Str)(C:lv)(st:Sj):Prop:=∃f fd,lA K "__init__" q st f fd/\Mk K C f/\mg x=some (.ref C)
def qk(K:O4)(C:lv)(m q:Str)(st:Sj):Prop:=∃f fd,lA K m q st f fd/\ll K C m f
noncomputable def pw(F vs B:V)(Z U ac:lv):List (Str×V):=[("calling",F),("script",vs),("call",B),("begins",.ref Z),("needs",.ref U),("came",.ref ac)]
inductive nZ(cR:lv)(xs:List V)(H:Hp)(Q:VK)(e0:XK):Prop|mk:∀(x dx:lv)(vc vs vl:V),xs=[.ref x,vc,vs,vl]->H x=some (.ins cR dx [])->(∀ab an ac H',ab≠ac->H ab=none->H an=none->H ac=none->(∀b o,b≠x->H b=some o->H' b=some o)->H' x=some (.ins cR dx (pw vc vs vl ab an ac))->H' ab=some (.dK [])->H' an=some (.lst [])->H' ac=some (.dK [])->Q .non H')->nZ cR xs H Q e0
theorem yy{g:Str}{x:V}(h:g≠f):qg f v ((g,x)::r)=(g,x)::qg f v r:=kr h
section
variable{w:SX}{K:O4}{base:O7}
theorem Nz:aA ["self","calling","script","call"] ["self","calling","script","call"] (ze Wg):=.of
theorem NH{cR:Y}(D:nC K mg "Role" "Role.__init__" cR Wg)(C:aI K cR aT):iI P w K mg base "Role" cR 1 ["self","calling","script","call"] (nZ cR):=by
 obtain⟨f,fd,F,M,hm⟩:=D;refine⟨f,fd,F.ok Nz (λc H Q E h=>by cases h;subst_vars;rfl) (λaj A ah s H c Q E hr h=>?_),F.binds (λ_ _ _ _ _ _ us hl=>(by obtain⟨_,_,_,_,rfl⟩:=xQ hl;rfl)),M,hm⟩;obtain⟨x,d,a,c,i,rfl,hx,kk⟩:=h;refine⟨_,zc (vf (pv 0) (pv 1) J) (zc (vf (pv 0) (pv 2) J) (zc (vf (pv 0) (pv 3) J) (zc (vf (pv 0) Kv J) (zc (vf (pv 0) (uY zb) J) (zg (vf (pv 0) Kv J)))))),?_⟩;have n:=λg hg=>C.no g hg;refine⟨x,cR,d,[],J,hx,C.cls,n _ (by simp[aT]),(by simp),?_⟩;rw[show qg "calling" (a) []=[(("calling":Str),a)] by rfl];have g1:ji H x (.ins cR d [(("calling":Str),a)]) x=some (.ins cR d [(("calling":Str),a)]):=zd;have w1:∀b o,b≠x->H b=some o->ji H x (.ins cR d [(("calling":Str),a)]) b=some o:=λb o z e=>(ja z▸e)
 generalize ji H x (.ins cR d [(("calling":Str),a)])=H1 at g1 w1⊢;refine⟨x,cR,d,[(("calling":Str),a)],J,g1,C.cls,n _ (by simp[aT]),(by simp),?_⟩;rw[show qg "script" (c) [(("calling":Str),a)]=[(("calling":Str),a),("script",c)] by rfl];have g2:ji H1 x (.ins cR d [(("calling":Str),a),("script",c)]) x=some (.ins cR d [(("calling":Str),a),("script",c)]):=zd;have w2:∀b o,b≠x->H1 b=some o->ji H1 x (.ins cR d [(("calling":Str),a),("script",c)]) b=some o:=λb o z e=>(ja z▸e)
 generalize ji H1 x (.ins cR d [(("calling":Str),a),("script",c)])=Z at g2 w2⊢;refine⟨x,cR,d,[(("calling":Str),a),("script",c)],J,g2,C.cls,n _ (by simp[aT]),(by simp),?_⟩;rw[show qg "call" (i) [(("calling":Str),a),("script",c)]=[(("calling":Str),a),("script",c),("call",i)] by rfl];have g3:ji Z x (.ins cR d [(("calling":Str),a),("script",c),("call",i)]) x=some (.ins cR d [(("calling":Str),a),("script",c),("call",i)]):=zd;have w3:∀b o,b≠x->Z b=some o->ji Z x (.ins cR d [(("calling":Str),a),("script",c),("call",i)]) b=some o:=λb o z e=>(ja z▸e)
 generalize ji Z x (.ins cR d [(("calling":Str),a),("script",c),("call",i)])=X at g3 w3⊢;intro j B;have m:j≠x:=λz=>by simp_all
 have t3:∀b o,X b=some o->ji X j (.dK []) b=some o:=λb o e=>(ja (zi e B)▸e)
 have u3:ji X j (.dK []) j=some (.dK []):=zd;generalize ji X j (.dK [])=S at t3 u3⊢;refine⟨x,cR,d,[(("calling":Str),a),("script",c),("call",i)],J,t3 _ _ g3,C.cls,n _ (by simp[aT]),(by simp),?_⟩;rw[show qg "begins" (.ref j) [(("calling":Str),a),("script",c),("call",i)]=[(("calling":Str),a),("script",c),("call",i),("begins",.ref j)] by rfl];have g4:ji S x (.ins cR d [(("calling":Str),a),("script",c),("call",i),("begins",.ref j)]) x=some (.ins cR d [(("calling":Str),a),("script",c),("call",i),("begins",.ref j)]):=zd;have L:∀b o,b≠x->S b=some o->ji S x (.ins cR d [(("calling":Str),a),("script",c),("call",i),("begins",.ref j)]) b=some o:=λb o z e=>(ja z▸e)
 generalize ji S x (.ins cR d [(("calling":Str),a),("script",c),("call",i),("begins",.ref j)])=W at g4 L⊢;refine⟨(by simp),λl y=>?_⟩;have p:l≠x:=λz=>by simp_all
 have t4:∀b o,W b=some o->ji W l (.lst []) b=some o:=λb o e=>(ja (zi e y)▸e)
 have u4:ji W l (.lst []) l=some (.lst []):=zd;generalize ji W l (.lst [])=R at t4 u4⊢;refine⟨x,cR,d,[(("calling":Str),a),("script",c),("call",i),("begins",.ref j)],J,t4 _ _ g4,C.cls,n _ (by simp[aT]),(by simp),?_⟩;rw[show qg "needs" (.ref l) [(("calling":Str),a),("script",c),("call",i),("begins",.ref j)]=[(("calling":Str),a),("script",c),("call",i),("begins",.ref j),("needs",.ref l)] by rfl];have g5:ji R x (.ins cR d [(("calling":Str),a),("script",c),("call",i),("begins",.ref j),("needs",.ref l)]) x=some (.ins cR d [(("calling":Str),a),("script",c),("call",i),("begins",.ref j),("needs",.ref l)]):=zd;have w5:∀b o,b≠x->R b=some o->ji R x (.ins cR d [(("calling":Str),a),("script",c),("call",i),("begins",.ref j),("needs",.ref l)]) b=some o:=λb o z e=>(ja z▸e)
 generalize ji R x (.ins cR d [(("calling":Str),a),("script",c),("call",i),("begins",.ref j),("needs",.ref l)])=U at g5 w5⊢;intro ac r;have t:ac≠x:=λz=>by simp_all
 have t5:∀b o,U b=some o->ji U ac (.dK []) b=some o:=λb o e=>(ja (zi e r)▸e)
 have u5:ji U ac (.dK []) ac=some (.dK []):=zd;generalize ji U ac (.dK [])=N at t5 u5⊢;refine⟨x,cR,d,[(("calling":Str),a),("script",c),("call",i),("begins",.ref j),("needs",.ref l)],J,t5 _ _ g5,C.cls,n _ (by simp[aT]),(by simp),?_⟩;rw[show qg "came" (.ref ac) [(("calling":Str),a),("script",c),("call",i),("begins",.ref j),("needs",.ref l)]=[(("calling":Str),a),("script",c),("call",i),("begins",.ref j),("needs",.ref l),("came",.ref ac)] by rfl];have g6:ji N x (.ins cR d [(("calling":Str),a),("script",c),("call",i),("begins",.ref j),("needs",.ref l),("came",.ref ac)]) x=some (.ins cR d [(("calling":Str),a),("script",c),("call",i),("begins",.ref j),("needs",.ref l),("came",.ref ac)]):=zd;have w6:∀b o,b≠x->N b=some o->ji N x (.ins cR d [(("calling":Str),a),("script",c),("call",i),("begins",.ref j),("needs",.ref l),("came",.ref ac)]) b=some o:=λb o z e=>(ja z▸e)
 generalize ji N x (.ins cR d [(("calling":Str),a),("script",c),("call",i),("begins",.ref j),("needs",.ref l),("came",.ref ac)])=H6 at g6 w6⊢;have k3:=λb o z e=>w3 b o z (w2 b o z (w1 b o z e));have k5:=λb o z e=>w5 b o z (t4 b o e);have k6:=λb o z e=>w6 b o z (t5 b o e);have k:∀{b:Y}{G:Hp},b≠x->(∀b o,b≠x->H b=some o->G b=some o)->G b=none->H b=none:=λ{b G} z h e=>by cases q:H b with|none=>rfl|some o=>simp_all
 have v:=λb o z e=>(λb o z e=>L b o z (t3 b o e)) b o z (k3 b o z e);have u:=λb o z e=>k5 b o z (v b o z e);exact kk j l ac H6 (zi (k5 _ _ m (L _ _ m u3)) r) (k m k3 B) (k p v y) (k t u r) (λb o z e=>k6 b o z (u b o z e)) g6 (k6 _ _ m (k5 _ _ m (L _ _ m u3))) (k6 _ _ p (w5 _ _ p u4)) (w6 _ _ t u5)
end
end My
namespace L2
open PySem PySem.Spec PyProof.Rows
def Bt(M:List lv)(H B:Hp):Prop:=∀b o,b ∉ M->H b=some o->B b=some o
section
variable{M N:List lv}{H H1 H2 H0:Hp}{p:lv}{o:HO}
theorem Bt.refl:Bt M H H:=λ_ _ _ e=>e
theorem Bt.trans(a:Bt M H H1)(b:Bt M H1 H2):Bt M H H2:=λc u n e=>b c u n (a c u n e)
theorem Bt.mono(a:Bt M H H1)(s:∀x∈M,x∈N):Bt N H H1:=λc u n e=>a c u (λz=>n (s c z)) e
theorem zh.bt(s:zh H H1):Bt M H H1:=λc u _ e=>s c u e
theorem Bt.upd(h:p∈M):Bt M H (ji H p o):=λc u n e=>by rw[ja (λz=>n (by rw[z];exact h))];exact e
theorem Bt.same(a:Bt M H H1)(s:zh H0 H)(n:∀x∈M,H0 x=none):zh H0 H1:=λb u e=>a b u (λz=>by rw[n b z]at e;cases e) (s b u e)
theorem Bt.tups(a:Bt M H H1)(n:∀x∈M,∀xs,H x≠some (.tup xs)):zy H H1:=λb xs e=>a b _ (λz=>n b z xs e) e
end
end L2
namespace My
open PySem PySem.Spec PyProof.Rows L2
variable{C ab ac an ar cP cR r:lv}{A:mf}{cm:Bool}{base:O7}{H H':Hp}{es:List OP}{g:List Int}{N ps:List Str}{p:Nat}{P:R0}{sp:Sp}{st:Sj}{mg:Str->Option Sr}{vc vh vl vs:V}{w:SX}
section
variable{X:Cx}{m x:Str}{k:Nat}{p apos aE:Pos}{o e:OP}{ta:TE}{t:TA}
theorem qp{d:Sem Bool}(h:bD X.prog X.w X.K X.mg X.base C m k ps sp)(c:iK X.K C)(i:aO k X.A)(he:PE X o ta)(n:PA X (e::es) t)(a:TQ (e::es) X.env=(false,Tj e X.env)::TQ es X.env:=by rfl) (b:(backTo aE (TQ es X.env)).any (·.1)=false:=by rfl)
  (g:Tj (.Call (.Attribute o m apos) (e::es) [] aE) X.env=(do
   let ov<-Tj o X.env
   standAt apos.atName
   let(f,first)<-holding [ov] (getMethod ov m d)
   callWith aE f first (backTo aE (TQ (e::es) X.env)) (backToKw aE (keywordEach [] X.env))):=by rfl):
  PE X (.Call (.Attribute o m apos) (e::es) [] aE) (qX C m sp [] E0 ta t):=by obtain⟨f,p,F,l,j⟩:=h;exact IR he c j F i l .nil sJ n a b g
theorem X1{a:Sem Bool}(h:bD X.prog X.w X.K X.mg X.base C m k ps sp)(c:iK X.K C)(d:aO k X.A)(he:PE X o ta)(b:Tj (.Call (.Attribute o m apos) [] [] aE) X.env=(do
   let ov<-Tj o X.env
   standAt apos.atName
   let(f,first)<-holding [ov] (getMethod ov m a)
   callWith aE f first (backTo aE (TQ [] X.env)) (backToKw aE (keywordEach [] X.env))):=by rfl):
  PE X (.Call (.Attribute o m apos) [] [] aE) (qX C m sp [] E0 ta lE):=by obtain⟨f,j,F,i,g⟩:=h;exact La he c g F d i .nil sJ b
theorem pR(h:iI X.prog X.w X.K X.mg X.base x C k ps sp)(c:aO (k+1) X.A)(j:PA X (e::es) t)(g:Gl X x:=by rfl)(b:(x==("__debug__":Str))=false:=by decide)
  (he:TQ (e::es) X.env=(false,Tj e X.env)::TQ es X.env:=by rfl) (a:(backTo aE (TQ es X.env)).any (·.1)=false:=by rfl):
  PE X (.Call (.Name x p) (e::es) [] aE) (zL C sp [] E0 t):=by obtain⟨f,l,F,i,M,d⟩:=h;exact IQ M F c g d i .nil sJ j b he a
end
section
variable{K:O4}
theorem kh{m q:Str}{k:Nat}(D:qk K C m q st)(S:aA N ps (ze st))(a:∀(f:Y)(cdv:I)(A:mf)(outer:O Env)(s:Sh)(H:Hp)(vs:O V)(Q:VK)(E:XK),aO k (A.deeper (envOfC q (ze st) s.heap.objs.size f cdv))->sp vs H Q E-> let X:=(X7 dX P w K mg base N q (ze st) f cdv A outer s H E).nox;∃t,dJ X (xq st) t/\t (.of Q) (start N vs) H) (c:autoParam (∀vs H Q E,sp vs H Q E->vs.length=ps.length) xY._auto_1) (l:autoParam (∀(kV d g:I)(p:Option Y)(cdv o:I)(b:O I),b.length=ps.length->bindArgs (SF m q (jh st) (xq st) (ze st) .none kV d g p cdv o) ⟨b,[]⟩=pure (ps.zip b)) xX._auto_1):bD P w K mg base C m (k+1) ps sp:=by obtain⟨f,n,F,j⟩:=D;exact⟨f,n,F.ok S c (λcdv A outer s H vs Q E i h=>a f cdv A outer s H vs Q E i h),F.binds l,j⟩
theorem sE{x q:Str}{k:Nat}(D:nC K mg x q C st)(S:aA N ps (ze st))(a:∀(f:Y)(cdv:I)(A:mf)(outer:O Env)(s:Sh)(H:Hp)(vs:O V)(Q:VK)(E:XK),aO k (A.deeper (envOfC q (ze st) s.heap.objs.size f cdv))->sp vs H Q E-> let X:=(X7 dX P w K mg base N q (ze st) f cdv A outer s H E).nox;∃t,dJ X (xq st) t/\t (.of Q) (start N vs) H) (c:autoParam (∀vs H Q E,sp vs H Q E->vs.length=ps.length) xY._auto_1) (m:autoParam (∀(kV d g:I)(p:Option Y)(cdv o:I)(b:O I),b.length=ps.length->bindArgs (SF "__init__" q (jh st) (xq st) (ze st) .none kV d g p cdv o) ⟨b,[]⟩=pure (ps.zip b)) xX._auto_1):iI P w K mg base x C (k+1) ps sp:=by obtain⟨f,n,F,l,i⟩:=D;exact⟨f,n,F.ok S c (λcdv A outer s H vs Q E j h=>a f cdv A outer s H vs Q E j h),F.binds m,l,i⟩
end
def K3(s:yh)(p:Nat)(d:aF):V:=match jq s p d with|none=>.non|some g=>.int g.2
def fM(P:R0)(w:SX)(H:Hp)(a:lv)(s:yh)(p:Nat):Prop:=∃kvs:List ((Str×Int)×V),aM dS P w H a kvs/\kvs.length<=p/\(yv kvs ("go",0)).getD (.int 0)=.int (dR s p)/\(yv kvs ("come",0)).getD (.int 0)=.int (Ya s p)
theorem fM.same{P:R0}{w:SX}{H c:Hp}{a:Y}{s:yh}{p:Nat}(t:fM P w H a s p)(d:zh H c):fM P w c a s p:=by obtain⟨b,g,f⟩:=t;exact⟨b,g.same d,f⟩
def xZ:aF->Prop|.com w=>w=0|.goo w=>w=0|.lea w=>w=0|.beg _ _=>False|_=>True
theorem rV.wa{a:aC}{d:aF}(h:rV a d):xZ d:=by cases d<;>first|exact h.1|exact h|trivial
inductive oo(P:R0)(w:SX)(vs:List V)(H:Hp)(Q:VK)(e0:XK):Prop|mk:∀(d:aF)(v:V)(a:lv)(s:yh)(p:Nat),vs=[v,.ref a]->Is H (eD d) v->xZ d->fM P w H a s p->Q (K3 s p d) H->oo P w vs H Q e0
section
variable{K:O4}
theorem Yj{k:Nat}(a:aO k A):A.units+4<cLine:=gu (Rt (by decide) _) a.units
theorem Aw{k:Nat}(a:aO k A):A.units+8<cLine:=gu (Rt (by decide) _) a.units
theorem Mm:aA ["deed","tally"] ["deed","tally"] (ze Kd):=.of
theorem LL(D:bP K mg "need_of" Kd):Ok P w K mg base "need_of" 1 ["deed","tally"] (oo P w):=by
 refine qf D Mm ?_;rintro f M A q s H N Q E G ⟨d,v,a,U,p,rfl,z,F,⟨j,C,_,y,_⟩,k⟩ X;refine⟨_,zc (yt (zv vt (zk zj (pv 0) zf) zr (ye _)) (zg (zm (zk zj (pv 0) zf))) zu) (zc (yt (zv vt (zk zj (pv 0) zf) zr (ye _)) (zg (zm (yd xz (Kt (τ:=dS) (Yj G) (pv 1) (pv 0) zf ⟨J,J,J,J⟩) zf))) zu) (zg (zm Qk))),?_⟩
 obtain⟨r,x⟩:=Yt d;obtain⟨l,c,S,rfl,g,i,u⟩:=Is.at (i:=0) (x▸z) J;cases(u);refine⟨l,c,_,_,J,J,g,i,J,_,J,?_⟩;cases d with| awa b m=>refine xx ?_;obtain⟨W,n,R,L,o,B,t⟩:=Is.at (i:=2) z J;cases L;cases(t);exact⟨l,n,_,_,J,J,o,B,k⟩| goo w=>cases(F);refine yn ⟨l,c,_,_,J,J,g,i,J,_,J,xx ⟨a,j,J,C,l,j,("go",0),J,C,z,?_⟩⟩;rw[y];exact⟨_,_,J,J,k⟩|_=>exact yn ⟨l,c,_,_,J,J,g,i,J,_,J,yn k⟩
end
theorem ql:(pw vc vs vl ab an ac).lookup ("script":Str)=some vs:=rfl
theorem Iq:(pw vc vs vl ab an ac).lookup ("call":Str)=some vl:=rfl
theorem Mh:(pw vc vs vl ab an ac).lookup ("begins":Str)=some (.ref ab):=rfl
theorem Ki:(pw vc vs vl ab an ac).lookup ("needs":Str)=some (.ref an):=rfl
theorem Jk:(pw vc vs vl ab an ac).lookup ("came":Str)=some (.ref ac):=rfl
noncomputable def kB(B:V)(F:lv):List (Str×V):=[(("house":Str),B),("roles",.ref F)]
theorem Xi:(kB vh ar).lookup ("house":Str)=some vh:=rfl
theorem qd:(kB vh ar).lookup ("roles":Str)=some (.ref ar):=rfl
noncomputable def bF:List Str:=["house","roles"]
def qZ:Sj:=bI 47
abbrev Wh:Sj:=(xv qZ).getD 0 dE
abbrev wM:Sj:=(xv qZ).getD 1 dE
abbrev Xx:Sj:=(xv qZ).getD 2 dE
theorem qu(g:O Int):bS (tI g):=Vr g
theorem Xo(a:aF):bS (eD a):=by cases a with| beg j b=>refine⟨trivial,trivial,?_,trivial⟩;show qb (b.map nK);rw[qb.all];intro t c;obtain⟨m,_,rfl⟩:=bz.mp c;exact⟨trivial,trivial,trivial⟩|_=>first|exact⟨trivial,trivial,trivial⟩|exact⟨trivial,trivial,trivial,trivial⟩
theorem Qs(s:yh):bS (eS s):=by show qb (s.map eD);rw[qb.all];intro t a;obtain⟨d,_,rfl⟩:=bz.mp a;exact Xo d
theorem Ie(a:O dD):bS (tR a):=by show qb (a.map nK);rw[qb.all];intro t b;obtain⟨m,_,rfl⟩:=bz.mp b;exact⟨trivial,trivial,trivial⟩
theorem vB(c:X6):bS (eC c):=⟨trivial,Ie c.2,trivial⟩
theorem Xn(h:aC):bS (eH h):=by refine⟨trivial,trivial,?_,?_,trivial⟩;show qb (h.fs.map eC);rw[qb.all];intro t a;obtain⟨d,_,rfl⟩:=bz.mp a;exact vB d;show qb (h.ss.map eS);rw[qb.all];intro t a;obtain⟨d,_,rfl⟩:=bz.mp a;exact Qs d
theorem Zb{v:V}(i:Is H (tI g) v):∃b,v=.ref b/\H b=some (.tup ((kI g).map kV)):=by obtain⟨b,d,rfl,a,c⟩:=i;rw[IsL.ints.mp c,<-nO]at a;exact⟨b,J,a⟩
def hX(s:yh)(n:Nat):List V:=(Ri n).map λp=>K3 s p (s.getD p (.wor 0))
theorem Hy{s:yh}{n:Nat}:(hX s n).length=n:=by unfold hX;rw[ag,d9]
theorem JN{s:yh}{n:Nat}{d:aF}(h:s[n]?=some d):hX s (n+1)=hX s n++[K3 s n d]:=by unfold hX;rw[Rj,bo];congr 1;show[K3 s n (s.getD n (.wor 0))]=_;rw[fj,h];rfl
theorem FP{s:yh}{n:Nat}{d:aF}(a:p<n)(h:s[p]?=some d):(hX s n)[p]?=some (K3 s p d):=by unfold hX;rw[bq,QF a];show some (K3 s p (s.getD p (.wor 0)))=_;rw[fj,h];rfl
noncomputable def wj(b:Bool):List (aJ×V):=if b then[((Sm 0:aJ),V.int 0)]else[]
inductive aZ(N:lv->Prop)(H:Hp)(cR:lv)(s:yh)(cm:Bool)(r:lv):Prop|mk:∀dx vc vs ab an ac,H r=some (.ins cR dx (pw vc vs .non ab an ac))->Is H (eS s) vs->H ab=some (.dK [])->H an=some (.lst (hX s s.length))->H ac=some (.dK (wj cm))->N r->N ab->N an->N ac->aZ N H cR s cm r
theorem aZ.keep{N j:Y->Prop}{s:yh}(x:aZ N H cR s cm r)(c:∀a o,N a->H a=some o->H' a=some o)(t:zy H H')(b:∀a,N a->j a):aZ j H' cR s cm r:=by obtain⟨v,l,k,y,w,ac,u,q,p,n,m,i,g,f,d⟩:=x;exact⟨v,l,k,y,w,ac,c _ _ i u,q.tups t (Qs s),c _ _ g p,c _ _ f n,c _ _ d m,b _ i,b _ g,b _ f,b _ d⟩
theorem aZ.same{N:Y->Prop}{s:yh}(x:aZ N H cR s cm r)(b:zh H H'):aZ N H' cR s cm r:=x.keep (λa o _ e=>b a o e) b.tups λ_ n=>n
inductive oQ(P:R0)(w:SX)(cP cR:lv)(vs:List V)(H:Hp)(Q:VK)(e0:XK):Prop| mk:∀(x dx ar av:lv) (vh vhd vc:V) (hs:aC) (i:Nat) (c:X6) (R:Nat->V),vs=[.ref x,vhd,vc,.non,.ref av]->H x=some (.ins cP dx (kB vh ar))->H ar=some (.dT (yo kN i R))->aM dS P w H av []->Is H (eH hs) vh->Is H (tI [(i:Int)]) vhd->Is H (eC c) vc->kT c.2->c.1<hs.ss.length->(hs.ss.getD c.1 []).length<=80->(∀d∈hs.ss.getD c.1 [],xZ d)->i<1000->
   (∀rl H',Bt [ar,av] H H'->H' ar=some (.dT (yo kN (i+1) λj=>if j=i then .ref rl else R j))->aZ (λa=>H a=none) H' cR (hs.ss.getD c.1 []) (iH c.2) rl->Q .non H')->oQ P w cP cR vs H Q e0
noncomputable def Op:List Str:=["self","hand","calling","call","tally","role","wall","mode","place","deed","begun"]
theorem Cz:aA Op ["self","hand","calling","call","tally"] (ze wM):=.of
theorem fM.next{a:Y}{s:yh}{d:aF}(t:fM P w H a s p)(h:s[p]?=some d)(f:Zv d=false)(c:sC d=false):fM P w H a s (p+1):=by obtain⟨b,g,l,j,i⟩:=t;refine⟨b,g,by omega,j.trans ?_,i.trans ?_⟩;unfold dR;rw[fh,h,PM];simp[c];unfold Ya;rw[fh,h,PM];simp[f]
theorem fM.com{P:R0}{w:SX}{H:Hp}{a:Y}{s:yh}{p:Nat}{kvs:O ((Str×Int)×V)}{x:Int}(h:s[p]?=some (.com x))(g:aM dS P w H a (vw kvs ("come",0) (.int ((Ya s p:Int)+1))))(l:kvs.length<=p)(e:(yv kvs ("go",0)).getD (.int 0)=.int (dR s p)):fM P w H a s (p+1):=by have:=xa kvs (("come",0)) (.int ((Ya s p)+1));refine⟨_,g,by omega,?_,?_⟩;rw[ju,kr (by decide),e];unfold dR;rw[fh,h,PM];simp[sC];rw[ju,kP J];unfold Ya;rw[fh,h,PM];simp[Zv]
theorem fM.goo{P:R0}{w:SX}{H:Hp}{a:Y}{s:yh}{p:Nat}{kvs:O ((Str×Int)×V)}{x:Int}(h:s[p]?=some (.goo x))(g:aM dS P w H a (vw kvs ("go",0) (.int ((dR s p:Int)+1))))(l:kvs.length<=p)(e:(yv kvs ("come",0)).getD (.int 0)=.int (Ya s p)):fM P w H a s (p+1):=by have:=xa kvs (("go",0)) (.int ((dR s p)+1));refine⟨_,g,by omega,?_,?_⟩;rw[ju,kP J];unfold dR;rw[fh,h,PM];simp[sC];rw[ju,kr (by decide),e];unfold Ya;rw[fh,h,PM];simp[Zv]
section
variable{K:O4}
theorem JW(D:qk K cP "enter" "Plan.enter" wM)(T:Txt K mg)(CP:aI K cP bF)(CR:aI K cR aT)(oR:iI P w K mg base "Role" cR 1 ["self","calling","script","call"] (nZ cR))(o1:Ok P w K mg base "need_of" 1 ["deed","tally"] (oo P w)):bD P w K mg base cP "enter" 23 ["self","hand","calling","call","tally"] (oQ P w cP cR):=by
 refine kh D Cz ?_;rintro f eu A dt s H vs Q E hr ⟨x,dx,ar,l,vh,ek,vc,hs,n,c,R,rfl,hx,bg,b9,ih,du,ic,b1,ea,ef,co,et,k⟩ X;have hu:=ki hr;have bL:=Yj hr;have nd:=Cz.nd;refine⟨_,zc (zn (i:=5) nd (pR oR (hr.mono (by decide)) (za (pv 2) (za (zk zj (zk zj (zo (pv 0) J) (xt T.SCRIPTS)) (zk zj (pv 2) zf)) (za (pv 3) zb))))) (zc (Xy hu (zo (pv 0) J) (pv 1) (pv 5) J) (zc (xy RY J (Zq (zk zj (pv 2) zf)) (ky J (yu (zp (i:=6) nd) (yu (zp (i:=7) nd) qx))) (zg (yt (zv Q1 (pv 7) zr (ye _)) (zg (Xy hu (zo (pv 5) J) (pv 6) (Kt (τ:=dS) bL (pv 4) (zx (za zr (za (pv 6) zb))) zf ⟨J,J,J,J⟩) J)) zu)))
  (zg (xy RY J (wZ J T.enumerate (za (zo (pv 5) J) zb)) (ky J (yu (zp (i:=8) nd) (yu (zp (i:=9) nd) qx))) (zc (y0 (Zu PySem.F.plainAttrs_list PySem.F.slot_list_append PySem.F.type_list_append vm (zo (pv 5) J) (za (yb o1 (hr.mono (by decide)) (za (pv 9) (za (pv 4) zb))) zb))) (zc (yt (zv vt (zk zj (pv 9) zf) zr (ye _)) qo zu)
   (zg (yt (zv k9 (zk zj (pv 9) zf) (Wp (za zr (za zr zb))) J) (zg (xA (τ:=dS) (RC bL) (pv 4) (pv 9) (yd xz (Kt (τ:=dS) bL (pv 4) (pv 9) zf ⟨J,J,J,J⟩) zf) J)) zu)))))))),?_⟩
 have cu:=cg ea;have b0:hs.ss.getD c.1 []=hs.ss[c.1]:=by rw[fj,cu];rfl
 obtain⟨ba,xc,un,rfl,dp,ej,dG⟩:=Is.at (K:=K) (i:=0) ic J;cases(dG);obtain⟨ah,xh,us,rfl,dn,ei,dv⟩:=Is.at (i:=3) ih J;obtain⟨as,db,el,rfl,dh,eg,cs⟩:=Is.at (K:=K) dv (by rw[bq,cu];rfl);refine⟨x,cP,dx,_,_,J,hx,CP.cls,CP.n,Xi,ah,xh,_,_,J,J,dn,ei,ba,xc,_,_,J,J,dp,ej,as,db,_,_,J,J,dh,eg,?_⟩;intro q dr aj c0 eo;refine⟨q,dr,_,_,_,J,zd,λab W ac H1 ec bi ap aq kp cv bC bw bx=>⟨J,?_⟩⟩;have s0:∀{b:lv},(ji (ji H dr (.own q)) q (.ins cR dr [])) b=none->H b=none:=λ{b} e=>by by_cases c1:b=q;rw[c1];exact aj;by_cases c2:b=dr;rw[c2];exact c0;rw[ja c1,ja c2]at e;exact e
 have s1:zh H H1:=λb o e=>kp b o (zi e aj) (by rw[ja (zi e aj),ja (zi e c0)];exact e);have bi:=s0 bi;have ap:=s0 ap;have aq:=s0 aq;clear s0 kp;obtain⟨bh,rfl,eb⟩:=Zb du;refine⟨x,cP,dx,_,_,J,s1 _ _ hx,CP.cls,CP.n,qd,ar,_,J,Jg.t (k:=kN n) (s1 _ _ bg) (s1 _ _ eb) (kx▸yx (by omega)),?_⟩;rw[J2 Wu];have k2:∀{b:lv}{o:HO},H1 b=some o->H b=none->ji H1 ar (.dT (yo kN (n+1) λj=>if j=n then .ref q else R j)) b=some o:=λ{b o} e z=>(ja (ae (zi bg z))▸e)
 have B:=k2 cv aj;have a8:=k2 bC bi;have U:=k2 bw ap;have u:=k2 bx aq;have b2:Bt [ar] H (ji H1 ar (.dT (yo kN (n+1) λj=>if j=n then .ref q else R j))):=s1.bt.trans (Bt.upd (ai.mpr J));have F:ji H1 ar (.dT (yo kN (n+1) λj=>if j=n then .ref q else R j)) ar=some (.dT (yo kN (n+1) λj=>if j=n then .ref q else R j)):=zd;clear k2 cv bC bw bx s1;generalize ji H1 ar (.dT (yo kN (n+1) λj=>if j=n then .ref q else R j))=H2 at B a8 U u b2 F⊢;have cj:∀{M:List lv}{G:Hp},Bt M H G->(∀m∈M,m=ar\/H m=none)->zy H G:=λ{M G} b hM=>b.tups λm a xs e=>by rcases hM m a with z|z;rw[z,bg]at e;cases e;rw[z]at e;cases e
 have t2:=cj b2 (λm a=>.inl (ai.mp a));have bb:q≠ac:=λz=>by rw[z,u]at B;cases B
 have ax:l≠ar:=λz=>by obtain⟨xs,e,_⟩:=b9;rw[z,bg]at e;cases e
 have da:∃o,H l=some (.ext o):=let⟨xs,e,_,_,_,_⟩:=b9;⟨_,e⟩;obtain⟨da,d⟩:=da;have az:l≠ac/\l≠W/\l≠q:=⟨(λz=>by rw[z,aq]at d;cases d),(λz=>by rw[z,ap]at d;cases d),(λz=>by rw[z,aj]at d;cases d)⟩
 have bk:=b9.by t2 (by rw[b2 _ _ (λa=>ax (ai.mp a)) d,d])
 obtain⟨a',dg,um,e',cl,c6,dK⟩:=Is.at (K:=K) (i:=1) (ic.tups t2 (vB c)) J;cases e';obtain⟨am,xm,rfl,c5,cx⟩:=dK;have bK:=cx.length;rw[ag]at bK;have er:c.2.length<=1:=by rcases b1 with z|⟨m,z⟩<;>rw[z]<;>simp
 refine⟨ba,dg,_,_,J,J,cl,c6,am,J,⟨xm,aG.of c5⟩,?_⟩;have aw:∀{G:Hp},Bt [ac] H2 G->zy H2 G:=λ{G} b=>b.tups λm a xs e=>by rw[ai.mp a,u]at e;cases e
 let ce:=λi σ Z=>∃x6 x7:Option V,σ=[some (.ref x),some (.ref bh),some (.ref ba),some .non,some (.ref l),some (.ref q),x6,x7,none,none,none]/\Bt [ac] H2 Z/\Z ac=some (.dK (if i=0 then[]else wj (iH c.2)));refine Vs ce ⟨none,none,J,Bt.refl,u⟩ (λi σ Z _ q0=>by obtain⟨_,_,_,b,_⟩:=q0;exact aG.of (aw b _ _ c5)) (λi y σ Z hy ⟨x6,x7,e,C,g⟩=>?_) ?_;subst e;obtain⟨tt,a3,bJ⟩:=cx.get' hy;rw[bq]at a3;obtain⟨m,a,rfl⟩:=df.mp a3;have hi:i=0:=by have:=(d7.mp a).1;omega
 subst hi;have c4:c.2=[m]/\m.1=0:=by rcases b1 with z|⟨m',z⟩;rw[z]at a;cases a;rw[z]at a⊢;cases a;exact⟨J,J⟩
 obtain⟨mw,md⟩:=m;obtain⟨e1,e2⟩:=c4;cases(e2);obtain⟨ay,ys,rfl,ed,v1,r1,rfl,i1,v2,r2,rfl,i2,i3⟩:=bJ.tups (aw C) (show bS (nK (0,md))from⟨trivial,trivial,trivial⟩);cases(i1);cases(i2);cases(i3);have d5:iH c.2=decide (md≠"go"):=by rw[e1];simp[iH]
 refine⟨ay,_,J,aG.of ed,J,_,_,J,_,_,J,J,⟨J,_,J,?_⟩⟩;rw[show(!decide (V.str md=V.str "go"))=iH c.2 by rw[d5];by_cases z:md="go"<;>simp[z]];cases hb:iH c.2 with|false=>exact yn ⟨_,_,J,C,by rw[g,hb];rfl⟩| true=>
   refine xx ?_;have t:=bk.by (aw C) (C _ _ (λa=>az.1 (ai.mp a)) (b2 _ _ (λa=>ax (ai.mp a)) d) |>.trans (b2 _ _ (λa=>ax (ai.mp a)) d).symm)
   refine⟨l,[],J,t,cG,λp H4 s4 eq d4=>⟨p,[],("come",0),J,t.same s4,⟨p,_,J,d4,ft J J⟩,⟨q,cR,dr,_,_,J,s4 _ _ (C _ _ (λa=>bb (ai.mp a)) B),CR.cls,CR.n,Jk,ac,_,J,Jg.k (k:=(Sm 0:aJ)) (s4 _ _ g) cG,?_⟩⟩⟩;exact⟨_,_,J,(C.trans s4.bt).trans (Bt.upd (by simp)),by rw[zd,hb];rfl⟩
 rintro σ H3 ⟨x6,x7,rfl,C,g⟩;have g:H3 ac=some (.dK (wj (iH c.2))):=by rw[g];rcases b1 with z|⟨m,z⟩;rw[show xm.length=0 by rw[bK,z];rfl,z];rfl;rw[show xm.length=1 by rw[bK,z];rfl];rfl
 have bH:∀{b:lv}{o:HO},H2 b=some o->o≠ .dK []->b ∉ [ac]:=λ{b o} e z a=>by rw[ai.mp a,u]at e;exact z (RV e).symm
 have bd:=C _ _ (bH B (by simp)) B;have a6:=C _ _ (bH U (by simp)) U;have t:=bk.by (aw C) (by rw[C _ _ (λa=>az.1 (ai.mp a)) (b2 _ _ (λa=>ax (ai.mp a)) d),b2 _ _ (λa=>ax (ai.mp a)) d])
 have bB:=C _ _ (λa=>ec (ai.mp a)) a8;have bl:=C _ _ (bH F (by simp)) F;have t3:zy H H3:=λb xs e=>aw C _ _ (t2 _ _ e);clear B U a8 F;obtain⟨ad,xd,rfl,a7,bN⟩:=cs;have c3:=bN.length;rw[ag]at c3;refine⟨q,cR,dr,_,_,J,bd,CR.cls,CR.n,ql,ad,xd,J,aG.of (t3 _ _ a7),?_⟩;rw[b0]at ef co;have c8:∃o,H3 l=some (.ext o):=let⟨xs,e,_,_,_,_⟩:=t;⟨_,e⟩;obtain⟨c8,bj⟩:=c8;have bG:∀{G:Hp},Bt [W,l] H3 G->zy H3 G:=λ{G} b=>b.tups λm a xs e=>by rcases bc.mp a with z|z;rw[z,a6]at e;cases e;rw[ai.mp z,bj]at e;cases e
 have nx:∀{b:lv}{o:HO},H3 b=some o->(∀ys,o≠ .lst ys)->(∀y,o≠ .ext y)->b ∉ [W,l]:=λ{b o} e z1 z2 a=>by rcases bc.mp a with z|z;rw[z,a6]at e;exact z1 _ (RV e).symm;rw[ai.mp z,bj]at e;exact z2 _ (RV e).symm
 have bb:=nx bd (by simp) (by simp);let ce:Nat->L2.St->Hp->Prop:=λi σ Z=>∃x8 x9 bE:Option V,σ=[some (.ref x),some (.ref bh),some (.ref ba),some .non,some (.ref l),some (.ref q),x6,x7,x8,x9,bE]/\Bt [W,l] H3 Z/\Z W=some (.lst (hX hs.ss[c.1] i))/\fM P w Z l hs.ss[c.1] i;refine xG ce
  ⟨none,none,none,J,Bt.refl,a6,[],t,c9 _,J,J⟩ (λi σ Z _ q0=>by obtain⟨_,_,_,_,b,_⟩:=q0;exact aG.of (bG b _ _ (t3 _ _ a7))) ?_ ?_
 . rintro i y σ Z p hy ⟨x8,x9,bE,rfl,b4,S,d1⟩ hp;obtain⟨tt,a3,bJ⟩:=bN.get' hy;rw[bq]at a3;obtain⟨dd,ak,rfl⟩:=df.mp a3;have hi:=(d7.mp ak).1;have aS:=co dd (dj ak);have sp:=zh.new hp (.tup [.int i,y]);have cw:ji Z p (.tup [.int i,y]) p=some (.tup [.int i,y]):=zd;have b5:=b4.trans sp.bt;have N:=sp _ _ S;have a4:=d1.same sp;generalize ji Z p (.tup [.int i,y])=H5 at sp cw b5 N a4⊢;have i5:=(bJ.tups t3 (Xo _)).tups (bG b5) (Xo _);refine⟨p,_,J,aG.of cw,J,_,_,J,_,_,J,J,⟨q,cR,dr,_,_,J,b5 _ _ bb bd,CR.cls,CR.n,Ki,?_⟩⟩;refine⟨.inl ⟨J,_,aK.of N⟩,dd,y,l,hs.ss[c.1],i,J,i5,aS,a4,W,_,_,J,J,N,(Hy▸yx (by omega)),?_⟩;rw[<-JN ak];have t6:zy H5 (ji H5 W (.lst (hX hs.ss[c.1] (i+1)))):=zy.upd N (λ_ z=>by cases z);have b6:Bt [W,l] H3 (ji H5 W (.lst (hX hs.ss[c.1] (i+1)))):=b5.trans (Bt.upd (by simp));have bn:ji H5 W (.lst (hX hs.ss[c.1] (i+1))) W=_:=zd;have i6:=i5.tups t6 (Xo _);obtain⟨v,g5,gl,cc,ca⟩:=a4;have g6:=g5.by t6 (ja az.2.1)
   generalize ji H5 W (.lst (hX hs.ss[c.1] (i+1)))=H6 at b6 bn i6 g6⊢;obtain⟨r,d2⟩:=Yt dd;obtain⟨a5,ci,u5,rfl,cn,c7,dT⟩:=Is.at (i:=0) (d2▸i6) J;cases(dT);refine⟨a5,ci,_,_,J,J,cn,c7,J,_,J,?_⟩;rw[show decide (V.str (dw dd)=V.str "begin")=false by cases dd<;>first|rfl|exact aS.elim];refine yn ⟨a5,ci,_,_,J,J,cn,c7,(by decide),λp6 d3=>⟨p6,_,J,.inr (aG.of zd),J,J,_,J,?_⟩⟩;have s6:=zh.new d3 (.tup [.str "come",.str "go"]);have b7:=b6.trans s6.bt;have L:=s6 _ _ bn;have g7:=g6.same s6;have i7:=i6.mono s6;generalize ji H6 p6 (.tup [.str "come",.str "go"])=H7 at s6 b7 L g7 i7⊢;have b8:∀o,Bt [W,l] H3 (ji H7 l o):=λo=>b7.trans (Bt.upd (by simp));cases dd with| com w=>cases(aS);refine xx ⟨l,v,J,g7,a5,v,("come",0),J,g7,i7,?_⟩;rw[ca];exact⟨_,_,J,J,l,a5,v,("come",0),J,J,g7,i7,yx (by omega),λo go=>⟨_,_,_,J,b8 o,by rw[ja (ae az.2.1)];exact L,fM.com ak go gl cc⟩⟩| goo w=>cases(aS);refine xx ⟨l,v,J,g7,a5,v,("go",0),J,g7,i7,?_⟩;rw[cc];exact⟨_,_,J,J,l,a5,v,("go",0),J,J,g7,i7,yx (by omega),λo go=>⟨_,_,_,J,b8 o,by rw[ja (ae az.2.1)];exact L,fM.goo ak go gl ca⟩⟩|beg s ms=>exact aS.elim|_=>exact yn ⟨_,_,_,J,b7,L,(show fM P w H7 l _ i from⟨v,g7,gl,cc,ca⟩).next ak J J⟩
 rintro σ Z ⟨x8,x9,bE,rfl,b4,S,_⟩;rw[c3]at S;refine k q Z (λb o hb e=>?_) (b4 _ _ (nx bl (by simp) (by simp)) bl) ?_;have z1:b ∉ [ar,ac]:=λa=>by rcases bc.mp a with z|z;exact hb (z▸bv);rw[ai.mp z,aq]at e;cases e
 refine b4 b o (λa=>?_) (((b2.mono (by simp)).trans (C.mono (by simp))) b o z1 e);rcases bc.mp a with z|z;rw[z,ap]at e;cases e;exact hb (bp _ z);refine⟨dr,.ref ba,.ref ad,ab,W,ac,b4 _ _ bb bd,?_,b4 _ _ (nx bB (by simp) (by simp)) bB,?_,b4 _ _ (nx g (by simp) (by simp)) g,aj,bi,ap,aq⟩;rw[b0];exact((show Is H (eS hs.ss[c.1]) (.ref ad)from⟨ad,xd,J,a7,bN⟩).tups t3 (Qs _)).tups (bG b4) (Qs _);rw[b0];exact S
end
inductive aQ(H:Hp)(cP cR:lv)(hs:aC)(R:Nat->lv)(x:lv):Prop|mk:∀dx vh ar,H x=some (.ins cP dx (kB vh ar))->Is H (eH hs) vh->H ar=some (.dT (yo kN hs.fs.length λi=>.ref (R i)))->(∀i,i<hs.fs.length->aZ (λ_=>True) H cR ((aB hs).S i) ((aB hs).cm i) (R i))->aQ H cP cR hs R x
theorem aQ.same{H b:Hp}{cP cR:Y}{a:aC}{R:Nat->Y}{x:Y}(p:aQ H cP cR a R x)(s:zh H b):aQ b cP cR a R x:=by obtain⟨l,c,m,k,j,g,f⟩:=p;exact⟨l,c,m,s _ _ k,j.mono s,s _ _ g,λi d=>(f i d).same s⟩
inductive oh(cP cR:lv)(vs:List V)(H:Hp)(Q:VK)(e0:XK):Prop|mk:∀(x dx:lv)(vh:V)(hs:aC),vs=[.ref x,vh]->H x=some (.ins cP dx [])->Is H (eH hs) vh->cA hs->(∀R H',Bt [x] H H'->aQ H' cP cR hs R x->Q .non H')->oh cP cR vs H Q e0
section
variable{K:O4}
theorem Qy:aA ["self","house","number","calling"] ["self","house"] (ze Wh):=.of
theorem Nw(D:nC K mg "Plan" "Plan.__init__" cP Wh)(T:Txt K mg)(CP:aI K cP bF)(oE:bD P w K mg base cP "enter" 23 ["self","hand","calling","call","tally"] (oQ P w cP cR)):iI P w K mg base "Plan" cP 24 ["self","house"] (oh cP cR):=by
 refine sE D Qy ?_;rintro f bj A aS s H vs Q E hr ⟨x,r,t,hs,rfl,hx,ih,W,k⟩ X;have nd:=Qy.nd;refine⟨_,zc (vf (pv 0) (pv 1) J) (zc (vf (pv 0) Ku J) (zg (xy RY J (wZ J T.enumerate (za (zk zj (pv 1) (xt T.FIRSTS)) zb)) (ky J (yu (zp (i:=2) nd) (yu (zp (i:=3) nd) qx))) (zg (y0 (qp oE CP.cls hr (pv 0) (za (zx (za (pv 2) zb)) (za (pv 3) (za Qk (za (Vn (τ:=dS)) zb)))))))))),⟨x,cP,r,[],J,hx,CP.cls,CP.n,(by decide),?_⟩⟩
 rw[show qg "house" t []=[(("house":Str),t)] by rfl];have g1:ji H x (.ins cP r [(("house":Str),t)]) x=some (.ins cP r [(("house":Str),t)]):=zd;have b1:Bt [x] H (ji H x (.ins cP r [(("house":Str),t)])):=Bt.upd (by simp);generalize ji H x (.ins cP r [(("house"),t)])=H1 at g1 b1⊢;intro n v;have nx:n≠x:=λz=>by rw[z,g1]at v;cases v
 have s2:=zh.new v (.dT []);have h2:ji H1 n (.dT []) n=some (.dT []):=zd;generalize ji H1 n (.dT [])=H2 at s2 h2⊢;refine⟨x,cP,r,_,J,s2 _ _ g1,CP.cls,CP.n,cG,?_⟩;rw[show qg "roles" (.ref n) [(("house":Str),t)]=kB t n by rw[yy (by decide)];rfl];have g3:ji H2 x (.ins cP r (kB t n)) x=some (.ins cP r (kB t n)):=zd;have b3:Bt [x] H (ji H2 x (.ins cP r (kB t n))):=(b1.trans s2.bt).trans (Bt.upd (by simp));have h3:ji H2 x (.ins cP r (kB t n)) n=some (.dT []):=ja nx▸h2;generalize ji H2 x (.ins cP r (kB t n))=Z at g3 b3 h3⊢;have t3:=b3.tups λm l xs e=>by rw[ai.mp l,hx]at e;cases e
 obtain⟨ah,xh,uf,rfl,az,a6,a4⟩:=Is.at (i:=2) (ih.tups t3 (Xn _)) J;obtain⟨af,xf,rfl,ay,aq⟩:=a4;have av:=aq.length;rw[ag]at av;refine⟨ah,xh,_,_,J,J,az,a6,af,xf,J,aG.of ay,?_⟩;have S:=λl=>nx (ai.mp l).symm;have tb:∀{G:Hp},Bt [n] Z G->zy Z G:=λ{G} b=>b.tups λm l xs e=>by rw[ai.mp l,h3]at e;cases e
 let a8:=λi σ F=>∃(R:Nat->lv)(x2 x3:Option V),σ=[some (.ref x),some (.ref ah),x2,x3]/\Bt [n] Z F/\F n=some (.dT (yo kN i λj=>.ref (R j)))/\
  ∀j,j<i->aZ (λa=>Z a=none) F cR ((aB hs).S j) ((aB hs).cm j) (R j)
 refine xG a8
  ⟨λ_=>0,none,none,J,Bt.refl,h3,λj hj=>kS hj (gw _)⟩ (λi σ F _ q0=>by obtain⟨_,_,_,_,b,_⟩:=q0;exact aG.of (tb b _ _ ay)) ?_ ?_
 rintro i y σ F p hy ⟨R,x2,x3,rfl,b4,g,C⟩ hp;obtain⟨tt,u,a3⟩:=aq.get' hy;rw[bq]at u;obtain⟨c,hc,rfl⟩:∃c,hs.fs[i]?=some c/\eC c=tt:=by cases e:hs.fs[i]? with|none=>rw[e]at u;cases u|some z=>rw[e]at u;exact⟨z,J,RV u⟩
 have L:=dj hc;have hi:=(d7.mp hc).1;have M:=zh.new hp (.tup [.int i,y]);have ap:ji F p (.tup [.int i,y]) p=some (.tup [.int i,y]):=zd;generalize ji F p (.tup [.int i,y])=H5 at M ap⊢;have b5:=b4.trans M.bt;refine⟨p,_,J,aG.of ap,J,_,_,J,_,_,J,J,⟨x,r,_,J,b5 _ _ S g3,J,cG,λp6 H6 s6 bg a5=>(λN o7 q g7=>?_)⟩⟩;have s7:=zh.new q o7;have h7:ji H6 N o7 N=some o7:=zd;generalize ji H6 N o7=H7 at s7 h7 g7⊢;have B:=s6.trans s7;have b7:=b5.trans B.bt;have bi:=W.n1;obtain⟨c',aw,ba,sm,se,bd,ce⟩:=sA W hi;have ec:c'=c:=by rw[hc]at aw;exact(RV aw).symm
 subst ec;have ak:Z N=none:=by cases z:Z N with|none=>rfl| some o=>by_cases l:N∈[n];rw[ai.mp l]at q;rw[s6 _ _ (M _ _ g)]at q;cases q;rw[s6 _ _ (b5 _ _ l z)]at q;cases q
 refine⟨x,r,n,N,.ref ah,.ref p6,y,hs,i,c',_,J,b7 _ _ S g3,B _ _ (M _ _ g),g7,(ih.tups t3 (Xn _)).tups (tb b7) (Xn _),?_,(a3.tups (tb b7) (vB _)),W.mem c' L,W.call c' L,(se▸uF W hi),λd hd=>(W.kd _ sm d (se▸hd)).wa,by omega,λrl H8 b8 ax aj=>?_⟩;exact(show Is H6 (tI [i]) (.ref p6)from⟨p6,_,J,a5,IsL.ints.mpr J⟩).mono s7;obtain⟨bb,e7,_,_,_,_⟩:=g7;have t8:=b8.tups λm l xs e=>by rcases bc.mp l with z|z;rw[z,B _ _ (M _ _ g)]at e;cases e;rw[ai.mp z,e7]at e;cases e
 have a7:=λb o hb e=>by refine b8 b o (λl=>?_) (b7 b o hb e);rcases bc.mp l with z|z;exact hb (z▸bv);rw[ai.mp z,ak]at e;cases e
 refine⟨λj=>if j=i then rl else R j,_,_,J,a7,?_,λj hj=>?_⟩;rw[ax];congr 2;refine C8 λj _=>?_;by_cases z:j=i;simp[z];simp[z];by_cases z:j=i;subst z;show aZ _ H8 cR _ _ (if j=j then rl else R j);rw[kP J,se,ce];refine aj.keep (λa o _ z=>z) (zy.refl _) λa U=>?_;cases z:Z a with|none=>rfl| some o=>by_cases l:a∈[n];rw[ai.mp l,B _ _ (M _ _ g)]at U;cases U;rw[b7 a o l z]at U;cases U
 show aZ _ H8 cR _ _ (if j=i then rl else R j);rw[kr z];refine((C j (by omega)).same M).same s6 |>.keep (λa o U e=>b8 _ _ (λl=>?_) (s7 _ _ e)) (λb xs e=>t8 _ _ (s7 _ _ e)) λ_ y=>y
 rcases bc.mp l with y|y;rw[y,h3]at U;cases U;rw[ai.mp y,q]at e;cases e;rintro σ F ⟨R,x2,x3,rfl,b4,g,C⟩;rw[av]at g C;refine k R F (λb o hb e=>(b4 b o (λl=>?_) (b3 b o hb e))) ⟨r,.ref ah,n,b4 _ _ S g3,(ih.tups t3 (Xn _)).tups (tb b4) (Xn _),g,λi hi=>(C i hi).keep (λa o _ z=>z) (zy.refl _) λ_ _=>trivial⟩;rw[ai.mp l]at e hb;rw[b1 _ _ hb e]at v;cases v
end
theorem Ar:∀(rows:List (List Int×V))(a:List (List aJ×V)),(a.map (·.1)++rows.map λr=>kI r.1).Nodup->lW rows a=a++rows.map λr=>(kI r.1,r.2)
 |[],a,_=>by simp[lW]
 | r::rows,a,h=>by
   have b:yv a (kI r.1)=none:=by
    cases e:yv a (kI r.1)with
    |none=>rfl
    | some v=>rw[d8]at h;exact kS J ((List.nodup_append.mp h).2.2 _ (IJ e) _ bv)
   show lW rows (vw a (kI r.1) r.2)=_;rw[Xg _ b,Ar rows (a++[(kI r.1,r.2)]) (by simpa using h)];simp
noncomputable def mH(n:Nat):List (List Int×V):=(Ri n).map λ(i:Nat)=>([(i:Int)],V.int 0)
theorem Lf(n:Nat):lW (mH n) []=yo kN n λ_=>V.int 0:=by rw[Ar];unfold mH yo;rw[ck];rfl;unfold mH;rw[ck];exact List.Pairwise.map _ (λa b c z=>c (Wu z)) Re
theorem vJ{n i:Nat}{f:Nat->V}{c:O aJ×V}(h:(yo kN n f)[i]?=some c):i<n/\c=(kN i,f i):=by unfold yo at h;rw[bq]at h;obtain⟨j,a,rfl⟩:=df.mp h;have b:=(d7.mp a).1;rw[d9]at b;rw[QF b]at a;cases a;exact⟨b,J⟩
theorem dQ.same{b:Y}{r:O Int×V}(p:dQ H b r)(s:zh H H'):dQ H' b r:=let⟨a,d,c⟩:=p;⟨a,s _ _ d,s _ _ c⟩
theorem CT{a:O Y}{rows:O (O Int×V)}(p:Paired (dQ H) a rows)(s:zh H H'):Paired (dQ H') a rows:=fu p λ_ _ z=>dQ.same z s
inductive pi(cP cR:lv)(vs:List V)(H:Hp)(Q:VK)(e0:XK):Prop|mk:∀(x:lv)(hs:aC)(R:Nat->lv),vs=[.ref x]->cA hs->aQ H cP cR hs R x->(∀d H',zh H H'->H d=none->H' d=some (.dT (yo kN hs.fs.length λ_=>V.int 0))->Q (.ref d) H')->pi cP cR vs H Q e0
section
variable{K:O4}
theorem M8:aA ["self"] ["self"] (ze Xx):=.of
theorem MK(D:qk K cP "at_first" "Plan.at_first" Xx)(T:Txt K mg)(CP:aI K cP bF)(CR:aI K cR aT):bD P w K mg base cP "at_first" 1 ["self"] (pi cP cR):=by
 refine kh D M8 ?_;rintro f ax A ah s H vs Q E hr ⟨x,r,R,rfl,W,⟨dx,vh,c,hx,ih,j,aj⟩,k⟩ X;refine⟨_,zg (zm (AK (xw (Mt J (Aw hr)) J T.dict wJ (za (q8 (own:=["hand","role"]) (cap:=[]) (g:=iG K 2 (cJ (Zx 0) (cJ (Zx 1) qM))) J (xj (ze Xx) J J (by decide+kernel) (by decide+kernel) (by decide+kernel) trivial) (Kr (zo (pv 0) J)) (λ_ _ _ _=>ky J (yu (zp (by show(["hand","role"]:O Str).Nodup;decide+kernel) J (RW J)) (yu (zp (by show(["hand","role"]:O Str).Nodup;decide+kernel) J (RW J)) qx)))
  (λ_ _ _ _=>Xz (Km (t:=zB (me K (Yn 1) "call")) (tu (zo (pv 1) J)))) (λ_ _ _ _=>zx (za (pv 0) (za zf zb)))) zb)))),⟨c,_,j,trivial,λo=>?_⟩⟩
 have a:ji H c (.frz o (.dT (yo kN r.fs.length λi=>.ref (R i)))) c=some (.frz o (.dT (yo kN r.fs.length λi=>.ref (R i)))):=zd;have F:∀{b:Y}{u:HO},b≠c->H b=some u->ji H c (.frz o (.dT (yo kN r.fs.length λi=>.ref (R i)))) b=some u:=λ{b u} z e=>(ja z▸e)
 have back:∀{G:Hp},zh (ji H c (.frz o (.dT (yo kN r.fs.length λi=>.ref (R i))))) G->zh H (ji G c (.dT (yo kN r.fs.length λi=>.ref (R i)))):=λ{G} s b u e=>by by_cases z:b=c;rw[z]at e⊢;rw[zd,<-e,j];rw[ja z];exact s _ _ (F z e)
 have fresh:∀{G:Hp},zh (ji H c (.frz o (.dT (yo kN r.fs.length λi=>.ref (R i))))) G->∀{b:Y},G b=none->H b=none:=λ{G} s b e=>by cases z:H b with|none=>rfl| some u=>by_cases zz:b=c;rw[zz,s _ _ a]at e;cases e;rw[s _ _ (F zz z)]at e;cases e
 generalize ji H c (.frz o (.dT (yo kN r.fs.length λi=>.ref (R i))))=Hf at a F back fresh⊢;refine⟨x,cP,dx,_,_,J,(F (λz=>by rw[z,j]at hx;cases hx) hx),CP.cls,CP.n,qd,c,o,_,J,a,?_⟩;have aw:=W.n1;refine Cd (λi S t=>zh Hf t/\∃n:O Y,S=n.map V.ref/\Paired (dQ t) n (mH i)) ⟨zh.refl _,[],J,.nil⟩ (λi S t hi ⟨m,n,e,v⟩=>⟨m _ _ a,?_⟩) ?_ ?_;have q:=Paired.length v;unfold mH at q;rw[kx]at hi;rw[e,ag,q,ag,d9];exact Rw (yx (by omega));rintro i kv S t aq ⟨m,n,rfl,v⟩ p b ak hb;obtain⟨hi,rfl⟩:=vJ aq;obtain⟨av,vc,vs,ab,an,ac,Z,_⟩:=aj i hi;have y:=zh.new ak (.tup [.ref b,.ref (R i)]);have L:ji t p (.tup [.ref b,.ref (R i)]) p=some (.tup [.ref b,.ref (R i)]):=zd;have N:=y _ _ hb;generalize ji t p (.tup [.ref b,.ref (R i)])=H3 at y L N⊢;have ez:mH (i+1)=mH i++[([(i:Int)],V.int 0)]:=by unfold mH;rw[Rj,bo];rfl
 rw[ez];refine⟨p,_,J,aG.of L,J,_,_,J,_,_,J,J,⟨R i,cR,av,_,_,J,y _ _ (m _ _ (F (λz=>by rw[z,j]at Z;cases Z) Z)),CR.cls,CR.n,Iq,_,J,xx ⟨cG,λp4 H4 B g ap=>⟨(m.trans y).trans B,n++[p4],by rw[bo];rfl,Paired.snoc (CT v (y.trans B)) ⟨b,ap,?_⟩⟩⟩⟩⟩;rw[<-nO];exact B _ _ N;rintro S t ⟨m,n,rfl,v⟩ l hl;rw[kx]at v;have U:=zh.new hl (.lst (n.map V.ref));refine⟨l,n,_,J,zd,CT v U,λd H4 B g M=>?_⟩;have C:=(m.trans U).trans B;refine⟨C _ _ a,?_⟩;rw[Lf]at M;exact k d _ (back C) (fresh (m.trans U) g) (by rw[ja (λz=>by rw[z]at g;rw[(m.trans U) _ _ a]at g;cases g)];exact M)
end
end My
namespace L2
open PySem PySem.Spec PyProof.Rows
variable{b:lv}{H:Hp}{M:List lv}
inductive mP(x:V)(lo hi:Option Int)(H:Hp)(Q:VK):Prop|mk:∀ts,Is H (.tup ts) x->(∀v H',zh H H'->Is H' (.tup (iY ts lo hi)) v->Q v H')->mP x lo hi H Q
theorem uO{X:Cx}:qG X mP:=by intro a s c H x v f d lo r i Q I k p m l h;obtain⟨g,n,q⟩:=h;exact Fs a s c H x v f d lo r i Q I k p m l ⟨g,n.off0,λb t=>t.elim,λv u j o=>q v u j o.off⟩
noncomputable def without(M:List lv)(H:Hp):Hp:=λb=>if b∈M then none else H b
theorem vp:zh (without M H) H:=λb o e=>by
 unfold without at e
 simp_all
theorem yp(h:b∈M):without M H b=none:=kP h
theorem y9(h:b ∉ M):without M H b=H b:=kr h
theorem zh.without{M:O Y}{H a:Hp}(s:zh H a)(h:∀m∈M,H m=none):zh H (without M a):=λb o e=>by rw[y9 (λz=>by simp_all)];exact s b o e
theorem GB{a:Y}{o u:HO}(e:H a=some o):ji (ji H a u) a o=H:=by rw[II];funext b;by_cases z:b=a;rw[z,zd,e];rw[ja z]
end L2
namespace My
open PySem PySem.Spec PyProof.Rows L2
variable{ad al am bh cP cR cU f k0 x xp:lv}{A:mf}{base:O7}{H H0:Hp}{outer:List Env}{l:List Nat}{b i j p:Nat}{P:R0}{s:Sh}{mg:Str->Option Sr}{Q:VK}{cdv:Sr}{w:SX}{E:XK}
def Wa:Sj:=bI 52
abbrev Yp:Sj:=(xv Wa).getD 0 dE
abbrev uK:Sj:=(xv Wa).getD 1 dE
abbrev wP:Sj:=(xv Wa).getD 2 dE
abbrev wQ:Sj:=(xv Wa).getD 3 dE
abbrev vN:Sj:=(xv Wa).getD 4 dE
abbrev uJ:Sj:=(xv Wa).getD 5 dE
abbrev Vg:Sj:=(xv Wa).getD 8 dE
abbrev ma:Sj:=(xv Wa).getD 9 dE
abbrev Qg:Sj:=(xv Wa).getD 10 dE
noncomputable def bO:List Str:=["plan","done","sums","comers","lifts"]
noncomputable def eY(B ad as F U:lv):List (Str×V):=[(("plan":Str),.ref B),("done",.ref ad),("sums",.ref as),("comers",.ref F),("lifts",.ref U)]
theorem W9{as:Y}:(eY xp ad as am al).lookup ("plan":Str)=some (.ref xp):=rfl
theorem Zy{as:Y}:(eY xp ad as am al).lookup ("done":Str)=some (.ref ad):=rfl
theorem wX{as:Y}:(eY xp ad as am al).lookup ("sums":Str)=some (.ref as):=rfl
theorem Xv{as:Y}:(eY xp ad as am al).lookup ("comers":Str)=some (.ref am):=rfl
theorem Jz{as:Y}:(eY xp ad as am al).lookup ("lifts":Str)=some (.ref al):=rfl
theorem aQ.role{a:aC}{R:Nat->Y}(p:aQ H cP cR a R x)(b:i<a.fs.length):∃dx vh ar,H x=some (.ins cP dx (kB vh ar))/\H ar=some (.dT (yo kN a.fs.length λi=>.ref (R i)))/\yv (yo kN a.fs.length λi=>V.ref (R i)) (kI [(i:Int)])=some (.ref (R i))/\aZ (λ_=>True) H cR ((aB a).S i) ((aB a).cm i) (R i):=by obtain⟨dx,vh,ar,f,g,d,c⟩:=p;exact⟨dx,vh,ar,f,d,(V6 Wu).trans (kP b),c i b⟩
theorem r9{a:aC}(W:cA a)(b:i<a.fs.length)(h:(aB a).cm i=true):a.w=1:=by obtain⟨c,_,d,_,_,_,e⟩:=sA W b;rcases W.w01 with z|z;rw[e,W.mw z c d]at h;cases h;exact z
noncomputable def z0:Nat->Nat:=λ_=>0
noncomputable def Zh(l:List Nat):List (Nat×V):=l.map λj=>(j,V.int 0)
inductive jM(P:R0)(w:SX)(cU cP cR:lv)(vs:List V)(H:Hp)(Q:VK)(e0:XK):Prop| mk:∀(H0:Hp) (x dx xp ad am k0:lv) (fs:List (Str×V)) (hs:aC) (R:Nat->lv) (i:Nat) (vh:V) (l:List Nat),vs=[.ref x,vh,.int 0]->zh H0 H->H0 ad=none->H0 k0=none->H0 x=some (.ins cU dx fs)->fs.lookup ("plan":Str)=some (.ref xp)->fs.lookup ("done":Str)=some (.ref ad)->fs.lookup ("comers":Str)=some (.ref am)->aQ H0 cP cR hs R xp->cA hs->i<hs.fs.length->Is H (tI [(i:Int)]) vh->H ad=some (.dT (yo kN i λ_=>V.int 0))->H0 am=some (.lst (Rk hs.w.toNat (.ref k0)))->(hs.w=1->aM bZ P w H k0 (Zh l))->i ∉ l->l.length<=i->
   (∀H',Bt [ad,k0] H H'->H' ad=some (.dT (yo kN (i+1) λ_=>V.int 0))->(hs.w=1->aM bZ P w H' k0 (Zh (l++if Zi (aB hs) z0 i then[i]else[])))->Q .non H')->jM P w cU cP cR vs H Q e0
section
variable{K:O4}
theorem AW:aA ["self","hand","done","role","deeds","deed","wall","came"] ["self","hand","done"] (ze uK):=.of
theorem FW(D:qk K cU "put" "Run.put" uK)(T:Txt K mg)(CU:aI K cU bO)(CP:aI K cP bF)(CR:aI K cR aT):bD P w K mg base cU "put" 1 ["self","hand","done"] (jM P w cU cP cR):=by
 refine kh D AW ?_;rintro f b6 A bl s H vs Q E hr ⟨H0,x,dx,xp,ad,am,c,fs,a,R,i,vh,l,rfl,s0,na,nk,hx,f1,f2,f3,PA,W,hi,bn,ah,ay,hg,bE,b1,k⟩ X;have hu:=ki hr;have nd:=AW.nd;refine⟨_,zc (zn (i:=3) nd (qc hu (zo (zo (pv 0) J) J) (pv 1))) (zc (zn (i:=4) nd (Vl uO (zo (pv 3) J) Jo (Jm (pv 2)))) (zc (Xy hu (zo (pv 0) J) (pv 1) (pv 2) J) (zc (xy RY J (Zq (pv 4)) (zp (i:=5) nd) qo) (zg (vA (xy RY J (LQ (zo (pv 3) J)) (ky J (yu (zp (i:=6) nd) (yu (zp (i:=7) nd) qx))) (zg (yt (gg (AF (zv pQ (pv 2) (ya yc (by rfl) T.len wu (za (zo (pv 3) J) zb)) (ye _)) (BB (zv LM (zx (za zr (za (pv 6) zb))) (pv 4) J)))) (zg (xA (τ:=bZ) (RC (Yj hr)) (zk wy (zo (pv 0) J) (pv 6)) (pv 1) (yd xz (pv 7) (GJ PySem.F.slot_tuple_count PySem.F.type_tuple_count (LE (by exact hr.units)) (pv 4) (za (zx (za zr (za (pv 6) zb))) zb))) J)) zu)))))))),?_⟩
 obtain⟨dp,vv,ar,hp,bH,a8,a3,vc,vs,ab,an,ac,r1,r2,r4,r5,N,_⟩:=PA.role hi;obtain⟨bh,rfl,ax⟩:=Zb bn;refine⟨x,cU,dx,_,_,J,s0 _ _ hx,CU.cls,CU.n,f1,xp,cP,dp,_,_,J,s0 _ _ hp,CP.cls,CP.n,qd,ar,_,J,a8▸DGet.t (s0 _ _ bH) ax,⟨R i,cR,a3,_,_,J,s0 _ _ r1,CR.cls,CR.n,ql,⟨0,J,_,(r2.mono s0),λv1 H1 s1 i1=>?_⟩⟩⟩;have e0:iY (((aB a).S i).map eD) none (some 0)=[]:=by unfold iY;have h3:HT.bY (((aB a).S i).map eD).length (((aB a).S i).map eD).length (some 0)=0:=(HT.tH _ _ _).trans (Nat.zero_min _);rw[h3,Nat.zero_sub,List.take_zero]
 rw[e0]at i1;obtain⟨a1,x1,rfl,az,bC⟩:=i1;cases(bC);refine⟨x,cU,dx,_,_,J,(s0.trans s1) _ _ hx,CU.cls,CU.n,f2,ad,_,J,Jg.t (k:=kN i) (s1 _ _ ah) (s1 _ _ ax) (kx▸yx (by have:=W.n1;omega)),?_⟩;rw[J2 Wu,show(λj=>if j=i then V.int 0 else V.int 0)=(λ_=>V.int 0)from funext λj=>by split<;>rfl];have b2:Bt [ad] H (ji H1 ad (.dT (yo kN (i+1) λ_=>V.int 0))):=s1.bt.trans (Bt.upd (by simp));have d:ji H1 ad (.dT (yo kN (i+1) λ_=>V.int 0)) ad=some (.dT (yo kN (i+1) λ_=>V.int 0)):=zd;have aq:=b2.tups λm q xs e=>by rw[ai.mp q,ah]at e;cases e
 have r:ji H1 ad (.dT (yo kN (i+1) λ_=>V.int 0)) a1=some (.tup []):=by rw[ja (λz=>by rw[z,s1 _ _ ah]at az;cases az)];exact az
 generalize ji H1 ad (.dT (yo kN (i+1) λ_=>V.int 0))=L at b2 d r aq⊢;have M:=b2.same s0 λm q=>(ai.mp q▸na)
 refine⟨a1,J,⟨[],aG.of r⟩,(Vs (λi' S H'=>L=H'/\S=[some (.ref x),some (.ref bh),some (.int 0),some (.ref (R i)),some (.ref a1),none,none,none]) ⟨J,J⟩ (λi S H' _ ⟨e,_⟩=>(e▸aG.of r)) (λi y S H' hy _=>by cases hy) ?_)⟩;rintro S H' ⟨rfl,rfl⟩;refine⟨ac,_,M _ _ N,trivial,λo=>?_⟩;have hf:ji L ac (.frz o (.dK (wj ((aB a).cm i)))) ac=some (.frz o (.dK (wj ((aB a).cm i)))):=zd;have v:∀{b:lv}{u:HO},b≠ac->L b=some u->ji L ac (.frz o (.dK (wj ((aB a).cm i)))) b=some u:=λ{b u} z e=>(ja z▸e)
 have fk:∀{b:lv}{u:HO},b≠ac->ji L ac (.frz o (.dK (wj ((aB a).cm i)))) b=some u->L b=some u:=λ{b u} z e=>by rw[ja z]at e;exact e
 have tf:zy L (ji L ac (.frz o (.dK (wj ((aB a).cm i))))):=zy.upd (M _ _ N) (λ_ z=>by cases z);have bJ:ji (ji L ac (.frz o (.dK (wj ((aB a).cm i))))) ac (.dK (wj ((aB a).cm i)))=L:=GB (M _ _ N);generalize ji L ac (.frz o (.dK (wj ((aB a).cm i))))=Hf at hf v fk tf bJ⊢;have a5:R i≠ac:=λz=>by rw[z,N]at r1;cases r1
 refine⟨R i,cR,a3,_,_,J,v a5 (M _ _ r1),CR.cls,CR.n,Jk,ac,o,_,J,hf,?_⟩;have U:c≠ac:=λz=>by rw[z,N]at nk;cases nk
 have Z:ad≠ac:=λz=>by rw[z,N]at na;cases na
 have aw:a.w=1->aM bZ P w Hf c (Zh l)/\c≠ad:=λt=>by
  have g:=hg t;have g':=g;obtain⟨xs,e,_,_,_,_⟩:=g';have a6:c≠ad:=λz=>by rw[z,ah]at e;cases e
  refine⟨g.by (λb xs e=>tf _ _ (aq _ _ e)) ?_,a6⟩;rw[v U (b2 _ _ (λq=>a6 (ai.mp q)) e),e]
 have B:Zi (aB a) z0 i=((aB a).cm i && decide (0<((aB a).S i).length)):=by show((aB a).cm i && decide (0<((aB a).S i).length) && !([].any j0))=_;simp
 have a4:∀{G:Hp}{l':List Nat},Bt [c] Hf G->(a.w=1->aM bZ P w G c (Zh l'))->l'=(l++if Zi (aB a) z0 i then[i]else[])->G ad=Hf ad->G ac=some (.frz o (.dK (wj ((aB a).cm i))))/\Q .non (ji G ac (.dK (wj ((aB a).cm i)))):=λ{G l'} b g e ea=>by have bi:=b _ _ (λq=>U (ai.mp q).symm) hf;refine⟨bi,k (ji G ac (.dK (wj ((aB a).cm i)))) (λy u hb e1=>?_) ?_ λt=>?_⟩;have e2:=b2 _ _ (λq=>(λz=>hb (by rw[z];exact bv)) (ai.mp q)) e1;by_cases z:y=ac;rw[z,zd,<-e2,z,M _ _ N];rw[ja z];exact b _ _ (λz=>hb (bp _ z)) (v z e2);rw[ja Z,ea];exact v Z d;rw[<-e];exact(g t).by (zy.upd bi λ_ z=>by cases z) (ja U)
 have a7:=v (λz=>by rw[z,N]at hx;cases hx) (M _ _ hx);have ak:=v (λz=>by rw[z,N]at ay;cases ay) (M _ _ ay);have bg:=v (λz=>by rw[z,M _ _ N]at r;cases r) r;have bd:=tf _ _ (aq _ _ ax);have ba:=v a5 (M _ _ r1);let bK:Nat->L2.St->Hp->Prop:=λi' S G=>∃x6 x7,S=[some (.ref x),some (.ref bh),some (.int 0),some (.ref (R i)),some (.ref a1),none,x6,x7]/\Bt [c] Hf G/\G ad=Hf ad/\(a.w=1->aM bZ P w G c (Zh (if i'=0 then l else(l++if Zi (aB a) z0 i then[i]else[]))));refine M5 bK ⟨none,none,J,Bt.refl,J,λt=>(aw t).1⟩ (λi' S G _ q0=>by obtain⟨_,_,_,b,_⟩:=q0;exact b _ _ (λq=>U (ai.mp q).symm) hf) ?_ ?_;rintro i' kv S G C ⟨x6,x7,rfl,b,ea,g⟩ p hp;have bb:(aB a).cm i=true:=by cases z:(aB a).cm i with|true=>rfl|false=>rw[z]at C;cases C
 have t:=r9 W hi bb;rw[bb]at C B;have bG:i'=0/\kv=((Sm 0:aJ),V.int 0):=by cases i' with|zero=>cases C;exact⟨J,J⟩|succ j=>cases C
 obtain⟨rfl,rfl⟩:=bG;have n:∀{y:lv}{o:HO},Hf y=some o->(∀φ,o≠ .ext φ)->y ∉ [c]:=λ{y o} e z q=>by obtain⟨⟨ys,e2,_,_,_,_⟩,_⟩:=aw t;rw[ai.mp q,e2]at e;exact z _ (RV e).symm
 have sp:=zh.new hp (.tup [.int 0,.int 0]);have b3:=b.trans sp.bt;have g3:=(g t).same sp;have aj:ji G p (.tup [.int 0,.int 0]) ad=Hf ad:=by rw[ja (λz=>by rw[z,hp,<-z,v Z d]at ea;cases ea),ea]
 rw[show ji G p (HO.tup [kV ((Sm 0:aJ),V.int 0).1,((Sm 0:aJ),V.int 0).2])=ji G p (.tup [.int 0,.int 0])from rfl];refine⟨p,_,J,aG.of zd,J,_,_,J,_,_,J,J,?_⟩;generalize ji G p (.tup [.int 0,.int 0])=G3 at sp b3 g3 aj⊢;obtain⟨aS,xS,rfl,bj,bB⟩:=(r2.mono M)
 have bk:=bB.length;rw[ag]at bk;refine⟨R i,cR,a3,_,_,J,b3 _ _ (n ba (by simp)) ba,CR.cls,CR.n,ql,aS,xS,J,.inr (aG.of (b3 _ _ (n (tf _ _ bj) (by simp)) (tf _ _ bj))),_,_,J,J,_,J,?_⟩;rw[bk];by_cases c0:0<((aB a).S i).length;rw[cf (by omega)];have av:Zi (aB a) z0 i=true:=by rw[B,cf c0];rfl
 have e2:∀{G:Hp},aM bZ P w G c (vw (Zh l) i (.int (0+0)))->aM bZ P w G c (Zh (if 0+1=0 then l else(l++if Zi (aB a) z0 i then[i]else[]))):=λ{G} g=>by
  have hn:yv (Zh l) i=none:=by unfold Zh;rw[Xu (λh=>h),kr bE]
  rw[Xg _ hn]at g;rw[av];have:Zh (l++[i])=Zh l++[(i,V.int (0+0))]:=by unfold Zh;rw[bo];rfl
  simpa[this]using g
 refine xx ⟨(by decide),λp4 H4 s4 b0 bL=>?_⟩;have b4:=b3.trans s4.bt;have F:=b4 _ _ (n bg (by simp)) bg;refine⟨a1,J,F,_,J,xx ⟨⟨a1,[],J,F⟩,(by decide),λp5 H5 s5 bN bx=>?_⟩⟩;have b5:=b4.trans s5.bt;refine⟨[],.tup [.str "come",.int 0],.ref p5,J,⟨a1,[],J,s5 _ _ F,J⟩,⟨p5,_,J,bx,ft J J⟩,(λ_ z=>nomatch z),(by decide+kernel),(by decide+kernel),_,_,J,J,?_⟩;have bw:Rk a.w.toNat (V.ref c)=[.ref c]:=by rw[t];rfl
 have ap:=b5 _ _ (n ak (by simp)) ak;rw[bw]at ap;refine⟨x,cU,dx,_,_,J,b5 _ _ (n a7 (by simp)) a7,CU.cls,CU.n,f3,am,_,_,_,J,J,aK.of ap,J,⟨c,bh,Zh l,i,J,J,((g3.same s4).same s5),⟨bh,_,J,(by rw[<-nO];exact b5 _ _ (n bd (by simp)) bd),IsL.ints.mpr J⟩,(by unfold Zh;rw[ag];exact yx (by have:=W.n1;omega)),λo go=>⟨_,_,J,b5.trans (Bt.upd (by simp)),?_,λ_=>e2 go⟩⟩⟩;rw[ja (ae (aw t).2),<-aj];have:=aj▸v Z d;rw[this];exact s5 _ _ (s4 _ _ this);rw[fb (by omega)];have av:Zi (aB a) z0 i=false:=by rw[B,fb c0];rfl
 refine yn (yn ⟨_,_,J,b3,aj,λ_=>?_⟩);rw[av];simpa using g3;rintro S G ⟨x6,x7,rfl,b,ea,g⟩;refine a4 b (λt=>?_) J ea;have g:=g t;cases z:(aB a).cm i with|true=>rw[z]at g;exact g| false=>rw[z]at g B;rw[B];simpa[wj]using g
end
inductive jP(P:R0)(w:SX)(cU:lv)(vs:List V)(H:Hp)(Q:VK)(e0:XK):Prop|mk:∀(x dx am k0:lv)(fs:List (Str×V))(kvs:List (Nat×V))(ns:List Int),vs=[.ref x,.int 0]->H x=some (.ins cU dx fs)->fs.lookup ("comers":Str)=some (.ref am)->H am=some (.lst [.ref k0])->aM bZ P w H k0 kvs->kvs.map (·.2)=ns.map V.int->(∀H',zh H H'->Q (oI (eZ none ns)) H')->jP P w cU vs H Q e0
section
variable{K:O4}
theorem KP:aA ["self","wall"] ["self","wall"] (ze wP):=.of
theorem JY(D:qk K cU "least_come" "Run.least_come" wP)(T:Txt K mg)(o:mg "min"=none)(n:aI K cU bO):bD P w K mg base cU "least_come" 1 ["self","wall"] (jP P w cU):=by refine kh D KP ?_;rintro f C A b s H L Q E M ⟨x,B,F,j,N,a,q,rfl,r,z,g,m,y,k⟩ X;exact⟨_,zg (zm (IS J o J (za (xw (Mw (τ:=bZ) J) (by rfl) T.list Ju (za (IT (τ:=bZ) (zk wy (zo (pv 0) J) (pv 1))) zb)) zb))),⟨x,cU,B,_,_,J,r,n.cls,n.n,z,F,_,_,_,J,J,aK.of g,J,j,a,J,m,λv R i u c=>⟨v,j,a,J,c,m.same i,λl G p t d=>⟨l,q,J,aK.of (by rw[d,y]),k G (i.trans p)⟩⟩⟩⟩
end
inductive bX(H0:Hp)(cU cP cR:lv)(hs:aC)(R:Nat->lv)(x ad as al k0:lv):Prop|mk:∀xp dx am,aQ H0 cP cR hs R xp->H0 x=some (.ins cU dx (eY xp ad as am al))->H0 am=some (.lst (Rk hs.w.toNat (.ref k0)))->H0 ad=none->H0 as=none->H0 al=none->H0 k0=none->al≠as->(hs.w=0->k0=al)->bX H0 cU cP cR hs R x ad as al k0
def jo(B:aC)(c:Nat->Nat):List (Nat×V):=(cC (aB B) c).map λi=>(i,V.int (Ya ((aB B).S i) (c i):Int))
def dI(B:aC)(c:Nat->Nat):List V:=(Ri B.b.toNat).map λb=>V.int (lev (aB B) c b)
def qh(B:aC)(c:Nat->Nat):List (List aJ×V):=yo kN B.fs.length λi=>V.int (c i:Int)
structure cD(P:R0)(w:SX)(H:Hp)(hs:aC)(ad as al k0:lv)(c:Nat->Nat):Prop where
 d:H ad=some (.dT (qh hs c))
 s:H as=some (.lst (dI hs c))
 l:H al=some (.lst (Rk hs.w.toNat (oI (lif (aB hs) c))))
 k:hs.w=1->aM bZ P w H k0 (jo hs c)
theorem ym{a:Hp}{p:lv}(s:zh H a)(h:a p=none):H p=none:=by cases e:H p with|none=>rfl|some o=>rw[s _ _ e]at h;cases h
theorem JL{h:HW}:lev h z0 b=0:=by
 have e:∀l:O Nat,(l.map λi=>eG (h.S i) (z0 i) b).sum=0:=λl=>by induction l with|nil=>rfl|cons a r c=>rw[d8,Rn,c];rfl
 exact e _
theorem IF{a:aC}:dI a z0=Rk a.b.toNat (V.int 0):=by unfold dI;rw[QT λb _=>by rw[JL],List.map_const',d9]
inductive nT(P:R0)(w:SX)(cU cP cR:lv)(vs:List V)(H:Hp)(Q:VK)(e0:XK):Prop|mk:∀(G:Hp)(x dx xp d:lv)(hs:aC)(R:Nat->lv),vs=[.ref x,.ref xp,.ref d]->H x=some (.ins cU dx [])->zh G H->G x=none->G d=none->aQ G cP cR hs R xp->cA hs->H d=some (.dT (yo kN hs.fs.length λ_=>V.int 0))->(∀ad as al k0 H0 H',Bt [x] H H0->zh H0 H'->bX H0 cU cP cR hs R x ad as al k0->cD P w H' hs ad as al k0 z0->Q .non H')->nT P w cU cP cR vs H Q e0
section
variable{K:O4}
theorem J9:aA ["self","plan","stand","hand","done"] ["self","plan","stand"] (ze Yp):=.of
theorem MV(D:nC K mg "Run" "Run.__init__" cU Yp)(T:Txt K mg)(CU:aI K cU bO)(CP:aI K cP bF)(o1:bD P w K mg base cU "put" 1 ["self","hand","done"] (jM P w cU cP cR))(o2:bD P w K mg base cU "least_come" 1 ["self","wall"] (jP P w cU)):iI P w K mg base "Run" cU 2 ["self","plan","stand"] (nT P w cU cP cR):=by
 refine sE (k:=1) D J9 ?_;rintro f ej A c2 s H vs Q E hr ⟨G,x,v,r,d,a,R,rfl,hx,sG,Gx,Gd,PA,W,hd,k⟩ X;have nd:=J9.nd;refine⟨_,zc (vf (pv 0) (pv 1) J) (zc (vf (pv 0) Ku J) (zc (vf (pv 0) (yd AI (yq (za zf zb)) (zk zj (zo (pv 1) J) (xt T.BOXES))) J) (zc (vf (pv 0) (q8 (own:=["wall"]) (cap:=[]) (te:=zJ bZ P w) J (xj (ze Yp) J J (by decide+kernel) (by decide+kernel) (by decide+kernel) trivial) (wc J T.range (za (zk zj (zo (pv 1) J) (xt T.WALLS)) zb)) (λ_ _ _ _=>zp (i:=0) (by show(["wall"]:List Str).Nodup;decide+kernel)) (λ_ _ _ _=>wv) (λ_ _ _ _=>Vn (τ:=bZ))) J)
  (zc (vA (xy RY J (Kr (pv 2)) (ky J (yu (zp (i:=3) nd) (yu (zp (i:=4) nd) qx))) (zg (y0 (qp o1 CU.cls hr (pv 0) (za (pv 3) (za (pv 4) zb))))))) (zg (vf (pv 0) (q8 (own:=["wall"]) (cap:=[0]) J (xj (ze Yp) J J (by decide+kernel) (by decide+kernel) (by decide+kernel) ⟨⟨_,J,.inl J,jy J⟩,trivial⟩) (wc J T.range (za (zk zj (zo (pv 1) J) (xt T.WALLS)) zb)) (λ_ _ _ _=>zp (i:=0) (by show(["wall","self"]:List Str).Nodup;decide+kernel)) (λ_ _ _ _=>wv) (λ_ _ _ _=>qp o2 CU.cls hr (pv 1) (za (pv 0) zb))) J)))))),?_⟩
 obtain⟨dp,vh,ar,hp,ih,ei,ec⟩:=id PA;have eg:=W.b0;have ef:=W.b9;obtain⟨ah,xh,u0,rfl,d5,e0,eb⟩:=Is.at (K:=K) (i:=0) (t:=.int a.b) ih J;refine⟨x,cU,v,[],J,hx,CU.cls,CU.n,cG,?_⟩;rw[show qg "plan" (.ref r) []=[(("plan":Str),V.ref r)] by rfl];have g1:ji H x (.ins cU v [(("plan":Str),V.ref r)]) x=_:=zd;have b1:Bt [x] H (ji H x (.ins cU v [(("plan":Str),V.ref r)])):=Bt.upd (by simp);generalize ji H x (.ins cU v [(("plan":Str),V.ref r)])=H1 at g1 b1⊢;intro ad F;have aw:ad≠x:=λz=>by rw[z,g1]at F;cases F
 have s2:=zh.new F (.dT []);have h2:ji H1 ad (.dT []) ad=some (.dT []):=zd;generalize ji H1 ad (.dT [])=H2 at s2 h2⊢;refine⟨x,cU,v,_,J,s2 _ _ g1,CU.cls,CU.n,cG,?_⟩;rw[show qg "done" (.ref ad) [(("plan":Str),V.ref r)]=[(("plan":Str),V.ref r),("done",.ref ad)] by rw[yy (by decide)];rfl];have g3:ji H2 x (.ins cU v [(("plan":Str),V.ref r),("done",.ref ad)]) x=_:=zd;have b3:Bt [x] H (ji H2 x (.ins cU v [(("plan":Str),V.ref r),("done",.ref ad)])):=(b1.trans s2.bt).trans (Bt.upd (by simp));have h3:ji H2 x (.ins cU v [(("plan":Str),V.ref r),("done",.ref ad)]) ad=_:=(ja aw).trans h2;generalize ji H2 x (.ins cU v [(("plan":Str),V.ref r),("done",.ref ad)])=H3 at g3 b3 h3⊢;have sx:∀{Jx:Hp},Bt [x] H Jx->zh G Jx:=λ{Jx} b=>b.same sG λm B=>by rw[ai.mp B];exact Gx
 refine⟨cG,λp4 H4 s4 ed dn=>?_⟩;have b4:=b3.trans (M:=[x]) s4.bt;have bB:=sx b4;obtain⟨a',cv,u4,e',c0,e4,dg⟩:=Is.at (K:=K) (i:=0) (t:=.int a.b) (ih.mono bB) J;cases e';cases(show u4=.int a.b from dg);refine⟨r,cP,dp,_,_,J,bB _ _ hp,CP.cls,CP.n,Xi,ah,cv,_,_,J,J,c0,e4,p4,a.b,_,J,J,dn,(by omega),(by omega),(by show 1*a.b.toNat<=TL;exact Rw (yx (by omega))),λas Z=>?_⟩;have cn:(Rk a.b.toNat [V.int 0]).flatten=Rk a.b.toNat (V.int 0):=by induction a.b.toNat with|zero=>rfl|succ n ih=>rw[Rl,QA,ih,Rl];rfl
 rw[cn];have s5:=zh.new Z (.lst (Rk a.b.toNat (V.int 0)));have h5:ji H4 as (.lst (Rk a.b.toNat (V.int 0))) as=some (.lst (Rk a.b.toNat (V.int 0))):=zd;generalize ji H4 as (.lst (Rk a.b.toNat (V.int 0)))=H5 at s5 h5⊢;have a3:as≠x:=λz=>by rw[z,s4 _ _ g3]at Z;cases Z
 have bG:as≠ad:=λz=>by rw[z,s4 _ _ h3]at Z;cases Z
 refine⟨x,cU,v,_,J,s5 _ _ (s4 _ _ g3),CU.cls,CU.n,cG,?_⟩;rw[show qg "sums" (.ref as) [(("plan":Str),V.ref r),("done",.ref ad)]=[(("plan":Str),V.ref r),("done",.ref ad),("sums",.ref as)] by rw[yy (by decide),yy (by decide)];rfl];have g6:ji H5 x (.ins cU v [(("plan":Str),V.ref r),("done",.ref ad),("sums",.ref as)]) x=_:=zd;have b6:Bt [x] H (ji H5 x (.ins cU v [(("plan":Str),V.ref r),("done",.ref ad),("sums",.ref as)])):=(b4.trans s5.bt).trans (Bt.upd (by simp));have h6:ji H5 x (.ins cU v [(("plan":Str),V.ref r),("done",.ref ad),("sums",.ref as)]) ad=_:=(ja aw).trans (s5 _ _ (s4 _ _ h3));have i6:ji H5 x (.ins cU v [(("plan":Str),V.ref r),("done",.ref ad),("sums",.ref as)]) as=_:=(ja a3).trans h5;generalize ji H5 x (.ins cU v [(("plan":Str),V.ref r),("done",.ref ad),("sums",.ref as)])=H6 at g6 b6 h6 i6⊢;have bg:=sx b6;obtain⟨a',cu,u6,e',cx,e6,db⟩:=Is.at (K:=K) (i:=1) (t:=.int a.w) (ih.mono bg) J;cases e';cases(show u6=.int a.w from db);have ea:a.w.toNat<=1/\(a.w.toNat:Int)=a.w:=by rcases W.w01 with z|z<;>rw[z]<;>decide
 refine⟨r,cP,dp,_,_,J,bg _ _ hp,CP.cls,CP.n,Xi,ah,cu,_,_,J,J,cx,e6,?_⟩;refine⟨a.w,J,(by omega),(by omega),?_⟩;let d2:Nat->List V->Hp->Prop:=λi ys N=>zh H6 N/\ys.length=i/\∀y∈ys,∃j,y=.ref j/\H6 j=none/\aM bZ P w N j [];refine Zj (n:=a.w.toNat) d2 ⟨zh.refl _,J,λ_ hy=>nomatch hy⟩ (λi ys _ hi q0=>by obtain⟨_,e,_⟩:=q0;exact by rw[e];exact Yv (by omega)) (λi ys N hi ⟨sH,el,hy⟩=>?_) ?_;refine iZ ?_;intro j o ca gk;have s7:=zh.new ca o;refine⟨sH.trans s7,by rw[cq,el];rfl,λy B=>?_⟩;rcases cp.mp B with z|z;obtain⟨k1,e1,e2,e3⟩:=hy y z;exact⟨k1,e1,e2,e3.same s7⟩;exact⟨j,ai.mp z,ym sH ca,gk⟩;rintro ys N ⟨av,el,hy⟩ t l;have bC:t≠x:=λz=>by rw[z,av _ _ g6]at l;cases l
 obtain⟨j,c8,S,U⟩:∃j,ys=Rk a.w.toNat (.ref j)/\(a.w=0->j=ad)/\(a.w=1->H6 j=none/\aM bZ P w N j []):=by
  rcases W.w01 with z|z;have:a.w.toNat=0:=by rw[z];rfl
  rw[this]at el⊢;exact⟨ad,io.mp el,λ_=>rfl,λy=>by rw[z]at y;cases y⟩;have:a.w.toNat=1:=by rw[z];rfl
  rw[this]at el⊢
  match ys,el with| [y],_=>obtain⟨j,rfl,e2,e3⟩:=hy y bv;exact⟨j,J,(λy=>by rw[z]at y;cases y),λ_=>⟨e2,e3⟩⟩
 subst c8;have s7:=av.trans (zh.new l (.lst (Rk a.w.toNat (.ref j))));have h7:ji N t (.lst (Rk a.w.toNat (.ref j))) t=some (.lst (Rk a.w.toNat (.ref j))):=zd;have g7:a.w=1->aM bZ P w (ji N t (.lst (Rk a.w.toNat (.ref j)))) j []:=λz=>(U z).2.same (zh.new l _);generalize ji N t (.lst (Rk a.w.toNat (.ref j)))=H7 at s7 h7 g7⊢;have d4:H6 t=none:=ym av l;refine⟨x,cU,v,_,J,s7 _ _ g6,CU.cls,CU.n,cG,?_⟩;rw[show qg "comers" (.ref t) [(("plan":Str),V.ref r),("done",.ref ad),("sums",.ref as)]=[(("plan":Str),V.ref r),("done",.ref ad),("sums",.ref as),("comers",.ref t)] by rw[yy (by decide),yy (by decide),yy (by decide)];rfl];have cc:=s7 _ _ g6;have g8:ji H7 x (.ins cU v [(("plan":Str),V.ref r),("done",.ref ad),("sums",.ref as),("comers",.ref t)]) x=_:=zd;have b8:Bt [x] H (ji H7 x (.ins cU v [(("plan":Str),V.ref r),("done",.ref ad),("sums",.ref as),("comers",.ref t)])):=(b6.trans s7.bt).trans (Bt.upd (by simp));have h8:ji H7 x (.ins cU v [(("plan":Str),V.ref r),("done",.ref ad),("sums",.ref as),("comers",.ref t)]) ad=_:=(ja aw).trans (s7 _ _ h6);have i8:ji H7 x (.ins cU v [(("plan":Str),V.ref r),("done",.ref ad),("sums",.ref as),("comers",.ref t)]) as=_:=(ja a3).trans (s7 _ _ i6);have j8:ji H7 x (.ins cU v [(("plan":Str),V.ref r),("done",.ref ad),("sums",.ref as),("comers",.ref t)]) t=_:=(ja bC).trans h7;have k8:a.w=1->aM bZ P w (ji H7 x (.ins cU v [(("plan":Str),V.ref r),("done",.ref ad),("sums",.ref as),("comers",.ref t)])) j []:=λz=>(g7 z).by (zy.upd cc λ_ y=>by cases y) (ja λy=>by obtain⟨ys,e,_,_,_,_⟩:=g7 z;rw[y,cc]at e;cases e)
 generalize ji H7 x (.ins cU v [(("plan":Str),V.ref r),("done",.ref ad),("sums",.ref as),("comers",.ref t)])=H8 at g8 b8 h8 i8 j8 k8⊢;have a5:d≠x:=λz=>by rw[z,hx]at hd;cases hd
 have a6:=b8 d _ (λB=>a5 (ai.mp B)) hd;refine⟨d,_,a6,trivial,λo=>?_⟩;have ay:ji H8 d (.frz o (.dT (yo kN a.fs.length λ_=>V.int 0))) d=_:=zd;have ax:ad≠d:=λz=>by rw[z,b1 d _ (λB=>a5 (ai.mp B)) hd]at F;cases F
 have a4:a.w=1->j≠d/\j≠ad/\j≠as/\j≠x:=λz=>⟨(λy=>by obtain⟨ys,e,_,_,_,_⟩:=k8 z;rw[y,a6]at e;cases e),(λy=>by obtain⟨ys,e,_,_,_,_⟩:=k8 z;rw[y,h8]at e;cases e),(λy=>by obtain⟨ys,e,_,_,_,_⟩:=k8 z;rw[y,i8]at e;cases e),(λy=>by obtain⟨ys,e,_,_,_,_⟩:=k8 z;rw[y,g8]at e;cases e)⟩
 have nk:j≠d:=by rcases W.w01 with z|z;rw[S z];exact ax;exact(a4 z).1
 have sf:zh G (ji H8 d (.frz o (.dT (yo kN a.fs.length λ_=>V.int 0)))):=λb u e=>by rw[ja (λz=>by rw[z,Gd]at e;cases e)];exact sx b8 b u e
 have gf:ji H8 d (.frz o (.dT (yo kN a.fs.length λ_=>V.int 0))) x=_:=(ja (ae a5)).trans g8;have hf:ji H8 d (.frz o (.dT (yo kN a.fs.length λ_=>V.int 0))) ad=_:=(ja ax).trans h8;have c6:t≠d:=λz=>by rw[z,av _ _ (b6 d _ (λB=>a5 (ai.mp B)) hd)]at l;cases l
 have jf:ji H8 d (.frz o (.dT (yo kN a.fs.length λ_=>V.int 0))) t=_:=(ja c6).trans j8;have kf:a.w=1->aM bZ P w (ji H8 d (.frz o (.dT (yo kN a.fs.length λ_=>V.int 0)))) j []:=λz=>(k8 z).by (zy.upd a6 λ_ y=>by cases y) (ja nk)
 have az:∀{Jx:Hp},Bt [ad,j] (ji H8 d (.frz o (.dT (yo kN a.fs.length λ_=>V.int 0)))) Jx->Bt [ad,j] H8 (ji Jx d (.dT (yo kN a.fs.length λ_=>V.int 0))):=λ{Jx} b c u hc e=>by by_cases z:c=d;rw[z]at e⊢;rw[zd,<-e,a6];rw[ja z];exact b c u hc (by rw[ja z];exact e)
 generalize ji H8 d (.frz o (.dT (yo kN a.fs.length λ_=>V.int 0)))=Hf at ay sf gf hf jf kf az⊢;have a8:G ad=none:=ym (sx b1) F;have Gk:G j=none:=by rcases W.w01 with z|z;rw[S z];exact a8;exact ym bg (U z).1
 refine⟨d,o,_,J,ay,?_⟩;have C:∀{y:lv},y≠ad->y≠j->y ∉ [ad,j]:=λh1 h2 B=>(bc.mp B).elim h1 λz=>h2 (ai.mp z);have aS:x ∉ [ad,j]:=C (ae aw) λy=>by rcases W.w01 with z|z;rw[S z]at y;exact aw y.symm;exact(a4 z).2.2.2 y.symm
 have ak:t ∉ [ad,j]:=C (λy=>by rw[y,av _ _ h6]at l;cases l) λy=>by rcases W.w01 with z|z;rw[S z]at y;rw[y,av _ _ h6]at l;cases l;obtain⟨ys,e,_,_,_,_⟩:=(U z).2;rw[y,e]at l;cases l
 let d1:Nat->L2.St->Hp->Prop:=λi σ N=>∃x3 x4,σ=[some (.ref x),some (.ref r),some (.ref d),x3,x4]/\Bt [ad,j] Hf N/\N ad=some (.dT (yo kN i λ_=>V.int 0))/\(a.w=1->aM bZ P w N j (Zh ((Ri i).filter (Zi (aB a) z0))));refine L0 (kvs:=yo kN a.fs.length λ_=>V.int 0) d1 ⟨none,none,J,Bt.refl,hf,kf⟩ (λi σ N _ q0=>by obtain⟨_,_,_,b,_⟩:=q0;exact b _ _ (C (ae ax) (ae nk)) ay) ?_ ?_;rintro i kv σ N dr ⟨x3,x4,rfl,b9,h9,g9⟩ p b dh hb;obtain⟨hi,rfl⟩:=vJ dr;have sp:=zh.new dh (.tup [.ref b,.int 0]);have b7:ji N p (.tup [.ref b,.int 0]) p=some (.tup [.ref b,.int 0]):=zd;rw[show ji N p (HO.tup [V.ref b,(kN i,V.int 0).2])=ji N p (.tup [.ref b,.int 0])from rfl];generalize ji N p (.tup [.ref b,.int 0])=Ha at sp b7⊢;have ba:=b9.trans (M:=[ad,j]) sp.bt;refine⟨p,_,J,aG.of b7,J,_,_,J,_,_,J,J,?_⟩;have gx:=ba _ _ aS gf;have sa:zh G Ha:=ba.same sf λm B=>by rcases bc.mp B with z|z;rw[z];exact a8;rw[ai.mp z];exact Gk
 have wn:∀m∈[ad,j],G m=none:=λm B=>by rcases bc.mp B with z|z;rw[z];exact a8;rw[ai.mp z];exact Gk
 refine⟨x,v,_,J,gx,J,without [ad,j] Ha,x,v,r,ad,t,j,_,a,R,i,.ref b,(Ri i).filter (Zi (aB a) z0),J,vp,yp (by simp),yp (by simp),by rw[y9 aS];exact gx,J,J,J,PA.same (sa.without wn),W,hi,⟨b,_,J,sp _ _ (by rw[<-nO];exact hb),IsL.ints.mpr J⟩,sp _ _ h9,by rw[y9 ak];exact ba _ _ ak jf,λz=>(g9 z).same sp,λB=>by have:=cr.mp (fo.mp B).1;omega,dq (i0 ..) (by rw[d9];exact au _),λHb bb dv dG=>?_⟩;refine⟨_,_,J,ba.trans bb,dv,λz=>?_⟩;have g:=dG z;rw[Rj,PZ];cases q:Zi (aB a) z0 i with|true=>rw[q]at g;simpa[q]using g|false=>rw[q]at g;simpa[q]using g
 rintro σ H9 ⟨x3,x4,rfl,b9,h9,g9⟩;rw[kx]at h9 g9;refine⟨b9 _ _ (C (ae ax) (ae nk)) ay,?_⟩;have du:=b9 _ _ (C (ae ax) (ae nk)) ay;have ap:=az b9;have bk:ji H9 d (.dT (yo kN a.fs.length λ_=>V.int 0)) ad=_:=(ja ax).trans h9;have bl:a.w=1->aM bZ P w (ji H9 d (.dT (yo kN a.fs.length λ_=>V.int 0))) j (Zh ((Ri a.fs.length).filter (Zi (aB a) z0))):=λz=>(g9 z).by (zy.upd du λ_ y=>by cases y) (ja nk)
 generalize ji H9 d (.dT (yo kN a.fs.length λ_=>V.int 0))=Ht at ap bk bl⊢;have gt:=ap _ _ aS g8;have c7:as ∉ [ad,j]:=C bG λy=>by rcases W.w01 with z|z;rw[S z]at y;exact bG y;exact(a4 z).2.2.1 y.symm
 have it:=ap _ _ c7 i8;have jt:=ap _ _ ak j8;have bx:zh G Ht:=ap.same (sx b8) λm B=>by rcases bc.mp B with z|z;rw[z];exact a8;rw[ai.mp z];exact Gk
 obtain⟨a',cs,u9,e',cw,e9,da⟩:=Is.at (K:=K) (i:=1) (t:=.int a.w) (ih.mono bx) J;cases e';cases(show u9=.int a.w from da);refine⟨r,cP,dp,_,_,J,bx _ _ hp,CP.cls,CP.n,Xi,ah,cs,_,_,J,J,cw,e9,?_⟩;refine⟨a.w,J,(by omega),(by omega),?_⟩;let dT:Nat->List V->Hp->Prop:=λi ys N=>zh Ht N/\ys=Rk i (oI (lif (aB a) z0));refine Zj (n:=a.w.toNat) dT ⟨zh.refl _,J⟩ (λi ys _ hi ⟨_,e⟩=>by rw[e,ie];exact Yv (by omega)) (λi ys N hi ⟨sH,ey⟩=>?_) ?_;refine iZ ?_;have hw:a.w=1:=by omega
 have dt:i=0:=by omega
 subst dt;have b0:=sH _ _ jt;rw[show a.w.toNat=1 by rw[hw];rfl]at b0;refine⟨x,v,_,J,sH _ _ gt,J,x,v,t,j,_,_,(cC (aB a) z0).map λi=>(Ya ((aB a).S i) (z0 i):Int),J,sH _ _ gt,J,b0,(bl hw).same sH,by unfold Zh;rw[ck,ck];rfl,λek c1=>⟨sH.trans c1,by rw[ey];rfl⟩⟩;rintro ys N ⟨sH,rfl⟩ L bd;have aj:=sH.trans (zh.new bd (.lst (Rk a.w.toNat (oI (lif (aB a) z0)))));have ci:ji N L (.lst (Rk a.w.toNat (oI (lif (aB a) z0)))) L=some (.lst (Rk a.w.toNat (oI (lif (aB a) z0)))):=zd;generalize ji N L (.lst (Rk a.w.toNat (oI (lif (aB a) z0))))=aq at aj ci⊢;have M:Ht L=none:=ym sH bd;have bi:L≠x:=λz=>by rw[z,gt]at M;cases M
 have c3:L≠as:=λz=>by rw[z,it]at M;cases M
 have bj:L≠ad:=λz=>by rw[z,bk]at M;cases M
 have bE:L≠t:=λz=>by rw[z,jt]at M;cases M
 refine⟨x,cU,v,_,J,aj _ _ gt,CU.cls,CU.n,cG,?_⟩;rw[show qg "lifts" (.ref L) [(("plan":Str),V.ref r),("done",.ref ad),("sums",.ref as),("comers",.ref t)]=eY r ad as t L by rw[yy (by decide),yy (by decide),yy (by decide),yy (by decide)];rfl];have dK:=aj _ _ gt;have cj:ji aq x (.ins cU v (eY r ad as t L)) x=_:=zd;have ce:ji aq x (.ins cU v (eY r ad as t L)) ad=_:=(ja aw).trans (aj _ _ bk);have b5:ji aq x (.ins cU v (eY r ad as t L)) as=_:=(ja a3).trans (aj _ _ it);have b2:ji aq x (.ins cU v (eY r ad as t L)) t=_:=(ja bC).trans (aj _ _ jt);have bN:ji aq x (.ins cU v (eY r ad as t L)) L=_:=(ja bi).trans ci;have bL:a.w=1->aM bZ P w (ji aq x (.ins cU v (eY r ad as t L))) j (jo a z0):=λz=>((bl z).same aj).by (zy.upd dK λ_ y=>by cases y) (ja (a4 z).2.2.2)
 have co:∀b u,b≠x->b ∉ [ad,j]->H8 b=some u->ji aq x (.ins cU v (eY r ad as t L)) b=some u:=λb u z1 z2 e=>by rw[ja z1];exact aj _ _ (ap b u z2 e)
 generalize ji aq x (.ins cU v (eY r ad as t L))=a7 at cj ce b5 b2 bN bL co⊢;have c4:j≠x:=λy=>aS (by rw[<-y];simp);have c5:j≠t:=λy=>ak (by rw[<-y];simp);have bK:t≠ad:=λy=>ak (by rw[y];simp);have bJ:t≠as:=λy=>by rw[y,av _ _ i6]at l;cases l
 have cl:∀k1,k1≠x->k1≠t->(a.w=0->k1=L)->(a.w=1->k1=j)->(∀b u,H b=some u->b≠x->b≠k1)->Q .non a7:=λk1 n1 n2 n3 n4 n5=>by
  have d3:∀b u,H b=some u->b≠x->b ∉ [ad,as,L,k1]/\b≠j:=λb u e z=>by
   have bn:∀{Jx:Hp},Bt [x] H Jx->Jx b=none->False:=λ{Jx} bb f=>by rw[bb b u (λB=>z (ai.mp B)) e]at f;cases f
   have z2:b≠j:=λy=>by rcases W.w01 with q|q;rw[S q]at y;rw[y]at e z;rw[b1 _ _ (λB=>z (ai.mp B)) e]at F;cases F;rw[y]at e z;rw[b6 _ _ (λB=>z (ai.mp B)) e]at U;cases(U q).1
   refine⟨λB=>?_,z2⟩;simp only[bc,ii,or_false]at B;rcases B with y|y|y|y;subst y;exact bn b1 F;subst y;exact bn b4 Z;subst y;have:=b8 b u (λB=>z (ai.mp B)) e;rw[ap b u (C bj z2) this]at M;cases M;exact n5 b u e z y
  have bw:Bt [x] H (without [ad,as,L,k1] a7):=λb u hb e=>by have z:b≠x:=λz=>hb (ai.mpr z);obtain⟨z1,z2⟩:=d3 b u e z;rw[y9 z1];exact co b u z (C (λq=>z1 (by rw[q];simp)) z2) (b8 b u hb e)
  refine k ad as L k1 (without [ad,as,L,k1] a7) a7 bw vp ⟨r,v,t,PA.same (sx bw),?_,?_,yp (by simp),yp (by simp),yp (by simp),yp (by simp),c3,n3⟩ ⟨ce,by rw[b5,IF],bN,λz=>by rw[n4 z];exact bL z⟩;rw[y9 (by simp[ae aw,ae a3,ae bi,ae n1])];exact cj;rw[y9 (by simp[bK,bJ,ae bE,ae n2]),b2];rcases W.w01 with z|z;rw[z];rfl;rw[n4 z]
 rcases W.w01 with z|z;refine cl L bi bE (λ_=>rfl) (λy=>by rw[z]at y;cases y) λb u e q y=>?_;have:=b8 b u (λB=>q (ai.mp B)) e;have bH:b ∉ [ad,j]:=C (by rw[y];exact bj) (by rw[S z,y];exact bj);rw[y]at this bH;rw[ap L u bH this]at M;cases M;refine cl j c4 c5 (λy=>by rw[z]at y;cases y) (λ_=>rfl) λb u e q y=>?_;have:=b6 b u (λB=>q (ai.mp B)) e;rw[y,(U z).1]at this;cases this
end
abbrev Ke:Sj:=bI 51
abbrev Xe:Sj:=bI 53
noncomputable def yU(l:Option Int)(n:Int):Bool:=match l with|none=>true|some k=>decide (k≥n)
inductive oB(vs:List V)(H:Hp)(Q:VK)(e0:XK):Prop|mk:∀(l:Option Int)(n:Int),vs=[oI l,.int n]->Q (.bl (yU l n)) H->oB vs H Q e0
inductive jQ(P:R0)(w:SX)(cU cP cR:lv)(vs:List V)(H:Hp)(Q:VK)(e0:XK):Prop|mk:∀(xp:lv)(hs:aC)(R:Nat->lv),vs=[.ref xp]->aQ H cP cR hs R xp->cA hs->(∀x ad as al k0 H0 H',zh H H0->zh H0 H'->H x=none->bX H0 cU cP cR hs R x ad as al k0->cD P w H' hs ad as al k0 z0->Q (.ref x) H')->jQ P w cU cP cR vs H Q e0
structure dA(P:R0)(w:SX)(H0 H:Hp)(cU cP cR:lv)(hs:aC)(R:Nat->lv)(x ad as al k0:lv)(c:Nat->Nat):Prop where
 f:bX H0 cU cP cR hs R x ad as al k0
 s:zh H0 H
 m:cD P w H hs ad as al k0 c
structure cZ(H0 H:Hp)(cU cP cR:lv)(hs:aC)(R:Nat->lv)(x ad as al k0:lv)(c:Nat->Nat):Prop where
 f:bX H0 cU cP cR hs R x ad as al k0
 s:zh H0 H
 d:Rd H ad (.dT (qh hs c))
 u:H as=some (.lst (dI hs c))
 l:H al=some (.lst (Rk hs.w.toNat (oI (lif (aB hs) c))))
section
variable{H':Hp}{hs:aC}{R:Nat->lv}{as:lv}{c c':Nat->Nat}
theorem cD.same(m:cD P w H hs ad as al k0 c)(s:zh H H'):cD P w H' hs ad as al k0 c:=⟨s _ _ m.d,s _ _ m.s,s _ _ m.l,λz=>(m.k z).same s⟩
theorem cZ.same(r:cZ H0 H cU cP cR hs R x ad as al k0 c)(s:zh H H'):cZ H0 H' cU cP cR hs R x ad as al k0 c:=⟨r.f,r.s.trans s,r.d.elim (λe=>.inl (s _ _ e)) (λ⟨o,e⟩=>.inr ⟨o,s _ _ e⟩),s _ _ r.u,s _ _ r.l⟩
theorem iE(r:dA P w H0 H cU cP cR hs R x ad as al k0 c):cZ H0 H cU cP cR hs R x ad as al k0 c:=⟨r.f,r.s,.inl r.m.d,r.m.s,r.m.l⟩
theorem Wd(a:i<hs.fs.length):yv (qh hs c) (kI [(i:Int)])=some (.int (c i:Int)):=(V6 Wu).trans (kP a)
theorem _root_.L2.DGet.tr{a b:Y}{kvs:O (O aJ×V)}{k:O aJ}(e:Rd H a (.dT kvs))(c:H b=some (.tup (k.map kV))):DGet H a (.ref b) (yv kvs k):=.inr ⟨kvs,k,b,e,J,c,J⟩
end
def Eb(H:Hp)(d:Option aF)(v:V):Prop:=match d with|none=>v=.non|some d=>Is H (eD d) v
noncomputable def dC(g:Nat):Str×Int:=if g=1000 then("go",0)else("await",(g:Int))
def pZ(B:aC)(c:Nat->Nat)(g:Nat):Option Int:=if g=1000 then lif (aB B) c else some (lev (aB B) c g)
inductive fE(cU cP cR:lv)(vs:List V)(H:Hp)(Q:VK)(e0:XK):Prop|mk:∀(H0:Hp)(x ad as al k0:lv)(hs:aC)(R:Nat->lv)(c:Nat->Nat)(i:Nat)(vh:V),vs=[.ref x,vh]->cZ H0 H cU cP cR hs R x ad as al k0 c->i<hs.fs.length->cA hs->Is H (tI [(i:Int)]) vh->(∀v,Eb H (((aB hs).S i)[c i]?) v->Q v H)->fE cU cP cR vs H Q e0
inductive oy(cU cP cR:lv)(vs:List V)(H:Hp)(Q:VK)(e0:XK):Prop|mk:∀(H0:Hp)(x ad as al k0:lv)(hs:aC)(R:Nat->lv)(c:Nat->Nat)(g:Nat)(v:V),vs=[.ref x,v]->cZ H0 H cU cP cR hs R x ad as al k0 c->Is H (dS.tr (dC g)) v->(g=1000->hs.w=1)->(g≠1000->g<hs.b.toNat)->Q (oI (pZ hs c g)) H->oy cU cP cR vs H Q e0
inductive ox(cU cP cR:lv)(vs:List V)(H:Hp)(Q:VK)(e0:XK):Prop|mk:∀(H0:Hp)(x ad as al k0:lv)(hs:aC)(R:Nat->lv)(c:Nat->Nat)(i:Nat)(vh:V),vs=[.ref x,vh]->cZ H0 H cU cP cR hs R x ad as al k0 c->i<hs.fs.length->cA hs->Is H (tI [(i:Int)]) vh->(∀H',zh H H'->Q (.bl (qe (aB hs) c i)) H')->ox cU cP cR vs H Q e0
theorem uz{α:Type}(a b:α)(r:O α):iY (a::b::r) none (some 2)=[a,b]:=by unfold iY;have d:HT.bY (a::b::r).length (a::b::r).length (some ((2)))=min 2 (a::b::r).length:=HT.tH _ _ _;have c:HT.bY (a::b::r).length (a::b::r).length (some 2)=2:=d.trans (by rw[fg,fg];omega);rw[c,HT.rB];rfl
section
variable{K:O4}
theorem Mj:aA ["level","need"] ["level","need"] (ze Ke):=.of
theorem LK(D:bP K mg "is_met" Ke):Ok P w K mg base "is_met" 1 ["level","need"] oB:=by refine qf D Mj ?_;rintro f b A a s H c Q E d ⟨l,n,rfl,k⟩ X;refine⟨_,zg (zm (zS (tD (tu (pv 0))) (jl (jx EQ (pv 0) (pv 1) (ye _))))),?_⟩;cases l with|none=>exact⟨_,J,xx k⟩|some l=>exact⟨_,J,yn ⟨_,_,J,J,k⟩⟩
theorem NR:aA ["plan"] ["plan"] (ze Xe):=⟨J,J,J,by simp,J,by decide+kernel,by decide+kernel⟩
theorem NN(D:bP K mg "first_run" Xe)(CP:aI K cP bF)(B:bD P w K mg base cP "at_first" 1 ["self"] (pi cP cR))(z:iI P w K mg base "Run" cU 2 ["self","plan","stand"] (nT P w cU cP cR)):Ok P w K mg base "first_run" 4 ["plan"] (jQ P w cU cP cR):=by
 refine qf D NR ?_;rintro f N A j s H vs Q E r ⟨g,q,R,rfl,PA,W,k⟩ X;refine⟨_,zg (zm (pR z r (za (pv 0) (za (X1 B CP.cls (r.mono (by decide)) (pv 0)) zb)))),?_⟩;obtain⟨M,vh,ar,F,_⟩:=id PA;refine⟨g,M,_,J,F,J,g,q,R,J,W,PA,λd t a l n=>?_⟩;intro x p c m G;have i:zh t (ji (ji t p (.own x)) x (.ins cU p [])):=λb o e=>by rw[ja (zi e c),ja (zi e m)];exact e
 refine⟨H,x,p,g,d,q,R,J,zd,a.trans i,ym a c,l,PA,W,i _ _ n,λad as U C Z H' S u y v=>⟨J,(k x ad as U C Z H' (λb o e=>(S b o (λL=>?_) (i _ _ (a _ _ e)))) u (ym a c) y v)⟩⟩;rw[ai.mp L,ym a c]at e;cases e
theorem BE:aA ["self","hand","script","place"] ["self","hand"] (ze vN):=.of
theorem HQ(D:qk K cU "next_deed" "Run.next_deed" vN)(T:Txt K mg)(m:aI K cU bO)(G:aI K cP bF)(CR:aI K cR aT):bD P w K mg base cU "next_deed" 1 ["self","hand"] (fE cU cP cR):=by
 refine kh D BE ?_;rintro f ah A n s H M Q E Z ⟨H0,x,ad,as,al,k0,U,R,c,i,vh,rfl,a,B,W,o,k⟩ X;have z:=ki Z;have v:=BE.nd;refine⟨_,zc (zn (i:=2) v (zo (qc z (zo (zo (pv 0) J) J) (pv 1)) J)) (zc (zn (i:=3) v (qc z (zo (pv 0) J) (pv 1))) (zg (zm (Vm (zv pQ (pv 3) (ya yc J T.len wu (za (pv 2) zb)) (ye _)) (zk zj (pv 2) (pv 3)) Qk)))),?_⟩
 obtain⟨L,C,am,PA,y,_⟩:=a.f;obtain⟨dp,vv,ar,hp,p,b,r,vc,M,ab,an,ac,S,N,_⟩:=PA.role B;obtain⟨bh,rfl,g⟩:=Zb o;obtain⟨F,t,rfl,j,d⟩:=N.mono a.s;have l:=d.length;rw[ag]at l;refine⟨x,cU,C,_,_,J,a.s _ _ y,m.cls,m.n,W9,L,cP,dp,_,_,J,a.s _ _ hp,G.cls,G.n,qd,ar,_,J,b▸DGet.t (a.s _ _ p) g,R i,cR,r,_,_,J,a.s _ _ S,CR.cls,CR.n,ql,⟨x,cU,C,_,_,J,a.s _ _ y,m.cls,m.n,Zy,ad,_,J,Wd B▸DGet.tr a.d g,⟨F,t,J,.inr (aG.of j),_,_,J,J,_,J,?_⟩⟩⟩;rw[l];by_cases q:c i<((aB U).S i).length;rw[cf (by omega)];have e:=cg q;obtain⟨u,e1,e2⟩:=d.get (by rw[bq,e];rfl);refine xx ⟨F,t,_,u,J,J,aG.of j,xb e1,k u ?_⟩;rw[e];exact e2;rw[fb (by omega)];refine yn (k .non ?_);rw[lc (by omega)];rfl
theorem KQ:aA ["self","ground"] ["self","ground"] (ze wQ):=.of
theorem JZ(D:qk K cU "level" "Run.level" wQ)(d:aI K cU bO):bD P w K mg base cU "level" 1 ["self","ground"] (oy cU cP cR):=by refine kh D KQ ?_;rintro f F A i s H M Q E hr ⟨H0,x,ad,as,G,Z,t,R,c,g,v,rfl,a,z,p,o,k⟩ X;refine⟨_,zg (zm (Vm (zv vt (zk zj (pv 1) zf) zr (ye _)) (zk wy (zo (pv 0) J) (zk zj (pv 1) zf)) (zk wy (zo (pv 0) J) (zk zj (pv 1) zf)))),?_⟩;obtain⟨L,u,am,PA,r,_⟩:=a.f;obtain⟨q,y,rfl,b,n⟩:=z;obtain⟨S,U,rfl,l,N,W,rfl,j,m⟩:=n;cases(m);cases(l);cases(j);refine⟨q,_,_,_,J,J,aG.of b,J,J,_,J,?_⟩;by_cases e:g=1000;subst e;refine yn ⟨x,cU,u,_,_,J,a.s _ _ r,d.cls,d.n,Jz,q,_,_,_,J,J,aG.of b,J,G,_,_,_,J,J,aK.of a.l,?_,k⟩;rw[(p J)];rfl;have C:dC g=(("await":Str),(g:Int)):=kr e;have B:pZ t c g=some (lev (aB t) c g):=kr e;rw[C]at b⊢;rw[B]at k;refine xx ⟨x,cU,u,_,_,J,a.s _ _ r,d.cls,d.n,wX,q,_,_,_,J,J,aG.of b,J,as,_,_,_,J,J,aK.of a.u,xb ?_,k⟩;unfold dI;rw[bq,QF (o e)];rfl
end
theorem Aq{a:aC}{c:Nat->Nat}{g:Nat}{k:Int}:yU (pZ a c g) k=Yh (aB a) c g k:=by unfold pZ Yh;by_cases e:g=1000;rw[kP e,kP e];rfl;rw[kr e,kr e];rfl
theorem vX{a:aC}{b:Int}(c:0<=b)(f:b<a.b)(d:a.b<=99):dC b.toNat=(("await":Str),b):=by unfold dC;rw[kr (by omega),Int.toNat_of_nonneg c]
def pB(l:List Nat):T:=.lst (l.map λg=>dS.tr (dC g))
section
variable{K:O4}
theorem AV:aA ["self","hand","deed","need"] ["self","hand"] (ze uJ):=.of
theorem FV(D:qk K cU "may_go_on" "Run.may_go_on" uJ)(o:aI K cU bO)(CP:aI K cP bF)(CR:aI K cR aT)(o1:bD P w K mg base cU "next_deed" 1 ["self","hand"] (fE cU cP cR))(o2:bD P w K mg base cU "level" 1 ["self","ground"] (oy cU cP cR))(o3:Ok P w K mg base "is_met" 1 ["level","need"] oB):bD P w K mg base cU "may_go_on" 2 ["self","hand"] (ox cU cP cR):=by
 refine kh D AV ?_;rintro f ap A L s H vs Q E C ⟨H0,x,ad,as,al,M,j,R,c,i,vh,rfl,a,F,W,q,k⟩ X;have hu:=ki C;have nd:=AV.nd;refine⟨_,zc (zn (i:=2) nd (qp o1 o.cls C (pv 0) (za (pv 1) zb))) (zc (yt (Km (tu (pv 2))) (zg (zm q9)) zu) (zc (zn (i:=3) nd (zk wy (zo (qc hu (zo (zo (pv 0) J) J) (pv 1)) J) (qc hu (zo (pv 0) J) (pv 1)))) (zg (zm (zS (tD (tu (pv 3))) (jl (yb o3 C (za (qp o2 o.cls C (pv 0) (za (Vl uO (pv 2) Jo (Jm zf)) zb)) (za (pv 3) zb))))))))),?_⟩
 obtain⟨xp,B,am,PA,t,_⟩:=id a.f;refine⟨x,B,_,J,a.s _ _ t,J,H0,x,ad,as,al,M,j,R,c,i,vh,J,a,F,W,q,λv g=>?_⟩;unfold qe at k;cases e:((aB j).S i)[c i]? with
 | none=>rw[e]at g k;cases(g);exact⟨_,J,xx (k H (zh.refl H))⟩
 | some d=>
   rw[e]at g k;have g:Is H (eD d) v:=g;have l:=qY W F e;obtain⟨rr,N⟩:=Yt d;obtain⟨a5,x5,rfl,ak,aj⟩:=(N▸g)
   refine⟨_,J,yn ?_⟩;obtain⟨dp,vv,ar,hp,U,u,Z,vc,vs,ab,an,ac,r1,r2,r4,r5,_⟩:=PA.role F;obtain⟨bh,rfl,y⟩:=Zb q;refine⟨x,cU,B,_,_,J,a.s _ _ t,o.cls,o.n,W9,xp,cP,dp,_,_,J,a.s _ _ hp,CP.cls,CP.n,qd,ar,_,J,u▸DGet.t (a.s _ _ U) y,R i,cR,Z,_,_,J,a.s _ _ r1,CR.cls,CR.n,Ki,⟨x,cU,B,_,_,J,a.s _ _ t,o.cls,o.n,Zy,ad,_,J,Wd F▸DGet.tr a.d y,an,_,_,K3 ((aB j).S i) (c i) d,J,J,aK.of (a.s _ _ r5),xb (FP ((d7.mp e).1) e),?_⟩⟩;cases d with
   | awa b m=>obtain⟨n,S⟩:=l;refine⟨_,J,yn ⟨x,B,_,J,a.s _ _ t,J,2,J,_,g,λG H2 p r=>?_⟩⟩;rw[uz]at r;have ah:=W.b9;refine⟨H0,x,ad,as,al,M,j,R,c,b.toNat,G,J,a.same p,((vX n S W.b9)▸r),λz=>by omega,λ_=>by omega,pZ j c b.toNat,m,J,?_⟩;rw[Aq];exact k H2 p
   | goo b=>obtain⟨n,hw⟩:=l;cases(n);refine⟨_,J,yn ⟨x,B,_,J,a.s _ _ t,J,2,J,_,g,λG H2 p r=>?_⟩⟩;rw[uz]at r;refine⟨H0,x,ad,as,al,M,j,R,c,1000,G,J,a.same p,r,λ_=>hw,λz=>kS J z,pZ j c 1000,_,J,?_⟩;rw[Aq];exact k H2 p
   |beg s ms=>exact l.elim
   |_=>exact⟨_,J,xx (k H (zh.refl H))⟩
inductive hV(P:R0)(w:SX)(cU cP cR:lv)(vs:List V)(H:Hp)(Q:VK)(e0:XK):Prop| mk:∀(H0:Hp) (x ad as al k0 lw:lv) (vd:V) (d:aF) (hs:aC) (R:Nat->lv) (lf lf':Option Int) (ws:Bool) (kvs:List (Nat×V)) (ns:List Int),vs=[.ref x,vd,.ref lw]->bX H0 cU cP cR hs R x ad as al k0->cA hs->zh H0 H->Is H (eD d) vd->rV hs d->H lw=some (.lst (if ws then[.int 0]else[]))->H al=some (.lst (Rk hs.w.toNat (oI lf)))->lw≠al->(ws=true->hs.w=1/\aM bZ P w H k0 kvs/\kvs.map (·.2)=ns.map V.int/\lf'=eZ none ns)->(ws=false->lf'=lf)->
   (∀l H',Bt [al] H H'->H l=none->H' al=some (.lst (Rk hs.w.toNat (oI lf')))->Is H' (pB (Qi d++if lf'=lf then[]else[1000])) (.ref l)->Q (.ref l) H')->hV P w cU cP cR vs H Q e0
theorem Ka:aA ["self","deed","walls","grounds","wall","lift"] ["self","deed","walls"] (ze Qg):=.of
theorem MO(D:qk K cU "changed" "Run.changed" Qg)(CU:aI K cU bO)(o1:bD P w K mg base cU "least_come" 1 ["self","wall"] (jP P w cU)):bD P w K mg base cU "changed" 2 ["self","deed","walls"] (hV P w cU cP cR):=by
 refine kh D Ka ?_;rintro f b9 A bg s H vs Q E hr ⟨H0,x,ad,as,v,k0,lw,vd,d,hs,R,n,a,ws,bj,ns,rfl,RF,W,s0,hd,bH,U,ak,bi,bl,a4,k⟩ X;have nd:=Ka.nd;refine⟨_,zc (zn (i:=3) nd (Vm (zv vt (zk zj (pv 1) zf) zr (ye _)) (yq (za (zx (za zr (za (zk zj (pv 1) zf) zb))) zb)) (yq zb))) (zc (xy RY J (jg (pv 2)) (zp (i:=4) nd) (zc (zn (i:=5) nd (qp o1 CU.cls hr (pv 0) (za (pv 4) zb))) (zg (yt (zv Q1 (pv 5) (zk wy (zo (pv 0) J) (pv 4)) (ye _)) (zc (uZ (pv 5) (AC (zo (pv 0) J) (pv 4) J8)) (zg (y0 (Zu PySem.F.plainAttrs_list PySem.F.slot_list_append PySem.F.type_list_append vm (pv 3) (za (zx (za zr (za (pv 4) zb))) zb))))) zu))))
  (zg (zm (pv 3)))),?_⟩
 obtain⟨xp,dx,am,PA,hx,M,b7,b6,aS,nk⟩:=id RF;obtain⟨r,bx⟩:=Yt d;obtain⟨a5,ba,u5,rfl,bd,b1,bw⟩:=Is.at (K:=K) (i:=0) (bx▸hd) J;cases(bw);have ap:∀(l:lv)(B:Hp),zh H B->H l=none->Is B (pB (Qi d)) (.ref l)->cB (Zx 4) (uD (sr (qX cU "least_come" (jP P w cU) [] E0 (Yn 0) (Vb (Yn 4) lE)) (Zx 5)) (zA (zO (nQ DJ (Yn 5) (nQ (pj X.K) (me X.K (Yn 0) "lifts") (Yn 4)))) (uD (sr (Yn 5) (yY (me X.K (Yn 0) "lifts") (Yn 4) jV)) (zI (DC X.K "list" dZ (Yn 3) (Vb (zP (Vb (tC (.str "go")) (Vb (Yn 4) lE))) lE)))) zN)) ((wo.of Q).sq (yZ (Yn 3))) [some (.ref x),some (.ref a5),some (.ref lw),some (.ref l),none,none] (qJ X.K lw) B:=by
  intro l B u hl il;have ah:=s0.trans u;obtain⟨l',xl,el,L,bk⟩:=il;cases el;have az:l≠v:=λz=>by rw[z,ak]at hl;cases hl
  have t2:∀{G:Hp},Bt [v,l] B G->zy B G:=λ{G} b=>b.tups λm hm xs e=>by rcases bc.mp hm with z|z;rw[z,u _ _ ak]at e;cases e;rw[ai.mp z,L]at e;cases e
  have nn:∀{y:lv}{o:HO},B y=some o->y≠v->y≠l->y ∉ [v,l]:=λ{y o} _ h1 h2 hm=>(bc.mp hm).elim h1 λz=>h2 (ai.mp z);let b5:Nat->L2.St->Hp->Prop:=λi σ H'=>∃x4 x5,σ=[some (.ref x),some (.ref a5),some (.ref lw),some (.ref l),x4,x5]/\Bt [v,l] B H'/\H' v=some (.lst (Rk hs.w.toNat (oI (if i=0 then n else a))))/\Is H' (pB (Qi d++if i=0\/a=n then[]else[1000])) (.ref l);refine Zm b5
   ⟨none,none,J,Bt.refl,u _ _ ak,by simpa using⟨l,xl,J,L,bk⟩⟩ (λi σ H' _ q0=>by obtain⟨_,_,_,b,_⟩:=q0;exact aK.of (b _ _ (nn (u _ _ U) bi (ae (λz=>by rw[z,U]at hl;cases hl))) (u _ _ U))) ?_ ?_
  rintro i y σ H' hy ⟨x4,x5,rfl,b,c,F⟩;cases S:ws with|false=>rw[S]at hy;cases hy| true=>
    rw[S]at hy;have hi:i=0/\y=.int 0:=by cases i with|zero=>cases hy;exact⟨J,J⟩|succ j=>cases hy
    obtain⟨rfl,rfl⟩:=hi;obtain⟨hw,hg,hn,bE⟩:=bl S;have bJ:=hg;obtain⟨ys,ek,_,_,_,_⟩:=bJ;have ay:=u _ _ ek;have aj:=b _ _ (nn (ah _ _ hx) (λz=>by rw[z,aS]at hx;cases hx) (λz=>by rw[<-z,s0 _ _ hx]at hl;cases hl)) (ah _ _ hx);have aq:=b _ _ (nn (ah _ _ M) (λz=>by rw[z,aS]at M;cases M) (λz=>by rw[z]at M;rw[s0 _ _ M]at hl;cases hl)) (ah _ _ M);have aw:hs.w.toNat=1:=by rw[hw];rfl
    rw[aw]at aq c;refine⟨x,dx,_,J,aj,J,x,dx,am,k0,_,bj,ns,J,aj,Xv,aq,((hg.same u).by (t2 b) (by rw[b _ _ (nn ay (λz=>by rw[z,ak]at ek;cases ek) (λz=>by rw[z,hl]at ek;cases ek)) ay,ay])),hn,λH3 s3=>?_⟩;rw[<-bE];have C:=s3 _ _ c;have a3:=F.mono s3;have b3:=b.trans s3.bt;refine⟨x,cU,dx,_,_,J,s3 _ _ aj,CU.cls,CU.n,Jz,v,_,_,oI n,J,J,aK.of C,J,(by cases a<;>cases n<;>rfl),_,J,?_⟩;have bN:decide (oI a=oI n)=decide (a=n):=by rw[pb,kU,kU];cases a<;>cases n<;>simp[oI]
    rw[bN];by_cases q:a=n;rw[cf q];refine yn ⟨_,_,J,b3,?_,?_⟩;rw[C,aw,q];simp;simpa[q]using a3;rw[fb q];refine xx ⟨x,cU,dx,_,_,J,s3 _ _ aj,CU.cls,CU.n,Jz,v,_,0,0,J,J,C,J,?_⟩;obtain⟨l',av,b2,bG,N⟩:=a3;cases b2;have b4:Bt [v,l] B (ji H3 v (.lst ([oI n].set 0 (oI a)))):=b3.trans (Bt.upd (by simp));have t4:zy H3 (ji H3 v (.lst ([oI n].set 0 (oI a)))):=zy.upd C λ_ z=>by cases z
    have h4:ji H3 v (.lst ([oI n].set 0 (oI a))) v=some (.lst [oI a]):=zd;have Z:ji H3 v (.lst ([oI n].set 0 (oI a))) l=some (.lst av):=ja az▸bG;rw[show(Rk 1 (oI (if 0=0 then n else a))).set 0 (oI a)=[oI n].set 0 (oI a)from rfl];generalize ji H3 v (.lst ([oI n].set 0 (oI a)))=H4 at b4 t4 h4 Z⊢;refine⟨.inl ⟨J,_,aK.of Z⟩,(by decide),λp H5 s5 a7 bB=>⟨l,av,.ref p,J,J,s5 _ _ Z,?_,?_⟩⟩;have:=N.length;rw[ag]at this;have e:(Qi d++if 0=0\/a=n then[]else[1000]).length<=1:=by cases d<;>first|exact c9 _|exact au _
    exact yx (by omega);refine⟨_,_,J,(b4.trans s5.bt).trans (Bt.upd (by simp)),?_,⟨l,_,J,zd,?_⟩⟩;rw[ja (ae az),s5 _ _ h4,aw];rfl;have h6:ji H5 l (.lst (av++[.ref p])) p=some (.tup [.str "go",.int 0]):=by rw[ja (λz=>by rw[z,Z]at a7;cases a7)];exact bB
    have e1:(Qi d++if 0=0\/a=n then[]else[1000])=Qi d:=by simp
    have e2:(Qi d++if 0+1=0\/a=n then[]else[1000])=Qi d++[1000]:=by simp[q]
    rw[e1]at N;rw[e2,bo];have fr:qb ((Qi d).map λg=>dS.tr (dC g)):=by rw[qb.all];intro t ht;obtain⟨g,_,rfl⟩:=bz.mp ht;exact dS.fro _
    exact(((N.tups t4 fr).mono s5).tups (zy.upd (s5 _ _ Z) λ_ z=>by cases z) fr).append (IsL.one ⟨p,_,J,h6,ft J J⟩)
  rintro σ H' ⟨x4,x5,rfl,b,c,F⟩;refine k l H' (λy o hy e=>b y o (λhm=>?_) (u _ _ e)) hl ?_ ?_;rcases bc.mp hm with z|z;exact hy (ai.mpr z);rw[ai.mp z,hl]at e;cases e;cases S:ws with|true=>rw[S]at c;exact c|false=>rw[S]at c;rw[c,a4 S];rfl
  cases S:ws with|true=>rw[S]at F;simpa using F|false=>rw[S]at F;simpa[a4 S]using F
 refine⟨a5,ba,_,_,J,J,bd,b1,J,_,J,?_⟩;cases d with| rai b m=>
   obtain⟨bL,bK⟩:=bH;obtain⟨a6,a8,u6,e6,bb,b0,bn⟩:=Is.at (K:=K) (i:=1) hd J;cases e6;cases(bn);refine xx ⟨a5,a8,_,_,J,J,bb,b0,cG,λp H1 s1 b8 bC=>⟨cG,λl B u ax L=>?_⟩⟩;have iL:Is B (pB (Qi (.rai b m))) (.ref l):=⟨l,_,J,L,IsL.one (by show Is B (.tup [.str (dC b.toNat).1,.int (dC b.toNat).2]) _;rw[(vX bL bK W.b9)];exact⟨p,_,J,u _ _ bC,ft J J⟩)⟩
   exact⟨lw,J,⟨_,aK.of ((s1.trans u) _ _ U)⟩,ap l B (s1.trans u) (ym s1 ax) iL⟩| _=>exact yn ⟨c9 _,λl B u ax L=>⟨lw,J,⟨_,aK.of (u _ _ U)⟩,ap l B u ax ⟨l,_,J,L,J⟩⟩⟩
end
section
variable{h:HW}{c:Nat->Nat}{d:aF}
theorem Yu:aR c i i=c i+1:=kP J
theorem Qt(z:j≠i):aR c i j=c j:=kr z
theorem Ql{s:yh}(e:s[p]?=some d):Ya s (p+1)=Ya s p+if Zv d then 1 else 0:=by unfold Ya;rw[fh,e,PM];show _+List.countP Zv [d]=_;rw[PN,List.countP_nil,Nat.zero_add]
theorem L4{s:yh}(e:s[p]?=some d):Qr s (p+1)=(Qr s p ||j0 d):=by unfold Qr;rw[fh,e,List.any_append];simp
def lM(h:HW)(c:Nat->Nat)(i:Nat)(d:aF):Bool:=j0 d ||decide (c i+1=(h.S i).length)
theorem Ba(e:(h.S i)[c i]?=some d):cC h (aR c i)=if lM h c i d then(cC h c).filter (λj=>decide (j≠i))else cC h c:=by
 have a:=(d7.mp e).1;unfold cC;have m:∀j,Zi h (aR c i) j=if j=i then(Zi h c i && !(lM h c i d))else Zi h c j:=λj=>by by_cases z:j=i;subst z;rw[kP J];unfold Zi lM;rw[Yu,L4 e];by_cases q:c j+1=(h.S j).length;rw[cf q,fb (by omega)];simp;rw[fb q,cf (by omega),cf a];cases h.cm j<;>cases Qr (h.S j) (c j)<;>cases j0 d<;>rfl;rw[kr z];unfold Zi;rw[Qt z]
 cases q:lM h c i d with| false=>rw[kr cy];refine P0 λj _=>?_;rw[m,q];by_cases z:j=i;rw[kP z,z];simp;rw[kr z]| true=>rw[kP J,P2];refine P0 λj _=>?_;rw[m,q];by_cases z:j=i;rw[kP z,z];simp;rw[kr z,cf z,py]
theorem Ad(m:j∈cC h c):j<h.n/\Zi h c j=true:=⟨cr.mp (fo.mp m).1,(fo.mp m).2⟩
theorem Fo:(cC h c).Nodup:=List.nodup_range.sublist P5
theorem Hs{x k:Int}(f:i<h.n)(e:(h.S i)[c i]?=some (.rai x k))(g:x.toNat=b):lev h (aR c i) b=lev h c b+k:=by
 unfold lev;have a:∀n,((Ri n).map λj=>eG (h.S j) (aR c i j) b).sum=((Ri n).map λj=>eG (h.S j) (c j) b).sum+if i<n then k else 0:=by
  intro n;induction n with|zero=>rfl| succ n d=>
    rw[Rj,bo,bo,Rm,Rm,d];simp;by_cases z:n=i;subst z;rw[Yu,kr (f9 _),kP (dz _)];have:eG (h.S n) (c n+1) b=eG (h.S n) (c n) b+k:=by unfold eG;rw[fh,e,bo,Rm];have:nH b (.rai x k)=k:=kP g;simp[this]
    rw[this];omega;rw[Qt z];by_cases q:i<n;rw[kP q,kP (by omega)];omega;rw[kr q,kr (by omega)];omega
 rw[a,kP f]
theorem Cg(e:(h.S i)[c i]?=some d)(f:Zv d=false\/i ∉ cC h c)(b:lM h c i d=false\/i ∉ cC h c):lif h (aR c i)=lif h c:=by
 unfold lif;have g:cC h (aR c i)=cC h c:=by rw[Ba e];rcases b with z|z;rw[z];rfl;split;refine List.filter_eq_self.mpr λj a=>cf λy=>z (y▸a);rfl
 rw[g];congr 1;refine QT λj a=>?_;by_cases z:j=i;subst z;rcases f with y|y;rw[Yu,Ql e,y];rfl;exact kS a y;rw[Qt z]
end
theorem LU{α:Type}[DecidableEq α]{kvs:O (α×V)}{k:α}(h:yv kvs k=none):kj kvs k=kvs:=by refine List.filter_eq_self.mpr λx a=>cf λz=>?_;unfold yv at h;rw[Option.map_eq_none_iff,List.find?_eq_none]at h;exact h x a (cf z)
section
variable{hs:aC}{c:Nat->Nat}{d:aF}
def Y7(B:aC)(c:Nat->Nat)(i:Nat)(l:List Nat):List (Nat×V):=l.map λj=>(j,V.int (Ya ((aB B).S j) (aR c i j):Int))
theorem Mi(e:((aB hs).S i)[c i]?=some d)(h:Zv d=false\/i ∉ cC (aB hs) c):jo hs c=Y7 hs c i (cC (aB hs) c):=by refine QT λj a=>?_;by_cases z:j=i;subst z;rcases h with y|y;rw[Yu,Ql e,y];rfl;exact kS a y;rw[Qt z]
theorem KJ(e:((aB hs).S i)[c i]?=some d)(h:Zv d=true)(m:i∈cC (aB hs) c):vw (jo hs c) i (.int ((Ya ((aB hs).S i) (c i):Int)+1))=Y7 hs c i (cC (aB hs) c):=by unfold jo Y7;rw[C6 (λh=>h) Fo m];refine QT λj a=>?_;by_cases z:j=i;subst z;rw[kP J,Yu,Ql e,h];rfl;rw[kr z,Qt z]
theorem C9:kj (Y7 hs c i l) i=Y7 hs c i (l.filter λj=>decide (j≠i)):=MB (λh=>h)
theorem Ct(e:((aB hs).S i)[c i]?=some d)(h:l=if lM (aB hs) c i d then(cC (aB hs) c).filter (λj=>decide (j≠i))else cC (aB hs) c):Y7 hs c i l=jo hs (aR c i):=by unfold Y7 jo;rw[Ba e,<-h]
theorem Cu:(jo hs c).map (·.2)=((cC (aB hs) c).map λi=>(Ya ((aB hs).S i) (c i):Int)).map V.int:=by unfold jo;rw[ck,ck];rfl
theorem IE(h:Qi d=[])(e:((aB hs).S i)[c i]?=some d):dI hs (aR c i)=dI hs c:=by refine QT λb _=>?_;rw[wE e (h▸ii)]
theorem Gh{x k:Int}(b:i<hs.fs.length)(e:((aB hs).S i)[c i]?=some (.rai x k))(d:0<=x):(dI hs c).set x.toNat (.int (lev (aB hs) c x.toNat+k))=dI hs (aR c i):=by unfold dI;refine List.ext_getElem? λn=>?_;rw[List.getElem?_set,bq,bq];by_cases q:x.toNat=n;rw[kP q,ag,d9];by_cases z:n<hs.b.toNat;rw[kP (by omega),QF z];show _=some (V.int (lev (aB hs) (aR c i) n));rw[Hs b e q,q];rw[kr (by omega),lc (by rw[d9];omega)];rfl;rw[kr q];by_cases z:n<hs.b.toNat;rw[QF z];show some (V.int (lev (aB hs) c n))=some (V.int (lev (aB hs) (aR c i) n));rw[wE e (by intro a;exact q (ai.mp a).symm)];rw[lc (by rw[d9];omega)];rfl
theorem FZ(a:i<hs.fs.length):vw (qh hs c) (kN i) (.int ((c i:Int)+1))=qh hs (aR c i):=by unfold qh;rw[LT Wu a];refine C8 λj _=>?_;by_cases z:j=i;subst z;rw[kP J,Yu];rfl;rw[kr z,Qt z]
end
noncomputable def xT:List Str:=["self","hand","role","place","deed","wall"]
theorem uL:aA xT ["self","hand"] (ze ma):=.of
inductive oZ(P:R0)(w:SX)(cU cP cR:lv)(vs:List V)(H:Hp)(Q:VK)(e0:XK):Prop|mk:∀(H0:Hp)(x ad as al k0:lv)(hs:aC)(R:Nat->lv)(c:Nat->Nat)(i:Nat)(vh:V)(d:aF),vs=[.ref x,vh]->dA P w H0 H cU cP cR hs R x ad as al k0 c->i<hs.fs.length->cA hs->Is H (tI [(i:Int)]) vh->((aB hs).S i)[c i]?=some d->(∀l H',Bt [ad,as,al,k0] H H'->H l=none->cD P w H' hs ad as al k0 (aR c i)->Is H' (pB (fH (aB hs) c i d)) (.ref l)->Q (.ref l) H')->oZ P w cU cP cR vs H Q e0
section
variable{K:O4}
theorem F4{d:aF}:decide (V.str (dw d)=V.str "come")=Zv d:=by cases d<;>rfl
theorem Ah{d:aF}:decide (V.str (dw d)=V.str "leave")=j0 d:=by cases d<;>rfl
theorem E4{d:aF}:mY (.str (dw d)) [.str "come",.str "leave"]=(Zv d ||j0 d):=by cases d<;>rfl
theorem AD{a:aC}{c:Nat->Nat}(g:aM bZ P w H k0 (Y7 a c i l))(b:Is H (tI [(i:Int)]) (.ref bh))(k:∀v G,Bt [k0] H G->zy H G->aM bZ P w G k0 (Y7 a c i (l.filter λj=>decide (j≠i)))->Q v G):dY bZ P w Q k0 (.ref bh) .non H:=by refine⟨bh,_,i,J,g,b,λv f o go=>?_,λd=>?_⟩;rw[C9]at go;exact k v _ (Bt.upd (by simp)) g.tups go;have e:=LU d;rw[C9]at e;exact k .non H Bt.refl (zy.refl _) (e▸g)
theorem Hg(T:Txt K mg)(CU:aI K cU bO)(CR:aI K cR aT)(oC:bD P w K mg base cU "changed" 2 ["self","deed","walls"] (hV P w cU cP cR))(hr:aO 2 (A.deeper (envOfC "Run.do" (ze ma) s.heap.objs.size f cdv))) {as a5:lv} {a:aC} {R:Nat->lv} {c:Nat->Nat} {d:aF} (RF:bX H0 cU cP cR a R x ad as al k0) (W:cA a) (hi:i<a.fs.length) (hd:((aB a).S i)[c i]?=some d):
  ∃ tt,dJ (X7 dX P w K mg base xT "Run.do" (ze ma) f cdv A outer s H E).nox ((xq ma).drop 8) tt/\∀H' l1,zh H0 H'->Is H' (eD d) (.ref a5)->Is H' (tI [(i:Int)]) (.ref bh)->H' al=some (.lst (Rk a.w.toNat (oI (lif (aB a) c))))->
    l1=(if j0 d then(cC (aB a) c).filter (λj=>decide (j≠i))else cC (aB a) c)->(a.w=1->aM bZ P w H' k0 (Y7 a c i l1))->
    (∀l p,Bt [al,k0] H' p->H' l=none->p al=some (.lst (Rk a.w.toNat (oI (lif (aB a) (aR c i)))))->(a.w=1->aM bZ P w p k0 (jo a (aR c i)))->Is p (pB (fH (aB a) c i d)) (.ref l)->Q (.ref l) p)->
    tt (.of Q) [some (.ref x),some (.ref bh),some (.ref (R i)),some (.int (c i:Int)),some (.ref a5),none] H':=by
 refine⟨_,(zc (yt (zv vt (yd xz (pv 3) zf) (ya yc (by rfl) T.len wu (za (zo (pv 2) J) zb)) (ye _)) (zc (vA (xy RY J (Ik (zo (pv 2) J)) (zp (i:=5) uL.nd) (zg (y0 (Ks (τ:=bZ) (Yj hr) (zk wy (zo (pv 0) J) (pv 5)) (pv 1) Qk ⟨J,J,J,J⟩))))) (zg (zm (qp oC CU.cls hr (pv 0) (za (pv 4) (za (xw (Xr J) (by rfl) T.list Ju (za (zo (pv 2) J) zb)) zb)))))) zu)
  (zg (zm (qp oC CU.cls hr (pv 0) (za (pv 4) (za (Vm (zv k9 (zk zj (pv 4) zf) (Wp (za zr (za zr zb))) J) (yq (za (zk zj (pv 4) zf) zb)) (yq zb)) zb)))))),?_⟩
 intro H' l1 S i5 bC N a4 hg k;obtain⟨xp,dx,am,PA,hx,ap,b7,b6,bb,nk⟩:=id RF;obtain⟨dp,vv,ar,hp,b8,b5,ba,vc,vs,ab,an,ac,r1,r2,r4,r5,r6,_⟩:=PA.role hi;obtain⟨aS,xS,rfl,b1,bK⟩:=r2.mono S;have bi:=bK.length;rw[ag]at bi;have ak:=qY W hi hd;have ax:k0≠al\/a.w=0:=by rcases W.w01 with z|z;exact .inr z;exact .inl λy=>by obtain⟨ys,e,_,_,_,_⟩:=hg z;rw[y,N]at e;cases e
 refine⟨_,_,J,J,R i,cR,ba,_,_,J,S _ _ r1,CR.cls,CR.n,ql,aS,xS,J,.inr (aG.of b1),J,_,J,?_⟩;rw[bi];by_cases X:c i+1=((aB a).S i).length;rw[show decide (V.int ((c i:Int)+1)=V.int ((aB a).S i).length)=true by rw[<-X];simp];refine xx ⟨ac,_,S _ _ r6,trivial,λo=>?_⟩;have aj:k0≠ac:=λz=>by rw[z,r6]at nk;cases nk
 have ay:al≠ac:=λz=>by rw[z,r6]at bb;cases bb
 have hf:ji H' ac (.frz o (.dK (wj ((aB a).cm i)))) ac=some (.frz o (.dK (wj ((aB a).cm i)))):=zd;have kf:∀{b:lv}{u:HO},b≠ac->H' b=some u->ji H' ac (.frz o (.dK (wj ((aB a).cm i)))) b=some u:=λ{b u} z e=>(ja z▸e)
 have tf:zy H' (ji H' ac (.frz o (.dK (wj ((aB a).cm i))))):=zy.upd (S _ _ r6) (λ_ z=>by cases z);have gf:=λz=>(hg z).by tf (ja aj)
 have b2:∀{b:lv}{u:HO},b≠ac->ji H' ac (.frz o (.dK (wj ((aB a).cm i)))) b=some u->H' b=some u:=λ{b u} z e=>by rw[ja z]at e;exact e
 generalize ji H' ac (.frz o (.dK (wj ((aB a).cm i))))=Hf at hf kf tf gf b2⊢;let bl:Nat->L2.St->Hp->Prop:=λj σ G=>∃x5,σ=[some (.ref x),some (.ref bh),some (.ref (R i)),some (.int (c i:Int)),some (.ref a5),x5]/\Bt [k0] Hf G/\zy Hf G/\(a.w=0->G=Hf)/\(a.w=1->aM bZ P w G k0 (Y7 a c i (if j=0 then l1 else l1.filter λj=>decide (j≠i))));refine⟨R i,cR,ba,_,_,J,(kf (λz=>by rw[z,r6]at r1;cases r1) (S _ _ r1)),CR.cls,CR.n,Jk,ac,o,_,J,hf,(L1 bl ⟨none,J,Bt.refl,zy.refl _,λ_=>rfl,gf⟩ (λj σ G _ q0=>by obtain⟨_,_,b,_⟩:=q0;exact b _ _ (λn=>aj (ai.mp n).symm) hf) ?_ ?_)⟩;rintro j kv σ G Z ⟨x5,rfl,b,tg,_,g⟩;have bg:(aB a).cm i=true:=by cases z:(aB a).cm i with|true=>rfl|false=>rw[z]at Z;cases Z
 have hw:=r9 W hi bg;rw[bg]at Z;have bN:j=0/\kv=((Sm 0:aJ),V.int 0):=by cases j with|zero=>cases Z;exact⟨J,J⟩|succ j=>cases Z
 obtain⟨rfl,rfl⟩:=bN;have aw:=b _ _ (λn=>(λz=>by rw[z,ap]at nk;cases nk) (ai.mp n).symm) (kf (λz=>by rw[z,r6]at ap;cases ap) (S _ _ ap));rw[show a.w.toNat=1 by rw[hw];rfl]at aw;refine⟨x,cU,dx,_,_,J,(b _ _ (λn=>(λz=>by rw[z,hx]at nk;cases nk) (ai.mp n).symm) (kf (λz=>by rw[z,r6]at hx;cases hx) (S _ _ hx))),CU.cls,CU.n,Xv,am,_,0,_,J,J,aK.of aw,J,k0,_,J,g hw,AD (g hw) ((bC.tups tf (qu _)).tups tg (qu _)) λv G' b' t' g'=>⟨_,J,b.trans b',λy ys e=>t' _ _ (tg _ _ e),(λz=>by rw[hw]at z;cases z),λ_=>g'⟩⟩;rintro σ G ⟨x5,rfl,b,tg,g0,g⟩;have ah:=b _ _ (λn=>aj (ai.mp n).symm) hf;refine⟨ah,?_⟩;have a8:ji G ac (.dK (wj ((aB a).cm i))) ac=some (.dK (wj ((aB a).cm i))):=zd;have bt:Bt [k0] H' (ji G ac (.dK (wj ((aB a).cm i)))):=λy u hy e=>by by_cases z:y=ac;rw[z,S _ _ r6]at e;rw[z,a8];exact e;rw[ja z];exact b _ _ hy (kf z e)
 have tG:zy H' (ji G ac (.dK (wj ((aB a).cm i)))):=λy ys e=>zy.upd ah (λ_ z=>by cases z) _ _ (tg _ _ (tf _ _ e));have gt:=λz=>by
  have g1:=(g z).by (zy.upd ah λ_ y=>by cases y) (ja (o:=.dK (wj ((aB a).cm i))) aj)
  have e1:(if(wj ((aB a).cm i)).length=0 then l1 else l1.filter λj=>decide (j≠i))=l1.filter λj=>decide (j≠i):=by
   cases q:(aB a).cm i with|true=>rfl| false=>
     have ni:∀j∈l1,j≠i:=λj hj y=>by
      have n:j∈cC (aB a) c:=by rw[a4]at hj;split at hj;exact(fo.mp hj).1;exact hj
      have:=(Ad n).2;unfold Zi at this;rw[y,q]at this;cases this
     exact(List.filter_eq_self.mpr λj hj=>cf (ni j hj)).symm
  rw[e1,Ct hd]at g1;exact g1;have:lM (aB a) c i d=true:=by unfold lM;rw[cf X,Bool.or_true]
  rw[this,kP J,a4];split;rw[P2];exact P0 λj _=>by simp
  rfl
 have aq:ji G ac (.dK (wj ((aB a).cm i))) al=some (.lst (Rk a.w.toNat (oI (lif (aB a) c)))):=by rw[ja ay];rcases ax with z|z;exact b _ _ (λn=>z (ai.mp n).symm) (kf ay N);rw[g0 z];exact kf ay N
 have bk:a.w=0->zh H' (ji G ac (.dK (wj ((aB a).cm i)))):=λz y u e=>by rw[g0 z];by_cases q:y=ac;rw[q,S _ _ r6]at e;rw[q,zd];exact e;rw[ja q];exact kf q e
 have sG:=bt.same S λm n=>(ai.mp n▸nk)
 have bd:=i5.tups tG (Xo d);generalize ji G ac (.dK (wj ((aB a).cm i)))=Gt at a8 bt tG gt aq bk sG bd⊢;refine⟨x,dx,_,J,sG _ _ hx,J,R i,cR,ba,_,_,J,sG _ _ r1,CR.cls,CR.n,Jk,ac,_,J,.inl a8,λF M=>?_⟩;have U:=zh.new M (.lst ((wj ((aB a).cm i)).map λkv=>kV kv.1));have L:ji Gt F (.lst ((wj ((aB a).cm i)).map λkv=>kV kv.1)) F=some (.lst (if(aB a).cm i then[.int 0]else[])):=by rw[zd];cases(aB a).cm i<;>rfl
 generalize ji Gt F (.lst ((wj ((aB a).cm i)).map λkv=>kV kv.1))=Gu at U L⊢;refine⟨H0,x,ad,as,al,k0,F,.ref a5,d,a,R,lif (aB a) c,lif (aB a) (aR c i),(aB a).cm i,_,_,J,RF,W,sG.trans U,bd.mono U,ak,L,U _ _ aq,(λz=>by rw[z,aq]at M;cases M),λz=>⟨r9 W hi z,(gt (r9 W hi z)).same U,Cu,J⟩,λz=>?_,λl p D B C iL=>?_⟩;have ni:i ∉ cC (aB a) c:=λn=>by have:=(Ad n).2;unfold Zi at this;rw[z]at this;cases this
 exact Cg hd (.inr ni) (.inr ni);have bL:H' l=none:=by cases q:H' l with|none=>rfl| some u=>by_cases n:l=k0;rcases W.w01 with z|z;rw[U _ _ (bk z _ _ q)]at B;cases B;obtain⟨ys,e,_,_,_,_⟩:=(gt z).same U;rw[n,e]at B;cases B;rw[U _ _ (bt _ _ (λh=>n (ai.mp h)) q)]at B;cases B
 refine k l p (λy u hy e=>?_) bL C (λz=>?_) iL;exact D _ _ (λh=>hy (by rw[ai.mp h];simp)) (U _ _ (bt _ _ (λh=>hy (by rw[ai.mp h];simp)) e));have g1:=(gt z).same U;obtain⟨ys,e,_,_,_,_⟩:=id g1;exact g1.by (D.tups λm n xs e=>by rw[ai.mp n,U _ _ aq]at e;cases e) (by rw[D _ _ (λh=>(ax.resolve_right λy=>by rw[z]at y;cases y) (ai.mp h)) e,e])
 rw[show decide (V.int ((c i:Int)+1)=V.int ((aB a).S i).length)=false by rw[decide_eq_false_iff_not];intro z;injection z with z;omega];obtain⟨r,bJ⟩:=Yt d;obtain⟨a6,bw,u5,e6,bB,b4,bH⟩:=Is.at (i:=0) (bJ▸i5) J;cases e6;cases(bH);have av:lM (aB a) c i d=j0 d:=by unfold lM;rw[fb X,Bool.or_false]
 have gt:=λz=>by have:=hg z;rw[Ct hd (av▸a4)]at this;exact this
 refine yn ⟨x,dx,_,J,S _ _ hx,J,a5,bw,_,_,J,J,bB,b4,(by decide),λq hq=>⟨q,_,J,.inr (aG.of zd),J,J,_,J,?_⟩⟩;have s1:=zh.new hq (.tup [.str "come",.str "leave"]);rw[E4];generalize ji H' q (.tup [.str "come",.str "leave"])=H1 at s1⊢;have bj:∀(ws:Bool)(F:lv)(Gu:Hp),zh H1 Gu->H1 F=none->Gu F=some (.lst (if ws then[.int 0]else[]))->(ws=true->a.w=1)->(ws=false->lif (aB a) (aR c i)=lif (aB a) c)->hV P w cU cP cR [.ref x,.ref a5,.ref F] Gu Q E0:=λws F Gu s2 M L h1 h2=>by have t:=s1.trans s2;refine⟨H0,x,ad,as,al,k0,F,.ref a5,d,a,R,lif (aB a) c,lif (aB a) (aR c i),ws,_,_,J,RF,W,S.trans t,i5.mono t,ak,L,t _ _ N,(λz=>by rw[z,s1 _ _ N]at M;cases M),λz=>⟨h1 z,(gt (h1 z)).same t,Cu,J⟩,h2,λl p D B C iL=>(k l p (λy u hy e=>D _ _ (λh=>hy (by rw[ai.mp h];simp)) (t _ _ e)) (ym t B) C (λz=>?_) iL)⟩;have g1:=(gt z).same t;obtain⟨ys,e,_,_,_,_⟩:=id g1;exact g1.by (D.tups λm n xs e=>by rw[ai.mp n,t _ _ N]at e;cases e) (by rw[D _ _ (λh=>(ax.resolve_right λy=>by rw[z]at y;cases y) (ai.mp h)) e,e])
 cases q1:Zv d ||j0 d with| false=>
   rw[Bool.or_eq_false_iff]at q1;exact yn ⟨c9 _,λF Gu s2 az a3=>bj false F Gu s2 az a3 (λz=>nomatch z) λ_=>Cg hd (.inl q1.1) (.inl (av▸q1.2))⟩| true=>
   have bE:a.w=1/\∃dd,eD d=.tup [dd,.int 0]:=by cases d<;>first|(simp[Zv,j0]at q1;done)|(cases(ak.1);exact⟨ak.2,_,J⟩)
   obtain⟨hw,dd,b0⟩:=bE;obtain⟨a7,bn,u7,e7,bx,b3,bG⟩:=Is.at (i:=1) (b0▸i5.mono s1) J;cases e7;cases(bG);exact xx ⟨a5,bn,_,_,J,J,bx,b3,(by decide),λF Gu s2 az a3=>bj true F Gu s2 az a3 (λ_=>hw) λz=>nomatch z⟩
end
section
variable{K:O4}
theorem HZ(T:Txt K mg)(CU:aI K cU bO)(CR:aI K cR aT)(oC:bD P w K mg base cU "changed" 2 ["self","deed","walls"] (hV P w cU cP cR))(hr:aO 2 (A.deeper (envOfC "Run.do" (ze ma) s.heap.objs.size f cdv))) {as N:lv} {a:aC} {R:Nat->lv} {c:Nat->Nat} {d:aF} (RF:bX H0 cU cP cR a R x ad as al k0) (W:cA a) (hi:i<a.fs.length) (hd:((aB a).S i)[c i]?=some d):
  ∃ tt,dJ (X7 dX P w K mg base xT "Run.do" (ze ma) f cdv A outer s H E).nox ((xq ma).drop 6) tt/\∀H',zh H0 H'->Is H' (eD d) (.ref N)->Is H' (tI [(i:Int)]) (.ref bh)->H' al=some (.lst (Rk a.w.toNat (oI (lif (aB a) c))))->(a.w=1->aM bZ P w H' k0 (jo a c))->
    (∀l p,Bt [al,k0] H' p->H' l=none->p al=some (.lst (Rk a.w.toNat (oI (lif (aB a) (aR c i)))))->(a.w=1->aM bZ P w p k0 (jo a (aR c i)))->Is p (pB (fH (aB a) c i d)) (.ref l)->Q (.ref l) p)->
    tt (.of Q) [some (.ref x),some (.ref bh),some (.ref (R i)),some (.int (c i:Int)),some (.ref N),none] H':=by
 have ap:=Yj hr;obtain⟨tt,ba,kt⟩:=Hg T CU CR oC hr RF W hi hd;refine⟨_,zc (yt (zv vt (zk zj (pv 4) zf) zr (ye _)) (zg (Ip (τ:=bZ) (RC ap) (zk wy (zo (pv 0) J) (zk zj (pv 4) zf)) (pv 1) zf FB)) zu) (zc (yt (zv vt (zk zj (pv 4) zf) zr (ye _)) (zg (y0 (Ks (τ:=bZ) ap (zk wy (zo (pv 0) J) (zk zj (pv 4) zf)) (pv 1) Qk ⟨J,J,J,J⟩))) zu) ba),?_⟩
 intro H' s0 i5 M Z hg k;obtain⟨xp,dx,am,PA,hx,U,bw,bl,bn,nk⟩:=id RF;have aw:=qY W hi hd;obtain⟨r,aq⟩:=Yt d;obtain⟨a6,aj,u5,e6,ak,ax,a8⟩:=Is.at (K:=K) (i:=0) (aq▸i5) J;cases e6;cases(a8);have gk:a.w=1->k0≠al/\k0≠x/\k0≠am:=λz=>⟨(λy=>by obtain⟨ys,e,_,_,_,_⟩:=hg z;rw[y,Z]at e;cases e),(λy=>by rw[y,hx]at nk;cases nk),(λy=>by rw[y,U]at nk;cases nk)⟩
 have ah:∀(G:Hp)(l1:List Nat),(a.w=0->G=H')->Bt [k0] H' G->zy H' G->(a.w=1->aM bZ P w G k0 (Y7 a c i l1))->l1=(if j0 d then(cC (aB a) c).filter (λj=>decide (j≠i))else cC (aB a) c)->tt (.of Q) [some (.ref x),some (.ref bh),some (.ref (R i)),some (.int (c i)),some (.ref N),none] G:=λG l1 g0 b t g e=>by
  have bk:G al=some (.lst (Rk a.w.toNat (oI (lif (aB a) c)))):=by rcases W.w01 with z|z;rw[g0 z];exact Z;exact b _ _ (λh=>(gk z).1 (ai.mp h).symm) Z
  refine kt G l1 (b.same s0 λm S=>(ai.mp S▸nk)) (i5.tups t (Xo _)) (M.tups t (qu _)) bk e g λl p bj B X bg iL=>(k l p (λy u hy e1=>?_) ?_ X bg iL)
  exact bj _ _ hy (b _ _ (λh=>hy (by rw[ai.mp h];simp)) e1);cases q:H' l with|none=>rfl| some u=>by_cases S:l=k0;rcases W.w01 with z|z;rw[g0 z,q]at B;cases B;obtain⟨ys,e,_,_,_,_⟩:=g z;rw[S,e]at B;cases B;rw[b _ _ (λh=>S (ai.mp h)) q]at B;cases B
 refine⟨N,aj,_,_,J,J,ak,ax,J,_,J,?_⟩;rw[F4];have mi:(Zv d=true\/j0 d=true)->∃(x7:List V),a.w=1/\aG K H' N x7/\kZ x7 (1)=some (.int 0):=λz=>by
  have aS:a.w=1/\∃dd,eD d=.tup [dd,.int 0]:=by cases d<;>first|(simp[Zv,j0]at z;done)|(cases(aw.1);exact⟨aw.2,_,J⟩)
  obtain⟨L,dd,bb⟩:=aS;obtain⟨a7,C,u7,e7,D,F,a3⟩:=Is.at (i:=1) (bb▸i5) J;cases e7;cases(a3);exact⟨C,L,D,F⟩
 cases hc:Zv d with| true=>
   have B:j0 d=false:=by cases d<;>first|rfl|cases hc
   obtain⟨C,L,D,F⟩:=mi (.inl hc);have n:=s0 _ _ U;rw[show a.w.toNat=1 by rw[L];rfl]at n;have S:i∈cC (aB a) c:=by
    have bd:∃y,d=.com y:=by cases d<;>first|exact⟨_,J⟩|cases hc
    obtain⟨y,rfl⟩:=bd;obtain⟨f1,f2⟩:=W.fit i (c i) y hi hd;refine fo.mpr ⟨cr.mpr hi,?_⟩;unfold Zi;rw[f1,f2,cf (d7.mp hd).1];rfl
   have g1:=hg L;have av:(jo a c).length<TL:=by unfold jo cC;rw[ag];have:=i0 (Zi (aB a) c) (Ri (aB a).n);rw[d9]at this;have bx:=W.n1;exact yx (by have:(aB a).n=a.fs.length:=rfl;omega)
   refine xx ⟨x,cU,dx,_,_,J,s0 _ _ hx,CU.cls,CU.n,Xv,N,C,_,_,J,J,D,F,am,_,0,_,J,J,aK.of n,J,k0,bh,_,i,_,J,J,g1,M,(Xu (λh=>h)).trans (kP S),_,_,J,J,_,g1,M,av,λo go=>?_⟩;rw[KJ hd hc S]at go;have t1:zy H' (ji H' k0 o):=g1.tups;obtain⟨a6,ay,u6,e6,az,bi,a4⟩:=Is.at (K:=K) (i:=0) (aq▸(i5.tups t1 (Xo d))) J;cases e6;cases(a4);refine⟨N,ay,_,_,J,J,az,bi,J,_,J,?_⟩;rw[Ah,B];exact yn (ah _ (cC (aB a) c) (λz=>by rw[L]at z;cases z) (Bt.upd (by simp)) t1 (λ_=>go) (by rw[B];rfl))| false=>refine yn ⟨N,aj,_,_,J,J,ak,ax,J,_,J,?_⟩;rw[Ah];have g1:=λz=>Mi hd (.inl hc)▸hg z;cases B:j0 d with| true=>obtain⟨C,L,D,F⟩:=mi (.inr B);have n:=s0 _ _ U;rw[show a.w.toNat=1 by rw[L];rfl]at n;exact xx ⟨x,cU,dx,_,_,J,s0 _ _ hx,CU.cls,CU.n,Xv,N,C,_,_,J,J,D,F,am,_,0,_,J,J,aK.of n,J,k0,_,J,g1 L,AD (g1 L) M λv G b t g=>(ah G _ (λz=>by rw[L]at z;cases z) b t (λ_=>g) (by rw[B];rfl))⟩|false=>exact yn (ah H' (cC (aB a) c) (λ_=>rfl) Bt.refl (zy.refl _) g1 (by rw[B];rfl))
end
section
variable{K:O4}
theorem EO(D:qk K cU "do" "Run.do" ma)(T:Txt K mg)(r:aI K cU bO)(CP:aI K cP bF)(CR:aI K cR aT)(oC:bD P w K mg base cU "changed" 2 ["self","deed","walls"] (hV P w cU cP cR)):bD P w K mg base cU "do" 3 ["self","hand"] (oZ P w cU cP cR):=by
 refine kh D uL ?_;rintro f cc A bj s H vs Q E hr ⟨H0,x,ad,as,al,F,a,R,c,i,vh,d,rfl,g,Z,W,av,hd,k⟩ X;have hu:=ki hr;have nd:=uL.nd;obtain⟨xp,dx,am,PA,hx,b9,bl,bk,b6,nk,o,bG⟩:=id g.f;obtain⟨dp,vv,ar,hp,bJ,aw,b4,vc,vs,ab,an,ac,r1,r2,r4,r5,r6,_⟩:=PA.role Z;obtain⟨bh,rfl,L⟩:=Zb av;have ay:=qY W Z hd;obtain⟨aS,xS,rfl,bK,bE⟩:=id r2;obtain⟨v5,e5,i5⟩:=bE.get (by rw[bq,hd];rfl);obtain⟨rr,ax⟩:=Yt d;obtain⟨a5,x5,rfl,ca,b7⟩:=(ax▸i5)
 obtain⟨tt,bC,kt⟩:=HZ T r CR oC hr g.f W Z hd;refine⟨_,zc (zn (i:=2) nd (qc hu (zo (zo (pv 0) J) J) (pv 1))) (zc (zn (i:=3) nd (qc hu (zo (pv 0) J) (pv 1))) (zc (zn (i:=4) nd (zk zj (zo (pv 2) J) (pv 3))) (zc (Xy hu (zo (pv 0) J) (pv 1) (yd xz (pv 3) zf) J) (zc (yt (zv vt (zk zj (pv 4) zf) zr (ye _)) (zg (Io (zo (pv 0) J) (zk zj (pv 4) zf) JF (zk zj (pv 4) zf) FC J8)) zu) (zc (yt (zv vt (zk zj (pv 4) zf) zr (ye _)) qo zu) bC))))),⟨x,cU,dx,_,_,J,g.s _ _ hx,r.cls,r.n,W9,xp,cP,dp,_,_,J,g.s _ _ hp,CP.cls,CP.n,qd,ar,_,J,aw▸DGet.t (g.s _ _ bJ) L,⟨x,cU,dx,_,_,J,g.s _ _ hx,r.cls,r.n,Zy,ad,_,J,Wd Z▸DGet.t g.m.d L,⟨R i,cR,b4,_,_,J,g.s _ _ r1,CR.cls,CR.n,ql,aS,xS,_,_,J,J,aG.of (g.s _ _ bK),xb e5,⟨_,_,J,J,x,cU,dx,_,_,J,g.s _ _ hx,r.cls,r.n,Zy,ad,_,J,Jg.t (k:=kN i) g.m.d L (by unfold qh;rw[kx];exact yx (by have:=W.n1;omega)),?_⟩⟩⟩⟩⟩
 rw[(FZ Z)];have hD:=g.m.d;have ap:as≠ad:=λz=>by have q:=g.m.s;rw[z,hD]at q;cases q
 have C:al≠ad:=λz=>by have q:=g.m.l;rw[z,hD]at q;cases q
 have B:a.w=1->F≠ad/\F≠as:=λz=>⟨(λy=>by obtain⟨ys,e,_,_,_,_⟩:=g.m.k z;rw[y,hD]at e;cases e),(λy=>by obtain⟨ys,e,_,_,_,_⟩:=g.m.k z;rw[y,g.m.s]at e;cases e)⟩
 have b1:Bt [ad,as] H (ji H ad (.dT (qh a (aR c i)))):=Bt.upd (by simp);have t1:zy H (ji H ad (.dT (qh a (aR c i)))):=zy.upd hD λ_ z=>by cases z
 have d1:ji H ad (.dT (qh a (aR c i))) ad=some (.dT (qh a (aR c i))):=zd;have s1:ji H ad (.dT (qh a (aR c i))) as=some (.lst (dI a c)):=ja ap▸g.m.s;have l1:ji H ad (.dT (qh a (aR c i))) al=some (.lst (Rk a.w.toNat (oI (lif (aB a) c)))):=ja C▸g.m.l;have g1:=λz=>(g.m.k z).by t1 (ja (B z).1)
 generalize ji H ad (.dT (qh a (aR c i)))=U at b1 t1 d1 s1 l1 g1⊢;have wn:∀m∈[ad,as],H0 m=none:=λm v=>by rcases bc.mp v with z|z;rw[z];exact bl;rw[ai.mp z];exact bk
 have ak:=b1.same g.s wn;have p:=i5.mono ak;obtain⟨a6,ah,u5,e6,aj,a3,bB⟩:=Is.at (i:=0) (ax▸p) J;cases e6;cases(bB);have az:∀{G:Hp},Bt [ad,as] H G->zy H G->G ad=some (.dT (qh a (aR c i)))->G as=some (.lst (dI a (aR c i)))->G al=some (.lst (Rk a.w.toNat (oI (lif (aB a) c))))->(a.w=1->aM bZ P w G F (jo a c))->tt (.of Q) [some (.ref x),some (.ref bh),some (.ref (R i)),some (.int (c i:Int)),some (.ref a5),none] G:=λ{G} b t dG sG lG gG=>by
  refine kt G (b.same g.s wn) (i5.mono (b.same g.s wn)) (av.tups t (qu _)) lG gG λl b5 S n N bL iL=>?_;have aq:ad ∉ [al,F]/\as ∉ [al,F]:=by
   have h1:F≠ad/\F≠as:=by rcases W.w01 with z|z;rw[bG z];exact⟨C,o⟩;exact B z
   exact⟨λv=>(bc.mp v).elim (λy=>C y.symm) λy=>h1.1 (ai.mp y).symm,λv=>(bc.mp v).elim (λy=>o y.symm) λy=>h1.2 (ai.mp y).symm⟩
  refine k l b5 (λy u hy e=>?_) ?_ ⟨S _ _ aq.1 dG,S _ _ aq.2 sG,N,bL⟩ iL;simp at hy;exact S _ _ (by simp[hy.2.2.1,hy.2.2.2]) (b _ _ (by simp[hy.1,hy.2.1]) e);cases q:H l with|none=>rfl| some u=>by_cases v:l∈[ad,as];rcases bc.mp v with z|z;rw[z,dG]at n;cases n;rw[ai.mp z,sG]at n;cases n;rw[b _ _ v q]at n;cases n
 refine⟨a5,ah,_,_,J,J,aj,a3,J,_,J,?_⟩;cases d with| rai b m=>
   refine xx ?_;obtain⟨M,b8⟩:=ay;obtain⟨a6,bb,u6,e6,bi,b3,bx⟩:=Is.at (i:=1) p J;cases e6;cases(bx);obtain⟨a7,ba,u7,e7,bg,b0,bw⟩:=Is.at (i:=2) p J;cases e7;cases(bw);have bH:mB (dI a c).length b=some b.toNat:=by unfold mB dI;rw[kP M,kP (by rw[ag,d9];omega)]
   refine⟨x,cU,dx,_,_,J,ak _ _ hx,r.cls,r.n,wX,a5,bb,_,_,J,J,bi,b3,as,_,b,_,J,J,M,aK.of s1,(by unfold dI;rw[bq,QF (by omega)];rfl),a5,ba,_,_,J,J,bg,b0,_,_,J,J,as,_,b,b.toNat,J,J,s1,bH,?_⟩;rw[Gh Z hd M];have t2:zy U (ji U as (.lst (dI a (aR c i)))):=zy.upd s1 λ_ z=>by cases z
   have b2:Bt [ad,as] H (ji U as (.lst (dI a (aR c i)))):=b1.trans (Bt.upd (by simp));have d2:ji U as (.lst (dI a (aR c i))) ad=_:=(ja (ae ap)).trans d1;have s2:ji U as (.lst (dI a (aR c i))) as=some (.lst (dI a (aR c i))):=zd;have g2:=λz=>(g1 z).by t2 (ja (B z).2)
   have l2:ji U as (.lst (dI a (aR c i))) al=_:=(ja o).trans l1;generalize ji U as (.lst (dI a (aR c i)))=H2 at t2 b2 d2 s2 g2 l2⊢;obtain⟨a8,a4,u8,e8,bd,bN,bn⟩:=Is.at (i:=0) (p.tups t2 (Xo (.rai b m))) J;cases e8;cases(bn);exact⟨a5,a4,_,_,J,J,bd,bN,J,_,J,yn (az b2 (λy ys e=>t2 _ _ (t1 _ _ e)) d2 s2 l2 g2)⟩|beg j ms=>exact ay.elim|_=>exact yn ⟨a5,ah,_,_,J,J,aj,a3,J,_,J,yn (az b1 t1 d1 (IE J hd▸s1) l1 g1)⟩
end
end My
namespace L2
open PySem PySem.Spec PyProof.Rows PySem.W
variable{M:List lv}{P:R0}
theorem aM.bt{a:Type}[DecidableEq a]{τ:aN a}{w:SX}{H c:Hp}{d:Y}{kvs:O (a×V)}(g:aM τ P w H d kvs)(b:Bt M H c)(f:d ∉ M)(t:zy H c):aM τ P w c d kvs:=by obtain⟨i,e,r⟩:=id g;exact g.by t ((b d _ f e).trans e.symm)
theorem aM.some{a:Type}[DecidableEq a]{τ:aN a}{P:R0}{w:SX}{H:Hp}{d:Y}{kvs:O (a×V)}(g:aM τ P w H d kvs):∃b,H d=RU (.ext b):=let⟨c,e,_,_,_,_⟩:=g;⟨_,e⟩
end L2
namespace My
open PySem PySem.Spec PyProof.Rows L2
variable{a c cP cR cU cW:lv}{o:HO}{base:O7}{H H' H0:Hp}{M:List lv}{l:List Nat}{vs:List V}{b h:Nat}{hl:Nat->Nat->Bool}{P:R0}{mg:Str->Option Sr}{v:V}{w:SX}
def Vy:Sj:=bI 54
abbrev Yy:Sj:=(xv Vy).getD 0 dE
abbrev vO:Sj:=(xv Vy).getD 1 dE
abbrev wT:Sj:=(xv Vy).getD 2 dE
noncomputable def bA:List Str:=["run","held","woven","ready","waiting","stopped"]
structure WA where
 x:lv
 xr:lv
 ad:lv
 as:lv
 al:lv
 k0:lv
 ah:lv
 ao:lv
 ay:lv
 aw:lv
 ap:lv
noncomputable def gX(a:WA):List (Str×V):=[(("run":Str),.ref a.xr),("held",.ref a.ah),("woven",.ref a.ao),("ready",.ref a.ay),("waiting",.ref a.aw),("stopped",.ref a.ap)]
theorem V5{a:WA}:(gX a).lookup ("run":Str)=some (.ref a.xr):=rfl
theorem IK{a:WA}:(gX a).lookup ("held":Str)=some (.ref a.ah):=rfl
theorem Wz{a:WA}:(gX a).lookup ("woven":Str)=some (.ref a.ao):=rfl
theorem W7{a:WA}:(gX a).lookup ("ready":Str)=some (.ref a.ay):=rfl
theorem Jv{a:WA}:(gX a).lookup ("waiting":Str)=some (.ref a.aw):=rfl
theorem Jw{a:WA}:(gX a).lookup ("stopped":Str)=some (.ref a.ap):=rfl
def hN(i:Nat):L2.T:=tI [(i:Int)]
inductive bM(H:Hp)(a:lv)(l:List Nat):Prop|mk:∀vs,H a=some (.lst vs)->IsL H (l.map hN) vs->bM H a l
theorem Vq(l:O Nat):qb (l.map hN):=by rw[qb.all];intro t a;obtain⟨d,_,rfl⟩:=bz.mp a;exact qu _
theorem bM.keep(x:bM H a l)(e:H' a=H a)(t:zy H H'):bM H' a l:=by obtain⟨b,d,c⟩:=x;exact⟨b,e.trans d,c.tups t (Vq l)⟩
theorem bM.same(x:bM H a l)(s:zh H H'):bM H' a l:=by obtain⟨b,d,c⟩:=x;exact⟨b,s _ _ d,c.mono s⟩
abbrev dO:=List ((Nat×List Nat)×lv)
theorem Bh{a:Nat}(h:dC a=dC b):a=b:=by unfold dC at h;by_cases x:a=1000<;>by_cases y:b=1000;rw[x,y];rw[kP x,kr y]at h;cases kW Prod.fst h;rw[kr x,kP y]at h;cases kW Prod.fst h;rw[kr x,kr y]at h;exact Pq (kW Prod.snd h)
def qz(W:dO):List ((Str×Int)×V):=W.map λq=>(dC q.1.1,.ref q.2)
def dU(P:R0)(w:SX)(B:Hp)(Z cU cP cR:lv)(F:aC)(R:Nat->lv)(a:WA)(U:List ((List Int×Int)×V)):Prop:=bX B cU cP cR F R a.xr a.ad a.as a.al a.k0/\(∃dx,B a.x=some (.ins Z dx (gX a)))/\aM fC P w B a.ah U/\B a.ao=none/\B a.ay=none/\B a.aw=none/\B a.ap=none
structure aV(P:R0)(w:SX)(hs:aC)(H0 H:Hp)(a:WA)(s:Ws)(W:dO):Prop where
 run:cD P w H hs a.ad a.as a.al a.k0 s.c
 rdy:bM H a.ay s.rdy
 wov:bM H a.ao s.wov
 stp:bM H a.ap s.stp
 wai:aM dS P w H a.aw (qz W)
 wl:W.map (·.1)=s.wai
 lst:∀q∈W,bM H q.2 q.1.2/\H0 q.2=none
 nd:(a.as::a.al::a.ay::a.ao::a.ap::W.map (·.2)).Nodup
 kd:(W.map (·.1.1)).Nodup
 kn:a.k0 ∉ (a.as::a.aw::a.ay::a.ao::a.ap::W.map (·.2))/\∃o,H a.k0=some o
 s0:zh H0 H
noncomputable def newW(B:aC)(c:Nat->Nat):Ws:=⟨c,Ri B.fs.length,[],[],[]⟩
def eI(B:List ((List Int×Int)×V))(i k:Nat):Bool:=(yv B ([(i:Int)],(k:Int))).isSome
inductive mq(P:R0)(w:SX)(cW cU cP cR:lv)(vs:List V)(H:Hp)(Q:VK)(e0:XK):Prop|mk:∀(G:Hp)(x dx xr ad as al k0 ah:lv)(hs:aC)(R:Nat->lv)(c:Nat->Nat)(hr:List ((List Int×Int)×V)),vs=[.ref x,.ref xr,.ref ah]->H x=some (.ins cW dx [])->zh G H->G x=none->bX G cU cP cR hs R xr ad as al k0->cD P w H hs ad as al k0 c->aM fC P w G ah hr->cA hs->(∀ao ay aw ap H0 H',zh G H0->dU P w H0 cW cU cP cR hs R ⟨x,xr,ad,as,al,k0,ah,ao,ay,aw,ap⟩ hr->aV P w hs H0 H' ⟨x,xr,ad,as,al,k0,ah,ao,ay,aw,ap⟩ (newW hs c) []->Q .non H')->mq P w cW cU cP cR vs H Q e0
section
variable{K:O4}
theorem N4:aA ["self","run","held"] ["self","run","held"] (ze Yy):=.of
theorem Ob(D:nC K mg "Weaver" "Weaver.__init__" cW Yy)(T:Txt K mg)(S:aI K cW bA)(CU:aI K cU bO):iI P w K mg base "Weaver" cW 1 ["self","run","held"] (mq P w cW cU cP cR):=by
 refine sE D N4 ?_;rintro f b9 A bl s H vs Q E hr ⟨G,x,l,g,ad,as,al,k0,n,hs,R,c,b8,rfl,hx,sG,Gx,RF,C,GH,W0,k⟩ X;refine⟨_,zc (vf (pv 0) (pv 1) J) (zc (vf (pv 0) (pv 2) J) (zc (vf (pv 0) (yq zb) J) (zc (vf (pv 0) (xw (Mv J) J T.list Ju (za (zo (pv 1) J) zb)) J) (zc (vf (pv 0) (Vn (τ:=dS)) J) (zg (vf (pv 0) (yq zb) J)))))),?_⟩
 obtain⟨xp,bk,am,PA,bi,b4,b7,b5,b6,nk,W,az⟩:=id RF;have aj:∀{b:Y}{u:HO},H b=some u->(∀d fs,u≠ .ins cW d fs)->b≠x:=λ{b u} e z y=>by rw[y,hx]at e;exact z _ _ (RV e).symm
 have ax:=aj C.d (λ_ _ z=>by cases z);have U:=aj C.s (λ_ _ z=>by cases z);have aS:=aj C.l (λ_ _ z=>by cases z);have Hk:∃o,H k0=some o/\∀d fs,o≠ .ins cW d fs:=by rcases W0.w01 with z|z;exact⟨_,(az z▸C.l),λ_ _ z=>by cases z⟩;obtain⟨ys,e,_,_,_,_⟩:=C.k z;exact⟨_,e,λ_ _ z=>by cases z⟩
 obtain⟨ok,Hk,bn⟩:=Hk;have av:=aj Hk bn;refine⟨x,cW,l,_,J,hx,S.cls,S.n,(by decide),?_⟩;rw[show qg "run" (.ref g) []=[(("run":Str),V.ref g)] by rfl];have gB:ji H x (.ins cW l [(("run":Str),V.ref g)]) x=_:=zd;have bB:Bt [x] H (ji H x (.ins cW l [(("run"),V.ref g)])):=Bt.upd (by simp);generalize ji H x (.ins cW l [(("run":Str),V.ref g)])=HB at gB bB⊢;refine⟨x,cW,l,_,J,gB,S.cls,S.n,cG,?_⟩;rw[show qg "held" (.ref n) [(("run":Str),V.ref g)]=[(("run":Str),V.ref g),("held",.ref n)] by rw[yy (by decide)];rfl];have gC:ji HB x (.ins cW l [(("run":Str),V.ref g),("held",.ref n)]) x=_:=zd;have bC:Bt [x] H (ji HB x (.ins cW l [(("run":Str),V.ref g),("held",.ref n)])):=bB.trans (Bt.upd (by simp));generalize ji HB x (.ins cW l [(("run":Str),V.ref g),("held",.ref n)])=HC at gC bC⊢;refine⟨c9 _,λa HD sD t b3=>?_⟩;have M:a≠x:=λz=>by rw[z,gC]at t;cases t
 refine⟨x,cW,l,_,J,(sD _ _ gC),S.cls,S.n,cG,?_⟩;rw[show qg "woven" (.ref a) [(("run":Str),V.ref g),("held",.ref n)]=[(("run":Str),V.ref g),("held",.ref n),("woven",.ref a)] by rw[yy (by decide),yy (by decide)];rfl];have gE:ji HD x (.ins cW l [(("run":Str),V.ref g),("held",.ref n),("woven",.ref a)]) x=_:=zd;have bE:Bt [x] H (ji HD x (.ins cW l [(("run"),V.ref g),("held",.ref n),("woven",.ref a)])):=(bC.trans sD.bt).trans (Bt.upd (by simp));have oE:ji HD x (.ins cW l [(("run"),V.ref g),("held",.ref n),("woven",.ref a)]) a=_:=(ja M).trans b3;generalize ji HD x (.ins cW l [(("run":Str),V.ref g),("held",.ref n),("woven",.ref a)])=HE at gE bE oE⊢;have sx:∀{Z:Hp},Bt [x] H Z->zh G Z:=λ{Z} b=>b.same sG λm L=>(ai.mp L▸Gx)
 refine⟨g,cU,bk,_,_,J,sx bE _ _ bi,CU.cls,CU.n,Zy,ad,(Ri hs.fs.length).map λ(i:Nat)=>[i],J,⟨_,(bE _ _ (λL=>ax (ai.mp L)) C.d),by unfold qh yo;rw[ck,ck];rfl⟩,λys p HI sI r b1 bg=>?_⟩;have N:p≠x:=λz=>by rw[z,gE]at r;cases r
 have bb:p≠a:=λz=>by rw[z,oE]at r;cases r
 have a4:p≠as:=λz=>by rw[z,bE _ _ (λL=>U (ai.mp L)) C.s]at r;cases r
 have gI:=sI _ _ gE;have lI:bM HI p (Ri hs.fs.length):=⟨ys,b1,by rw[ck]at bg;exact bg⟩
 refine⟨x,cW,l,_,J,gI,S.cls,S.n,cG,?_⟩;rw[show qg "ready" (.ref p) [(("run":Str),V.ref g),("held",.ref n),("woven",.ref a)]=[(("run":Str),V.ref g),("held",.ref n),("woven",.ref a),("ready",.ref p)] by rw[yy (by decide),yy (by decide),yy (by decide)];rfl];have gJ:ji HI x (.ins cW l [(("run":Str),V.ref g),("held",.ref n),("woven",.ref a),("ready",.ref p)]) x=_:=zd;have bJ:Bt [x] H (ji HI x (.ins cW l [(("run":Str),V.ref g),("held",.ref n),("woven",.ref a),("ready",.ref p)])):=(bE.trans sI.bt).trans (Bt.upd (by simp));have oJ:ji HI x (.ins cW l [(("run":Str),V.ref g),("held",.ref n),("woven",.ref a),("ready",.ref p)]) a=_:=(ja M).trans (sI _ _ oE);have tJ:zy HI (ji HI x (.ins cW l [(("run"),V.ref g),("held",.ref n),("woven",.ref a),("ready",.ref p)])):=zy.upd gI (λ_ z=>by cases z);have lJ:=lI.keep (ja N) tJ;generalize ji HI x (.ins cW l [(("run"),V.ref g),("held",.ref n),("woven",.ref a),("ready",.ref p)])=HJ at gJ bJ oJ lJ⊢;intro v ow F bj;have sK:=zh.new F ow;have aq:v≠x:=λz=>by rw[z,gJ]at F;cases F
 have gK:=sK _ _ gJ;have bK:=bJ.trans sK.bt;have oK:=sK _ _ oJ;have lK:=lJ.same sK;generalize ji HJ v ow=HK at sK bj gK bK oK lK⊢;refine⟨x,cW,l,_,J,gK,S.cls,S.n,cG,?_⟩;rw[show qg "waiting" (.ref v) [(("run":Str),V.ref g),("held",.ref n),("woven",.ref a),("ready",.ref p)]=[(("run":Str),V.ref g),("held",.ref n),("woven",.ref a),("ready",.ref p),("waiting",.ref v)] by rw[yy (by decide),yy (by decide),yy (by decide),yy (by decide)];rfl];have gL:ji HK x (.ins cW l [(("run":Str),V.ref g),("held",.ref n),("woven",.ref a),("ready",.ref p),("waiting",.ref v)]) x=_:=zd;have bL:Bt [x] H (ji HK x (.ins cW l [(("run":Str),V.ref g),("held",.ref n),("woven",.ref a),("ready",.ref p),("waiting",.ref v)])):=bK.trans (Bt.upd (by simp));have oL:ji HK x (.ins cW l [(("run":Str),V.ref g),("held",.ref n),("woven",.ref a),("ready",.ref p),("waiting",.ref v)]) a=_:=(ja M).trans oK;have tL:zy HK (ji HK x (.ins cW l [(("run":Str),V.ref g),("held",.ref n),("woven",.ref a),("ready",.ref p),("waiting",.ref v)])):=zy.upd gK (λ_ z=>by cases z);have lL:=lK.keep (ja N) tL;have wL:=aM.by bj tL (ja aq)
 generalize ji HK x (.ins cW l [(("run":Str),V.ref g),("held",.ref n),("woven",.ref a),("ready",.ref p),("waiting",.ref v)])=HL at gL bL oL lL wL⊢;refine⟨c9 _,λB HM sM j b2=>?_⟩;have ak:B≠x:=λz=>by rw[z,gL]at j;cases j
 have a8:B≠a:=λz=>by rw[z,oL]at j;cases j
 have a7:B≠p:=λz=>by obtain⟨_,q,_⟩:=lL;rw[z,q]at j;cases j
 have a6:B≠as:=λz=>by rw[z,bL _ _ (λL=>U (ai.mp L)) C.s]at j;cases j
 have bd:a≠as:=λz=>by rw[z,bC _ _ (λL=>U (ai.mp L)) C.s]at t;cases t
 have gM:=sM _ _ gL;refine⟨x,cW,l,_,J,gM,S.cls,S.n,cG,?_⟩;rw[show qg "stopped" (.ref B) [(("run"),V.ref g),("held",.ref n),("woven",.ref a),("ready",.ref p),("waiting",.ref v)]=[(("run":Str),V.ref g),("held",.ref n),("woven",.ref a),("ready",.ref p),("waiting",.ref v),("stopped",.ref B)] by rw[yy (by decide),yy (by decide),yy (by decide),yy (by decide),yy (by decide)];rfl];have gN:ji HM x (.ins cW l [(("run":Str),V.ref g),("held",.ref n),("woven",.ref a),("ready",.ref p),("waiting",.ref v),("stopped",.ref B)]) x=_:=zd;have bN:Bt [x] H (ji HM x (.ins cW l [(("run":Str),V.ref g),("held",.ref n),("woven",.ref a),("ready",.ref p),("waiting",.ref v),("stopped",.ref B)])):=(bL.trans sM.bt).trans (Bt.upd (by simp));have oN:ji HM x (.ins cW l [(("run":Str),V.ref g),("held",.ref n),("woven",.ref a),("ready",.ref p),("waiting",.ref v),("stopped",.ref B)]) a=_:=(ja M).trans (sM _ _ oL);have pN:ji HM x (.ins cW l [(("run":Str),V.ref g),("held",.ref n),("woven",.ref a),("ready",.ref p),("waiting",.ref v),("stopped",.ref B)]) B=_:=(ja ak).trans b2;have tN:zy HM (ji HM x (.ins cW l [(("run":Str),V.ref g),("held",.ref n),("woven",.ref a),("ready",.ref p),("waiting",.ref v),("stopped",.ref B)])):=zy.upd gM (λ_ z=>by cases z);have lN:=(lL.same sM).keep (ja N) tN;have wN:=aM.by (wL.same sM) tN (ja aq)
 generalize ji HM x (.ins cW l [(("run":Str),V.ref g),("held",.ref n),("woven",.ref a),("ready",.ref p),("waiting",.ref v),("stopped",.ref B)])=HN at gN bN oN pN lN wN⊢;have nb:∀{y:Y},y≠x->y ∉ [x]:=λz L=>z (ai.mp L);have Hn:∀{Z:Hp}{b:Y}{o:HO},Bt [x] H Z->Z b=none->b≠x->H b=some o->False:=λ{Z b o} bt e z h=>by rw[bt b o (nb z) h]at e;cases e
 have Gn:∀{Z:Hp}{b:Y},Bt [x] H Z->Z b=none->G b=none:=λ{Z b} bt e=>by cases z:G b with|none=>rfl|some u=>rw[sx bt _ _ z]at e;cases e
 have ci:=Gn bC t;have ca:=Gn bE r;have cc:=Gn bJ F;have ce:=Gn bL j;have GM:∀m∈[ad,as,al,k0,a,p,v,B],G m=none:=λm L=>by simp at L;rcases L with z|z|z|z|z|z|z|z<;>rw[z]<;>assumption
 have sW:=(sx bN).without GM;have a5:B≠al:=λz=>Hn bL j ak (z▸C.l);have bw:k0≠B:=λz=>Hn bL j ak (z▸Hk);have ba:a≠al:=λz=>Hn bC t M (z▸C.l);have a3:p≠al:=λz=>Hn bE r N (z▸C.l);have b0:k0≠a:=λz=>Hn bC t M (z▸Hk);have bH:k0≠p:=λz=>Hn bE r N (z▸Hk);have bG:k0≠v:=λz=>Hn bJ F aq (z▸Hk);have bx:k0≠as:=by rcases W0.w01 with z|z;rw[az z];exact W;intro y;obtain⟨ys,e,_,_,_,_⟩:=C.k z;rw[y,C.s]at e;cases e
 refine k a p v B (without [ad,as,al,k0,a,p,v,B] HN) HN sW ⟨?_,⟨l,by rw[y9 (by simp[ae ax,ae U,ae aS,ae av,ae M,ae N,ae aq,ae ak])];exact gN⟩,GH.same sW,yp (by simp),yp (by simp),yp (by simp),yp (by simp)⟩ ⟨⟨(bN _ _ (nb ax) C.d),(bN _ _ (nb U) C.s),(bN _ _ (nb aS) C.l),λz=>(C.k z).bt bN (nb av) (bN.tups λm L xs e=>by rw[ai.mp L,hx]at e;cases e)⟩,lN,⟨[],oN,J⟩,⟨[],pN,J⟩,wN,J,λq hq=>(nomatch hq),?_,Rc,⟨by simp[b0,bH,bG,bx,bw],ok,(bN _ _ (nb av) Hk)⟩,vp⟩;exact⟨xp,bk,am,PA.same sW,sW _ _ bi,sW _ _ b4,yp (by simp),yp (by simp),yp (by simp),yp (by simp),W,az⟩;simp[ae W,ae a4,ae bd,ae a3,ae ba,bb,ae a8,ae a7,ae a6,ae a5]
end
theorem bM.bt(x:bM H a l)(b:Bt M H H')(d:a ∉ M)(t:zy H H'):bM H' a l:=by obtain⟨c,g,f⟩:=x;exact⟨c,b _ _ d g,f.tups t (Vq l)⟩
section
variable{A:Type}[DecidableEq A]
theorem Qv{b:Nat}:∀{l:List (Nat×List A)},(l.map (·.1)).Nodup->Yf l b=l.filter λr=>decide (r.1≠b)|[],_=>rfl| (c,g)::r,d=>by have a:=d6.mp d;unfold Yf;by_cases e:c=b;rw[kP e,P1,kr (by simp[e])];refine(List.filter_eq_self.mpr λx f=>?_).symm;refine cf λz=>a.1 ?_;show c∈_;rw[e,<-z];exact QX f;rw[kr e,P1,kP (by simp[e]),Qv a.2]
theorem wY{b:Nat}{d:List A}:∀{l:List (Nat×List A)},(l.map (·.1)).Nodup->(b,d)∈l->Wc l b=d|[],_,h=>nomatch h| (c,g)::r,f,h=>by have a:=d6.mp f;unfold Wc;rcases bc.mp h with e|e;cases e;rw[kP J];rw[kr (λz=>a.1 (by show c∈_;rw[z];exact QX e))];exact wY a.2 e
theorem CK{b:Nat}:∀{l:List (Nat×List A)},b ∉ l.map (·.1)->Wc l b=[]/\Yf l b=l|[],_=>⟨J,J⟩| (c,f)::r,h=>by have e:c≠b:=λz=>h (z▸bv);obtain⟨d,a⟩:=CK λz=>h (bp _ z);unfold Wc Yf;rw[kr e,kr e,d,a];exact⟨J,J⟩
theorem CG{b:Nat}{h:A}:∀{l:List (Nat×List A)},b ∉ l.map (·.1)->Z9 l b h=l++[(b,[h])]|[],_=>rfl| (c,d)::r,a=>by unfold Z9;rw[kr (λz=>a (by rw[<-z];exact bv)),CG λz=>a (bp _ z)];rfl
theorem BM{b:Nat}{h:A}:∀{l:List (Nat×List A)},(l.map (·.1)).Nodup->Z9 l b h=if b∈l.map (·.1)then l.map (λr=>if r.1=b then(r.1,r.2++[h])else r)else l++[(b,[h])]
 |[],_=>rfl
 | (c,d)::r,f=>by
   have a:=d6.mp f;unfold Z9;by_cases e:c=b;rw[kP e,kP (show b∈((c,d)::r).map (·.1) by rw[e];exact bv),d8,kP e];congr 1;refine(List.map_id' r).symm.trans (QT λx g=>((kr λz=>a.1 ?_).symm));show c∈_;rw[e,<-z];exact QX g;rw[kr e,BM a.2];by_cases m:b∈r.map (·.1);rw[kP m,kP (show b∈((c,d)::r).map (·.1)from bp _ m),d8,kr e];rw[kr m,kr (λz=>by rcases bc.mp z with y|y;exact e y.symm;exact m y)]
   rfl
end
theorem sP{W:dO}:(∀v,yv (qz W) (dC b)=some v->∃q∈W,q.1.1=b/\v=.ref q.2)/\(yv (qz W) (dC b)=none->b ∉ W.map (·.1.1)):=by induction W with|nil=>exact⟨λv h=>(by cases h),λ_ h=>nomatch h⟩| cons q r a=>have i:qz (q::r)=(dC q.1.1,V.ref q.2)::qz r:=rfl;rw[i];by_cases e:q.1.1=b;rw[wd (by rw[e])];exact⟨λv h=>⟨q,bv,e,(RV h).symm⟩,λh=>by cases h⟩;rw[wf (λz=>e (Bh z))];refine⟨λv h=>?_,λh d=>?_⟩;obtain⟨c,g,f⟩:=a.1 v h;exact⟨c,bp _ g,f⟩;rcases bc.mp d with z|z;exact e z.symm;exact a.2 h z
theorem F3{W:dO}:kj (qz W) (dC b)=qz (W.filter λq=>decide (q.1.1≠b)):=by unfold kj qz;rw[P4];congr 1;apply P0;intro q _;show decide (dC q.1.1≠dC b)=decide (q.1.1≠b);by_cases e:q.1.1=b;rw[e];simp;have a:¬dC q.1.1=dC b:=λz=>e (Bh z);rw[cf a,cf e]
section
variable{hs:aC}{a:WA}{s:Ws}{W:dO}
theorem aV.same(m:aV P w hs H0 H a s W)(b:zh H H'):aV P w hs H0 H' a s W:=⟨m.run.same b,m.rdy.same b,m.wov.same b,m.stp.same b,m.wai.same b,m.wl,λq c=>⟨(m.lst q c).1.same b,(m.lst q c).2⟩,m.nd,m.kd,⟨m.kn.1,let⟨o,e⟩:=m.kn.2;⟨o,b _ _ e⟩⟩,m.s0.trans b⟩
theorem aV.ne(m:aV P w hs H0 H a s W):a.as≠a.ay/\a.as≠a.ao/\a.al≠a.ay/\a.al≠a.ao/\a.ay≠a.ao/\(∀q∈W,q.2≠a.as/\q.2≠a.al/\q.2≠a.ay/\q.2≠a.ao/\q.2≠a.k0/\q.2≠a.ap)/\(W.map (·.2)).Nodup/\a.k0≠a.ay/\a.k0≠a.ao/\a.k0≠a.aw:=by have q:=m.nd;have c:=m.kn.1;simp only[d6,bc,not_or]at q c;obtain⟨⟨_,u,t,_,p⟩,⟨o,n,_,l⟩,⟨k,_,j⟩,⟨_,i⟩,g,d⟩:=q;refine⟨u,t,o,n,k,λr f=>?_,d,c.2.2.1,c.2.2.2.1,c.2.1⟩;have b:r.2∈W.map (·.2):=QX f;exact⟨λz=>p (z▸b),λz=>l (z▸b),λz=>j (z▸b),λz=>i (z▸b),λz=>c.2.2.2.2.2 (z▸b),λz=>g (z▸b)⟩
theorem aV.np(m:aV P w hs H0 H a s W):a.ap≠a.as/\a.ap≠a.al/\a.ap≠a.ay/\a.ap≠a.ao/\a.ap≠a.k0:=by have q:=m.nd;have b:=m.kn.1;simp at q b;obtain⟨⟨_,_,_,g,_⟩,⟨_,_,f,_⟩,⟨_,d,_⟩,⟨c,_⟩,_⟩:=q;exact⟨ae g,ae f,ae d,ae c,ae b.2.2.2.2.1⟩
theorem aV.apart(m:aV P w hs H0 H a s W)(h:H c=some (.lst vs)):a.ad≠c/\a.aw≠c:=by refine⟨λz=>?_,λz=>?_⟩;rw[<-z,m.run.d]at h;cases h;obtain⟨b,e⟩:=m.wai.some;rw[<-z,e]at h;cases h
theorem bM.upd_ne{c b:Y}{l:O Nat}{a vs:O V}(x:bM H b l)(h:H c=some (.lst a))(n:b≠c):bM (ji H c (.lst vs)) b l:=x.keep (L2.ja n) (zy.upd h (λ_ z=>by cases z))
theorem gq{a:O V}(h:H c=some (.lst a))(i:IsL H (l.map hN) vs):bM (ji H c (.lst vs)) c l:=⟨vs,zd,i.tups (zy.upd h (λ_ z=>by cases z)) (Vq l)⟩
theorem jk(s:zh H0 H)(n:H0 c=none):zh H0 (ji H c o):=λb u e=>(L2.ja (zi e n)▸s b u e)
theorem cD.upd{ad as b a c:Y}{d:Nat->Nat}{o:HO}(m:cD P w H hs ad as b a d)(t:zy H (ji H c o))(h:ad≠c/\as≠c/\b≠c/\a≠c):cD P w (L2.ji H c o) hs ad as b a d:=⟨(L2.ja h.1).trans m.d,(L2.ja h.2.1).trans m.s,(L2.ja h.2.2.1).trans m.l,λz=>(m.k z).by t (L2.ja h.2.2.2)⟩
theorem Y6{b:Y}(h:∃u,H b=some u)(n:b≠c):∃u,ji H c o b=some u:=let⟨u,e⟩:=h;⟨u,(L2.ja n).trans e⟩
theorem aV.setR(m:aV P w hs H0 H a s W)(z:H0 a.ay=none)(i:IsL H (l.map hN) vs):aV P w hs H0 (ji H a.ay (.lst vs)) a {s with rdy:=l} W:=by obtain⟨k,r,j,p,g,f,_,c,v,u⟩:=m.ne;obtain⟨d,h,_⟩:=m.rdy;obtain⟨o,n⟩:=m.apart h;have t:zy H (ji H a.ay (.lst vs)):=zy.upd h (λ_ z=>by cases z);exact⟨m.run.upd t ⟨o,k,j,c⟩,gq h i,m.wov.upd_ne h (ae g),m.stp.upd_ne h m.np.2.2.1,m.wai.by t (ja n),m.wl,λq b=>⟨(m.lst q b).1.upd_ne h (f q b).2.2.1,(m.lst q b).2⟩,m.nd,m.kd,⟨m.kn.1,Y6 m.kn.2 c⟩,jk m.s0 z⟩
theorem aV.setO(m:aV P w hs H0 H a s W)(z:H0 a.ao=none)(i:IsL H (l.map hN) vs):aV P w hs H0 (ji H a.ao (.lst vs)) a {s with wov:=l} W:=by obtain⟨r,k,p,j,g,f,_,v,c,u⟩:=m.ne;obtain⟨d,h,_⟩:=m.wov;obtain⟨o,n⟩:=m.apart h;have t:zy H (ji H a.ao (.lst vs)):=zy.upd h (λ_ z=>by cases z);exact⟨m.run.upd t ⟨o,k,j,c⟩,m.rdy.upd_ne h g,gq h i,m.stp.upd_ne h m.np.2.2.2.1,m.wai.by t (ja n),m.wl,λq b=>⟨(m.lst q b).1.upd_ne h (f q b).2.2.2.1,(m.lst q b).2⟩,m.nd,m.kd,⟨m.kn.1,Y6 m.kn.2 c⟩,jk m.s0 z⟩
theorem aV.setS(m:aV P w hs H0 H a s W)(z:H0 a.ap=none)(i:IsL H (l.map hN) vs):aV P w hs H0 (ji H a.ap (.lst vs)) a {s with stp:=l} W:=by obtain⟨y,x,v,u,r,n,_,C,B,A⟩:=m.ne;obtain⟨k,j,g,f,c⟩:=m.np;obtain⟨d,h,_⟩:=m.stp;obtain⟨p,o⟩:=m.apart h;have t:zy H (ji H a.ap (.lst vs)):=zy.upd h (λ_ z=>by cases z);exact⟨m.run.upd t ⟨p,ae k,ae j,ae c⟩,m.rdy.upd_ne h (ae g),m.wov.upd_ne h (ae f),gq h i,m.wai.by t (ja o),m.wl,λq b=>⟨(m.lst q b).1.upd_ne h (n q b).2.2.2.2.2,(m.lst q b).2⟩,m.nd,m.kd,⟨m.kn.1,Y6 m.kn.2 (ae c)⟩,jk m.s0 z⟩
theorem cD.tups{ad as a d:Y}{c:Nat->Nat}(m:cD P w H hs ad as a d c)(j:cA hs)(hk:hs.w=0->d=a)(b:Bt [ad,as,a,d] H H'):zy H H':=b.tups λy f l e=>by
 simp at f;have g:y=a->False:=λz=>by rw[z,m.l]at e;cases e
 rcases f with z|z|z|z;rw[z,m.d]at e;cases e;rw[z,m.s]at e;cases e;exact g z;rcases j.w01 with q|q;exact g (z.trans (hk q));obtain⟨k,i,_,_,_,_⟩:=m.k q;rw[z,i]at e;cases e
theorem aV.bt(m:aV P w hs H0 H a s W){c:Nat->Nat}(k:cA hs)(hk:hs.w=0->a.k0=a.al)(v:∀y∈[a.ad,a.as,a.al,a.k0],H0 y=none)(b:Bt [a.ad,a.as,a.al,a.k0] H H')(r:cD P w H' hs a.ad a.as a.al a.k0 c):aV P w hs H0 H' a {s with c:=c} W:=by
 obtain⟨B,A,z,x,Q,j,_,F,E,D⟩:=m.ne;have t:=m.run.tups k hk b;have d:∀{y:Y}{l:O Nat},bM H y l->y≠a.as->y≠a.al->y≠a.k0->y ∉ [a.ad,a.as,a.al,a.k0]:=λ{y l} C u p n g=>by obtain⟨N,h,_⟩:=C;simp at g;rcases g with q|q|q|q;exact(m.apart h).1 q.symm;exact u q;exact p q;exact n q
 have i:a.aw ∉ [a.ad,a.as,a.al,a.k0]:=λg=>by obtain⟨L,e⟩:=m.wai.some;simp at g;rcases g with q|q|q|q;rw[q,m.run.d]at e;cases e;rw[q,m.run.s]at e;cases e;rw[q,m.run.l]at e;cases e;exact D q.symm
 have G:∃o,H' a.k0=some o:=by rcases k.w01 with q|q;rw[hk q];exact⟨_,r.l⟩;obtain⟨M,e,_,_,_,_⟩:=r.k q;exact⟨_,e⟩
 exact⟨r,m.rdy.bt b (d m.rdy (ae B) (ae z) (ae F)) t,m.wov.bt b (d m.wov (ae A) (ae x) (ae E)) t,m.stp.bt b (d m.stp m.np.1 m.np.2.1 m.np.2.2.2.2) t,m.wai.bt b i t,m.wl,λq f=>⟨(m.lst q f).1.bt b (d (m.lst q f).1 (j q f).1 (j q f).2.1 (j q f).2.2.2.2.1) t,(m.lst q f).2⟩,m.nd,m.kd,⟨m.kn.1,G⟩,b.same m.s0 v⟩
theorem aV.setW(m:aV P w hs H0 H a s W)(z:H0 a.aw=none){d:dO}(g:aM dS P w (ji H a.aw o) a.aw (qz d))(b:∀q∈d,q∈W)(i:(a.as::a.al::a.ay::a.ao::a.ap::d.map (·.2)).Nodup)(k:(d.map (·.1.1)).Nodup):aV P w hs H0 (ji H a.aw o) a {s with wai:=d.map (·.1)} d:=by
 obtain⟨G,F,E,D,C,B,_,M,L,r⟩:=m.ne;have t:zy H (ji H a.aw o):=m.wai.tups;have f:∀{c:Y}{l:O Nat},bM H c l->c≠a.aw:=λ{c l} ⟨A,h,_⟩=>ae (m.apart h).2;obtain⟨x,e⟩:=m.wai.some;have j:a.k0 ∉ (a.as::a.aw::a.ay::a.ao::a.ap::d.map (·.2)):=λu=>by refine m.kn.1 ?_;simp only[bc]at u⊢;rcases u with q|q|q|q|q|q;exact .inl q;exact .inr (.inl q);exact .inr (.inr (.inl q));exact .inr (.inr (.inr (.inl q)));exact .inr (.inr (.inr (.inr (.inl q))));obtain⟨p,v,e⟩:=bz.mp q;exact .inr (.inr (.inr (.inr (.inr (e▸QX (b p v))))))
 refine⟨m.run.upd t ⟨(λy=>by rw[<-y,m.run.d]at e;cases e),(λy=>by rw[<-y,m.run.s]at e;cases e),(λy=>by rw[<-y,m.run.l]at e;cases e),r⟩,m.rdy.keep (ja (f m.rdy)) t,m.wov.keep (ja (f m.wov)) t,m.stp.keep (ja (f m.stp)) t,g,J,λq n=>⟨(m.lst q (b q n)).1.keep (ja (f (m.lst q (b q n)).1)) t,(m.lst q (b q n)).2⟩,i,k,⟨j,Y6 m.kn.2 r⟩,jk m.s0 z⟩
end
theorem C5{g:Nat}:∀{gs:List Nat}{r:List Nat}{w:List (Nat×List Nat)},ke (gs++[g]) r w=((ke gs r w).1++Wc (ke gs r w).2 g,Yf (ke gs r w).2 g)|[],_,_=>rfl|x::gs,r,w=>C5 (gs:=gs)
theorem Ym:∀{l:List (Nat×List Nat)},(xu l).length=Z8 l|[]=>rfl| (c,l)::r=>by show(l++xu r).length=l.length+Z8 r;rw[cq,Ym]
theorem CQ{gs r:O Nat}{w:O (Nat×O Nat)}:(ke gs r w).1.length+Z8 (ke gs r w).2=r.length+Z8 w:=by have:=(Ko (gs:=gs) (r:=r) (w:=w)).length_eq;rw[cq,cq,Ym,Ym]at this;exact this
theorem J6{n:Nat}(h:n<=9000):n<TL:=gu h (by decide)
theorem CJ{l:O (Nat×O Nat)}:(Wc l b).length<=Z8 l:=by have:=CL (b:=b) (l:=l);omega
inductive gZ(P:R0)(w:SX)(cW cU cP cR:lv)(vs:List V)(H:Hp)(Q:VK)(e0:XK):Prop|mk:∀(H0:Hp)(a:WA)(hs:aC)(R:Nat->lv)(s:Ws)(W:dO)(i:Nat)(d:aF)(vh:V)(hr:List ((List Int×Int)×V)),vs=[.ref a.x,vh]->dU P w H0 cW cU cP cR hs R a hr->aV P w hs H0 H a s W->cA hs->i<hs.fs.length->Is H (hN i) vh->((aB hs).S i)[s.c i]?=some d->s.rdy.length+Z8 s.wai<=1000->s.wov.length<=4000->(∀W' H',aV P w hs H0 H' a (pV (aB hs) s i d) W'->Q .non H')->gZ P w cW cU cP cR vs H Q e0
section
variable{K:O4}
theorem BN:aA ["self","hand","begun","ground"] ["self","hand"] (ze vO):=.of
theorem HR(D:qk K cW "step" "Weaver.step" vO)(r:aI K cW bA)(CU:aI K cU bO)(CP:aI K cP bF)(CR:aI K cR aT)(oD:bD P w K mg base cU "do" 3 ["self","hand"] (oZ P w cU cP cR)):bD P w K mg base cW "step" 4 ["self","hand"] (gZ P w cW cU cP cR):=by
 refine kh D BN ?_;rintro f cu A bB s0 H vs Q E hr ⟨H0,a,hs,R,s,W,i,d,vh,cj,rfl,F,m,W0,hi,ak,hd,cl,ci,k⟩ X;have hu:=ki hr;have nd:=BN.nd;refine⟨_,zc (zn (i:=2) nd (Kx hu (zo (qc hu (zo (zo (zo (pv 0) J) J) J) (pv 1)) J) (qc hu (zo (zo (pv 0) J) J) (pv 1)) ⟨J,J,J,J⟩)) (zc (xy RY J (jg (qp oD CU.cls hr (zo (pv 0) J) (za (pv 1) zb))) (zp (i:=3) nd) (zg (y0 (Zu PySem.F.plainAttrs_list PySem.F.slot_list_extend PySem.F.type_list_extend X4 (zo (pv 0) J) (za (Ks (τ:=dS) (Yj hr) (zo (pv 0) J) (pv 3) (yq zb) ⟨J,J,J,J⟩) zb)))))
  (zc (y0 (Zu PySem.F.plainAttrs_list PySem.F.slot_list_append PySem.F.type_list_append vm (zo (pv 0) J) (za (pv 1) zb))) (zc (y0 (Zu PySem.F.plainAttrs_list PySem.F.slot_list_append PySem.F.type_list_append vm (zo (pv 0) J) (za (pv 1) zb))) (zg (yt (Km (Bu (pv 2))) qo zu))))),?_⟩
 obtain⟨RF,⟨dx,hx⟩,GH,bH,aj,bG,ca⟩:=id F;obtain⟨xp,aw,am,PA,ap,_,ce,b9,cc,nk,b7,bg⟩:=id RF;obtain⟨dp,vv,ar,hp,b4,a5,b5,vc,vs,ab,an,ac,r1,r2,r4,r5,r6,_⟩:=PA.role hi;obtain⟨bh,rfl,bi⟩:=Zb ak;have g:=m.s0;refine⟨a.x,cW,dx,_,_,J,g _ _ hx,r.cls,r.n,V5,a.xr,cU,aw,_,_,J,g _ _ ap,CU.cls,CU.n,W9,xp,cP,dp,_,_,J,g _ _ hp,CP.cls,CP.n,qd,ar,_,J,a5▸DGet.t (g _ _ b4) bi,R i,cR,b5,_,_,J,g _ _ r1,CR.cls,CR.n,Mh,ab,J,.inl ⟨_,.inl (g _ _ r4)⟩,a.x,cW,dx,_,_,J,g _ _ hx,r.cls,r.n,V5,a.xr,cU,aw,_,_,J,g _ _ ap,CU.cls,CU.n,Zy,a.ad,_,J,Wd hi▸DGet.t m.run.d bi,_,DGet.k (k:=(Sm (s.c i:Int):aJ)) (g _ _ r4),⟨a.x,cW,dx,_,_,J,g _ _ hx,r.cls,r.n,V5,a.xr,aw,_,J,g _ _ ap,J,H0,a.xr,a.ad,a.as,a.al,a.k0,hs,R,s.c,i,.ref bh,d,J,⟨RF,m.s0,m.run⟩,hi,W0,ak,hd,λl H1 b1 M bx i1=>?_⟩⟩
 have m1:=m.bt W0 bg (λy hm=>by simp at hm;rcases hm with q|q|q|q<;>rw[q]<;>assumption) b1 bx;obtain⟨l',zs,el,bd,a4⟩:=i1;cases el;have bL:zs.length=(fH (aB hs) s.c i d).length:=by rw[a4.length,ag]
 refine⟨l,J,⟨zs,aK.of bd⟩,?_⟩;have bC:l≠a.ay:=λz=>by obtain⟨_,q,_⟩:=m.rdy;rw[z,q]at M;cases M
 have bE:l≠a.aw:=λz=>by obtain⟨_,q⟩:=m.wai.some;rw[z,q]at M;cases M
 have ay:∀{G:Hp},zh (without [a.ay,a.aw] H1) G->zy H1 G:=λ{G} L c C e=>by refine L _ _ ?_;rw[y9];exact e;intro hm;rcases bc.mp hm with y|y;obtain⟨_,q,_⟩:=m1.rdy;rw[y,q]at e;cases e;obtain⟨_,q⟩:=m1.wai.some;rw[ai.mp y,q]at e;cases e
 let p:=fH (aB hs) s.c i d;let st:Nat->Ws:=λj=>⟨aR s.c i,(ke (p.take j) s.rdy s.wai).1,(ke (p.take j) s.rdy s.wai).2,s.wov,s.stp⟩
 let b6:Nat->L2.St->Hp->Prop:=λj σ G=>∃x3 U,σ=[some (.ref a.x),some (.ref bh),some .non,x3]/\aV P w hs H0 G a (st j) U/\zh (without [a.ay,a.aw] H1) G;refine Zm b6
  ⟨none,W,J,m1,vp⟩ (λj σ G _ q0=>by obtain⟨_,_,_,_,L⟩:=q0;exact aK.of (L _ _ (by rw[y9 (by simp[bC,bE])];exact bd))) ?_ ?_
 rintro j v σ G hv ⟨x3,U,rfl,b,L⟩;obtain⟨tt,a6,bJ⟩:=a4.get' hv;rw[bq]at a6;obtain⟨B,b3,rfl⟩:=df.mp a6;have ej:p.take (j+1)=p.take j++[B]:=by rw[fh,b3];rfl
 have bk:st (j+1)=⟨aR s.c i,(st j).rdy++Wc (st j).wai B,Yf (st j).wai B,s.wov,s.stp⟩:=by show Ws.mk _ _ _ _ _=_;rw[ej,C5]
 have bb:(st j).rdy.length+Z8 (st j).wai<=1000:=by have:=CQ (gs:=p.take j) (r:=s.rdy) (w:=s.wai);show(ke (p.take j) s.rdy s.wai).1.length+Z8 (ke (p.take j) s.rdy s.wai).2<=1000;omega
 have u:=bJ.tups (ay L) (dS.fro _);obtain⟨gv,xg,rfl,cs,co⟩:=id u;obtain⟨C,x,t⟩:=id b.rdy;have gG:=b.s0;have N:=b.wl;have bl:((st j).wai.map (·.1)).Nodup:=by rw[<-N,ck];exact b.kd
 have bn:C.length=(st j).rdy.length:=by have:=t.length;rw[ag]at this;exact this
 refine⟨a.x,cW,dx,_,_,J,gG _ _ hx,r.cls,r.n,W7,.inl ⟨J,_,aK.of x⟩,a.x,cW,dx,_,_,J,gG _ _ hx,r.cls,r.n,Jv,a.aw,_,J,b.wai,c9 _,λe H3 Z cn he=>⟨gv,qz U,dC B,J,b.wai.same Z,u.mono Z,λv2 bN o hg=>?_,λb2=>?_⟩⟩;obtain⟨q,hq,b0,rfl⟩:=sP.1 _ bN;rw[F3]at hg;have n:=b.same Z;obtain⟨n1,n2,n3,n4,n5,nq,nW,k1,k2,k3⟩:=n.ne;have m4:=n.setW bG hg (λq hq=>(fo.mp hq).1) (n.nd.sublist (((((P5 ..).map _).cons_cons _).cons_cons _).cons_cons _ |>.cons_cons _ |>.cons_cons _)) (n.kd.sublist ((P5 ..).map _));obtain⟨ax,bj,ah⟩:=m4.rdy;have a7:=(n.lst q hq).1;obtain⟨zq,bK,az⟩:=(a7.keep (ja (by obtain⟨_,y,_⟩:=a7;exact ae (n.apart y).2)) n.wai.tups)
 have l4:ax.length=(st j).rdy.length:=by have:=ah.length;rw[ag]at this;exact this
 have lq:zq.length=q.1.2.length:=by have:=az.length;rw[ag]at this;exact this
 have ba:(B,q.1.2)∈(st j).wai:=by rw[<-N,<-b0];exact QX hq
 have S:=wY bl ba;have av:Yf (st j).wai B=(U.filter λq=>decide (q.1.1≠B)).map (·.1):=by rw[Qv bl,<-N,P4];rfl
 have bw:=CJ (b:=B) (l:=(st j).wai);rw[S]at bw;refine⟨a.ay,q.2,ax,zq,J,J,bj,bK,Rw (J6 (by omega)),_,U.filter λq=>decide (q.1.1≠B),J,?_,jk (jk (L.trans Z) (yp (by simp))) (yp (by simp))⟩;rw[bk,S,av];exact(m4.setR aj (bo▸IsL.append ah az));have a8:B ∉ (st j).wai.map (·.1):=by rw[<-N,ck];exact(sP.2 b2)
 obtain⟨S,av⟩:=CK a8;have n:=b.same Z;refine⟨a.ay,e,C,[],J,J,Z _ _ x,he,Rw (J6 (by show C.length+0<=9000;omega)),_,U,J,?_,jk (L.trans Z) (yp (by simp))⟩;rw[bk,S,av];exact(n.setR aj (l:=(st j).rdy++[]) (vs:=C++[]) (by rw[eh,eh];exact t.mono Z));rintro σ G ⟨x3,U,rfl,b,L⟩;have m2:aV P w hs H0 G a ⟨aR s.c i,(ke p s.rdy s.wai).1,(ke p s.rdy s.wai).2,s.wov,s.stp⟩ U:=by
  have:st zs.length=⟨aR s.c i,(ke p s.rdy s.wai).1,(ke p s.rdy s.wai).2,s.wov,s.stp⟩:=by show Ws.mk _ _ _ _ _=_;rw[List.take_of_length_le (bL▸au _)]
  rw[this]at b;exact b
 have bb:=CQ (gs:=p) (r:=s.rdy) (w:=s.wai);have u:=(ak.tups (m.run.tups W0 bg b1) (qu _)).tups (ay L) (qu _);obtain⟨os,aq,a3⟩:=id m2.wov;have b8:os.length=s.wov.length:=by have:=a3.length;rw[ag]at this;exact this
 refine⟨a.x,cW,dx,_,_,J,m2.s0 _ _ hx,r.cls,r.n,Wz,.inl ⟨J,_,aK.of aq⟩,a.ao,os,_,J,J,aq,J6 (by omega),?_⟩;have n:=m2.setO bH (l:=s.wov++[i]) (by rw[bo];exact IsL.append a3 (IsL.one u));have aS:Is (ji G a.ao (.lst (os++[.ref bh]))) (hN i) (.ref bh):=u.tups (zy.upd aq (λ_ z=>by cases z)) (qu _);generalize ji G a.ao (.lst (os++[.ref bh]))=H3 at n aS⊢;obtain⟨C,x,t⟩:=id n.rdy;have bn:C.length=(ke p s.rdy s.wai).1.length:=by have:=t.length;rw[ag]at this;exact this
 refine⟨a.x,cW,dx,_,_,J,n.s0 _ _ hx,r.cls,r.n,W7,.inl ⟨J,_,aK.of x⟩,a.ay,C,_,J,J,x,J6 (by omega),?_⟩;have m4:=n.setR aj (l:=(ke p s.rdy s.wai).1++[i]) (by rw[bo];exact IsL.append t (IsL.one aS));generalize ji H3 a.ay (.lst (C++[.ref bh]))=H4 at m4⊢;exact⟨_,J,yn (k U H4 m4)⟩
end
theorem Z2{α a:Type}{f:α->a}:∀{l:List α},(l.map f).Nodup->∀{x y:α},x∈l->y∈l->f x=f y->x=y
 |[],_,_,_,h,_,_=>nomatch h
 | c::r,b,x,y,g,d,e=>by
   rcases bc.mp g with z|z<;>rcases bc.mp d with u|u;rw[z,u]
   grind
   simp_all
   exact Z2 (d6.mp b).2 z u e
theorem aV.addW{j:aC}{a:WA}{s:Ws}{W:dO}(m:aV P w j H0 H a s W){q:(Nat×O Nat)×Y}(b:q∈W)(e:H q.2=some (.lst vs))(i:IsL H (q.1.2.map hN) vs)(n:Is H (hN h) v):aV P w j H0 (ji H q.2 (.lst (vs++[v]))) a {s with wai:=Z9 s.wai q.1.1 h} (W.map λz=>if z.1.1=q.1.1 then((z.1.1,z.1.2++[h]),z.2)else z):=by
 obtain⟨D,C,B,A,x,d,l,G,F,E⟩:=m.ne;obtain⟨u,r⟩:=m.apart e;have t:zy H (ji H q.2 (.lst (vs++[v]))):=zy.upd e (λ_ z=>by cases z);have k:(W.map λz=>if z.1.1=q.1.1 then((z.1.1,z.1.2++[h]),z.2)else z).map (·.2)=W.map (·.2):=by
  rw[ck];refine QT λz _=>?_
  grind
 have p:(W.map λz=>if z.1.1=q.1.1 then((z.1.1,z.1.2++[h]),z.2)else z).map (·.1.1)=W.map (·.1.1):=by
  rw[ck];refine QT λz _=>?_
  grind
 have o:qz (W.map λz=>if z.1.1=q.1.1 then((z.1.1,z.1.2++[h]),z.2)else z)=qz W:=by
  unfold qz
  simp_all
 refine⟨m.run.upd t ⟨u,ae (d q b).1,ae (d q b).2.1,ae (d q b).2.2.2.2.1⟩,m.rdy.upd_ne e (ae (d q b).2.2.1),m.wov.upd_ne e (ae (d q b).2.2.2.1),m.stp.upd_ne e (ae (d q b).2.2.2.2.2),?_,?_,λz f=>?_,(k▸m.nd),(p▸m.kd),⟨(k▸m.kn.1),Y6 m.kn.2 (ae (d q b).2.2.2.2.1)⟩,jk m.s0 (m.lst q b).2⟩;rw[o];exact m.wai.by t (ja r)
 rw[BM (by rw[<-m.wl,ck];exact m.kd),kP (by rw[<-m.wl,ck];grind),<-m.wl,ck,ck];refine QT λz _=>?_
 grind
 obtain⟨y,g,rfl⟩:=bz.mp f;by_cases c:y.1.1=q.1.1;rw[kP c];obtain rfl:=(λz f e=>(Z2 m.kd f b e)) y g c;exact⟨⟨_,zd,(bo▸(IsL.append i (IsL.one n)).tups t (bo▸Vq _))⟩,(m.lst y g).2⟩;rw[kr c];exact⟨(m.lst y g).1.upd_ne e (λz=>c (by rw[(λz f e=>Z2 l f b e) y g z])),(m.lst y g).2⟩
theorem aV.newW{C:aC}{a:WA}{s:Ws}{W:dO}(m:aV P w C H0 H a s W){e:Y}(he:H e=some (.lst []))(z:H0 e=none)(F:H0 a.aw=none)(ne:e ∉ a.as::a.al::a.ay::a.ao::a.ap::W.map (·.2))(p:a.k0≠e)(R:b ∉ W.map (·.1.1))(g:aM dS P w (ji H a.aw o) a.aw (qz (W++[((b,[]),e)]))) (G:Is H (hN h) v):aV P w C H0 (ji (ji H a.aw o) e (.lst [v])) a {s with wai:=Z9 s.wai b h} (W++[((b,[h]),e)]):=by
 obtain⟨M,E⟩:=m.apart he;have r:zy H (ji H a.aw o):=m.wai.tups;have i:zy (ji H a.aw o) (ji (ji H a.aw o) e (.lst [v])):=zy.upd ((ja (ae E)).trans he) (λ_ z=>by cases z);have t:=r.trans i;have j:=ne;simp only[bc,not_or]at ne;have f:∀{c:Y}{k:O Nat},bM H c k->c≠e->bM (ji (ji H a.aw o) e (.lst [v])) c k:=λ{c k} l n=>l.keep (by obtain⟨Q,y,_⟩:=l;rw[ja n,ja (ae (m.apart y).2)]) t
 obtain⟨N,d⟩:=m.wai.some;have u:=m.ne.2.2.2.2.2.2.2.2.2;refine⟨(m.run.upd r ⟨(λy=>by rw[<-y,m.run.d]at d;cases d),(λy=>by rw[<-y,m.run.s]at d;cases d),(λy=>by rw[<-y,m.run.l]at d;cases d),u⟩).upd i ⟨M,ae ne.1,ae ne.2.1,p⟩,f m.rdy (ae ne.2.2.1),f m.wov (ae ne.2.2.2.1),f m.stp (ae ne.2.2.2.2.1),?_,?_,λq D=>?_,?_,?_,⟨?_,Y6 (Y6 m.kn.2 u) p⟩,jk (jk m.s0 F) z⟩;have L:qz (W++[((b,[h]),e)])=qz (W++[((b,[]),e)]):=by unfold qz;simp
 rw[L];exact g.by i (ja E)
 rw[CG (by rw[<-m.wl,ck];grind),bo,m.wl];rfl;rcases cp.mp D with y|y;exact⟨f (m.lst q y).1 ((λq D y=>ne.2.2.2.2.2 (by grind)) q y),(m.lst q y).2⟩;rw[ai.mp y];exact⟨⟨_,zd,IsL.one (G.tups t (qu _))⟩,z⟩;rw[bo];exact List.nodup_append.mpr ⟨m.nd,by simp,λx B y A z=>j (by rw[<-show y=e from ai.mp A,<-z];exact B)⟩;rw[bo,Rb];refine⟨m.kd,by simp,λx B y A z=>?_⟩
 simp_all
 have q:=m.kn.1;rw[bo];simp only[bc,cp,d8,QU,ii,or_false]at q⊢;rintro(y|y|y|y|y|y|y);exact q (.inl y);exact q (.inr (.inl y));exact q (.inr (.inr (.inl y)));exact q (.inr (.inr (.inr (.inl y))));exact q (.inr (.inr (.inr (.inr (.inl y)))));exact q (.inr (.inr (.inr (.inr (.inr y)))));exact p y
def NE(l:List (Nat×List Nat)):Prop:=∀r∈l,r.2≠[]
theorem NE.add{l:List (Nat×List Nat)}:NE l->NE (Z9 l b h):=by
 induction l with|nil=>intro _ r g;rw[ai.mp g];simp| cons c r d=>
   intro n x a;obtain⟨c,i⟩:=c;unfold Z9 at a;by_cases e:c=b;rw[kP e]at a;rcases bc.mp a with z|z
   simp_all
   exact n x (bp _ z);rw[kr e]at a;rcases bc.mp a with z|z;rw[z];exact n _ bv;exact d (λy f=>n y (bp _ f)) x z
theorem NE.del{l:List (Nat×List Nat)}:NE l->NE (Yf l b):=by induction l with|nil=>exact λn=>n| cons c r d=>intro n x a;obtain⟨c,g⟩:=c;unfold Yf at a;by_cases e:c=b;rw[kP e]at a;exact n x (bp _ a);rw[kr e]at a;rcases bc.mp a with z|z;rw[z];exact n _ bv;exact d (λy f=>n y (bp _ f)) x z
theorem NE.len{l:List (Nat×List Nat)}:NE l->l.length<=Z8 l:=by induction l with|nil=>simp| cons c r a=>intro n;have f:=a λy b=>n y (bp _ b);have d:=List.length_pos_iff.mpr (n c bv);show r.length+1<=c.2.length+Z8 r;omega
theorem gr:∀{gs r:List Nat}{w:List (Nat×List Nat)},NE w->NE (ke gs r w).2|[],_,_,n=>n|_::gs,_,_,n=>gr (gs:=gs) n.del
theorem NE.turn{h:HW}{s:Ws}{i:Nat}(n:NE s.wai):NE (fS h hl s i).wai:=by unfold fS;by_cases q:hl i (s.c i)=true;rw[kP q];exact n;rw[kr q];cases(h.S i)[s.c i]? with|none=>exact n| some d=>dsimp only;by_cases c:qe h s.c i=true;rw[kP c];exact gr n;rw[kr c];cases jq (h.S i) (s.c i) d with|none=>exact n|some g=>exact n.add
theorem IsL.snoc{H:Hp}:∀{ts:List L2.T}{t:L2.T}{b:List V},IsL H (ts++[t]) b->∃a v,b=a++[v]/\IsL H ts a/\Is H t v| [],t,b,h=>by obtain⟨v,f,rfl,d,c⟩:=h;cases(c);exact⟨[],v,J,J,d⟩| u::ts,t,b,h=>by obtain⟨v,f,rfl,d,c⟩:=h;obtain⟨a,w,rfl,i,g⟩:=IsL.snoc c;exact⟨v::a,w,J,⟨v,a,J,d,i⟩,g⟩
inductive gY(P:R0)(w:SX)(cW cU cP cR:lv)(vs:List V)(H:Hp)(Q:VK)(e0:XK):Prop|mk:∀(H0:Hp)(a:WA)(hs:aC)(R:Nat->lv)(s:Ws)(W:dO)(hr:List ((List Int×Int)×V))(off:Nat->Prop)(Jx:List Nat->(Nat->Nat)->Prop),vs=[.ref a.x]->dU P w H0 cW cU cP cR hs R a hr->aV P w hs H0 H a s W->cA hs->Wi (aB hs) (eI hr) off Jx s->mD (aB hs) (eI hr) Jx->NE s.wai->(∀s' W' H',aV P w hs H0 H' a s' W'->Wi (aB hs) (eI hr) off Jx s'->s'.rdy=[]->NE s'.wai->Q .non H')->gY P w cW cU cP cR vs H Q e0
theorem tq{a:aC}(W:cA a):Va (aB a)<=3200:=by
 have b:∀n,n<=a.fs.length->J0 (λi=>((aB a).S i).length) n<=n*80:=by intro n;induction n with|zero=>exact λ_=>au _| succ n d=>intro f;have c:=uF W (i:=n) (by omega);unfold J0 at *;rw[Rj,bo,Rm];simp;omega
 have:=b a.fs.length (au _);have:=W.n1;show J0 _ a.fs.length<=3200;omega
section
variable{K:O4}
theorem CB:aA ["self","hand","deed"] ["self"] (ze wT):=.of
theorem KU(D:qk K cW "weave" "Weaver.weave" wT)(B:aI K cW bA)(CU:aI K cU bO)(CP:aI K cP bF)(CR:aI K cR aT)(oN:bD P w K mg base cU "next_deed" 1 ["self","hand"] (fE cU cP cR))(oM:bD P w K mg base cU "may_go_on" 2 ["self","hand"] (ox cU cP cR))(oS:bD P w K mg base cW "step" 4 ["self","hand"] (gZ P w cW cU cP cR)):bD P w K mg base cW "weave" 5 ["self"] (gY P w cW cU cP cR):=by
 refine kh D CB ?_;rintro f ci A bk s0 H vs Q E hr ⟨H0,a,t,R,s,W,p,off,Jx,rfl,F,m,W0,WV,hJ,bH,k⟩ X;have a5:=Yj hr;have nd:=CB.nd;refine⟨_,zg (Vj RY (CV (zo (pv 0) J) (λ_=>rfl)) (zc (zn (i:=1) nd (GI PySem.F.plainAttrs_list PySem.F.slot_list_pop PySem.F.type_list_pop FN (zo (pv 0) J))) (zc (zn (i:=2) nd (qp oN CU.cls (hr.mono (by decide)) (zo (pv 0) J) (za (pv 1) zb))) (zg (yt (Km (GG (τ:=fC) (RC a5) (zx (za (pv 1) (za (qc (ki hr) (zo (zo (pv 0) J) J) (pv 1)) zb))) (zo (pv 0) J))) (zg (y0 (Zu PySem.F.plainAttrs_list PySem.F.slot_list_append PySem.F.type_list_append vm (zo (pv 0) J) (za (pv 1) zb))))
   (zg (yt (wq (qp oM CU.cls (hr.mono (by decide)) (zo (pv 0) J) (za (pv 1) zb))) (zg (y0 (qp oS B.cls hr (pv 0) (za (pv 1) zb)))) (zg (yt (Km (Bu (pv 2))) (zg (y0 (Zu PySem.F.plainAttrs_list PySem.F.slot_list_append PySem.F.type_list_append vm (KY (τ:=dS) a5 (zo (pv 0) J) (Vl uO (pv 2) Jo (Jm zf)) (yq zb) ⟨J,J,J,J⟩) (za (pv 1) zb)))) zu))))))))),?_⟩
 obtain⟨RF,⟨dx,hx⟩,GH,b3,bl,bn,bw⟩:=id F;obtain⟨xp,ay,am,PA,aw,_,b5,b2,b4,nk,b1,cc⟩:=id RF;let b0:Nat->L2.St->Hp->Prop:=λmm σ G=>∃x1 x2 st C,σ=[some (.ref a.x),x1,x2]/\aV P w t H0 G a st C/\Wi (aB t) (eI p) off Jx st/\NE st.wai/\mm=p9 (aB t) st;refine⟨b0,⟨_,none,none,s,W,J,m,WV,bH,J⟩,?_⟩;rintro mm σ G ⟨x1,x2,st,C,rfl,m1,N,U,rfl⟩;obtain⟨ys,av,aj⟩:=id m1.rdy;refine⟨a.x,cW,dx,_,_,J,m1.s0 _ _ hx,B.cls,B.n,W7, !ys.isEmpty,.inl ⟨ys,aK.of av,J⟩,?_⟩;by_cases c:st.rdy=[];rw[c]at aj;cases(aj);exact yn (k st C G m1 N c U);obtain⟨r,i,er⟩:∃r i,st.rdy=r++[i]:=⟨st.rdy.dropLast,st.rdy.getLast c,(PQ c).symm⟩
 rw[er,bo]at aj;obtain⟨yr,v,rfl,bx,iv⟩:=IsL.snoc aj;have ba:(!(yr++[v]).isEmpty)=true:=by cases yr<;>rfl
 rw[ba];obtain⟨WT,bJ⟩:=N.turn hJ er;have hi:=N.lt i (.inl (er▸di _ (ai.mpr J)));have ca:st.rdy.length+Z8 st.wai+st.stp.length<=40:=by have q:=X3 N.one λj hj=>N.lt j (cp.mp hj);rw[cq,cq,Ym]at q;have:=W0.n1;have:(aB t).n=t.fs.length:=rfl;omega
 have b9:=dq N.lg.most (tq W0);have b6:r.length+1=st.rdy.length:=by rw[er,cq];rfl
 refine xx ⟨λaS G'=>∃x1 x2 az,aS=[some (.ref a.x),x1,x2]/\aV P w t H0 G' a (fS (aB t) (eI p) {st with rdy:=r} i) az,?_,?_⟩;rintro aS G' ⟨bj,bi,az,rfl,m'⟩;exact⟨_,bJ,bj,bi,_,az,J,m',WT,NE.turn U,J⟩;refine⟨a.x,cW,dx,_,_,J,m1.s0 _ _ hx,B.cls,B.n,W7,.inl ⟨J,_,aK.of av⟩,a.ay,_,v,J,J,av,by simp,?_⟩;rw[List.dropLast_append_of_ne_nil (by simp),List.dropLast_singleton,eh];have m2:=m1.setR bl bx;have ap:Is (ji G a.ay (.lst yr)) (hN i) v:=iv.tups (zy.upd av (λ_ z=>by cases z)) (qu _);generalize ji G a.ay (.lst yr)=G2 at m2 ap⊢;obtain⟨bh,rfl,bL⟩:=Zb ap;have rd:∀{G3:Hp},aV P w t H0 G3 a {st with rdy:=r} C->cZ H0 G3 cU cP cR t R a.xr a.ad a.as a.al a.k0 st.c:=λ{G3} m=>iE ⟨RF,m.s0,m.run⟩;refine⟨a.x,cW,dx,_,_,J,m2.s0 _ _ hx,B.cls,B.n,V5,a.xr,ay,_,J,m2.s0 _ _ aw,J,H0,a.xr,a.ad,a.as,a.al,a.k0,t,R,st.c,i,.ref bh,J,rd m2,hi,W0,ap,λvd x=>⟨a.x,cW,dx,_,_,J,m2.s0 _ _ hx,B.cls,B.n,V5,a.xr,cU,ay,_,_,J,m2.s0 _ _ aw,CU.cls,CU.n,Zy,a.ad,_,J,Wd hi▸DGet.t m2.run.d bL,cG,λp3 G3 s3 b7 bE=>?_⟩⟩;have m3:=m2.same s3;have ak:=ap.mono s3;refine⟨a.x,cW,dx,_,_,J,m3.s0 _ _ hx,B.cls,B.n,IK,a.ah,p3,p,([i],(st.c i:Int)),J,J,GH.same m3.s0,⟨p3,_,J,bE,ft ak J⟩,_,J,?_⟩;by_cases M:eI p i (st.c i)=true;have et:fS (aB t) (eI p) {st with rdy:=r} i={st with rdy:=r,stp:=st.stp++[i]}:=by unfold fS;rw[kP M]
 rw[show(yv p ([i],(st.c i:Int))).isSome=true from M];obtain⟨zs,L,S⟩:=id m3.stp;have bg:zs.length=st.stp.length:=by have:=S.length;rw[ag]at this;exact this
 refine xx ⟨a.x,cW,dx,_,_,J,m3.s0 _ _ hx,B.cls,B.n,Jw,.inl ⟨J,_,aK.of L⟩,a.ap,zs,_,J,J,L,yx (by omega),_,_,C,J,?_⟩;rw[et];exact m3.setS bw (bo▸IsL.append S (IsL.one ak));rw[show(yv p ([i],(st.c i:Int))).isSome=false from(Bool.eq_false_iff.mpr M)];refine yn ⟨a.x,cW,dx,_,_,J,m3.s0 _ _ hx,B.cls,B.n,V5,a.xr,ay,_,J,m3.s0 _ _ aw,J,H0,a.xr,a.ad,a.as,a.al,a.k0,t,R,st.c,i,.ref bh,J,rd m3,hi,W0,ak,λG4 s4=>⟨_,J,?_⟩⟩;have m4:=m3.same s4;have a4:=ak.mono s4;cases hd:((aB t).S i)[st.c i]? with
 | none=>
   rw[hd]at x;have e2:qe (aB t) st.c i=false:=by unfold qe;rw[hd]
   rw[e2,(x)];refine yn ⟨_,J,yn ⟨_,_,C,J,?_⟩⟩;have et:fS (aB t) (eI p) {st with rdy:=r} i={st with rdy:=r}:=by unfold fS;rw[kr M];simp only[hd]
   rw[et];exact m4
 | some d=>
   rw[hd]at x;have x:Is G2 (eD d) vd:=x;by_cases c2:qe (aB t) st.c i=true;rw[c2];have et:fS (aB t) (eI p) {st with rdy:=r} i=pV (aB t) {st with rdy:=r} i d:=by unfold fS;rw[kr M];simp only[hd,c2,if_true]
   refine xx ⟨a.x,dx,_,J,m4.s0 _ _ hx,J,H0,a,t,R,{st with rdy:=r},C,i,d,.ref bh,p,J,F,m4,W0,hi,a4,hd,(by show r.length+Z8 st.wai<=1000;omega),(by show st.wov.length<=4000;omega),λW5 G5 Z=>⟨_,_,W5,J,?_⟩⟩;rw[et];exact Z;have c3:=Bool.eq_false_iff.mpr c2;rw[c3];refine yn ?_;obtain⟨g,hg⟩:∃g,jq ((aB t).S i) (st.c i) d=some g:=by
    cases q:jq ((aB t).S i) (st.c i) d with
    |none=>unfold qe at c2;simp[hd,q]at c2
    |some g=>exact⟨g,J⟩
   have et:fS (aB t) (eI p) {st with rdy:=r} i={st with rdy:=r,wai:=Z9 st.wai g.1 i}:=by unfold fS;rw[kr M];simp only[hd,c3,pq,if_false,hg]
   have ax:=qY W0 hi hd;obtain⟨t2,a6⟩:∃t2,eD d=.tup (.str (dC g.1).1::.int (dC g.1).2::t2):=by
    cases d with
    | awa b mm=>cases hg;exact⟨[.int mm],by rw[vX ax.1 ax.2 W0.b9];rfl⟩
    | goo b=>cases hg;cases(ax.1);exact⟨[],J⟩
    |_=>cases hg
   have bG:(!decide (vd=.non))=true:=by rw[a6]at x;obtain⟨c,zs,rfl,_⟩:=x;rfl
   refine⟨_,J,?_⟩;rw[bG];refine xx ?_;have bd:C.length<=60:=by
    have q:=U.len;have q2:C.length=st.wai.length:=by rw[<-m4.wl,ag]
    omega
   refine⟨a.x,cW,dx,_,_,J,m4.s0 _ _ hx,B.cls,B.n,Jv,a.aw,_,J,m4.wai,2,J,_,a6▸((x.mono s3).mono s4),λv5 G5 s5 i5=>⟨c9 _,λe G6 s6 n aq=>?_⟩⟩;rw[uz]at i5;obtain⟨g5,x5,rfl,ce,b8⟩:=id i5;have m6:=(m4.same s5).same s6;have a3:=(a4.mono s5).mono s6;refine⟨g5,qz C,dC g.1,J,m6.wai,i5.mono s6,by unfold qz;rw[ag];exact yx (by omega),λv7 bB=>?_,λa7 o hg=>?_⟩;obtain⟨q,hq,bC,rfl⟩:=sP.1 _ bB;obtain⟨zs,L,S⟩:=(m6.lst q hq).1;have bg:zs.length<=60:=by
    have e1:=S.length;rw[ag]at e1;have e2:q.1.2.length<=Z8 st.wai:=by have a8:=m6.wl▸QX hq;rw[<-wY (by rw[<-m6.wl,ck];exact m6.kd) a8];exact CJ
    omega
   refine⟨.inl ⟨J,_,aK.of L⟩,q.2,zs,_,J,J,L,yx (by omega),_,_,C.map λz=>if z.1.1=q.1.1 then((z.1.1,z.1.2++[i]),z.2)else z,J,?_⟩;rw[et,<-bC];exact m6.addW hq L S a3;rw[Xg _ a7]at hg;have bN:qz C++[(dC g.1,V.ref e)]=qz (C++[((g.1,[]),e)]):=by unfold qz;rw[bo];rfl
   rw[bN]at hg;have Z:=m4.same s5;have ah:∀{c:lv}{l:List Nat},bM G5 c l->e≠c:=λ{c l} ⟨vs,y,_⟩ z=>by rw[z,y]at n;cases n
   have bK:e ∉ a.as::a.al::a.ay::a.ao::a.ap::C.map (·.2):=λhm=>by rcases bc.mp hm with z|z;rw[z,Z.run.s]at n;cases n;rcases bc.mp z with z|z;rw[z,Z.run.l]at n;cases n;rcases bc.mp z with z|z;exact ah Z.rdy z;rcases bc.mp z with z|z;exact ah Z.wov z;rcases bc.mp z with z|z;exact ah Z.stp z;obtain⟨q,hq,y⟩:=bz.mp z;exact ah (Z.lst q hq).1 y.symm
   obtain⟨φ,ew⟩:=m6.wai.some;have bb:ji G6 a.aw o e=some (.lst []):=(ja (λz=>by rw[z,ew]at aq;cases aq)).trans aq;refine⟨.inl ⟨J,_,aK.of bb⟩,e,[],_,J,J,bb,(by decide),_,_,C++[((g.1,[i]),e)],J,?_⟩;rw[et];exact m6.newW aq (ym Z.s0 n) bn bK (λz=>by obtain⟨u,y⟩:=Z.kn.2;rw[z,n]at y;cases y) (sP.2 a7) hg a3
end
theorem BL:∀(s:yh)(o:Option Str)(p:Nat)(x:Int),fI o s=true->s[p]?=some (.com x)->pY o "come"=true/\Qr s p=false
 |[],_,_,_,_,h=>by cases h
 | d::r,o,0,x,g,h=>by cases h;have q:(lQ o (.com x) && fI (kD o (.com x)) r)=true:=g;rw[bu]at q;exact⟨q.1,J⟩
 | d::r,o,p+1,x,g,h=>by
   have q:(lQ o d && fI (kD o d) r)=true:=g;rw[bu]at q;obtain⟨a,c⟩:=BL r (kD o d) p x q.2 (by simpa using h);have b:j0 d=false:=by cases d<;>first|rfl|(exact kS (show pY none "come"=true from a) (by decide))
   have e:kD o d=o:=by cases d<;>first|rfl|cases b
   rw[e]at a;refine⟨a,?_⟩;unfold Qr at c⊢;rw[List.take_succ_cons,PH,b,c];rfl
theorem iO.hw{b:aC}(F:iO b):cA b where
 w01:=F.w01
 n1:=by have:=F.f8;omega
 call:=λc a=>(F.call c a).1
 mem:=λc a=>(F.call c a).2.elim .inl λ⟨m,e,_⟩=>.inr ⟨m,e⟩
 mw:=λh c a=>(F.call c a).2.elim id λ⟨m,e,f,_⟩=>kS (h.symm.trans f) (by decide)
 len:=F.len
 kd:=λs b d n=>by have:=F.pl s b d n;cases d<;>first|exact this.elim|exact⟨this.1,this.2.1⟩|exact this|trivial
 b0:=F.b0
 b9:=F.b99
 fit:=λi p x j h=>by
  have k:b.fs.getD i (0,[])=b.fs[i]:=by rw[fj,(cg j)];rfl
  have a:=QK j;have g:=F.fit _ a;rw[<-k]at g;obtain⟨f,o⟩:=BL _ _ p x g h;refine⟨?_,o⟩;show iH (b.fs.getD i (0,[])).2=true;rw[k]at f⊢;rcases(F.call _ a).2 with z|⟨m,z,_,l⟩;rw[z]at f;exact kS f (by decide);rw[z]at f⊢;rcases l with rfl|rfl|rfl;rfl;rfl;exact kS f (by decide)
abbrev Yz:Sj:=bI 42
abbrev Qb:Sj:=bI 48
abbrev We:Sj:=bI 55
inductive om(vs:List V)(H:Hp)(Q:VK)(e0:XK):Prop|mk:∀hs v,vs=[v]->Is H (eH hs) v->iO hs->(∀H',zh H H'->Q .non H')->om vs H Q e0
inductive jN(cP cR:lv)(vs:List V)(H:Hp)(Q:VK)(e0:XK):Prop|mk:∀hs v,vs=[v]->Is H (eH hs) v->iO hs->(∀x R H',zh H H'->H x=none->aQ H' cP cR hs R x->Q (.ref x) H')->jN cP cR vs H Q e0
def nA(h:HW)(hl:Nat->Nat->Bool)(Jx:List Nat->(Nat->Nat)->Prop)(B:List Nat)(c:Nat->Nat):Prop:=dB h B c/\Jx B c/\∀i,i<h.n->qe h c i=false\/hl i (c i)=true
inductive ml(P:R0)(w:SX)(cU cP cR:lv)(vs:List V)(H:Hp)(Q:VK)(e0:XK):Prop|mk:∀(G:Hp)(xr ad as al k0 ah:lv)(hs:aC)(R:Nat->lv)(hr:List ((List Int×Int)×V))(Jx:List Nat->(Nat->Nat)->Prop),vs=[.ref xr,.ref ah]->dA P w G H cU cP cR hs R xr ad as al k0 z0->aM fC P w G ah hr->cA hs->mD (aB hs) (eI hr) Jx->Jx [] (λ_=>0)->(∀c ws ao H',zh G H'->cD P w H' hs ad as al k0 c->bM H' ao ws->nA (aB hs) (eI hr) Jx ws c->Q (.ref ao) H')->ml P w cU cP cR vs H Q e0
def pC(B:aC)(c:Nat->Nat)(i:Nat):Bool:=decide (c i=((aB B).S i).length)
def qQ(B:aC)(c:Nat->Nat):Bool:=(Ri B.fs.length).all (pC B c)
inductive oH(P:R0)(w:SX)(cU cP cR:lv)(vs:List V)(H:Hp)(Q:VK)(e0:XK):Prop|mk:∀(H0:Hp)(x ad as al k0:lv)(hs:aC)(R:Nat->lv)(c:Nat->Nat),vs=[.ref x]->dA P w H0 H cU cP cR hs R x ad as al k0 c->cA hs->(∀H',zh H H'->Q (.bl (qQ hs c)) H')->oH P w cU cP cR vs H Q e0
section
variable{K:O4}
theorem Oc:aA ["thing"] ["thing"] (ze Yz):=.of
theorem Oa(D:bP K mg "need_house" Yz)(c:Ok P w K mg base "is_house" 22 ["thing"] (spT nr)):Ok P w K mg base "need_house" 23 ["thing"] om:=by refine qf D Oc ?_;rintro f k A a s H m Q E i ⟨h,v,rfl,g,j,d⟩ X;exact⟨_,zg (yt (vz (wq (yb c i (za (pv 0) zb)))) (zg Vk) zu),⟨⟨h,v,J,g,j⟩,λl b=>⟨_,J,yn (d l b)⟩⟩⟩
theorem Nd:aA ["house"] ["house"] (ze Qb):=.of
theorem MU(D:bP K mg "plan_of" Qb)(r:Ok P w K mg base "need_house" 23 ["thing"] om)(q:iI P w K mg base "Plan" cP 24 ["self","house"] (oh cP cR)):Ok P w K mg base "plan_of" 26 ["house"] (jN cP cR):=by
 refine qf D Nd ?_;rintro f z A d s H F Q E m ⟨l,v,rfl,k,n,t⟩ X;refine⟨_,zc (y0 (yb r (m.mono (by decide)) (za (pv 0) zb))) (zg (zm (pR q m (za (pv 0) zb)))),⟨l,v,J,k,n,λp a=>((λx i c g u=>?_))⟩⟩;have j:zh p (ji (ji p i (.own x)) x (.ins cP i [])):=λb o e=>by rw[ja (zi e c),ja (zi e g)];exact e
 refine⟨x,i,v,l,J,zd,(k.mono a).mono j,n.hw,λR C B PA=>⟨J,t x R C (λb o e=>(B b o (λy=>?_) (j _ _ (a _ _ e)))) (ym a c) PA⟩⟩;rw[ai.mp y]at e;rw[a _ _ e]at c;cases c
theorem Qw:aA ["run","held","weaver"] ["run","held"] (ze We):=.of
theorem NJ(D:bP K mg "woven_on" We)(B:aI K cW bA)(oI:iI P w K mg base "Weaver" cW 1 ["self","run","held"] (mq P w cW cU cP cR))(oW:bD P w K mg base cW "weave" 5 ["self"] (gY P w cW cU cP cR)):Ok P w K mg base "woven_on" 6 ["run","held"] (ml P w cU cP cR):=by
 refine qf D Qw ?_;rintro f aq A p s H vs Q E j ⟨G,C,ad,as,W,N,Z,q,R,c,Jx,rfl,n,GH,W0,hJ,v,k⟩ X;refine⟨_,zc (zn (i:=2) Qw.nd (pR oI (j.mono (by decide)) (za (pv 0) (za (pv 1) zb)))) (zc (y0 (X1 oW B.cls j (pv 2))) (zg (zm (zo (pv 2) J)))),((λx y S u ak=>?_))⟩
 have L:zh H (ji (ji H y (.own x)) x (.ins cW y [])):=λb o e=>by rw[ja (zi e S),ja (zi e u)];exact e
 refine⟨G,x,y,C,ad,as,W,N,Z,q,R,z0,c,J,zd,n.s.trans L,ym n.s S,n.f,n.m.same L,GH,W0,λU ay aw ap G0 H2 sG F m=>⟨J,?_⟩⟩;obtain⟨RF,⟨d,a⟩,_,aj,_⟩:=id F;exact⟨x,d,_,J,m.s0 _ _ a,J,G0,⟨x,C,ad,as,W,N,Z,U,ay,aw,ap⟩,q,R,newW q z0,[],c,λ_=>False,Jx,J,F,m,W0,Wi.first v,hJ,λr j=>(nomatch j),λM W' H3 g l t _=>⟨x,cW,d,_,_,J,g.s0 _ _ a,B.cls,B.n,Wz,(k M.c M.wov U H3 (sG.trans g.s0) g.run g.wov ⟨l.lg,l.jj,λi hi=>(l.fin t hi).imp id λz=>z.elim (l.st i) O2⟩)⟩⟩
theorem Dc:aA ["self","roles"] ["self"] (ze Vg):=.of
theorem LI(D:qk K cU "has_done_all" "Run.has_done_all" Vg)(T:Txt K mg)(CU:aI K cU bO)(CP:aI K cP bF)(CR:aI K cR aT):bD P w K mg base cU "has_done_all" 1 ["self"] (oH P w cU cP cR):=by
 refine kh D Dc ?_;rintro f az A ak s H vs Q E hr ⟨H0,x,ad,as,al,k0,m,L,c,rfl,R,W,k⟩ X;refine⟨_,zc (zn (i:=1) Dc.nd (zo (zo (pv 0) J) J)) (zg (zm (AK (ya (Zn J) J T.all Xs (za (q8 (own:=["hand","role"]) (cap:=[0]) (g:=iG K 2 (cJ (Zx 0) (cJ (Zx 1) qM))) J (xj (ze Vg) J J (by decide+kernel) (by decide+kernel) (by decide+kernel) ⟨⟨_,J,.inl J,jy J⟩,trivial⟩) (Kr (pv 1)) (λ_ _ _ _=>ky J (yu (zp (by show(["hand","role","self"]:O Str).Nodup;decide+kernel) J (RW J)) (yu (zp (by show(["hand","role","self"]:O Str).Nodup;decide+kernel) J (RW J)) qx)))
   (λ_ _ _ _=>wv) (λ_ _ _ _=>jx vt (ta:=AZ (me K (Yn 2) "done") (Yn 0)) (tb:=rA (λxs H Q=>∃p r,xs=[.ref p]/\(aK K H p r\/aG K H p r)/\Q (.int r.length) H) (Vb (me K (Yn 1) "script") lE)) (Kx (ki hr) (zo (pv 2) J) (pv 0) ⟨J,J,J,J⟩) (ya yc (by rfl) T.len wu (za (zo (pv 1) J) zb)) (ye _))) zb))))),?_⟩
 obtain⟨xp,dx,am,PA,hx,_,F,ay,_⟩:=id R.f;obtain⟨dp,vh,q,hp,ih,n,ap⟩:=id PA;refine⟨x,cU,dx,_,_,J,R.s _ _ hx,CU.cls,CU.n,W9,xp,cP,dp,_,_,J,R.s _ _ hp,CP.cls,CP.n,qd,?_⟩;have d:=R.s _ _ n;refine⟨q,_,d,trivial,λo=>?_⟩;generalize M:yo kN m.fs.length (λi=>V.ref (L i))=g at n d⊢;have a:ji H q (.frz o (.dT g)) q=some (.frz o (.dT g)):=zd;have y:∀{b:Y}{u:HO},b≠q->H b=some u->ji H q (.frz o (.dT g)) b=some u:=λ{b u} z e=>(ja z▸e)
 have back:∀{G:Hp},zh (ji H q (.frz o (.dT g))) G->zh H (ji G q (.dT g)):=λ{G} s b u e=>by by_cases z:b=q;rw[z]at e⊢;rw[zd,<-e,d];rw[ja z];exact s _ _ (y z e)
 generalize ji H q (.frz o (.dT g))=Hf at a y back⊢;have t:=y (λz=>by rw[z,n]at F;cases F) R.m.d;have S:=M▸kx;have hn:=W.n1;let aj:Nat->O V->Hp->Prop:=λi r B=>zh Hf B/\r=(Ri i).map λj=>V.bl (pC m c j);refine⟨q,o,_,J,a,(Cd aj ⟨zh.refl _,J⟩ (λi r B hi ⟨v,e⟩=>⟨v _ _ a,?_⟩) ?_ ?_)⟩;rw[e,ag,d9];exact Rw (yx (by omega));rintro i kv r B U ⟨v,rfl⟩ p b aq hb;rw[<-M]at U;obtain⟨hi,rfl⟩:=vJ U;obtain⟨ax,vc,vs,ab,an,ac,r1,r2,_⟩:=ap i hi;have sp:=zh.new aq (.tup [.ref b,.ref (L i)]);have N:ji B p (.tup [.ref b,.ref (L i)]) p=some (.tup [.ref b,.ref (L i)]):=zd;have Z:=sp _ _ hb;generalize ji B p (.tup [.ref b,.ref (L i)])=H3 at sp N Z⊢;have C:=v.trans sp;obtain⟨aS,xS,rfl,aw,av⟩:=((r2.mono R.s).tups (λc zs e=>y (λz=>by rw[z,d]at e;cases e) e) (Qs _)).mono C;have ah:=av.length;rw[ag]at ah;refine⟨p,_,J,aG.of N,J,_,_,J,_,_,J,J,(DN ⟨x,cU,dx,_,_,J,C _ _ (y (λz=>by rw[z,n]at hx;cases hx) (R.s _ _ hx)),CU.cls,CU.n,Zy,ad,J,.inr ⟨_,.inl (C _ _ t)⟩,_,DGet.tr (.inl (C _ _ t)) Z,L i,cR,ax,_,_,J,sp _ _ (v _ _ (y (λz=>by rw[z,n]at r1;cases r1) (R.s _ _ r1))),CR.cls,CR.n,ql,aS,xS,J,.inr (aG.of aw),?_⟩)⟩;rw[ah,show yv (qh m c) (kN i)=some (.int (c i))from Wd hi];refine⟨J,C,?_⟩;have e2:decide (V.int (c i)=V.int ((aB m).S i).length)=pC m c i:=by unfold pC;rw[pb];simp;omega
 show _++[V.bl (decide (V.int (c i)=V.int ((aB m).S i).length))]=_;rw[e2,Rj,bo];rfl;rintro r B ⟨v,rfl⟩ l hl;rw[S];have sl:=zh.new hl (.lst ((Ri m.fs.length).map λj=>V.bl (pC m c j)));refine⟨l,(Ri m.fs.length).map (pC m c),J,aK.of (by rw[zd,ck];rfl),sl _ _ (v _ _ a),?_⟩;have e:((Ri m.fs.length).map (pC m c)).all id=qQ m c:=by rw[List.all_map];rfl
 rw[e];exact k _ (back (v.trans sl))
end
end My
namespace My
noncomputable def lO:List Int->Int|[]=>0|a::r=>max a (lO r)
theorem sZ:∀{l:List Int},0<=lO l|[]=>fm _|a::r=>Pn (sZ) (Int.le_max_right _ _)
theorem At{a:Int}:∀{l:List Int},a∈l->a<=lO l|b::r,h=>(bc.mp h).elim (λz=>(z▸Int.le_max_left _ _)) λz=>Pn (At z) (Int.le_max_right _ _)
theorem As:∀{l:List Int},lO l=0\/lO l∈l|[]=>.inl J| a::r=>by show max a (lO r)=0\/max a (lO r)∈a::r;by_cases c:a<=lO r;rw[Int.max_eq_right c];exact(As).imp id (bp _);rw[Int.max_eq_left (by omega)];exact .inr bv
abbrev Dd:=Nat×Nat
noncomputable def Dy:aF->Int|.wor w=>w|_=>0
variable{v x:Dd}{ws:List Nat}{i:Nat}
section
variable(h:HW)(en:Nat->Nat->List Dd)
noncomputable def pre(i k:Nat):List Dd:=(if k=0 then[]else[(i,k-1)])++en i k
def wk(i k:Nat):Int:=((h.S i)[k]?.map Dy).getD 0
def Vd(x:Dd):Prop:=x.1<h.n/\x.2<(h.S x.1).length
structure AS(rk:Nat->Nat->Nat):Prop where
 ok:∀ws c i,dB h ws c->i<h.n->c i<(h.S i).length->(qe h c i=true↔∀x∈en i (c i),x.2<c x.1)
 lo:∀i k x,i<h.n->k<(h.S i).length->x∈en i k->Vd h x/\rk x.1 x.2<rk i k
 up:∀i k,i<h.n->k+1<(h.S i).length->rk i k<rk i (k+1)
 wn:∀i k w,i<h.n->(h.S i)[k]?=some (.wor w)->en i k=[]/\0<=w
def dM(e:Nat->Nat->Int)(i k:Nat):Int:=lO ((pre en i k).map λx=>e x.1 x.2)
def eF:Nat->Nat->Nat->Int|0,_,_=>0|f+1,i,k=>dM en (eF f) i k+wk h i k
structure cX(a k0:Nat)(f:Nat->Nat):Prop where
 c0:Vd h (a,k0)
 c1:f a=k0
 c2:∀i k x,i<h.n->k<f i->x∈en i k->x.2<f x.1
 c3:∀i,i<h.n->i≠a->f i<(h.S i).length->∃x∈en i (f i),f x.1<=x.2
 c4:∀i,i<h.n->f i<=(h.S i).length
end
section
variable{h:HW}{en:Nat->Nat->List Dd}{rk:Nat->Nat->Nat}
theorem AS.pr(A:AS h en rk){k:Nat}(v:Vd h (i,k))(d:x∈pre en i k):Vd h x/\rk x.1 x.2<rk i k:=by
 rcases cp.mp d with z|z;by_cases c:k=0;rw[kP c]at z;nomatch z
 rw[kr c]at z;obtain rfl:=ai.mp z;obtain⟨m,rfl⟩:∃m,k=m+1:=⟨k-1,by omega⟩
 obtain⟨b,a⟩:=v;exact⟨⟨b,RC a⟩,A.up i m b a⟩;exact A.lo i k x v.1 v.2 z
theorem AS.all(A:AS h en rk){D:Dd->Prop}{j:List Nat}{c:Nat->Nat}(g:∀i k x,Vd h (i,k)->D (i,k)->x∈pre en i k->D x)(L:dB h j c)(n:∀i,i<h.n->c i<(h.S i).length->D (i,c i)->qe h c i=false):∀m i k,rk i k<m->Vd h (i,k)->D (i,k)->k<c i|0,_,_,r,_,_=>kS r (gw _)| m+1,i,k,r,v,d=>by have l:=AS.all A g L n m;refine OL λz=>?_;by_cases q:c i=k;subst q;refine cy ((n i v.1 v.2 d).symm.trans ((A.ok j c i L v.1 v.2).mpr λx o=>?_));have a:x∈pre en i (c i):=di _ o;obtain⟨b,f⟩:=A.pr v a;exact l x.1 x.2 (by omega) b (g _ _ _ v d a);have a:(i,k-1)∈pre en i k:=ee _ (by rw[kr (by omega)];exact ai.mpr J);obtain⟨b,f⟩:=A.pr v a;have f:rk i (k-1)<rk i k:=f;have:=l i (k-1) (by omega) b (g _ _ _ v d a);omega
theorem AS.fin(A:AS h en rk){c:Nat->Nat}(L:dB h ws c)(b:∀i,i<h.n->qe h c i=false)(a:i<h.n):c i=(h.S i).length:=by have d:=(L.low i).1;by_cases z:c i<(h.S i).length;have:=A.all (λ_ _ _ _ _ _=>trivial) L (λi a _ _=>b i a) _ i (c i) (dz _) ⟨a,z⟩ trivial;omega;omega
noncomputable def Ys(a B i k:Nat):Bool:=decide (i=a/\k=B)
variable{a k0:Nat}{f:Nat->Nat}
theorem cX.pr(C:cX h en a k0 f){k:Nat}(d:i<h.n)(hk:k<f i)(b:x∈pre en i k):x.2<f x.1:=by
 rcases cp.mp b with z|z;by_cases c:k=0;rw[kP c]at z;nomatch z
 rw[kr c]at z;obtain rfl:=ai.mp z;show k-1<f i;omega;exact C.c2 i k x d hk z
theorem cX.jok(C:cX h en a k0 f)(A:AS h en rk):mD h (Ys a k0) λ_ c=>∀j,j<h.n->c j<=f j:=by intro o c i d L k p e m q j b;unfold aR;by_cases z:j=i;subst z;rw[kP J];have n:=(d7.mp e).1;refine Nat.succ_le_of_lt (Nat.lt_of_le_of_ne (k j b) λy=>?_);by_cases l:j=a;subst l;unfold Ys at q;rw[cf ⟨J,y.trans C.c1⟩]at q;cases q;obtain⟨x,g,hf⟩:=C.c3 j b l (by omega);rw[<-y]at g;have:=(A.ok o c j L b n).mp m x g;have:=k x.1 ((A.lo j (c j) x b n g).1.1);omega;rw[kr z];exact k j b
theorem cX.fin(C:cX h en a k0 f)(A:AS h en rk){c:Nat->Nat}(L:dB h ws c)(n:∀j,j<h.n->c j<=f j)(o:∀i,i<h.n->qe h c i=false\/Ys a k0 i (c i)=true)(b:i<h.n):c i=f i:=by
 refine Nat.le_antisymm (n i b) (Rx λz=>?_);have:=A.all (λi k x v d g=>C.pr v.1 d g) L (λj l r m=>(o j l).resolve_right λq=>by obtain⟨rfl,p⟩:=cz q;rw[C.c1]at m;omega) _ i (c i) (dz _) ⟨b,dc z (C.c4 i b)⟩ z
 omega
theorem cX.back(C:cX h en a k0 f)(g:Vd h v)(n:v≠(a,k0))(r:f v.1<=v.2):∃x∈pre en v.1 v.2,f x.1<=x.2:=by obtain⟨i,k⟩:=v;have r:f i<=k:=r;obtain⟨d,b⟩:=g;have b:k<(h.S i).length:=b;by_cases q:f i=k;obtain⟨x,c,y⟩:=C.c3 i d (λz=>n (by rw[<-q,z,C.c1])) (by omega);rw[q]at c;exact⟨x,di _ c,y⟩;refine⟨(i,k-1),ee _ ?_,by show f i<=k-1;omega⟩;rw[kr (by omega)];exact ai.mpr J
theorem cX.self(C:cX h en a k0 f)(A:AS h en rk)(c:Vd h v)(b:(a,k0)∈pre en v.1 v.2):f v.1<=v.2:=Rx λz=>by have q:=C.pr c.1 z b;rw[C.c1]at q;omega
theorem cX.fwd(C:cX h en a k0 f)(c:Vd h v)(b:x∈pre en v.1 v.2)(r:f x.1<=x.2):f v.1<=v.2:=Rx λz=>by have:=C.pr c.1 z b;omega
theorem cX.rkl(C:cX h en a k0 f)(A:AS h en rk):∀m (v:Dd),rk v.1 v.2<m->Vd h v->v≠(a,k0)->f v.1<=v.2->rk a k0<rk v.1 v.2|0,_,r,_,_,_=>kS r (gw _)| m+1,v,r,c,n,q=>by obtain⟨x,g,y⟩:=C.back c n q;obtain⟨d,b⟩:=A.pr c g;by_cases z:x=(a,k0);rw[z]at b;exact b;have:=cX.rkl C A m x (by omega) d z y;omega
structure Mo(h:HW)(en:Nat->Nat->List Dd)(e:Nat->Nat->Int):Prop where
 eq:∀i k,Vd h (i,k)->e i k=dM en e i k+wk h i k
theorem AS.wkn(A:AS h en rk){k:Nat}(a:i<h.n):0<=wk h i k:=by unfold wk;cases q:(h.S i)[k]? with|none=>exact fm _| some d=>cases d with|wor w=>exact(A.wn i k w a q).2|_=>exact fm _
theorem AS.eF(A:AS h en rk):∀m i k g g',rk i k<m->rk i k<g->rk i k<g'->Vd h (i,k)->eF h en g i k=eF h en g' i k
 |0,_,_,_,_,r,_,_,_=>kS r (gw _)
 | m+1,i,k,g,g',r,f,d,v=>by
   obtain⟨g,rfl⟩:∃q,g=q+1:=⟨g-1,by omega⟩
   obtain⟨g',rfl⟩:∃q,g'=q+1:=⟨g'-1,by omega⟩
   show dM en (My.eF h en g) i k+_=dM en (My.eF h en g') i k+_;congr 1;unfold dM;congr 1;refine QT λx b=>?_;obtain⟨a,c⟩:=A.pr v b;exact AS.eF A m x.1 x.2 g g' (by omega) (by omega) (by omega) a
def eM(h:HW)(F:Nat->Nat->List Dd)(B:Nat->Nat->Nat)(i k:Nat):Int:=eF h F (B i k+1) i k
theorem AS.mo(A:AS h en rk):Mo h en (eM h en rk) where
 eq:=λi k v=>by show dM en (My.eF h en (rk i k)) i k+_=_;congr 1;unfold dM;congr 1;refine QT λx c=>?_;obtain⟨a,b⟩:=A.pr v c;exact A.eF _ x.1 x.2 _ _ (dz _) b (dz _) a
variable{e:Nat->Nat->Int}
theorem Mo.ge(M:Mo h en e)(A:AS h en rk){k:Nat}(v:Vd h (i,k)):dM en e i k<=e i k:=by have:=M.eq i k v;have q:0<=wk h i k:=A.wkn v.1;omega
theorem hO{k:Nat}(a:x∈pre en i k):e x.1 x.2<=dM en e i k:=At (QX a)
theorem Mo.nn(M:Mo h en e)(A:AS h en rk){k:Nat}(v:Vd h (i,k)):0<=e i k:=Pn sZ (M.ge A v)
theorem Mo.m1(M:Mo h en e)(C:cX h en a k0 f)(A:AS h en rk):∀m (v:Dd),rk v.1 v.2<m->Vd h v->v≠(a,k0)->f v.1<=v.2->e a k0<=dM en e v.1 v.2|0,_,r,_,_,_=>kS r (gw _)| m+1,v,r,d,n,q=>by obtain⟨x,c,y⟩:=C.back d n q;obtain⟨b,g⟩:=A.pr d c;have:=hO (e:=e) c;by_cases z:x=(a,k0);rw[z]at this;exact this;have:=Mo.m1 M C A m x (by omega) b z y;have:=M.ge A b;omega
theorem Mo.m2(M:Mo h en e)(A:AS h en rk){F:Dd->Nat->Nat}{a:Dd->Prop}(c:∀u,a u->cX h en u.1 u.2 (F u))(k:∀x,Vd h x->¬a x->wk h x.1 x.2=0):∀m (v:Dd),rk v.1 v.2<m->Vd h v->dM en e v.1 v.2=0\/∃u,a u/\u≠v/\F u v.1<=v.2/\e u.1 u.2=dM en e v.1 v.2|0,_,r,_=>kS r (gw _)| m+1,v,r,f=>by rcases As with z|z;exact .inl z;obtain⟨x,d,g⟩:=bz.mp z;have g:e x.1 x.2=dM en e v.1 v.2:=g;obtain⟨b,n⟩:=A.pr f d;by_cases i:a x;exact .inr ⟨x,i,λy=>by rw[y]at n;omega,(c x i).self A f d,g⟩;have p:=M.eq x.1 x.2 b;rw[k x b i]at p;rcases Mo.m2 M A c k m x (by omega) b with y|⟨u,j,o,l,q⟩;exact .inl (by omega);have:=(c u j).rkl A _ x (dz _) b (ae o) l;exact .inr ⟨u,j,λy=>by rw[y]at this;omega,(c u j).fwd f d l,by omega⟩
end
theorem Bn{h h':HW}{n fD:Nat->Nat->List Dd}{L w:Nat->Nat->Nat}{e s:Nat->Nat->Int}(A:AS h n L)(D:AS h' fD w)(M:Mo h n e)(t:Mo h' fD s){C:Dd->Dd->Prop}{F P:Dd->Nat->Nat}(i:∀u u',C u u'->cX h n u.1 u.2 (F u)) (q:∀u u',C u u'->cX h' fD u'.1 u'.2 (P u')) (H:∀x,Vd h x->(¬∃y,C x y)->wk h x.1 x.2=0) (G:∀x,Vd h' x->(¬∃y,C y x)->wk h' x.1 x.2=0)
  (E:∀u u',C u u'->wk h u.1 u.2=wk h' u'.1 u'.2) (f:∀u u' v a,C u u'->C v a->(u=v↔u'=a)) (B:∀u u' v a,C u u'->C v a->(F u v.1<=v.2↔P u' a.1<=a.2)):
  ∀m u u',L u.1 u.2<m->C u u'->e u.1 u.2=s u'.1 u'.2
 |0,_,_,r,_=>kS r (gw _)
 | m+1,v,a,r,g=>by
   have N:=Bn A D M t i q H G E f B m;have j:=(i v a g).c0;have d:=(q v a g).c0;have e1:=M.eq _ _ j;have e2:=t.eq _ _ d;have Z:=E v a g;have R:dM n e v.1 v.2<=dM fD s a.1 a.2:=by rcases M.m2 A (λu ⟨u',c⟩=>i u u' c) H _ v (dz _) j with z|⟨u,⟨u',b⟩,o,p,X⟩;rw[z];exact sZ;have W:=(i u u' b).rkl A _ v (dz _) j (ae o) p;have U:=N u u' (by omega) b;have S:=t.m1 (q u u' b) D _ a (dz _) d (λz=>o ((f u u' v a b g).mpr z.symm)) ((B u u' v a b g).mp p);omega
   have Q:dM fD s a.1 a.2<=dM n e v.1 v.2:=by rcases t.m2 D (λu' ⟨u,c⟩=>q u u' c) G _ a (dz _) d with z|⟨u',⟨u,b⟩,o,p,X⟩;rw[z];exact sZ;have k:=λz=>o ((f u u' v a b g).mp z);have l:=(B u u' v a b g).mpr p;have W:=(i u u' b).rkl A _ v (dz _) j (ae k) l;have U:=N u u' (by omega) b;have S:=M.m1 (i u u' b) A _ v (dz _) j (ae k) l;omega
   omega
end My
namespace My
open PySem PySem.Spec PyProof.Rows L2
variable{ao cP cR cU xr:lv}{base:O7}{cap:List Nat}{P:R0}{mg:Str->Option Sr}{w:SX}
abbrev Xw:Sj:=bI 44
abbrev jv:Sj:=bI 49
abbrev Qf:Sj:=(xv Wa).getD 7 dE
def cV(q:Nat×Nat):T:=.tup [hN q.1,.int (q.2:Int)]
theorem Yk(q:Nat×Nat):bS (cV q):=⟨qu _,trivial,trivial⟩
inductive oj(vs:List V)(H:Hp)(Q:VK)(e0:XK):Prop|mk:∀v (g:List Int),vs=[v]->Is H (tI g) v->g.length<=1000->(∀H',zh H H'->Q (.bl true) H')->oj vs H Q e0
inductive oG(cU:lv)(vs:List V)(H:Hp)(Q:VK)(e0:XK):Prop|mk:∀(x dx ad:lv)(fs:List (Str×V))(hs:aC)(c:Nat->Nat)(i p:Nat)(vn:V),vs=[.ref x,vn]->H x=some (.ins cU dx fs)->fs.lookup ("done":Str)=some (.ref ad)->H ad=some (.dT (qh hs c))->i<hs.fs.length->Is H (cV (i,p)) vn->Q (.bl (decide (p<c i))) H->oG cU vs H Q e0
inductive jO(cP cR:lv)(vs:List V)(H:Hp)(Q:VK)(e0:XK):Prop|mk:∀(xp l:lv)(hs:aC)(R:Nat->lv)(qs:List (Nat×Nat))(us:List V),vs=[.ref xp,.ref l]->aQ H cP cR hs R xp->H l=some (.lst us)->IsL H (qs.map cV) us->qs.length<=1000->(∀q∈qs,q.1<hs.fs.length/\q.2<((aB hs).S q.1).length)->(∀H',zh H H'->Q .non H')->jO cP cR vs H Q e0
section
variable{K:O4}
theorem Ce{n:Y}{xs:O V}{te:TE}{k:Nat}{m:L2.St}{H:Hp}{Q:VK}(j:H n=some (.lst xs))(u:xs.length<=1000)(s:∀(i:Nat)(x:V)(c:Hp)(R:VK),xs[i]?=some x->zh H c->(∀l,zh c l->R (.bl true) l)->te ((bQ k cap m).set 0 (some x)) c R)(q:∀c,zh H c->Q (.bl true) c):bV (qJ K n) (Zx 0) pI te k cap m H (λv H1=>∃(a:Y)(bs:O Bool),[v]=[V.ref a]/\aK K H1 a (bs.map V.bl)/\Q (.bl (bs.all id)) H1):=by
 refine wC (λi f d=>zh H d/\f=Rk i (V.bl true)) ⟨zh.refl H,J⟩ (λi f d w ⟨b,t⟩=>⟨aK.of (b _ _ j),by rw[t,ie];exact Yv (by omega)⟩) ?_ ?_;rintro i x f d r ⟨b,rfl⟩;exact iZ (s i x d _ r b λl o=>⟨b.trans o,ld.symm⟩);rintro f d ⟨b,rfl⟩ p g;refine⟨p,Rk xs.length true,J,aK.of (by rw[zd,QV]),?_⟩;have e:(Rk xs.length true).all id=true:=by simp
 rw[e];exact q _ (b.trans (zh.new g _))
theorem ME:SM K (.type "tuple") (.type "tuple")=some true:=by kernel_rfl
theorem Nb:aA ["thing"] ["thing"] (ze Xw):=.of
theorem MR(D:bP K mg "is_name" Xw)(T:Txt K mg)(r:Ok P w K mg base "is_whole" 1 ["thing"] (mt (λ_=>True) K8)):Ok P w K mg base "is_name" 2 ["thing"] oj:=by
 refine qf D Nb ?_;rintro f C A c s H G Q E B ⟨v,g,rfl,l,M,u⟩ X;refine⟨_,zg (zm (jm (Xj T.isi T.tuple qi (pv 0)) (jl (ya (Zn J) J T.all Xs (za (q8 (own:=["part"]) (cap:=[]) J (xj (ze Xw) J J (by decide+kernel) (by decide+kernel) (by decide+kernel) trivial) (Zq (pv 0)) (λ_ _ _ _=>zp (i:=0) (by show(["part"]:O Str).Nodup;decide+kernel)) (λ_ _ _ _=>wv) (λ_ _ _ _=>yb r B (za (pv 0) zb))) zb))))),?_⟩
 have o:=Is.ty (K:=K) l;obtain⟨a,d,rfl,m,y⟩:=l;have b:=IsL.ints.mp y;have z:d.length=g.length:=by rw[b,ag]
 refine⟨_,"tuple",_,_,J,o,ME,_,J,xx ⟨a,J,⟨d,aG.of m⟩,Jp m (by omega) (λi x n N k L t=>?_) λn q=>u n q⟩⟩;rw[b,bq]at k;obtain⟨j,_,rfl⟩:=df.mp k;exact⟨.int j,.int j,J,J,trivial,λF p=>t F p⟩
theorem Na:aA ["self","name"] ["self","name"] (ze Qf):=.of
theorem MP(D:qk K cU "has_done" "Run.has_done" Qf)(q:aI K cU bO):bD P w K mg base cU "has_done" 1 ["self","name"] (oG cU):=by refine kh D Na ?_;rintro f C A d s H F Q E v ⟨x,B,ad,U,S,c,i,p,G,rfl,u,z,a,y,t,k⟩ X;refine⟨_,zg (zm (jx zR (Kw (ki v) (zo (pv 0) J) (zk zj (pv 1) zf) zf ⟨J,J,J,J⟩) (zk zj (pv 1) zf) (ye _))),?_⟩;obtain⟨o,r,rfl,b,m⟩:=t;obtain⟨M,N,rfl,j,L,R,rfl,g,l⟩:=m;cases(l);cases(g);obtain⟨W,rfl,n⟩:=Zb j;refine⟨x,cU,B,_,_,J,u,q.cls,q.n,z,ad,J,.inr ⟨_,.inl a⟩,o,_,_,_,J,J,aG.of b,J,_,Wd y▸DGet.t a n,⟨o,_,_,_,J,J,aG.of b,J,_,_,J,J,?_⟩⟩;simpa[wo.of]using k
theorem NT:aA ["plan","names"] ["plan","names"] (ze jv):=.of
theorem N2(D:bP K mg "need_deeds" jv)(T:Txt K mg)(B:aI K cP bF)(CR:aI K cR aT)(o1:Ok P w K mg base "is_name" 2 ["thing"] oj)(o2:Ok P w K mg base "is_within" 2 ["thing","least","most"] (spT pE)):Ok P w K mg base "need_deeds" 3 ["plan","names"] (jO cP cR):=by
 refine qf D NT ?_;rintro f ax A L s H vs Q E Z ⟨xp,l,hs,R,qs,F,rfl,PA,z,iq,aw,hq,kk⟩ X;have hu:=ki Z;refine⟨_,zc (yt (vz (wq (ya (Zn J) J T.all Xs (za (q8 (own:=["name"]) (cap:=[0]) J (xj (ze jv) J J (by decide+kernel) (by decide+kernel) (by decide+kernel) ⟨⟨_,J,.inl J,jy J⟩,trivial⟩) (jg (pv 1)) (λ_ _ _ _=>zp (i:=0) (by show(["name","plan"]:O Str).Nodup;decide+kernel)) (λ_ _ _ _=>wv)
   (λ_ _ _ _=>jm (yb o1 Z (za (zk (r:=cE K) zj (pv 0) zf (λ_ _=>rfl)) zb)) (jl (tD (AJ (td:=me K (Yn 1) "roles") hu (zk (r:=cE K) zj (pv 0) zf (λ_ _=>rfl)) (zo (pv 1) J)))))) zb)))) (zg Vk) zu)
  (zg (yt (vz (wq (ya (Zn J) J T.all Xs (za (q8 (own:=["name"]) (cap:=[0]) J (xj (ze jv) J J (by decide+kernel) (by decide+kernel) (by decide+kernel) ⟨⟨_,J,.inl J,jy J⟩,trivial⟩) (jg (pv 1)) (λ_ _ _ _=>zp (i:=0) (by show(["name","plan"]:O Str).Nodup;decide+kernel)) (λ_ _ _ _=>wv)
   (λ_ _ _ _=>yb o2 Z (za (zk (r:=cE K) zj (pv 0) zf (λ_ _=>rfl)) (za zf (za (yd (ta:=rA (λxs H Q=>∃p C,xs=[.ref p]/\(aK K H p C\/aG K H p C)/\Q (.int C.length) H) (Vb (me K (zH (me K (Yn 1) "roles") (nQ (cE K) (Yn 0) (tC (.int 0)))) "script") lE)) Xk (ya yc (by rfl) T.len wu (za (zo (qc hu (zo (pv 1) J) (zk (r:=cE K) zj (pv 0) zf (λ_ _=>rfl))) J) zb)) zf) zb))))) zb)))) (zg Vk) zu)),?_⟩
 have U:=iq.length;rw[ag]at U;have v:∀{o:Hp}{i:Nat}{x:V},F[i]?=some x->zh H o->∃q∈qs,∃a b,x=.ref a/\o a=some (.tup [.ref b,.int q.2])/\Is o (hN q.1) (.ref b):=λ{o i x} u d=>by obtain⟨t,et,it⟩:=iq.get' u;rw[bq]at et;obtain⟨q,ah,rfl⟩:=df.mp et;obtain⟨a,xs,rfl,m,ak⟩:=it.mono d;obtain⟨v1,rr,rfl,S,v2,r2,rfl,N,W⟩:=ak;cases(W);cases(N);obtain⟨b,zs,rfl,hb,hz⟩:=S;exact⟨q,dj ah,a,b,J,m,⟨b,zs,J,hb,hz⟩⟩
 refine⟨l,J,⟨F,aK.of z⟩,Ce z (by omega) (λi x o Rr u d M=>?_) λH1 r=>⟨_,J,yn ?_⟩⟩;obtain⟨q,g,a,b,rfl,m,y⟩:=v u d;obtain⟨G,q2⟩:=hq q g;refine⟨a,_,_,_,J,J,aG.of m,J,.ref b,[q.1],J,y,by simp,λH4 n=>⟨_,J,xx ?_⟩⟩;obtain⟨dp,vv,ar,hp,k,c,_⟩:=(PA.same (d.trans n)).role G;obtain⟨bh,e,j⟩:=Zb (y.mono n);cases e;refine⟨a,_,_,_,J,J,aG.of (n _ _ m),J,xp,cP,dp,_,_,J,hp,B.cls,B.n,qd,ar,_,J,DGet.t k j,?_⟩;rw[c];exact M H4 n;refine⟨l,J,⟨F,aK.of (r _ _ z)⟩,Ce (r _ _ z) (by omega) (λi x o Rr u d M=>?_) λH2 d=>⟨_,J,yn (kk H2 (r.trans d))⟩⟩;obtain⟨q,g,a,b,rfl,m,y⟩:=v u (r.trans d);obtain⟨G,q2⟩:=hq q g;obtain⟨dp,vv,ar,hp,k,c,av,vc,vs,ab,an,ac,r1,r2,_⟩:=(PA.same (r.trans d)).role G;obtain⟨bh,e,j⟩:=Zb y;cases e;obtain⟨aS,xS,rfl,ap,aj⟩:=r2;have aq:=aj.length;rw[ag]at aq;refine⟨a,_,_,_,J,J,aG.of m,J,xp,cP,dp,_,_,J,hp,B.cls,B.n,qd,a,_,_,_,J,J,aG.of m,J,ar,_,J,c▸DGet.t k j,R q.1,cR,av,_,_,J,r1,CR.cls,CR.n,ql,aS,xS,J,.inr (aG.of ap),_,_,J,J,⟨_,_,_,J,Pp _,by omega⟩,λH4 n=>M H4 n⟩
end
theorem bX.same{d G:Hp}{cU cP cR:Y}{c:aC}{R:Nat->Y}{x ad as b a:Y}(r:bX d cU cP cR c R x ad as b a)(s:zh d G)(n:∀m∈[ad,as,b,a],G m=none):bX G cU cP cR c R x ad as b a:=by obtain⟨f,l,o,PA,k,j,_,_,_,_,i,g⟩:=r;exact⟨f,l,o,PA.same s,s _ _ k,s _ _ j,n _ (by simp),n _ (by simp),n _ (by simp),n _ (by simp),i,g⟩
theorem Kh{v l j:Hp}{n:aC}{R:Nat->Y}{x ad as f a u:Y}{c:Nat->Nat}{B:O ((O Int×Int)×V)}(W:cA n)(C:bX v cU cP cR n R x ad as f a)(s0:zh v l)(i:cD P w l n ad as f a c)(k:zh l j)(t:l u=none)(g:aM fC P w j u B):dA P w (without [ad,as,f,a] j) j cU cP cR n R x ad as f a c/\aM fC P w (without [ad,as,f,a] j) u B/\zh v (without [ad,as,f,a] j):=by
 obtain⟨M,Z,am,PA,X,U,G,E,F,Q,S,H⟩:=id C;have s:∃o,l a=some o/\∀y,o≠ .tup y:=by rcases W.w01 with z|z;exact⟨_,(H z▸i.l),λ_ z=>by cases z⟩;obtain⟨L,e⟩:=(i.k z).some;exact⟨_,e,λ_ z=>by cases z⟩
 obtain⟨N,hk,r⟩:=s;have q:∀{b:Y},(∀o,l b=some o->False)->b ∉ [ad,as,f,a]:=λ{b} p d=>by simp at d;rcases d with z|z|z|z;exact p _ (z▸i.d);exact p _ (z▸i.s);exact p _ (z▸i.l);exact p _ (z▸hk)
 have A:=(s0.trans k).without (M:=[ad,as,f,a]) λm d=>by simp at d;rcases d with z|z|z|z<;>rw[z]<;>assumption
 have D:zy j (without [ad,as,f,a] j):=λb y e=>by rw[y9];exact e;intro d;simp at d;rcases d with z|z|z|z;rw[z,k _ _ i.d]at e;cases e;rw[z,k _ _ i.s]at e;cases e;rw[z,k _ _ i.l]at e;cases e;rw[z,k _ _ hk]at e;exact r _ (RV e)
 exact⟨⟨C.same A λm d=>yp d,vp,i.same k⟩,g.by D (y9 (q λo e=>by rw[t]at e;cases e)),A⟩
theorem bX.upd{c:Hp}{cU cP cR v dx:Y}{s:aC}{R:Nat->Y}{x l ad as w m:Y}{f:O (Str×V)}{o:HO}(r:bX c cU cP cR s R l ad as w m)(p:c x=some (.ins v dx f))(n:f.lookup ("house":Str)=none/\f.lookup ("sums":Str)=none/\f.lookup ("needs":Str)=none):bX (ji c x o) cU cP cR s R l ad as w m:=by
 obtain⟨A,k,am,⟨dp,D,ar,h1,h2,h3,h5⟩,g1,g2,S,Q,P,N,h7,h8⟩:=r;have a:∀{b:Y}{u:HO},(∀C d g,u=.ins C d g->g.lookup ("house":Str)≠none\/g.lookup ("sums":Str)≠none\/g.lookup ("needs":Str)≠none)->c b=some u->L2.ji c x o b=some u:=λ{b u} z e=>by
  rw[ja (λy=>by rw[y,p]at e;rcases z v dx f (RV e).symm with q|q|q;exact q n.1;exact q n.2.1;exact q n.2.2)]
  exact e
 have t:zy c (L2.ji c x o):=λb xs e=>a (λ_ _ _ z=>by cases z) e;have j:∀{b:Y},c b=none->L2.ji c x o b=none:=λ{b} e=>by rw[ja (λy=>by rw[y,p]at e;cases e)];exact e
 refine⟨A,k,am,⟨dp,D,ar,a (λ_ _ _ z=>by cases z;exact .inl (by rw[Xi];simp)) h1,h2.tups t (Xn _),a (λ_ _ _ z=>by cases z) h3,λi hi=>?_⟩,a (λ_ _ _ z=>by cases z;exact .inr (.inl (by rw[wX];simp))) g1,a (λ_ _ _ z=>by cases z) g2,j S,j Q,j P,j N,h7,h8⟩;obtain⟨dx,E,B,ab,an,ac,M,L,H,G,F,Z,X,W,U⟩:=h5 i hi;exact⟨dx,E,B,ab,an,ac,a (λ_ _ _ z=>by cases z;exact .inr (.inr (by rw[Ki];simp))) M,L.tups t (Qs _),a (λ_ _ _ z=>by cases z) H,a (λ_ _ _ z=>by cases z) G,a (λ_ _ _ z=>by cases z) F,Z,X,W,U⟩
def uV:Sj:=bI 62
abbrev Wf:Sj:=(xv uV).getD 0 dE
abbrev wO:Sj:=(xv uV).getD 1 dE
abbrev tm:Sj:=(xv uV).getD 2 dE
abbrev Xb:Sj:=bI 61
abbrev vM:Sj:=bI 63
noncomputable def eT:List Str:=["run","woven"]
noncomputable def tK(B F:lv):List (Str×V):=[(("run":Str),.ref B),("woven",.ref F)]
theorem FR:(tK xr ao).lookup ("run":Str)=some (.ref xr):=rfl
theorem K1:(tK xr ao).lookup ("woven":Str)=some (.ref ao):=rfl
inductive eA(H:Hp)(cS cU:lv)(x:lv)(hs:aC)(c:Nat->Nat)(ws:List Nat):Prop|mk:∀dx xr ao dxu xp ad as am al,H x=some (.ins cS dx (tK xr ao))->H xr=some (.ins cU dxu (eY xp ad as am al))->H ad=some (.dT (qh hs c))->bM H ao ws->eA H cS cU x hs c ws
noncomputable def vY(i p:Nat):List ((List Int×Int)×V):=[(([(i:Int)],(p:Int)),.bl true)]
theorem Av{i p:Nat}:eI (vY i p)=Ys i p:=by
 funext j k;unfold eI vY Ys;by_cases z:j=i/\k=p;rw[cf z,z.1,z.2,wd J];rfl;rw[fb z,wf (λy=>z (by injection y with a b;injection a with a;exact⟨(Pq a).symm,(Pq b).symm⟩))]
 rfl
inductive nY(P:R0)(w:SX)(cS cU cP cR:lv)(vs:List V)(H:Hp)(Q:VK)(e0:XK):Prop|mk:∀(G:Hp)(x dx xp:lv)(vone:V)(hs:aC)(R:Nat->lv)(i p:Nat)(Jx:List Nat->(Nat->Nat)->Prop),vs=[.ref x,.ref xp,vone]->H x=some (.ins cS dx [])->zh G H->G x=none->aQ G cP cR hs R xp->cA hs->Is H (cV (i,p)) vone->mD (aB hs) (Ys i p) Jx->Jx [] (λ_=>0)->(∀c ws H',zh G H'->nA (aB hs) (Ys i p) Jx ws c->eA H' cS cU x hs c ws->Q .non H')->nY P w cS cU cP cR vs H Q e0
inductive oz(cS cU:lv)(vs:List V)(H:Hp)(Q:VK)(e0:XK):Prop|mk:∀(x:lv)(hs:aC)(c:Nat->Nat)(ws:List Nat)(i p:Nat)(vn:V),vs=[.ref x,vn]->eA H cS cU x hs c ws->i<hs.fs.length->Is H (cV (i,p)) vn->Q (.bl (!(decide (p<c i)))) H->oz cS cU vs H Q e0
noncomputable def lV(h:Nat)(l:List Nat):Nat->List Nat|0=>[]|i+1=>lV h l i++if l[i]?=some h then[i]else[]
theorem xI(h:Nat)(l:List Nat):∀i,(lV h l i).length=(l.take i).count h
 |0=>rfl
 | i+1=>by
   show(lV h l i++if l[i]?=some h then[i]else[]).length=_;rw[cq,xI h l i,fh,PP]
   grind
theorem E8(a b:Nat):id (R5 (aY (hN a)) (aY (hN b)))=decide (a=b):=by show R5 (aY (tI [a])) (aY (tI [b]))=_;rw[F6,pb,kU,kU];exact⟨λz=>by injection z with z _;exact Pq z,λz=>by rw[z]⟩
inductive nS(cS cU:lv)(vs:List V)(H:Hp)(Q:VK)(e0:XK):Prop|mk:∀(x:lv)(hs:aC)(c:Nat->Nat)(ws:List Nat)(i p:Nat)(vn:V),vs=[.ref x,vn]->eA H cS cU x hs c ws->Is H (cV (i,p)) vn->p<ws.count i->ws.length<=4000->(∀v H',zh H H'->Q v H')->nS cS cU vs H Q e0
inductive og(cP cR:lv)(vs:List V)(H:Hp)(Q:VK)(e0:XK):Prop|mk:∀(hs:aC)(v v1 v2:V)(q1 q2:Nat×Nat),vs=[v,v1,v2]->Is H (eH hs) v->iO hs->Is H (cV q1) v1->Is H (cV q2) v2->Vd (aB hs) q1->Vd (aB hs) q2->q1≠q2->(∀x R H',zh H H'->H x=none->aQ H' cP cR hs R x->Q (.ref x) H')->og cP cR vs H Q e0
inductive oq(vs:List V)(H:Hp)(Q:VK)(e0:XK):Prop| mk:∀(hs:aC) (v v1 v2:V) (q1 q2:Nat×Nat) (Jx:List Nat->(Nat->Nat)->Prop),vs=[v,v1,v2]->Is H (eH hs) v->iO hs->Is H (cV q1) v1->Is H (cV q2) v2->Vd (aB hs) q1->Vd (aB hs) q2->q1≠q2->mD (aB hs) (Ys q1.1 q1.2) Jx->Jx [] (λ_=>0)->
   (∀a u c ws H',zh H H'->nA (aB hs) (Ys q1.1 q1.2) Jx ws c->H' a=some (.tup [.str (if q2.2<c q2.1 then "free" else "must"),u])->Q (.ref a) H')->oq vs H Q e0
theorem EN{q r:Nat×Nat}(h:q≠r):id (R5 (aY (cV q)) (aY (cV r)))=false:=by obtain⟨i,p⟩:=q;obtain⟨j,k⟩:=r;show R5 (aY (.tup [.tup [.int i],.int p])) (aY (.tup [.tup [.int j],.int k]))=false;simp only[aY,j7,R5,R6,Bool.and_true];rw[Bool.and_eq_false_iff];by_cases z:i=j;exact .inr (fb λy=>h (by rw[z,Pq y]));exact .inl (fb λy=>z (Pq y))
theorem Az(q:Nat×Nat):(aY (cV q)).canLay0=true:=by show(aY (.tup [.tup [.int q.1],.int q.2])).canLay0=true;simp[aY,j7,R1,R3]
theorem FY(q:Nat×Nat):(aY (cV q)).depth<=20:=by show(aY (.tup [.tup [.int q.1],.int q.2])).depth<=20;simp[aY,j7,PyData.depth,R4]
section
variable{K:O4}{cS cW:lv}
theorem NA:aA ["self","plan","one"] ["self","plan","one"] (ze Wf):=.of
theorem NI(D:nC K mg "Stop" "Stop.__init__" cS Wf)(q:aI K cS eT)(oF:Ok P w K mg base "first_run" 4 ["plan"] (jQ P w cU cP cR))(oO:Ok P w K mg base "woven_on" 6 ["run","held"] (ml P w cU cP cR)):iI P w K mg base "Stop" cS 7 ["self","plan","one"] (nY P w cS cU cP cR):=by
 refine sE D NA ?_;rintro f a8 A ak s H vs Q E hr ⟨G,x,d,xp,ay,hs,R,i,p,Jx,rfl,hx,sG,Gx,PA,W,iv,hJ,aw,k⟩ X;refine⟨_,zc (vf (pv 0) (yb oF (hr.mono (by decide)) (za (pv 1) zb)) J) (zg (vf (pv 0) (yb oO hr (za (zo (pv 0) J) (za (LP (τ:=fC) (RC (Yj hr)) (pv 2) q9) zb))) J)),⟨xp,hs,R,J,PA.same sG,W,λa ad as al k0 n Z s0 s1 C RF RM=>?_⟩⟩;obtain⟨aS,a7,am,ba,az,a6,v,ap,av,nk,_,a5⟩:=id RF;have m:=s0 _ _ hx;have F:=s1 _ _ m;refine⟨x,cS,d,_,J,F,q.cls,q.n,(by decide),?_⟩;rw[show qg "run" (.ref a) []=[(("run":Str),V.ref a)] by rfl];have U:bX (ji n x (.ins cS d [(("run"),V.ref a)])) cU cP cR hs R a ad as al k0:=RF.upd m ⟨J,J,J⟩;have t:∀{b:Y},n b=none->b≠x:=λ{b} e z=>by rw[z,m]at e;cases e
 have g2:ji Z x (.ins cS d [(("run":Str),V.ref a)]) x=_:=zd;have t2:zy Z (ji Z x (.ins cS d [(("run"),V.ref a)])):=zy.upd F (λ_ z=>by cases z);have S:=RM.upd t2 ⟨t v,t ap,t av,t nk⟩;have j:zh (ji n x (.ins cS d [(("run":Str),V.ref a)])) (ji Z x (.ins cS d [(("run":Str),V.ref a)])):=λb u e=>by by_cases z:b=x;rw[z,zd]at e⊢;exact e;rw[ja z]at e⊢;exact s1 _ _ e
 have r:zh G (ji n x (.ins cS d [(("run"),V.ref a)])):=λb u e=>by rw[ja (λz=>by rw[z,Gx]at e;cases e)];exact s0 _ _ (sG _ _ e)
 have g0:ji n x (.ins cS d [(("run":Str),V.ref a)]) x=_:=zd;generalize ji n x (.ins cS d [(("run":Str),V.ref a)])=G0 at U j r g0;generalize ji Z x (.ins cS d [(("run":Str),V.ref a)])=H2 at g2 t2 S j⊢;refine⟨x,cS,d,_,_,J,g2,q.cls,q.n,J,λN o g hg=>?_⟩;have y:=((iv.mono s0).mono s1).tups t2 (Yk _);obtain⟨vo,xo,rfl,a3,a4⟩:=id y;refine⟨vo,([i],p),J,y.mono (zh.new g o),hg,λo' L=>?_⟩;have s3:zh H2 (ji (ji H2 N o) N o'):=λb u e=>by rw[ja (zi e g),ja (zi e g)];exact e
 generalize ji (ji H2 N o) N o'=H3 at s3 L⊢;obtain⟨RA,GH,sw⟩:=Kh W U j S s3 g L;refine⟨_,a,ad,as,al,k0,N,hs,R,vY i p,Jx,J,RA,GH,W,(Av▸hJ),aw,λc ws ao H4 s4 rm l4 hc=>?_⟩;rw[Av]at hc;have l:=s4 _ _ (sw _ _ g0);refine⟨x,cS,d,_,J,l,q.cls,q.n,cG,?_⟩;rw[show qg "woven" (.ref ao) [(("run":Str),V.ref a)]=tK a ao by rw[yy (by decide)];rfl];obtain⟨aj,M,ax,_,B,_⟩:=id RA.f;have aq:ao≠x:=λz=>by obtain⟨vs,e,_⟩:=l4;rw[z,l]at e;cases e
 refine k c ws _ (λb u e=>?_) hc ⟨d,a,ao,M,aj,ad,as,ax,al,zd,by rw[ja (λz=>by rw[z,hx]at C;cases C)];exact(s4 _ _ B),(ja (t v)).trans rm.d,l4.keep (ja aq) (zy.upd l (λ_ z=>by cases z))⟩;rw[ja (λz=>by rw[z,Gx]at e;cases e)];exact s4 _ _ (sw _ _ (r _ _ e))
theorem KO:aA ["self","other"] ["self","other"] (ze wO):=.of
theorem JX(D:qk K cS "lacks" "Stop.lacks" wO)(j:aI K cS eT)(z:aI K cU bO)(m:bD P w K mg base cU "has_done" 1 ["self","name"] (oG cU)):bD P w K mg base cS "lacks" 2 ["self","other"] (oz cS cU):=by refine kh D KO ?_;rintro f y A b s H F Q E q ⟨x,o,c,C,i,p,l,rfl,⟨v,d,L,a,B,ad,as,M,N,u,g,t,G⟩,r,n,k⟩ X;exact⟨_,zg (zm (AB (qp m z.cls q (zo (pv 0) J) (za (pv 1) zb)))),⟨x,cS,v,_,_,J,u,j.cls,j.n,FR,d,a,_,J,g,J,d,a,ad,_,o,c,i,p,l,J,g,Zy,t,r,n,_,J,k⟩⟩
theorem BP:aA ["self","other","places"] ["self","other"] (ze tm):=.of
theorem HU(D:qk K cS "up_to" "Stop.up_to" tm)(T:Txt K mg)(F:aI K cS eT):bD P w K mg base cS "up_to" 1 ["self","other"] (nS cS cU):=by
 refine kh D BP ?_;rintro f aq A G s H vs Q E hr ⟨x,hs,c,a,h,p,vn,rfl,⟨dx,xr,ao,ap,xp,ad,as,am,al,W,h2,h3,⟨os,n,m⟩⟩,iv,hp,aj,k⟩ X;refine⟨_,zc (zT (i:=2) (own:=["place","hand"]) (cap:=[1]) (g:=iG K 2 (cJ (Zx 0) (cJ (Zx 1) qM))) J (xj (ze tm) J J (by decide+kernel) (by decide+kernel) (by decide+kernel) ⟨⟨_,J,.inl J,jy J⟩,trivial⟩)
   (KF J T.enumerate (za (zo (pv 0) J) zb))
   (λ_ _ _ _=>ky J (yu (zp (by show(["place","hand","other"]:O Str).Nodup;decide+kernel) J (RW J)) (yu (zp (by show(["place","hand","other"]:O Str).Nodup;decide+kernel) J (RW J)) qx)))
   (λ_ _ _ _=>Xz (zv (Br ((hr.units))) (pv 1) (zk (r:=cE K) zj (pv 2) zf (λ_ _=>rfl)) (ye _)))
   (λ_ _ _ _=>pv 0) BP.nd J J (by with_unfolding_all rfl))
  (zg (zm (Vl Fr (zo (pv 0) J) Jo (Jm (yd xz (zk wy (pv 2) (zk zj (pv 1) zf)) zf))))),?_⟩
 obtain⟨a5,ah,rfl,y,R⟩:=id iv;obtain⟨v1,rr,rfl,M,v2,r2,rfl,L,N⟩:=R;cases(N);cases(L);have u:=m.length;rw[ag]at u;let B:Nat->O V->Hp->Prop:=λi C d=>zh H d/\C=(lV h a i).map λ(j:Nat)=>V.int j;refine⟨x,cS,dx,_,_,J,W,F.cls,F.n,K1,ao,os,J,n,(JK B ⟨zh.refl H,J⟩ (λi C d hi ⟨o,e⟩=>⟨o _ _ n,?_⟩) ?_ ?_)⟩;rw[e,ag,xI];have q:=List.count_le_length (a:=h) (l:=a.take i);have q2:=List.length_take_le i a;exact Rw (J6 (by omega));rintro i z C d q hz ⟨o,rfl⟩ hq;have S:=zh.new hq (.tup [.int i,z]);have r:ji d q (.tup [.int i,z]) q=some (.tup [.int i,z]):=zd;generalize ji d q (.tup [.int i,z])=H3 at S r⊢;have b:=o.trans S;obtain⟨t,Z,it⟩:=m.get' hz;rw[bq]at Z;obtain⟨g,eg,rfl⟩:=df.mp Z;refine⟨q,_,J,aG.of r,J,_,_,J,_,_,J,J,⟨a5,_,_,_,J,J,aG.of (b _ _ y),J,hN g,hN h,it.mono b,M.mono b,Am _,Am _,IY _,_,J,?_⟩⟩;rw[E8];by_cases c:g=h;rw[cf c];refine xx ⟨b,?_⟩;show _=(lV h a i++if a[i]?=some h then[i]else[]).map _;rw[eg,c,kP J,bo];rfl;rw[fb c];refine yn ⟨b,?_⟩;show _=(lV h a i++if a[i]?=some h then[i]else[]).map _;rw[eg,kr (λz=>c (RV z)),eh];rintro C d ⟨o,rfl⟩ l hl;have U:=zh.new hl (.lst ((lV h a os.length).map λ(j:Nat)=>V.int j));have v:ji d l (.lst ((lV h a os.length).map λ(j:Nat)=>V.int j)) l=_:=zd;generalize ji d l (.lst ((lV h a os.length).map λ(j:Nat)=>V.int j))=H5 at U v⊢;have b:=o.trans U;exact⟨x,cS,dx,_,_,J,b _ _ W,F.cls,F.n,K1,a5,_,_,_,J,J,aG.of (b _ _ y),J,l,_,_,_,J,J,aK.of v,xb (by rw[bq,(cg (by rw[xI,u,gy];exact hp))];rfl),_,_,J,J,_,J,a.map hN,⟨ao,os,J,b _ _ n,m.mono b⟩,λl2 H6 s6 ak i6=>k (.ref l2) H6 (b.trans s6)⟩
theorem Qx:aA ["house","one","other","plan"] ["house","one","other"] (ze Xb):=.of
theorem NG(D:bP K mg "plan_with" Xb)(t:Ok P w K mg base "plan_of" 26 ["house"] (jN cP cR))(u:Ok P w K mg base "need_deeds" 3 ["plan","names"] (jO cP cR)):Ok P w K mg base "plan_with" 27 ["house","one","other"] (og cP cR):=by
 refine qf D Qx ?_;rintro f S A d s H W Q E i ⟨r,v,v1,Z,n,m,rfl,y,F,C,B,N,M,x,k⟩ X;refine⟨_,zc (zn (i:=3) Qx.nd (yb t i (za (pv 0) zb))) (zc (y0 (yb u (i.mono (by decide)) (za (pv 3) (za (yq (za (pv 1) (za (pv 2) zb))) zb)))) (zc (yt (zv (Br ((i.units))) (pv 1) (pv 2) (ye _)) (zg Vk) zu) (zg (zm (pv 3))))),⟨r,v,J,y,F,λj R H1 c g PA=>⟨by show 2<=1000;decide,λl H2 a n2 L=>?_⟩⟩⟩
 have p:=(C.mono c).mono a;have o:=(B.mono c).mono a;refine⟨j,l,r,R,[n,m],_,J,PA.same a,L,ft p o,by simp,λq G=>?_,λU b=>?_⟩;rcases bc.mp G with z|z;rw[z];exact N;rw[ai.mp z];exact M;refine⟨cV n,cV m,p.mono b,o.mono b,Az _,Az _,FY _,_,J,?_⟩;rw[EN x];exact yn (k j R U (c.trans (a.trans b)) g ((PA.same a).same b))
theorem BD:aA ["house","one","other","stop"] ["house","one","other"] (ze vM):=.of
theorem HP(D:bP K mg "must" vM)(p:aI K cS eT)(oP:Ok P w K mg base "plan_with" 27 ["house","one","other"] (og cP cR))(oI:iI P w K mg base "Stop" cS 7 ["self","plan","one"] (nY P w cS cU cP cR))(oL:bD P w K mg base cS "lacks" 2 ["self","other"] (oz cS cU))(oU:bD P w K mg base cS "up_to" 1 ["self","other"] (nS cS cU)):Ok P w K mg base "must" 28 ["house","one","other"] oq:=by
 refine qf D BD ?_;rintro f aq A B s H vs Q E m ⟨l,v,Z,q,y,d,Jx,rfl,iv,F,i1,i2,d1,d2,nq,hJ,L,k⟩ X;refine⟨_,zc (zn (i:=3) BD.nd (pR oI (m.mono (by decide)) (za (yb oP m (za (pv 0) (za (pv 1) (za (pv 2) zb)))) (za (pv 1) zb)))) (zc (yt (wq (qp oL p.cls (m.mono (by decide)) (pv 3) (za (pv 2) zb))) (zg (zm (zx (za zr (za (zo (pv 3) J) zb))))) zu) (zg (zm (zx (za zr (za (qp oU p.cls (m.mono (by decide)) (pv 3) (za (pv 2) zb)) zb)))))),⟨l,v,Z,q,y,d,J,iv,F,i1,i2,d1,d2,nq,λxp R W j aj PA=>((λx S hx C ak=>?_))⟩⟩
 have s2:zh W (ji (ji W S (.own x)) x (.ins cS S [])):=λb o e=>by rw[ja (zi e hx),ja (zi e C)];exact e
 refine⟨W,x,S,xp,Z,l,R,y.1,y.2,Jx,J,zd,s2,hx,PA,F.hw,(i1.mono j).mono s2,hJ,L,λc i H2 t n G=>⟨J,?_⟩⟩;have j2:=(i2.mono j).mono t;obtain⟨g,xr,ao,ap,ah,ad,as,am,al,M,h2,h3,h4⟩:=id G;refine⟨x,g,_,J,M,J,x,l,c,i,d.1,d.2,q,J,G,d2.1,j2,_,J,?_⟩;have hw:=dq n.1.most (tq F.hw);by_cases z:d.2<c d.1;rw[cf z];exact yn ⟨x,g,_,J,M,J,x,l,c,i,d.1,d.2,q,J,G,j2,by rw[n.1.cnt];exact z,by omega,λu H3 s4=>⟨by show 2<=1000;decide,λa U r n5 N=>(k a u c i U (j.trans (t.trans (s4.trans r))) n (kP z▸N))⟩⟩;rw[fb z];exact xx ⟨x,cS,g,_,_,J,M,p.cls,p.n,K1,by show 2<=1000;decide,λa U r n5 N=>(k a _ c i U (j.trans (t.trans r)) n (by rw[kr z];exact N))⟩
end
abbrev uH:Sj:=bI 59
noncomputable def uA:Nat->Nat->Bool:=λ_ _=>false
def tO:List Nat->(Nat->Nat)->Prop:=λ_ _=>True
inductive oX(vs:List V)(H:Hp)(Q:VK)(e0:XK):Prop|mk:∀(v:V)(hs:aC),vs=[v]->Is H (eH hs) v->iO hs->(∀ws c,nA (aB hs) uA tO ws c->qQ hs c=true)->(∀a u H',zh H H'->H' a=some (.tup [.str "all",u])->Q (.ref a) H')->oX vs H Q e0
section
variable{K:O4}
theorem AG:aA ["house","run","woven"] ["house"] (ze uH):=.of
theorem FT(D:bP K mg "end" uH)(CU:aI K cU bO)(oP:Ok P w K mg base "plan_of" 26 ["house"] (jN cP cR))(oF:Ok P w K mg base "first_run" 4 ["plan"] (jQ P w cU cP cR))(oO:Ok P w K mg base "woven_on" 6 ["run","held"] (ml P w cU cP cR))(oA:bD P w K mg base cU "has_done_all" 1 ["self"] (oH P w cU cP cR)):Ok P w K mg base "end" 27 ["house"] oX:=by refine qf D AG ?_;rintro f ap A l s H vs Q E d ⟨v,b,rfl,hv,F,hA,k⟩ X;have t:=AG.nd;have W:=F.hw;refine⟨_,zc (zn (i:=1) t (yb oF (d.mono (by decide)) (za (yb oP d (za (pv 0) zb)) zb))) (zc (zn (i:=2) t (yb oO (d.mono (by decide)) (za (pv 1) (za (Vn (τ:=fC)) zb)))) (zc (yt (wq (X1 oA CU.cls (d.mono (by decide)) (pv 1))) (zg (zm (zx (za zr (za (pv 2) zb))))) zu) (zg (zm CO)))),⟨b,v,J,hv,F,λC R aq j ak PA=>⟨C,b,R,J,PA,W,λg ad as y u H0 H1 U S aj RF RM=>((λz o a x=>?_))⟩⟩⟩;have r:=zh.new a o;generalize ji H1 z o=H2 at r x⊢;obtain⟨p,GH,L⟩:=Kh W RF S RM r a x;refine⟨_,g,ad,as,y,u,z,b,R,[],tO,J,p,GH,W,λ_ _ _ _ _ _ _ _ _ _=>trivial,trivial,λc G ao H3 i Z l3 m=>?_⟩;obtain⟨B,n,am,_,hx,_⟩:=id p.f;refine⟨g,n,_,J,i _ _ hx,J,_,g,ad,as,y,u,b,R,c,J,⟨p.f,i,Z⟩,W,λH4 N=>⟨_,J,?_⟩⟩;rw[hA G c m];exact xx ⟨by show 2<=1000;decide,λq H5 M n5 g5=>k q _ H5 ((j.trans (U.trans (L.trans i))).trans (N.trans M)) g5⟩
end
end My
namespace My
variable{m w:Int}{l l' w0 ws:List Nat}{i:Nat}
def mX:List Nat->List Nat->List (Nat×Nat)|_,[]=>[]|pre,h::r=>(h,pre.count h)::mX (pre++[h]) r
def dF(B:List Nat):List (Nat×Nat):=mX [] B
theorem Bp:∀(a pre vs:List Nat),mX pre (a++vs)=mX pre a++mX (pre++a) vs|[],pre,vs=>by rw[eh];rfl| h::a,pre,vs=>by show(h,_)::mX (pre++[h]) (a++vs)=(h,_)::(mX (pre++[h]) a++_);rw[Bp a,PK];rfl
theorem K2(a:O Nat)(h:Nat):dF (a++[h])=dF a++[(h,a.count h)]:=Bp a [] [h]
theorem Vp:∀(a pre:List Nat),(mX pre a).length=a.length|[],_=>rfl|h::a,pre=>kW (· +1) (Vp a (pre++[h]))
noncomputable def rM:aF->Bool|.wor _=>true|_=>false
def dN(h:HW)(i k:Nat):Bool:=decide (i<h.n) && ((h.S i)[k]?.map rM).getD false
noncomputable def px(e:Nat->Nat->Int)(i k:Nat):Int:=if k=0 then 0 else e i (k-1)
def dH(e:Nat->Nat->Int)(B:List Nat):List Int:=(dF B).map λq=>e q.1 q.2
theorem I0{e:Nat->Nat->Int}:dH e (ws++[i])=dH e ws++[e i (ws.count i)]:=by unfold dH;rw[K2,bo];rfl
structure Jn(h:HW)(e:Nat->Nat->Int)(m:Int)(c0:Nat->Nat)(w0:List Nat)(off:Nat->Prop)(ws:List Nat)(c:Nat->Nat):Prop where
 le:∀i,i<h.n->∀k,k<c i->e i k<=m
 up:∀i,c0 i<=c i
 fr:∀i,i<h.n->¬off i->∀w,(h.S i)[c i]?=some (.wor w)->px e i (c i)=m
 em:dH e ws=dH e w0++Rk (ws.length-w0.length) m
 ln:w0.length<=ws.length
abbrev wo:=List (Int×List Nat)
def Jc(ends:wo)(i:Nat):Prop:=i∈ends.flatMap (·.2)
noncomputable def Zc:wo->Int->Nat->wo|[],t,i=>[(t,[i])]|(u,l)::r,t,i=>if u=t then(u,l++[i])::r else(u,l)::Zc r t i
theorem B0{t:Int}{i:Nat}:∀{ends:wo},((Zc ends t i).flatMap (·.2)).Perm (i::ends.flatMap (·.2))|[]=>.refl _| (u,l)::r=>by unfold Zc;by_cases c:u=t;rw[kP c,P8,P8,PK];exact Rh;rw[kr c,P8,P8];exact((B0).append_left l).trans Rh
theorem wH{t:Int}{i:Nat}:∀{ends:wo}{r},r∈Zc ends t i->(r.1=t/\∀j∈r.2,j=i\/∃q∈ends,q.1=t/\j∈q.2)\/r∈ends| [],r,h=>by obtain rfl:=ai.mp h;exact .inl ⟨J,λj d=>.inl (ai.mp d)⟩| (u,l)::q,r,h=>by unfold Zc at h;by_cases c:u=t;rw[kP c]at h;rcases bc.mp h with z|z;subst z;refine .inl ⟨c,λj d=>?_⟩;rcases cp.mp d with y|y;exact .inr ⟨_,bv,c,y⟩;exact .inl (ai.mp y);exact .inr (bp _ z);rw[kr c]at h;rcases bc.mp h with z|z;rw[z];exact .inr bv;rcases wH z with⟨k,g⟩|y;exact .inl ⟨k,λj d=>(g j d).imp id λ⟨f,a,b⟩=>⟨f,bp _ a,b⟩⟩;exact .inr (bp _ y)
theorem A0{t:Int}{i:Nat}:∀{ends:wo},(∃r∈Zc ends t i,r.1=t/\i∈r.2)/\∀q∈ends,∃r∈Zc ends t i,r.1=q.1/\∀j∈q.2,j∈r.2|[]=>⟨⟨_,bv,J,bv⟩,λq a=>nomatch a⟩| (u,l)::p=>by obtain⟨⟨r,m,k,g⟩,f⟩:=A0;unfold Zc;by_cases c:u=t;rw[kP c];refine⟨⟨_,bv,c,by simp⟩,λq a=>?_⟩;rcases bc.mp a with z|z;rw[z];exact⟨_,bv,J,λj d=>ee _ d⟩;exact⟨q,bp _ z,J,λ_=>id⟩;rw[kr c];refine⟨⟨r,bp _ m,k,g⟩,λq a=>?_⟩;rcases bc.mp a with z|z;rw[z];exact⟨_,bv,J,λ_=>id⟩;obtain⟨b,o,n⟩:=f q z;exact⟨b,bp _ o,n⟩
theorem BY{t:Int}{i:Nat}:∀{ends:wo},(ends.map (·.1)).Nodup->((Zc ends t i).map (·.1)).Nodup/\∀u∈(Zc ends t i).map (·.1),u=t\/u∈ends.map (·.1)|[],_=>⟨by simp[Zc],λu j=>.inl (ai.mp j)⟩| (u,l)::r,b=>by obtain⟨g,f⟩:=d6.mp b;obtain⟨k,d⟩:=BY f;unfold Zc;by_cases c:u=t;rw[kP c];exact⟨b,λv a=>.inr a⟩;rw[kr c];refine⟨d6.mpr ⟨λz=>?_,k⟩,λv a=>?_⟩;rcases d _ z with y|y;exact c y;exact g y;rcases bc.mp a with z|z;exact .inr (z▸bv);exact(d v z).imp id (bp _)
theorem BX{t:Int}{i:Nat}:∀{ends:wo},(Zc ends t i).countP (·.2.isEmpty)<=ends.countP (·.2.isEmpty)|[]=>by simp[Zc]| (u,l)::r=>by have a:=BX (t:=t) (i:=i) (ends:=r);unfold Zc;by_cases c:u=t;rw[kP c,PN,PN];simp;rw[kr c,PN,PN];omega
variable{h:HW}{en:Nat->Nat->List Dd}{rk:Nat->Nat->Nat}{e:Nat->Nat->Int}
theorem Fg{k:Nat}{d:aF}(a:i<h.n)(b:(h.S i)[k]?=some d)(n:dN h i k=false):wk h i k=0:=by unfold dN at n;unfold wk;rw[cf a,py]at n;rw[b]at n⊢;cases d<;>first|rfl|cases n
theorem Au{k:Nat}(q:dN h i k=true):∃w,(h.S i)[k]?=some (.wor w):=by replace q:=(bu _ _▸q).2;cases z:(h.S i)[k]? with|none=>rw[z]at q;cases q| some d=>rw[z]at q;cases d with|wor w=>exact⟨w,J⟩|_=>cases q
theorem A5{c:Nat->Nat}(q:(h.S i)[c i]?=some (.wor w)):qe h c i=true:=by unfold qe;rw[q];rfl
theorem Bo{b:Int}(c:0<=b):∀{l:List Int},(∀a∈l,a<=b)->lO l<=b|[],_=>c|a::r,h=>Int.max_le.mpr ⟨h a bv,Bo c λx d=>h x (bp _ d)⟩
theorem Im(A:AS h en rk)(M:Mo h en e){k:Nat}(v:Vd h (i,k))(q:(h.S i)[k]?=some (.wor w)):dM en e i k=px e i k/\e i k=px e i k+w:=by
 have b:dM en e i k=px e i k:=by unfold dM pre px;rw[(A.wn i k w v.1 q).1,eh];by_cases c:k=0;rw[kP c,kP c];rfl;rw[kr c,kr c];have:0<=e i (k-1):=M.nn A ⟨v.1,gu (Nat.sub_le k 1) (v.2)⟩;show max (e i (k-1)) 0=_;omega
 refine⟨b,?_⟩;have a:=M.eq i k v;rw[b]at a;rw[a];congr 1;unfold wk;rw[q];rfl
theorem Jn.step{f:Nat->Nat}{off a:Nat->Prop}{c:Nat->Nat}{d:aF}(s:∀i k,Vd h (i,k)->f i<=k->m<=e i k)(Jx:Jn h e m f w0 off ws c)(L:dB h ws c)(q:i<h.n)(r:(h.S i)[c i]?=some d)(le:e i (c i)<=m)(p:∀j,j≠i->¬a j->¬off j):Jn h e m f w0 a (ws++[i]) (aR c i):=by have o:=Int.le_antisymm le (s i (c i) ⟨q,((d7.mp r).1)⟩ (Jx.up i));have l:aR c i i=c i+1:=kP J;have g:∀{j},j≠i->aR c i j=c j:=λz=>kr z;refine⟨λj b k hk=>?_,λj=>?_,λj b no w n=>?_,?_,?_⟩;by_cases z:j=i;subst z;rw[l]at hk;by_cases y:k=c j;rw[y];exact le;exact Jx.le j b k (by omega);rw[g z]at hk;exact Jx.le j b k hk;by_cases z:j=i;subst z;rw[l];have:=Jx.up j;omega;rw[g z];exact Jx.up j;by_cases z:j=i;subst z;rw[l];unfold px;rw[kr (by omega)];exact o;rw[g z]at n⊢;exact Jx.fr j b (p j z no) w n;have:=Jx.ln;rw[I0,L.cnt,o,Jx.em,PK,cq,show ws.length+[i].length-w0.length=(ws.length-w0.length)+1 by simp;omega,ld];have:=Jx.ln;rw[cq];omega
theorem Jn.jok(A:AS h en rk)(M:Mo h en e){o:Nat->Nat}{off:Nat->Prop}(t:0<=m)(u:∀i k,Vd h (i,k)->o i<=k->m<=e i k):mD h (dN h) (Jn h e m o w0 off):=by
 intro p c i d L l b g j q;have f:=(d7.mp g).1;refine l.step u L b g ?_ λ_ _ z=>z;have n:=M.eq i (c i) ⟨b,f⟩;rw[Fg b g q]at n;rw[n,Int.add_zero];refine Bo t λa s=>?_;obtain⟨x,r,rfl⟩:=bz.mp s;rcases cp.mp r with z|z;by_cases y:c i=0;rw[kP y]at z;nomatch z
 rw[kr y]at z;obtain rfl:=ai.mp z;exact l.le i b (c i-1) (by omega);exact l.le x.1 (A.lo i (c i) x b f z).1.1 x.2 ((A.ok p c i L b f).mp j x z)
structure Hd(h:HW)(e:Nat->Nat->Int)(s:Ws)(ends:wo):Prop where
 wi:Wi h (dN h) (Jc ends) (λ_ _=>True) s
 stp:s.stp=[]
 kn:(ends.map (·.1)).Nodup
 hn:(ends.flatMap (·.2)).Nodup
 at':∀r∈ends,∀i∈r.2,i<h.n/\(∃w,(h.S i)[s.c i]?=some (.wor w))/\r.1=e i (s.c i)
 ge:∀i k,Vd h (i,k)->s.c i<=k->∃r∈ends,r.1<=e i k
 le:∀i,i<h.n->∀k,k<s.c i->∀r∈ends,e i k<=r.1
 fr:∀i,i<h.n->¬Jc ends i->∀w,(h.S i)[s.c i]?=some (.wor w)->∀r∈ends,px e i (s.c i)=r.1
 nn:∀r∈ends,0<=r.1
theorem Hd.first(A:AS h en rk)(M:Mo h en e):Hd h e ⟨λ_=>0,Ri h.n,[],[],[]⟩ [(0,[])]:=by
 have a:=Wi.first (h:=h) (hl:=dN h) (Jx:=λ_ _=>True) trivial;refine⟨⟨a.lg,a.lt,a.one,a.key,λi c=>.inl (cr.mpr c),a.wt,a.st,λi _=>(λi z=>by simp[Jc]at z) i,trivial⟩,J,by simp,by simp,λr b i c=>?_,λi k v _=>⟨_,bv,M.nn A v⟩,λi _ k hk=>kS hk (gw _),λi c _ w _ r b=>?_,λr b=>?_⟩;rw[ai.mp b]at c;nomatch c
 rw[ai.mp b];rfl;rw[ai.mp b];exact fm _
def Wt(ends:wo)(m:Int)(l:List Nat)(i:Nat):Prop:=i∈l\/Jc (ends.filter λr=>decide (r.1≠m)) i
section
variable{s:Ws}{ends:wo}
theorem Z7(c:(m,l)∈ends)(g:(ends.map (·.1)).Nodup):(ends.flatMap (·.2)).Perm (l++(ends.filter λr=>decide (r.1≠m)).flatMap (·.2)):=by induction ends with|nil=>nomatch c| cons q r i=>obtain⟨b,f⟩:=d6.mp g;rcases bc.mp c with z|z;subst z;rw[P1,kr (by simp),P8];refine .append_left l (.of_eq ?_);congr 1;have q:∀x∈r,x.1≠m:=λx a y=>b (by show m∈_;rw[<-y];exact QX a);rw[List.filter_eq_self.mpr λx a=>cf (q x a)];have d:q.1≠m:=λy=>b (by show q.1∈_;rw[y];exact QX z);rw[P1,kP (cf d),P8,P8];refine((i z f).append_left q.2).trans ?_;rw[<-PK,<-PK];exact .append_right _ Rg
theorem Hd.ge1(D:Hd h e s ends)(a:∀r∈ends,m<=r.1):∀i k,Vd h (i,k)->s.c i<=k->m<=e i k:=λi k v hk=>by obtain⟨r,b,q⟩:=D.ge i k v hk;exact Pn (a r b) q
theorem Hd.begin(D:Hd h e s ends)(c:(m,l)∈ends):Wi h (dN h) (Wt ends m l) (Jn h e m s.c s.wov (Wt ends m l)) s:=by
 have b:∀i,Wt ends m l i↔Jc ends i:=λi=>by unfold Wt Jc;rw[(Z7 c D.kn).mem_iff,cp]
 exact⟨D.wi.lg,D.wi.lt,D.wi.one,D.wi.key,λi a=>(D.wi.cov i a).imp id (.imp id (.imp id (b i).mpr)),D.wi.wt,D.wi.st,λi a z=>D.wi.no i a ((b i).mp z),⟨λi a k hk=>D.le i a k hk _ c,λi=>au _,λi a no w d=>D.fr i a (λz=>no ((b i).mpr z)) w d _ c,by simp,au _⟩⟩
theorem Hd.endW(D:Hd h e s ends)(n:(m,l)∈ends)(t:∀r∈ends,m<=r.1){b:Ws}(q:(i::l').Nodup)(sub:∀j∈i::l',j∈l)(W:Wi h (dN h) (Wt ends m (i::l')) (Jn h e m s.c s.wov (Wt ends m (i::l'))) b)(p:∀j∈i::l',b.c j=s.c j):∃w,(h.S i)[b.c i]?=some (.wor w)/\i<h.n/\Wi h (dN h) (Wt ends m l') (Jn h e m s.c s.wov (Wt ends m l')) (pV h b i (.wor w))/\(∀j∈l',(pV h b i (.wor w)).c j=s.c j):=by obtain⟨g,u⟩:=d6.mp q;have k:=sub i bv;obtain⟨f,⟨w,c⟩,o⟩:=D.at' _ n i k;rw[<-(p i bv)]at c o;refine⟨w,c,f,hF (d6.mpr ⟨(λz=>W.no i (cp.mp z) (.inl bv)),W.one⟩) f c (A5 c) W.lg W.lt W.key (λj a d=>?_) W.wt W.st (λj a z=>?_) ?_,λj a=>?_⟩;refine(W.cov j a).imp id (.imp id (.imp id λz=>?_));rcases z with z|z;exact .inl ((bc.mp z).resolve_left d);exact .inr z;rcases a with y|y;subst y;rcases z with z|z;exact g z;exact(λj a z=>(List.nodup_append.mp ((Z7 n D.kn).nodup_iff.mp D.hn)).2.2 j a j z J) j k z;exact W.no j y (z.imp (bp _) id);exact W.jj.step (D.ge1 t) W.lg f c (Int.le_of_eq o.symm) λj d no z=>no (z.imp (λy=>(bc.mp y).resolve_left d) id);show aR b.c i j=s.c j;unfold aR;rw[kr (λz=>g (by rw[<-z];exact a))];exact p j (bp _ a)
def qr(h:HW)(c:Nat->Nat)(m:Int)(ends:wo):List Nat->wo|[]=>ends|i::r=>qr h c m (Zc ends (m+wk h i (c i)) i) r
theorem X5{c:Nat->Nat}:∀{q:List Nat}{ends:wo},(ends.map (·.1)).Nodup->((qr h c m ends q).map (·.1)).Nodup/\((qr h c m ends q).flatMap (·.2)).Perm (q++ends.flatMap (·.2))/\(∀r∈qr h c m ends q,(∀j∈r.2,(j∈q/\r.1=m+wk h j (c j))\/∃p∈ends,p.1=r.1/\j∈p.2)/\((∃p∈ends,p.1=r.1)\/∃j∈q,r.1=m+wk h j (c j)))/\(∀p∈ends,∃r∈qr h c m ends q,r.1=p.1/\∀j∈p.2,j∈r.2)/\(∀j∈q,∃r∈qr h c m ends q,r.1=m+wk h j (c j)/\j∈r.2)/\(qr h c m ends q).countP (·.2.isEmpty)<=ends.countP (·.2.isEmpty)|[],ends,l=>⟨l,.refl _,λr g=>⟨λj d=>.inr ⟨r,g,J,d⟩,.inl ⟨r,g,J⟩⟩,λp n=>⟨p,n,J,λ_=>id⟩,λj d=>(nomatch d),au _⟩| i::q,ends,l=>by obtain⟨H,G,w,v,F,E⟩:=X5 (BY l).1;obtain⟨⟨a,S,R,Q⟩,P⟩:=A0;refine⟨H,?_,λr g=>⟨λj d=>?_,?_⟩,λp n=>?_,λj d=>?_,dq E BX⟩;exact G.trans ((B0.append_left q).trans Rh);rcases(w r g).1 j d with⟨f,b⟩|⟨p,f,b,u⟩;exact .inl ⟨bp _ f,b⟩;rcases wH f with⟨k,B⟩|z;rcases B j u with z|⟨D,A,y,x⟩;rw[z];exact .inl ⟨bv,b.symm.trans k⟩;exact .inr ⟨D,A,y.trans (k.symm.trans b),x⟩;exact .inr ⟨p,z,b,u⟩;rcases(w r g).2 with⟨p,f,b⟩|⟨j,f,b⟩;rcases wH f with⟨k,_⟩|z;exact .inr ⟨i,bv,b.symm.trans k⟩;exact .inl ⟨p,z,b⟩;exact .inr ⟨j,bp _ f,b⟩;obtain⟨C,N,M,L⟩:=P p n;obtain⟨r,t,s,o⟩:=v C N;exact⟨r,t,s.trans M,λj d=>o j (L j d)⟩;rcases bc.mp d with z|z;subst z;obtain⟨r,t,s,o⟩:=v a S;exact⟨r,t,s.trans R,o _ Q⟩;exact F j z
theorem Hd.next(A:AS h en rk)(M:Mo h en e)(D:Hd h e s ends)(hr:(m,l)∈ends)(mn:∀r∈ends,m<=r.1){c:Ws}(W:Wi h (dN h) (Wt ends m []) (Jn h e m s.c s.wov (Wt ends m [])) c)(H:c.rdy=[]):Hd h e {c with stp:=[]} (qr h c.c m (ends.filter λr=>decide (r.1≠m)) c.stp)/\dH e c.wov=dH e s.wov++Rk (c.wov.length-s.wov.length) m/\s.wov.length<=c.wov.length:=by
 obtain⟨h1,h2,h3,h4,h5,_⟩:=X5 (D.kn.sublist (List.filter_sublist.map _));have o1:=W.one;rw[H,Ra]at o1;obtain⟨o2,o3,o4⟩:=List.nodup_append.mp o1;have g:∀i,Jc (qr h c.c m (ends.filter λr=>decide (r.1≠m)) c.stp) i↔i∈c.stp\/Jc (ends.filter λr=>decide (r.1≠m)) i:=λi=>by unfold Jc;rw[h2.mem_iff,cp]
 have o:∀{i},Jc (ends.filter λr=>decide (r.1≠m)) i->Wt ends m [] i:=λz=>.inr z;have E:∀i∈c.stp,i<h.n/\∃w,(h.S i)[c.c i]?=some (.wor w)/\0<=w/\e i (c.c i)=m+w/\wk h i (c.c i)=w:=λi f=>by have t:=W.lt i (.inr (di _ f));obtain⟨w,n⟩:=Au (W.st i f);have q:=(Im A M ⟨t,((d7.mp n).1)⟩ n).2;rw[W.jj.fr i t (W.no i (.inr (di _ f))) w n]at q;exact⟨t,w,n,(A.wn i _ w t n).2,q,by unfold wk;rw[n];rfl⟩
 have P:∀r∈qr h c.c m (ends.filter λr=>decide (r.1≠m)) c.stp,∀i∈r.2,i<h.n/\(∃w,(h.S i)[c.c i]?=some (.wor w))/\r.1=e i (c.c i):=λr d i f=>by
  rcases(h3 r d).1 i f with⟨B,u⟩|⟨p,B,u,y3⟩;obtain⟨t,w,n,_,q1,q2⟩:=E i B;exact⟨t,⟨w,n⟩,by rw[u,q2,q1]⟩;have S:=(fo.mp B)
  obtain⟨t,⟨w,n⟩,q⟩:=D.at' p S.1 i y3;have cs:c.c i=s.c i:=by refine Nat.le_antisymm (Rx λz=>?_) (W.jj.up i);have:=W.jj.le i t (s.c i) z;rw[<-q]at this;have:=mn p S.1;exact(cz S.2) (by omega)
  rw[cs];exact⟨t,⟨w,n⟩,u.symm.trans q⟩
 have F:∀r∈qr h c.c m (ends.filter λr=>decide (r.1≠m)) c.stp,m<=r.1:=λr d=>by rcases(h3 r d).2 with⟨p,B,u⟩|⟨j,B,u⟩;rw[<-u];exact mn p (fo.mp B).1;obtain⟨_,w,_,w0,_,q⟩:=E j B;rw[u,q];omega
 have L:∀i,i<h.n->¬Jc (qr h c.c m (ends.filter λr=>decide (r.1≠m)) c.stp) i->qe h c.c i=false:=λi f no=>by
  rcases W.fin H f with z|z|z;exact z;exact kS ((g i).mpr (.inl z)) no;rcases z with z|z
  nomatch z
  exact kS ((g i).mpr (.inr z)) no
 have Z:∀N i k,rk i k<N->Vd h (i,k)->c.c i<=k->∃r∈qr h c.c m (ends.filter λr=>decide (r.1≠m)) c.stp,r.1<=e i k:=by intro N;induction N with|zero=>exact λi k r=>kS r (gw _)| succ N ih=>intro i k r v hk;by_cases q:c.c i=k;subst q;by_cases no:Jc (qr h c.c m (ends.filter λr=>decide (r.1≠m)) c.stp) i;obtain⟨C,d,X⟩:=List.mem_flatMap.mp no;exact⟨C,d,Int.le_of_eq (P C d i X).2.2⟩;obtain⟨x,U,y⟩:∃x∈en i (c.c i),c.c x.1<=x.2:=OL λz=>cy ((L i v.1 no).symm.trans ((A.ok _ _ i W.lg v.1 v.2).mpr λx U=>Rz λy=>z ⟨x,U,y⟩));have G:x∈pre en i (c.c i):=di _ U;obtain⟨Q,R⟩:=A.pr v G;obtain⟨C,d,q⟩:=ih x.1 x.2 (by omega) Q y;have:=hO (e:=e) G;have:=M.ge A v;exact⟨C,d,by omega⟩;have G:(i,k-1)∈pre en i k:=ee _ (by rw[kr (by omega)];exact ai.mpr J);obtain⟨Q,R⟩:=A.pr v G;have R:rk i (k-1)<rk i k:=R;obtain⟨C,d,q⟩:=ih i (k-1) (by omega) Q (by omega);have q2:e i (k-1)<=dM en e i k:=hO (e:=e) G;have:=M.ge A v;exact⟨C,d,by omega⟩
 refine⟨⟨⟨W.lg,λi f=>W.lt i (.inr ?_),?_,W.key,λi f=>?_,W.wt,λi f=>(nomatch f),λi f z=>?_,trivial⟩,J,h1,?_,P,λi k v hk=>Z _ i k (dz _) v hk,λi f k hk r d=>Pn (W.jj.le i f k hk) (F r d),λi f no w n r _=>?_,λr d=>Pn (D.nn _ hr) (F r d)⟩,W.jj.em,W.jj.ln⟩;rcases f with z|z;rw[(H)]at z;nomatch z
 rw[show({c with stp:=[]}:Ws).stp=[]from rfl,eh]at z;exact ee _ z;rw[H,Ra,eh];exact o2;rcases W.cov i f with z|z|z|z;exact .inl z;rcases cp.mp z with y|y;exact .inr (.inl (ee _ y));exact .inr (.inr (.inr ((g i).mpr (.inl y))));exact .inr (.inr (.inl z));refine .inr (.inr (.inr ((g i).mpr (.inr ?_))));rcases z with z|z
 nomatch z
 exact z;rcases f with y|y;rw[(H)]at y;nomatch y
 have y:i∈xu c.wai:=by rw[show({c with stp:=[]}:Ws).stp=[]from rfl,eh]at y;exact y
 rcases(g i).mp z with z|z;exact o4 i y i z J;exact W.no i (.inr (ee _ y)) (o z);refine h2.nodup_iff.mpr (List.nodup_append.mpr ⟨o3,?_,λa ha b hb z=>?_⟩);exact(List.nodup_append.mp ((Z7 hr D.kn).nodup_iff.mp D.hn)).2.1;exact W.no a (.inr (di _ ha)) (o (z▸hb));have:=L i f no;rw[A5 n]at this;cases this
theorem Hd.done(D:Hd h e s [])(b:i<h.n):s.c i=(h.S i).length:=by
 have c:=(D.wi.lg.low i).1;by_cases z:s.c i<(h.S i).length;obtain⟨r,a,_⟩:=D.ge i (s.c i) ⟨b,z⟩ (au _)
 nomatch a
 omega
theorem I9{p:Int×List Nat->Bool}(a:(m,l)∈ends)(f:(ends.map (·.1)).Nodup):(ends.filter λr=>decide (r.1≠m)).countP p+(if p (m,l)then 1 else 0)<=ends.countP p:=by induction ends with|nil=>nomatch a| cons q r g=>obtain⟨d,c⟩:=d6.mp f;rw[PN];rcases bc.mp a with z|z;subst z;rw[P1,kr (by simp)];have:=List.Sublist.countP_le (p:=p) (P5 (p:=λr:Int×List Nat=>decide (r.1≠m)) (l:=r));omega;have b:q.1≠m:=λy=>d (by show q.1∈_;rw[y];exact QX z);rw[P1,kP (cf b),PN];have:=g z c;omega
theorem Cq:∀{ends:wo},ends.length<=(ends.flatMap (·.2)).length+ends.countP (·.2.isEmpty)|[]=>c9 _| (u,l)::r=>by have c:=Cq (ends:=r);rw[fg,P8,cq,PN];cases l with|nil=>simp only[QL,if_true];omega|cons a b=>simp only[fg];omega
theorem Hd.few(D:Hd h e s ends)(c:ends.countP (·.2.isEmpty)<=1):ends.length<=h.n+1/\(ends.flatMap (·.2)).length<=h.n:=by
 have q:=X3 D.hn λi a=>by obtain⟨r,b,a⟩:=List.mem_flatMap.mp a;exact(D.at' r b i a).1
 have:=Cq (ends:=ends);exact⟨by omega,q⟩
theorem Du{c:Nat->Nat}:∀{q:List Nat}{ends:wo},(qr h c m ends q).length<=ends.length+q.length
 |[],_=>au _
 | i::q,ends=>by
   have a:=Du (c:=c) (q:=q) (ends:=Zc ends (m+wk h i (c i)) i);have:∀{t:Int}{i:Nat}{E:wo},(Zc E t i).length<=E.length+1:=by
    intro t i E;induction E with
    |nil=>exact au _
    | cons x r a=>obtain⟨u,l⟩:=x;unfold Zc;split;simp;rw[fg,fg];omega
   have:=@this (m+wk h i (c i)) i ends;rw[fg];exact dq a (by omega)
theorem Cr{r:Int×List Nat}:∀{ends:wo},r∈ends->r.2.length<=(ends.flatMap (·.2)).length| x::q,a=>by rw[P8,cq];rcases bc.mp a with z|z;rw[z];omega;have:=Cr z;omega
end
end My
namespace My
open PySem PySem.Spec PyProof.Rows L2
variable{l:lv}{base:O7}{H:Hp}{ts:List T}{ys:List V}{P:R0}{kd:Str}{mg:Str->Option Sr}{w:SX}
abbrev Yd:Sj:=(xv qZ).getD 4 dE
abbrev vD:Sj:=(xv qZ).getD 5 dE
abbrev wR:Sj:=bI 57
theorem Lj:S3 "sorted"=some (.builtin "sorted"):=by decide+kernel
theorem Jr(a:O (Nat×Nat)):qb (a.map cV):=qb.all.mpr λt b=>by obtain⟨q,_,rfl⟩:=bz.mp b;exact Yk q
def kE(B:aC)(i:Nat):List (Nat×Nat):=(Ri ((aB B).S i).length).map λp=>(i,p)
structure Gw(H0 H:Hp)(l:lv)(ts:List T)(ys:List V):Prop where
 same:zh H0 H
 at':H l=some (.lst ys)
 it:IsL H ts ys
theorem Gw.apps{f a:Hp}{d:O T}{c:O V}(k:f l=none)(g:Gw f H l ts ys)(n:qb ts)(m:qb d)(s:zh H a)(i:IsL a d c):Gw f (ji a l (.lst (ys++c))) l (ts++d) (ys++c):=by
 have j:zy a (ji a l (.lst (ys++c))):=λb p e=>by rw[ja (λz=>by rw[z,s _ _ g.at']at e;cases e)];exact e
 refine⟨λb o e=>?_,zd,?_⟩;rw[ja (λz=>by rw[z,k]at e;cases e)];exact s _ _ (g.same _ _ e);exact IsL.append (IsL.tups j n (g.it.mono s)) (IsL.tups j m i)
inductive nR(cP cR:lv)(vs:List V)(H:Hp)(Q:VK)(e0:XK):Prop|mk:∀(x:lv)(hs:aC)(R:Nat->lv)(q:Nat×Nat)(d:aF)(vn:V),vs=[.ref x,vn]->aQ H cP cR hs R x->q.1<hs.fs.length->Is H (cV q) vn->((aB hs).S q.1)[q.2]?=some d->(∀v,Is H (eD d) v->Q v H)->nR cP cR vs H Q e0
inductive oY(cP cR:lv)(vs:List V)(H:Hp)(Q:VK)(e0:XK):Prop|mk:∀(x:lv)(hs:aC)(R:Nat->lv),vs=[.ref x]->aQ H cP cR hs R x->cA hs->(∀l (ks:List Nat) H',zh H H'->H l=none->ks.Perm (Ri hs.fs.length)->Is H' (.lst ((ks.flatMap (kE hs)).map cV)) (.ref l)->Q (.ref l) H')->oY cP cR vs H Q e0
theorem wG{a:aC}(W:cA a):∀{ks:List Nat},(∀k∈ks,k<a.fs.length)->(ks.flatMap (kE a)).length<=80*ks.length|[],_=>c9 _| k::r,h=>by have:=wG W λx b=>h x (bp _ b);have c:=uF W (h k bv);rw[P8,cq,fg];unfold kE at *;rw[ag,d9];omega
inductive hU(vs:List V)(H:Hp)(Q:VK)(e0:XK):Prop|mk:∀(aw:lv)(ws:List Nat),vs=[.ref aw]->bM H aw ws->ws.length<=4000->(∀l H',zh H H'->H l=none->Is H' (.lst ((dF ws).map cV)) (.ref l)->Q (.ref l) H')->hU vs H Q e0
section
variable{K:O4}{cP cR:lv}
theorem Iw:aA ["self","name"] ["self","name"] (ze vD):=.of
theorem HV(D:qk K cP "what" "Plan.what" vD)(o:aI K cP bF)(CR:aI K cR aT):bD P w K mg base cP "what" 1 ["self","name"] (nR cP cR):=by refine kh D Iw ?_;rintro f ah A g s H t Q E L ⟨x,hs,R,q,d,vn,rfl,PA,N,C,S,B⟩ X;refine⟨_,zg (zm (zk zj (zo (qc (ki L) (zo (pv 0) J) (zk zj (pv 1) zf)) J) (zk zj (pv 1) zf))),?_⟩;obtain⟨Z,vv,ar,M,k,b,m,vc,t,ab,an,ac,z,y,_⟩:=PA.role N;obtain⟨a,xs,rfl,n,v1,r,rfl,G,v2,v,rfl,F,c⟩:=C;cases(c);cases(F);obtain⟨bh,rfl,j⟩:=Zb G;obtain⟨aS,p,rfl,l,i⟩:=y;obtain⟨u,W,U⟩:=i.get (by rw[bq,S];rfl);exact⟨x,cP,Z,_,_,J,M,o.cls,o.n,qd,a,_,_,_,J,J,aG.of n,J,ar,_,J,b▸DGet.t k j,R q.1,cR,m,_,_,J,z,CR.cls,CR.n,ql,a,_,_,_,J,J,aG.of n,J,aS,p,_,u,J,J,aG.of l,xb W,B u U⟩
theorem Vf:aA ["self","names","hand"] ["self"] (ze Yd):=.of
theorem NM(D:qk K cP "every_deed" "Plan.every_deed" Yd)(T:Txt K mg)(CP:aI K cP bF)(CR:aI K cR aT):bD P w K mg base cP "every_deed" 1 ["self"] (oY cP cR):=by
 refine kh D Vf ?_;rintro f ba A ah s H vs Q E hr ⟨x,n,R,rfl,PA,W,kk⟩ X;have nd:=Vf.nd;refine⟨_,zc (zn (i:=1) nd (yq zb)) (zc (xy RY J (jg (ya (Mx J) J T.sorted Lj (za (zo (pv 0) J) zb))) (zp (i:=2) nd) (zg (y0 (Zu PySem.F.plainAttrs_list PySem.F.slot_list_extend PySem.F.type_list_extend X4 (pv 1) (za (q8 (own:=["place"]) (cap:=[2]) J (xj (ze Yd) J J (by decide+kernel) (by decide+kernel) (by decide+kernel) ⟨⟨_,J,.inl J,jy J⟩,trivial⟩) (wc J T.range (za (ya yc J T.len wu (za (zo (qc (ki hr) (zo (pv 0) J) (pv 2)) J) zb)) zb)) (λ_ _ _ _=>zp (i:=0) (by show(["place","hand"]:O Str).Nodup;decide+kernel)) (λ_ _ _ _=>wv) (λ_ _ _ _=>zx (za (pv 1) (za (pv 0) zb)))) zb)))))
  (zg (zm (pv 1)))),⟨by decide,λl H1 s1 n1 g1=>?_⟩⟩
 obtain⟨dp,vh,ar,hp,ih,ax,a8⟩:=id PA;have a7:=W.n1;have av:(yo kN n.fs.length λi=>V.ref (R i)).map (·.1)=((Ri n.fs.length).map λ(i:Nat)=>[(i:Int)]).map kI:=by unfold yo;rw[ck,ck];rfl
 refine⟨x,cP,dp,_,_,J,s1 _ _ hp,CP.cls,CP.n,qd,ar,(Ri n.fs.length).map λ(i:Nat)=>[i],J,⟨_,s1 _ _ ax,av⟩,λg hg=>?_,by rw[ag,d9];omega,λu l2 ix o=>?_⟩;obtain⟨h,hh,rfl⟩:=bz.mp hg;exact λz=>by cases z
 obtain⟨d,az,pk⟩:=KE (Lu ((Ri n.fs.length).map λ(i:Nat)=>[i])) J;rw[az]at ix;have y:=zh.new o (.lst u);have g2:ji H1 l2 (.lst u) l2=some (.lst u):=zd;generalize ji H1 l2 (.lst u)=H2 at y g2⊢;have F:=ix.length;rw[ag,ag]at F;have B:=pk.length_eq;rw[d9]at B;have hk:∀k∈d,k<n.fs.length:=λk hk=>cr.mp (pk.mem_iff.mp hk);have tot:∀i,((d.take i).flatMap (kE n)).length<=3200:=λi=>by have q:=wG W (ks:=d.take i) λk z=>hk k (QZ z);have q2:=QP i d;omega
 have tw:zy H2 (without [l] H2):=λb c e=>by rw[y9 (λN=>by rw[ai.mp N,y _ _ g1]at e;cases e)];exact e
 have s0:=(s1.trans y).without λm N=>(ai.mp N▸n1)
 refine⟨l2,J,⟨u,aK.of g2⟩,?_⟩;let a6:Nat->L2.St->Hp->Prop:=λi Z G=>∃(x2:Option V)(c:O V),Z=[some (.ref x),some (.ref l),x2]/\Gw (without [l] H2) G l (((d.take i).flatMap (kE n)).map cV) c;refine Zm a6
  ⟨none,[],J,vp,y _ _ g1,J⟩ (λi Z G _ q0=>by obtain⟨_,c,_,g⟩:=q0;exact aK.of (g.same _ _ (by rw[y9 (λN=>(λz=>by rw[z,g1]at o;cases o) (ai.mp N))];exact g2))) ?_ ?_
 rintro i z Z G hz ⟨x2,c,rfl,g⟩;obtain⟨tt,M,iz⟩:=ix.get' hz;rw[ck,bq]at M;obtain⟨h,hh,rfl⟩:=df.mp M;have C:=((iz.mono y).tups tw (qu _)).mono g.same;obtain⟨bh,rfl,aw⟩:=Zb C;obtain⟨a4,vv,a5,aj,S,L,a3,vc,vs,ab,an,ac,r1,r2,_⟩:=(PA.same (s0.trans g.same)).role (hk h (dj hh));obtain⟨aS,xS,rfl,ay,ap⟩:=r2;have r:=ap.length;rw[ag]at r;have et:d.take (i+1)=d.take i++[h]:=by rw[fh,hh];rfl
 have ak:(kE n h).length=xS.length:=by unfold kE;rw[ag,d9,r]
 have t2:=tot (i+1);rw[et,P7,cq,P9,ak]at t2;have gl:=g.it.length;rw[ag]at gl;refine⟨.inl ⟨J,_,aK.of g.at'⟩,x,cP,a4,_,_,J,aj,CP.cls,CP.n,qd,a5,_,J,L▸DGet.t S aw,R h,cR,a3,_,_,J,r1,CR.cls,CR.n,ql,aS,xS,J,.inr (aG.of ay),_,J,by omega,by omega,(Zj (λj a t=>zh G t/\IsL t (((Ri j).map λp=>(h,p)).map cV) a) ⟨zh.refl _,J⟩ (λj a t hj ⟨_,e⟩=>?_) ?_ ?_)⟩;rw[e.length,ag,ag,d9,TM];rw[dm]at hj;omega;rintro j a t hj ⟨sj,U⟩;refine iZ ⟨by show 2<=1000;decide,λp3 G3 s3 n3 g3=>⟨sj.trans s3,?_⟩⟩;rw[gh]at g3;rw[Rj,bo,bo];exact IsL.append (U.mono s3) (IsL.one ⟨p3,_,J,g3,ft ((C.mono sj).mono s3) J⟩);rintro a t ⟨sj,U⟩ l3 aq;rw[dm,r]at U;have s4:=zh.new aq (.lst a);have g4:ji t l3 (.lst a) l3=some (.lst a):=zd;generalize ji t l3 (.lst a)=G4 at s4 g4⊢;have v:=sj.trans s4;have zl:=U.length;rw[ag,ag,d9]at zl;refine⟨l,l3,c,a,J,J,v _ _ g.at',g4,by rw[TM];omega,⟨_,c++a,J,?_⟩⟩;rw[et,P7,bo,P9];exact g.apps (yp (by simp)) (Jr _) (Jr _) v (U.mono s4);rintro Z G ⟨x2,c,rfl,g⟩;rw[F,gy]at g;exact kk l d G (s0.trans g.same) n1 pk ⟨l,c,J,g.at',g.it⟩
theorem CA:aA ["weaving","done","names","hand"] ["weaving"] (ze wR):=.of
theorem KR(D:bP K mg "named" wR):Ok P w K mg base "named" 1 ["weaving"] hU:=by
 refine qf D CA ?_;rintro f ap A ah s H vs Q E hr ⟨aw,d,rfl,⟨vs,x,v⟩,hw,kk⟩ X;have hu:=ki hr;have nd:=CA.nd;refine⟨_,zc (zn (i:=1) nd Ku) (zc (zn (i:=2) nd (yq zb)) (zc (xy RY J (jg (pv 0)) (zp (i:=3) nd) (zc (y0 (Zu PySem.F.plainAttrs_list PySem.F.slot_list_append PySem.F.type_list_append vm (pv 2) (za (zx (za (pv 3) (za (Kw hu (pv 1) (pv 3) zf ⟨J,J,J,J⟩) zb))) zb))) (zg (Xy hu (pv 1) (pv 3) (yd xz (Kw hu (pv 1) (pv 3) zf ⟨J,J,J,J⟩) zf) J))))
  (zg (zm (pv 2))))),?_⟩
 have B:=v.length;rw[ag]at B;intro ad L;have n:=zh.new L (.dT []);have g1:ji H ad (.dT []) ad=some (.dT []):=zd;generalize ji H ad (.dT [])=H1 at n g1⊢;refine⟨by decide,λl H2 s2 S g2=>?_⟩;have q:ad≠l:=λz=>by rw[<-z,g1]at S;cases S
 have hb:∀b,b∈[l,ad]->H b=none:=λb hm=>by rcases bc.mp hm with z|z;rw[z];exact ym n S;rw[ai.mp z];exact L
 have s0:=(n.trans s2).without hb;refine⟨aw,J,⟨vs,aK.of ((n.trans s2) _ _ x)⟩,?_⟩;let aj:Nat->L2.St->Hp->Prop:=λi R G=>∃(W:Option V)(a:O V)(k:O (O aJ×V)),R=[some (.ref aw),some (.ref ad),some (.ref l),W]/\zh (without [l,ad] H2) G/\G l=some (.lst a)/\IsL G ((dF (d.take i)).map cV) a/\G ad=some (.dT k)/\k.length<=i/\∀h:Nat,(yv k (kN h)).getD (.int 0)=.int ((d.take i).count h:Int);refine Zm aj
  ⟨none,[],[],J,vp,g2,J,s2 _ _ g1,au _,λh=>rfl⟩ (λi R G _ q0=>by obtain⟨_,_,_,_,m,_⟩:=q0;exact aK.of ((s0.trans m) _ _ x)) ?_ ?_
 rintro i z R G hz ⟨W,a,k,rfl,m,M,u,gd,ak,hc⟩;have hi:=(d7.mp hz).1;obtain⟨tt,C,iz⟩:=v.get' hz;rw[bq]at C;obtain⟨h,hh,rfl⟩:=df.mp C;have r:=iz.mono (s0.trans m);obtain⟨bh,rfl,F⟩:=Zb r;have et:d.take (i+1)=d.take i++[h]:=by rw[fh,hh];rfl
 have yl:=u.length;rw[ag]at yl;have nl:=Vp (d.take i) [];rw[ia]at nl;have nl:(dF (d.take i)).length=min i d.length:=nl;refine⟨.inl ⟨J,_,aK.of M⟩,ad,J,.inr ⟨_,.inl gd⟩,_,DGet.t (k:=kN h) gd F,?_⟩;rw[hc h];refine⟨by show 2<=1000;decide,λp U j n3 g3=>⟨l,a,_,J,J,j _ _ M,by rw[TM];omega,?_⟩⟩;have Z:zy U (ji U l (.lst (a++[.ref p]))):=zy.upd (j _ _ M) (λ_ z=>by cases z);have g:ji U l (.lst (a++[.ref p])) ad=some (.dT k):=ja q▸j _ _ gd;have N:ji U l (.lst (a++[.ref p])) bh=some (.tup ((kN h).map kV)):=Z _ _ (j _ _ F);refine⟨ad,J,.inr ⟨_,.inl g⟩,_,DGet.t g N,?_⟩;rw[hc h];refine⟨_,_,J,J,ad,_,J,Jg.t g N (by rw[TM];omega),?_⟩;have lp:=xa k (kN h) (.int (((d.take i).count h:Int)+1));refine⟨_,a++[.ref p],_,J,λb o e=>?_,?_,?_,zd,by omega,λh'=>?_⟩;rw[ja (λz=>by rw[z,(yp (by simp))]at e;cases e),ja (λz=>by rw[z,(yp (by simp))]at e;cases e)];exact j _ _ (m _ _ e);rw[ja (ae q)];exact zd;rw[et,K2,bo];exact(IsL.append ((u.mono j).tups Z (Jr _)) (IsL.one (Is.tups Z (Yk (h,(d.take i).count h)) (⟨p,_,J,g3,ft (r.mono j) J⟩)))).tups (zy.upd g (λ_ z=>by cases z)) (qb.all.mpr λt ht=>by rcases cp.mp ht with y|y;exact qb.all.mp (Jr _) t y;rw[ai.mp y];exact Yk _)
 rw[ju,et,PP];by_cases c:h'=h;rw[c,kP J];simp;rw[kr (λz=>c (Wu z)),hc h',List.count_singleton,kr (by simpa using ae c),Nat.add_zero];rintro R G ⟨W,a,k,rfl,m,M,u,_⟩;rw[B,gy]at u;exact kk l G (s0.trans m) (ym n S) ⟨l,a,J,M,u⟩
end
noncomputable def bt(n:Nat):Nat:=Builtin.Int.intBits ((n:Int)-1)
def kX(kd:Str)(n:Nat):Int:=if kd="shared" then 1 else if kd="spread" then(n:Int)*(bt n:Int)else(n:Int)
def hk(kd:Str)(n p:Nat):aC:=⟨kX kd n,0,(Ri n).map λi=>((i:Nat),([]:List dD)),(Ri n).map λi=>fJ kd n i p⟩
theorem GV:∀n:Fin 17,bt n.val<=4/\∀j:Fin 5,2^j.val<n.val->j.val<bt n.val:=by decide+kernel
theorem zC{n:Nat}(h:n<=16):bt n<=4:=(GV ⟨n,by omega⟩).1
theorem Fm{n:Nat}(h:n<=16):0<=kX kd n/\kX kd n<=99:=by
 unfold kX;by_cases b:kd="shared"
 simp_all
 rw[kr b];by_cases a:kd="spread";rw[kP a];have:=Nat.mul_le_mul h (zC h);omega
 grind
theorem Q6(j:Nat):(Ri (j+1)).map (λi=>eC ((i:Nat),([]:O dD)))=(Ri j).map (λi=>eC ((i:Nat),([]:O dD)))++[eC (j,[])]:=by rw[Rj,bo];rfl
theorem NU(kd:Str)(n p j:Nat):(Ri (j+1)).map (λi=>eS (fJ kd n i p))=(Ri j).map (λi=>eS (fJ kd n i p))++[eS (fJ kd n j p)]:=by rw[Rj,bo];rfl
abbrev Ji:Sj:=bI 72
theorem Gw.app{c a:Hp}{t:T}{v:V}(m:c l=none)(g:Gw c H l ts ys)(j:qb ts)(f:bS t)(s:zh H a)(i:Is a t v):Gw c (ji a l (.lst (ys++[v]))) l (ts++[t]) (ys++[v]):=by
 have d:zy a (ji a l (.lst (ys++[v]))):=λb k e=>by rw[ja (λz=>by rw[z,s _ _ g.at']at e;cases e)];exact e
 refine⟨λb o e=>?_,zd,?_⟩;rw[ja (λz=>by simp_all)];exact s _ _ (g.same _ _ e);exact xn (IsL.tups d j (g.it.mono s)) (wz (Is.tups d f i))
theorem fF{a:Hp}{p:Y}{o:HO}(h:H p=none)(s:zh H a):zh H (ji a p o):=λb u e=>by rw[ja (λz=>by simp_all)];exact s b u e
theorem Ir:∀n:Fin 17,1<=n.val->mx n.val 5 1=bt n.val:=by decide+kernel
theorem F9{n:Nat}(a:1<=n)(h:n<=16):mx n 5 1=bt n:=Ir ⟨n,by omega⟩ a
theorem Iu{n:Nat}:∀{f a:Nat},n<=a->mx n f a=0|0,_,_=>rfl|f+1,a,h=>by unfold mx;rw[kr (by omega)]
inductive pf(vs:List V)(H:Hp)(Q:VK)(e0:XK):Prop|mk:∀(kd:Str)(n p:Nat),vs=[.str kd,.int (n:Int),.int (p:Int)]->K4 kd->1<=n->n<=16->p<=4->(∀v H',zh H H'->Is H' (eH (hk kd n p)) v->Q v H')->pf vs H Q e0
noncomputable def qA(n r:Int):List (aJ×V):=[(So "shared",.int 1),(So "own",.int n),(So "tree",.int n),(So "spread",.int (n*r))]
theorem Fi{n r:Nat}(a:K4 kd)(b:r=bt n):yv (Zr [] (qA (n:Int) (r:Int))) (So kd:aJ)=some (.int (kX kd n)):=by
 subst b;have e:Zr [] (qA n (bt n))=qA n (bt n):=by rfl
 rw[e];rcases a with rfl|rfl|rfl|rfl<;>rfl
section
variable{K:O4}
theorem Cw:aA ["kind","n","p","scripts","i","script","q","rounds","far","boxes"] ["kind","n","p"] (ze Ji):=.of
theorem JU(D:bP K mg "_law_amade" Ji)(T:Txt K mg)(o1:Ok P w K mg base "_law_aphase" 1 ["kind","n","i","q"] mv):Ok P w K mg base "_law_amade" 2 ["kind","n","p"] pf:=by
 refine qf D Cw ?_;rintro f bd A ap s H vs Q E hr ⟨b,n,p,rfl,k4,h1,x,h4,kk⟩ X;have B:=Cw.nd;have hu:=ki hr;refine⟨_,zc (zn (i:=3) B (yq zb)) (zc (xy RY J (wc J T.range (za (pv 1) zb)) (zp (i:=4) B) (zc (zn (i:=5) B (yq zb)) (zc (xy RY J (wc J T.range (za (pv 2) zb)) (zp (i:=6) B) (zg (zn (i:=5) B (yd Zd (yd Zd (yd Zd (pv 5) (yq (za (zx (za zr (za zr zb))) zb))) (yb o1 hr (za (pv 0) (za (pv 1) (za (pv 4) (za (pv 6) zb)))))) (yq (za (zx (za zr (za zr zb))) zb))))))
   (zg (y0 (Zu PySem.F.plainAttrs_list PySem.F.slot_list_append PySem.F.type_list_append vm (pv 3) (za (xw qy J T.tuple qi (za (pv 5) zb)) zb)))))))
  (zc (zn (i:=7) B zf) (zc (zn (i:=8) B zf) (zc (Vj RY (zv pQ (pv 8) (pv 1) (ye _)) (zc (zn (i:=7) B (yd xz (pv 7) zf)) (zg (zn (i:=8) B (yd kz zf (pv 8)))))) (zc (zn (i:=9) B (qc hu (Bv (Xh zr zf (Xh zr (pv 1) (Xh zr (pv 1) (Xh zr (yd kz (pv 1) (pv 7)) BA)))) J J (by simp) (by decide)) (pv 0))) (zg (zm (zx (za (pv 9) (za zf (za (xw qy J T.tuple qi (za (q8 (own:=["i"]) (cap:=[]) J (xj (ze Ji) J J (by decide+kernel) (by decide+kernel) (by decide+kernel) trivial) (wc J T.range (za (pv 1) zb)) (λ_ _ _ _=>zp (i:=0) (by show(["i"]:O Str).Nodup;decide+kernel)) (λ_ _ _ _=>wv) (λ_ _ _ _=>zx (za (pv 0) (za (zx zb) zb)))) zb))
   (za (xw qy J T.tuple qi (za (pv 3) zb)) zb)))))))))))),?_⟩
 refine⟨by show 0<=1000;decide,λl H0 s0 hl g0=>?_⟩;have G0:Gw H H0 l [] []:=⟨s0,g0,J⟩
 refine⟨_,J,by omega,by omega,?_⟩;let a3:Nat->L2.St->Hp->Prop:=λj y g=>∃o x4 x5 N,Gw H g l ((Ri j).map λi=>eS (fJ b n i p)) o/\y=[some (.str b),some (.int (n:Int)),some (.int (p:Int)),some (.ref l),x4,x5,N,none,none,none];refine js (lo:=0) (n:=(n:Int).toNat) a3 ⟨[],none,none,none,G0,J⟩ ?_ ?_;rintro j y H1 F ⟨o,x4,x5,N,M,rfl⟩;have F:j<n:=by rw[dm]at F;exact F
 rw[gh];refine⟨by show 0<=1000;decide,λm H2 s1 hm g1=>?_⟩;refine⟨_,J,by omega,by omega,?_⟩;let aS:Nat->L2.St->Hp->Prop:=λq y g=>∃(m:Y)(d:O V)(N:Option V),zh H2 g/\g m=some (.lst d)/\IsL g ((fJ b n j q).map eD) d/\y=[some (.str b),some (.int (n:Int)),some (.int (p:Int)),some (.ref l),some (.int (j:Int)),some (.ref m),N,none,none,none];refine js (lo:=0) (n:=(p:Int).toNat) aS ⟨m,[],N,zh.refl H2,g1,J,J⟩ ?_ ?_;rintro q y H3 hq ⟨m,d,y6,G,g3,i3,rfl⟩;rw[gh];have zl:=i3.length;rw[ag]at zl;have dl:=Bc (kd:=b) F x q;have pl:=Jt (kd:=b) (q:=q) F x;refine⟨by show 2<=1000;decide,λp1 H4 k bb L=>?_⟩;refine⟨by show 1<=1000;decide,λZ H5 u aj g5=>?_⟩;refine⟨m,Z,_,_,J,J,u _ _ (k _ _ g3),g5,by show d.length+1<=1000;omega,λl2 H6 s6 aw g6=>?_⟩;refine⟨b,n,j,q,J,k4,F,x,by omega,λv H7 s7 i7=>?_⟩;obtain⟨l3,us,rfl,g7,i7⟩:=i7;have ul:=i7.length;rw[ag]at ul;refine⟨l2,l3,_,_,J,J,s7 _ _ g6,g7,by rw[cq];show d.length+1+us.length<=1000;omega,λl4 H8 W av g8=>?_⟩;refine⟨by show 2<=1000;decide,λp2 H9 R h2 g9=>?_⟩;refine⟨by show 1<=1000;decide,λl5 bj C aq ay=>?_⟩;refine⟨l4,l5,_,_,J,J,C _ _ (R _ _ g8),ay,by rw[cq,cq];show d.length+1+us.length+1<=1000;omega,λl6 bg S a8 ax=>?_⟩;refine⟨l6,d++[.ref p1]++us++[.ref p2],_,G.trans (k.trans (u.trans (s6.trans (s7.trans (W.trans (R.trans (C.trans S))))))),ax,?_,J⟩;rw[Cn,show fJ b n j q++one b n j q=fJ b n j q++[.say "come"]++kQ b n j q++[.say "go"] by unfold one;simp,bo,bo,bo];have S7:=W.trans (R.trans (C.trans S));exact xn (xn (xn (i3.mono (k.trans (u.trans (s6.trans (s7.trans S7))))) (wz (Qq (S7 _ _ (s7 _ _ (s6 _ _ (u _ _ L))))))) (i7.mono S7)) (wz (Qq (S _ _ (C _ _ g9))));rintro y H3 ⟨m,d,y6,G,g3,i3,rfl⟩;rw[dm]at i3;have yl:=M.it.length;rw[ag,d9]at yl;have ak:=G _ _ (s1 _ _ M.at');refine⟨.inl ⟨J,_,aK.of ak⟩,m,d,J,aK.of g3,λt1 H4 k a5 L=>?_⟩;refine⟨l,o,_,J,J,k _ _ ak,Vc (by omega),?_⟩;have fr:qb ((Ri j).map λi=>eS (fJ b n i p)):=by rw[qb.all];intro t ht;obtain⟨i,_,rfl⟩:=bz.mp ht;exact fx _
 have G2:=M.app (t:=eS (fJ b n j p)) hl fr (fx _) (s1.trans (G.trans k)) ⟨t1,d,J,L,i3.mono k⟩;refine⟨o++[.ref t1],_,_,_,?_,J⟩;rw[NU];exact G2;rintro y H1 ⟨o,x4,x5,N,M,rfl⟩;rw[dm]at M;refine⟨λm y g=>g=H1/\∃r a:Nat,r+mx n m a=mx n 5 1/\n<=a*2^m/\a<=32/\y=[some (.str b),some (.int (n:Int)),some (.int (p:Int)),some (.ref l),x4,x5,N,some (.int (r:Int)),some (.int (a:Int)),none],⟨5,J,0,1,by omega,by omega,by omega,J⟩,?_⟩;rintro m y g ⟨rfl,r,a,e1,hn,ba,rfl⟩;refine⟨_,_,J,J,_,J,Qp (λc=>?_) (λc=>?_)⟩;have c:a<n:=by have:=cz c;omega
 obtain⟨m,rfl⟩:∃m',m=m'+1:=by cases m with|zero=>rw[Nat.pow_zero,Nat.mul_one]at hn;omega|succ m=>exact⟨m,J⟩
 refine⟨_,λa4 g z=>⟨m,by omega,z⟩,?_⟩;refine⟨_,_,J,J,_,_,J,J,mF (by omega) (by omega) (by omega) (by omega),?_⟩;refine⟨J,r+1,2*a,?_,?_,by omega,?_⟩;have:mx n (m+1) a=mx n m (2*a)+1:=by show(if a<n then _ else _)=_;rw[kP c]
 omega;rw[Nat.pow_succ]at hn;rw[RG 2 a,Nat.mul_assoc,RG 2];exact hn;have e6:(r:Int)+1=((r+1:Nat):Int):=by omega
 have e7:2*(a:Int)=((2*a:Nat):Int):=by omega
 rw[<-e6,<-e7];rfl;have c:n<=a:=OL λz=>c (cf (by omega));rw[Iu c,Nat.add_zero]at e1;have er:r=bt n:=by rw[e1];exact F9 h1 x
 have rb:=zC x;intro p0 ah;have t0:=zh.new ah (.dK []);refine⟨_,_,J,J,mF (by omega) (by omega) (by omega) (by omega),zd,qA (n:Int) (r:Int),J,cG,p0,.int (kX b n),J,.inl ⟨_,So b,.inl zd,J,(Fi k4 er).symm⟩,?_⟩;have s2:zh g (ji (ji g p0 (.dK [])) p0 (.dK (Zr [] (qA (n:Int) (r:Int))))):=fF ah t0;generalize ji (ji g p0 (.dK [])) p0 (.dK (Zr [] (qA (n:Int) (r:Int))))=H2 at s2⊢;refine⟨_,J,by omega,by omega,?_⟩;let az:Nat->O V->Hp->Prop:=λj o g=>zh H2 g/\IsL g ((Ri j).map λi=>eC ((i:Nat),([]:O dD))) o;refine Zj (lo:=0) (n:=(n:Int).toNat) az ⟨zh.refl H2,J⟩ (λj o g F ⟨_,e⟩=>?_) ?_ ?_;have:=e.length;rw[ag,d9]at this;rw[dm]at F;exact je (by omega);rintro j o H3 F ⟨G,e⟩;refine iZ ?_;refine⟨by show 0<=1000;decide,λq1 H4 k a7 L=>?_⟩;refine⟨by show 2<=1000;decide,λq2 H5 u a6 g5=>?_⟩;rw[gh]at g5;refine⟨G.trans (k.trans u),?_⟩;rw[Q6];exact xn (e.mono (k.trans u)) (wz ⟨q2,_,J,g5,_,_,J,J,_,_,J,⟨q1,[],J,u _ _ L,J⟩,J⟩);rintro d H3 ⟨G,e3⟩ Z aj;rw[dm]at e3;have k:=zh.new aj (.lst d);have L:ji H3 Z (.lst d) Z=some (.lst d):=zd;generalize ji H3 Z (.lst d)=H4 at k L⊢;refine⟨Z,_,J,aK.of L,λl2 H5 u aw g5=>?_⟩;have i5:Is H5 (.tup ((hk b n p).fs.map eC)) (.ref l2):=⟨l2,d,J,g5,by show IsL H5 (((Ri n).map λi=>((i:Nat),([]:O dD))).map eC) d;rw[ck];exact e3.mono (k.trans u)⟩
 have S5:zh g H5:=s2.trans (G.trans (k.trans u));have U:=S5 _ _ M.at';refine⟨l,o,J,aK.of U,λl4 H8 W av g8=>?_⟩;have i8:Is H8 (.tup ((hk b n p).ss.map eS)) (.ref l4):=⟨l4,o,J,g8,by show IsL H8 (((Ri n).map λi=>fJ b n i p).map eS) o;rw[ck];exact M.it.mono (S5.trans W)⟩
 refine⟨by show 4<=1000;decide,λl5 bi R aq U=>?_⟩;exact kk _ _ (M.same.trans (S5.trans (W.trans R))) ⟨l5,_,J,U,_,_,J,J,_,_,J,J,_,_,J,i5.mono (W.trans R),_,_,J,i8.mono R,J⟩
end
end My
namespace My
open PySem
variable{ws:List Nat}{b i p:Nat}
noncomputable def sk:aF->aF|.wor _=>.wor 0|d=>d
structure Sk(h h0:HW):Prop where
 n:h.n=h0.n
 cm:∀i,i<h.n->h.cm i=h0.cm i
 S:∀i,i<h.n->(h.S i).map sk=h0.S i
section
variable{s s0:yh}(e:s.map sk=s0)
include e
theorem Xa:s.length=s0.length:=by rw[<-e,ag]
theorem zY{k:Nat}:s0[k]?=(s[k]?).map sk:=by rw[<-e,bq]
theorem Jh:s0.take p=(s.take p).map sk:=by rw[<-e,List.map_take]
theorem Fq:eG s0 p b=eG s p b:=by unfold eG;rw[Jh e,ck];congr 1;refine QT λd _=>?_;cases d<;>rfl
theorem Gb:Ya s0 p=Ya s p:=by unfold Ya;rw[Jh e,List.countP_map];congr 1;funext d;cases d<;>rfl
theorem E1:dR s0 p=dR s p:=by unfold dR;rw[Jh e,List.countP_map];congr 1;funext d;cases d<;>rfl
theorem Gc:Qr s0 p=Qr s p:=by unfold Qr;rw[Jh e,List.any_map];congr 1;funext d;cases d<;>rfl
end
section
variable{h h0:HW}(K:Sk h h0)
include K
theorem Sk.lev{c:Nat->Nat}{b:Nat}:My.lev h0 c b=My.lev h c b:=by unfold My.lev;rw[<-K.n];congr 1;exact QT λj a=>(Fq (K.S j (cr.mp a)))
theorem Sk.mem{c:Nat->Nat}(a:i<h.n):Zi h0 c i=Zi h c i:=by unfold Zi;rw[K.cm i a,Xa (K.S i a),Gc (K.S i a)]
theorem Sk.lif{c:Nat->Nat}:My.lif h0 c=My.lif h c:=by
 have e:cC h0 c=cC h c:=by unfold cC;rw[<-K.n];refine P0 λj a=>K.mem (cr.mp a)
 unfold My.lif;rw[e];congr 1;refine QT λj a=>?_;rw[Gb (K.S j (cr.mp (fo.mp a).1))]
theorem Sk.can{c:Nat->Nat}(a:i<h.n):qe h0 c i=qe h c i:=by
 unfold qe;rw[zY (K.S i a)];cases q:(h.S i)[c i]? with|none=>rfl| some d=>
   show(match jq (h0.S i) (c i) (sk d)with|none=>true|some g=>Yh h0 c g.1 g.2)=(match jq (h.S i) (c i) d with|none=>true|some g=>Yh h c g.1 g.2);have:jq (h0.S i) (c i) (sk d)=jq (h.S i) (c i) d:=by cases d<;>first|rfl|(show some _=some _;rw[E1 (K.S i a)])
   rw[this];cases jq (h.S i) (c i) d with|none=>rfl| some g=>show Yh h0 c g.1 g.2=Yh h c g.1 g.2;unfold Yh;rw[K.lif,K.lev]
theorem Sk.lgw{c:Nat->Nat}(L:dB h ws c):dB h0 ws c:=by induction L with|nil=>exact .nil|snoc _ a d b=>exact b.snoc (K.n▸a) ((K.can a).trans d)
theorem Sk.vd{x:Dd}:Vd h x↔Vd h0 x:=by unfold Vd;rw[<-K.n];constructor;rintro⟨a,b⟩;exact⟨a,(Xa (K.S _ a)▸b)⟩;rintro⟨a,b⟩;exact⟨a,(Xa (K.S _ a)▸b)⟩
theorem Sk.as{l:Nat->Nat->O Dd}{j:Nat->Nat->Nat}(A:AS h0 l j)(o:∀(i k:Nat)(w:Int),i<h.n->(h.S i)[k]?=some (aF.wor w)->0<=w):AS h l j where
 ok:=λm c i L d g=>(K.can d▸A.ok m c i (K.lgw L) (K.n▸d) (Xa (K.S i d)▸g))
 lo:=λi k x d g n=>by obtain⟨a,b⟩:=A.lo i k x (K.n▸d) (Xa (K.S i d)▸g) n;exact⟨K.vd.mpr a,b⟩
 up:=λi k d g=>A.up i k (K.n▸d) (Xa (K.S i d)▸g)
 wn:=λi k w d f=>⟨(A.wn i k 0 (K.n▸d) (by rw[zY (K.S i d),f];rfl)).1,o i k w d f⟩
theorem Sk.cer{d:Nat->Nat->O Dd}{a c:Nat}{f:Nat->Nat}(C:cX h0 d a c f):cX h d a c f where
 c0:=K.vd.mpr C.c0
 c1:=C.c1
 c2:=λi k x b=>C.c2 i k x (K.n▸b)
 c3:=λi b n g=>C.c3 i (K.n▸b) n (Xa (K.S i b)▸g)
 c4:=λi b=>(Xa (K.S i b)▸C.c4 i (K.n▸b))
end
def DG(s:yh)(b:Nat)(m:Int):Nat:=((Ri s.length).find? λc=>decide (eG s (c+1) b≥m)).getD 1000
def pD(s:yh)(m:Nat):Nat:=((Ri s.length).find? λc=>decide (Ya s (c+1)≥m)).getD 1000
def Oq(B:Bool)(h:HW)(i k:Nat):List Dd:=match(h.S i)[k]? with|some (.awa b m)=>if B then(Ri h.n).map λj=>(j,DG (h.S j) 0 (m/(h.n:Int)))else[(b.toNat%h.n,DG (h.S (b.toNat%h.n)) b.toNat m)]|some (.goo _)=>(Ri h.n).map λj=>(j,pD (h.S j) (dR (h.S i) k+1))|_=>[]
section
variable(h:HW)(en:Nat->Nat->List Dd)
noncomputable def DW(hl:Nat->Nat->Bool)(c:List Nat)(i:Nat):Nat->Nat->Nat|0,k=>k|f+1,k=>if decide (k<(h.S i).length) && !(hl i k) && (en i k).all (λx=>decide (x.2<c.getD x.1 0))then DW hl c i f (k+1)else k
def Ec(hl:Nat->Nat->Bool)(c:List Nat):List Nat:=(Ri h.n).map λi=>DW h en hl c i 40 (c.getD i 0)
def DD:Nat->List Nat->List (List Nat)|0,_=>[]|t+1,c=>c::DD t (Ec h en (λ_ _=>false) c)
def hW(i k:Nat):Nat:=((DD h en 24 (Rk h.n 0)).countP λc=>decide (c.getD i 0<=k))*100+k
noncomputable def nF(p:Nat->Nat->Bool):Bool:=(Ri h.n).all λi=>(Ri (h.S i).length).all λk=>p i k
def pH:Bool:=nF h λi k=>(en i k).all (λx=>decide (x.1<h.n) && decide (x.2<(h.S x.1).length) && decide (hW h en x.1 x.2<hW h en i k)) && (decide (¬k+1<(h.S i).length) ||decide (hW h en i k<hW h en i (k+1)))
end
noncomputable def sF(n:Nat)(B:Nat->Nat)(F:Nat->Nat->List Dd)(f:Nat->Nat)(u:Dd):Bool:=decide (u.1<n) && decide (u.2<B u.1) && decide (f u.1=u.2) && (Ri n).all λi=>decide (f i<=B i) && (Ri (f i)).all (λk=>(F i k).all λx=>decide (x.2<f x.1)) && (decide (i=u.1) ||decide (¬f i<B i) ||(F i (f i)).any λx=>decide (f x.1<=x.2))
theorem j5{n:Nat}{p:Nat->Bool}(h:(Ri n).all p=true)(a:i<n):p i=true:=fi.mp h i (cr.mpr a)
section
variable{h:HW}{en:Nat->Nat->List Dd}
theorem Zf{p:Nat->Nat->Bool}(a:nF h p=true){k:Nat}(v:Vd h (i,k)):p i k=true:=j5 (j5 a v.1) v.2
theorem pS(a:pH h en=true):(∀i k x,i<h.n->k<(h.S i).length->x∈en i k->Vd h x/\hW h en x.1 x.2<hW h en i k)/\∀i k,i<h.n->k+1<(h.S i).length->hW h en i k<hW h en i (k+1):=by constructor;intro i k x c hk d;have q:=Zf a ⟨c,hk⟩;rw[bu]at q;have b:=fi.mp q.1 x d;rw[bu,bu]at b;exact⟨⟨cz b.1.1,cz b.1.2⟩,cz b.2⟩;intro i k c hk;have q:=Zf a ⟨c,RC hk⟩;rw[bu,pu]at q;exact q.2.elim (λz=>kS hk (cz z)) cz
theorem Ac{l f:Nat->Nat}(hl:∀i,i<h.n->l i=(h.S i).length){u:Dd}(a:sF h.n l en f u=true):cX h en u.1 u.2 f:=by unfold sF at a;rw[bu,bu,bu]at a;obtain⟨⟨⟨r,p⟩,o⟩,m⟩:=a;have c:∀i,i<h.n->_:=λi b=>j5 m b;have j:=cz r;refine⟨⟨j,hl _ j▸cz p⟩,cz o,λi k x b hk d=>?_,λi b n g=>?_,λi b=>?_⟩;have q:=c i b;rw[bu,bu]at q;exact cz (fi.mp (j5 q.1.2 hk) x d);have q:=c i b;rw[bu,pu,pu]at q;rcases q.2 with(z|z)|z;exact kS (cz z) n;exact kS (hl i b▸g) (cz z);obtain⟨x,d,y⟩:=im.mp z;exact⟨x,d,cz y⟩;have q:=c i b;rw[bu,bu]at q;exact hl i b▸cz q.1.1
def yV(h:HW)(B:Nat->Nat->List Dd):Bool:=nF h λi k=>match(h.S i)[k]? with| some (.awa b m)=>(match B i k with|[(r,q)]=>decide (r<h.n) && (Ri h.n).all (λj=>decide (j=r) ||(h.S j).all λd=>decide (nH b.toNat d=0)) && (Ri ((h.S r).length+1)).all (λc=>decide (eG (h.S r) c b.toNat≥m)==decide (q<c)) && decide (b.toNat≠1000)|_=>false)|some (.goo _)=>false|some (.wor w)=>(B i k).isEmpty && decide (0<=w)|_=>(B i k).isEmpty
theorem Hu{s:yh}(a:(s.all λd=>decide (nH b d=0))=true):eG s p b=0:=by
 have c:∀l:O aF,(∀d∈l,nH b d=0)->(l.map (nH b)).sum=0:=λl f=>by induction l with|nil=>rfl|cons d r g=>rw[d8,Rn,f d bv,g λx i=>f x (bp _ i)];rfl
 exact c _ λd j=>cz (fi.mp a d (QZ j))
theorem BU{f:Nat->Int}{r:Nat}:∀{n:Nat},(∀j,j<n->j≠r->f j=0)->((Ri n).map f).sum=if r<n then f r else 0|0,_=>rfl| n+1,h=>by rw[Rj,bo,Rm,(BU λj a=>h j (by omega))];simp;by_cases e:n=r;subst e;rw[kr (f9 _),kP (dz _)];omega;rw[h n (dz _) e];by_cases q:r<n;rw[kP q,kP (by omega)];omega;rw[kr q,kr (by omega)];omega
theorem xH{c:Nat->Nat}{d:aF}(e:(h.S i)[c i]?=some d)(n:jq (h.S i) (c i) d=none):qe h c i=true:=by unfold qe;rw[e];simp only[n]
theorem Fh(a:pH h en=true)(b:yV h en=true):AS h en (hW h en) where
 lo:=(pS a).1
 up:=(pS a).2
 wn:=λi k w o s=>by have q:=Zf b ⟨o,(d7.mp s).1⟩;rw[s]at q;rw[bu]at q;exact⟨List.isEmpty_iff.mp q.1,cz q.2⟩
 ok :=λM c i L o t=>by
  have q:=Zf b ⟨o,t⟩;have e:=cg t;rw[e]at q;generalize (h.S i)[c i]=d at e q;have f:jq (h.S i) (c i) d=none->(en i (c i)).isEmpty=true->(qe h c i=true↔∀x∈en i (c i),x.2<c x.1):=λF E=>by rw[xH e F,List.isEmpty_iff.mp E];exact⟨λ_ x l=>(nomatch l),λ_=>rfl⟩
  cases d with| awa g m=>
    simp only at q;split at q
    rename_i r p G
    rw[G];simp only[bu,kU]at q;obtain⟨⟨⟨B,A⟩,v⟩,u⟩:=q;have H:lev h c g.toNat=eG (h.S r) (c r) g.toNat:=by unfold lev;rw[BU λj D n=>?_,kP B];have z:=j5 A D;rw[pu]at z;exact Hu (z.resolve_left λy=>n (cz y))
    have C:=(L.low r).1;have z:=j5 v (i:=c r) (by omega);rw[beq_iff_eq]at z;have:qe h c i=decide (eG (h.S r) (c r) g.toNat≥m):=by unfold qe;rw[e];show Yh h c g.toNat m=_;unfold Yh;rw[kr u,H]
    rw[this,z,kU];exact⟨λy x l=>(ai.mp l▸y),λy=>y _ (ai.mpr J)⟩;cases q|goo x=>cases q|wor x=>exact f J (by rw[bu]at q;exact q.1)|_=>exact f J q
def uB(h:HW)(B:Nat->Nat->List Dd)(a b:Nat):Bool:=decide (0<h.n) && decide (a+1<b) && (Ri h.n).all (λj=>(match(h.S j)[a+1]? with|some (.awa x m)=>decide (x=0) && decide (m=(h.n:Int))|_=>false) && (Ri ((h.S j).length+1)).all λc=>decide (eG (h.S j) c 0=(if a<c then 1 else 0)+(if b<c then 1 else 0))) &&
 nF h λi k=>match(h.S i)[k]? with|some (.awa x m)=>decide (x=0) && (decide (m=(h.n:Int)) && decide (B i k=(Ri h.n).map λj=>(j,a)) ||decide (m=2*(h.n:Int)) && decide (B i k=(Ri h.n).map λj=>(j,b)))|some (.goo _)=>false|some (.wor w)=>(B i k).isEmpty && decide (0<=w)|_=>(B i k).isEmpty
theorem vF{f:Nat->Int}{m:Int}:∀{n:Nat},(∀j,j<n->f j<=m)->((Ri n).map f).sum<=m*n/\(((Ri n).map f).sum≥m*n↔∀j,j<n->f j=m)
 |0,_=>⟨by simp,by simp⟩
 | n+1,h=>by
   obtain⟨d,b⟩:=vF (n:=n) λj a=>h j (by omega);have c:=h n (dz _);rw[Rj,bo,Rm];simp only[d8,QU,Rn,List.sum_nil];have e:m*((n+1:Nat))=m*n+m:=by rw[Po,Int.mul_add];omega
   rw[e];refine⟨by omega,λz j a=>?_,λz=>?_⟩;by_cases q:j=n;rw[q];omega;exact b.mp (by omega) j (by omega);have:=b.mpr λj a=>z j (by omega);have:=z n (dz _);omega
theorem Et{a:Nat}(r:pH h en=true)(s:uB h en a b=true):AS h en (hW h en):=by
 unfold uB at s;rw[bu,bu,bu,kU,kU]at s;obtain⟨⟨⟨n0,ab⟩,U⟩,M⟩:=s;have D:∀j,j<h.n->(∃x m,(h.S j)[a+1]?=some (.awa x m)/\x=0/\m=h.n)/\∀c,c<=(h.S j).length->eG (h.S j) c 0=(if a<c then 1 else 0)+(if b<c then 1 else 0):=λj f=>by
  have q:=j5 U f;rw[bu]at q;constructor;have v:=q.1;split at v
  rename_i x m e
  rw[bu,kU,kU]at v;exact⟨x,m,e,v.1,v.2⟩;cases v;intro c o;exact cz (j5 q.2 (by omega))
 have N:∀{p c},dB h p c->lev h c 0=((Ri h.n).map λj=>(if a<c j then(1:Int)else 0)+(if b<c j then 1 else 0)).sum:=λ{p c} L=>by unfold lev;congr 1;refine QT λj f=>(D j (cr.mp f)).2 _ (L.low j).1
 have one:∀{c:Nat->Nat},((∃i,i<h.n/\a+1<c i)->∀j,j<h.n->a<c j)->(((Ri h.n).map λj=>(if a<c j then(1:Int)else 0)+(if b<c j then 1 else 0)).sum≥h.n↔∀j,j<h.n->a<c j):=λ{c} t=>by
  constructor;intro g;refine OL λz=>?_;have no:∀i,i<h.n->¬b<c i:=λi u y=>z (t ⟨i,u,by omega⟩);obtain⟨R,H⟩:=vF (f:=λj=>(if a<c j then(1:Int)else 0)+(if b<c j then 1 else 0)) (m:=1) λj f=>by rw[kr (no j f)];split<;>omega
  refine z λj f=>?_;have q:=H.mp (by omega) j f;rw[kr (no j f)]at q;by_cases y:a<c j;exact y;rw[kr y]at q;omega;intro z;have F:∀n,n<=h.n->((Ri n).map λj=>(if a<c j then(1:Int)else 0)+(if b<c j then 1 else 0)).sum≥n:=by intro n;induction n with|zero=>exact λ_=>by simp| succ n G=>intro hn;have y:=z n (by omega);rw[Rj,bo,Rm];simp;split<;>omega
  exact F h.n (au _)
 have t:∀{p c},dB h p c->(∃i,i<h.n/\a+1<c i)->∀j,j<h.n->a<c j:=by
  intro p c L;induction L with|nil=>rintro⟨i,_,z⟩;exact kS z (gw _)| @snoc p c i L u o G=>
    have C:∀j,c j<=aR c i j:=λj=>by
     unfold aR;split
     rename_i z;rw[z];exact Ry _
     exact au _
    rintro⟨E,B,z⟩ j f;refine dc ?_ (C j);by_cases q:a+1<c E;exact G ⟨E,B,q⟩ j f;have W:=OL λy=>by unfold aR at z;rw[kr y]at z;exact q z
    subst W;unfold aR at z;rw[kP J]at z;have Z:c E=a+1:=by omega
    obtain⟨⟨x,m,e,rfl,rfl⟩,_⟩:=D E B;unfold qe at o;rw[Z,e]at o;have o:Yh h c 0 h.n=true:=o;unfold Yh at o;rw[kr (by decide),N L]at o;exact(one G).mp (cz o) j f
 refine⟨λp c i L u Q=>?_,(pS r).1,(pS r).2,λi k w u P=>?_⟩;have q:=Zf M ⟨u,Q⟩;have e:=cg Q;rw[e]at q;generalize (h.S i)[c i]=d at e q;have l:jq (h.S i) (c i) d=none->(en i (c i)).isEmpty=true->(qe h c i=true↔∀x∈en i (c i),x.2<c x.1):=λR H=>by rw[xH e R,List.isEmpty_iff.mp H];exact⟨λ_ x A=>(nomatch A),λ_=>rfl⟩
 cases d with| awa x m=>
   simp at q;obtain⟨rfl,q⟩:=q;have X:qe h c i=decide (lev h c 0≥m):=by unfold qe;rw[e];show Yh h c 0 m=_;unfold Yh;rw[kr (by decide)]
   rw[X,kU,N L];rcases q with⟨rfl,q⟩|⟨rfl,q⟩;rw[one (t L),q];exact⟨λy x A=>by obtain⟨j,f,rfl⟩:=bz.mp A;exact y j (cr.mp f),λy j f=>y (j,a) (QX (cr.mpr f))⟩;rw[q];have S:=(vF (f:=λj=>(if a<c j then(1:Int)else 0)+(if b<c j then 1 else 0)) (m:=2) (n:=h.n) λj f=>by split<;>split<;>omega).2
   rw[S];constructor;intro y x A;obtain⟨j,f,rfl⟩:=bz.mp A;have:=y j (cr.mp f);refine OL λz=>?_;rw[kr z]at this;split at this<;>omega;intro y j f;have y:b<c j:=y (j,b) (QX (cr.mpr f));rw[kP y,kP (by omega)];rfl|goo x=>cases q|wor x=>exact l J (by rw[bu]at q;exact q.1)|_=>exact l J q
 have q:=Zf M ⟨u,(d7.mp P).1⟩;rw[P]at q;rw[bu]at q;exact⟨List.isEmpty_iff.mp q.1,cz q.2⟩
def uC(h:HW)(B:Nat->Nat->List Dd):Bool:=(Ri h.n).all (λj=>h.cm j && (h.S j).all λd=> !(j0 d)) && nF h λi k=>match(h.S i)[k]? with|some (.goo _)=>decide (B i k=(Ri h.n).map λj=>(j,pD (h.S j) (dR (h.S i) k+1))) && (Ri h.n).all (λj=>decide (pD (h.S j) (dR (h.S i) k+1)<(h.S j).length) && (Ri ((h.S j).length+1)).all λc=>decide (Ya (h.S j) c≥dR (h.S i) k+1)==decide (pD (h.S j) (dR (h.S i) k+1)<c))|some (.awa _ _)=>false|some (.wor w)=>(B i k).isEmpty && decide (0<=w)|_=>(B i k).isEmpty
theorem K5:∀(a:List Int)(m:Int),∃l,L2.eZ (some m) a=some l/\l<=m/\(∀k∈a,l<=k)/\(l=m\/l∈a)|[],m=>⟨m,J,fm _,λk hk=>(nomatch hk),.inl J⟩| k::r,m=>by by_cases e:k<m;obtain⟨l,f,g,d,c⟩:=K5 r k;refine⟨l,?_,by omega,λj b=>(bc.mp b).elim (λz=>by omega) (d j),.inr (c.elim (λz=>z▸bv) (bp _))⟩;simp only[L2.eZ,kP e,f];obtain⟨l,f,g,d,c⟩:=K5 r m;refine⟨l,?_,g,λj b=>(bc.mp b).elim (λz=>by omega) (d j),c.imp id (bp _)⟩;simp only[L2.eZ,kr e,f]
theorem FL(b:List Int)(m:Int):(match L2.eZ none b with|none=>true|some l=>decide (l≥m))=true↔∀k∈b,m<=k:=by cases b with|nil=>exact⟨λ_ k hk=>(nomatch hk),λ_=>rfl⟩| cons a r=>obtain⟨l,f,g,d,c⟩:=K5 r a;show(match L2.eZ (some a) r with|none=>true|some l=>decide (l≥m))=true↔_;rw[f];rw[kU];constructor;intro z k hk;rcases bc.mp hk with y|y;omega;have:=d k y;omega;intro z;rcases c with y|y;have:=z a bv;omega;exact z l (bp _ y)
theorem Eu(r:pH h en=true)(s:uC h en=true):AS h en (hW h en):=by
 unfold uC at s;rw[bu]at s;obtain⟨C,u⟩:=s;have g:∀j,j<h.n->h.cm j=true/\∀p,Qr (h.S j) p=false:=λj a=>by have q:=j5 C a;rw[bu]at q;refine⟨q.1,λp=>?_⟩;unfold Qr;rw[PJ];intro d H;have:=fi.mp q.2 d (QZ H);simpa using this
 refine⟨λR c i L o A=>?_,(pS r).1,(pS r).2,λi k w o v=>?_⟩;have q:=Zf u ⟨o,A⟩;have e:=cg A;rw[e]at q;generalize (h.S i)[c i]=d at e q;have b:jq (h.S i) (c i) d=none->(en i (c i)).isEmpty=true->(qe h c i=true↔∀x∈en i (c i),x.2<c x.1):=λN M=>by rw[xH e N,List.isEmpty_iff.mp M];exact⟨λ_ x n=>(nomatch n),λ_=>rfl⟩
 cases d with| goo x=>
   simp only[bu,kU]at q;obtain⟨E,D⟩:=q;have P:qe h c i=(match lif h c with|none=>true|some l=>decide (l≥(dR (h.S i) (c i))+1)):=by unfold qe;rw[e];show Yh h c 1000 _=_;unfold Yh;rw[kP J]<;>rfl
   rw[P];unfold lif;rw[FL,E];have f:∀j,j<h.n->pD (h.S j) (dR (h.S i) (c i)+1)<(h.S j).length/\(Ya (h.S j) (c j)≥dR (h.S i) (c i)+1↔pD (h.S j) (dR (h.S i) (c i)+1)<c j):=λj a=>by have z:=j5 D a;rw[bu,kU]at z;have G:=(L.low j).1;have y:=j5 z.2 (i:=c j) (by omega);rw[beq_iff_eq]at y;exact⟨z.1,by rw[<-kU (p:=_≥_),y,kU]⟩
   constructor;intro y x n;obtain⟨j,a,rfl⟩:=bz.mp n;have a:=cr.mp a;obtain⟨Q,B⟩:=f j a;by_cases t:c j<(h.S j).length;have F:j∈cC h c:=by unfold cC Zi;rw[fo,cr,(g j a).1,(g j a).2,cf t];exact⟨a,J⟩
   have:=y _ (QX F);exact B.mp (by omega);show pD _ _<c j;omega;intro y k hk;obtain⟨j,a,rfl⟩:=bz.mp hk;have a:=cr.mp (fo.mp a).1;have:=(f j a).2.mpr (y (j,_) (QX (cr.mpr a)));omega|awa x m=>cases q|wor x=>exact b J (by rw[bu]at q;exact q.1)|_=>exact b J q
 have q:=Zf u ⟨o,(d7.mp v).1⟩;rw[v]at q;rw[bu]at q;exact⟨List.isEmpty_iff.mp q.1,cz q.2⟩
end
def fA(kd:Str)(n p i:Nat):yh:=(Ri p).flatMap λq=>.wor ((2*(i*p+q):Nat):Int)::.say "come"::kQ kd n i q++[.say "go",.wor ((2*(i*p+q)+1:Nat):Int)]
noncomputable def iC(p i:Nat):yh:=(Ri p).flatMap λq=>[.wor ((2*(i*p+q):Nat):Int),.say "come",.com 0,.goo 0,.say "go",.wor ((2*(i*p+q)+1:Nat):Int)]
def hB(kd:Str)(n p:Nat):HW:=⟨n,λi=>(fA kd n p i).map sk,λ_=>false⟩
def hP(n p:Nat):HW:=⟨n,λi=>(iC p i).map sk,λ_=>true⟩
noncomputable def lC:Option aF->Bool|some (.wor _)=>true|some (.say _)=>true|_=>false
def gW(s:yh):List Nat:=(Ri s.length).filter λk=>lC s[k]?
def cN(kd:Str)(n p:Nat):List (Dd×Dd):=(Ri n).flatMap λi=>((gW (fA kd n p i)).zip (gW (iC p i))).map λz=>((i,z.1),(i,z.2))
noncomputable def lP(x:Nat)(f:Nat->Bool):Bool:=[0,1,2,3,4,5,6,7,8,9,10,11,12,13,14,15,16,17,18,19,20,21,22,23,24,25,26,27,28,29,30,31,32,33,34,35,36,37,38,39,40,1000].any λy=>decide (x=y) && f y
noncomputable def fL{α:Type}(g:α->(α->Bool)->Bool):List α->(List α->Bool)->Bool|[],f=>f []|x::r,f=>g x λy=>fL g r λs=>f (y::s)
noncomputable def fP{α B:Type}(g:α->(α->Bool)->Bool)(g':B->(B->Bool)->Bool)(x:α×B)(f:α×B->Bool):Bool:=g x.1 λa=>g' x.2 λb=>f (a,b)
def nz{α:Type}(g:α->(α->Bool)->Bool):Prop:=∀x f,g x f=true->f x=true
theorem Y5:nz lP:=λx f h=>by obtain⟨y,_,z⟩:=im.mp h;rw[bu]at z;rw[cz z.1];exact z.2
theorem Q7{α:Type}{g:α->(α->Bool)->Bool}(G:nz g):nz (fL g)|[],f,h=>h|x::r,f,h=>Q7 G r (λs=>f (x::s)) (G x (λy=>fL g r λs=>f (y::s)) h)
theorem sN{α c:Type}{g:α->(α->Bool)->Bool}{g':c->(c->Bool)->Bool}(G:nz g)(d:nz g'):nz (fP g g'):=λx f h=>d x.2 (λb=>f (x.1,b)) (G x.1 (λa=>g' x.2 λb=>f (a,b)) h)
abbrev lT:=List (List (List Dd))
def Dz(B:Bool)(h:HW):lT:=(Ri h.n).map λi=>(Ri (h.S i).length).map λk=>Oq B h i k
noncomputable def fD(T:lT)(i k:Nat):List Dd:=(T.getD i []).getD k []
def fT:lT->(lT->Bool)->Bool:=fL (fL (fL (fP lP lP)))
theorem sO:nz fT:=Q7 (Q7 (Q7 (sN Y5 Y5)))
noncomputable def tP(h:HW):List Nat:=(Ri h.n).map λi=>(h.S i).length
theorem Ao{h:HW}:∀i,i<h.n->(tP h).getD i 0=(h.S i).length:=λi a=>by unfold tP;rw[fj,bq,QF a];rfl
def yP(T:lT)(B:List Nat)(u:Dd)(c:List Nat)(i:Nat):Nat->Nat->Nat|0,k=>k|f+1,k=>if decide (k<B.getD i 0) && !(decide (i=u.1) && decide (k=u.2)) && (fD T i k).all (λx=>decide (x.2<c.getD x.1 0))then yP T B u c i f (k+1)else k
def Ed(n:Nat)(T:lT)(B:List Nat)(u:Dd)(c:List Nat):List Nat:=(Ri n).map λi=>yP T B u c i 40 (c.getD i 0)
def so(n:Nat)(T:lT)(B:List Nat)(u:Dd):Nat->List Nat->(List Nat->Bool)->Bool|0,c,f=>f c|t+1,c,f=>fL lP (Ed n T B u c) λc'=>if c'=c then f c else so n T B u t c' f
theorem xB{n:Nat}{T:lT}{a:List Nat}{u:Dd}{f:List Nat->Bool}:∀{t:Nat}{c:List Nat},so n T a u t c f=true->∃c',f c'=true|0,c,h=>⟨c,h⟩| t+1,c,h=>by have h:=Q7 Y5 _ _ h;split at h;exact⟨c,h⟩;exact xB h
abbrev TB(kd:Str)(n p:Nat):lT:=Dz (decide (kd="shared")) (hB kd n p)
abbrev TP(n p:Nat):lT:=Dz false (hP n p)
def qD(kd:Str)(n p:Nat):Nat->Nat->List Dd:=fD (TB kd n p)
def qC(n p:Nat):Nat->Nat->List Dd:=fD (TP n p)
noncomputable def pX(b:Int):aF->Bool|.rai x k=>decide (0<=x) && decide (x<b) && decide (k=1)|.awa x m=>decide (0<=x) && decide (x<b) && decide (1<=m) && decide (m<=9999)|.wor _=>true|.say x=>decide (x="come") ||decide (x="go")|_=>false
noncomputable def EY:Option aF->Option aF->Bool|some (.wor a),some (.wor b)=>decide (a=b)|some (.say _),some (.say _)=>true|_,_=>false
noncomputable def yR:Option aF->Bool|some (.wor _)=>true|_=>false
def fQ:List (Dd×Dd)->(List (Dd×Dd)->Bool)->Bool:=fL (fP (fP lP lP) (fP lP lP))
theorem pT:nz fQ:=Q7 (sN (sN Y5 Y5) (sN Y5 Y5))
def OE(kd:Str)(n p:Nat):Bool:=fT (TB kd n p) λT=>pH (hB kd n p) (fD T) && (if kd="shared" then uB (hB kd n p) (fD T) 2 (if p=2 then 8 else 100)else yV (hB kd n p) (fD T))
def OD(n p:Nat):Bool:=fT (TP n p) λT=>pH (hP n p) (fD T) && uC (hP n p) (fD T)
def OC(kd:Str)(n p:Nat):Bool:=fT (TB kd n p) λT=>fT (TP n p) λB=>fL lP (tP (hB kd n p)) λl=>fL lP (tP (hP n p)) λl'=>fQ (cN kd n p) λps=>ps.all λu=>so n T l u.1 20 (Rk n 0) λc=>so n B l' u.2 20 (Rk n 0) λc'=>sF n (λi=>l.getD i 0) (fD T) (λi=>c.getD i 0) u.1 && sF n (λi=>l'.getD i 0) (fD B) (λi=>c'.getD i 0) u.2 && ps.all λv=>decide (c.getD v.1.1 0<=v.1.2)==decide (c'.getD v.2.1 0<=v.2.2)
def OB(kd:Str)(n p:Nat):Bool:=fQ (cN kd n p) λps=>ps.all λu=>ps.all λv=>decide (u.1=v.1)==decide (u.2=v.2)
def OA(kd:Str)(n p:Nat):Bool:=fQ (cN kd n p) λps=>(ps.all λu=>EY ((fA kd n p u.1.1)[u.1.2]?) ((iC p u.2.1)[u.2.2]?)) && nF (hB kd n p) (λi k=> !(yR (((hB kd n p).S i)[k]?)) ||ps.any λu=>decide (u.1=(i,k))) && nF (hP n p) (λi k=> !(yR (((hP n p).S i)[k]?)) ||ps.any λu=>decide (u.2=(i,k)))
def tV(kd:Str)(n p:Nat):Bool:=decide ((cN kd n p).length=4*n*p) && (Ri n).all λi=>(fA kd n p i).all (pX (kX kd n)) && decide ((fA kd n p i).length<=80)
noncomputable def lY(c:Str->Nat->Nat->Bool):Bool:=(["shared","own","spread","tree"]:List Str).all λkd=>[2,3,4,5].all λn=>[1,2].all λp=>c kd n p
theorem GW:lY OE=true:=by decide+kernel
theorem GX:lY (λ_=>OD)=true:=by decide+kernel
theorem GY:lY OC=true:=by decide+kernel
theorem GZ:lY OB=true:=by decide+kernel
theorem wK:lY OA=true:=by decide+kernel
theorem A7:lY tV=true:=by decide+kernel
noncomputable def lb(f:Nat->Int):aF->aF|.wor t=>.wor (f t.toNat)|d=>d
def iV(kd:Str)(n p:Nat)(f:Nat->Int)(i:Nat):yh:=(fA kd n p i).map (lb f)
def Jy(p:Nat)(f:Nat->Int)(i:Nat):yh:=(iC p i).map (lb f)
def j9(kd:Str)(n p:Nat)(f:Nat->Int):aC:=⟨kX kd n,0,(Ri n).map λi=>((i:Nat),([]:List dD)),(Ri n).map (iV kd n p f)⟩
def km(n p:Nat)(f:Nat->Int):aC:=⟨0,1,(Ri n).map λi=>((i:Nat),([(0,"both")]:List dD)),(Ri n).map (Jy p f)⟩
theorem zF(f:Nat->Int)(s:yh):(s.map (lb f)).map sk=s.map sk:=by rw[ck];refine QT λd _=>?_;cases d<;>rfl
theorem E2(f:Nat->Int)(d:Option aF):lC (d.map (lb f))=lC d:=by cases d with|none=>rfl|some d=>cases d<;>rfl
theorem Ae(f:Nat->Int)(s:yh):gW (s.map (lb f))=gW s:=by unfold gW;rw[ag];congr 1;funext k;rw[bq,E2]
theorem Zk{α a:Type}{g:Nat->a}{n:Nat}{d:a}(b:i<n):((Ri n).map g).getD i d=g i:=by rw[fj,bq,QF b];rfl
structure qL(kd:Str)(n p:Nat):Prop where
 k4:K4 kd
 n2:2<=n
 n5:n<=5
 p1:1<=p
 p2:p<=2
section
variable{kd:Str}{n:Nat}(h:qL kd n p)
include h
theorem qL.all{c:Str->Nat->Nat->Bool}(a:lY c=true):c kd n p=true:=by
 have d:n∈[2,3,4,5]:=by have:=h.n2;have:=h.n5;simp;omega
 have b:p∈[1,2]:=by have:=h.p1;have:=h.p2;simp;omega
 exact fi.mp (fi.mp (fi.mp a kd (by rcases h.k4 with rfl|rfl|rfl|rfl<;>simp)) n d) p b
variable(f:Nat->Int)
omit h in
theorem qV(hi:i<n):(aB (j9 kd n p f)).S i=iV kd n p f i:=by show((Ri n).map (iV kd n p f)).getD (((Ri n).map λi=>((i:Nat),([]:List dD))).getD i (0,[])).1 []=_;rw[Zk (α:=Nat) hi,Zk (α:=Nat) hi]
omit h in
theorem qW(hi:i<n):(aB (km n p f)).S i=Jy p f i:=by show((Ri n).map (Jy p f)).getD (((Ri n).map λi=>((i:Nat),([(0,"both")]:List dD))).getD i (0,[])).1 []=_;rw[Zk (α:=Nat) hi,Zk (α:=Nat) hi]
omit h in
theorem pO:(aB (j9 kd n p f)).n=n:=by show((Ri n).map _).length=n;rw[ag,d9]
omit h in
theorem pP:(aB (km n p f)).n=n:=by show((Ri n).map _).length=n;rw[ag,d9]
omit h in
theorem AX:Sk (aB (j9 kd n p f)) (hB kd n p) where
 n:=pO f
 cm:=λi hi=>by rw[pO]at hi;show iH (((Ri n).map λi=>((i:Nat),([]:List dD))).getD i (0,[])).2=false;rw[Zk (α:=Nat) hi];rfl
 S :=λi hi=>by rw[pO]at hi;rw[qV f hi];exact zF f _
omit h in
theorem AY:Sk (aB (km n p f)) (hP n p) where
 n:=pP f
 cm:=λi hi=>by rw[pP]at hi;show iH (((Ri n).map λi=>((i:Nat),([(0,"both")]:List dD))).getD i (0,[])).2=true;rw[Zk (α:=Nat) hi];rfl
 S :=λi hi=>by rw[pP]at hi;rw[qW f hi];exact zF f _
omit h in
theorem AU{s:yh}{k:Nat}{w:Int}(e:(s.map (lb f))[k]?=some (.wor w)):∃t:Int,s[k]?=some (.wor t)/\w=f t.toNat:=by rw[bq]at e;obtain⟨d,hd,e⟩:=df.mp e;cases d with|wor t=>exact⟨t,hd,by injection e with e;exact e.symm⟩|_=>cases e
def Bd(f:Nat->Int):Prop:=∀t,0<=f t/\f t<=5
variable(hf:Bd f)
abbrev DF(kd:Str)(n p:Nat):Nat->Nat->Nat:=hW (hB kd n p) (qD kd n p)
abbrev DE(n p:Nat):Nat->Nat->Nat:=hW (hP n p) (qC n p)
include hf
theorem rY:AS (aB (j9 kd n p f)) (qD kd n p) (DF kd n p):=by have q:=sO _ _ (h.all GW);rw[bu]at q;obtain⟨b,a⟩:=q;refine(AX f).as ?_ λi k w d e=>?_;by_cases c:kd="shared";rw[kP c]at a;exact Et b a;rw[kr c]at a;exact Fh b a;rw[pO]at d;rw[qV f d]at e;obtain⟨t,_,rfl⟩:=AU f e;exact(hf _).1
theorem rZ:AS (aB (km n p f)) (qC n p) (DE n p):=by have q:=sO _ _ (h.all GX);rw[bu]at q;obtain⟨c,b⟩:=q;refine(AY f).as (Eu c b) λi k w a e=>?_;rw[pP]at a;rw[qW f a]at e;obtain⟨t,_,rfl⟩:=AU f e;exact(hf _).1
omit hf
theorem A6:∀u∈cN kd n p,∃c c':Nat->Nat,cX (aB (j9 kd n p f)) (qD kd n p) u.1.1 u.1.2 c/\cX (aB (km n p f)) (qC n p) u.2.1 u.2.2 c'/\∀v∈cN kd n p,(c v.1.1<=v.1.2↔c' v.2.1<=v.2.2):=by intro u j;have q:=sO _ _ (h.all GY);have q:=sO _ _ q;have q:=Q7 Y5 _ _ q;have q:=Q7 Y5 _ _ q;have q:=pT _ _ q;have q:=fi.mp q u j;obtain⟨c,q⟩:=xB q;obtain⟨c',q⟩:=xB q;rw[bu,bu]at q;obtain⟨⟨d,b⟩,a⟩:=q;refine⟨λi=>c.getD i 0,λi=>c'.getD i 0,(AX f).cer (Ac Ao d),(AY f).cer (Ac Ao b),λv g=>?_⟩;have:=fi.mp a v g;have:=eq_of_beq this;exact decide_eq_decide.mp this
end
end My
namespace My
open PySem PySem.Spec PyProof.Rows L2
variable{c cP cR cU cW f p:lv}{A:mf}{base:O7}{G' H:Hp}{outer:List Env}{l ws:List Nat}{i:Nat}{hl:Nat->Nat->Bool}{P:R0}{s0:Sh}{mg:Str->Option Sr}{v:V}{Q:VK}{cdv:Sr}{w:SX}{E:XK}
abbrev Yq:Sj:=bI 73
noncomputable def tN(x:Int):Nat->Int|0=>x|k+1=>tN x k/6
def fN(x:Int)(k:Nat):Int:=tN x k%6
def yS(kd:Str)(n p i q:Nat):List aF:=.wor ((2*(i*p+q):Nat):Int)::.say "come"::kQ kd n i q++[.say "go",.wor ((2*(i*p+q)+1:Nat):Int)]
noncomputable def EF(p i q:Nat):List aF:=[.wor ((2*(i*p+q):Nat):Int),.say "come",.com 0,.goo 0,.say "go",.wor ((2*(i*p+q)+1:Nat):Int)]
def lZ(kd:Str)(n p:Nat)(f:Nat->Int)(i q:Nat):List aF:=((Ri q).flatMap (yS kd n p i)).map (lb f)
def mG(p:Nat)(f:Nat->Int)(i q:Nat):List aF:=((Ri q).flatMap (EF p i)).map (lb f)
noncomputable def xO:aF->Bool|.wor _=>false|_=>true
theorem zE{f:Nat->Int}:∀{s:List aF},(∀d∈s,xO d=true)->s.map (lb f)=s|[],_=>rfl| d::r,h=>by rw[d8,zE λx a=>h x (bp _ a)];have:=h d bv;cases d<;>first|rfl|cases this
theorem GL{kd:Str}{n q:Nat}:∀d∈kQ kd n i q,xO d=true:=by
 have g:∀f k b,∀d∈mj n i q f k b,xO d=true:=λf=>by
  induction f with|zero=>exact λk b d a=>nomatch a| succ f c=>
    intro k b d a;unfold mj at a;split at a;rcases bc.mp a with rfl|a;rfl;rcases bc.mp a with rfl|a;rfl;exact c _ _ d a
    nomatch a
 intro d a;unfold kQ at a;split at a;unfold DT at a;simp at a;rcases a with rfl|rfl<;>rfl;split at a;rcases bc.mp a with rfl|a;rfl;obtain⟨j,_,rfl⟩:=bz.mp a;rfl;split at a;exact g _ _ _ d a;rcases cp.mp a with a|a;rcases cp.mp a with a|a;obtain⟨j,_,rfl⟩:=bz.mp a;rfl;rw[ai.mp a];rfl;split at a
 nomatch a
 rw[ai.mp a];rfl
theorem Dm(kd:Str)(n p:Nat)(f:Nat->Int)(i q:Nat):lZ kd n p f i (q+1)=lZ kd n p f i q++[.wor (f (2*(i*p+q))),.say "come"]++kQ kd n i q++[.say "go",.wor (f (2*(i*p+q)+1))]:=by unfold lZ;rw[Rj,P7,bo,P9];unfold yS;rw[bo,d8,d8,zE GL];simp only[d8,QU,lb,dm,PK,PL,Ra]
theorem Dh(p:Nat)(f:Nat->Int)(i q:Nat):mG p f i (q+1)=mG p f i q++[.wor (f (2*(i*p+q))),.say "come",.com 0,.goo 0,.say "go",.wor (f (2*(i*p+q)+1))]:=by unfold mG;rw[Rj,P7,bo,P9];rfl
theorem B3(kd:Str){n p:Nat}(f:Nat->Int){i:Nat}(b:i<n)(a:n<=16):∀q,(lZ kd n p f i q).length<=20*q|0=>au 0| q+1=>by have:=B3 kd (p:=p) f b a q;have:=Jt (kd:=kd) (q:=q) b a;rw[Dm];simp;omega
theorem CH(p:Nat)(f:Nat->Int)(i:Nat):∀q,(mG p f i q).length=6*q|0=>rfl| q+1=>by have:=CH p f i q;rw[Dh];simp;omega
theorem sX{d:Int}(h:H p=some (.tup [.str "work",.int d])):Is H (eD (.wor d)) (.ref p):=⟨p,_,J,h,ft J J⟩
theorem Hi(h:H p=some (.tup [.str "come",.int 0])):Is H (eD (.com 0)) (.ref p):=⟨p,_,J,h,ft J J⟩
theorem Hl(h:H p=some (.tup [.str "go",.int 0])):Is H (eD (.goo 0)) (.ref p):=⟨p,_,J,h,ft J J⟩
inductive pe(vs:List V)(H:Hp)(Q:VK)(e0:XK):Prop| mk:∀(t:lv) (kd:Str) (n p:Nat) (x:Int),vs=[.ref t,.str kd,.int (n:Int),.int (p:Int)]->qL kd n p->H t=some (.lst [.int x])->
   (∀l a b H',(∀c o,c≠t->H c=some o->H' c=some o)->H' t=some (.lst [.int (tN x (2*(n*p)))])->H' l=some (.tup [a,b])->Is H' (eH (j9 kd n p (fN x))) a->Is H' (eH (km n p (fN x))) b->Q (.ref l) H')->pe vs H Q e0
section
variable{K:O4}
theorem Kb:aA ["tape","kind","n","p","boxed","plain","i","row","other","q","first","last","boxes","one"] ["tape","kind","n","p"] (ze Yq):=.of
theorem ML(D:bP K mg "_law_aworked" Yq)(T:Txt K mg)(oD:Ok P w K mg base "_law_adigit" 1 ["tape","many"] mr)(oA:Ok P w K mg base "_law_aphase" 1 ["kind","n","i","q"] mv)(oM:Ok P w K mg base "_law_amade" 2 ["kind","n","p"] pf):Ok P w K mg base "_law_aworked" 3 ["tape","kind","n","p"] pe:=by
 refine qf (k:=2) D Kb ?_;rintro f0 dG A b4 s0 H vs Q E hr ⟨t,u,n,p,x,rfl,f,ht,kk⟩ X;have S:=Kb.nd;have r1:=hr.mono (show 1<=2 by decide);have n5:=f.n5;have n2:=f.n2;have p2:=f.p2;refine⟨_,zc (zn (i:=4) S (yq zb)) (zc (zn (i:=5) S (yq zb)) (zc (xy RY J (wc (by rfl) T.range (za (pv 2) zb)) (zp (i:=6) S) (zc (zn (i:=7) S (yq zb)) (zc (zn (i:=8) S (yq zb)) (zc (xy RY J (wc (by rfl) T.range (za (pv 3) zb)) (zp (i:=9) S) (zc (zn (i:=10) S (zx (za zr (za (yb oD r1 (za (pv 0) (za zf zb))) zb)))) (zc (zn (i:=11) S (zx (za zr (za (yb oD r1 (za (pv 0) (za zf zb))) zb)))) (zc (zn (i:=7) S (yd Zd (yd Zd (yd Zd (pv 7) (yq (za (pv 10) (za (zx (za zr (za zr zb))) zb)))) (yb oA r1 (za (pv 1) (za (pv 2) (za (pv 6) (za (pv 9) zb)))))) (yq (za (zx (za zr (za zr zb))) (za (pv 11) zb))))) (zg (zn (i:=8) S (yd Zd (pv 8) (yq (za (pv 10) (za (zx (za zr (za zr zb))) (za (zx (za zr (za zf zb))) (za (zx (za zr (za zf zb))) (za (zx (za zr (za zr zb))) (za (pv 11) zb))))))))))))))
  (zc (y0 (Zu PySem.F.plainAttrs_list PySem.F.slot_list_append PySem.F.type_list_append vm (pv 4) (za (xw qy (by rfl) T.tuple qi (za (pv 7) zb)) zb))) (zg (y0 (Zu PySem.F.plainAttrs_list PySem.F.slot_list_append PySem.F.type_list_append vm (pv 5) (za (xw qy (by rfl) T.tuple qi (za (pv 8) zb)) zb)))))))))
  (zc (zn (i:=12) S (zk zj (yb oM hr (za (pv 1) (za (pv 2) (za (pv 3) zb)))) zf)) (zc (zn (i:=13) S (zx (za (pv 12) (za zf (za (xw qy (by rfl) T.tuple qi (za (q8 (own:=["i"]) (cap:=[]) J (xj (ze Yq) J J (by decide+kernel) (by decide+kernel) (by decide+kernel) trivial) (wc (by rfl) T.range (za (pv 2) zb)) (λ_ _ _ _=>zp (i:=0) (by show(["i"]:O Str).Nodup;decide+kernel)) (λ_ _ _ _=>wv) (λ_ _ _ _=>zx (za (pv 0) (za (zx zb) zb)))) zb)) (za (xw qy (by rfl) T.tuple qi (za (pv 4) zb)) zb)))))) (zg (zm (zx (za (pv 13) (za (zx (za zf (za zf (za (xw qy (by rfl) T.tuple qi (za (q8 (own:=["i"]) (cap:=[]) J (xj (ze Yq) J J (by decide+kernel) (by decide+kernel) (by decide+kernel) trivial) (wc (by rfl) T.range (za (pv 2) zb)) (λ_ _ _ _=>zp (i:=0) (by show(["i"]:O Str).Nodup;decide+kernel)) (λ_ _ _ _=>wv) (λ_ _ _ _=>zx (za (pv 0) (za (zx (za (zx (za zf (za zr zb))) zb)) zb)))) zb)) (za (xw qy (by rfl) T.tuple qi (za (pv 5) zb)) zb))))) zb))))))))),?_⟩
 refine⟨by show 0<=1000;decide,λa H1 s1 aw g1=>?_⟩;refine⟨by show 0<=1000;decide,λF H2 s2 L g2=>?_⟩;have cs:=s2 _ _ (s1 _ _ ht);have c5:=s2 _ _ g1;have ak:a≠t:=λz=>by rw[z,ht]at aw;cases aw
 have bj:F≠t:=λz=>by rw[z,s1 _ _ ht]at L;cases L
 have ap:a≠F:=λz=>by rw[z]at g1;rw[g1]at L;cases L
 refine⟨_,J,by omega,by omega,?_⟩;rw[dm];let db:Nat->L2.St->Hp->Prop:=λj σ G=>∃(l k:O V)(x6 x7 x8 x9 s r:Option V),σ=[some (.ref t),some (.str u),some (.int (n:Int)),some (.int (p:Int)),some (.ref a),some (.ref F),x6,x7,x8,x9,s,r,none,none]/\
  (∀c o,c≠t->H c=some o->G c=some o)/\G t=some (.lst [.int (tN x (2*(j*p)))])/\G a=some (.lst l)/\G F=some (.lst k)/\IsL G ((Ri j).map λi=>eS (lZ u n p (fN x) i p)) l/\IsL G ((Ri j).map λi=>eS (mG p (fN x) i p)) k
 refine js (lo:=0) (n:=n) db
  ⟨[],[],none,none,none,none,none,none,J,λc o _ e=>s2 _ _ (s1 _ _ e),by rw[Nat.zero_mul];exact cs,c5,g2,J,J⟩ ?_ ?_
 rintro j σ G hj ⟨l,k,x6,x7,x8,x9,s,r,rfl,kp,gt,gb,gp,ib,ip⟩;rw[gh];refine⟨by show 0<=1000;decide,λlr G1 R bE e1=>?_⟩;refine⟨by show 0<=1000;decide,λlo G2 Z aq e2=>?_⟩;have a6:=R.trans Z;have c3:=a6 _ _ gt;have b5:lr≠t:=λz=>by rw[z,gt]at bE;cases bE
 have bk:lo≠t:=λz=>by rw[z,R _ _ gt]at aq;cases aq
 have b7:lo≠a:=λz=>by rw[z,R _ _ gb]at aq;cases aq
 refine⟨_,J,by omega,by omega,?_⟩;rw[dm];let da:Nat->L2.St->Hp->Prop:=λq σ U=>∃(m1 m2:Y)(m g:O V)(x9 s r:Option V),σ=[some (.ref t),some (.str u),some (.int (n:Int)),some (.int (p:Int)),some (.ref a),some (.ref F),some (.int (j:Int)),some (.ref m1),some (.ref m2),x9,s,r,none,none]/\
  (∀c o,c≠t->G2 c=some o->U c=some o)/\U t=some (.lst [.int (tN x (2*(j*p+q)))])/\m1≠t/\m2≠t/\m2≠a/\U m1=some (.lst m)/\U m2=some (.lst g)/\IsL U ((lZ u n p (fN x) j q).map eD) m/\IsL U ((mG p (fN x) j q).map eD) g
 refine js (lo:=0) (n:=p) da
  ⟨lr,lo,[],[],x9,s,r,J,λc o _ e=>e,c3,b5,bk,b7,Z _ _ e1,e2,J,J⟩ ?_ ?_
 rintro q σ U hq ⟨m1,m2,m,g,x9,s,r,rfl,ku,ut,bB,bx,bn,a5,a4,i1,i2⟩;rw[gh];have bl:=B3 u (p:=p) (fN x) hj (by omega) q;have wl:=CH p (fN x) j q;have bK:=i1.length;have ba:=i2.length;rw[ag]at bK ba;have pl:=Jt (kd:=u) (q:=q) hj (by omega:n<=16);refine⟨t,_,6,J,ut,by decide,by decide,λ_ _=>⟨by show 2<=1000;decide,λp1 U1 B w1 h1=>?_⟩⟩;have k1:∀c o,c≠t->U c=some o->U1 c=some o:=λc o f e=>B _ _ ((ja f).trans e);have bg:U1 t=some (.lst [.int (tN x (2*(j*p+q)+1))]):=B _ _ zd;refine⟨t,_,6,J,bg,by decide,by decide,λ_ _=>⟨by show 2<=1000;decide,λp2 U2 v2 w2 h2=>?_⟩⟩;have b6:p1≠t:=λz=>by rw[z]at h1;rw[bg]at h1;cases h1
 have k2:∀c o,c≠t->U1 c=some o->U2 c=some o:=λc o f e=>v2 _ _ ((ja f).trans e);have bd:U2 t=some (.lst [.int (tN x (2*(j*p+q)+2))]):=v2 _ _ zd;have bH:=k2 _ _ b6 h1;have av:∀c o,c≠t->U c=some o->U2 c=some o:=λc o f e=>k2 _ _ f (k1 _ _ f e);have tp:zy U U2:=λb ys e=>av _ _ (λz=>by rw[z,ut]at e;cases e) e;have j1:=IsL.tups tp (fx _) i1;have j2:=IsL.tups tp (fx _) i2;have az:=av _ _ bB a5;have ay:=av _ _ bx a4;refine⟨by show 2<=1000;decide,λp3 U3 N w3 M=>?_⟩;refine⟨by show 2<=1000;decide,λl4 U4 v4 w4 W=>?_⟩;refine⟨m1,l4,_,_,J,J,v4 _ _ (N _ _ az),W,by show m.length+2<=1000;omega,λl5 U5 v5 w5 h5=>?_⟩;refine⟨u,n,j,q,J,f.k4,hj,by omega,by omega,λv U6 v6 i6=>?_⟩;obtain⟨l6,us,rfl,h6,i6⟩:=i6;have ul:=i6.length;rw[ag]at ul;refine⟨l5,l6,_,_,J,J,v6 _ _ h5,h6,by rw[cq];show m.length+2+us.length<=1000;omega,λl7 U7 v7 w7 h7=>?_⟩;refine⟨by show 2<=1000;decide,λp8 U8 v8 w8 h8=>?_⟩;refine⟨by show 2<=1000;decide,λl9 U9 v9 w9 h9=>?_⟩;refine⟨l7,l9,_,_,J,J,v9 _ _ (v8 _ _ h7),h9,by rw[cq,cq];show m.length+2+us.length+2<=1000;omega,λah a8 a3 aS c1=>?_⟩;have bC:ah≠t:=λz=>by rw[z,(N.trans (v4.trans (v5.trans (v6.trans (v7.trans (v8.trans v9)))))) _ _ bd]at aS;cases aS
 have bJ:=N.trans (v4.trans (v5.trans v6));have C:=v7.trans (v8.trans (v9.trans a3));have d:=bJ.trans C;have I1:IsL a8 ((lZ u n p (fN x) j (q+1)).map eD) (m++[.ref p1,.ref p3]++us++[.ref p8,.ref p2]):=by rw[Dm,bo,bo,bo];exact xn (xn (xn (j1.mono d) (ft ((sX bH).mono d) ((Qq M).mono (v4.trans (v5.trans (v6.trans C)))))) (i6.mono C)) (ft ((Qq h8).mono (v9.trans a3)) ((sX h2).mono d))
 have bi:=d _ _ ay;have bG:=d _ _ bH;have cw:=d _ _ h2;have ce:=j2.mono d;have ka:∀c o,c≠t->U c=some o->a8 c=some o:=λc o f e=>d _ _ (av _ _ f e);have bb:=d _ _ bd;clear M W h5 h6 h7 h8 h9 N v4 v5 v6 v7 v8 v9 a3 bJ C d i6 j1 j2 tp az ay w3 w4 w5 w7 w8 w9 aS;refine⟨by show 2<=1000;decide,λp3 U3 N w3 M=>?_⟩;refine⟨by show 2<=1000;decide,λp4 U4 v4 w4 W=>?_⟩;refine⟨by show 2<=1000;decide,λp5 U5 v5 w5 h5=>?_⟩;refine⟨by show 2<=1000;decide,λp6 U6 v6 w6 h6=>?_⟩;refine⟨by show 6<=1000;decide,λl7 U7 v7 w7 h7=>?_⟩;have V7:=N.trans (v4.trans (v5.trans (v6.trans v7)));refine⟨m2,l7,_,_,J,J,V7 _ _ bi,h7,by show g.length+6<=1000;omega,λl8 U8 v8 w8 h8=>?_⟩;have b8:l8≠t:=λz=>by rw[z,V7 _ _ bb]at w8;cases w8
 have b9:l8≠a:=λz=>by rw[z,V7 _ _ (ka _ _ ak (ku _ _ ak (a6 _ _ gb)))]at w8;cases w8
 have V8:=V7.trans v8;have bL:=V8 _ _ bb;refine⟨ah,l8,_,_,_,_,_,J,λc o f e=>V8 _ _ (ka _ _ f (ku _ _ f e)),?_,bC,b8,b9,V8 _ _ c1,h8,I1.mono V8,?_⟩;rw[bL,show 2*(j*p+(q+1))=2*(j*p+q)+2 by omega];rw[Dh,bo];have W3:=v4.trans (v5.trans (v6.trans (v7.trans v8)));have W4:=v5.trans (v6.trans (v7.trans v8));have W5:=v6.trans (v7.trans v8);have W6:=v7.trans v8;exact xn (ce.mono V8) (xn (ts:=[_,_]) (ft ((sX bG).mono V8) ((Qq M).mono W3)) (xn (ts:=[_,_]) (ft ((Hi W).mono W4) ((Hl h5).mono W5)) (ft ((Qq h6).mono W6) ((sX cw).mono V8))));rintro σ U ⟨m1,m2,m,g,x9,s,r,rfl,ku,ut,bB,bx,bn,a5,a4,i1,i2⟩;have kG:∀c o,c≠t->G c=some o->U c=some o:=λc o f e=>ku _ _ f (a6 _ _ e);have tG:zy G U:=λb ys e=>kG _ _ (λz=>by rw[z,gt]at e;cases e) e;have ub:=kG _ _ ak gb;have up:=kG _ _ bj gp;have b1:=ib.length;have b2:=ip.length;rw[ag,d9]at b1 b2;have cl:=IsL.tups tG (gc ((Ri j).map λi=>lZ u n p (fN x) i p)) (by rw[ck];exact ib);have cj:=IsL.tups tG (gc ((Ri j).map λi=>mG p (fN x) i p)) (by rw[ck];exact ip);refine⟨.inl ⟨J,_,aK.of ub⟩,m1,m,J,aK.of a5,λq1 U1 B dr h1=>?_⟩;refine⟨a,l,_,J,J,B _ _ ub,Vc (by omega),?_⟩;have k2:∀c o,c≠a->U1 c=some o->ji U1 a (.lst (l++[.ref q1])) c=some o:=λc o f e=>(ja f).trans e;have h2:ji U1 a (.lst (l++[.ref q1])) a=some (.lst (l++[.ref q1])):=zd;generalize ji U1 a (.lst (l++[.ref q1]))=U2 at k2 h2⊢;have bw:=bn;refine⟨.inl ⟨J,_,aK.of (k2 _ _ ap.symm (B _ _ up))⟩,m2,g,J,aK.of (k2 _ _ bw (B _ _ a4)),λq3 U3 N dp M=>?_⟩;refine⟨F,k,_,J,J,N _ _ (k2 _ _ ap.symm (B _ _ up)),Vc (by omega),?_⟩;have k4:∀c o,c≠F->U3 c=some o->ji U3 F (.lst (k++[.ref q3])) c=some o:=λc o f e=>(ja f).trans e;have W:ji U3 F (.lst (k++[.ref q3])) F=some (.lst (k++[.ref q3])):=zd;generalize ji U3 F (.lst (k++[.ref q3]))=U4 at k4 W⊢;have a7:∀c o,c≠a->c≠F->U c=some o->U4 c=some o:=λc o y1 y2 e=>k4 _ _ y2 (N _ _ (k2 _ _ y1 (B _ _ e)));have tU:zy U U4:=λb ys e=>a7 _ _ (λz=>by rw[z,ub]at e;cases e) (λz=>by rw[z,up]at e;cases e) e;have R:zy U1 U4:=λb ys e=>k4 _ _ (λz=>by rw[z,B _ _ up]at e;cases e) (N _ _ (k2 _ _ (λz=>by rw[z,B _ _ ub]at e;cases e) e));have t3:zy U3 U4:=λb ys e=>k4 _ _ (λz=>by rw[z,N _ _ (k2 _ _ ap.symm (B _ _ up))]at e;cases e) e;have jb:=IsL.tups tU (gc _) cl;have jp:=IsL.tups tU (gc _) cj;have b3:Is U4 (eS (lZ u n p (fN x) j p)) (.ref q1):=Is.tups R (fx _) ⟨q1,m,J,h1,i1.mono B⟩;have ba:=i2.length;have cn:Is U4 (eS (mG p (fN x) j p)) (.ref q3):=⟨q3,g,J,t3 _ _ M,IsL.tups tU (fx _) i2⟩
 refine⟨l++[.ref q1],k++[.ref q3],_,_,_,_,_,_,J,λc o f e=>?_,?_,k4 _ _ ap (N _ _ h2),W,?_,?_⟩;exact a7 _ _ (λz=>by rw[z]at e;rw[e]at aw;cases aw) (λz=>by rw[z]at e;rw[s1 _ _ e]at L;cases L) (kG _ _ f (kp _ _ f e));rw[show 2*((j+1)*p)=2*(j*p+p) by rw[show(j+1)*p=j*p+p from Nat.succ_mul j p]];exact a7 _ _ ak.symm bj.symm ut;rw[Rj,bo];rw[ck]at jb;exact xn jb (wz b3);rw[Rj,bo];rw[ck]at jp;exact xn jp (wz cn);rintro σ G ⟨l,k,x6,x7,x8,x9,s,r,rfl,kp,gt,gb,gp,ib,ip⟩;have b1:=ib.length;have b2:=ip.length;rw[ag,d9]at b1 b2;refine⟨u,n,p,J,f.k4,by omega,by omega,by omega,λv U1 B i1=>?_⟩;obtain⟨a1,y1,u1,rfl,bN,c6,co⟩:=Is.at (K:=K) (i:=0) (t:=.int (kX u n)) i1 J;cases(show u1=.int (kX u n)from co);refine⟨a1,y1,_,_,J,J,bN,c6,?_⟩;refine⟨_,J,by omega,by omega,?_⟩;let c8:Nat->O V->Hp->Prop:=λj y U=>zh U1 U/\IsL U ((Ri j).map λi=>eC ((i:Nat),([]:O dD))) y;refine Zj (lo:=0) (n:=(n:Int).toNat) c8 ⟨zh.refl _,J⟩ (λj y U hj ⟨_,e⟩=>?_) ?_ ?_;have:=e.length;rw[ag,d9]at this;rw[dm]at hj;rw[TM];omega;rintro j y U hj ⟨sU,e⟩;refine iZ ?_;refine⟨by show 0<=1000;decide,λp1 V1 R n1 h1=>⟨by show 2<=1000;decide,λp2 V2 Z n2 h2=>⟨sU.trans (R.trans Z),?_⟩⟩⟩;rw[gh]at h2;rw[Q6];exact xn (e.mono (R.trans Z)) (wz ⟨p2,_,J,h2,ft J ⟨p1,[],J,Z _ _ h1,J⟩⟩);rintro y U2 ⟨sU,ez⟩ l3 cv;rw[dm]at ez;have t3:=zh.new cv (.lst y);have M:ji U2 l3 (.lst y) l3=some (.lst y):=zd;generalize ji U2 l3 (.lst y)=U3 at t3 M⊢;refine⟨l3,_,J,aK.of M,λl4 U4 t4 dv W=>?_⟩;have T4:=B.trans (sU.trans (t3.trans t4));refine⟨a,l,J,aK.of (T4 _ _ gb),λl5 U5 t5 du h5=>?_⟩;refine⟨by show 4<=1000;decide,λl6 U6 t6 n6 h6=>?_⟩;have T6:=T4.trans (t5.trans t6);have i6:Is U6 (eH (j9 u n p (fN x))) (.ref l6):=by
  have iA:Is U6 (.tup ((j9 u n p (fN x)).fs.map eC)) (.ref l4):=⟨l4,y,J,t6 _ _ (t5 _ _ W),by show IsL U6 (((Ri n).map λi=>((i:Nat),([]:O dD))).map eC) y;rw[ck];exact ez.mono (t3.trans (t4.trans (t5.trans t6)))⟩
  have iB:Is U6 (.tup ((j9 u n p (fN x)).ss.map eS)) (.ref l5):=⟨l5,l,J,t6 _ _ h5,by show IsL U6 (((Ri n).map (iV u n p (fN x))).map eS) l;rw[ck];exact ib.mono T6⟩
  exact⟨l6,_,J,h6,_,_,J,J,_,_,J,J,_,_,J,iA,_,_,J,iB,J⟩
 have c4:=T6 _ _ gp;have ci:=ip.mono T6;have c2:=T6 _ _ gt;have k6:∀c o,c≠t->H c=some o->U6 c=some o:=λc o f e=>T6 _ _ (kp _ _ f e);clear M W h5 t3 t4 t5 t6 T4 T6 ez;refine⟨_,J,by omega,by omega,?_⟩;let c7:Nat->O V->Hp->Prop:=λj y U=>zh U6 U/\IsL U ((Ri j).map λi=>eC ((i:Nat),([(0,"both")]:O dD))) y;refine Zj (lo:=0) (n:=(n:Int).toNat) c7 ⟨zh.refl _,J⟩ (λj y U hj ⟨_,e⟩=>?_) ?_ ?_;have:=e.length;rw[ag,d9]at this;rw[dm]at hj;rw[TM];omega;rintro j y U hj ⟨sU,e⟩;refine iZ ?_;refine⟨by show 2<=1000;decide,λp0 V0 t0 n0 h0=>⟨by show 1<=1000;decide,λp1 V1 R n1 h1=>⟨by show 2<=1000;decide,λp2 V2 Z n2 h2=>⟨sU.trans (t0.trans (R.trans Z)),?_⟩⟩⟩⟩;rw[gh]at h2;rw[Rj,bo];exact xn (e.mono (t0.trans (R.trans Z))) (wz ⟨p2,_,J,h2,ft J ⟨p1,_,J,Z _ _ h1,wz ⟨p0,_,J,Z _ _ (R _ _ h0),ft J J⟩⟩⟩);rintro g U7 ⟨b0,ez⟩ l8 cu;rw[dm]at ez;have t3:=zh.new cu (.lst g);have M:ji U7 l8 (.lst g) l8=some (.lst g):=zd;generalize ji U7 l8 (.lst g)=U8 at t3 M⊢;refine⟨l8,_,J,aK.of M,λl9 U9 t4 dt W=>?_⟩;have T9:=b0.trans (t3.trans t4);refine⟨F,k,J,aK.of (T9 _ _ c4),λah a8 t5 dg h5=>?_⟩;refine⟨by show 4<=1000;decide,λcc dK t6 dn c0=>⟨by show 2<=1000;decide,λca aj t7 dh cx=>?_⟩⟩;have ax:=T9.trans (t5.trans (t6.trans t7));refine kk ca _ _ aj (λc o f e=>ax _ _ (k6 c o f e)) (ax _ _ c2) cx (i6.mono ax) ?_;have iA:Is aj (.tup ((km n p (fN x)).fs.map eC)) (.ref l9):=⟨l9,g,J,t7 _ _ (t6 _ _ (t5 _ _ W)),by show IsL aj (((Ri n).map λi=>((i:Nat),([(0,"both")]:O dD))).map eC) g;rw[ck];exact ez.mono (t3.trans (t4.trans (t5.trans (t6.trans t7))))⟩
 have iB:Is aj (.tup ((km n p (fN x)).ss.map eS)) (.ref ah):=⟨ah,k,J,t7 _ _ (t6 _ _ h5),by show IsL aj (((Ri n).map (Jy p (fN x))).map eS) k;rw[ck];exact ci.mono ax⟩
 exact⟨cc,_,J,t7 _ _ c0,_,_,J,J,_,_,J,J,_,_,J,iA,_,_,J,iB,J⟩
end
abbrev Jj:Sj:=bI 74
inductive ph(vs:List V)(H:Hp)(Q:VK)(e0:XK):Prop|mk:∀(v:V)(hs:aC)(i:Nat)(s:yh),vs=[v,.int (i:Int)]->Is H (eH hs) v->hs.ss[i]?=some s->i<=1000->s.length<=80->(∀l H',zh H H'->Is H' (.lst ((gW s).map λk=>cV (i,k))) (.ref l)->Q (.ref l) H')->ph vs H Q e0
theorem IW(s:yh)(j:Nat):(Ri (j+1)).filter (λk=>lC s[k]?)=(Ri j).filter (λk=>lC s[k]?)++if lC s[j]?=true then[j]else[]:=by rw[Rj,PZ,P1];rfl
theorem Hh(d:aF):mY (.str (dw d)) [.str "say",.str "work"]=lC (some d):=by cases d<;>rfl
section
variable{K:O4}
theorem Cv:aA ["house","i","script"] ["house","i"] (ze Jj):=.of
theorem JS(D:bP K mg "_law_acalm" Jj)(T:Txt K mg):Ok P w K mg base "_law_acalm" 1 ["house","i"] ph:=by
 refine qf D Cv ?_;rintro f aj A B s0 H vs Q E hr ⟨v,hs,i,s,rfl,hv,hi,i3,ah,kk⟩ X;refine⟨_,zc (zn (i:=2) Cv.nd (zk zj (zk zj (pv 0) zf) (pv 1))) (zg (zm (q8 (own:=["k"]) (cap:=[1,2]) J (xj (ze Jj) J J (by decide+kernel) (by decide+kernel) (by decide+kernel) ⟨⟨_,J,.inl J,jy J⟩,⟨_,J,.inl J,jy J⟩,trivial⟩) (wc J T.range (za (ya yc (by rfl) T.len wu (za (pv 2) zb)) zb)) (λ_ _ _ _=>zp (i:=0) (by show(["k","i","script"]:List Str).Nodup;decide+kernel)) (λ_ _ _ _=>Xz (zv (r:=xM K false) k9 (zk (r:=cE K) zj (zk (r:=cE K) zj (pv 2) (pv 0) (λ_ _=>rfl)) zf (λ_ _=>rfl)) (Wp (za zr (za zr zb))) J)) (λ_ _ _ _=>zx (za (zx (za (pv 1) zb)) (za (pv 0) zb)))))),?_⟩
 obtain⟨a,xs,u,rfl,sq,ea,hu⟩:=Is.at (i:=3) hv J;obtain⟨a2,q,u2,e2,y,W,m⟩:=Is.at hu (by rw[bq,hi];rfl);subst e2;refine⟨a,xs,_,_,J,J,sq,ea,a2,q,_,_,J,J,y,W,?_⟩;obtain⟨aS,xS,rfl,R,M⟩:=id m;have xl:=M.length;rw[ag]at xl;refine⟨aS,xS,J,.inr (aG.of R),_,J,by omega,by omega,?_⟩;rw[xl];let Z:Nat->List V->Hp->Prop:=λj b G=>zh H G/\IsL G (((Ri j).filter (λk=>lC s[k]?)).map λk=>cV (i,k)) b;refine Zj Z ⟨zh.refl _,J⟩ (λj b G o ⟨_,e⟩=>?_) ?_ ?_;have:=e.length;rw[ag]at this;have:=i0 (λk=>lC s[k]?) (Ri j);rw[d9]at this;rw[dm]at o;rw[TM];omega;rintro j b G o ⟨g,e⟩;rw[dm]at o;have N:=cg o;generalize s[j]=d at N;obtain⟨a5,x5,u5,e5,x,U,F⟩:=Is.at (m.mono g) (by rw[bq,N];rfl)
 cases e5;obtain⟨r,L⟩:=Yt d;obtain⟨a6,x6,u6,e6,t,S,C⟩:=Is.at (i:=0) (L▸F) J;subst e6;cases(C);rw[gh];refine⟨aS,x5,_,_,J,J,x,U,a6,x6,_,_,J,J,t,S,(by decide),λp hp=>⟨p,_,J,.inr (aG.of zd),J,J,_,J,?_⟩⟩;have c:=zh.new hp (.tup [.str "say",.str "work"]);generalize ji G p (.tup [.str "say",.str "work"])=G1 at c⊢;have n:=IW s j;rw[N]at n;rw[(Hh d)];cases ca:lC (some d)with| true=>rw[ca,kP J]at n;refine xx ⟨by show 1<=1000;decide,λp7 G7 s7 n7 g7=>⟨by show 2<=1000;decide,λp8 G8 z n8 g8=>⟨g.trans (c.trans (s7.trans z)),?_⟩⟩⟩;rw[n,bo];exact IsL.append (e.mono (c.trans (s7.trans z))) (IsL.one ⟨p8,_,J,g8,ft ⟨p7,_,J,z _ _ g7,IsL.one J⟩ J⟩)| false=>rw[ca,kr cy,eh]at n;refine yn ⟨g.trans c,?_⟩;rw[n];exact e.mono c
 rintro b G ⟨g,e⟩ l hl;rw[dm]at e;have s4:=zh.new hl (.lst b);exact kk l _ (g.trans s4) ⟨l,b,J,zd,e.mono s4⟩
end
abbrev vQ:Sj:=(xv Vy).getD 3 dE
noncomputable def aW(a:WA)(W:dO):List lv:=a.ad::a.as::a.al::a.k0::a.ao::a.ay::a.aw::a.ap::W.map (·.2)
theorem jd{a:WA}{W:dO}:c∈aW a W↔c=a.ad\/c=a.as\/c=a.al\/c=a.k0\/c=a.ao\/c=a.ay\/c=a.aw\/c=a.ap\/∃q∈W,q.2=c:=by unfold aW;simp
section
variable{hs:aC}{G H':Hp}{R:Nat->lv}{a:WA}{hr:List ((List Int×Int)×V)}{s s':Ws}{W W':dO}
theorem dU.hk(F:dU P w G cW cU cP cR hs R a hr):hs.w=0->a.k0=a.al:=by obtain⟨⟨_,_,_,_,_,_,_,_,_,_,_,h⟩,_⟩:=F;exact h
theorem aV.some(j:cA hs)(F:dU P w G cW cU cP cR hs R a hr)(m:aV P w hs G H a s W){c:Y}(i:c∈aW a W):∃o,H c=some o/\∀xs,o≠ .tup xs:=by
 have d:∀{b l},bM H b l->∃o,H b=RU o/\∀xs,o≠ .tup xs:=λ{b l} ⟨k,e,_⟩=>⟨_,e,λ_ z=>by cases z⟩
 rcases jd.mp i with z|z|z|z|z|z|z|z|⟨q,g,z⟩;rw[z];exact⟨_,m.run.d,λ_ z=>by cases z⟩;rw[z];exact⟨_,m.run.s,λ_ z=>by cases z⟩;rw[z];exact⟨_,m.run.l,λ_ z=>by cases z⟩;rw[z];rcases j.w01 with q|q;rw[F.hk q];exact⟨_,m.run.l,λ_ z=>by cases z⟩;obtain⟨f,e⟩:=(m.run.k q).some;exact⟨_,e,λ_ z=>by cases z⟩;rw[z];exact d m.wov;rw[z];exact d m.rdy;rw[z];obtain⟨f,e⟩:=m.wai.some;exact⟨_,e,λ_ z=>by cases z⟩;rw[z];exact d m.stp;rw[<-z];exact d (m.lst q g).1
theorem aV.none(F:dU P w G cW cU cP cR hs R a hr)(m:aV P w hs G H a s W){c:Y}(d:c∈aW a W):G c=none:=by
 obtain⟨⟨f,r,t,_,_,_,p,o,n,l,_⟩,_,_,k,j,i,g⟩:=F;rcases jd.mp d with z|z|z|z|z|z|z|z|⟨q,b,z⟩
 all_goals first|(rw[z];assumption)|(rw[<-z];exact(m.lst q b).2)
theorem aV.rebase(F:dU P w G cW cU cP cR hs R a hr)(m:aV P w hs G H a s W):zh G (without (aW a W) H)/\dU P w (without (aW a W) H) cW cU cP cR hs R a hr/\aV P w hs (without (aW a W) H) H a s W:=by have d:=m.s0.without λc f=>m.none F f;have b:∀{c},c∈aW a W->without (aW a W) H c=RT:=λh=>yp h;obtain⟨k,⟨j,i⟩,l,_⟩:=F;refine⟨d,⟨k.same d λc f=>b ?_,⟨j,d _ _ i⟩,l.same d,b ?_,b ?_,b ?_,b ?_⟩,⟨m.run,m.rdy,m.wov,m.stp,m.wai,m.wl,λq g=>⟨(m.lst q g).1,b ?_⟩,m.nd,m.kd,m.kn,vp⟩⟩;simp at f;rcases f with z|z|z|z<;>rw[z]<;>simp[aW];simp[aW];simp[aW];simp[aW];simp[aW];exact jd.mpr (.inr (.inr (.inr (.inr (.inr (.inr (.inr (.inr ⟨q,g,J⟩))))))))
theorem aV.behind(F:dU P w G cW cU cP cR hs R a hr)(m:aV P w hs G H a s W)(c:aV P w hs (without (aW a W) H) H' a s' W'):aV P w hs G H' a s' W'/\∀b o,b ∉ aW a W->H b=RU o->H' b=RU o/\b ∉ aW a W':=by obtain⟨f,j,k⟩:=m.rebase F;refine⟨⟨c.run,c.rdy,c.wov,c.stp,c.wai,c.wl,λq g=>⟨(c.lst q g).1,ym f (c.lst q g).2⟩,c.nd,c.kd,c.kn,f.trans c.s0⟩,λb o i e=>?_⟩;have d:without (aW a W) H b=RU o:=y9 i▸e;exact⟨c.s0 _ _ d,λz=>by rw[c.none j z]at d;cases d⟩
theorem aV.own(m:aV P w hs G H a s W){o f:HO}(i:c ∉ aW a W)(k:G c=RT)(e:H c=RU f)(g:∀xs,f≠ .tup xs):aV P w hs G (L2.ji H c o) a s W:=by have t:zy H (L2.ji H c o):=zy.upd e g;have ne:∀{b},b∈aW a W->b≠c:=λj z=>i (z▸j);exact⟨m.run.upd t ⟨ne (by simp[aW]),ne (by simp[aW]),ne (by simp[aW]),ne (by simp[aW])⟩,m.rdy.keep (ja (ne (by simp[aW]))) t,m.wov.keep (ja (ne (by simp[aW]))) t,m.stp.keep (ja (ne (by simp[aW]))) t,m.wai.by t (ja (ne (by simp[aW]))),m.wl,λq d=>⟨(m.lst q d).1.keep (ja ((λq d=>ne (jd.mpr (.inr (.inr (.inr (.inr (.inr (.inr (.inr (.inr ⟨q,d,J⟩)))))))))) q d)) t,(m.lst q d).2⟩,m.nd,m.kd,⟨m.kn.1,Y6 m.kn.2 (ne (by simp[aW]))⟩,jk m.s0 k⟩
theorem aV.fresh(d:cA hs)(F:dU P w G cW cU cP cR hs R a hr)(m:aV P w hs G H a s W)(b:H c=RT):c ∉ aW a W:=λz=>by obtain⟨o,e,_⟩:=m.some d F z;rw[b]at e;cases e
end
inductive jL(P:R0)(w:SX)(cW cU cP cR:lv)(vs:List V)(H:Hp)(Q:VK)(e0:XK):Prop| mk:∀(G:Hp) (a:WA) (hs:aC) (R:Nat->lv) (s:Ws) (W:dO) (hr:List ((List Int×Int)×V)),vs=[.ref a.x]->dU P w G cW cU cP cR hs R a hr->aV P w hs G H a s W->cA hs->
   (∀G' ap H',(∀c,c≠a.x->G' c=G c)->dU P w G' cW cU cP cR hs R {a with ap:=ap} hr->aV P w hs G' H' {a with ap:=ap} {s with stp:=[]} W->bM H' a.ap s.stp->a.ap ∉ aW {a with ap:=ap} W->Bt [a.x] H H'->H ap=none->Q (.ref a.ap) H')->jL P w cW cU cP cR vs H Q e0
section
variable{K:O4}
theorem BO:aA ["self","stopped"] ["self"] (ze vQ):=.of
theorem HS(D:qk K cW "take_stopped" "Weaver.take_stopped" vQ)(CW:aI K cW bA):bD P w K mg base cW "take_stopped" 1 ["self"] (jL P w cW cU cP cR):=by
 refine kh D BO ?_;rintro f aw A ah s0 H vs Q E av ⟨G,a,hs,R,s,W,hr,rfl,F,m,W0,k⟩ X;refine⟨_,zc (zn (i:=1) BO.nd (zo (pv 0) J)) (zc (vf (pv 0) (yq zb) J) (zg (zm (pv 1)))),?_⟩;obtain⟨RF,⟨p,N⟩,GH,B,u,x,aq⟩:=id F;have l:=m.s0 _ _ N;refine⟨a.x,cW,p,_,_,J,l,CW.cls,CW.n,Jw,c9 _,λi H2 U C g2=>?_⟩;have M:=U _ _ l;have v:i≠a.x:=λz=>by rw[z,l]at C;cases C
 refine⟨a.x,cW,p,_,J,M,CW.cls,CW.n,cG,?_⟩;rw[show qg "stopped" (.ref i) (gX a)=gX {a with ap:=i} by rfl];have Z:∀{c},G c=none->c≠a.x:=λe z=>by rw[z,N]at e;cases e
 have d:∀{c},c∈aW a W->c≠a.x:=λh=>Z (m.none F h);have fr:=m.fresh W0 F C;have g:=m.same U;have t:zy H2 (ji H2 a.x (.ins cW p (gX {a with ap:=i}))):=zy.upd M λ_ z=>by cases z
 obtain⟨φ,S⟩:=GH.some;have L:∀{c},c∈aW a W->ji H2 a.x (.ins cW p (gX {a with ap:=i})) c=H2 c:=λh=>ja (d h);refine k (ji G a.x (.ins cW p (gX {a with ap:=i}))) i _ (λc hc=>ja hc) ⟨RF.upd N ⟨J,J,J⟩,⟨p,zd⟩,GH.by (zy.upd N λ_ z=>by cases z) (ja λz=>by rw[z,N]at S;cases S),(ja (Z B)).trans B,(ja (Z u)).trans u,(ja (Z x)).trans x,(ja v).trans (ym m.s0 C)⟩ ?_ (g.stp.keep (L (by simp[aW])) t) (λz=>?_) (U.bt.trans (Bt.upd (by simp))) C;have n:∀{c},c∈aW a W->c≠i:=λh z=>fr (z▸h);have nq:∀q∈W,q.2∈aW a W:=λq j=>jd.mpr (.inr (.inr (.inr (.inr (.inr (.inr (.inr (.inr ⟨q,j,J⟩))))))));refine⟨g.run.upd t ⟨d (by simp[aW]),d (by simp[aW]),d (by simp[aW]),d (by simp[aW])⟩,g.rdy.keep (L (by simp[aW])) t,g.wov.keep (L (by simp[aW])) t,⟨[],(ja v).trans g2,J⟩,g.wai.by t (L (by simp[aW])),g.wl,λq j=>⟨(g.lst q j).1.keep (L (nq q j)) t,(ja (d (nq q j))).trans (g.lst q j).2⟩,?_,g.kd,⟨?_,Y6 g.kn.2 (d (by simp[aW]))⟩,λb o e=>?_⟩;have q:=m.nd;simp only[d6,bc,not_or]at q⊢;obtain⟨⟨a1,a2,a3,a4,a5⟩,⟨b1,b2,b3,b5⟩,⟨c1,c3,c5⟩,⟨d3,d5⟩,e5,nw⟩:=q;refine⟨⟨a1,a2,a3,n (by simp[aW]),a5⟩,⟨b1,b2,n (by simp[aW]),b5⟩,⟨c1,n (by simp[aW]),c5⟩,⟨n (by simp[aW]),d5⟩,λz=>?_,nw⟩;obtain⟨q,j,e⟩:=bz.mp z;exact n (nq q j) e;have q:=m.kn.1;simp at q⊢;exact⟨q.1,q.2.1,q.2.2.1,q.2.2.2.1,n (by simp[aW]),q.2.2.2.2.2⟩;by_cases z:b=a.x;rw[z,zd]at e⊢;exact e;rw[ja z]at e⊢;exact U _ _ (m.s0 _ _ e);obtain⟨p1,p2,p3,p4,p5⟩:=m.np;have q:=m.nd;simp only[d6,bc,not_or]at q;obtain⟨zs,aj,_⟩:=m.stp;obtain⟨q1,q2⟩:=m.apart aj;rcases jd.mp z with y|y|y|y|y|y|y|y|⟨r,ak,y⟩;exact q1 y.symm;exact p1 y;exact p2 y;exact p5 y;exact p4 y;exact p3 y;exact q2 y.symm;have y:a.ap=i:=y;exact fr (by rw[<-y];simp[aW]);exact q.2.2.2.2.1 (bz.mpr ⟨r,ak,y⟩)
end
abbrev lU:=List ((Int×List Nat)×lv)
noncomputable def ve(B:lU):List (aJ×V):=B.map λq=>((Sm q.1.1:aJ),.ref q.2)
structure cL(P:R0)(w:SX)(hs:aC)(G H:Hp)(a:WA)(s:Ws)(W:dO)(de lm:lv)(EW:lU)(EX:List (List Nat×lv))(mo:List Int):Prop where
 m:aV P w hs G H a s W
 d:H de=some (.dK (ve EW))
 l:H lm=some (.lst (mo.map V.int))
 e:∀q∈EW,bM H q.2 q.1.2
 x:∀q∈EX,bM H q.2 q.1
 nd:(lm::(EW.map (·.2)++EX.map (·.2))).Nodup
 ap:∀c∈de::lm::(EW.map (·.2)++EX.map (·.2)),c ∉ aW a W/\G c=none
theorem B1{t:Int}{i:Nat}:∀{ends:wo},t ∉ ends.map (·.1)->Zc ends t i=ends++[(t,[i])]|[],_=>rfl| (u,l)::r,h=>by unfold Zc;rw[kr (λz=>h (by rw[<-z];exact bv)),B1 λz=>h (bp _ z)];rfl
theorem BZ{t:Int}{i:Nat}:∀{ends:wo},(ends.map (·.1)).Nodup->t∈ends.map (·.1)->Zc ends t i=ends.map λr=>if r.1=t then(r.1,r.2++[i])else r|[],_,h=>nomatch h| (u,l)::r,a,h=>by obtain⟨d,b⟩:=d6.mp a;unfold Zc;by_cases c:u=t;rw[kP c,d8,kP c];congr 1;refine(List.map_id' r).symm.trans (QT λx f=>(kr λz=>d ?_).symm);show u∈_;rw[c,<-z];exact QX f;rw[kr c,d8,kr c,BZ b ((bc.mp h).resolve_left λz=>c z.symm)]
theorem zQ{a:lU}{t:Int}:(∀v,yv (ve a) (Sm t:aJ)=some v->∃q∈a,q.1.1=t/\v=.ref q.2)/\(yv (ve a) (Sm t:aJ)=none->t ∉ (a.map (·.1)).map (·.1)):=by induction a with|nil=>exact⟨λv h=>(by cases h),λ_ h=>nomatch h⟩| cons q r b=>have i:ve (q::r)=((Sm q.1.1),V.ref q.2)::ve r:=rfl;rw[i];by_cases e:q.1.1=t;rw[wd (by rw[e])];exact⟨λv h=>⟨q,bv,e,(RV h).symm⟩,λh=>by cases h⟩;rw[wf (λz=>e (Sn z))];refine⟨λv h=>?_,λh d=>?_⟩;obtain⟨c,g,f⟩:=b.1 v h;exact⟨c,bp _ g,f⟩;rcases bc.mp d with z|z;exact e z.symm;exact b.2 h z
theorem Lc{a:lU}(c:((a.map (·.1)).map (·.1)).Nodup){q:(Int×List Nat)×lv}(b:q∈a):yv (ve a) (Sm q.1.1:aJ)=some (.ref q.2):=by induction a with|nil=>nomatch b| cons p r g=>obtain⟨f,d⟩:=d6.mp c;show yv (((Sm p.1.1),V.ref p.2)::ve r) _=_;rcases bc.mp b with z|z;rw[z,wd J];rw[wf (λy=>f (by show p.1.1∈_;rw[(Sn y)];exact QX (QX z)))];exact g d z
theorem F2{a:lU}{t:Int}:kj (ve a) (Sm t:aJ)=ve (a.filter λq=>decide (q.1.1≠t)):=by unfold kj ve;rw[P4];congr 1;refine P0 λq _=>?_;show decide ((Sm q.1.1)≠Sm t)=decide (q.1.1≠t);rw[pb,kU,kU];exact⟨λz y=>z (by rw[y]),λz y=>z (Sn y)⟩
theorem bM.own{b:Y}{o a:HO}(x:bM H b l)(n:b≠c)(e:H c=some a)(d:∀xs,a≠ .tup xs):bM (L2.ji H c o) b l:=x.keep (L2.ja n) (zy.upd e d)
theorem Xp{h:HW}{c:Nat->Nat}{m:Int}{i:Nat}:∀{q:List Nat}{E:wo},qr h c m E (q++[i])=Zc (qr h c m E q) (m+wk h i (c i)) i|[],_=>rfl|_::q,_=>Xp (q:=q)
section
variable{hs:aC}{G H':Hp}{R:Nat->lv}{a:WA}{hr:List ((List Int×Int)×V)}{s s':Ws}{W W':dO}{de lm:lv}{EW:lU}{EX:List (List Nat×lv)}{mo:List Int}
theorem cL.same(n:cL P w hs G H a s W de lm EW EX mo)(b:zh H H'):cL P w hs G H' a s W de lm EW EX mo:=⟨n.m.same b,b _ _ n.d,b _ _ n.l,λq c=>(n.e q c).same b,λq c=>(n.x q c).same b,n.nd,n.ap⟩
theorem cL.behind(C:cA hs)(F:dU P w G cW cU cP cR hs R a hr)(n:cL P w hs G H a s W de lm EW EX mo)(A:aV P w hs (without (aW a W) H) H' a s' W'):cL P w hs G H' a s' W' de lm EW EX mo/\zy H H'/\∀b o,b ∉ aW a W->H b=some o->H' b=some o:=by
 obtain⟨y,g⟩:=n.m.behind F A;have t:=λb x e=>(g b _ (λz=>by obtain⟨o,v,j⟩:=n.m.some C F z;rw[e]at v;exact j x (RV v).symm) e).1
 have p:∀{c:Y}{l:O Nat},c ∉ aW a W->bM H c l->bM H' c l:=λ{c l} i m=>by obtain⟨k,e,_⟩:=id m;exact m.keep ((g _ _ i e).1.trans e.symm) t
 have d:∀{c},c∈de::lm::(EW.map (·.2)++EX.map (·.2))->c ∉ aW a W:=λi=>(n.ap _ i).1;have u:∀q∈EW,q.2∈de::lm::(EW.map (·.2)++EX.map (·.2)):=λq f=>bp _ (bp _ (ee _ (QX f)));have r:∀q∈EX,q.2∈de::lm::(EW.map (·.2)++EX.map (·.2)):=λq f=>bp _ (bp _ (di _ (QX f)));refine⟨⟨y,(g _ _ (d (by simp)) n.d).1,(g _ _ (d (by simp)) n.l).1,λq f=>p (d (u q f)) (n.e q f),λq f=>p (d (r q f)) (n.x q f),n.nd,λc i=>⟨?_,(n.ap c i).2⟩⟩,t,λb o B j=>(g b o B j).1⟩;rcases bc.mp i with z|z;rw[z];exact(g _ _ (d (by simp)) n.d).2;rcases bc.mp z with z|z;rw[z];exact(g _ _ (d (by simp)) n.l).2;rcases cp.mp z with z|z;obtain⟨q,f,rfl⟩:=bz.mp z;obtain⟨k,e,_⟩:=n.e q f;exact(g _ _ (d (u q f)) e).2;obtain⟨q,f,rfl⟩:=bz.mp z;obtain⟨k,e,_⟩:=n.x q f;exact(g _ _ (d (r q f)) e).2
theorem cL.neq(n:cL P w hs G H a s W de lm EW EX mo):de≠lm/\(∀q∈EW,q.2≠de/\q.2≠lm)/\(∀q∈EX,q.2≠de/\q.2≠lm)/\(∀q∈EW,∀p∈EX,q.2≠p.2)/\(EW.map (·.2)).Nodup/\(EX.map (·.2)).Nodup:=by
 obtain⟨d,k⟩:=d6.mp n.nd;obtain⟨j,i,g⟩:=List.nodup_append.mp k;have dl:∀{c:Y}{l:O V},H c=some (.lst l)->c≠de:=λe z=>by rw[z,n.d]at e;cases e
 refine⟨ae (dl n.l),λq b=>?_,λq b=>?_,λq b p m z=>?_,j,i⟩;obtain⟨f,e,_⟩:=n.e q b;exact⟨dl e,λz=>d (z▸ee _ (QX b))⟩;obtain⟨f,e,_⟩:=n.x q b;exact⟨dl e,λz=>d (z▸di _ (QX b))⟩;exact g _ (QX b) _ (QX m) z
theorem cL.pop(n:cL P w hs G H a s W de lm EW [] mo)(kd:((EW.map (·.1)).map (·.1)).Nodup){q:(Int×O Nat)×Y}(f:q∈EW):cL P w hs G (L2.ji H de (.dK (kj (ve EW) (Sm q.1.1:aJ)))) a s W de lm (EW.filter λp=>decide (p.1.1≠q.1.1)) [(q.1.2,q.2)] mo:=by
 obtain⟨m,k,_,_,j,_⟩:=n.neq;obtain⟨ad,r⟩:=n.ap de (by simp);have i:∀l,HO.dK (ve EW)≠ .tup l:=λ_ z=>by cases z
 have sub:∀p∈EW.filter λp=>decide (p.1.1≠q.1.1),p∈EW/\p.1.1≠q.1.1:=λp d=>⟨(fo.mp d).1,cz (fo.mp d).2⟩
 refine⟨n.m.own ad r n.d i,by rw[zd,F2],(ja (ae m)).trans n.l,λp d=>(n.e p (sub p d).1).own (k p (sub p d).1).1 n.d i,λp d=>?_,?_,λc g=>n.ap c ?_⟩;rw[ai.mp d];exact(n.e q f).own (k q f).1 n.d i;refine d6.mpr ⟨λz=>((d6.mp n.nd).1) ?_,List.nodup_append.mpr ⟨j.sublist (List.filter_sublist.map _),by simp,λc g b o z=>?_⟩⟩;rcases cp.mp z with z|z;obtain⟨p,d,e⟩:=bz.mp z;exact ee _ (e▸QX (sub p d).1);rw[ai.mp z];exact ee _ (QX f);obtain⟨p,d,rfl⟩:=bz.mp g;obtain rfl:=ai.mp o;exact(sub p d).2 (by rw[Z2 j (sub p d).1 f z]);simp only[bc,cp,QU,eh]at g⊢;rcases g with z|z|z|z;exact .inl z;exact .inr (.inl z);obtain⟨p,d,e⟩:=bz.mp z;exact .inr (.inr (e▸QX (sub p d).1));exact .inr (.inr ((ai.mp z)▸QX f))
theorem cL.forget(n:cL P w hs G H a s W de lm EW EX mo):cL P w hs G H a s W de lm EW [] mo:=by refine⟨n.m,n.d,n.l,n.e,λq g=>(nomatch g),?_,λc b=>n.ap c ?_⟩;obtain⟨f,d⟩:=d6.mp n.nd;rw[QU,eh];exact d6.mpr ⟨λz=>f (ee _ z),(List.nodup_append.mp d).1⟩;rw[QU,eh]at b;simp at b⊢;rcases b with z|z|z;exact .inl z;exact .inr (.inl z);exact .inr (.inr (.inl z))
theorem cL.more(n:cL P w hs G H a s W de lm EW EX mo)(b:O Int):cL P w hs G (L2.ji H lm (.lst (b.map V.int))) a s W de lm EW EX b:=by
 obtain⟨j,i,g,_⟩:=n.neq;obtain⟨l,k⟩:=n.ap lm (by simp);have d:∀f,HO.lst (mo.map V.int)≠ .tup f:=λ_ z=>by cases z
 exact⟨n.m.own l k n.l d,(ja j).trans n.d,zd,λq c=>(n.e q c).own (i q c).2 n.l d,λq c=>(n.x q c).own (g q c).2 n.l d,n.nd,n.ap⟩
theorem cL.put(n:cL P w hs G H a s W de lm EW EX mo)(kd:((EW.map (·.1)).map (·.1)).Nodup){q:(Int×O Nat)×Y}(b:q∈EW){vs:O V}(e:H q.2=some (.lst vs))(A:IsL H (q.1.2.map hN) vs)(y:Is H (hN i) v):∃g,g.map (·.1)=Zc (EW.map (·.1)) q.1.1 i/\cL P w hs G (L2.ji H q.2 (.lst (vs++[v]))) a s W de lm g EX mo:=by
 obtain⟨M,l,L,x,u,F⟩:=n.neq;obtain⟨E,B⟩:=n.ap _ (bp _ (bp _ (ee _ (QX b))));have j:∀o,HO.lst vs≠ .tup o:=λ_ z=>by cases z
 let f:(Int×O Nat)×Y->(Int×O Nat)×Y:=λp=>if p.1.1=q.1.1 then((p.1.1,p.1.2++[i]),p.2)else p
 have m:(EW.map f).map (·.2)=EW.map (·.2):=by rw[ck];refine QT λp _=>?_;show(f p).2=p.2;by_cases c:p.1.1=q.1.1;simp only[f,kP c];simp only[f,kr c]
 have D:(EW.map f).map (·.1)=Zc (EW.map (·.1)) q.1.1 i:=by
  rw[BZ kd (QX (QX b)),ck,ck];refine QT λp _=>?_;show(f p).1=if p.1.1=q.1.1 then(p.1.1,p.1.2++[i])else p.1
  by_cases c:p.1.1=q.1.1;simp only[f,kP c];simp only[f,kr c]
 have C:ve (EW.map f)=ve EW:=by unfold ve;rw[ck];refine QT λp _=>?_;show((Sm (f p).1.1),V.ref (f p).2)=_;by_cases c:p.1.1=q.1.1;simp only[f,kP c];simp only[f,kr c]
 refine⟨EW.map f,D,n.m.own E B e j,?_,(ja (ae (l q b).2)).trans n.l,λr k=>?_,λp d=>(n.x p d).own (ae (x q b p d)) e j,(m▸n.nd),(m▸n.ap)⟩;rw[C];exact(ja (ae (l q b).1)).trans n.d;obtain⟨p,d,rfl⟩:=bz.mp k;by_cases c:p.1.1=q.1.1;have t:p=q:=by refine Z2 (by rw[ck]at kd;exact kd) d b c
 subst t;simp only[f,if_true];exact⟨_,zd,(bo▸(IsL.append A (IsL.one y)).tups (zy.upd e j) (bo▸Vq _))⟩;simp only[f,kr c];exact(n.e p d).own (λz=>c (by rw[Z2 u d b z])) e j
theorem cL.putN(W0:cA hs)(F:dU P w G cW cU cP cR hs R a hr)(n:cL P w hs G H a s W de lm EW EX mo){t:Int}(Z:t ∉ (EW.map (·.1)).map (·.1)){r:Hp}{g:Y}(D:zh H r)(B:H g=none)(hl:r g=some (.lst []))(X:Is H (hN i) v):∃l,l.map (·.1)=Zc (EW.map (·.1)) t i/\cL P w hs G (L2.ji (L2.ji r de (.dK (ve EW++[((Sm t:aJ),V.ref g)]))) g (.lst [v])) a s W de lm l EX mo:=by
 obtain⟨U,S,Q,n4,n5,n6⟩:=n.neq;have d:∀{c o},H c=some o->c≠g:=λe z=>by rw[z,B]at e;cases e
 have f:g ∉ de::lm::(EW.map (·.2)++EX.map (·.2)):=λL=>by simp only[bc,cp]at L;rcases L with z|z|z|z;exact d n.d z.symm;exact d n.l z.symm;obtain⟨q,j,e⟩:=bz.mp z;obtain⟨A,y,_⟩:=n.e q j;exact d y e;obtain⟨q,j,e⟩:=bz.mp z;obtain⟨A,y,_⟩:=n.x q j;exact d y e
 have M:=n.m.fresh W0 F B;have Gl:=ym n.m.s0 B;have k:=n.same D;obtain⟨ad,gd⟩:=n.ap de (by simp);have m:∀u,HO.dK (ve EW)≠ .tup u:=λ_ z=>by cases z
 have p:L2.ji r de (.dK (ve EW++[((Sm t),V.ref g)])) g=some (.lst []):=(ja (ae (d n.d))).trans hl;have b:∀u,HO.lst []≠ .tup u:=λ_ z=>by cases z
 refine⟨EW++[((t,[i]),g)],by rw[bo,B1 Z];rfl,(k.m.own ad gd k.d m).own M Gl p b,?_,?_,λq j=>?_,λq j=>((k.x q j).own (Q q j).1 k.d m).own (λz=>?_) p b,?_,λc C=>?_⟩;rw[ja (d n.d),zd];unfold ve;rw[bo];rfl;exact(ja (d n.l)).trans ((ja (ae U)).trans k.l);rcases cp.mp j with z|z;refine((k.e q z).own (S q z).1 k.d m).own (λy=>?_) p b;obtain⟨A,x,_⟩:=n.e q z;exact d x y;rw[ai.mp z];exact⟨_,zd,IsL.one (((X.mono D).tups (zy.upd k.d m) (qu _)).tups (zy.upd p b) (qu _))⟩;obtain⟨A,x,_⟩:=n.x q j;exact d x z;rw[bo,PK];simp only[bc,cp,not_or]at f;obtain⟨E,N⟩:=d6.mp n.nd;refine d6.mpr ⟨λz=>?_,?_⟩;rcases cp.mp z with z|z;exact E (ee _ z);rcases bc.mp z with z|z;exact f.2.1 z.symm;exact E (di _ z);refine List.perm_middle.nodup_iff.mpr (d6.mpr ⟨λz=>?_,N⟩);rcases cp.mp z with z|z;exact f.2.2.1 z;exact f.2.2.2 z;rw[bo,PK]at C;simp only[bc,cp,d8,QU,ii,or_false]at C;rcases C with z|z|z|z|z;exact n.ap c (by rw[z];simp);exact n.ap c (by rw[z];simp);exact n.ap c (bp _ (bp _ (ee _ z)));rw[z];exact⟨M,Gl⟩;exact n.ap c (bp _ (bp _ (di _ z)))
theorem cL.take(n:cL P w hs G H a s W de lm EW [] mo)(F:dU P w G cW cU cP cR hs R a hr){ap:Y}(u:Bt [a.x] H H')(v:H ap=none)(N:aV P w hs G' H' {a with ap:=ap} s' W)(t:bM H' a.ap s.stp)(no:a.ap ∉ aW {a with ap:=ap} W)(D:∀c,c≠a.x->G' c=G c):cL P w hs G' H' {a with ap:=ap} s' W de lm EW [(s.stp,a.ap)] mo:=by
 obtain⟨_,⟨Z,C⟩,_⟩:=id F;have x:∀o,H a.x=some o->(∃d k,o=.ins cW d k):=λo e=>by rw[(n.m.s0 _ _ C)]at e;exact⟨Z,_,(RV e).symm⟩
 have p:∀{c o},H c=some o->(∀d k,o≠ .ins cW d k)->c ∉ [a.x]:=λ{c o} e h z=>by obtain⟨d,k,y⟩:=x o (ai.mp z▸e);exact h d k y
 have Q:∀{c:Y}{l:O Nat},bM H c l->bM H' c l:=λ{c l} t=>by obtain⟨E,e,_⟩:=id t;exact t.keep ((u _ _ (p e λ_ _ z=>by cases z) e).trans e.symm) (λb xs e=>u b _ (p e λ_ _ z=>by cases z) e)
 have j:∀{c},c∈de::lm::(EW.map (·.2)++([]:O (O Nat×Y)).map (·.2))->∃o,H c=some o/\∀d k,o≠ .ins cW d k:=λ{c} f=>by rw[QU,eh]at f;rcases bc.mp f with z|z;rw[z];exact⟨_,n.d,λ_ _ y=>by cases y⟩;rcases bc.mp z with z|z;rw[z];exact⟨_,n.l,λ_ _ y=>by cases y⟩;obtain⟨q,r,rfl⟩:=bz.mp z;obtain⟨E,e,_⟩:=n.e q r;exact⟨_,e,λ_ _ y=>by cases y⟩
 have A:a.ap∈aW a W:=jd.mpr (.inr (.inr (.inr (.inr (.inr (.inr (.inr (.inl J))))))));have m:∀{c},c∈de::lm::(EW.map (·.2)++([]:O (O Nat×Y)).map (·.2))->c ∉ aW {a with ap:=ap} W/\G' c=none:=λ{c} f=>by obtain⟨i,X⟩:=n.ap c f;obtain⟨o,e,S⟩:=j f;refine⟨λz=>?_,(D c (λz=>p e S (ai.mpr z))).trans X⟩;rcases jd.mp z with y|y|y|y|y|y|y|y|y;exact i (jd.mpr (.inl y));exact i (jd.mpr (.inr (.inl y)));exact i (jd.mpr (.inr (.inr (.inl y))));exact i (jd.mpr (.inr (.inr (.inr (.inl y)))));exact i (jd.mpr (.inr (.inr (.inr (.inr (.inl y))))));exact i (jd.mpr (.inr (.inr (.inr (.inr (.inr (.inl y)))))));exact i (jd.mpr (.inr (.inr (.inr (.inr (.inr (.inr (.inl y))))))));rw[y,v]at e;cases e;exact i (jd.mpr (.inr (.inr (.inr (.inr (.inr (.inr (.inr (.inr y)))))))))
 refine⟨N,u _ _ (p n.d λ_ _ z=>by cases z) n.d,u _ _ (p n.l λ_ _ z=>by cases z) n.l,λq r=>Q (n.e q r),λq r=>(ai.mp r▸t),?_,λc f=>?_⟩;have q:=n.nd;rw[QU,eh]at q;obtain⟨M,L⟩:=d6.mp q;have B:∀{c},c∈de::lm::(EW.map (·.2)++([]:O (O Nat×Y)).map (·.2))->c≠a.ap:=λf z=>(n.ap _ f).1 (z▸A);refine d6.mpr ⟨λz=>?_,List.nodup_append.mpr ⟨L,by simp,λc f b U z=>?_⟩⟩;rcases cp.mp z with z|z;exact M z;exact B (by simp) (ai.mp z);exact B (bp _ (bp _ (ee _ f))) (z.trans (ai.mp U));simp only[bc,cp,d8,QU,ii,or_false]at f;rcases f with z|z|z|z;exact m (by rw[z];simp);exact m (by rw[z];simp);exact m (bp _ (bp _ (ee _ z)));rw[z];exact⟨no,(D _ λy=>by have g:=n.m.none F A;rw[y,C]at g;cases g).trans (n.m.none F A)⟩
end
abbrev yw:Sj:=bI 65
abbrev wS:Sj:=bI 66
noncomputable def pW:List Str:=["plan","run","works","weaver","moments","ends","now","ending","hand"]
def nN(e:Nat->Nat->Int)(q:Nat×Nat):T:=.tup [hN q.1,.int (q.2:Int),.int (e q.1 q.2)]
inductive nX(cP cR:lv)(vs:List V)(H:Hp)(Q:VK)(e0:XK):Prop| mk:∀(xp:lv) (hs:aC) (R:Nat->lv) (en:Nat->Nat->List Dd) (rk:Nat->Nat->Nat) (e:Nat->Nat->Int),vs=[.ref xp]->aQ H cP cR hs R xp->cA hs->AS (aB hs) en rk->Mo (aB hs) en e->
   (∀l ws H',zh H H'->(∀i,i<hs.fs.length->ws.count i=((aB hs).S i).length)->(∀i∈ws,i<hs.fs.length)->ws.length<=3200->Is H' (.lst ((dF ws).map (nN e))) (.ref l)->Q (.ref l) H')->nX cP cR vs H Q e0
section
variable{K:O4}
theorem Yw:aA pW ["plan"] (ze yw):=.of
theorem Gf(zZ:mg "zip"=none)(CW:aI K cW bA)(oA:Ok P w K mg base "named" 1 ["weaving"] hU)(hr:aO 5 (A.deeper (envOfC "soonest" (ze yw) s0.heap.objs.size f cdv))) (e:Nat->Nat->Int):
  ∃ tt,dJ (X7 dX P w K mg base pW "soonest" (ze yw) f cdv A outer s0 H E).nox ((xq yw).drop 6) tt/\∀(j:Hp) (y dx B u:Y) (R:O (Str×V)) (a:O Nat) (x0 x1 x2 Z X W U:Option V),j y=some (.ins cW dx R)->R.lookup ("woven":Str)=some (.ref B)->bM j B a->j u=some (.lst ((dH e a).map V.int))->a.length<=3200->
    (∀l H2,zh j H2->Is H2 (.lst ((dF a).map (nN e))) (.ref l)->Q (.ref l) H2)->tt (.of Q) [x0,x1,x2,some (.ref y),some (.ref u),Z,X,W,U] j:=by
 refine⟨_,zg (zm (q8 (own:=["name","now"]) (cap:=[]) (g:=iG K 2 (cJ (Zx 0) (cJ (Zx 1) qM))) J (xj (ze yw) J J (by decide+kernel) (by decide+kernel) (by decide+kernel) trivial) (Il J zZ (za (yb oA (hr.mono (by decide)) (za (zo (pv 3) J) zb)) (za (pv 4) zb))) (λ_ _ _ _=>ky J (yu (zp (by show(["name","now"]:O Str).Nodup;decide+kernel) J (RW J)) (yu (zp (by show(["name","now"]:O Str).Nodup;decide+kernel) J (RW J)) qx))) (λ_ _ _ _=>wv) (λ_ _ _ _=>yd HY (pv 0) (zx (za (pv 1) zb))))),?_⟩
 intro j y dx B u R a x0 x1 x2 Z X W U hx f1 la t hw k;refine⟨y,cW,dx,_,_,J,hx,CW.cls,CW.n,f1,B,a,J,la,by omega,λln H1 D n1 i1=>?_⟩;obtain⟨aj,xs,S,s,n⟩:=i1;cases S;have ah:(dF a).length=a.length:=Vp a [];have C:=n.length;rw[ag]at C;have S:(dH e a).length=(dF a).length:=by unfold dH;rw[ag]
 refine⟨ln,u,xs,_,J,s,D _ _ t,(Hq (by rw[ag,C,S]) (λi d G=>zh H1 G/\IsL G (((dF a).take i).map (nN e)) d) ⟨zh.refl _,J⟩ (λi d G hi ⟨b,g⟩=>⟨b _ _ s,b _ _ (D _ _ t),?_⟩) ?_ ?_)⟩;rw[g.length,ag,ia,TM];omega;rintro i x z d G p M L ⟨b,g⟩ N;obtain⟨tt,o,ix⟩:=n.get' M;rw[bq]at o;obtain⟨q,hq,rfl⟩:=df.mp o;have F:z=.int (e q.1 q.2):=by unfold dH at L;rw[bq,bq,hq]at L;exact(RV L).symm
 subst F;have m:=zh.new N (.tup [x,.int (e q.1 q.2)]);have r:ji G p (.tup [x,.int (e q.1 q.2)]) p=some (.tup [x,.int (e q.1 q.2)]):=zd;generalize ji G p (.tup [x,.int (e q.1 q.2)])=G3 at m r⊢;refine⟨p,_,J,aG.of r,J,_,_,J,_,_,J,J,DN ⟨by show 1<=1000;decide,λp4 G4 s4 n4 g4=>?_⟩⟩;have c:=m.trans s4;refine⟨[hN q.1,.int q.2],[.int (e q.1 q.2)],(ix.mono b).mono c,⟨p4,_,J,g4,IsL.one J⟩,by show 3<=1000;decide,λv G5 s5 i5=>⟨b.trans (c.trans s5),?_⟩⟩;rw[fh,hq,bo];exact IsL.append (g.mono (c.trans s5)) (IsL.one i5);rintro d G ⟨b,g⟩ p N;rw[C,gy]at g;have m:=zh.new N (.lst d);exact k p _ (D.trans (b.trans m)) ⟨p,d,J,zd,g.mono m⟩
end
theorem Wi.few{h:HW}{off:Nat->Prop}{Jx:O Nat->(Nat->Nat)->Prop}{s:Ws}(W:Wi h hl off Jx s):s.rdy.length+Z8 s.wai+s.stp.length<=h.n:=by have q:=X3 W.one λj a=>W.lt j (cp.mp a);rw[cq,cq,Ym]at q;omega
theorem Wi.reJ{h:HW}{off:Nat->Prop}{Jx a:O Nat->(Nat->Nat)->Prop}{s:Ws}(W:Wi h hl off Jx s)(j:a s.wov s.c):Wi h hl off a s:=⟨W.lg,W.lt,W.one,W.key,W.cov,W.wt,W.st,W.no,j⟩
theorem dB.mem{h:HW}{c:Nat->Nat}(L:dB h ws c)(a:i∈ws):i<h.n:=Rz λz=>by have:=List.count_pos_iff.mpr a;rw[L.cnt,(L.low i).2 z]at this;exact kS this (f9 _)
section
variable{K:O4}
theorem IB(T:Txt K mg)(zM:mg "min"=none)(zZ:mg "zip"=none)(CW:aI K cW bA)(CU:aI K cU bO)(oS:bD P w K mg base cW "step" 4 ["self","hand"] (gZ P w cW cU cP cR))(oV:bD P w K mg base cW "weave" 5 ["self"] (gY P w cW cU cP cR))(oT:bD P w K mg base cW "take_stopped" 1 ["self"] (jL P w cW cU cP cR))(oN:bD P w K mg base cU "next_deed" 1 ["self","hand"] (fE cU cP cR))(oA:Ok P w K mg base "named" 1 ["weaving"] hU)(hr:aO 5 (A.deeper (envOfC "soonest" (ze yw) s0.heap.objs.size f cdv))) {t:aC} {en:Nat->Nat->List Dd} {rk:Nat->Nat->Nat} {e:Nat->Nat->Int} (W0:cA t) (AA:AS (aB t) en rk) (MM:Mo (aB t) en e):
  ∃ tt,dJ (X7 dX P w K mg base pW "soonest" (ze yw) f cdv A outer s0 H E).nox ((xq yw).drop 5) tt/\∀(B G H':Hp) (R:Nat->lv) (a:WA) (s:Ws) (W:dO) (X lm:lv) (u:lU) (S:List ((List Int×Int)×V)) (x0 x2 x6 x7 Z:Option V),dU P w G cW cU cP cR t R a S->eI S=dN (aB t)->cL P w t G H' a s W X lm u [] (dH e s.wov)->Hd (aB t) e s (u.map (·.1))->(u.map (·.1)).countP (·.2.isEmpty)<=1->NE s.wai->zh B G->B a.x=none->
    (∀l ws H2,zh B H2->(∀i,i<t.fs.length->ws.count i=((aB t).S i).length)->(∀i∈ws,i<t.fs.length)->ws.length<=3200->Is H2 (.lst ((dF ws).map (nN e))) (.ref l)->Q (.ref l) H2)->tt (.of Q) [x0,some (.ref a.xr),x2,some (.ref a.x),some (.ref lm),some (.ref X),x6,x7,Z] H':=by
 have nd:=Yw.nd;obtain⟨tt,cl,kt⟩:=Gf (P:=P) (A:=A) zZ CW oA hr e;refine⟨_,zc (Vj RY (CV (pv 5) (λ_=>rfl)) (zc (zn (i:=6) nd (ya (Lm J) J zM L2.kl (za (xw (Xr J) (by rfl) T.list Ju (za (pv 5) zb)) zb))) (zc (zn (i:=7) nd (CN (pv 5) (pv 6) ⟨J,J,J,J⟩)) (zc (xy RY J (jg (pv 7)) (zp (i:=8) nd) (zg (y0 (qp oS CW.cls (hr.mono (by decide)) (pv 3) (za (pv 8) zb))))) (zc (y0 (X1 oV CW.cls hr (pv 3))) (zc (y0 (Zu PySem.F.plainAttrs_list PySem.F.slot_list_extend PySem.F.type_list_extend X4 (pv 4) (za (yd AI (yq (za (pv 6) zb)) (yd Xk (ya yc (by rfl) T.len wu (za (zo (pv 3) J) zb)) (ya yc (by rfl) T.len wu (za (pv 4) zb)))) zb))) (zg (xy RY J (jg (X1 oT CW.cls (hr.mono (by decide)) (pv 3))) (zp (i:=8) nd) (zg (y0 (Zu PySem.F.plainAttrs_list PySem.F.slot_list_append PySem.F.type_list_append vm (KZ (pv 5) (yd xz (pv 6) (zk zj (qp oN CU.cls (hr.mono (by decide)) (pv 1) (za (pv 8) zb)) zf)) (yq zb) ⟨J,J,J,J⟩) (za (pv 8) zb))))))))))))
  cl,?_⟩
 intro B G H' R a s W X lm u S x0 x2 x6 x7 Z F hE n D av aq sB Bx k;let dg:Nat->L2.St->Hp->Prop:=λmm σ Hc=>∃(G:Hp)(C:WA)(s:Ws)(W:dO)(u:lU)(x6 x7 Z:Option V),σ=[x0,some (.ref a.xr),x2,some (.ref a.x),some (.ref lm),some (.ref X),x6,x7,Z]/\C.x=a.x/\C.xr=a.xr/\dU P w G cW cU cP cR t R C S/\cL P w t G Hc C s W X lm u [] (dH e s.wov)/\Hd (aB t) e s (u.map (·.1))/\(u.map (·.1)).countP (·.2.isEmpty)<=1/\NE s.wai/\zh B G/\mm=Va (aB t)-s.wov.length+(u.map (·.1)).countP (·.2.isEmpty);refine⟨dg,⟨_,G,a,s,W,u,x6,x7,Z,J,J,J,F,n,D,av,aq,sB,J⟩,?_⟩;clear F n D av aq sB x6 x7 Z s W u G H';rintro mm σ Hc ⟨G,C,s,W,u,x6,x7,Z,rfl,ex,a8,F,n,D,av,aq,sB,rfl⟩;refine⟨!(ve u).isEmpty,.inr (.inr ⟨ve u,n.d,J⟩),?_⟩;obtain⟨RF,⟨dx,hx⟩,GH,dK,du,dv,dG⟩:=id F;by_cases c:u=[];subst c;refine yn ?_;have hw:=dq D.wi.lg.most (tq W0);exact kt Hc a.x dx C.ao lm _ s.wov x0 (some (.ref a.xr)) x2 _ x6 x7 Z (ex▸n.m.s0 _ _ hx) Wz n.m.wov n.l hw λl H2 x i2=>(k l s.wov H2 (sB.trans (n.m.s0.trans x)) (λi hi=>(D.wi.lg.cnt i).trans (D.done hi)) (λi hi=>D.wi.lg.mem hi) hw i2)
 have bK:(!(ve u).isEmpty)=true:=by cases u with|nil=>exact kS J c|cons q r=>rfl
 rw[bK];have kd:=D.kn;refine xx ⟨λbd G'=>∃(G:Hp)(C:WA)(s':Ws)(W:dO)(ax:lU)(x6 x7 Z:Option V),bd=[x0,some (.ref a.xr),x2,some (.ref a.x),some (.ref lm),some (.ref X),x6,x7,Z]/\C.x=a.x/\C.xr=a.xr/\dU P w G cW cU cP cR t R C S/\cL P w t G G' C s' W X lm ax [] (dH e s'.wov)/\Hd (aB t) e s' (ax.map (·.1))/\(ax.map (·.1)).countP (·.2.isEmpty)<=1/\NE s'.wai/\zh B G/\Va (aB t)-s'.wov.length+(ax.map (·.1)).countP (·.2.isEmpty)<Va (aB t)-s.wov.length+(u.map (·.1)).countP (·.2.isEmpty),?_,?_⟩;rintro bd G' ⟨G2,a2,x,W2,L,y6,y7,y8,rfl,h1,h2,h3,h4,h5,h6,h7,h8,h9⟩;exact⟨_,h9,G2,a2,x,W2,L,y6,y7,y8,J,h1,h2,h3,h4,h5,h6,h7,h8,J⟩;refine⟨X,ve u,J,.inl n.d,λl1 cx=>?_⟩;have ek:(ve u).map (λkv=>kV kv.1)=(u.map (·.1.1)).map V.int:=by unfold ve;rw[ck,ck];rfl
 rw[ek];have s1:=zh.new cx (.lst ((u.map (·.1.1)).map V.int));have g1:ji Hc l1 (.lst ((u.map (·.1.1)).map V.int)) l1=some (.lst ((u.map (·.1.1)).map V.int)):=zd;generalize ji Hc l1 (.lst ((u.map (·.1.1)).map V.int))=H1 at s1 g1⊢;refine⟨l1,_,J,aK.of g1,by intro z;exact c (List.map_eq_nil_iff.mp z),λm hm bJ=>?_⟩;obtain⟨q,hq,rfl⟩:=bz.mp hm;have n1:=n.same s1;have mn:∀r∈u.map (·.1),q.1.1<=r.1:=λr cs=>by obtain⟨p,hp,rfl⟩:=bz.mp cs;exact bJ _ (QX hp)
 have ah:(q.1.1,q.1.2)∈u.map (·.1):=QX hq;refine⟨X,J,.inl ⟨_,.inl n1.d⟩,ve u,Sm q.1.1,.ref q.2,n1.d,J,Lc kd hq,?_⟩;have n2:=n1.pop kd hq;have ef:(u.filter λp=>decide (p.1.1≠q.1.1)).map (·.1)=(u.map (·.1)).filter λr=>decide (r.1≠q.1.1):=by rw[P4];rfl
 generalize c5:(u.filter λp=>decide (p.1.1≠q.1.1))=L at n2 ef;generalize ji H1 X (.dK (kj (ve u) (Sm q.1.1:aJ)))=H2 at n2⊢;obtain⟨zs,bx,bn⟩:=n2.x _ (ai.mpr J);have a7:=bn.length;rw[ag]at a7;have ca:=(List.nodup_append.mp ((Z7 ah D.kn).nodup_iff.mp D.hn)).1;have aw:∀{Hx:Hp}{s':Ws}{W':dO},aV P w t G Hx C s' W'->Hx a.x=some (.ins cW dx (gX C)):=λm=>ex▸m.s0 _ _ hx;have wb:∀{off:Nat->Prop}{Jx:List Nat->(Nat->Nat)->Prop}{s':Ws},Wi (aB t) (dN (aB t)) off Jx s'->s'.rdy.length+Z8 s'.wai<=40/\s'.wov.length<=3200:=λW'=>by have q1:=W'.few;have q2:=W0.n1;have:(aB t).n=t.fs.length:=rfl;exact⟨by omega,dq W'.lg.most (tq W0)⟩
 refine⟨q.2,J,⟨zs,aK.of bx⟩,?_⟩;let dn:Nat->L2.St->Hp->Prop:=λj σ Hj=>∃(Z:Option V)(s1:Ws)(W1:dO),σ=[x0,some (.ref a.xr),x2,some (.ref a.x),some (.ref lm),some (.ref X),some (.int q.1.1),some (.ref q.2),Z]/\cL P w t G Hj C s1 W1 X lm L [(q.1.2,q.2)] (dH e s.wov)/\Wi (aB t) (dN (aB t)) (Wt (u.map (·.1)) q.1.1 (q.1.2.drop j)) (Jn (aB t) e q.1.1 s.c s.wov (Wt (u.map (·.1)) q.1.1 (q.1.2.drop j))) s1/\(∀i∈q.1.2.drop j,s1.c i=s.c i)/\NE s1.wai/\Hj q.2=some (.lst zs)/\zy H2 Hj/\s1.wov.length=s.wov.length+j;refine Zm dn
  ⟨Z,s,W,J,n2,(PV▸D.begin ah),λi _=>rfl,aq,bx,zy.refl _,by omega⟩ (λj σ Hj _ q0=>by obtain⟨_,_,_,_,_,_,_,_,g,_⟩:=q0;exact aK.of g) ?_ ?_
 rintro j v σ Hj hv ⟨y8,s1,W1,rfl,nj,Wj,cj,b5,gj,tj,lj⟩;obtain⟨b0,N,a6⟩:=bn.get' hv;rw[bq]at N;obtain⟨i,hi,rfl⟩:=df.mp N;have ba:q.1.2.drop j=i::q.1.2.drop (j+1):=by obtain⟨h1,h2⟩:=d7.mp hi;rw[PR h1,h2]
 rw[ba]at Wj cj;obtain⟨wx,hw,c0,Wn,cn⟩:=D.endW ah mn (by rw[<-ba];exact ca.sublist (List.drop_sublist _ _)) (λy hy=>QY (ba▸hy)) Wj cj;obtain⟨b1,b2⟩:=wb Wj;obtain⟨_,F1,m1⟩:=nj.m.rebase F;refine⟨a.x,dx,_,J,aw nj.m,J,_,C,t,R,s1,W1,i,.wor wx,v,S,by rw[ex];rfl,F1,m1,W0,c0,a6.tups tj (qu _),hw,by omega,by omega,λW5 H5 m5=>?_⟩;obtain⟨n5,t5,cc⟩:=nj.behind W0 F m5;refine⟨_,_,W5,J,n5,Wn,cn,gr b5,cc _ _ ?_ gj,λb xs y=>t5 _ _ (tj _ _ y),?_⟩;exact(nj.ap q.2 (by simp)).1;show(s1.wov++[i]).length=_;rw[cq,lj,ij];omega;rintro σ H3 ⟨y8,s1,W1,rfl,n3,W3,c3,b7,g3,t3,l3⟩;rw[a7,PU]at W3;obtain⟨_,F1,m1⟩:=n3.m.rebase F;refine⟨a.x,dx,_,J,aw n3.m,J,_,C,t,R,s1,W1,S,Wt (u.map (·.1)) q.1.1 [],λws c=>Jn (aB t) e q.1.1 s.c s.wov (Wt (u.map (·.1)) q.1.1 []) ws c/\s1.wov.length<=ws.length,by rw[ex];rfl,F1,m1,W0,by rw[hE];exact W3.reJ ⟨W3.jj,au _⟩,by rw[hE];exact λws c i d h1 h2 h3 h4 h5 h6=>⟨Jn.jok AA MM (D.nn _ ah) (D.ge1 mn) ws c i d h1 h2.1 h3 h4 h5 h6,dq h2.2 (cq▸Rv _ _)⟩,b7,λx W2 H4 m4 W4 co b6=>?_⟩;rw[hE]at W4;have l4:=W4.jj.2;replace W4:=W4.reJ W4.jj.1;obtain⟨b8,t4,_⟩:=n3.behind W0 F m4;have n4:=b8.forget;obtain⟨b1,b2⟩:=wb W4;obtain⟨Dn,em,ln⟩:=D.next AA MM ah mn W4 co;have M:(dH e s.wov).length=s.wov.length:=by unfold dH;rw[ag];exact Vp s.wov []
 obtain⟨os,c2,ce⟩:=n4.m.wov;have a4:=ce.length;rw[ag]at a4;refine⟨.inl ⟨J,_,aK.of n4.l⟩,by show 1<=1000;decide,λp5 H5 s5 dT g5=>?_⟩;have n5:=n4.same s5;refine⟨a.x,cW,dx,_,_,J,aw n5.m,CW.cls,CW.n,Wz,C.ao,os,J,.inl (aK.of (s5 _ _ c2)),lm,_,J,.inl (aK.of n5.l),_,_,J,J,p5,_,_,J,J,g5,by rw[ag,M];omega,by rw[ag,M];omega,by rw[ag,M,a4,TM];show 1*_<=_;omega,λp6 cv=>?_⟩;have c8:(Rk ((os.length:Int)-(((dH e s.wov).map V.int).length:Int)).toNat [V.int q.1.1]).flatten=(Rk (x.wov.length-s.wov.length) q.1.1).map V.int:=by rw[ag,M,a4,show((x.wov.length:Int)-(s.wov.length:Int)).toNat=x.wov.length-s.wov.length from Int.toNat_sub ..];induction x.wov.length-s.wov.length with|zero=>rfl|succ n ih=>rw[Rl,QA,ih,Rl,d8];rfl
 rw[c8];have s6:=zh.new cv (.lst ((Rk (x.wov.length-s.wov.length) q.1.1).map V.int));have g6:ji H5 p6 (.lst ((Rk (x.wov.length-s.wov.length) q.1.1).map V.int)) p6=some (.lst ((Rk (x.wov.length-s.wov.length) q.1.1).map V.int)):=zd;generalize ji H5 p6 (.lst ((Rk (x.wov.length-s.wov.length) q.1.1).map V.int))=H6 at s6 g6⊢;have n6:=n5.same s6;refine⟨lm,p6,_,_,J,J,n6.l,g6,by rw[ag,ag,ie,M,TM];omega,?_⟩;have n7:=n6.more (dH e x.wov);rw[show(dH e s.wov).map V.int++(Rk (x.wov.length-s.wov.length) q.1.1).map V.int=(dH e x.wov).map V.int by rw[em,bo]];generalize ji H6 lm (.lst ((dH e x.wov).map V.int))=H7 at n7⊢;refine⟨a.x,dx,_,J,aw n7.m,J,G,C,t,R,x,W2,S,by rw[ex];rfl,F,n7.m,W0,λG8 ap H8 bG F8 m8 bj b4 db c1=>?_⟩;have n8:=n7.take F db c1 m8 bj b4 bG;obtain⟨bg,az,ay⟩:=bj;have aS:=ay.length;rw[ag]at aS;obtain⟨bN,⟨d4,d2⟩,_⟩:=id F8;obtain⟨dr,da,d5,_,bB,_⟩:=id bN;obtain⟨f1,f2⟩:=D.few av;have d1:(aB t).n<=40:=W0.n1;have dp:L.length<=41/\((L.map (·.1)).flatMap (·.2)).length<=40:=by
  constructor;have q1:L.length<=u.length:=c5▸i0 _ _;rw[ag]at f1;omega;rw[ef];have q1:=((Z7 ah D.kn).length_eq)
  rw[cq]at q1;omega
 have dt:x.stp.length<=40:=by have:=W4.few;omega
 have bl:((L.map (·.1)).map (·.1)).Nodup:=ef▸D.kn.sublist (List.filter_sublist.map _);refine⟨C.ap,J,⟨bg,aK.of az⟩,?_⟩;let dh:Nat->L2.St->Hp->Prop:=λj σ Hj=>∃(Z:Option V)(U:lU),σ=[x0,some (.ref a.xr),x2,some (.ref a.x),some (.ref lm),some (.ref X),some (.int q.1.1),some (.ref q.2),Z]/\U.map (·.1)=qr (aB t) x.c q.1.1 (L.map (·.1)) (x.stp.take j)/\cL P w t G8 Hj {C with ap:=ap} {x with stp:=[]} W2 X lm U [(x.stp,C.ap)] (dH e x.wov)/\Hj C.ap=some (.lst bg)/\zy H8 Hj;refine Zm (K:=K) dh
  ⟨_,L,J,J,n8,az,zy.refl _⟩ (λj σ Hj _ q0=>by obtain⟨_,_,_,_,_,g,_⟩:=q0;exact aK.of g) ?_ ?_
 rintro j v σ Hj hv ⟨y8,U,rfl,eE,nj,gj,tj⟩;obtain⟨b0,N,a6⟩:=ay.get' hv;rw[bq]at N;obtain⟨i,hi,rfl⟩:=df.mp N;obtain⟨wx,bC⟩:=Au (W4.st i (dj hi));have bL:wk (aB t) i (x.c i)=wx:=by unfold wk;rw[bC];rfl
 have iv:=a6.tups tj (qu _);refine⟨X,J,.inl ⟨_,.inl nj.d⟩,?_⟩;refine⟨a.xr,da,_,J,a8▸nj.m.s0 _ _ bB,J,G8,a.xr,C.ad,C.as,C.al,C.k0,t,R,x.c,i,v,J,a8▸iE ⟨bN,nj.m.s0,nj.m.run⟩,(W4.lt i (.inr (di _ (dj hi)))),W0,iv,λvd bE=>?_⟩;rw[bC]at bE;obtain⟨ad,xd,rfl,c4,cw⟩:=(bE)
 obtain⟨_,_,rfl,_,_,_,rfl,i1,i2⟩:=cw;cases(i1);cases(i2);refine⟨ad,_,1,.int wx,J,J,aG.of c4,(xb J),_,_,J,J,c9 _,λle H9 s9 n9 g9=>?_⟩;have aj:=nj.same s9;obtain⟨bk,bi,_⟩:=X5 (h:=aB t) (m:=q.1.1) (c:=x.c) bl;rw[<-eE]at bk bi;have b3:=bi.length_eq;rw[cq]at b3;have tk:=QP j x.stp;have d3:U.length<=100:=by have:=Du (h:=aB t) (m:=q.1.1) (c:=x.c) (q:=x.stp.take j) (ends:=L.map (·.1));rw[<-eE,ag,ag]at this;omega
 have et:x.stp.take (j+1)=x.stp.take j++[i]:=by rw[fh,hi];rfl
 obtain⟨_,_,m3,b9,_⟩:=aj.neq;refine⟨ve U,Sm (q.1.1+wx),J,aj.d,by unfold ve;rw[ag];exact yx (by omega),λvv ci=>?_,λbH=>?_⟩;obtain⟨p,hp,cu,rfl⟩:=zQ.1 _ ci;obtain⟨ys,ak,bw⟩:=aj.e p hp;have yl:=bw.length;rw[ag]at yl;have fl:=Cr (QX (f:=λr:(Int×List Nat)×lv=>r.1) hp);obtain⟨bb,e4,a5⟩:=aj.put bk hp ak bw (iv.mono s9);refine⟨.inl ⟨J,_,aK.of ak⟩,p.2,ys,_,J,J,ak,yx (by omega),_,bb,J,?_,a5,?_,?_⟩;rw[e4,cu,eE,et,Xp,bL];exact(ja (ae (b9 p hp _ (ai.mpr J)))).trans (s9 _ _ gj);exact λb xs y=>zy.upd ak (λ_ z=>by cases z) _ _ (s9 _ _ (tj _ _ y));obtain⟨bb,e4,a5⟩:=nj.putN W0 F8 (zQ.2 bH) s9 n9 g9 iv;rw[Xg _ bH];have e2:ji H9 X (.dK (ve U++[((Sm (q.1.1+wx):aJ),V.ref le)])) le=some (.lst []):=(ja (λz=>by rw[z,nj.d]at n9;cases n9)).trans g9;refine⟨.inl ⟨J,_,aK.of e2⟩,le,[],_,J,J,e2,by decide,_,bb,J,?_,a5,?_,?_⟩;rw[e4,eE,et,Xp,bL];rw[Ra,ja (λz=>by rw[<-z,gj]at n9;cases n9),ja (m3 _ (ai.mpr J)).1];exact s9 _ _ gj;exact λb xs y=>zy.upd e2 (λ_ z=>by cases z) _ _ (zy.upd aj.d (λ_ z=>by cases z) _ _ (s9 _ _ (tj _ _ y)));rintro σ H9 ⟨y8,U,rfl,eE,nj,_,_⟩;rw[aS,gy]at eE;rw[<-ef,<-eE]at Dn;obtain⟨_,_,_,_,_,c6⟩:=X5 (h:=aB t) (m:=q.1.1) bl;rw[<-eE,ef]at c6;have c7:=I9 (p:=λr=>r.2.isEmpty) ah D.kn;have mo:=W4.lg.most;refine⟨G8,{C with ap:=ap},{x with stp:=[]},W2,U,_,_,_,J,ex,a8,F8,nj.forget,Dn,by omega,b6,(λb o y=>(bG b λz=>by rw[z,ex,Bx]at y;cases y).trans (sB _ _ y)),?_⟩;show Va (aB t)-x.wov.length+_<_;cases a3:q.1.2 with| nil=>rw[a3]at c7;simp only[QL,if_true]at c7;omega| cons a b=>rw[a7,a3,fg]at l3;omega
end
noncomputable def Ez:Sj->List OP|.Assign t _ _=>t|_=>[]
noncomputable def nE:OP:=.Name "" default
noncomputable def dV:Sj->List OP|.Assign _ (.Dict _ vs _) _=>vs|_=>[]
noncomputable def Ox:Sj->List (Option OP)|.Assign _ (.Dict ks _ _) _=>ks|_=>[]
noncomputable def dP:Sj->Pos|.Assign _ (.Dict _ _ p) _=>p|_=>default
noncomputable def aP:Sj->Pos|.Assign _ _ p=>p|_=>default
abbrev qT:Sj:=(xq yw).getD 4 dE
theorem LV:∃(k0 e1:OP),(xq yw).drop 4=.Assign (Ez qT) (.Dict [some k0] [e1] (dP qT)) (aP qT)::(xq yw).drop 5/\some k0=(Ox qT).getD 0 none/\e1=(dV qT).getD 0 nE:=⟨_,_,J,J,J⟩
section
variable{K:O4}
theorem IA(T:Txt K mg)(zM:mg "min"=none)(zZ:mg "zip"=none)(CW:aI K cW bA)(CU:aI K cU bO)(oS:bD P w K mg base cW "step" 4 ["self","hand"] (gZ P w cW cU cP cR))(oV:bD P w K mg base cW "weave" 5 ["self"] (gY P w cW cU cP cR))(oT:bD P w K mg base cW "take_stopped" 1 ["self"] (jL P w cW cU cP cR))(oN:bD P w K mg base cU "next_deed" 1 ["self","hand"] (fE cU cP cR))(oA:Ok P w K mg base "named" 1 ["weaving"] hU)(hr:aO 5 (A.deeper (envOfC "soonest" (ze yw) s0.heap.objs.size f cdv))) {b:aC} {en:Nat->Nat->O Dd} {rk:Nat->Nat->Nat} {e:Nat->Nat->Int} (W0:cA b) (AA:AS (aB b) en rk) (MM:Mo (aB b) en e):
  ∃ tt,dJ (X7 dX P w K mg base pW "soonest" (ze yw) f cdv A outer s0 H E).nox ((xq yw).drop 4) tt/\∀(B G n:Hp) (R:Nat->Y) (a:WA) (j:Y) (g:O ((O Int×Int)×V)) (N M x5 L D C:Option V),dU P w G cW cU cP cR b R a g->eI g=dN (aB b)->aV P w b G n a (newW b z0) []->n j=some (.lst [])->j ∉ aW a []->G j=none->zh B G->B a.x=none->
    (∀l ws H2,zh B H2->(∀i,i<b.fs.length->ws.count i=((aB b).S i).length)->(∀i∈ws,i<b.fs.length)->ws.length<=3200->Is H2 (.lst ((dF ws).map (nN e))) (.ref l)->Q (.ref l) H2)->tt (.of Q) [N,some (.ref a.xr),M,some (.ref a.x),some (.ref j),x5,L,D,C] n:=by
 obtain⟨tt,ah,kt⟩:=IB T zM zZ CW CU oS oV oT oN oA hr W0 AA MM;obtain⟨k0,e1,hb,hk,he⟩:=LV;rw[hb];have p0:PE (X7 dX P w K mg base pW "soonest" (ze yw) f cdv A outer s0 H E).nox k0 (tC (.int 0)):=by have:=RV (hk.trans J);rw[this];exact zf
 have W:∃t,PE (X7 dX P w K mg base pW "soonest" (ze yw) f cdv A outer s0 H E).nox e1 t/\t=zK lE:=he▸⟨_,yq zb,J⟩;obtain⟨t1,W,rfl⟩:=W;refine⟨_,zc (zn (i:=5) Yw.nd (Bv (Xh p0 W BA) J J (List.cons_ne_nil _ _) cG)) ah,?_⟩;intro B G n R a j g N M x5 L D C F hE m d s aj sB Bx k;intro p x;have S:=zh.new x (.dK []);have y:ji n p (.dK []) p=some (.dK []):=zd;generalize ji n p (.dK [])=H1 at S y⊢;refine⟨c9 _,λv H2 U Z g2=>⟨U _ _ y,[((Sm 0),.ref v)],J,by show 1<=15;decide,?_⟩⟩;have o:=S.trans U;have X:p≠v:=λz=>by rw[<-z,y]at Z;cases Z
 have cG:=ym S Z;have fp:=m.fresh W0 F x;have Gp:=ym m.s0 x;have u:j≠p/\j≠v:=⟨(λz=>by rw[z,x]at d;cases d),(λz=>by rw[z,cG]at d;cases d)⟩
 refine kt B G _ R a (newW b z0) [] p j [((0,[]),v)] g N M L D C F hE ⟨(m.same o).own fp Gp (U _ _ y) (λ_ z=>by cases z),zd,(ja u.1).trans (o _ _ d),λq hq=>?_,λq hq=>(nomatch hq),by simp[u.2],λc hc=>?_⟩ (Hd.first AA MM) (au 1) (λr hr=>(nomatch hr)) sB Bx k;rw[ai.mp hq];exact⟨[],(ja (ae X)).trans g2,J⟩;simp at hc;rcases hc with z|z|z;rw[z];exact⟨fp,Gp⟩;rw[z];exact⟨s,aj⟩;rw[z];exact⟨(m.fresh W0 F cG),(ym m.s0 cG)⟩
end
def mh(F:aC)(B:List (Nat×Nat)):List (Nat×Nat):=B.filter λq=>dN (aB F) q.1 q.2
inductive nU(vs:List V)(H:Hp)(Q:VK)(e0:XK):Prop| mk:∀(v:V) (hs:aC) (en:Nat->Nat->List Dd) (rk:Nat->Nat->Nat) (e:Nat->Nat->Int),vs=[v]->Is H (eH hs) v->iO hs->AS (aB hs) en rk->Mo (aB hs) en e->
   (∀l ws H',zh H H'->(∀i,i<hs.fs.length->ws.count i=((aB hs).S i).length)->(∀i∈ws,i<hs.fs.length)->ws.length<=3200->Is H' (.lst ((dF ws).map (nN e))) (.ref l)->Q (.ref l) H')->nU vs H Q e0
theorem Q0{a:Type}[DecidableEq a]{k:a}:∀{rows:List (a×V)}{kvs:List (a×V)},(yv (wg rows kvs) k).isSome=true↔(∃r∈rows,r.1=k)\/(yv kvs k).isSome=true|[],kvs=>by simp[wg]| r::rows,kvs=>by show(yv (wg rows (vw kvs r.1 r.2)) k).isSome=true↔_;rw[(Q0),ju];by_cases c:k=r.1;rw[kP c];exact⟨λ_=>.inl ⟨r,bv,c.symm⟩,λ_=>.inr J⟩;rw[kr c];refine⟨λh=>h.imp (λd=>by obtain⟨x,f,b⟩:=d;exact⟨x,bp _ f,b⟩) id,λh=>h.imp (λd=>by obtain⟨x,f,b⟩:=d;exact⟨x,(bc.mp f).resolve_left λz=>c (by rw[<-b,z]),b⟩) id⟩
noncomputable def jA(q:Nat×Nat):List Int×Int:=([(q.1:Int)],(q.2:Int))
theorem B8{q r:Nat×Nat}(h:jA q=jA r):q=r:=by obtain⟨i,p⟩:=q;obtain⟨j,k⟩:=r;injection h with a b;injection a with a;exact Prod.ext (Pq a) (Pq b)
theorem Bq{a:aC}{q:Nat×Nat}:q∈kE a i↔q.1=i/\q.2<((aB a).S i).length:=by unfold kE;rw[bz];constructor;rintro⟨p,b,rfl⟩;exact⟨J,cr.mp b⟩;rintro⟨rfl,h⟩;exact⟨q.2,cr.mpr h,J⟩
theorem LO{α a:Type}{R:α->a->Prop}{xs:O α}{b:O a}(p:Paired R xs b){x:α}{y:a}(h:R x y):Paired R (xs++[x]) (b++[y]):=Paired.snoc p h
section
variable{K:O4}
theorem MW(D:bP K mg "soonest" yw)(T:Txt K mg)(zM:mg "min"=none)(zZ:mg "zip"=none)(CP:aI K cP bF)(CW:aI K cW bA)(CU:aI K cU bO)(oF:Ok P w K mg base "first_run" 4 ["plan"] (jQ P w cU cP cR))(oE:bD P w K mg base cP "every_deed" 1 ["self"] (oY cP cR))(oW:bD P w K mg base cP "what" 1 ["self","name"] (nR cP cR))(oI:iI P w K mg base "Weaver" cW 1 ["self","run","held"] (mq P w cW cU cP cR))(oS:bD P w K mg base cW "step" 4 ["self","hand"] (gZ P w cW cU cP cR)) (oV:bD P w K mg base cW "weave" 5 ["self"] (gY P w cW cU cP cR)) (oT:bD P w K mg base cW "take_stopped" 1 ["self"] (jL P w cW cU cP cR)) (oN:bD P w K mg base cU "next_deed" 1 ["self","hand"] (fE cU cP cR)) (oA:Ok P w K mg base "named" 1 ["weaving"] hU):Ok P w K mg base "soonest" 6 ["plan"] (nX cP cR):=by
 refine qf (k:=5) D Yw ?_;rintro f bw A B s0 H vs Q E M ⟨Z,a,R,en,rk,e,rfl,PA,u,AA,MM,kk⟩ X;have hu:=ki M;have ba:=Aw M;have nd:=Yw.nd;obtain⟨tt,bb,kt⟩:=IA (P:=P) (w:=w) (mg:=mg) (base:=base) (f:=f) (cdv:=bw) (A:=A) (outer:=B) (s0:=s0) (H:=H) (Q:=Q) (E:=E) T zM zZ CW CU oS oV oT oN oA M u AA MM;refine⟨_,zc (zn (i:=1) nd (yb oF (M.mono (by decide)) (za (pv 0) zb))) (zc (zT (i:=2) (own:=["name"]) (cap:=[0]) J (xj (ze yw) J J (by decide+kernel) (by decide+kernel) (by decide+kernel) ⟨⟨_,J,.inl J,jy J⟩,trivial⟩) (jg (X1 oE CP.cls (M.mono (by decide)) (pv 0))) (λ_ _ _ _=>zp (i:=0) (by show(["name","plan"]:List Str).Nodup;decide+kernel)) (λ_ _ _ _=>Xz (zv vt (zk (r:=cE K) zj (qp oW CP.cls (M.mono (by decide)) (pv 1) (za (pv 0) zb)) zf (λ_ _=>rfl)) zr (ye _))) (λ_ _ _ _=>pv 0) nd J J (by with_unfolding_all rfl))
  (zc (zn (i:=3) nd (pR oI (M.mono (by decide)) (za (pv 1) (za (xw (Mr (τ:=fC) J ba) J T.dict wJ (za (q8 (own:=["name"]) (cap:=[]) J (xj (ze yw) J J (by decide+kernel) (by decide+kernel) (by decide+kernel) trivial) (jg (pv 2)) (λ_ _ _ _=>zp (i:=0) (by show(["name"]:List Str).Nodup;decide+kernel)) (λ_ _ _ _=>wv) (λ_ _ _ _=>zx (za (pv 0) (za q9 zb)))) zb)) zb))))
  (zc (zn (i:=4) nd (yq zb)) bb))),?_⟩
 refine⟨Z,a,R,J,PA,u,λxr ad as al k0 H0 H1 av s1 bH RF RM=>?_⟩;have aq:=av.trans s1;have N:=PA.same aq;obtain⟨dp,vh,ar,hp,_⟩:=id N;refine⟨Z,dp,_,J,hp,J,Z,a,R,J,N,u,λl ks H2 s2 n2 pk i2=>?_⟩;obtain⟨l',ys,el,aS,iy⟩:=i2;cases el;have hk:∀k∈ks,k<a.fs.length:=λk hk=>cr.mp (pk.mem_iff.mp hk);have bG:=u.n1;have ax:=pk.length_eq;rw[d9]at ax;have nl:=wG u hk;have C:∀q,q∈ks.flatMap (kE a)↔Vd (aB a) q:=λq=>by rw[QW];constructor;rintro⟨i,hi,t⟩;obtain⟨h1,h2⟩:=Bq.mp t;subst h1;exact⟨hk _ hi,h2⟩;rintro⟨h1,h2⟩;exact⟨q.1,pk.mem_iff.mpr (cr.mpr h1),Bq.mpr ⟨J,h2⟩⟩
 generalize ks.flatMap (kE a)=NS at iy nl C;have yl:=iy.length;rw[ag]at yl;refine⟨l,J,⟨ys,aK.of aS⟩,?_⟩;let bB:Nat->List V->Hp->Prop:=λi n G=>zh H2 G/\IsL G ((mh a (NS.take i)).map cV) n;refine wC bB ⟨zh.refl _,J⟩ (λi n G hi ⟨g,e⟩=>⟨aK.of (g _ _ aS),?_⟩) ?_ ?_;rw[e.length,ag];have:=i0 (λq=>dN (aB a) q.1 q.2) (NS.take i);rw[ia]at this;unfold mh;rw[TM];omega;rintro i z n G hz ⟨g,W⟩;obtain⟨a4,c,iz⟩:=iy.get' hz;rw[bq]at c;obtain⟨q,t,rfl⟩:=df.mp c;obtain⟨v1,v2⟩:=(C q).mp (dj t);have hd:=cg v2;generalize ((aB a).S q.1)[q.2]=d at hd;have a3:=N.same (s2.trans g);obtain⟨bn,bE,bL,a7,_⟩:=id a3;have ew:dN (aB a) q.1 q.2=rM d:=by unfold dN;rw[cf v1,py,hd];rfl
 have et:mh a (NS.take (i+1))=mh a (NS.take i)++if rM d=true then[q]else[]:=by unfold mh;rw[fh,t,PZ];congr 1;show PX _ [q]=_;rw[P1,ew];rfl
 refine⟨Z,bn,_,J,a7,J,Z,a,R,q,d,z,J,a3,v1,iz.mono g,hd,λv iv=>?_⟩;obtain⟨rr,bd⟩:=Yt d;obtain⟨a5,x5,rfl,bl,w1,r1,rfl,i1,_⟩:=(bd▸iv)
 cases(i1);refine⟨a5,_,0,.str (dw d),J,J,aG.of bl,(show kZ (.str (dw d)::r1) ((0:Nat):Int)=_ from xb J),J,_,J,?_⟩;have ed:decide (V.str (dw d)=V.str "work")=rM d:=by cases d<;>rfl
 rw[ed];cases ca:rM d with| true=>rw[ca,kP J]at et;refine xx ⟨g,?_⟩;rw[et,bo];exact IsL.append W (IsL.one (iz.mono g))| false=>rw[ca,kr cy,eh]at et;refine yn ⟨g,?_⟩;rw[et];exact W
 rintro n G ⟨g,W⟩ p7 bj;rw[yl,gy]at W;have s7:=zh.new bj (.lst n);have g7:ji G p7 (.lst n) p7=some (.lst n):=zd;generalize ji G p7 (.lst n)=H7 at s7 g7⊢;have L:=W.mono s7;have ak:=s2.trans (g.trans s7);have wl:(mh a NS).length<=3200:=dq (i0 _ _) (by omega);have wm:∀i p,((i,p)∈mh a NS)↔dN (aB a) i p=true:=λi p=>by
  unfold mh;rw[fo];refine⟨λz=>z.2,λz=>⟨(C _).mpr ?_,z⟩⟩;unfold dN at z;obtain⟨z1,z2⟩:=(bu _ _▸z:_/\_)
  refine⟨cz z1,?_⟩;show p<((aB a).S i).length;cases y:((aB a).S i)[p]? with|none=>rw[y]at z2;cases z2|some d=>exact(d7.mp y).1
 generalize mh a NS=WK at L wl wm;have zl:=L.length;rw[ag]at zl;clear W iy;refine⟨p7,J,⟨n,aK.of g7⟩,?_⟩;let bx:Nat->List V->Hp->Prop:=λi us G=>∃j:List lv,us=j.map V.ref/\zh H7 G/\Paired (fO fC G) j ((WK.take i).map λq=>(jA q,V.bl true));refine wC bx ⟨[],J,zh.refl _,.nil⟩ (λi us G hi ⟨j,e,g,S⟩=>⟨aK.of (g _ _ g7),?_⟩) ?_ ?_;have:=S.length;rw[ag,ia]at this;rw[e,ag,TM];omega;rintro i z us G hz ⟨j,rfl,g,S⟩;obtain⟨a4,c,iz⟩:=L.get' hz;rw[bq]at c;obtain⟨q,t,rfl⟩:=df.mp c;obtain⟨kb,xk,rfl,bK,bC⟩:=id iz;refine iZ ⟨by show 2<=1000;decide,λU G8 s n8 g8=>⟨j++[U],by rw[bo];rfl,g.trans s,?_⟩⟩;rw[fh,t,bo];exact LO (fu S λ_ _ z=>z.same s) ⟨kb,g8,iz.mono (g.trans s)⟩;rintro us G8 ⟨j,rfl,ah,S⟩ U bi;have s:=zh.new bi (.lst (j.map V.ref));have g8:ji G8 U (.lst (j.map V.ref)) U=some (.lst (j.map V.ref)):=zd;generalize ji G8 U (.lst (j.map V.ref))=H8 at s g8⊢;rw[zl,gy]at S;refine⟨U,j,_,J,g8,fu S λ_ _ z=>z.same s,λdh H9 s9 n9 g9=>?_⟩;have aj:=ak.trans (ah.trans (s.trans s9));have hE:eI (wg (WK.map λq=>(jA q,V.bl true)) [])=dN (aB a):=by funext i p;unfold eI;rw[pb,Q0];constructor;rintro(⟨r,bg,e⟩|z);obtain⟨q,t,rfl⟩:=bz.mp bg;obtain rfl:q=(i,p):=B8 e;exact(wm i p).mp t;cases z;intro z;exact .inl ⟨_,QX (f:=λq=>(jA q,V.bl true)) ((wm i p).mpr z),J⟩
 generalize wg (WK.map λq=>(jA q,V.bl true)) []=az at g9 hE;obtain⟨RA,GH,sw⟩:=Kh u RF s1 RM aj (ym (ak.trans (ah.trans s)) n9) g9;refine(λx dx hx bk bJ=>?_);have sn:zh H9 (ji (ji H9 dx (.own x)) x (.ins cW dx [])):=λb o e=>by rw[ja (zi e hx),ja (zi e bk)];exact e
 refine⟨_,x,dx,xr,ad,as,al,k0,dh,a,R,z0,az,J,zd,RA.s.trans sn,ym RA.s hx,RA.f,RA.m.same sn,GH,u,λao ay aw ap G0 HA a6 F m=>⟨J,?_⟩⟩;refine⟨c9 _,λlm HB sB nB gB=>?_⟩;have a8:H x=none:=ym (aq.trans aj) hx;exact kt H G0 HB R ⟨x,xr,ad,as,al,k0,dh,ao,ay,aw,ap⟩ lm az _ _ _ _ _ _ F hE (m.same sB) gB (m.fresh u F nB) (ym m.s0 nB) (av.trans (sw.trans a6)) a8 kk
theorem Ls:aA ["house"] ["house"] (ze wS):=.of
theorem KS(D:bP K mg "timed" wS)(n:Ok P w K mg base "plan_of" 26 ["house"] (jN cP cR))(m:Ok P w K mg base "soonest" 6 ["plan"] (nX cP cR)):Ok P w K mg base "timed" 27 ["house"] nU:=by refine qf D Ls ?_;rintro f t A a s H z Q E c ⟨v,b,r,k,e,rfl,p,F,y,u,o⟩ X;exact⟨_,zg (zm (yb m (c.mono (by decide)) (za (yb n c (za (pv 0) zb)) zb))),⟨b,v,J,p,F,λd R B j q PA=>⟨d,b,R,r,k,e,J,PA,F.hw,y,u,λl g x i=>o l g x (j.trans i)⟩⟩⟩
end
abbrev Wm:Sj:=bI 75
theorem Hz:∀(d:O Nat){i k:Nat},k<d.count i->(i,k)∈dF d:=λd=>by
 have j:∀(n:Nat)(b:O Nat),b.length=n->∀{i k:Nat},k<b.count i->(i,k)∈dF b:=λn=>by
  induction n with| zero=>
    intro b g i k h;rw[List.eq_nil_of_length_eq_zero g]at h;exact kS h (gw _)| succ n l=>
    intro b g i k h;obtain⟨f,a,rfl⟩:∃f a,b=f++[a]:=⟨b.dropLast,b.getLast (by intro z;rw[z]at g;cases g),(PQ _).symm⟩
    rw[K2,cp];rw[cq,ij]at g;rw[PP]at h;by_cases c:k<f.count i;exact .inl (l f (by omega) c);right;by_cases z:a=i;subst z;have q:List.count a [a]=1:=by simp
    rw[q]at h;rw[show k=f.count a by omega];exact ai.mpr J;have:=List.count_eq_zero.mpr λy=>z (ai.mp y).symm;omega
 exact λ{i k} h=>j d.length d J h
def pA(e:Nat->Nat->Int)(q:Nat×Nat):(List Int×Int)×V:=(jA q,.int (e q.1 q.2))
theorem Ny{a:Type}[DecidableEq a](rows:O (a×V))(r:a×V)(kvs:O (a×V)):wg (rows++[r]) kvs=vw (wg rows kvs) r.1 r.2:=by unfold wg;rw[List.foldl_append];rfl
theorem Kl{a:Type}[DecidableEq a]:∀(rows:List (a×V))(kvs:List (a×V)),(wg rows kvs).length<=kvs.length+rows.length|[],kvs=>au _| r::rows,kvs=>by have c:=Kl rows (vw kvs r.1 r.2);have b:=xa kvs r.1 r.2;show(wg rows (vw kvs r.1 r.2)).length<=_;rw[fg];omega
theorem Kk{b:Type}[DecidableEq b]{k:b}{v:V}:∀{rows:List (b×V)}{kvs:List (b×V)},(∀r∈rows,r.1=k->r.2=v)->((∃r∈rows,r.1=k)\/yv kvs k=some v)->yv (wg rows kvs) k=some v|[],kvs,_,h=>h.elim (λf=>by obtain⟨r,g,_⟩:=f;exact nomatch g) id| r::rows,kvs,d,h=>by show yv (wg rows (vw kvs r.1 r.2)) k=some v;refine Kk (λx a=>d x (bp _ a)) ?_;by_cases c:r.1=k;right;rw[ju,kP c.symm,d r bv c];rcases h with⟨x,a,e⟩|h;rcases bc.mp a with rfl|a;exact kS e c;exact .inl ⟨x,a,e⟩;right;rw[ju,kr λz=>c z.symm];exact h
inductive ou(P:R0)(w:SX)(vs:List V)(H:Hp)(Q:VK)(e0:XK):Prop| mk:∀(v:V) (hs:aC) (en:Nat->Nat->List Dd) (rk:Nat->Nat->Nat) (e:Nat->Nat->Int),vs=[v]->Is H (eH hs) v->iO hs->AS (aB hs) en rk->Mo (aB hs) en e->
   (∀d rows H',zh H H'->aM fC P w H' d rows->(∀q,Vd (aB hs) q->yv rows (jA q)=some (.int (e q.1 q.2)))->Q (.ref d) H')->ou P w vs H Q e0
section
variable{K:O4}
theorem Qz:aA ["house","found","hand","number","now"] ["house"] (ze Wm):=.of
theorem Nq(D:bP K mg "_law_amoments" Wm)(oT:Ok P w K mg base "timed" 27 ["house"] nU):Ok P w K mg base "_law_amoments" 28 ["house"] (ou P w):=by
 refine qf D Qz ?_;rintro f aq A U s0 H vs Q E hr ⟨v,hs,en,rk,e,rfl,hv,F,AA,MM,kk⟩ X;have x:=Qz.nd;refine⟨_,zc (zn (i:=1) x (Vn (τ:=fC))) (zc (xy RY J (jg (yb oT hr (za (pv 0) zb))) (ky J (yu (zp (i:=2) x) (yu (zp (i:=3) x) (yu (zp (i:=4) x) qx)))) (zg (xA (τ:=fC) (RC (Yj hr)) (pv 1) (zx (za (pv 2) (za (pv 3) zb))) (pv 4) J)))
  (zg (zm (pv 1)))),?_⟩
 intro d o hd hg;have S:=zh.new hd o;generalize ji H d o=H1 at hg S⊢;refine⟨v,hs,en,rk,e,J,hv.mono S,F,AA,MM,λl g H2 s2 B hw ap W=>?_⟩;obtain⟨l',xs,el,j,ix⟩:=W;cases el;have p:=hg.same s2;have ak:(dF g).length=g.length:=Vp g [];have xl:=ix.length;rw[ag]at xl;refine⟨l,J,⟨xs,aK.of j⟩,?_⟩;let aj:Nat->L2.St->Hp->Prop:=λi t G=>∃N M L:Option V,t=[some v,some (.ref d),N,M,L]/\(∀c u,c≠d->H2 c=some u->G c=some u)/\zy H2 G/\aM fC P w G d (wg (((dF g).take i).map (pA e)) []);refine Zm aj
  ⟨none,none,none,J,λc u _ z=>z,λb C z=>z,p⟩ (λi t G _ q0=>by obtain⟨_,_,_,_,m,_⟩:=q0;exact aK.of (m _ _ (p.ne j) j)) ?_ ?_
 rintro i z t G hz ⟨N,M,L,rfl,m,R,s⟩;obtain⟨tt,n,iz⟩:=ix.get' hz;rw[bq]at n;obtain⟨q,hq,rfl⟩:=df.mp n;obtain⟨a,y,rfl,ha,v1,r1,rfl,i1,v2,r2,rfl,W,v3,r3,rfl,i3,rfl⟩:=id (iz.tups R (show bS (nN e q)from⟨qu _,trivial,trivial,trivial⟩));cases(W);cases(i3);refine⟨a,_,J,aG.of ha,J,_,_,J,_,_,J,_,_,J,J,?_⟩;have tl:((dF g).take (i+1)).map (pA e)=((dF g).take i).map (pA e)++[pA e q]:=by rw[fh,hq,bo];rfl
 refine⟨by show 2<=1000;decide,λp3 G3 k n3 g3=>⟨d,p3,wg (((dF g).take i).map (pA e)) [],jA q,J,J,s.same k,⟨p3,_,J,g3,ft (i1.mono k) J⟩,?_,λo ah=>?_⟩⟩;have h1:=Kl (((dF g).take i).map (pA e)) [];have h2:=QP i (dF g);rw[ag]at h1;rw[TM];have:([]:O ((O Int×Int)×V)).length=0:=rfl;omega;refine⟨_,_,_,J,λc u B z=>(ja B).trans (k _ _ (m _ _ B z)),λb C z=>(s.same k).tups b C (k _ _ (R b C z)),?_⟩;rw[tl,Ny];exact ah;rintro t G ⟨N,M,L,rfl,m,R,s⟩;rw[xl,gy]at s;refine kk d _ G (λc u z=>m c u (λy=>by rw[y,hd]at z;cases z) (s2 _ _ (S _ _ z))) s λq vq=>(Kk (λr Z er=>?_) (.inl ⟨pA e q,QX (Hz g ?_),J⟩))
 obtain⟨q',_,rfl⟩:=bz.mp Z;rw[(B8 er)];rfl;rw[B q.1 vq.1];exact vq.2
end
end My
namespace My
open PySem
variable{x:Dd}{ws:List Nat}
def Oz(kd:Str)(n p:Nat):Bool:=fQ (cN kd n p) λps=>decide ((ps.map (·.1)).Nodup)
theorem He:lY Oz=true:=by decide+kernel
section
variable{kd:Str}{n p:Nat}(h:qL kd n p)
include h
theorem Jl{u v:Dd×Dd}(b:u∈cN kd n p)(a:v∈cN kd n p):u.1=v.1↔u.2=v.2:=(decide_eq_decide.mp (eq_of_beq (fi.mp (fi.mp (pT _ _ (h.all GZ)) u b) v a)))
theorem GO:((cN kd n p).map (·.1)).Nodup:=cz (pT _ _ (h.all He))
variable(f:Nat->Int)(hf:Bd f)
theorem Bk:∃F j:Dd->Nat->Nat,∀u∈cN kd n p,cX (aB (j9 kd n p f)) (qD kd n p) u.1.1 u.1.2 (F u.1)/\cX (aB (km n p f)) (qC n p) u.2.1 u.2.2 (j u.2)/\∀v∈cN kd n p,(F u.1 v.1.1<=v.1.2↔j u.2 v.2.1<=v.2.2):=by
 have m:∀x:Dd,∃c:(Nat->Nat)×(Nat->Nat),∀u∈cN kd n p,u.1=x->cX (aB (j9 kd n p f)) (qD kd n p) u.1.1 u.1.2 c.1/\cX (aB (km n p f)) (qC n p) u.2.1 u.2.2 c.2/\∀v∈cN kd n p,(c.1 v.1.1<=v.1.2↔c.2 v.2.1<=v.2.2):=λx=>by by_cases z:∃u∈cN kd n p,u.1=x;obtain⟨u,a,e⟩:=z;obtain⟨c,o,q⟩:=A6 h f u a;refine⟨(c,o),λv b g=>?_⟩;have i:=g.trans e.symm;rw[i,((Jl h b a).mp i)];exact q;exact⟨(λ_=>0,λ_=>0),λu a e=>kS ⟨u,a,e⟩ z⟩
 obtain⟨G,k⟩:=OJ m;have l:∀y:Dd,∃c:Nat->Nat,∀u∈cN kd n p,u.2=y->c=(G u.1).2:=λy=>by by_cases z:∃u∈cN kd n p,u.2=y;obtain⟨u,a,e⟩:=z;exact⟨(G u.1).2,λv b g=>by rw[(Jl h b a).mpr (g.trans e.symm)]⟩;exact⟨λ_=>0,λu a e=>kS ⟨u,a,e⟩ z⟩
 obtain⟨r,d⟩:=OJ l;refine⟨λx=>(G x).1,r,λu a=>?_⟩;rw[d u.2 u a J];exact(k u.1 u a J)
omit h in
theorem sQ{s:yh}{k:Nat}:(((s.map (lb f))[k]?).map Dy).getD 0=match s[k]? with|some (.wor t)=>f t.toNat|_=>0:=by rw[bq];cases s[k]? with|none=>rfl|some d=>cases d<;>rfl
theorem Kn{u:Dd×Dd}(d:u∈cN kd n p):Vd (aB (j9 kd n p f)) u.1/\Vd (aB (km n p f)) u.2:=by obtain⟨c,g,a,b,_⟩:=A6 h f u d;exact⟨a.c0,b.c0⟩
theorem JG{u:Dd×Dd}(g:u∈cN kd n p):wk (aB (j9 kd n p f)) u.1.1 u.1.2=wk (aB (km n p f)) u.2.1 u.2.2:=by
 obtain⟨d,c⟩:=Kn h f g;have d:=d.1;have c:=c.1;rw[pO]at d;rw[pP]at c;unfold wk;rw[qV f d,qW f c];unfold iV Jy;rw[sQ f,sQ f];have q:=pT _ _ (h.all wK);rw[bu,bu]at q;have q:=fi.mp q.1.1 u g;generalize (fA kd n p u.1.1)[u.1.2]?=a at q;generalize (iC p u.2.1)[u.2.2]?=b at q;cases a with
 |none=>cases q
 | some a=>
   cases b with
   |none=>cases a<;>cases q
   | some b=>
     cases a with
     | wor a=>
       cases b with
       |wor b=>rw[cz (q)]
       |_=>cases q
     | say a=>
       cases b with
       |say b=>rfl
       |_=>cases q
     |_=>cases b<;>cases q
theorem GC(v:Vd (aB (j9 kd n p f)) x)(z:¬∃y,(x,y)∈cN kd n p):wk (aB (j9 kd n p f)) x.1 x.2=0:=by
 obtain⟨b,a⟩:=v;rw[pO]at b;rw[qV f b]at a;unfold wk;rw[qV f b];unfold iV at a⊢;rw[sQ f];rw[ag]at a;have q:=pT _ _ (h.all wK);rw[bu,bu]at q;have e:((hB kd n p).S x.1)[x.2]?=((fA kd n p x.1)[x.2]?).map sk:=by show((fA kd n p x.1).map sk)[x.2]?=_;rw[bq]
 have q:=Zf q.1.2 ⟨b,by show x.2<((fA kd n p x.1).map sk).length;rw[ag];exact a⟩;rw[e,pu]at q;generalize (fA kd n p x.1)[x.2]?=d at q;cases d with|none=>rfl| some d=>cases d with| wor w=>rcases q with q|q;cases q;obtain⟨u,c,e⟩:=im.mp q;exact kS ⟨u.2,((show u.1=x from(cz e))▸c)⟩ z|_=>rfl
theorem GD(v:Vd (aB (km n p f)) x)(z:¬∃y,(y,x)∈cN kd n p):wk (aB (km n p f)) x.1 x.2=0:=by
 obtain⟨b,a⟩:=v;rw[pP]at b;rw[qW f b]at a;unfold wk;rw[qW f b];unfold Jy at a⊢;rw[sQ f];rw[ag]at a;have q:=pT _ _ (h.all wK);rw[bu,bu]at q;have e:((hP n p).S x.1)[x.2]?=((iC p x.1)[x.2]?).map sk:=by show((iC p x.1).map sk)[x.2]?=_;rw[bq]
 have q:=Zf q.2 ⟨b,by show x.2<((iC p x.1).map sk).length;rw[ag];exact a⟩;rw[e,pu]at q;generalize (iC p x.1)[x.2]?=d at q;cases d with|none=>rfl| some d=>cases d with| wor w=>rcases q with q|q;cases q;obtain⟨u,c,e⟩:=im.mp q;exact kS ⟨u.1,((show u.2=x from(cz e))▸c)⟩ z|_=>rfl
include hf
theorem FM{u:Dd×Dd}(j:u∈cN kd n p):eM (aB (j9 kd n p f)) (qD kd n p) (DF kd n p) u.1.1 u.1.2=eM (aB (km n p f)) (qC n p) (DE n p) u.2.1 u.2.2:=by
 obtain⟨F,k,b⟩:=Bk h f;have A:=rY h f hf;have g:=rZ h f hf;exact Bn A g A.mo g.mo (λu a c=>(b _ c).1) (λu a c=>(b _ c).2.1) (λx v z=>GC h f v z) (λx v z=>GD h f v z) (λu a c=>JG h f c)
  (λu a v i c d=>Jl h c d) (λu a v i c d=>(b _ c).2.2 _ d) _ u.1 u.2 (dz _) j
theorem FO{u:Dd×Dd}(x:u∈cN kd n p):∃Jx b:O Nat->(Nat->Nat)->Prop,mD (aB (j9 kd n p f)) (Ys u.1.1 u.1.2) Jx/\Jx [] (λ_=>0)/\mD (aB (km n p f)) (Ys u.2.1 u.2.2) b/\b [] (λ_=>0)/\
  ∀ws c a c',nA (aB (j9 kd n p f)) (Ys u.1.1 u.1.2) Jx ws c->nA (aB (km n p f)) (Ys u.2.1 u.2.2) b a c'->∀v∈cN kd n p,(v.1.2<c v.1.1↔v.2.2<c' v.2.1):=by obtain⟨F,z,y⟩:=Bk h f;have A:=rY h f hf;have i:=rZ h f hf;obtain⟨C,g,r⟩:=y u x;refine⟨_,_,C.jok A,λj _=>c9 _,g.jok i,λj _=>c9 _,λws c a c' ⟨w,t,s⟩ ⟨q,o,m⟩ v d=>?_⟩;obtain⟨l,k⟩:=Kn h f d;rw[C.fin A w t s l.1,g.fin i q o m k.1];have:=r v d;omega
theorem E5{c:Nat->Nat}(C:nA (aB (j9 kd n p f)) uA tO ws c):qQ (j9 kd n p f) c=true:=fi.mpr λi b=>cf ((rY h f hf).fin C.1 (λj a=>(C.2.2 j a).resolve_right cy) (cr.mp b))
theorem E6{c:Nat->Nat}(C:nA (aB (km n p f)) uA tO ws c):qQ (km n p f) c=true:=fi.mpr λi b=>cf ((rZ h f hf).fin C.1 (λj a=>(C.2.2 j a).resolve_right cy) (cr.mp b))
omit h in
theorem ES{b:Int}{d:aF}(a:pX b d=true):ny b 0 (lb f d):=by cases d with| rai x k=>unfold pX at a;rw[bu,bu,kU,kU,kU]at a;exact⟨a.1.1,a.1.2,by omega,by omega⟩| awa x m=>unfold pX at a;rw[bu,bu,bu,kU,kU,kU,kU]at a;exact⟨a.1.1.1,a.1.1.2,a.1.2,a.2⟩|wor t=>have:=hf t.toNat;exact⟨this.1,by omega⟩| say x=>unfold pX at a;rw[pu,kU,kU]at a;exact a|_=>cases a
omit h hf in
theorem B5:∀{s:yh}{o:Option Str},(∀d∈s,lQ none d=true/\∀o,kD o d=o)->fI none s=true|[],_,_=>rfl| d::r,o,h=>by obtain⟨h1,h2⟩:=h d bv;show(lQ none d && fI (kD none d) r)=true;rw[h1,h2,py];exact B5 (o:=none) λx hx=>h x (bp _ hx)
omit h hf in
theorem B4:∀{s:yh},(∀d∈s,j0 d=false)->fI (some "both") s=true
 |[],_=>rfl
 | d::r,h=>by
   have h1:=h d bv;show(lQ (some "both") d && fI (kD (some "both") d) r)=true;have e1:lQ (some "both") d=true:=by cases d<;>first|rfl|cases h1
   have e2:kD (some "both") d=some "both":=by cases d<;>first|rfl|cases h1
   rw[e1,e2,py];exact B4 λx hx=>h x (bp _ hx)
theorem sR:iO (j9 kd n p f):=by
 have q:=h.all A7;unfold tV at q;rw[bu]at q;have g:∀i,i<n->(∀d∈fA kd n p i,pX (kX kd n) d=true)/\(fA kd n p i).length<=80:=λi a=>by have:=j5 q.2 a;rw[bu]at this;exact⟨fi.mp this.1,cz this.2⟩
 have t:=h.n2;have r:=h.n5;have o:(j9 kd n p f).ss.length=n:=by show((Ri n).map _).length=n;rw[ag,d9]
 have u:(j9 kd n p f).fs.length=n:=by show((Ri n).map _).length=n;rw[ag,d9]
 have m:=Fm (kd:=kd) (n:=n) (by omega);refine⟨m.1,m.2,.inl J,by omega,by omega,by omega,by omega,λc l=>?_,λs j=>?_,λs j d k=>?_,λc l=>?_⟩;obtain⟨i,a,rfl⟩:=bz.mp l;rw[o];exact⟨cr.mp a,.inl J⟩;obtain⟨i,a,rfl⟩:=bz.mp j;unfold iV;rw[ag];exact(g i (cr.mp a)).2;obtain⟨i,a,rfl⟩:=bz.mp j;obtain⟨d,b,rfl⟩:=bz.mp k;exact ES f hf ((g i (cr.mp a)).1 d b);obtain⟨i,a,rfl⟩:=bz.mp l;have a:=cr.mp a;show fI none (((Ri n).map (iV kd n p f)).getD i [])=true;rw[Zk (α:=Nat) a];refine B5 (o:=none) λd k=>?_;obtain⟨d,b,rfl⟩:=bz.mp k;have:=(g i a).1 d b;cases d<;>first|exact⟨J,λ_=>rfl⟩|cases this
theorem sS:iO (km n p f):=by
 have u:=h.n2;have r:=h.n5;have o:=h.p2;have m:(km n p f).ss.length=n:=by show((Ri n).map _).length=n;rw[ag,d9]
 have v:(km n p f).fs.length=n:=by show((Ri n).map _).length=n;rw[ag,d9]
 have l:∀i,∀d∈iC p i,(∃t,d=.wor t)\/d=.say "come"\/d=.com 0\/d=.goo 0\/d=.say "go":=λi d a=>by obtain⟨q,_,a⟩:=List.mem_flatMap.mp a;simp at a;rcases a with rfl|rfl|rfl|rfl|rfl|rfl;exact .inl ⟨_,J⟩;exact .inr (.inl J);exact .inr (.inr (.inl J));exact .inr (.inr (.inr (.inl J)));exact .inr (.inr (.inr (.inr J)));exact .inl ⟨_,J⟩
 refine⟨fm _,by show(0)<=99;omega,.inr J,by omega,by omega,by omega,by omega,λc k=>?_,λs j=>?_,λs j d a=>?_,λc k=>?_⟩;obtain⟨i,g,rfl⟩:=bz.mp k;rw[m];exact⟨cr.mp g,.inr ⟨"both",J,J,.inl J⟩⟩;obtain⟨i,g,rfl⟩:=bz.mp j;unfold Jy;rw[ag];have:p=1\/p=2:=by have:=h.p1;omega
 rcases this with rfl|rfl;show 6<=80;omega;show 12<=80;omega;obtain⟨i,g,rfl⟩:=bz.mp j;obtain⟨d,b,rfl⟩:=bz.mp a;rcases l i d b with⟨t,rfl⟩|rfl|rfl|rfl|rfl;have:=hf t.toNat;exact⟨this.1,by omega⟩;exact .inl J;exact⟨J,J⟩;exact⟨J,J⟩;exact .inr J;obtain⟨i,g,rfl⟩:=bz.mp k;show fI (some "both") (((Ri n).map (Jy p f)).getD i [])=true;rw[Zk (α:=Nat) (cr.mp g)];refine B4 λd a=>?_;obtain⟨d,b,rfl⟩:=bz.mp a;rcases l i d b with⟨t,rfl⟩|rfl|rfl|rfl|rfl<;>rfl
end
end My
namespace My
open PySem PySem.Spec PyProof.Rows L2
variable{osl:Array (Option Sr)}{dL DQ:O5}{h:O7}{an od:Option lv}{P q:R0}{st:Sj}{mg:Str->Option Sr}{oc:Sr}{w:SX}
abbrev uI:Sj:=bI 76
theorem Fl:S3 "max"=some (.builtin "max"):=by decide+kernel
def rK(u:Dd×Dd):T:=.tup [cV u.1,cV u.2]
theorem Ak(a:O (Dd×Dd)):qb (a.map rK):=qb.all.mpr λt b=>by obtain⟨u,_,rfl⟩:=bz.mp b;exact⟨Yk _,Yk _,trivial⟩
theorem Ax{H:Hp}:∀{ts:List T}{vs:List V},ts.length=vs.length->(∀(j:Nat) t v,ts[j]?=some t->vs[j]?=some v->Is H t v)->IsL H ts vs|[],[],_,_=>rfl|t::ts,v::vs,a,h=>⟨v,vs,J,h 0 t v J J,Ax (by simpa using a) λj=>h (j+1)⟩|[],_::_,a,_=>by cases a|_::_,[],a,_=>by cases a
theorem Ee{L k d:Int}(g:0<=k)(f:k<L)(b:0<=d)(a:d<L-1):∃j:Nat,(k+1+d)%L=(j:Int)/\(j:Int)<L/\(j:Int)≠k:=by by_cases c:k+1+d<L;rw[Pl (by omega) c];exact⟨(k+1+d).toNat,by omega,by omega,by omega⟩;rw[show k+1+d=(k+1+d-L)+L by omega,Pk,Pl (by omega) (by omega)];exact⟨(k+1+d-L).toNat,by omega,by omega,by omega⟩
theorem sd{x:V}{A B:Prop}(h:B):if(!decide (x=x))=true then A else B:=by simp_all
inductive eU(K:O4)(vs:List V)(H:Hp)(Q:VK)(e0:XK):Prop|mk:∀(a:lv)(ns:List Int),vs=[.ref a]->aK K H a (ns.map V.int)->ns.length<=63->(∀H',Q (.bl true) H')->eU K vs H Q e0
def pz(kd:Str)(n p i:Nat):List (Dd×Dd):=((gW (fA kd n p i)).zip (gW (iC p i))).map λz=>((i,z.1),(i,z.2))
def Oy(kd:Str)(n p:Nat):Bool:=(Ri n).all λi=>decide ((gW (fA kd n p i)).length=4*p) && decide ((gW (iC p i)).length=4*p)
theorem A8:lY Oy=true:=by decide+kernel
theorem AE{kd:Str}{n p:Nat}(a:qL kd n p):∀{j:Nat},j<=n->((Ri j).flatMap (pz kd n p)).length<=8*j
 |0,_=>au _
 | j+1,h=>by
   have d:=AE a (j:=j) (by omega);have b:=j5 (h:=a.all A8) (show j<n by omega);rw[bu,kU,kU]at b;have c:=a.p2;rw[Rj,P7,cq,P9];have:(pz kd n p j).length<=8:=by unfold pz;rw[ag,QR,b.1,b.2];omega
   omega
section
variable{K:O4}{base:O7}
theorem AH:aA ["script","start","tape","kind","n","p","boxed","walled","one","other","pairs","i","mine","theirs","turn","k","j"] ["script"] (ze uI):=.of
theorem FU{f0:Y}(F:lA K "law" "law" uI f0 DQ)(T:Txt K mg)(zX:mg "max"=none)(zM:mg "min"=none)(oT:Ok P w K mg base "_law_atape" 2 ["script","k"] (nV K))(oD:Ok P w K mg base "_law_adigit" 1 ["tape","many"] mr)(oW:Ok P w K mg base "_law_aworked" 3 ["tape","kind","n","p"] pe)(oC:Ok P w K mg base "_law_acalm" 1 ["house","i"] ph)(oE:Ok P w K mg base "end" 27 ["house"] oX) (oM:Ok P w K mg base "_law_amoments" 28 ["house"] (ou P w)) (oU:Ok P w K mg base "must" 28 ["house","one","other"] oq):cH P w K mg base dX 30 f0 DQ ["script"] (eU K):=by
 refine F.ok AH (λvs H Q E h=>by cases h;subst_vars;rfl) λd3 A ci sh H vs Q E N h=>?_;obtain⟨s,ns,rfl,hS,dT,kk⟩:=h;have M:=AH.nd;have bK:=RC (Yj N);refine⟨_,zc (xy RY J (LR (by rfl) T.range (za zf (za (ya (Lk (by rfl)) (by rfl) zX Fl (za zf (za (ya (Ll (by rfl)) (by rfl) zM L2.kl (za zf (za (ya yc (by rfl) T.len wu (za (pv 0) zb)) zb))) zb))) zb))) (zp (i:=1) M)
   (zc (zn (i:=2) M (yb oT (N.mono (by decide)) (za (pv 0) (za (pv 1) zb)))) (zc (zn (i:=3) M (zk wy (yq (za zr (za zr (za zr (za zr zb))))) (yb oD (N.mono (by decide)) (za (pv 2) (za zf zb))))) (zc (zn (i:=4) M (yd xz zf (yb oD (N.mono (by decide)) (za (pv 2) (za zf zb))))) (zc (zn (i:=5) M (yd xz zf (yb oD (N.mono (by decide)) (za (pv 2) (za zf zb))))) (zc (uZ (yb oW (N.mono (by decide)) (za (pv 2) (za (pv 3) (za (pv 4) (za (pv 5) zb))))) (ky J (yu (zp (i:=6) M) (yu (zp (i:=7) M) qx)))) (zc (yt (gg (Kj (zv Q1 (zk zj (yb oE (N.mono (by decide)) (za (pv 6) zb)) (zf)) (zr) (ye _)) (Wo (zv Q1 (zk zj (yb oE (N.mono (by decide)) (za (pv 7) zb)) (zf)) (zr) (ye _))))) (zg (zm q9)) zu) (zc (zn (i:=8) M (yb oM (N.mono (by decide)) (za (pv 6) zb))) (zc (zn (i:=9) M (yb oM (N.mono (by decide)) (za (pv 7) zb))) (zc (zn (i:=10) M (yq zb)) (zc (xy RY J (wc (by rfl) T.range (za (pv 4) zb)) (zp (i:=11) M) (zg (y0 (Zu PySem.F.plainAttrs_list PySem.F.slot_list_extend PySem.F.type_list_extend X4 (pv 10) (za (MY (by rfl) T.list (by rfl) T.zip J (za (yb oC (N.mono (by decide)) (za (pv 6) (za (pv 11) zb))) (za (yb oC (N.mono (by decide)) (za (pv 7) (za (pv 11) zb))) zb))) zb)))))
  (zc (xy RY J (jg (pv 10)) (ky J (yu (zp (i:=12) M) (yu (zp (i:=13) M) qx))) (zg (yt (zv Q1 (Bw (τ:=fC) bK (pv 8) (pv 12) (λ_ _=>rfl)) (Bw (τ:=fC) bK (pv 9) (pv 13) (λ_ _=>rfl)) (ye _)) (zg (zm q9)) zu)))
  (zg (xy RY J (wc (by rfl) T.range (za zf zb)) (zp (i:=14) M) (zc (zn (i:=15) M (yb oD (N.mono (by decide)) (za (pv 2) (za (ya yc (by rfl) T.len wu (za (pv 10) zb)) zb)))) (zc (zn (i:=16) M (yd Wq (yd xz (yd xz (pv 15) zf) (yb oD (N.mono (by decide)) (za (pv 2) (za (yd Xk (ya yc (by rfl) T.len wu (za (pv 10) zb)) zf) zb)))) (ya yc (by rfl) T.len wu (za (pv 10) zb)))) (zg (yt (zv Q1 (zk zj (yb oU (N.mono (by decide)) (za (pv 6) (za (zk zj (zk wy (pv 10) (pv 15)) (zf)) (za (zk zj (zk wy (pv 10) (pv 16)) (zf)) zb)))) (zf)) (zk zj (yb oU (N.mono (by decide)) (za (pv 7) (za (zk zj (zk wy (pv 10) (pv 15)) (zf)) (za (zk zj (zk wy (pv 10) (pv 16)) (zf)) zb)))) (zf)) (ye _)) (zg (zm q9)) zu))))))))))))))))))
  (zg (zm q9)),?_⟩
 refine⟨s,_,J,.inl hS,_,_,J,_,_,J,?_⟩;refine⟨0,_,J,⟨by decide,by decide,?_,?_⟩,?_⟩
 . split<;>(try split)<;>omega
 . split<;>(try split)<;>omega
 let bC:Nat->L2.St->Hp->Prop:=λi L G=>zh H G/\∃x1 x2 x3 x4 x5 x6 x7 x8 x9 bg a3 av aq Z X W,L=[some (.ref s),x1,x2,x3,x4,x5,x6,x7,x8,x9,bg,a3,av,aq,Z,X,W];refine js (lo:=0) bC ⟨zh.refl H,none,none,none,none,none,none,none,none,none,none,none,none,none,none,none,none,J⟩ ?_ ?_;rintro i L H1 hi ⟨s1,x1,x2,x3,x4,x5,x6,x7,x8,x9,bg,a3,av,aq,Z,X,W,rfl⟩;rw[gh];refine⟨s,ns,i,J,s1.seq hS,λa x ha=>?_⟩;have ah:H a=none:=ym s1 ha;have S2:zh H (ji H1 a (.lst [.int x])):=jk s1 ah;have g2:ji H1 a (.lst [.int x]) a=some (.lst [.int x]):=zd;generalize ji H1 a (.lst [.int x])=H2 at S2 g2⊢;refine⟨by show 4<=1000;decide,λl3 H3 s3 n3 g3=>?_⟩;have cj:l3≠a:=λz=>by rw[z,g2]at n3;cases n3
 refine⟨a,x,4,J,s3 _ _ g2,by decide,by decide,λd0 d4=>?_⟩;generalize x%4=d at d0 d4⊢;obtain⟨r,k4,c4⟩:∃r,K4 r/\kZ [V.str "shared",.str "own",.str "spread",.str "tree"] d=some (.str r):=by
  have:d=0\/d=1\/d=2\/d=3:=by omega
  rcases this with rfl|rfl|rfl|rfl;exact⟨_,.inl J,J⟩;exact⟨_,.inr (.inl J),J⟩;exact⟨_,.inr (.inr (.inl J)),J⟩;exact⟨_,.inr (.inr (.inr J)),J⟩
 generalize x/4=y4;have S4:zh H (ji H3 a (.lst [.int y4])):=jk (S2.trans s3) ah;have g4:ji H3 a (.lst [.int y4]) a=some (.lst [.int y4]):=zd;have l4:ji H3 a (.lst [.int y4]) l3=_:=(ja cj).trans g3;generalize ji H3 a (.lst [.int y4])=H4 at S4 g4 l4⊢;refine⟨l3,_,_,_,J,J,aK.of l4,c4,?_⟩;refine⟨a,_,4,J,g4,by decide,by decide,λe0 e4=>⟨_,_,J,J,?_⟩⟩;generalize y4%4=dn at e0 e4⊢;generalize y4/4=y5;obtain⟨n,hn⟩:∃n:Nat,2+dn=(n:Int):=⟨(2+dn).toNat,by omega⟩
 rw[hn];have S5:zh H (ji H4 a (.lst [.int y5])):=jk S4 ah;have g5:ji H4 a (.lst [.int y5]) a=some (.lst [.int y5]):=zd;generalize ji H4 a (.lst [.int y5])=H5 at S5 g5⊢;refine⟨a,_,2,J,g5,by decide,by decide,λf0 f2=>⟨_,_,J,J,?_⟩⟩;generalize y5%2=dp at f0 f2⊢;generalize y5/2=y6;obtain⟨p,hp⟩:∃p:Nat,1+dp=(p:Int):=⟨(1+dp).toNat,by omega⟩
 rw[hp];have S6:zh H (ji H5 a (.lst [.int y6])):=jk S5 ah;have g6:ji H5 a (.lst [.int y6]) a=some (.lst [.int y6]):=zd;generalize ji H5 a (.lst [.int y6])=H6 at S6 g6⊢;have m:qL r n p:=⟨k4,by omega,by omega,by omega,by omega⟩
 have n5:=m.n5;have n2:=m.n2;have p1:=m.p1;have p2:=m.p2;refine⟨a,r,n,p,y6,J,m,g6,λlw va vb H7 k7 g7 hw ib iw=>?_⟩;refine⟨lw,_,J,aG.of hw,J,_,_,J,_,_,J,J,?_⟩;have S7:zh H H7:=λb o e=>k7 b o (λz=>by rw[z,ah]at e;cases e) (S6 b o e);generalize tN y6 (2*(n*p))=y7 at g7;have hf:Bd (fN y6):=λt=>⟨Pm _ (by decide),by unfold fN;omega⟩
 generalize fN y6=f at ib iw hf;refine⟨va,j9 r n p f,J,ib,sR m f hf,λws c C=>E5 m f hf C,λr1 u1 H8 s8 h8=>⟨r1,_,_,_,J,J,aG.of h8,J,J,_,J,sd ?_⟩⟩;refine⟨vb,km n p f,J,iw.mono s8,sS m f hf,λws c C=>E6 m f hf C,λr2 u2 H9 s9 h9=>⟨r2,_,_,_,J,J,aG.of h9,J,J,_,J,sd ?_⟩⟩;have A1:=rY m f hf;have A2:=rZ m f hf;have bj:=s8.trans s9;refine⟨va,j9 r n p f,_,_,_,J,ib.mono bj,sR m f hf,A1,A1.mo,λd1 bn ea bH m1 v1=>?_⟩;have aw:=bj.trans bH;refine⟨vb,km n p f,_,_,_,J,iw.mono aw,sS m f hf,A2,A2.mo,λd2 bl dh bk m2 v2=>?_⟩;have D:=aw.trans bk;have c7:=S7.trans D;have a8:=ib.mono D;have a7:=iw.mono D;have b8:=D _ _ g7;have m1:=m1.same bk;refine⟨by show 0<=1000;decide,λR d5 ce bw c6=>?_⟩;have a4:R≠a:=λz=>by rw[z,b8]at bw;cases bw
 clear s8 s9 bH bk bj aw D h8 h9 g7 hw ib iw k7 S2 S4 S5 S6 g2 g3 g4 g5 g6 s3 n3 l4;refine⟨_,J,by omega,by omega,?_⟩;rw[dm];let bC:Nat->L2.St->Hp->Prop:=λj L G=>∃(ap:Option V)(B:O V),L=[some (.ref s),some (.int (i:Int)),some (.ref a),some (.str r),some (.int (n:Int)),some (.int (p:Int)),some va,some vb,some (.ref d1),some (.ref d2),some (.ref R),ap,av,aq,Z,X,W]/\Gw dh G R (((Ri j).flatMap (pz r n p)).map rK) B;refine js (lo:=0) (n:=n) bC ⟨a3,[],J,ce,c6,J⟩ ?_ ?_;rintro j L G hj ⟨ap,B,rfl,g⟩;rw[gh];have c8:=j5 (h:=m.all A8) hj;rw[bu,kU,kU]at c8;have fB:=sR m f hf;have fW:=sS m f hf;have eB:(j9 r n p f).ss[j]?=some (iV r n p f j):=by show((Ri n).map _)[j]?=_;rw[bq,QF hj];rfl
 have eW:(km n p f).ss[j]?=some (Jy p f j):=by show((Ri n).map _)[j]?=_;rw[bq,QF hj];rfl
 refine⟨.inl ⟨J,_,aK.of g.at'⟩,va,j9 r n p f,j,iV r n p f j,J,a8.mono g.same,eB,by omega,fB.len _ (dj eB),λl1 G1 t1 i1=>?_⟩;refine⟨vb,km n p f,j,Jy p f j,J,a7.mono (g.same.trans t1),eW,by omega,fW.len _ (dj eW),λl2 G2 t2 i2=>?_⟩;obtain⟨dv,ca,e1,h1,q1⟩:=i1;cases e1;obtain⟨du,b9,e2,h2,q2⟩:=i2;cases e2;rw[show gW (iV r n p f j)=gW (fA r n p j)from Ae f _]at q1;rw[show gW (Jy p f j)=gW (iC p j)from Ae f _]at q2;have e1:=q1.length;have e2:=q2.length;rw[ag,c8.1]at e1;rw[ag,c8.2]at e2;have gl:=g.it.length;rw[ag]at gl;refine⟨l1,l2,ca,b9,J,t2 _ _ h1,h2,by omega,λl as G3 t3 n3 h3 hl cx=>?_⟩;have T3:=t1.trans (t2.trans t3);have yl:=AE m (Rw hj);refine⟨R,l,B,as.map V.ref,J,J,T3 _ _ g.at',h3,by rw[ag,TM];omega,?_⟩;refine⟨_,B++as.map V.ref,J,?_⟩;rw[Rj,P7,bo,P9];refine g.apps bw (Ak _) (Ak _) T3 (Ax ?_ λj' tt vv ht hv=>?_);unfold pz;rw[ag,ag,QR,ag,c8.1,c8.2];omega;rw[bq]at ht hv;obtain⟨u,hu,rfl⟩:=df.mp ht;obtain⟨pa,cw,rfl⟩:=df.mp hv;obtain⟨vx,vy,e3,e4,e5⟩:=cx j' pa cw;unfold pz at hu;rw[bq]at hu;obtain⟨cc,bB,rfl⟩:=df.mp hu;rw[QI]at bB;obtain⟨ty,b0,iy⟩:=q1.get' e3;rw[bq,bB.1]at b0;cases b0;obtain⟨tz,bN,iz⟩:=q2.get' e4;rw[bq,bB.2]at bN;cases bN;exact⟨pa,_,J,e5,ft (iy.mono (t2.trans t3)) (iz.mono t3)⟩;rintro L G ⟨ap,B,rfl,g⟩;have dg:((Ri n).flatMap (pz r n p))=cN r n p:=rfl;rw[dg]at g;have pl:(cN r n p).length=4*n*p:=by have q:tV r n p=true:=m.all A7;unfold tV at q;rw[bu]at q;exact cz q.1
 have gl:=g.it.length;rw[ag,pl]at gl;have L8:8<=B.length/\B.length<=40:=by
  have b4:p=1\/p=2:=by omega
  rcases b4 with rfl|rfl<;>omega
 have ax:∀(j:Nat)(v:V),B[j]?=some v->∃u,(cN r n p)[j]?=some u/\Is G (rK u) v:=λj v hv=>by obtain⟨tt,b3,iz⟩:=g.it.get' hv;rw[bq]at b3;obtain⟨u,hu,rfl⟩:=df.mp b3;exact⟨u,hu,iz⟩
 have m1:=m1.same g.same;have m2:=m2.same g.same;have SG:=c7.trans g.same;have cv:=a8.mono g.same;have cs:=a7.mono g.same;have gG:=g.same _ _ b8;refine⟨R,J,⟨B,aK.of g.at'⟩,?_⟩;let db:Nat->L2.St->Hp->Prop:=λi' L G'=>G'=G/\∃aS ay:Option V,L=[some (.ref s),some (.int (i:Int)),some (.ref a),some (.str r),some (.int (n:Int)),some (.int (p:Int)),some va,some vb,some (.ref d1),some (.ref d2),some (.ref R),ap,aS,ay,Z,X,W];refine Zm (K:=K) (a:=R) (xs:=B) db
  ⟨J,av,aq,J⟩ (λi' L G' _ h'=>by rw[h'.1];exact aK.of g.at') ?_ ?_
 rintro i' z L G' hz ⟨rfl,aS,ay,rfl⟩;obtain⟨u,hu,iz⟩:=ax i' z hz;obtain⟨az,yz,rfl,c5,w1,r1,rfl,i1,w2,r2,rfl,i2,rfl⟩:=id iz;obtain⟨b1,_,rfl,_⟩:=id i1;obtain⟨b2,_,rfl,_⟩:=id i2;have um:=dj hu;obtain⟨V1,V2⟩:=Kn m f um;refine⟨az,_,J,aG.of c5,J,_,_,J,_,_,J,J,?_⟩;refine⟨d1,b1,bn,jA u.1,_,J,J,m1,i1,v1 _ V1,d2,b2,bl,jA u.2,_,J,J,m2,i2,(v2 _ V2).trans (by rw[<-FM m f hf um]),J,_,J,sd ⟨J,_,_,J⟩⟩;rintro L G' ⟨rfl,aS,ay,rfl⟩;refine⟨12,J,by decide,by decide,?_⟩;let da:Nat->L2.St->Hp->Prop:=λi' L U=>∃(bd bb ba:Option V)(y:Int),L=[some (.ref s),some (.int (i:Int)),some (.ref a),some (.str r),some (.int (n:Int)),some (.int (p:Int)),some va,some vb,some (.ref d1),some (.ref d2),some (.ref R),ap,aS,ay,bd,bb,ba]/\(∀c o,c≠a->G' c=some o->U c=some o)/\U a=some (.lst [.int y]);refine js (lo:=0) (n:=(12:Int).toNat) da
  ⟨Z,X,W,_,J,λc o _ e=>e,gG⟩ ?_ ?_
 rintro i' L U dK ⟨bd,bb,ba,y,rfl,ku,ua⟩;refine⟨R,B,J,.inl (aK.of (ku _ _ a4 g.at')),a,y,_,J,ua,by omega,by omega,λc0 c1=>?_⟩;generalize y%(B.length:Int)=k at c0 c1⊢;generalize y/(B.length:Int)=y2;have k1:∀c o,c≠a->G' c=some o->ji U a (.lst [.int y2]) c=some o:=λc o S e=>(ja S).trans (ku _ _ S e);have bG:ji U a (.lst [.int y2]) a=some (.lst [.int y2]):=zd;generalize ji U a (.lst [.int y2])=U1 at k1 bG⊢;refine⟨_,_,J,J,R,B,J,.inl (aK.of (k1 _ _ a4 g.at')),_,_,J,J,a,y2,_,J,bG,by omega,by omega,λe0 e1=>?_⟩;generalize y2%((B.length:Int)-1)=dd at e0 e1⊢;generalize y2/((B.length:Int)-1)=y3;have k2:∀c o,c≠a->G' c=some o->ji U1 a (.lst [.int y3]) c=some o:=λc o S e=>(ja S).trans (k1 _ _ S e);have bE:ji U1 a (.lst [.int y3]) a=some (.lst [.int y3]):=zd;generalize ji U1 a (.lst [.int y3])=U2 at k2 bE⊢;have bx:=aK.of (K:=K) (k2 _ _ a4 g.at');refine⟨_,_,J,J,R,B,J,.inl bx,_,_,J,J,by omega,?_⟩;obtain⟨jn,hj,b5,dG⟩:=Ee c0 c1 e0 e1;rw[hj];obtain⟨kn,rfl⟩:∃kn:Nat,k=(kn:Int):=⟨k.toNat,by omega⟩
 have c3:kn<B.length:=by omega
 have b5:jn<B.length:=by omega
 have ek:=cg c3;have ej:=cg b5;obtain⟨u,hu,iu⟩:=ax kn _ ek;obtain⟨u',bL,a5⟩:=ax jn _ ej;generalize B[kn]=vk at ek iu;generalize B[jn]=vj at ej a5;have tp:zy G' U2:=λb zs e=>k2 _ _ (λz=>by rw[z,gG]at e;cases e) e;have iu:=iu.tups tp (show bS (rK u)from⟨Yk _,Yk _,trivial⟩);have a5:=a5.tups tp (show bS (rK u')from⟨Yk _,Yk _,trivial⟩);have cu:=cv.tups tp (Xn _);have co:=cs.tups tp (Xn _);obtain⟨ak,yk,rfl,b6,w1,r1,rfl,i1,w2,r2,rfl,i2,rfl⟩:=id iu;obtain⟨aj,yj,rfl,b7,w3,r3,rfl,i3,w4,r4,rfl,i4,rfl⟩:=id a5;have um:=dj hu;have bi:=dj bL;obtain⟨V1,V2⟩:=Kn m f um;obtain⟨V3,V4⟩:=Kn m f bi;have bJ:u.1≠u'.1:=λz=>by
  have cn:=GO m;have h1:((cN r n p).map (·.1))[kn]?=some u.1:=by rw[bq,hu];rfl
  have h2:((cN r n p).map (·.1))[jn]?=some u.1:=by rw[bq,bL,z];rfl
  have l1:=(d7.mp h1).1;have l2:=(d7.mp h2).1;have:=(QJ (h₀:=l1) (h₁:=l2) cn).mp ((d7.mp h1).2.trans (d7.mp h2).2.symm);omega
 have cl:u.2≠u'.2:=λz=>bJ ((Jl m um bi).mpr z);obtain⟨Jx,J',j1,j2,j3,j4,jj⟩:=FO m f hf um;refine⟨R,_,_,_,J,J,bx,xb ek,ak,_,_,_,J,J,aG.of b6,J,R,_,_,_,J,J,bx,xb ej,aj,_,_,_,J,J,aG.of b7,J,?_⟩;refine⟨j9 r n p f,va,w1,w3,u.1,u'.1,Jx,J,cu,sR m f hf,i1,i3,V1,V3,bJ,j1,j2,λra q1 c1 dt U3 t3 C1 h3=>?_⟩;refine⟨ra,_,_,_,J,J,aG.of h3,J,?_⟩;have a6:=aK.of (K:=K) (t3 _ _ (k2 _ _ a4 g.at'));refine⟨R,_,_,_,J,J,a6,xb ek,ak,_,_,_,J,J,aG.of (t3 _ _ b6),J,R,_,_,_,J,J,a6,xb ej,aj,_,_,_,J,J,aG.of (t3 _ _ b7),J,?_⟩;refine⟨km n p f,vb,w2,w4,u.2,u'.2,J',J,co.mono t3,sS m f hf,i2.mono t3,i4.mono t3,V2,V4,cl,j3,j4,λrb q2 c2 dr U4 t4 C2 h4=>?_⟩;have es:(if u'.2.2<c2 u'.2.1 then("free":Str)else("must":Str))=(if u'.1.2<c1 u'.1.1 then("free":Str)else("must":Str)):=by have e:=jj _ _ _ _ C1 C2 u' bi;by_cases z:u'.1.2<c1 u'.1.1;rw[kP z,kP (e.mp z)];rw[kr z,kr λy=>z (e.mpr y)]
 rw[es]at h4;refine⟨rb,_,_,_,J,J,aG.of h4,J,J,_,J,sd ?_⟩;exact⟨_,_,_,y3,J,λc o S e=>t4 _ _ (t3 _ _ (k2 _ _ S e)),t4 _ _ (t3 _ _ bE)⟩;rintro L U ⟨bd,bb,ba,y,rfl,ku,ua⟩;exact⟨λb o e=>ku b o (λz=>by rw[z,ah]at e;cases e) (SG b o e),_,_,_,_,_,_,_,_,_,_,_,_,_,_,_,_,J⟩;rintro L H1 ⟨s1,x1,x2,x3,x4,x5,x6,x7,x8,x9,bg,a3,av,aq,Z,X,W,rfl⟩;exact kk _
end
abbrev NS(K:O4)(x:Str)(v:Option Sr):Prop:=SR K Tv x=some v
def FD(K:O4)(x:Str)(st:Sj)(f:lv)(B:O5):Prop:=NS K x (some (.ref f))/\lA K x x st f B
def FE(K:O4)(x:Str)(st:Sj):Prop:=∃f fd,FD K x st f fd
def CI(K:O4)(x:Str)(i:Int):Prop:=∃t,NS K x (some (.int i t))
def KT(K:O4)(a:lv)(xs:List Str):Prop:=∀H,aG K H a (xs.map V.str)
section
variable{K:O4}{x y z:Str}{f a C D N M:lv}{kV doc pm cdv ct:Sr}{b:Bool}{i:Int}{t u v:Tok}{n:Nat}
theorem rN(e:SR K Tv x=some (some (.ref f)))(l:K.lookup f=some ⟨oc,od,.func (SF x x (jh st) (xq st) (ze st) .none kV doc pm an cdv ct),osl⟩)(c:SA K cdv x=true)(k:SJ K (.ref f)=true):FD K x st f (SF x x (jh st) (xq st) (ze st) .none kV doc pm an cdv ct):=⟨e,vC l c k⟩
theorem DP(e:SR K Tv x=some (some (.ref f)))(l:K.lookup f=some ⟨oc,od,.func (SF x x (jh st) (xq st) (ze st) .none kV doc pm an cdv ct),osl⟩)(c:SA K cdv x=true)(k:SJ K (.ref f)=true):FE K x st:=⟨_,_,rN e l c k⟩
theorem FE.d(X:K.In h)(G:h.Ns Tv mg)(a:FE K x st):bP K mg x st:=let⟨f,b,e,F⟩:=a;⟨f,b,F,SQ X G e⟩
theorem DU(e:SR K Tv x=some (some (.int i t))):CI K x i:=⟨_,e⟩
theorem CI.d(X:K.In h)(G:h.Ns Tv mg)(e:CI K x i):∃t,mg x=some (.int i t):=let⟨t,e⟩:=e;⟨t,SQ X G e⟩
theorem OG(l:K.lookup a=some ⟨.type "tuple",od,.seq #[.str x t,.str y u,.str z v] n,osl⟩):KT K a [x,y,z]:=λH=>.inr ⟨_,_,n,l,J,J,cG,.cons ⟨_,J⟩ (.cons ⟨_,J⟩ (.cons ⟨_,J⟩ .nil))⟩
end
section
variable{K:O4}{x m q:Str}{f C:lv}{fs:List Str}{kV doc pm cdv ct:Sr}
def DI(K:O4)(q:Str)(C:lv)(st:Sj):Prop:=∃f fd,lA K "__init__" q st f fd/\Mk K C f
theorem DI.d(X:K.In h)(G:h.Ns Tv mg)(e:NS K x (some (.ref C)))(a:DI K q C st):nC K mg x q C st:=let⟨f,b,F,M⟩:=a;⟨f,b,F,M,SQ X G e⟩
theorem DS(l:K.lookup f=some ⟨oc,od,.func (SF "__init__" q (jh st) (xq st) (ze st) .none kV doc pm an cdv ct),osl⟩)(c:SA K cdv q=true)(k:SJ K (.ref f)=true)(g:W.makesIn K C=true)(d:SE K (.ref C) "__init__"=some (some (.ref f)))(b:W.isFn K (.ref f)=true)(a:SJ K (.ref C)=true):DI K q C st:=⟨_,_,vC l c k,g,d,b,a⟩
theorem DR(l:K.lookup f=some ⟨oc,od,.func (SF m q (jh st) (xq st) (ze st) .none kV doc pm an cdv ct),osl⟩)(c:SA K cdv q=true)(k:SJ K (.ref f)=true)(b:SE K (.ref C) m=some (some (.ref f)))(a:W.isFn K (.ref f)=true):qk K C m q st:=⟨_,_,vC l c k,b,a,k⟩
theorem DV(a:SS K C Str.empty=true)(b:SH K C=true)(c:SV K C=true)(d:SE K (.ref C) "__setattr__"=some (some (.builtin "object.__setattr__")))(e:∀f∈fs,SE K (.ref C) f=some none):aI K C fs:=⟨⟨a,b,c,d⟩,e⟩
end
theorem xV{l:RO}{K:O4}{fa fL g n f c q M:Y}(X:K.In h)(G:h.Ns Tv mg)(du:mg "law"=some (.ref fa))(b0:FE K "is_whole" Wk) (b1:FE K "is_within" Xc) (b2:FE K "is_tuple_within" jw) (b3:FE K "is_letters" Z0) (b4:FE K "is_word" Qc) (b5:FE K "is_box" Kf) (b6:FE K "is_wall" Qd) (b7:FE K "is_member" Xd) (b8:FE K "are_members" Yg) (b9:FE K "is_calling" Y1) (eW:FE K "is_deed" Qe) (eE:FE K "is_script" Yc) (eB:FE K "is_frame" Wl) (ez:FE K "is_well_formed" qw) (ey:FE K "brought_by_scripts" Qh) (ew:FE K "is_small_enough" Z5) (ev:FE K "is_allowed" Y2) (eu:FE K "fits" vL) (et:FE K "is_house" Y0) (er:FE K "need_of" Kd) (eq:FE K "is_met" Ke) (eo:FE K "first_run" Xe) (el:FE K "woven_on" We) (ek:FE K "need_house" Yz) (ej:FE K "plan_of" Qb) (ei:FE K "is_name" Xw) (eg:FE K "need_deeds" jv) (ef:FE K "plan_with" Xb) (ed:FE K "must" vM) (ec:FE K "end" uH) (eb:FE K "named" wR) (ea:FE K "soonest" yw) (d5:FE K "timed" wS) (d4:FE K "_law_acell" xC) (d3:FE K "_law_atape" xD) (d2:FE K "_law_adigit" Kg) (d1:FE K "_law_aphase" Xf) (dT:FE K "_law_amade" Ji) (dK:FE K "_law_aworked" Yq) (dG:FE K "_law_acalm" Jj) (dv:FE K "_law_amoments" Wm) (bL:FD K "law" uI fL dL) (n0:CI K "BOXES" 0) (n1:CI K "WALLS" 1) (n2:CI K "FIRSTS" 2) (n3:CI K "SCRIPTS" 3) (n4:CI K "MOST_BOXES" 99) (n5:CI K "MOST_WALLS" 6) (n6:CI K "MOST_FIRSTS" 40) (n7:CI K "MOST_SCRIPTS" 20) (n8:CI K "MOST_DEEDS_OF_SCRIPT" 80) (n9:CI K "MOST_HANDS" 60) (cv:CI K "MOST_DEEDS" 1200) (cu:CI K "MOST_RAISED" 99) (cs:CI K "MOST_AWAITED" 9999) (co:CI K "MOST_WORKED" 999) (cn:CI K "MOST_LETTERS" 8) (dt:NS K "MODES" (some (.ref g))) (L:KT K g ["both","come","go"]) (z:NS K "isinstance" none/\NS K "int" none/\NS K "bool" none/\NS K "str" none/\NS K "tuple" none/\NS K "dict" none/\NS K "list" none/\NS K "len" none/\NS K "all" none/\NS K "sum" none/\NS K "range" none/\NS K "enumerate" none/\NS K "sorted" none/\NS K "zip" none/\NS K "min" none/\NS K "max" none) (uR:NS K "Role" (some (.ref n))) (d:aI K n aT) (iR:DI K "Role.__init__" n Wg) (uP:NS K "Plan" (some (.ref f))) (b:aI K f bF) (iP:DI K "Plan.__init__" f Wh) (dr:qk K f "enter" "Plan.enter" wM) (dp:qk K f "at_first" "Plan.at_first" Xx) (dn:qk K f "what" "Plan.what" vD) (dh:qk K f "every_deed" "Plan.every_deed" Yd) (uU:NS K "Run" (some (.ref c))) (a:aI K c bO) (iU:DI K "Run.__init__" c Yp) (da:qk K c "put" "Run.put" uK) (c8:qk K c "least_come" "Run.least_come" wP) (c7:qk K c "level" "Run.level" wQ) (c6:qk K c "next_deed" "Run.next_deed" vN) (c5:qk K c "may_go_on" "Run.may_go_on" uJ) (c4:qk K c "has_done_all" "Run.has_done_all" Vg) (c3:qk K c "has_done" "Run.has_done" Qf) (c2:qk K c "do" "Run.do" ma) (c1:qk K c "changed" "Run.changed" Qg) (uW:NS K "Weaver" (some (.ref q))) (o:aI K q bA) (iW:DI K "Weaver.__init__" q Yy) (c0:qk K q "step" "Weaver.step" vO) (cx:qk K q "weave" "Weaver.weave" wT) (cw:qk K q "take_stopped" "Weaver.take_stopped" vQ) (uS:NS K "Stop" (some (.ref M))) (N:aI K M eT) (iS:DI K "Stop.__init__" M Wf) (dg:qk K M "lacks" "Stop.lacks" wO) (db:qk K M "up_to" "Stop.up_to" tm) (hb:∀(s:Sh)(v:I),o0 s dL ⟨[v],[]⟩ [("script",v)]):
  ∃fd:O5,(∀(s:Sh)(v:I),o0 s fd ⟨[v],[]⟩ [("script",v)])/\∀base:O7,K.In base->base.Ns Tv mg->cH l.prog w K mg base dX 30 fa fd ["script"] (eU K):=by
 have e:=du.symm.trans (SQ X G bL.1);cases e;obtain⟨z0,z1,z2,z3,z4,z5,z6,z7,z8,z9,ah,Z,U,S,R,Q⟩:=z;have T:Txt K mg:=⟨n0.d X G,n1.d X G,n2.d X G,n3.d X G,n4.d X G,n5.d X G,n6.d X G,n7.d X G,n8.d X G,n9.d X G,cv.d X G,cu.d X G,cs.d X G,co.d X G,cn.d X G,⟨g,SQ X G dt,L⟩,SO X G z0,SO X G z1,SO X G z2,SO X G z3,SO X G z4,SO X G z5,SO X G z6,SO X G z7,SO X G z8,SO X G z9,SO X G ah,SO X G Z,SO X G U,SO X G S⟩
 have P:mg "min"=none:=SO X G R;have zX:mg "max"=none:=SO X G Q;refine⟨dL,hb,λbase XB _=>?_⟩;have F:=bL.2;have o1:=Nv (P:=l.prog) (w:=w) (base:=base) (mg:=mg) (b0.d X G) T;have p:=N1 (b1.d X G) o1;have H:=Wr (P:=l.prog) (w:=w) (base:=base) (mg:=mg) (b2.d X G) T;have o5:=LJ (b5.d X G) T p;have o6:=MS (b6.d X G) T p;have o7:=NO (b7.d X G) T H o6;have o8:=K0 (b8.d X G) T o7;have o9:=N8 (b9.d X G) T H p o8;have bH:=N9 (P:=l.prog) (w:=w) (base:=base) (mg:=mg) (b3.d X G) T;have o4:=MT (b4.d X G) T bH;have cl:=MQ (eW.d X G) T H p o5 o6 o4;have cj:=N0 (eE.d X G) T H cl;have ci:=Nr (eB.d X G) T H p;have ce:=Vo (ez.d X G) T ci cj o9;have cc:=MN (P:=l.prog) (w:=w) (base:=base) (mg:=mg) (ey.d X G) T;have ca:=Nu (ew.d X G) T cc;have bN:=N7 (P:=l.prog) (w:=w) (base:=base) (mg:=mg) (ev.d X G);have bK:=HH (eu.d X G) T bN;have bJ:=Nt (et.d X G) T ce ca bK;have bG:=LL (P:=l.prog) (w:=w) (base:=base) (mg:=mg) (er.d X G);have bE:=LK (P:=l.prog) (w:=w) (base:=base) (mg:=mg) (eq.d X G);have bC:=NH (P:=l.prog) (w:=w) (base:=base) (mg:=mg) (iR.d X G uR) d;have bB:=JW dr T b d bC bG;have bx:=Nw (iP.d X G uP) T b bB;have bw:=MK (P:=l.prog) (w:=w) (base:=base) (mg:=mg) dp T b d;have bn:=FW (P:=l.prog) (w:=w) (base:=base) (mg:=mg) da T a b d;have i:=JY (P:=l.prog) (w:=w) (base:=base) (mg:=mg) c8 T P a;have bl:=MV (iU.d X G uU) T a b bn i;have m:=NN (eo.d X G) b bw bl;have k:=HQ (P:=l.prog) (w:=w) (base:=base) (mg:=mg) c6 T a b d;have bk:=JZ (P:=l.prog) (w:=w) (base:=base) (mg:=mg) (cP:=f) (cR:=n) c7 a;have E:=FV c5 a b d k bk bE;have D:=MO (P:=l.prog) (w:=w) (base:=base) (mg:=mg) (cP:=f) (cR:=n) c1 a i;have C:=EO c2 T a b d D;have B:=LI (P:=l.prog) (w:=w) (base:=base) (mg:=mg) c4 T a b d;have A:=Ob (P:=l.prog) (w:=w) (base:=base) (mg:=mg) (cP:=f) (cR:=n) (iW.d X G uW) T o a;have y:=HR c0 o a b d C;have x:=KU cx o a b d k E y;have u:=NJ (el.d X G) o A x;have bj:=Oa (ek.d X G) bJ;have j:=MU (ej.d X G) bj bx;have bi:=MR (ei.d X G) T o1;have bg:=MP (P:=l.prog) (w:=w) (base:=base) (mg:=mg) c3 a;have bd:=N2 (eg.d X G) T b d bi p;have bb:=NI (iS.d X G uS) N m u;have ba:=JX dg N a bg;have a8:=HU (P:=l.prog) (w:=w) (base:=base) (mg:=mg) (cU:=c) db T N;have a7:=NG (ef.d X G) j bd;have a6:=HP (ed.d X G) N a7 bb ba a8;have a5:=FT (ec.d X G) a j m u B;have a4:=HV (P:=l.prog) (w:=w) (base:=base) (mg:=mg) dn b d;have a3:=NM (P:=l.prog) (w:=w) (base:=base) (mg:=mg) dh T b d;have aS:=KR (P:=l.prog) (w:=w) (base:=base) (mg:=mg) (eb.d X G);have az:=HS (P:=l.prog) (w:=w) (base:=base) (mg:=mg) (cU:=c) (cP:=f) (cR:=n) cw o;have ay:=MW (ea.d X G) T P T.zip b o a m a3 a4 A y x az k aS;have ax:=KS (d5.d X G) j ay;have aw:=JT (P:=l.prog) (w:=w) (base:=base) (mg:=mg) (d4.d X G) T;have av:=JV (d3.d X G) T aw;have t:=LG (P:=l.prog) (w:=w) (base:=base) (mg:=mg) (d2.d X G) T;have r:=LH (P:=l.prog) (w:=w) (base:=base) (mg:=mg) (d1.d X G) T;have aq:=JU (dT.d X G) T r;have ap:=ML (dK.d X G) T t r aq;have ak:=JS (P:=l.prog) (w:=w) (base:=base) (mg:=mg) (dG.d X G) T;have aj:=Nq (dv.d X G) ax;exact FU F T zX P av t ap ak a5 aj a6
theorem Od{l:RO}{b:O Str}{p:(Str->Option I)->O7->Prop}{i:SX->O7->Prop}{d:DefRec}{K:Params->O4}(k:l.most=some 63)(c:d.params.defaults=[])(n:∀(w:SX)(h:O7),i w h->(K w.params).In h)
  (F:∀(w:SX) (mg:Str->Option I) (g:Y) (h:O7),(K w.params).In h->h.Ns Tv mg->mg d.name=some (.ref g)-> ∃fd:O5,(∀(s:Sh)(u:I),o0 s fd ⟨[u],[]⟩ [("script",u)])/\∀base:O7,(K w.params).In base->base.Ns Tv mg->cH l.prog w (K w.params) mg base dX 30 g fd ["script"] (eU (K w.params))):
  W.WalkO q b p i l.row.toRowW d [] (λf vs=>PySem.call f vs):=
 L2.tE (n:=63) (k:=30) (x:="script") (CX:=λ_=>dX) (sp:=λw=>eU (K w.params)) k (by decide) c ⟨J,by decide,by decide⟩ n F (λ_ _ a j m _ o=>⟨a,j,J,o,m,λ_=>rfl⟩) λ_ _ _ _ _ z=>z
end My

structure PySem.W.Fast:Prop where(tw9585960683844681790 tw17139836833434166242 tw1919543165160371351 tw4866017107416218482 tw9160231914405031041 tw17739468883252309123 tw17045639297492879619 tw4254582042378773078 tw16369284887312064018 tw8503745224996762825 tw5798132973665509285 tw7114749176207540110 tw13099446195731060725 tw7640942308460560987 tw10206188349348682762 tw5932124503747740128 tw9685952489904695110 tw3779730324654203501 tw14323097327681813759 tw18164174876977107607 tw9309569515231814117 tw8089821625932029523 tw11906679753449281417 tw6561897533204181218 tw9313840063176090199 tw3993883813411829317 tw16625423069783711067 tw310785923149110095 tw6183394640555263479 tw17358230570924049993 tw13729536308300787667 tw7103660653668410080 tw4767158078546227087 tw567766045716118538 tw18092202981784136044 tw2596392824971713511 tw17183820012245409589 tw9962729299789458938 tw322401132689991967 tw13153175107912249081 tw3047711312687863778 tw6161254535667412189 tw14704640251984742533 tw5873387330674570820 tw8575339383048947679 tw16667159112703124330 tw15490652393507767169 tw2537056532669904663 tw12220542274540151909 tw13612244341716491225 tw12402273057575145272 tw8267160730565098780 tw6309185167366728051 tw6493953603943212547 tw10855991312431952256 tw127127740613321683 tw14525618377644123156 tw17263508946187674390 tw17642794314655221890 tw14923387634623771453 tw16109175918810220883 tw10930841426379142172 tw92494288613625373 tw4873353005436509915 tw4597263271420356615 tw6307578820502349512 tw10797427915133682233 tw17085634724497652619 tw9143867558862623337 tw1202488232803559803 tw13036439771568905166 tw1267845087555273338 tw16098967731533421562 tw5715070891425796168 tw12875621660342041330 tw1879026031544188267 tw3948080240519491364 tw4247651993507048046 tw15095090190892760801 tw17936642105451199189 tw9103311431413135129 tw1894392599721500855 tw2246175929651847416 tw15371007568205179211 tw7923715800975432620 tw251018924750756332 tw8897330927448795246 tw3368627820006770231 tw1100609782014174657 tw1627651921633066020 tw11811638020032864132 tw10406225717233681599 tw16157286009167971380 tw7486603481231529885 tw3187146763289561268 tw10499606222925845715 tw4127732486928321932 tw13110194439505445085 tw634384303512528198 tw12227347590052292608 tw12711825407438925090 tw14319409104109678341 tw13235354310055385119 tw5910487092415658319 tw1187769688708489867 tw14988265124337519943 tw7677971270272314146 tw4330500118463378434 tw6931581921455405997 tw6468436988689551227 tw16951075525799197908 tw4292267344461603702 tw10094572614870684399 tw10752788461774918187 tw12608740458416458242 tw12028050466424378711 tw7648359755676183320 tw14911153765064780246 tw10060785335375580026 tw760348878284819477 tw3862621045213800193 tw16608789340773572534 tw3982419844490397614 tw10472188937111138099 tw14148457287533145113 tw13770778091495149222 tw7105761751734941498 tw18191225464256574126 tw13801636331026638107 tw4260423039530479911 tw16306915175155644627 tw7774481472313828235 tw8244239110373923328 tw16337533307684717247 tw3621842231212484656 tw16822873283121632262 tw1138711094577651271 tw3495964965915750878 tw15046254388105247973 tw341339318010537388 tw6482720022979923339 tw10596876869799026411 tw11613945991508930177 tw6798419883638635026 tw2402249867805237923 tw6929173505898386109 tw10824740802258749111 tw18263045314298544092 tw6067865020590466791 tw3181596664911190349 tw16801085947008053240 tw17152405592311645055 tw1543818159536456578 tw842273690393719172 tw1082123057449032135 tw15430195624264182535 tw4975609441746033996 tw2739453847453357949 tw14817456234388535826 tw6593917249611993121 tw8875203429600087146 tw1082308175758420259 tw1962051406843194370 tw6493206389985600497 tw14097600830219521643 tw14717854077908900258 tw12010242597810787479 tw13698273905400163938 tw6933470469999290033 tw4828645878466931396 tw13849895503199922852 tw16310271856713307255 tw17432619316385429727 tw9153780582367392797 tw17392666267445215208 tw840609942508154935 tw11483654860157288931 tw7354841793231207018 tw6139749303664520427 tw7392284263987291 tw4006556770435833847 tw11662115727556618674 tw16472518374083110085 tw4687405167161085012 tw14496456649477402670 tw11831920996664609026 tw12318393420867665460 tw588041701173296145 tw15462192638366315019 tw995371280591975434 tw5376829084680381666 tw10718042007532654177 tw761156708314808538 tw6589129891012406983 tw16248532727121013819 tw9589049906783156204 tw12903528432736049397 tw15126434129073202160 tw1955507709880762844 tw13246419801834590411 tw15526785613933622530 tw612691478194254211 tw2068928084085991174 tw8541593057687200178 tw7847027073655254030 tw17594431563422702025 tw12681073627300409995 tw2248241932387306629 tw5089575778567684114 tw59733456919675478 tw4686204906742413800 tw548645100253528258 tw6962450167565380036 tw4933722409074265740 tw13585264374797690314 tw6498790286956658240 tw13602753225874829617 tw2332903019260673398 tw643491360218738076 tw4350107553841535299 tw12945453121549835201 tw8479730848668028297 tw1200640785754317386 tw14086280477652664091 tw14267874198810733180 tw9061243643397751308 tw1737526999052521304 tw4001324934978426815 tw3662158468582241872 tw15337656814140279253 tw10915757494177834084 tw6839682918781734274 tw11376550187357154112 tw8115593037175312591 tw2431360587862735711 tw1371806500428974296 tw12936527015777049047 tw5509961851336779130 tw17300784562017657129 tw13888535966079951122 tw11452685683532818589 tw5569679030235373255 tw15916130921974221963 tw12505131925226850605 tw13240710537002464997 tw15676101336204523249 tw12002010094750868652 tw2709944254232899325 tw15026820947406904877 tw15791554940504568379 tw17192538003579480775 tw17848716215250306971 tw5202702649776975502 tw8055465912704321865 tw17091507413568081282 tw954391916079842095 tw8153609871241203889 tw9711392079778957971 tw3159093642522606850 tw17692246543232210599 tw17472088602983359573 tw10178440766887578725 tw17830108530528758601 tw13115048611542293936 tw5231178868311259926 tw12256063770507725696 tw14877775518413614545 tw3857565977980112717 tw13209762695533658165 tw6423104438905992887 tw2308494878220738425 tw2197306598061664994 tw11470137671120117148 tw170640184626603456 tw5338882016026192462 tw9806370920724811175 tw16774443019128817125 tw10206594306033599965 tw8327509769726243106 tw2504020314159117 tw8016728114015277909 tw10349336712045671081 tw12116178495399928035 tw3303093376446250195 tw1730997055999594086 tw63415633699135337 tw1214935768094349367 tw1014420296586700060 tw12957370825193344944 tw12293215600419743757 tw6438853140361961391 tw17768728163935421973 tw13369289269354188156 tw5466393753048942299 tw11161199114280489390 tw2558136425202029343 tw4446006681622562130 tw17470635011489941341 tw5652505679535280667 tw13551315184414175456 tw9906187769173006103 tw7360360554369514478 tw7117695902787991125 tw18125463578742217178 tw9361855694674386640 tw9973729821139776981 tw1201770398894490141 tw7782811033226166230 tw8747196997174119761 tw12041989680359400240 tw13866350099765067158 tw5916611428658827754 tw3618248842776456482 tw1343465917129426459 tw13633956555053009411 tw11503381185905482792 tw2345488648887083091 tw4017283583120582374 tw637973738896221600 tw7656164702699748895 tw6989801514676792155 tw118765427666485780 tw12613377574135392704 tw11736860018199564566:True)
open PySem PySem.W PyProof.Rows
set_option maxRecDepth 100000 in
set_option maxHeartbeats 0 in
theorem PySem.Challenge.cw_meetwall_k81_whole_made_of_boxes_as_one_holds : PySem.Challenge.rw_meetwall_k81_whole_made_of_boxes_as_one.Holds := by
 w_on;o_law;k_head;(case hw=>w_witness2)
 k_fill
 refine My.Od (l:=PySem.Challenge.rw_meetwall_k81_whole_made_of_boxes_as_one) rfl rfl (λw h Y=>PySem.W.kIn_of Y) ?F
 case F=>
  intro w mg fa h KX G hmg;refine' My.xV (w:=w) KX G hmg ?_ ?_ ?_ ?_ ?_ ?_ ?_ ?_ ?_ ?_ ?_ ?_ ?_ ?_ ?_ ?_ ?_ ?_ ?_ ?_ ?_ ?_ ?_ ?_ ?_ ?_ ?_ ?_ ?_ ?_ ?_ ?_ ?_ ?_ ?_ ?_ ?_ ?_ ?_ ?_ ?_ ?bL ?_ ?_ ?_ ?_ ?_ ?_ ?_ ?_ ?_ ?_ ?_ ?_ ?_ ?_ ?_ ?mo3 ?mm3 ?z ?uR ?vR ?iR ?uP ?vP ?iP ?mP0 ?mP1 ?mP2 ?mP3 ?uU ?vU ?iU ?mU0 ?mU1 ?mU2 ?mU3 ?mU4 ?mU5 ?mU6 ?mU7 ?mU8 ?uW ?vW ?iW ?mW0 ?mW1 ?mW2 ?uS ?vS ?iS ?mS0 ?mS1 ?hb
  (case bL=>refine' My.rN ?a ?l ?c ?k;(case a=>k_is);(case l=>k_is);(case c=>k_is);(case k=>k_is))
  (case hb=>exact λs v=>.of_eq rfl)
  (case z=>refine⟨?_,?_,?_,?_,?_,?_,?_,?_,?_,?_,?_,?_,?_,?_,?_,?_⟩<;>(unfold My.NS;k_is))
  (case mo3=>unfold My.NS;k_is)
  (case mm3=>refine' My.OG ?a;(case a=>k_is))
  (case uR=>unfold My.NS;k_is)
  (case vR=>refine' My.DV ?a ?b ?c ?d ?e;(case a=>k_is);(case b=>k_is);(case c=>k_is);(case d=>k_is);(case e=>intro f hf;simp only[My.aT,List.mem_cons,List.not_mem_nil,or_false]at hf;rcases hf with rfl|rfl|rfl|rfl|rfl|rfl<;>k_is))
  (case iR=>refine' My.DS ?l ?c ?k ?m1 ?m2 ?m3 ?m4;(case m2=>k_is);(case l=>k_is);(case c=>k_is);(case k=>k_is);(case m1=>k_is);(case m3=>k_is);(case m4=>k_is))
  (case uP=>unfold My.NS;k_is)
  (case vP=>refine' My.DV ?a ?b ?c ?d ?e;(case a=>k_is);(case b=>k_is);(case c=>k_is);(case d=>k_is);(case e=>intro f hf;simp only[My.bF,List.mem_cons,List.not_mem_nil,or_false]at hf;rcases hf with rfl|rfl<;>k_is))
  (case iP=>refine' My.DS ?l ?c ?k ?m1 ?m2 ?m3 ?m4;(case m2=>k_is);(case l=>k_is);(case c=>k_is);(case k=>k_is);(case m1=>k_is);(case m3=>k_is);(case m4=>k_is))
  (case mP0=>refine' My.DR ?l ?c ?k ?m2 ?m3;(case m2=>k_is);(case l=>k_is);(case c=>k_is);(case k=>k_is);(case m3=>k_is))
  (case mP1=>refine' My.DR ?l ?c ?k ?m2 ?m3;(case m2=>k_is);(case l=>k_is);(case c=>k_is);(case k=>k_is);(case m3=>k_is))
  (case mP2=>refine' My.DR ?l ?c ?k ?m2 ?m3;(case m2=>k_is);(case l=>k_is);(case c=>k_is);(case k=>k_is);(case m3=>k_is))
  (case mP3=>refine' My.DR ?l ?c ?k ?m2 ?m3;(case m2=>k_is);(case l=>k_is);(case c=>k_is);(case k=>k_is);(case m3=>k_is))
  (case uU=>unfold My.NS;k_is)
  (case vU=>refine' My.DV ?a ?b ?c ?d ?e;(case a=>k_is);(case b=>k_is);(case c=>k_is);(case d=>k_is);(case e=>intro f hf;simp only[My.bO,List.mem_cons,List.not_mem_nil,or_false]at hf;rcases hf with rfl|rfl|rfl|rfl|rfl<;>k_is))
  (case iU=>refine' My.DS ?l ?c ?k ?m1 ?m2 ?m3 ?m4;(case m2=>k_is);(case l=>k_is);(case c=>k_is);(case k=>k_is);(case m1=>k_is);(case m3=>k_is);(case m4=>k_is))
  (case mU0=>refine' My.DR ?l ?c ?k ?m2 ?m3;(case m2=>k_is);(case l=>k_is);(case c=>k_is);(case k=>k_is);(case m3=>k_is))
  (case mU1=>refine' My.DR ?l ?c ?k ?m2 ?m3;(case m2=>k_is);(case l=>k_is);(case c=>k_is);(case k=>k_is);(case m3=>k_is))
  (case mU2=>refine' My.DR ?l ?c ?k ?m2 ?m3;(case m2=>k_is);(case l=>k_is);(case c=>k_is);(case k=>k_is);(case m3=>k_is))
  (case mU3=>refine' My.DR ?l ?c ?k ?m2 ?m3;(case m2=>k_is);(case l=>k_is);(case c=>k_is);(case k=>k_is);(case m3=>k_is))
  (case mU4=>refine' My.DR ?l ?c ?k ?m2 ?m3;(case m2=>k_is);(case l=>k_is);(case c=>k_is);(case k=>k_is);(case m3=>k_is))
  (case mU5=>refine' My.DR ?l ?c ?k ?m2 ?m3;(case m2=>k_is);(case l=>k_is);(case c=>k_is);(case k=>k_is);(case m3=>k_is))
  (case mU6=>refine' My.DR ?l ?c ?k ?m2 ?m3;(case m2=>k_is);(case l=>k_is);(case c=>k_is);(case k=>k_is);(case m3=>k_is))
  (case mU7=>refine' My.DR ?l ?c ?k ?m2 ?m3;(case m2=>k_is);(case l=>k_is);(case c=>k_is);(case k=>k_is);(case m3=>k_is))
  (case mU8=>refine' My.DR ?l ?c ?k ?m2 ?m3;(case m2=>k_is);(case l=>k_is);(case c=>k_is);(case k=>k_is);(case m3=>k_is))
  (case uW=>unfold My.NS;k_is)
  (case vW=>refine' My.DV ?a ?b ?c ?d ?e;(case a=>k_is);(case b=>k_is);(case c=>k_is);(case d=>k_is);(case e=>intro f hf;simp only[My.bA,List.mem_cons,List.not_mem_nil,or_false]at hf;rcases hf with rfl|rfl|rfl|rfl|rfl|rfl<;>k_is))
  (case iW=>refine' My.DS ?l ?c ?k ?m1 ?m2 ?m3 ?m4;(case m2=>k_is);(case l=>k_is);(case c=>k_is);(case k=>k_is);(case m1=>k_is);(case m3=>k_is);(case m4=>k_is))
  (case mW0=>refine' My.DR ?l ?c ?k ?m2 ?m3;(case m2=>k_is);(case l=>k_is);(case c=>k_is);(case k=>k_is);(case m3=>k_is))
  (case mW1=>refine' My.DR ?l ?c ?k ?m2 ?m3;(case m2=>k_is);(case l=>k_is);(case c=>k_is);(case k=>k_is);(case m3=>k_is))
  (case mW2=>refine' My.DR ?l ?c ?k ?m2 ?m3;(case m2=>k_is);(case l=>k_is);(case c=>k_is);(case k=>k_is);(case m3=>k_is))
  (case uS=>unfold My.NS;k_is)
  (case vS=>refine' My.DV ?a ?b ?c ?d ?e;(case a=>k_is);(case b=>k_is);(case c=>k_is);(case d=>k_is);(case e=>intro f hf;simp only[My.eT,List.mem_cons,List.not_mem_nil,or_false]at hf;rcases hf with rfl|rfl<;>k_is))
  (case iS=>refine' My.DS ?l ?c ?k ?m1 ?m2 ?m3 ?m4;(case m2=>k_is);(case l=>k_is);(case c=>k_is);(case k=>k_is);(case m1=>k_is);(case m3=>k_is);(case m4=>k_is))
  (case mS0=>refine' My.DR ?l ?c ?k ?m2 ?m3;(case m2=>k_is);(case l=>k_is);(case c=>k_is);(case k=>k_is);(case m3=>k_is))
  (case mS1=>refine' My.DR ?l ?c ?k ?m2 ?m3;(case m2=>k_is);(case l=>k_is);(case c=>k_is);(case k=>k_is);(case m3=>k_is))
  all_goals first|(refine' My.DP ?a ?l ?c ?k;(case a=>k_is);(case l=>k_is);(case c=>k_is);(case k=>k_is))|(refine' My.DU ?a;(case a=>k_is))

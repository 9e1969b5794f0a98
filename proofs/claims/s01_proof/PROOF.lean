import PyProof.Rows.All
import Wide.All
import OpenK.AllK
import Wide.FinOn
import Open.SpecLaws
import KE.OsHead
import KE.OsGo
import PySem.Challenge.RW_notebooktests_s01_answers
import VanbkjSpec
import PyVanbkj
import PyFlatLaws
import PyProof.DictRoadsH
import PyProof.EqAt
import PyProof.EqKinds
import PyProof.TupleCall
import KE.BitLaws
import KE.KDictList
import KE.KDictLaws
import PyProof.ListRange
import PyProof.Rows.SetFrom
import PyProof.Rows.SeqMore
import PyProof.AutoSeq1
set_option Elab.async false
set_option linter.all false
set_option maxRecDepth 100000
set_option maxHeartbeats 4000000
set_option backward.defeqAttrib.useBackward true
noncomputable section
local macro_rules|`(command|def $i $s $v:declVal)=>`(command|noncomputable def $i $s $v:declVal)
local macro_rules|`(command|abbrev $i $s $v:declVal)=>`(command|noncomputable abbrev $i $s $v:declVal)
open Array renaming forIn_toList->WI,getElem?_toList->VT,length_toList->SJ,toList->WN
open Bool renaming and_eq_true->SH,and_eq_true_iff->Uh,and_false->Yg,eq_iff_iff->S6,false_eq_true->RJ,false_ne_true->R5,noConfusion->S2,not_eq_eq_eq_not->Xq,not_eq_false->Xp,not_eq_false'->U9,not_eq_true'->RQ,not_false->R3,not_true->RL,or_eq_false_iff->U_,or_eq_true->UA
open Int renaming ediv_le_of_le_mul->VD,fdiv->Tf,fdiv_eq_ediv_of_nonneg->Uy,le_ediv_iff_mul_le->U8,lt_or_gt_of_ne->Xl,mul_comm->TH,mul_le_mul_of_nonneg_left->VE,mul_le_mul_of_nonneg_right->YT,mul_le_mul_of_nonpos_left->VC,mul_le_mul_of_nonpos_right->YU,neg_fdiv_neg->Xm,ofNat_inj->Y1,toNat_natCast->Sg
open List renaming all_cons->WZ,all_eq_true->Ud,any_cons->Vl,any_eq_false->Wz,any_eq_true->Tg,append_assoc->Sk,append_nil->RB,cons_append->Rx,contains_iff_mem->Ve,drop_eq_getElem_cons->UU,drop_eq_nil_of_le->W_,drop_length->YR,drop_zero->Xa,ext_getElem?->Ui,filterMap_append->Xc,filterMap_cons->Vh,filter_append->Ua,filter_congr->Ts,filter_cons->Td,filter_cons_of_neg->Xd,filter_cons_of_pos->Xe,filter_eq_nil_iff->XC,filter_map->VG,filter_sublist->UB,find?_append->Tp,find?_cons->TX,find?_cons_of_neg->T5,find?_cons_of_pos->Us,find?_eq_none->S5,find?_isSome->VF,find?_some->Uz,findIdx?_eq_none_iff->Xr,findIdx?_eq_some_iff_getElem->WA,findSome?_eq_none_iff->Zd,flatMap_append->TK,flatMap_cons->SR,flatMap_def->UC,flatMap_map->XJ,flatMap_nil->XH,flatten_cons->VS,foldl->W0,foldl_append->Vd,foldl_cons->Vf,forIn_cons->Vp,forIn_nil->UM,forall_mem_cons->Wy,getD_eq_getElem?_getD->Sx,getElem?_append_right->X9,getElem?_cons_succ->R4,getElem?_cons_zero->RZ,getElem?_eq_getElem->RC,getElem?_eq_none->SG,getElem?_eq_some_iff->RE,getElem?_map->RW,getElem?_range->V8,getElem?_replicate->WU,getElem?_set_ne->VP,getElem?_set_self->WM,getElem?_take->VJ,getElem?_zipWith->YV,getElem?_zip_eq_some->WH,getElem_inj->Xv,getElem_mem->Va,getElem_of_mem->WB,getElem_range->XF,length->UI,length_append->RH,length_cons->RG,length_drop->Vj,length_eq_zero_iff->V7,length_filter_le->Th,length_map->Rr,length_nil->W4,length_range->TM,length_set->WY,length_singleton->Ye,length_take->Sf,length_zip->XD,lookup->TU,lookup_cons->Uo,map_append->Sa,map_congr_left->SE,map_cons->RS,map_fst_zip->Xx,map_id'->Xo,map_map->RV,map_nil->Vo,mem_append->Ru,mem_append_left->Sm,mem_append_right->SD,mem_cons->Rn,mem_cons_of_mem->Rp,mem_cons_self->Rv,mem_filter->Sn,mem_filterMap->WO,mem_flatMap->Tr,mem_iff_getElem?->TJ,mem_map->Rm,mem_of_find?_eq_some->Ub,mem_of_getElem?->Rz,mem_of_mem_take->Zc,mem_range->S7,mem_singleton->Sb,nil_append->RR,nodup_append->Ss,nodup_cons->RK,nodup_nil->SI,not_mem_nil->Sj,of_mem_zip->VI,pairwise_map->Xs,range->RM,range'->Tt,range'_eq_map_range->XQ,range_succ->Uj,replicate->Sr,replicate_succ->Vn,size_toArray->RT,sum_append->XO,sum_cons->XN,takeWhile_cons->Xn,takeWhile_cons_of_pos->YZ,take_append_drop->V6,take_length->R9,take_of_length_le->W9,take_succ->Sl,take_succ_cons->YY,take_succ_eq_append_getElem->T1,take_zero->Xb,zipIdx_cons->V0,zipIdx_nil->V1,zipWith->SS,zip_cons_cons->Zb,zip_map_left->XE
open List.Pairwise renaming imp->Xu
open Nat renaming add_assoc->VN,add_comm->WJ,add_left_comm->XS,le_add_right->Su,le_of_eq->Vg,le_of_lt->TQ,le_of_not_lt->WD,le_of_succ_le->VV,le_refl->Ro,le_trans->RO,lt_irrefl->Te,lt_of_le_of_lt->VL,lt_of_lt_of_le->Sw,lt_of_not_le->WC,lt_succ_of_lt->Vq,lt_succ_self->Vi,min_le_left->UT,mul_comm->XI,ne_of_gt->Ti,ne_of_lt->Sd,pow_le_pow_right->XR,sub_self->YS,sub_zero->YQ,succ_mul->XG,zero_le->SO
open Ne renaming symm->SY
open Option renaming bind_some->SX,getD_none->Yc,getD_some->Vs,isSome_iff_exists->VR,isSome_map->Uc,isSome_or->Y0,isSome_some->W2,map->Y3,map_eq_none_iff->XM,map_eq_some_iff->To,map_some->SN,none->VZ,not_isSome_iff_eq_none->Xi,or_none->YW,toList_some->Y2,none->zN,some->zS
open Option.some renaming inj->RA,injEq->RU
open Or renaming inl->UR,inr->Uq
open Prod renaming ext->VA
open Prod.mk renaming inj->Vz,injEq->U7
open PyFlat renaming played->WG,put->Xz,put1->WE,told->Tq
open PyProof renaming noPylong_of_log2->YF
open PyProof.Rows renaming callWith_builtin1->ZO,callWith_type1->TR
open PyProof.Rows.IsTup renaming new->X_
open PySem renaming Around->ZZ,Builtin->Z7,DictEntry->aaL,FuncData->aav,NameKind->aax,Program->ZV,Within->WK,call->Wx,evalArgs_none->Vm,getD_mem->VU,mem_of_lookup->SQ,Shared->ZW,assignEach->aam,attributeBase->aau,backTo->aaf,behindInMarks->aaj,binaryOp->aat,bootBuiltins->aae,call_meets->aaA,call_meetsIn->aaJ,cellsFrom->aay,compEnvC->aaG,compareOp->aai,foldedSetIterable->aas,intItems->aaB,intItems_at->aaC,intKind->ZX,isSubtype_tuple_tuple->Z9,letOwnedTupleGo->aap,mainGlobals->ZU,numAt_eq->aaD,pushCells->aaE,pushCells_keeps->aaF,pyNext->aao,rawInt->aaq,sizeLine->aac,sliceBounds->aaz,starEach->aag,swapsWith->aal,sysModules->aad,tupleKeyHash->ZY,tupleKind_room_in1->aaI,wpAny_Call_Name_kw->aaw,wpAny_Call_method->aaK,wpAny_attempt->aaN,wpAny_bind->Z0,wpAny_callSpecial?_slot->aaO,wpAny_call_entry->Z3,wpAny_dictEntries->aaM,wpAny_execs_nil->aak,wpAny_field->aaU,wpAny_forIn_list->Z4,wpAny_holding->Z_,wpAny_isInstance->Z8,wpAny_letGo->aaT,wpAny_letOwnedTupleGo_zip->aaR,wpAny_mono->aah,wpAny_newObj_type->aaH,wpAny_nextOf_list_item->aaX,wpAny_onRaise->aaW,wpAny_passesOwn->aan,wpAny_pure->Z5,wpAny_pyIter_list->aar,wpAny_pyIter_zip->aaS,wpAny_rule->Z6,wpAny_seqItems->aab,wpAny_setField_rec->aaV,wpAny_specialOf->Z1,wpAny_truthy_bool->aaa,wpAny_typeNameOfWhole_keyiter->aaP,wpAny_typeNameOf_keyiter->aaQ
open PySem.Around renaming under->WS
open PySem.Builtin.Dict renaming dictSlotNone->ZR,noArgs->ZS,showsAll->Ys
open PySem.Builtin.Dict_items renaming ownsTuple->Yv
open PySem.Builtin.List renaming listTooLong->UK
open PySem.Builtin.Range renaming rangeFitsLong->Y7,rangeSize->VQ,small->W7
open PySem.Builtin.SmallTypes renaming nextOf->TB,ownedTupleHandOut->V2,ownedTupleIsFree->TY
open PySem.Builtin.Tuple renaming tupleHashOf->UD,tupleItemsOf->Zo
open PySem.Calls renaming Name_function_global->X0,callWith_builtin->TV,evalArgs_plain->UJ,spliced_cons->Tw,spliced_nil->UH
open PySem.Challenge renaming pw_notebooktests_s01_answers->Zl
open PySem.CmpOp renaming NotIn->X3
open PySem.Code renaming frames->X5,isFrame->WT
open PySem.Data renaming seq->Wr
open PySem.EqMixed renaming eq_bool_str->Zu,eq_int_str->Zw,eq_str_bool->Zy,eq_str_int->Zz,ne_bool_str->ZG,ne_int_str->ZI,ne_str_bool->ZK,ne_str_int->ZL
open PySem.EqNone renaming eq_bool_none->Zt,eq_int_none->Zv,eq_none_bool->Zq,eq_none_int->Zr,eq_none_none->Zp,eq_none_str->Zs,eq_str_none->Zx,ne_bool_none->ZF,ne_int_none->ZH,ne_none_bool->ZC,ne_none_int->ZD,ne_none_none->ZA,ne_none_str->ZE,ne_str_none->ZJ
open PySem.F renaming args_dict_keyiterator_next_1->Yu,args_dict_values_1->YC,args_list_extend_2->Yj,args_zip_next_1->V4,entry_dict_keyiterator_next->Yt,entry_dict_values->YB,entry_list_extend->Yi,entry_zip_new->YN,entry_zip_next->V3,plainAttrs_dict->W6,slot_dict_items->YD,slot_dict_iter->Yr,slot_dict_keyiterator_iter->Yz,slot_dict_keyiterator_next->UP,slot_dict_values->VY,slot_int_rmul->Yk,slot_list_extend->Yh,slot_tuple_eq->VO,slot_tuple_hash->VM,slot_tuple_iterator_next->YM,slot_zip_next->TZ,type_dict_values->YA,args_dict_get_3->Yp,args_dict_pop_3->Yl,args_tuple_add_2->WX,entry_dict_get->Yo,entry_dict_pop->Ym,entry_tuple_add->WW,plainAttrs_dict->UO,plainAttrs_list->Si,slot_dict_clear->YK,slot_dict_get->W5,slot_dict_getitem->Yn,slot_dict_pop->VW,slot_dict_setdefault->YI,slot_dict_update->YH,slot_list_append->Uu,slot_list_count->Wt,slot_list_extend->Uw,slot_list_index->UL,slot_tuple_add->WV,type_dict_pop->Yq,type_list_append->Uv,type_list_count->Wu,type_list_extend->Ux,type_list_index->Vw
open PySem.Heap renaming IsList->V5,SameBut->Tu,get?_push_of_some->Rt,get?_push_size->RN,get?_update_other->Yb,get?_update_self->Vk,lt_size->Rw,size_push->R_
open PySem.Heap.DictOf renaming new->ZQ
open PySem.Heap.IsList renaming push->W8
open PySem.Heap.IsSliceOf renaming new->ZP
open PySem.Heap.IsTuple renaming push->ZT
open PySem.Heap.SameBut renaming update->UQ
open PySem.NameKind renaming cell->W3,free->UN
open PySem.Obj renaming cls_mapFields->Yy,data_mapDictKeys->YJ,data_mapFields->VX,isFreed_of_fields->Yx,mapFields->Yw,mapSeq->Um
open PySem.Paired renaming length->Sv,snoc->Tz
open PySem.PassesOwn renaming never->R1
open PySem.SeqAt renaming EqAt->Yd
open PySem.SeqAt.EqAt renaming int_str->XU,str_int->XW
open PySem.Shared renaming heap->Vr
open PySem.Str renaming empty->Ww,ofString->Up
open PySem.Value renaming bool->XX,bytes->XY,float->XZ,int->S0,isInt->UE,isStrOf->XT,none->S8,ref->RF,str->UG,type->Ul
open PySem.Value.type renaming inj->Zi
open PySem.W renaming Frag->Rl,WRecords->Zg,WalkOS->Zk,callWith_K->X6,callWith_K0->X7,cellsFrom_some->X8,codeIn->T_,emptyDict->Tv,findIn->SW,fnOf->S3,handedIn->X4,hasDictIn->U6,instObj->TN,isFn->Wv,kdl_call->YG,keepIn->S4,length_le_weightAllW->Zh,lookIn->WQ,makesIn->Vy,methodObj->WL,mg_of->Ws,neN->YO,nsIn->SV,plainGet->U5,plainOver->Vx,takerIn->WR
open PySem.W.Codec renaming app->Vv,denoteAll->Wo,encAll->U4,withinAll->Zj
open PySem.W.Looks renaming here->ZM
open PySem.W.WData renaming int->Zf,weightAll->Wq
open PySem.Walks renaming tuple->YL
open PySem.Within renaming cons->ZN
open PyVanbkj renaming answers->XB,answers_asked->XA,whole->Vc
open Sum renaming inl->Rk,inr->Uk
open Vanbkj renaming Answer->T6,Call->Sz,Env->UW,INPUTS->Y5,TESTS->Y9,VALUES->SU,act->Ze,apart->U3,apply->Ur,around->SA,badName->Ta,checked->U0,countOf->SM,doCell->We,doChange->Wf,doChoice->Wc,doDrop->Wm,doKeep->Wj,doRecall->Wl,doSet->Wi,doSlider->Wd,doTest->Wg,doTurn->Wh,envAt->Wa,eval->RX,findCell->Y8,findInput->Xj,findTest->T9,first->Se,flat->Vu,formulaOf->S9,gathered->Xf,grid->Wb,inRange->RD,indexIn->S1,inlined->V9,inputI->YX,lookup->T4,nearest->Wn,nearestAt->TF,newsOf->Xg,ofNat->RY,opNumber->US,presetI->Wk,readBy->UY,reads->Ry,recalled->Za,refused->Y_,restsOn->S_,setting->Ut,sized->Tj,sliderValues->Y6,stand->Xw,start->SF,step->RP,strange->U1,sweep->SK,takenI->So,tell->UZ,tellGrid->Xh,tellNearest->Xk,tellValue->V_,testI->UX,timesIn->Y4,told->T7,truth->T3,twice->T8,valueAt->Sy,verdictNow->Sh,verdictOf->Vt,withInput->TC,withTest->Sq,within->Tn
open VanbkjNeutral renaming asked->Zm,asked1->VH,callOf->Xy,encode->Ug,start->Zn,step->Ue,whole60->Vb
abbrev Zz.K(T U:Prop):=T=U→T
open Lean in
local macro_rules|`(command|#synth Nat)=>do
 let T s:MacroM Command:=`(theorem $(mkIdent (.str `PySem.W.Fast s!"tw{s}")) :True:=trivial)
 let mut c:=#[← T 8472386313159455836]
 let M s:=T (Name.str `Nh.Qw s).hash
 for i in [0:640] do c:=c.push (← M s!"o_{i}")
 for i in [1,7,9,26,84,100,123,181,230,310,366,438,517,588,620,636] do
  for j in [i,i+1] do
   for k in ["tree","sts","heap","env","view"] do c:=c.push (← M s!"{k}_{j}")
 for n in [1:25] do
  let I s:=(Array.range n).map λi=>mkIdent (.mkSimple s!"{s}{i}")
  let N s:=mkIdent (.str `Zz s!"{s}{n}")
  let X:=I "X"
  let x:=I "x"
  let mut a ← `(Prop)
  let mut b ← `(Z)
  let mut u ← `(List V)
  let mut p ← `(z $x*)
  let mut v ← `(w=y $x*∧$p)
  let mut t ← `(f $x* h)
  let mut s ← `((congrArg List.length h.1).trans (f $x*))
  let mut o ← `(h)
  let mut g ← `(f)
  let mut h ← `(h)
  let mut d ← `($(X[n-1]!))
  for j in [0:n] do
   let A:=X[n-1-j]!
   let e:=x[n-1-j]!
   a ← `($A→$a)
   b ← `($A→$b)
   u ← `($A→$u)
   p ← `(∃$e:ident,$p)
   v ← `(∃$e:ident,$v)
   t ← `(h.elim λ$e h=>$t)
   s ← `(h.elim λ$e h=>$s)
   o ← `(⟨$e,$o⟩)
   if j>0 then
    d ← `($A∧$d)
    g ← `($g $h.1)
    h ← `($h.2)
  c:=c.push (← `(theorem $(N "n") {$X* V:Type} {w:List V} {m:Nat} {y:$u} {z:$a} (h:$v) (f:∀$x*,(y $x*).length=m):w.length=m:=$s))
  if n>14 then continue
  c:=c.push (← `(theorem $(N "e") {$X* :Type} {z:$a} {Z:Prop} (h:$p) (f:∀$x*,z $x*→Z):Z:=$t))
  c:=c.push (← `(theorem $(N "i") {$X* :Type} {z:$a}:∀$x*,z $x*→$p :=λ$x* h=>$o))
  c:=c.push (← `(theorem $(N "a") {$X* Z:Prop} (h:$d) (f:$b):Z:=$g $h))
 return mkNullNode c
#synth Nat
theorem Zz.l0 {α:Type u} {P:List α→Prop} (h:P []):∀u:List α,u.length=0→P u|[],_=>h
theorem Zz.lS {α:Type u} {n:Nat} {P:List α→Prop} (h:∀(a:α)(u:List α),u.length=n→P (a::u)):∀u:List α,u.length=n+1→P u|a::u,e=>h a u (Nat.succ.inj e)
theorem Zz.l1 {α:Type u} {P:List α→Prop} (h:∀a,P [a]):∀u:List α,u.length=1→P u:=Zz.lS λa=>Zz.l0 (h a)
theorem Zz.l2 {α:Type u} {P:List α→Prop} (h:∀a b,P [a,b]):∀u:List α,u.length=2→P u:=Zz.lS λa=>Zz.lS λb=>Zz.l0 (h a b)
theorem Zz.l3 {α:Type u} {P:List α→Prop} (h:∀a b c,P [a,b,c]):∀u:List α,u.length=3→P u:=Zz.lS λa=>Zz.lS λb=>Zz.lS λc=>Zz.l0 (h a b c)
theorem Zz.l4 {α:Type u} {P:List α→Prop} (h:∀a b c d,P [a,b,c,d]):∀u:List α,u.length=4→P u:=Zz.lS λa=>Zz.lS λb=>Zz.lS λc=>Zz.lS λd=>Zz.l0 (h a b c d)
theorem Zz.l5 {α:Type u} {P:List α→Prop} (h:∀a b c d e,P [a,b,c,d,e]):∀u:List α,u.length=5→P u:=Zz.lS λa=>Zz.lS λb=>Zz.lS λc=>Zz.lS λd=>Zz.lS λe=>Zz.l0 (h a b c d e)
theorem Zz.l6 {α:Type u} {P:List α→Prop} (h:∀a b c d e f,P [a,b,c,d,e,f]):∀u:List α,u.length=6→P u:=Zz.lS λa=>Zz.lS λb=>Zz.lS λc=>Zz.lS λd=>Zz.lS λe=>Zz.lS λf=>Zz.l0 (h a b c d e f)
theorem Zz.l7 {α:Type u} {P:List α→Prop} (h:∀a b c d e f g,P [a,b,c,d,e,f,g]):∀u:List α,u.length=7→P u:=Zz.lS λa=>Zz.lS λb=>Zz.lS λc=>Zz.lS λd=>Zz.lS λe=>Zz.lS λf=>Zz.lS λg=>Zz.l0 (h a b c d e f g)
@[elab_as_elim] theorem Zz.s {α:Sort u} {a b:α} {m:α→Prop} (h:a=b) (x:m b):m a:=h▸x
@[elab_as_elim] theorem Zz.t {α:Sort u} {a b:α} {m:α→Prop} (h:b=a) (x:m b):m a:=h▸x
theorem Zz.ff {α:Sort u} {a b:α}:(if false=true then a else b)=b:=rfl
theorem Zz.tt {α:Sort u} {a b:α}:(if true=true then a else b)=a:=rfl
theorem Zz.m {A B:Type} {P Q R:A→B→Prop} {Z:Prop} (h:∃x y,P x y∧Q x y∧R x y) (f:∀x y,P x y→Q x y→R x y→Z):Z:=h.elim λx h=>h.elim λy h=>f x y h.1 h.2.1 h.2.2
def ae{c:Prop} [h:Decidable c](n:¬c){α:Sort u}{t e:α}:ite c t e=e:=if_neg n
def ag{c:Prop} [h:Decidable c](n:c){α:Sort u}{t e:α}:ite c t e=t:=if_pos n
namespace L2
open PySem PySem.Spec PyProof.Rows
def inClass(s:Stmt)(j:Nat):Stmt:=match s with
 | .ClassDef _ _ _ body _ _ _ _ _ _ _=>body.getD j (.Pass ⟨0,0,0,0⟩)
 |_=>.Pass ⟨0,0,0,0⟩
def jq(s:Stmt):Arguments:=match s with
 | .FunctionDef _ a _ _ _ _ _ _ _ _=>a
 |_=>{posonlyargs:=[],args:=[],vararg:=zN,kwonlyargs:=[],kw_defaults:=[],kwarg:=zN,defaults:=[]}
def gf(s:Stmt):List Stmt:=match s with
 | .FunctionDef _ _ b _ _ _ _ _ _ _=>b
 |_=>[]
def bm(s:Stmt):Scope:=match s with
 | .FunctionDef _ _ _ _ _ _ sc _ _ _=>sc
 |_=>{kind:=.function,names:=[],isGenerator:=false,isCoroutine:=false}
end L2
namespace Nb
open PySem PySem.Spec PyProof.Rows L2
def top(i:Nat):Stmt:=Zl.main.body.getD i (.Pass ⟨0,0,0,0⟩)
abbrev Hg:Stmt:=inClass (top 19) 0
abbrev Nf:Stmt:=inClass (top 48) 0
abbrev EQ:Stmt:=inClass (top 49) 0
abbrev Jk:Stmt:=inClass (top 63) 0
abbrev Ln:Stmt:=inClass (top 81) 0
abbrev As:Stmt:=top 4
abbrev xk:Stmt:=top 5
abbrev tz:Stmt:=top 20
abbrev vC:Stmt:=top 21
abbrev xl:Stmt:=top 22
abbrev At:Stmt:=top 23
abbrev Au:Stmt:=top 24
abbrev xn:Stmt:=top 25
abbrev Av:Stmt:=top 26
abbrev xo:Stmt:=top 50
abbrev vD:Stmt:=top 51
abbrev oG:Stmt:=top 52
abbrev Aw:Stmt:=top 53
abbrev q_:Stmt:=top 54
abbrev oH:Stmt:=top 55
abbrev vE:Stmt:=top 56
abbrev xp:Stmt:=top 64
abbrev ly:Stmt:=top 65
abbrev oI:Stmt:=top 66
abbrev C8:Stmt:=top 67
abbrev rg:Stmt:=top 68
abbrev mU:Stmt:=top 69
abbrev tD:Stmt:=top 70
abbrev ER:Stmt:=top 71
abbrev ES:Stmt:=top 72
abbrev BA:Stmt:=top 73
abbrev kx:Stmt:=top 74
abbrev tE:Stmt:=top 75
abbrev qy:Stmt:=top 76
abbrev lO:Stmt:=top 77
abbrev mV:Stmt:=top 78
abbrev lP:Stmt:=top 79
abbrev oJ:Stmt:=top 82
abbrev vF:Stmt:=top 83
abbrev kz:Stmt:=top 84
abbrev rh:Stmt:=top 85
abbrev rj:Stmt:=top 86
abbrev oK:Stmt:=top 87
abbrev oM:Stmt:=top 91
abbrev n9:Stmt:=top 92
abbrev tF:Stmt:=top 93
abbrev lz:Stmt:=top 94
abbrev Ax:Stmt:=top 95
abbrev rk:Stmt:=top 96
abbrev rl:Stmt:=top 97
abbrev xq:Stmt:=top 98
abbrev vG:Stmt:=top 99
abbrev tG:Stmt:=top 105
abbrev tH:Stmt:=top 106
abbrev kC:Stmt:=top 107
abbrev xr:Stmt:=top 108
abbrev rm:Stmt:=top 109
abbrev xt:Stmt:=top 110
abbrev rq:Stmt:=top 111
abbrev vH:Stmt:=top 112
abbrev vI:Stmt:=top 113
abbrev tI:Stmt:=top 116
abbrev vJ:Stmt:=top 117
abbrev rA:Stmt:=top 118
abbrev n_:Stmt:=top 119
abbrev tJ:Stmt:=top 120
abbrev tL:Stmt:=top 124
abbrev BB:Stmt:=top 125
abbrev vK:Stmt:=top 126
abbrev oN:Stmt:=top 127
abbrev oO:Stmt:=top 128
abbrev mW:Stmt:=top 129
abbrev lQ:Stmt:=top 130
abbrev oP:Stmt:=top 131
abbrev uP:Stmt:=top 158
abbrev vL:Stmt:=top 159
abbrev kD:Stmt:=top 160
abbrev jw:Stmt:=top 161
abbrev kE:Stmt:=top 162
abbrev j4:Stmt:=top 163
def R:List (Str×Stmt):=("is_name",As)::("is_value",xk)::("formula_of",tz)::("pieces_of",vC)::("piece_at",xl)::("is_leaf",At)::("tree_of",Au)::("names_in",xn)::("inlined",Av)::("has_name",xo)::("all_names",vD)::("names_before",oG)::("is_read",Aw)::("names_below",q_)::("rested_on",oH)::("value_now",vE)::("measured",xp)::("same_everywhere",ly)::("column_of",oI)::("joined",C8)::("either_part",rg)::("both_parts",mU)::("of_two",tD)::("plus",ER)::("less",ES)::("times",BA)::("within_range",kx)::("refused_at",tE)::("divided",qy)::("greater_one",lO)::("lesser_one",mV)::("verdicts_of",lP)::("trial_of_now",oJ)::("column_in",vF)::("input_column",kz)::("verdicts_in",rh)::("verdict_now",rj)::("verdicts_now",oK)::("tell_verdict",oM)::("tell_verdicts",n9)::("tell_rests",tF)::("tell_test_rests",lz)::("counted",Ax)::("tell_inputs",rk)::("tell_inline",rl)::("set_mark",xq)::("tell_news",vG)::("add_slider",tG)::("add_choice",tH)::("new_name_refusal",kC)::("add_cell",xr)::("change_cell",rm)::("put_test",xt)::("put_formula",rq)::("drop_name",vH)::("drop_test",vI)::("turn_input",tI)::("set_input",vJ)::("keep_preset",rA)::("recall_preset",n_)::("tell_value",tJ)::("tell_sweep",tL)::("swept",BB)::("tell_edge",vK)::("tell_grid",oN)::("tell_nearest",oO)::("near_trial",mW)::("settings_at",lQ)::("told_setting",oP)::("answers",uP)::("answer_of",vL)::("answer_of_making",kD)::("answer_of_standing",jw)::("answer_of_trying",kE)::("answer_of_looking",j4)::[]
def xu:List Int->List Value->Bool
 |[],[]=>true
 |i::l,.int j _::vs=>i==j&&xu l vs
 |_,_=>false
def Qn(K:Rl)(x:Str)(st:Stmt):Prop:=∃(f:Addr)(oc:Value)(od an:Option Addr)(osl:Array (Option Value))(kV doc pm cdv ct:Value),SV K ZU x=zS (zS (.ref f))/\K.lookup f=zS ⟨oc,od,.func (S3 x x (jq st) (gf st) (bm st) .none kV doc pm an cdv ct),osl⟩/\T_ K cdv x=true/\S4 K (.ref f)=true
variable{f:Addr}{osl:Array (Option Value)}{an od:Option Addr}{x:Str}{cdv ct doc oc pm:Value}
def Rf{K:Rl}{st:Stmt}{kV:Value}(a:SV K ZU x=zS (zS (.ref f)))(l:K.lookup f=zS ⟨oc,od,.func (S3 x x (jq st) (gf st) (bm st) .none kV doc pm an cdv ct),osl⟩)(c:T_ K cdv x=true)(k:S4 K (.ref f)=true):Qn K x st:=⟨f,oc,od,an,osl,kV,doc,pm,cdv,ct,a,l,c,k⟩
def P_(K:Rl)(x qual:Str)(st:Stmt)(C:Addr):Prop:=∃(f:Addr)(oc:Value)(od an:Option Addr)(osl:Array (Option Value))(kV doc pm cdv ct:Value),SV K ZU x=zS (zS (.ref C))/\SW K (.ref C) "__init__"=zS (zS (.ref f))/\Wv K (.ref f)=true/\K.lookup f=zS ⟨oc,od,.func (S3 "__init__" qual (jq st) (gf st) (bm st) .none kV doc pm an cdv ct),osl⟩/\T_ K cdv qual=true/\S4 K (.ref f)=true/\U5 K C Ww=true/\U6 K C=true/\Vx K C=true/\SW K (.ref C) "__setattr__"=zS (zS (.builtin "object.__setattr__"))/\Vy K C=true/\S4 K (.ref C)=true
variable{C:Addr}
def OJ{K:Rl}{qual:Str}{st:Stmt}{kV:Value}(ns:SV K ZU x=zS (zS (.ref C)))(a:SW K (.ref C) "__init__"=zS (zS (.ref f)))(i:Wv K (.ref f)=true)(l:K.lookup f=zS ⟨oc,od,.func (S3 "__init__" qual (jq st) (gf st) (bm st) .none kV doc pm an cdv ct),osl⟩)(c:T_ K cdv qual=true)(k:S4 K (.ref f)=true)(pg:U5 K C Ww=true)(hd:U6 K C=true)(po:Vx K C=true)(sa:SW K (.ref C) "__setattr__"=zS (zS (.builtin "object.__setattr__")))(mk:Vy K C=true)(kc:S4 K (.ref C)=true):P_ K x qual st C:=
 ⟨f,oc,od,an,osl,kV,doc,pm,cdv,ct,ns,a,i,l,c,k,pg,hd,po,sa,mk,kc⟩
def Qo(K:Rl)(x:Str)(i:Int):Prop:=∃t,SV K ZU x=zS (zS (.int i t))
def Rg{K:Rl}{i:Int}{t:Nat}(e:SV K ZU x=zS (zS (.int i t))):Qo K x i:=⟨t,e⟩
def Qp(K:Rl)(x:Str)(a:Addr)(l:List Int):Prop:=∃(d:Option Addr)(aR:Array Value)(n:Nat)(sl:Array (Option Value)),SV K ZU x=zS (zS (.ref a))/\K.lookup a=zS ⟨.type "tuple",d,.seq aR n,sl⟩/\aR.size<=100/\xu l aR.toList=true
def Qq{K:Rl}{l:List Int}{a:Addr}{d:Option Addr}{aR:Array Value}{n:Nat}{sl:Array (Option Value)}(e:SV K ZU x=zS (zS (.ref a)))(k:K.lookup a=zS ⟨.type "tuple",d,.seq aR n,sl⟩)(z:aR.size<=100)(v:xu l aR.toList=true):Qp K x a l:=⟨d,aR,n,sl,e,k,z,v⟩
def Qr(K:Rl)(x:Str):Prop:=SV K ZU x=zS zN
def Rh{K:Rl}(e:SV K ZU x=zS zN):Qr K x:=e
def Qs(K:Rl)(C:Addr)(f:Str):Prop:=SW K (.ref C) f=zS zN
def Qt{K:Rl}{f:Str}(e:SW K (.ref C) f=zS zN):Qs K C f:=e
structure Ng(I:Str->Int->Prop)(U:Str->Addr->List Int->Prop)(Z:Str->Prop)(HP HW HR:Addr):Prop where
 Ay:I "LAST_NAME" 31
 oQ:I "LEAST_VALUE" (-1000000000000)
 kF:I "GREATEST_VALUE" 1000000000000
 gj:I "VALUE_formulas" 0
 Jl:I "NAME" 1
 OK:I "PLUS" 2
 OL:I "LESS" 3
 MJ:I "TIMES" 4
 Gn:I "DIVIDED" 5
 vM:I "GREATER_ONE" 6
 xw:I "LESSER_ONE" 7
 Go:I "IS_LESS" 8
 ET:I "EITHER" 10
 cQ:U "HOW_MANY_PARTS" HP [0,0,2,2,2,2,2,2,2,2,3]
 tM:I "MOST_NUMBERS" 60
 jx:I "ALL_IS_WELL" 0
 lR:I "OUTSIDE_NAMES" (-1)
 rB:I "THERE_ALREADY" (-2)
 xx:I "TOO_MANY" (-3)
 kG:I "OUTSIDE_VALUES" (-4)
 jR:I "NOT_SUCH_A_LIST" (-5)
 gI:I "NOT_OF_THE_INPUT" (-6)
 e9:I "NO_SUCH_INPUT" (-7)
 j8:I "NO_SUCH_CELL" (-8)
 d_:I "NO_SUCH_TEST" (-9)
 rC:I "NOT_A_FORMULA" (-10)
 tN:I "MAY_NOT_READ" (-11)
 Gp:I "IS_READ" (-12)
 kH:I "NO_SUCH_PRESET" (-13)
 oh:I "NOT_A_DIRECTION" (-14)
 oR:I "THE_SAME_TWICE" (-15)
 lA:I "TOO_MANY_SETTINGS" (-16)
 mv:I "OUTSIDE_VERDICTS" (-17)
 Az:I "NONE_NEAR" (-18)
 xy:I "TOO_LONG" (-19)
 kI:I "DIVIDED_BY_NOTHING" 1
 tO:I "OUT_OF_RANGE" 2
 Gq:I "FAILS" 0
 EU:I "PASSES" 1
 mX:I "IS_REFUSED" 2
 mY:I "MOST_INLINED" 200
 oj:I "NONE_REMEMBERED" 3
 oS:I "MOST_INPUTS" 8
 rY:I "MOST_STOPS" 64
 xz:I "MOST_CELLS" 12
 xA:I "MOST_TESTS" 8
 vN:I "LAST_PRESET" 9
 rD:I "MOST_SETTINGS" 1024
 xB:I "MOST_STEPS" 4
 Jm:I "SLIDER" 0
 Jn:I "CHOICE" 1
 OM:I "CELL" 2
 Jo:I "CHANGE" 3
 ON:I "TEST" 4
 OO:I "DROP" 5
 AA:I "DROP_TEST" 6
 OP:I "TURN" 7
 Q6:I "SET" 8
 OQ:I "KEEP" 9
 EV:I "RECALL" 10
 oT:I "VALUE_notebook" 11
 Gr:I "VERDICT" 12
 C9:I "VERDICTS" 13
 MK:I "RESTS" 14
 xC:I "TEST_RESTS" 15
 INPUTS:I "INPUTS" 16
 Jp:I "SWEEP" 17
 OR:I "EDGE" 18
 OS:I "GRID" 19
 Gs:I "NEAREST" 20
 Jq:I "INLINE" 21
 MARK:I "MARK" 22
 dW:U "HOW_MANY_WHOLES" HW [5,2,1,1,1,1,1,2,2,1,1,1,1,0,1,1,0,2,3,3,2,1,0,0]
 e_:U "HOW_MANY_ROWS" HR [0,1,1,1,1,0,0,0,0,0,0,0,0,0,0,0,0,0,0,0,0,0,0,0]
 len:Z "len"
 max:Z "max"
 min:Z "min"
 abs:Z "abs"
 range:Z "range"
 list:Z "list"
 set:Z "set"
 dict:Z "dict"
 tuple:Z "tuple"
 zip:Z "zip"
 enumerate:Z "enumerate"
 reversed:Z "reversed"
structure AllP(C:Str->Str->Stmt->Addr->Prop)(CF CD CN CC CT:Addr):Prop where
 Formula:C "Formula" "Formula.__init__" Hg CF
 Ni:C "Dial" "Dial.__init__" Nf CD
 xD:C "Notebook" "Notebook.__init__" EQ CN
 EW:C "Column" "Column.__init__" Jk CC
 Jr:C "Trial" "Trial.__init__" Ln CT
structure Qu(N:Addr->Str->Prop)(CF CD CN CC CT:Addr):Prop where
 tP:N CF "pieces"
 BC:N CF "tree"
 wN:N CF "names"
 wO:N CD "stops"
 mZ:N CD "place"
 tQ:N CN "inputs"
 wP:N CN "cells"
 wQ:N CN "tests"
 qz:N CN "presets"
 iC:N CN "remembered"
 jr:N CN "near_trials"
 qA:N CC "numbers"
 Gu:N CC "low"
 BD:N CC "high"
 m5:N CC "refusals"
 wR:N CT "names"
 m6:N CT "settings"
 qB:N CT "columns"
def Raw(K:Rl):Prop:=∃CF CD CN CC CT HP HW HR,AllP (P_ K) CF CD CN CC CT/\Ng (Qo K) (Qp K) (Qr K) HP HW HR/\Qu (Qs K) CF CD CN CC CT
def OT{K:Rl}{CF CD CN CC CT HP HW HR:Addr}(a:AllP (P_ K) CF CD CN CC CT)(t:Ng (Qo K) (Qp K) (Qr K) HP HW HR)(n:Qu (Qs K) CF CD CN CC CT):Raw K:=⟨CF,CD,CN,CC,CT,HP,HW,HR,a,t,n⟩
end Nb
section
open PySem PySem.W PySem.Calls PyProof.Rows
def Nh.q0(q:Program):Program:={q with main:={q.main with body:=[]}}
def Nh.nm:Stmt->Option Str
 | .FunctionDef n .. =>some n
 | .ClassDef n .. =>some n
 | .Assign [.Name n _] .. =>some n
 | .AnnAssign (.Name n _) .. =>some n
 |_=>none
def Nh.PySem.W.holds_os{r:OpenSpec}{q:Program}{loose:List Str}{Xt:Shared->Bool}{XP:(Str->Option Value)->Heap->Prop}{α:Type}{Yf:Shared->α}{Ya:World->α}{YP:World->Heap->Prop}{d:DefRec}{kwd:List (Str×Expr)}{N:Nat}(left:LeftO r.prog (Nh.q0 q) (loose++q.main.body.filterMap Nh.nm) (λ_=>true) (λs=>(((seen ((recsOf q).map (·.name)) (ownsOf q) [] {s with gens:= #[]},s.heap.bltView),((s.heap.keysOk (looseW q loose) ((recsOf q).map (·.name)) ((litsOf q).map (·.1)) ((clssOf q (looseW q loose)).map (·.name)),tablesOk q s.heap),(s.heap.accountedOkI (importedModules r.prog.main.body),s.heap.isNs mainGlobals),s.heap.isNs builtinsNs,Xt s,s.gens.size==0)),((tabsOk q s,pinSeenD q (drecsOf q) s),(plainSeenE q (looseW q loose) s,plainSeenD q loose s),wideSeen q s,clsSeenW q loose s),Yf s)) (λw=>(((expectedOf q,bltViewBooted),(true,true),(true,true),true,true,true),((true,pinGoodD (drecsOf q)),(plainGoodE q (looseW q loose),plainGoodD q loose),wideGood q,clsGoodW q loose),Ya w)) N):=
 @_root_.PySem.W.holds_os r q loose Xt XP α Yf Ya YP d kwd N λw=>by
 obtain⟨s,e,f⟩:=Option.map_eq_some_iff.mp (left w);have f:=(Prod.mk.inj f).2;simp only[Prod.mk.injEq]at f;obtain⟨⟨⟨a1,a2⟩,⟨a3,a4⟩,⟨a5,a6⟩,a7,a8,a9⟩,⟨⟨b1,b2⟩,⟨b3,b4⟩,b5,b6⟩,c⟩:=f;rw[e];refine congrArg some (Prod.ext ?_ c);unfold openSeen openGood;dsimp only;rw[a1,a2,a3,a4,a5,a6,a7,a8,b1,b2,b3,b4,b5,b6,ag rfl,a9];rfl
theorem Nh.ws:PySem.Challenge.rw_notebooktests_s01_answers.wellSaid=true:=by decide+kernel
theorem Nh.Qv{q:Program}{loose:List Str}{XP:(Str->Option Value)->Heap->Prop}{YP:World->Heap->Prop}{d:DefRec}{kwd:List (Str×Expr)}{r:OpenSpec}{run:Value->List Value->Sem Value}(main:WalkOS q loose XP YP r d kwd run->r.Holds)(hc:WalkOS q loose XP YP r d kwd run):r.Holds:=main hc
set_option maxHeartbeats 0 in theorem Nh.Qw (W:∀{q:Program}{loose:List Str}{XP:(Str->Option Value)->Heap->Prop}{YP:World->Heap->Prop}{d:DefRec}{K:Params->Frag},d.params.defaults=[]->d.name="answers"->(∀w h,YP w h->(K w.params).In h)->(∀P,∀r∈Nb.R,Nb.Qn (K P) r.1 r.2)->(∀P,Nb.Raw (K P))->WalkOS q loose XP YP PySem.Challenge.rw_notebooktests_s01_answers d [] (λf vs=>PySem.call f vs)):PySem.Challenge.rw_notebooktests_s01_answers.Holds:=by
 apply Nh.Qv
 case main=>
  intro _;have _:=Nh.ws
  w_on;k_headS;(case hw=>exact⟨[.list [.int 23]],by decide+kernel,by decide+kernel⟩)
 case hc=>
  k_fillS
  refine W rfl rfl (λ_ _ Y=>Y) (λP=>?_) (λP=>?_)
  .unfold Nb.R
   repeat' first|refine List.forall_mem_cons.mpr ⟨?_,?_⟩|exact λ_ h=>absurd h List.not_mem_nil
   all_goals(dsimp only;as_aux_lemma=>(refine' Nb.Rf _ _ _ _;any_goals k_is))
  .refine' Nb.OT (Nb.AllP.mk (Nb.OJ _ _ _ _ _ _ _ _ _ _ _ _) (Nb.OJ _ _ _ _ _ _ _ _ _ _ _ _) (Nb.OJ _ _ _ _ _ _ _ _ _ _ _ _) (Nb.OJ _ _ _ _ _ _ _ _ _ _ _ _) (Nb.OJ _ _ _ _ _ _ _ _ _ _ _ _)) (Nb.Ng.mk _ _ _ _ _ _ _ _ _ _ _ _ _ (Nb.Qq _ _ _ _) _ _ _ _ _ _ _ _ _ _ _ _ _ _ _ _ _ _ _ _ _ _ _ _ _ _ _ _ _ _ _ _ _ _ _ _ _ _ _ _ _ _ _ _ _ _ _ _ _ _ _ _ _ _ _ _ _ _ (Nb.Qq _ _ _ _) (Nb.Qq _ _ _ _) _ _ _ _ _ _ _ _ _ _ _ _) (Nb.Qu.mk _ _ _ _ _ _ _ _ _ _ _ _ _ _ _ _ _ _)
   any_goals first|k_is|decide+kernel|as_aux_lemma=>(refine' Nb.Rg _;any_goals k_is)|as_aux_lemma=>(refine Nb.Rh ?_;k_is)|as_aux_lemma=>(refine Nb.Qt ?_;k_is)
end
section
open Lean Parser.Tactic in
local macro_rules
|`(tactic|exact ⟨$ps,*⟩)=>do if ps.getElems.size<4 then Macro.throwUnsupported else `(tactic|refine ⟨$ps,*⟩)
|`(tactic|refine ⟨$ps,*⟩)=>do
 let p:=ps.getElems
 let k:=p.size
 if k<4 then Macro.throwUnsupported
 let mut c:=#[]
 for j in [1:k-1] do
  let n:=k-j
  if n>14 then continue
  let mut g ← `(_)
  for _ in [0:n] do g ← `(∃ _,$g)
  let r ← if j==1 then pure p[n]! else `(⟨$(p.extract n k),*⟩)
  c:=c.push (← `(tactic|(refine (?_:$g);refine $(mkIdent (.str `Zz s!"i{n}")) $(p.extract 0 n)* $r)))
 `(tactic|first $[|$c:tactic]*)
|`(tactic|rw[$rs,*])=>do
 if (mkNullNode rs.elemsAndSeps).find? (·.isOfKind `Lean.Parser.Term.syntheticHole)|>.isSome then Macro.throwUnsupported
 let mut c:=#[]
 for r in rs.getElems do
  c:=c.push (← match r with
   |`(Parser.Tactic.rwRule|$t:term)=>`(tactic|first|refine Zz.s $t ?_|rewrite[$t:term])
   |`(Parser.Tactic.rwRule|← $t:term)=>`(tactic|first|refine Zz.t $t ?_|rewrite[← $t:term])
   |_=>Macro.throwUnsupported)
 `(tactic|($[$c:tactic];*;try with_reducible rfl))
|`(tactic|obtain ⟨$ps,*⟩:=$e:term)=>do
 let ps:=ps.getElems
 let k:=ps.size
 if k<3||k>28 then Macro.throwUnsupported
 let mut xs:Array (TSyntax `term):=#[]
 let mut po:=#[]
 for p in ps do
  let z:=mkIdent (.mkSimple s!"zz{xs.size}")
  match p with
  |`(Parser.Tactic.rcasesPatLo| $q:rcasesPatMed)=>match q with
   |`(Parser.Tactic.rcasesPatMed| $x:ident)=>
    if x.getId== `rfl then
     xs:=xs.push z;po:=po.push (← `(tactic|obtain $q:rcasesPatMed:=$z:ident))
    else if x.getId==e.raw.getId then
     xs:=xs.push z;po:=po.push (← `(tactic|(have $x := $z;clear $z)))
    else xs:=xs.push x
   |`(Parser.Tactic.rcasesPatMed|_)=>xs:=xs.push (← `(_))
   |_=>xs:=xs.push z;po:=po.push (← `(tactic|obtain $q:rcasesPatMed:=$z:ident))
  |_=>Macro.throwUnsupported
 let mut al:=#[]
 for j in [0:k] do
  let n:=k-1-j
  let m:=j+1
  if n>14||m>14 then continue
  let x:=xs.extract 0 n
  let a:=xs.extract n k
  let E:=mkIdent (.str `Zz s!"e{n}")
  let A:=mkIdent (.str `Zz s!"a{m}")
  al:=al.push (← if j==0 then `(tactic|refine $E $e λ$x* $(a[0]!)=>?_) else if n==0 then `(tactic|refine $A $e λ$a*=>?_) else `(tactic|(refine $E $e λ$x* h=>?_;refine $A h λ$a*=>?_;clear h)))
 let f ← `(tactic|first $[|$al:tactic]*)
 let y ← if e.raw.isIdent then `(tactic|try clear $(⟨e.raw⟩):ident) else `(tactic|skip)
 `(tactic|($f:tactic;$y:tactic;$[$po:tactic];*))
|`(tactic|let ⟨$ps,*⟩:=$e:term)=>do
 let mut c:=#[]
 let mut o:=#[]
 for p in ps.getElems do
  let z:=mkIdent (.mkSimple s!"zy{c.size}")
  let q:Ident ← match p with
   |`($x:ident)=>pure x
   |`(_)=>pure (mkIdent `zq)
   |_=>do
    o:=o.push (← `(tactic|let $p:term := $z))
    pure z
  c:=c.push (← if q.getId== `zq then `(Parser.Tactic.rcasesPatLo|_) else `(Parser.Tactic.rcasesPatLo|$q:ident))
 `(tactic|(obtain ⟨$c,*⟩:=$e;$[$o:tactic];*))
|`(fun $xs* =>$b)=>do
 match xs.back! with
 |`(⟨$ps,*⟩)=>
  let p:=ps.getElems
  if p.size<5||!p[1]!.raw.getId.toString.startsWith "H"||!p[2]!.raw.getId.toString.startsWith "I" then Macro.throwUnsupported
  let r ← if p.size==5 then pure p[4]! else `(⟨$(p.extract 4 p.size),*⟩)
  let g ← `(Zz.m z fun $(p.extract 0 4)* $r=>$b)
  let y:=xs.pop
  `(fun $y* z=>$g)
 |_=>Macro.throwUnsupported
|`(tactic|rintro $ps*)=>do
 let mut c:=#[]
 for p in ps do
  match p with
  |`(rintroPat|$q:rcasesPat)=>
   let z:=mkIdent (.mkSimple s!"zr{c.size}")
   let d ← `(tactic|(intro $z:ident;obtain $(← `(Parser.Tactic.rcasesPatMed|$q:rcasesPat)):rcasesPatMed:=$z:ident))
   c:=c.push (← match q with
    |`(rcasesPat|$x:ident)=>if x.getId== `rfl then pure d else `(tactic|intro $x:ident)
    |`(rcasesPat|_)=>`(tactic|intro _)
    |_=>pure d)
  |_=>Macro.throwUnsupported
 `(tactic|($[$c:tactic];*))
section
local macro_rules|`(tactic|omega)=>`(tactic|first|lia|omega)
namespace ak
open Vanbkj
def wS:Formula->Prop
 | .const v=>inRange v=true
 | .name x=>x<=31
 | .two _ f g=>wS f/\wS g
 | .cond c f g=>wS c/\wS f/\wS g
def vO(o:Op):opOf (opNumber o)=zS o:=by cases o<;>rfl
variable{n:Int}
def uQ{o:Op}(h:opOf n=zS o):n=opNumber o:=by
 unfold opOf at h
 repeat' split at h
 all_goals first|(cases h;assumption)|cases h
def i8(o:Op):2<=opNumber o/\opNumber o<=9:=by cases o<;>decide
theorem Lo(h1:2<=n)(h2:n<=9):∃o,opOf n=zS o:=by
 have:n=2\/n=3\/n=4\/n=5\/n=6\/n=7\/n=8\/n=9:=by omega
 obtain h|h|h|h|h|h|h|h:=this<;>subst h
 .exact⟨.add,rfl⟩
 .exact⟨.sub,rfl⟩
 .exact⟨.mul,rfl⟩
 .exact⟨.div,rfl⟩
 .exact⟨.most,rfl⟩
 .exact⟨.least,rfl⟩
 .exact⟨.less,rfl⟩
 .exact⟨.equal,rfl⟩
theorem i9:∀(f:Formula)(k:Nat)(r:List Int),wS f->(flat f).length<=k->readF k (flat f++r)=zS (f,r)
 | .const v,k,r,ho,hk=>by obtain⟨k,rfl⟩:∃j,k=j+1:=⟨k-1,by simp[flat]at hk;omega⟩;have hv:inRange v=true:=ho;simp[flat,readF,hv]
 | .name x,k,r,ho,hk=>by
  obtain⟨k,rfl⟩:∃j,k=j+1:=⟨k-1,by simp[flat]at hk;omega⟩;have hx:x<=31:=ho;have h1:(0:Int)<=x/\(x:Int)<=31:=by omega
  simp[flat,readF,h1,hx]
 | .two o f g,k,r,ho,hk=>by
  obtain⟨k,rfl⟩:∃j,k=j+1:=⟨k-1,by simp[flat]at hk;omega⟩;simp only[flat,Rx,RG,RH]at hk;have hb:=i8 o;have e1:¬opNumber o=0:=by omega
  have e2:¬opNumber o=1:=by omega
  have e3:¬opNumber o=10:=by omega
  have a1:=i9 f k (flat g++r) ho.1 (by omega);have a2:=i9 g k r ho.2 (by omega);simp[flat,readF,e1,e2,e3,vO,Sk,a1,a2]
 | .cond c f g,k,r,ho,hk=>by obtain⟨k,rfl⟩:∃j,k=j+1:=⟨k-1,by simp[flat]at hk;omega⟩;simp only[flat,Rx,RG,RH]at hk;have a0:=i9 c k (flat f++(flat g++r)) ho.1 (by omega);have a1:=i9 f k (flat g++r) ho.2.1 (by omega);have a2:=i9 g k r ho.2.2 (by omega);simp[flat,readF,Sk,a0,a1,a2]
theorem kh:∀(k:Nat)(l:List Int)(f:Formula)(r:List Int),readF k l=zS (f,r)->l=flat f++r/\wS f
 |0,l,f,r,h=>by simp[readF]at h
 |k+1,[],f,r,h=>by simp[readF]at h
 |k+1,n::t,f,r,h=>by
  unfold readF at h;by_cases e0:n=0
  .rw[ag e0]at h
   cases t with
   |nil=>cases h
   |cons v t=>
    by_cases hv:inRange v=true
    .simp[hv]at h;let⟨rfl,rfl⟩:=h;exact⟨by rw[e0];rfl,hv⟩
    .simp[hv]at h
  .rw[ae e0]at h;by_cases e1:n=1
   .rw[ag e1]at h
    cases t with
    |nil=>cases h
    |cons x t=>
     by_cases hx:0<=x/\x<=31
     .simp[hx]at h;let⟨rfl,rfl⟩:=h;refine⟨?_,?_⟩
      .have:((x.toNat:Nat):Int)=x:=by omega
       simp[flat,this,e1]
      .show x.toNat<=31;omega
     .dsimp only at h;rw[ae hx]at h;cases h
   .rw[ae e1]at h;by_cases e10:n=10
    .rw[ag e10]at h
     cases ea:readF k t with
     |none=>rw[ea]at h;cases h
     |some a=>
      rw[ea]at h;simp only[SX]at h
      cases eb:readF k a.2 with
      |none=>rw[eb]at h;cases h
      |some b=>
       rw[eb]at h;simp only[SX]at h
       cases ec:readF k b.2 with
       |none=>rw[ec]at h;cases h
       |some c=>
        rw[ec]at h;simp only[SN,RU,U7]at h;let⟨rfl,rfl⟩:=h;let⟨a1,a2⟩:=kh k _ _ _ ea;let⟨b1,b2⟩:=kh k _ _ _ eb;let⟨c1,c2⟩:=kh k _ _ _ ec;refine⟨?_,a2,b2,c2⟩;rw[a1,b1,c1,e10];simp[flat,Sk]
    .rw[ae e10]at h
     cases eo:opOf n with
     |none=>rw[eo]at h;cases h
     |some o=>
      rw[eo]at h;simp only[SX]at h
      cases ea:readF k t with
      |none=>rw[ea]at h;cases h
      |some a=>
       rw[ea]at h;simp only[SX]at h
       cases eb:readF k a.2 with
       |none=>rw[eb]at h;cases h
       |some b=>
        rw[eb]at h;simp only[SN,RU,U7]at h;let⟨rfl,rfl⟩:=h;let⟨a1,a2⟩:=kh k _ _ _ ea;let⟨b1,b2⟩:=kh k _ _ _ eb;refine⟨?_,a2,b2⟩;rw[a1,b1,uQ eo];simp[flat,Sk]
variable{f:Formula}{l:List Int}
theorem kJ:formulaOf l=zS f<->l.length<=60/\l=flat f/\wS f:=by
 unfold formulaOf LONG;by_cases hl:60<l.length
 .rw[ag hl];constructor
  .intro h;cases h
  .intro h;omega
 .rw[ae hl];constructor
  .intro h
   cases e:readF (l.length+1) l with
   |none=>rw[e]at h;cases h
   |some x=>
    rw[e]at h;simp only[SX]at h;let⟨a,b⟩:=x
    cases b with
    |nil=>
     simp at h;subst h;let⟨h1,h2⟩:=kh _ _ _ _ e;rw[RB]at h1;exact⟨by omega,h1,h2⟩
    |cons y t=>simp at h
  .rintro⟨_,h2,h3⟩;have:=i9 f (l.length+1) [] h3 (by rw[<-h2];omega);rw[RB,<-h2]at this;rw[this];rfl
def xE(h:60<l.length):formulaOf l=zN:=by unfold formulaOf LONG;rw[ag h]
abbrev Piece:=Int×Int
def pieces:Formula->List Piece
 | .const v=>[(0,v)]
 | .name x=>[(1,(x:Int))]
 | .two o f g=>(opNumber o,0)::(pieces f++pieces g)
 | .cond c f g=>(10,0)::(pieces c++(pieces f++pieces g))
def parts(n:Int):Nat:=if n=0 then 0 else if n=1 then 0 else if n=10 then 3 else 2
def pieceAt:List Int->Option (Piece×List Int)
 |[]=>zN
 |n::r=>
  if n=0 then(match r with
   |v::t=>if inRange v=true then zS ((0,v),t)else zN
   |[]=>zN)
  else if n=1 then(match r with
   |x::t=>if 0<=x/\x<=31 then zS ((1,x),t)else zN
   |[]=>zN)
  else if 2<=n/\n<=10 then zS ((n,0),r)
  else zN
def bv(m:Nat)(l:List Int)(ps:List Piece):Prop:=
 ∃fs:List Formula,fs.length=m/\(∀f∈fs,wS f)/\l=fs.flatMap flat/\ps=fs.flatMap pieces
variable{ps:List Piece}
def bv.zero:bv 0 l ps<->l=[]/\ps=[]:=by
 constructor
 .rintro⟨fs,h,_,h2,h3⟩
  cases fs with
  |nil=>exact⟨h2,h3⟩
  |cons a r=>simp at h
 .rintro⟨rfl,rfl⟩;exact⟨[],rfl,by simp,rfl,rfl⟩
def bv.one:bv 1 l ps<->∃f,wS f/\l=flat f/\ps=pieces f:=by
 constructor
 .rintro⟨fs,h,h1,h2,h3⟩
  match fs,h with
  |[f],_=>exact⟨f,h1 f (by simp),by simpa using h2,by simpa using h3⟩
 .rintro⟨f,h1,h2,h3⟩;exact⟨[f],rfl,by simpa using h1,by simpa using h2,by simpa using h3⟩
variable{m:Nat}
def bv.cons(ho:wS f)(h:bv m l ps):bv (m+1) (flat f++l) (pieces f++ps):=by
 let⟨fs,h1,h2,h3,h4⟩:=h;refine⟨f::fs,by simp[h1],?_,by simp[h3],by simp[h4]⟩;intro g hg;obtain e|e:=Rn.mp hg
 .rw[e];exact ho
 .exact h2 g e
def bv.inv(h:bv (m+1) l ps):∃f l' ps',wS f/\l=flat f++l'/\ps=pieces f++ps'/\bv m l' ps':=by
 let⟨fs,h1,h2,h3,h4⟩:=h
 cases fs with
 |nil=>simp at h1
 |cons f fs=>
  refine⟨f,fs.flatMap flat,fs.flatMap pieces,h2 f (by simp),by simpa using h3,by simpa using h4,fs,by simpa using h1,λg hg=>h2 g (by simp[hg]),rfl,rfl⟩
theorem tR(f:Formula)(ho:wS f)(r:List Int):∃p t qs,pieceAt (flat f++r)=zS (p,t++r)/\pieces f=p::qs/\((parts p.1=0/\t=[]/\qs=[])\/(parts p.1=2/\∃a b,wS a/\wS b/\t=flat a++flat b/\qs=pieces a++pieces b)\/(parts p.1=3/\∃c a b,wS c/\wS a/\wS b/\t=flat c++(flat a++flat b)/\qs=pieces c++(pieces a++pieces b))):=by
 cases f with
 |const v=>
  refine⟨(0,v),[],[],?_,rfl,.inl ⟨rfl,rfl,rfl⟩⟩;have hv:inRange v=true:=ho;simp[flat,pieceAt,hv]
 |name x=>
  refine⟨(1,x),[],[],?_,rfl,.inl ⟨rfl,rfl,rfl⟩⟩;have hx:x<=31:=ho;have h1:(0:Int)<=x/\(x:Int)<=31:=by omega
  simp[flat,pieceAt,h1,hx]
 |two o a b=>
  have hb:=i8 o;have e1:¬opNumber o=0:=by omega
  have e2:¬opNumber o=1:=by omega
  have e3:¬opNumber o=10:=by omega
  refine⟨(opNumber o,0),flat a++flat b,pieces a++pieces b,?_,rfl,.inr (.inl ⟨?_,a,b,ho.1,ho.2,rfl,rfl⟩)⟩
  .have h3:2<=opNumber o/\opNumber o<=10:=by omega
   simp[flat,pieceAt,e1,e2,h3]
  .simp[parts,e1,e2,e3]
 |cond c a b=>
  exact⟨(10,0),flat c++(flat a++flat b),pieces c++(pieces a++pieces b),by simp[flat,pieceAt],rfl,.inr (.inr ⟨rfl,c,a,b,ho.1,ho.2.1,ho.2.2,rfl,rfl⟩)⟩
variable{t:List Int}{p:Piece}
theorem bv.step(h:pieceAt l=zS (p,t)):bv (m+1) l ps<->∃qs,ps=p::qs/\bv (m+parts p.1) t qs:=by
 constructor
 .intro hf;let⟨f,l',ps',ho,rfl,rfl,h2⟩:=hf.inv;let⟨p',t',qs,e1,e2,e3⟩:=tR f ho l';rw[e1]at h;let⟨rfl,rfl⟩:=Vz (RA h);refine⟨qs++ps',by rw[e2];rfl,?_⟩;obtain⟨a1,rfl,rfl⟩|⟨a1,a,b,oa,ob,rfl,rfl⟩|⟨a1,c,a,b,oc,oa,ob,rfl,rfl⟩:=e3
  .rw[a1];exact h2
  .rw[a1];have:=bv.cons oa (bv.cons ob h2);simpa [Sk]using this
  .rw[a1];have:=bv.cons oc (bv.cons oa (bv.cons ob h2));simpa [Sk]using this
 .rintro⟨qs,rfl,h2⟩
  cases l with
  |nil=>simp[pieceAt]at h
  |cons n r=>
   unfold pieceAt at h;dsimp only at h;by_cases e0:n=0
   .rw[ag e0]at h
    cases r with
    |nil=>cases h
    |cons v r=>
     by_cases hv:inRange v=true
     .simp[hv]at h;let⟨rfl,rfl⟩:=h;have:=bv.cons (f:=.const v) hv (show bv m r qs from h2);rw[e0];exact this
     .simp[hv]at h
   .rw[ae e0]at h;by_cases e1:n=1
    .rw[ag e1]at h
     cases r with
     |nil=>cases h
     |cons x r=>
      by_cases hx:0<=x/\x<=31
      .simp[hx]at h;let⟨rfl,rfl⟩:=h;have ho:wS (.name x.toNat):=by show x.toNat<=31;omega
       have:=bv.cons ho (show bv m r qs from h2);have ex:((x.toNat:Nat):Int)=x:=by omega
       simp only[flat,pieces,ex]at this;rw[e1];exact this
      .dsimp only at h;rw[ae hx]at h;cases h
    .rw[ae e1]at h;by_cases hn:2<=n/\n<=10
     .rw[ag hn]at h;let⟨rfl,rfl⟩:=Vz (RA h);by_cases e10:n=10
      .subst e10;let⟨c,l1,p1,oc,rfl,rfl,g1⟩:=bv.inv (m:=m+2) h2;let⟨a,l2,p2,oa,rfl,rfl,g2⟩:=bv.inv (m:=m+1) g1;let⟨b,l3,p3,ob,rfl,rfl,g3⟩:=bv.inv (m:=m) g2;have:=bv.cons (f:=.cond c a b) ⟨oc,oa,ob⟩ g3;simpa [flat,pieces,Sk]using this
      .let⟨o,ho⟩:=Lo hn.1 (by omega);have en:=uQ ho;have hp:parts n=2:=by simp[parts,e0,e1,e10]
       rw[hp]at h2;let⟨a,l2,p2,oa,rfl,rfl,g2⟩:=bv.inv (m:=m+1) h2;let⟨b,l3,p3,ob,rfl,rfl,g3⟩:=bv.inv (m:=m) g2;have:=bv.cons (f:=.two o a b) ⟨oa,ob⟩ g3;rw[en];simpa [flat,pieces,Sk]using this
     .rw[ae hn]at h;cases h
def bv.stuck(h:pieceAt l=zN):¬bv (m+1) l ps:=by intro hf;let⟨f,l',ps',ho,rfl,rfl,h2⟩:=hf.inv;let⟨p',t',qs,e1,_⟩:=tR f ho l';rw[e1]at h;cases h
def C_(h:pieceAt l=zS (p,t)):l.length=t.length+(if p.1=0\/p.1=1 then 2 else 1):=by
 cases l with
 |nil=>simp[pieceAt]at h
 |cons n r=>
  unfold pieceAt at h;dsimp only at h;by_cases e0:n=0
  .rw[ag e0]at h
   cases r with
   |nil=>cases h
   |cons v r=>
    by_cases hv:inRange v=true
    .simp[hv]at h;let⟨rfl,rfl⟩:=h;simp
    .simp[hv]at h
  .rw[ae e0]at h;by_cases e1:n=1
   .rw[ag e1]at h
    cases r with
    |nil=>cases h
    |cons x r=>
     by_cases hx:0<=x/\x<=31
     .simp[hx]at h;let⟨rfl,rfl⟩:=h;simp
     .dsimp only at h;rw[ae hx]at h;cases h
   .rw[ae e1]at h;by_cases hn:2<=n/\n<=10
    .rw[ag hn]at h;let⟨rfl,rfl⟩:=Vz (RA h);simp[e0,e1]
    .rw[ae hn]at h;cases h
def qT(hl:l.length<=60)(h:bv 1 l ps):∃f,formulaOf l=zS f/\ps=pieces f/\l=flat f/\wS f:=by let⟨f,h1,h2,h3⟩:=bv.one.mp h;exact⟨f,kJ.mpr ⟨hl,h2,h1⟩,h3,h2,h1⟩
def j5(h:∀ps,¬bv 1 l ps):formulaOf l=zN:=by
 cases e:formulaOf l with
 |none=>rfl
 |some f=>
  let⟨_,h2,h3⟩:=kJ.mp e;exact absurd (bv.one.mpr ⟨f,h3,h2,rfl⟩) (h _)
def push(p:Piece)(st:List Formula):Option (List Formula):=
 if p.1=0 then zS (.const p.2::st)
 else if p.1=1 then zS (.name p.2.toNat::st)
 else if p.1=10 then(match st with
  |a::b::c::r=>zS (.cond a b c::r)
  |_=>zN)
 else(match opOf p.1,st with
  |some o,a::b::r=>zS (.two o a b::r)
  |_,_=>zN)
def build(ps:List Piece):Option (List Formula):=ps.foldr (λp st=>st.bind (push p)) (zS [])
def build_cons(p:Piece)(ps:List Piece):build (p::ps)=(build ps).bind (push p):=rfl
theorem gJ:∀(f:Formula)(ps:List Piece)(st:List Formula),build ps=zS st->build (pieces f++ps)=zS (f::st)
 | .const v,ps,st,h=>by show build ((0,v)::ps)=_;rw[build_cons,h];rfl
 | .name x,ps,st,h=>by show build ((1,(x:Int))::ps)=_;rw[build_cons,h];simp[push]
 | .two o f g,ps,st,h=>by
  have hb:=i8 o;have e1:¬opNumber o=0:=by omega
  have e2:¬opNumber o=1:=by omega
  have e3:¬opNumber o=10:=by omega
  have a1:=gJ g ps st h;have a2:=gJ f _ _ a1;show build ((opNumber o,0)::((pieces f++pieces g)++ps))=_;rw[Sk,build_cons,a2];simp[push,e1,e2,e3,vO]
 | .cond c f g,ps,st,h=>by have a1:=gJ g ps st h;have a2:=gJ f _ _ a1;have a3:=gJ c _ _ a2;show build ((10,0)::((pieces c++(pieces f++pieces g))++ps))=_;rw[Sk,Sk,build_cons,a3];simp[push]
def Da(f:Formula):build (pieces f)=zS [f]:=by
 have:=gJ f [] [] rfl
 rwa [RB]at this
def tS:∀(qs ps:List Piece)(st:List Formula),build (qs++ps)=zS st->∃st',build ps=zS st'
 |[],ps,st,h=>⟨st,h⟩
 |q::qs,ps,st,h=>by
  have h':build (q::(qs++ps))=zS st:=h;rw[build_cons]at h'
  cases e:build (qs++ps)with
  |none=>rw[e]at h';cases h'
  |some s=>exact tS qs ps s e
theorem cw:∀(f:Formula)(z:Int),(1,z)∈pieces f<->∃x∈reads f,z=(x:Int)
 | .const v,z=>by simp[pieces,reads]
 | .name x,z=>by simp[pieces,reads]
 | .two o f g,z=>by
  have hb:=i8 o;have e2:¬(1:Int)=opNumber o:=by omega
  simp only[pieces,reads,Rn,Ru,U7,e2,false_and,false_or,cw f z,cw g z];constructor
  .rintro(⟨x,h,e⟩|⟨x,h,e⟩)
   .exact⟨x,.inl h,e⟩
   .exact⟨x,.inr h,e⟩
  .rintro⟨x,h|h,e⟩
   .exact .inl ⟨x,h,e⟩
   .exact .inr ⟨x,h,e⟩
 | .cond c f g,z=>by
  simp only[pieces,reads,Rn,Ru,U7,cw c z,cw f z,cw g z];constructor
  .rintro(⟨h,_⟩|⟨x,h,e⟩|⟨x,h,e⟩|⟨x,h,e⟩)
   .exact absurd h (by decide)
   .exact⟨x,.inl (.inl h),e⟩
   .exact⟨x,.inl (.inr h),e⟩
   .exact⟨x,.inr h,e⟩
  .rintro⟨x,(h|h)|h,e⟩
   .exact .inr (.inl ⟨x,h,e⟩)
   .exact .inr (.inr (.inl ⟨x,h,e⟩))
   .exact .inr (.inr (.inr ⟨x,h,e⟩))
theorem rZ(f:Formula):(pieces f).length<=(flat f).length:=by
 induction f with
 |const v=>simp[pieces,flat]
 |name x=>simp[pieces,flat]
 |two o f g h1 h2=>simp only[pieces,flat,RG,RH,Rx]at*;omega
 |cond c f g h0 h1 h2=>simp only[pieces,flat,RG,RH,Rx]at*;omega
def depth:Formula->Nat
 | .const _=>1
 | .name _=>1
 | .two _ f g=>max (depth f) (depth g)+1
 | .cond c f g=>max (depth c) (max (depth f) (depth g))+1
theorem i_:∀f:Formula,2*depth f<=(flat f).length+1
 | .const v=>by simp[depth,flat]
 | .name x=>by simp[depth,flat]
 | .two o f g=>by
  have a:=i_ f;have b:=i_ g;have c:∀f:Formula,2<=(flat f).length:=λf=>by
   cases f with
   |const v=>simp[flat]
   |name x=>simp[flat]
   |two o f g=>
    have d:=depth_flat' f;have e:=depth_flat' g;simp only[flat,RG,RH,Rx];omega
   |cond c f g=>
    have d:=depth_flat' f;have e:=depth_flat' g;simp only[flat,RG,RH,Rx];omega
  have cf:=c f;have cg:=c g;simp only[depth,flat,RG,RH,Rx];omega
 | .cond c f g=>by have a:=i_ f;have b:=i_ g;have d:=i_ c;have cf:=depth_flat' f;have cg:=depth_flat' g;have cc:=depth_flat' c;simp only[depth,flat,RG,RH,Rx];omega
where
 depth_flat':∀f:Formula,2<=(flat f).length
 | .const v=>by simp[flat]
 | .name x=>by simp[flat]
 | .two o f g=>by have a:=depth_flat' f;simp only[flat,RG,RH,Rx];omega
 | .cond c f g=>by have a:=depth_flat' f;simp only[flat,RG,RH,Rx];omega
def OU:Res->Prop
 | .ok v=>inRange v=true
 | .error k=>k=1\/k=2
def kK(v:Int):OU (sized v):=by
 unfold sized;split
 .assumption
 .exact .inr rfl
variable{v:Int}
def jy:inRange v=true<-> -1000000000000<=v/\v<=1000000000000:=by unfold inRange LIMIT;rw[SH,decide_eq_true_eq,decide_eq_true_eq]
theorem Gv{w:Int}(hv:inRange v=true)(hw:w≠0):inRange (Tf v w)=true:=by
 rw[jy]at*;obtain h|h:=Xl hw
 .have e:Tf v w=Tf (-v) (-w):=(Xm v w).symm;rw[e,Uy _ (by omega)];have p:0< -w:=by omega
  constructor
  .exact(U8 p).mpr (by have: -1000000000000* -w<= -1000000000000*1:=VC (by omega) (by omega);omega)
  .exact VD p (by have:1000000000000*1<=1000000000000* -w:=VE (by omega) (by omega);omega)
 .rw[Uy _ (by omega)];constructor
  .exact(U8 h).mpr (by have: -1000000000000*w<= -1000000000000*1:=VC (by omega) (by omega);omega)
  .exact VD h (by have:1000000000000*1<=1000000000000*w:=VE (by omega) (by omega);omega)
def Told(f:Formula):Prop:=wS f/\(flat f).length<=60
def CellsOk:List Nat->List (Nat×Formula)->Prop
 |_,[]=>True
 |ns,c::r=>Told c.2/\(∀x∈reads c.2,x∈ns)/\CellsOk (ns++[c.1]) r
def CellsOk.mono:∀{cs:List (Nat×Formula)}{ns ms:List Nat},CellsOk ns cs->(∀x∈ns,x∈ms)->CellsOk ms cs
 |[],_,_,_,_=>True.intro
 |c::r,ns,ms,h,hs=>⟨h.1,λx hx=>hs x (h.2.1 x hx),CellsOk.mono h.2.2 λx hx=>by
   obtain q|q:=Ru.mp hx
   .exact Sm _ (hs x q)
   .exact SD _ q⟩
def CellsOk.told:∀{cs:List (Nat×Formula)}{ns:List Nat},CellsOk ns cs->∀c∈cs,Told c.2
 |c::r,ns,h,d,hd=>by
  obtain e|e:=Rn.mp hd
  .rw[e];exact h.1
  .exact CellsOk.told h.2.2 d e
def CellsOk.reads:∀{cs:List (Nat×Formula)}{ns:List Nat},CellsOk ns cs->∀c∈cs,∀x∈reads c.2,x∈ns++cs.map (·.1)
 |c::r,ns,h,d,hd,x,hx=>by
  obtain e|e:=Rn.mp hd
  .rw[e]at hx;exact Sm _ (h.2.1 x hx)
  .have:=CellsOk.reads h.2.2 d e x hx;simp only[Ru,RS,Rn]at this⊢;obtain(q|q)|q:=this
   .exact .inl q
   .exact .inr (.inl (by simpa using q))
   .exact .inr (.inr q)
def CellsOk.snoc:∀{cs:List (Nat×Formula)}{ns:List Nat}{c:Nat×Formula},CellsOk ns cs->Told c.2->(∀x∈Ry c.2,x∈ns++cs.map (·.1))->CellsOk ns (cs++[c])
 |[],ns,c,_,ht,hr=>⟨ht,λx hx=>by simpa using hr x hx,True.intro⟩
 |d::r,ns,c,h,ht,hr=>⟨h.1,h.2.1,CellsOk.snoc h.2.2 ht λx hx=>by simpa [Sk]using hr x hx⟩
def CellsOk.change:∀{cs:List (Nat×Formula)}{ns:List Nat}{n:Nat}{f:Formula},CellsOk ns cs->Told f->(∀x∈Ry f,x∈ns++(cs.takeWhile λc=>c.1 !=n).map (·.1))->(cs.map (·.1)).Nodup->CellsOk ns (cs.map λc=>if c.1=n then(c.1,f)else c)
 |[],_,_,_,_,_,_,_=>True.intro
 |c::r,ns,n,f,h,ht,hr,nd=>by
  have nd':=RK.mp (show(c.1::r.map (·.1)).Nodup from nd);by_cases e:c.1=n
  .have hr':∀x∈Ry f,x∈ns:=λx hx=>by simpa [Xn,e]using hr x hx
   have same:(r.map λc=>if c.1=n then(c.1,f)else c)=r:=by
    have:∀d∈r,(if d.1=n then(d.1,f)else d)=d:=λd hd=>by rw[ae];intro q;exact nd'.1 (Rm.mpr ⟨d,hd,by rw[q,e]⟩)
    exact(SE this).trans (Xo r)
   rw[RS,same,ag e];exact⟨ht,hr',h.2.2⟩
  .rw[RS,ae e];refine⟨h.1,h.2.1,CellsOk.change h.2.2 ht (λx hx=>?_) nd'.2⟩;have:=hr x hx;simpa [Xn,e,Sk]using this
def CellsOk.drop:∀{cs:List (Nat×Formula)}{ns:List Nat}{n:Nat},CellsOk ns cs->(∀c∈cs,n∉Ry c.2)->CellsOk (ns.filter λx=>x !=n) (cs.filter λc=>c.1 !=n)
 |[],_,_,_,_=>True.intro
 |c::r,ns,n,h,hr=>by
  have h2:=CellsOk.drop (n:=n) h.2.2 λd hd=>hr d (Rp _ hd);have h1:∀x∈Ry c.2,x∈ns.filter λx=>x !=n:=λx hx=>Sn.mpr ⟨h.2.1 x hx,by have:x≠n:=λe=>hr c Rv (e▸hx);simpa using this⟩
  rw[Td];by_cases e:c.1=n
  .rw[ae (by simp[e])];rw[Ua]at h2;exact h2.mono λx hx=>by
    obtain q|q:=Ru.mp hx
    .exact q
    .simp[e]at q
  .rw[ag (by simpa using e)];refine⟨h.1,h1,?_⟩;rw[Ua]at h2;have e2:([c.1]:List Nat).filter (λx=>x !=n)=[c.1]:=by simp[e]
   rw[e2]at h2;exact h2
structure Js(i:Input):Prop where
 name:i.name<=31
 len:i.values.length<=64
 nd:i.values.Nodup
 Hh:∀v∈i.values,inRange v=true
 wr:i.place<i.values.length
def names(s:State):List Nat:=s.inputs.map (·.name)++s.cells.map (·.1)
structure WF(s:State):Prop where
 nI:s.inputs.length<=8
 nC:s.cells.length<=12
 nT:s.tests.length<=8
 fi:∀i∈s.inputs,Js i
 nd:(names s).Nodup
 zw:∀c∈s.cells,c.1<=31
 hZ:CellsOk (s.inputs.map (·.name)) s.cells
 wT:(s.tests.map (·.1)).Nodup
 zA:∀t∈s.tests,t.1<=31
 i6:∀t∈s.tests,Told t.2/\∀x∈reads t.2,x∈names s
 oU:(s.presets.map (·.1)).Nodup
 zx:∀p∈s.presets,p.1<=9
 pre:∀p∈s.presets,(p.2.map (·.1)).Nodup/\∀y∈p.2,∃i∈s.inputs,i.name=y.1/\y.2∈i.values
 AB:(s.marked.map (·.1)).Nodup
 AC:∀m∈s.marked,m.2<=2/\∃t∈s.tests,t.1=m.1
def WF.start:WF start where
 nI:=SO _
 nC:=SO _
 nT:=SO _
 fi:=λi h=>absurd h (by simp[SF])
 nd:=by simp[names,SF]
 zw:=λi h=>absurd h (by simp[SF])
 hZ:=True.intro
 wT:=by simp[SF]
 zA:=λi h=>absurd h (by simp[SF])
 i6:=λi h=>absurd h (by simp[SF])
 oU:=by simp[SF]
 zx:=λi h=>absurd h (by simp[SF])
 pre:=λi h=>absurd h (by simp[SF])
 AB:=by simp[SF]
 AC:=λi h=>absurd h (by simp[SF])
variable{i:Input}{x:Nat}{s:State}
def oV(h:findInput s x=zS i):i∈s.inputs/\i.name=x:=by refine⟨Ub h,?_⟩;have:=Uz h;simpa using this
def gK:(findInput s x).isSome=true<->x∈s.inputs.map (·.name):=by
 unfold findInput;rw[VF];simp only[Rm];constructor
 .rintro⟨i,h1,h2⟩;exact⟨i,h1,by simpa using h2⟩
 .rintro⟨i,h1,h2⟩;exact⟨i,h1,by simpa using h2⟩
def jS:(findCell s x).isSome=true<->x∈s.cells.map (·.1):=by
 unfold findCell;rw[Uc,VF];simp only[Rm];constructor
 .rintro⟨i,h1,h2⟩;exact⟨i,h1,by simpa using h2⟩
 .rintro⟨i,h1,h2⟩;exact⟨i,h1,by simpa using h2⟩
def wu:(findTest s x).isSome=true<->x∈s.tests.map (·.1):=by
 unfold findTest;rw[Uc,VF];simp only[Rm];constructor
 .rintro⟨i,h1,h2⟩;exact⟨i,h1,by simpa using h2⟩
 .rintro⟨i,h1,h2⟩;exact⟨i,h1,by simpa using h2⟩
def Hi:taken s x=true<->x∈names s:=by unfold taken names;rw[UA,gK,jS,Ru]
def kL{z:Int}:takenI s z=true<->0<=z/\z.toNat∈names s:=by unfold takenI;rw[SH,decide_eq_true_eq,Hi]
variable{f:Formula}{cs:List (Nat×Formula)}
def jz:strange s cs f=false<->∀x∈reads f,x∈s.inputs.map (·.name)++cs.map (·.1):=by
 unfold strange;rw[Wz];constructor
 .intro h x hx;have:=h x hx;simp only[RQ,Xp,UA,Xq,RL]at this;rw[gK]at this;obtain q|q:=this
  .exact Sm _ q
  .let⟨c,hc,e⟩:=Tg.mp q;exact SD _ (Rm.mpr ⟨c,hc,by simpa using e⟩)
 .intro h x hx;simp only[RQ,Xp,UA,Xq,RL];rw[gK];obtain q|q:=Ru.mp (h x hx)
  .exact .inl q
  .let⟨c,hc,e⟩:=Rm.mp q;exact .inr (Tg.mpr ⟨c,hc,by simpa using e⟩)
variable{l:List Int}
def gk(h:formulaOf l=zS f):Told f:=by let⟨h1,h2,h3⟩:=kJ.mp h;exact⟨h3,by rw[<-h2];exact h1⟩
def jA{x:Int}:badName x=false<->0<=x/\x<=31:=by unfold badName within;rw[U9,SH,decide_eq_true_eq,decide_eq_true_eq]
def xF:∀{l:List (Bool×Int)},first l=zN->∀p∈l,p.1=false
 |[],_,p,hp=>absurd hp (by simp)
 |(c,n)::r,h,p,hp=>by
  unfold first at h
  cases c with
  |true=>simp at h
  |false=>
   simp at h;obtain e|e:=Rn.mp hp
   .rw[e]
   .exact xF h p e
def ib{t:State}{own:List (Bool×Int)}{a:Int}(h:WF s)(ht:(∀p∈own,p.1=false)->WF t):WF (checked s own t a).1:=by
 unfold checked
 cases e:first own with
 |some n=>exact h
 |none=>exact ht (xF e)
def ja{α:Type}{l:List α}{x:α}(h:l.Nodup)(hx:x∉l):(l++[x]).Nodup:=by rw[Ss];exact⟨h,by simp,λa ha b hb=>by simp at hb;subst hb;intro e;subst e;exact hx ha⟩
def Hj{α:Type}{l m:List α}{x:α}(h:(l++m).Nodup)(hx:x∉l++m):(l++x::m).Nodup:=by
 let⟨h1,h2,h3⟩:=Ss.mp h;refine Ss.mpr ⟨h1,RK.mpr ⟨λq=>hx (SD _ q),h2⟩,λa ha b hb=>?_⟩;obtain e|e:=Rn.mp hb
 .intro q;subst e;subst q;exact hx (Sm _ ha)
 .exact h3 a ha b e
theorem WF.tT(h:WF s)(hi:Js i)(hn:i.name∉names s)(hl:s.inputs.length<8):WF {s with inputs:=s.inputs++[i]}where
 nI:=by show(s.inputs++[i]).length<=8;simp;omega
 nC:=h.nC
 nT:=h.nT
 fi:=λj hj=>by
  obtain q|q:=Ru.mp hj
  .exact h.fi j q
  .rw[Sb.mp q];exact hi
 nd:=by
  have e:names {s with inputs:=s.inputs++[i]}=s.inputs.map (·.name)++i.name::s.cells.map (·.1):=by simp[names]
  rw[e];exact Hj h.nd hn
 zw:=h.zw
 hZ:=h.hZ.mono λx hx=>by show x∈(s.inputs++[i]).map (·.name);rw[Sa];exact Sm _ hx
 wT:=h.wT
 zA:=h.zA
 i6:=λt ht=>⟨(h.i6 t ht).1,λx hx=>by
  have:=(h.i6 t ht).2 x hx;simp only[names,Ru,Sa]at this⊢;obtain q|q:=this
  .exact .inl (.inl q)
  .exact .inr q⟩
 oU:=h.oU
 zx:=h.zx
 pre:=λp hp=>⟨(h.pre p hp).1,λy hy=>by let⟨j,hj,e⟩:=(h.pre p hp).2 y hy;exact⟨j,Sm _ hj,e⟩⟩
 AB:=h.AB
 AC:=h.AC
variable{p:Nat}
def xG(h:indexIn l v=zS p):p<l.length/\l[p]?=zS v:=by unfold indexIn at h;let⟨h1,h2,_⟩:=WA.mp h;refine⟨h1,?_⟩;rw[RC h1];simp at h2;rw[h2]
def BE:indexIn l v=zN<->v∉l:=by
 unfold indexIn;rw[Xr];constructor
 .intro h hv;have:=h v hv;simp at this
 .intro h x hx;simp;intro e;subst e;exact h hx
variable{high low stride:Int}
def uR{k:Nat}(hk:k<(sliderValues low high stride).length):(sliderValues low high stride)[k]=low+stride*(k:Int):=by unfold sliderValues ofNat at*;simp
def mw(low high stride:Int):(sliderValues low high stride).length=min 64 (countOf low high stride).toNat:=by unfold sliderValues VALUES;simp
theorem wv(h:1<=stride):(sliderValues low high stride).Nodup:=by unfold sliderValues;rw[List.Nodup,Xs];refine Xu ?_ List.pairwise_lt_range;intro i j hij;unfold ofNat;have:stride*(i:Int)<stride*(j:Int):=Int.mul_lt_mul_of_pos_left (by omega) (by omega);omega
theorem ww(h:1<=stride)(hlh:low<=high)(hv:v∈sliderValues low high stride):low<=v/\v<=high:=by
 let⟨k,hk,e⟩:=WB hv;rw[uR hk]at e;rw[mw]at hk;have h2:(k:Int)<countOf low high stride:=by omega
 unfold countOf at h2;have h3:(k:Int)<=(high-low)/stride:=by omega
 have h4:(k:Int)*stride<=high-low:=(U8 (by omega)).mp h3;have h5:0<=stride*(k:Int):=Int.mul_nonneg (by omega) (by omega);rw[TH]at h4;omega
theorem WF.slider(h:WF s)(x low high stride v:Int):WF (doSlider s x low high stride v).1:=by
 unfold doSlider;refine ib h λhf=>?_;have h1:(badName x)=false:=hf (badName x,-1) (by simp);have h2:(takenI s x)=false:=hf (takenI s x,-2) (by simp);have h3:(decide (INPUTS<=s.inputs.length))=false:=hf (decide (INPUTS<=s.inputs.length),-3) (by simp);have h4:(!(inRange low&&inRange high&&inRange v))=false:=hf (!(inRange low&&inRange high&&inRange v),-4) (by simp);have h5:(decide (stride<1)||decide (high<low)||decide ((VALUES:Int)<countOf low high stride))=false:=hf (decide (stride<1)||decide (high<low)||decide ((VALUES:Int)<countOf low high stride),-5) (by simp);have h6:((indexIn (sliderValues low high stride) v).isNone)=false:=hf ((indexIn (sliderValues low high stride) v).isNone,-6) (by simp);have hx:=jA.mp h1;simp only[U9,SH]at h4;simp only[U_,decide_eq_false_iff_not,Int.not_lt]at h5;have h3:s.inputs.length<8:=WC (of_decide_eq_false h3)
 cases e:indexIn (sliderValues low high stride) v with
 |none=>rw[e]at h6;cases h6
 |some p=>
  let⟨hp,_⟩:=xG e;refine h.tT (i:=⟨x.toNat,sliderValues low high stride,p⟩) ⟨by show x.toNat<=31;omega,?_,wv h5.1.1,λw hw=>?_,hp⟩ (λhn=>?_) h3
  .show(sliderValues low high stride).length<=64;rw[mw];omega
  .have:=ww h5.1.1 h5.1.2 hw;have a:=jy.mp h4.1.1;have b:=jy.mp h4.1.2;exact jy.mpr (by omega)
  .have:=kL.mpr ⟨hx.1,hn⟩;rw[h2]at this;cases this
def oW:∀{l:List Int},twice l=false->l.Nodup
 |[],_=>SI
 |x::r,h=>by unfold twice at h;rw[U_]at h;exact RK.mpr ⟨by simpa using h.1,oW h.2⟩
def oX:∀{l:List Int},l.Nodup->twice l=false
 |[],_=>rfl
 |x::r,h=>by let⟨h1,h2⟩:=RK.mp h;unfold twice;rw[U_];exact⟨by simpa using h1,oX h2⟩
theorem WF.choice(h:WF s)(x p:Int)(vs:List Int):WF (doChoice s x p vs).1:=by unfold doChoice;refine ib h λhf=>?_;have h1:(badName x)=false:=hf (badName x,-1) (by simp);have h2:(takenI s x)=false:=hf (takenI s x,-2) (by simp);have h3:(decide (INPUTS<=s.inputs.length))=false:=hf (decide (INPUTS<=s.inputs.length),-3) (by simp);have h4:(vs.isEmpty||decide (VALUES<vs.length)||twice vs)=false:=hf (vs.isEmpty||decide (VALUES<vs.length)||twice vs,-5) (by simp);have h5:(!vs.all inRange)=false:=hf (!vs.all inRange,-4) (by simp);have h6:(!within p 0 (ofNat vs.length-1))=false:=hf (!within p 0 (ofNat vs.length-1),-6) (by simp);have hx:=jA.mp h1;simp only[U_]at h4;have h42:vs.length<=64:=WD (of_decide_eq_false h4.1.2);have h3:s.inputs.length<8:=WC (of_decide_eq_false h3);simp only[U9,Ud]at h5;simp only[U9,within,SH]at h6;have h61:0<=p:=of_decide_eq_true h6.1;have h62:p<=(vs.length:Int)-1:=of_decide_eq_true h6.2;refine h.tT (i:=⟨x.toNat,vs,p.toNat⟩) ⟨by show x.toNat<=31;omega,h42,oW h4.2,h5,by show p.toNat<vs.length;omega⟩ (λhn=>?_) h3;have:=kL.mpr ⟨hx.1,hn⟩;rw[h2]at this;cases this
theorem WF.cell(h:WF s)(x:Int)(l:List Int):WF (doCell s x l).1:=by
 unfold doCell;refine ib h λhf=>?_;have h1:(badName x)=false:=hf (badName x,-1) (by simp);have h2:(takenI s x)=false:=hf (takenI s x,-2) (by simp);have h3:(decide (CELLS<=s.cells.length))=false:=hf (decide (CELLS<=s.cells.length),-3) (by simp);have h4:((formulaOf l).isNone)=false:=hf ((formulaOf l).isNone,-10) (by simp);have h5:(strange s s.cells ((formulaOf l).getD (.const 0)))=false:=hf (strange s s.cells ((formulaOf l).getD (.const 0)),-11) (by simp);have hx:=jA.mp h1;have h3:s.cells.length<12:=WC (of_decide_eq_false h3)
 cases e:formulaOf l with
 |none=>rw[e]at h4;cases h4
 |some f=>
  rw[e]at h5;have hr:=jz.mp h5;have hn:x.toNat∉names s:=λhn=>by have:=kL.mpr ⟨hx.1,hn⟩;rw[h2]at this;cases this
  show WF {s with cells:=s.cells++[(x.toNat,f)]}
  exact{
   nI:=h.nI
   nC:=by show(s.cells++[(x.toNat,f)]).length<=12;simp;omega
   nT:=h.nT
   fi:=h.fi
   nd:=by
    have e:names {s with cells:=s.cells++[(x.toNat,f)]}=names s++[x.toNat]:=by simp[names]
    rw[e];exact ja h.nd hn
   zw:=λc hc=>by
    obtain q|q:=Ru.mp hc
    .exact h.zw c q
    .rw[Sb.mp q];show x.toNat<=31;omega
   hZ:=h.hZ.snoc (gk e) hr
   wT:=h.wT
   zA:=h.zA
   i6:=λt ht=>⟨(h.i6 t ht).1,λy hy=>by
    have e:names {s with cells:=s.cells++[(x.toNat,f)]}=names s++[x.toNat]:=by simp[names]
    rw[e];exact Sm _ ((h.i6 t ht).2 y hy)⟩
   oU:=h.oU
   zx:=h.zx
   pre:=h.pre
   AB:=h.AB
   AC:=h.AC}
variable{n:Nat}
def vP:(cs.map λc=>if c.1=n then(c.1,f)else c).map (·.1)=cs.map (·.1):=by rw[RV];apply SE;intro c _;show(if c.1=n then(c.1,f)else c).1=c.1;split<;>rfl
def oB{α:Type}{l m:List α}(h:(l++m).Nodup):m.Nodup:=(Ss.mp h).2.1
def WF.change(h:WF s)(x:Int)(l:List Int):WF (doChange s x l).1:=by
 unfold doChange;refine ib h λhf=>?_;have h4:((formulaOf l).isNone)=false:=hf ((formulaOf l).isNone,-10) (by simp);have h5:(strange s (s.cells.takeWhile λc=>c.1 !=x.toNat) ((formulaOf l).getD (.const 0)))=false:=hf (strange s (s.cells.takeWhile λc=>c.1 !=x.toNat) ((formulaOf l).getD (.const 0)),-11) (by simp)
 cases e:formulaOf l with
 |none=>rw[e]at h4;cases h4
 |some f=>
  rw[e]at h5;have hr:=jz.mp h5;show WF {s with cells:=s.cells.map λc=>if c.1=x.toNat then(c.1,f)else c};have en:names {s with cells:=s.cells.map λc=>if c.1=x.toNat then(c.1,f)else c}=names s:=by show s.inputs.map (·.name)++(s.cells.map λc=>if c.1=x.toNat then(c.1,f)else c).map (·.1)=names s;rw[vP];rfl
  exact{
   nI:=h.nI
   nC:=by show(s.cells.map _).length<=12;rw[Rr];exact h.nC
   nT:=h.nT
   fi:=h.fi
   nd:=by rw[en];exact h.nd
   zw:=λc hc=>by let⟨d,hd,rfl⟩:=Rm.mp hc;have:=h.zw d hd;split<;>exact this
   hZ:=h.hZ.change (gk e) hr (oB h.nd)
   wT:=h.wT
   zA:=h.zA
   i6:=λt ht=>⟨(h.i6 t ht).1,λy hy=>by rw[en];exact(h.i6 t ht).2 y hy⟩
   oU:=h.oU
   zx:=h.zx
   pre:=h.pre
   AB:=h.AB
   AC:=h.AC}
theorem WF.test(h:WF s)(n:Int)(l:List Int):WF (doTest s n l).1:=by
 unfold doTest;refine ib h λhf=>?_;have h1:(badName n)=false:=hf (badName n,-1) (by simp);have h3:((findTest s n.toNat).isNone&&decide (TESTS<=s.tests.length))=false:=hf ((findTest s n.toNat).isNone&&decide (TESTS<=s.tests.length),-3) (by simp);have h4:((formulaOf l).isNone)=false:=hf ((formulaOf l).isNone,-10) (by simp);have h5:(strange s s.cells ((formulaOf l).getD (.const 0)))=false:=hf (strange s s.cells ((formulaOf l).getD (.const 0)),-11) (by simp);have hx:=jA.mp h1
 cases e:formulaOf l with
 |none=>rw[e]at h4;cases h4
 |some f=>
  rw[e]at h5;have hr:∀x∈reads f,x∈names s:=jz.mp h5;show WF {s with tests:=if(findTest s n.toNat).isNone=true then s.tests++[(n.toNat,f)]else s.tests.map λt=>if t.1=n.toNat then(t.1,f)else t};by_cases new:(findTest s n.toNat).isNone=true
  .rw[ag new];rw[new]at h3;have h3:s.tests.length<TESTS:=by simpa using h3
   have h3:s.tests.length<8:=h3;have hn:n.toNat∉s.tests.map (·.1):=λq=>by have:=wu.mpr q;rw[Option.isNone_iff_eq_none]at new;rw[new]at this;cases this
   exact{
    nI:=h.nI
    nC:=h.nC
    nT:=by show(s.tests++[(n.toNat,f)]).length<=8;simp;omega
    fi:=h.fi
    nd:=h.nd
    zw:=h.zw
    hZ:=h.hZ
    wT:=by show((s.tests++[(n.toNat,f)]).map (·.1)).Nodup;rw[Sa];exact ja h.wT hn
    zA:=λt ht=>by
     obtain q|q:=Ru.mp ht
     .exact h.zA t q
     .rw[Sb.mp q];show n.toNat<=31;omega
    i6:=λt ht=>by
     obtain q|q:=Ru.mp ht
     .exact h.i6 t q
     .rw[Sb.mp q];exact⟨gk e,hr⟩
    oU:=h.oU
    zx:=h.zx
    pre:=h.pre
    AB:=h.AB
    AC:=λm hm=>by let⟨a,t,ht,b⟩:=h.AC m hm;exact⟨a,t,Sm _ ht,b⟩}
  .rw[ae new]
   exact{
    nI:=h.nI
    nC:=h.nC
    nT:=by show(s.tests.map _).length<=8;rw[Rr];exact h.nT
    fi:=h.fi
    nd:=h.nd
    zw:=h.zw
    hZ:=h.hZ
    wT:=by show((s.tests.map λt=>if t.1=n.toNat then(t.1,f)else t).map (·.1)).Nodup;rw[vP];exact h.wT
    zA:=λt ht=>by let⟨d,hd,rfl⟩:=Rm.mp ht;have:=h.zA d hd;split<;>exact this
    i6:=λt ht=>by
     let⟨d,hd,rfl⟩:=Rm.mp ht;split
     .exact⟨gk e,hr⟩
     .exact h.i6 d hd
    oU:=h.oU
    zx:=h.zx
    pre:=h.pre
    AB:=h.AB
    AC:=λm hm=>by let⟨a,t,ht,b⟩:=h.AC m hm;refine⟨a,_,Rm.mpr ⟨t,ht,rfl⟩,?_⟩;split<;>exact b}
def BF(h:readBy s x=false):(∀c∈s.cells,x∉reads c.2)/\∀t∈s.tests,x∉reads t.2:=by
 unfold readBy at h;rw[Wz]at h;constructor
 .intro c hc hx;exact h c (Sm _ hc) (by simpa using hx)
 .intro c hc hx;exact h c (SD _ hc) (by simpa using hx)
def tU:names {s with inputs:=s.inputs.filter λi=>i.name !=n,cells:=s.cells.filter λc=>c.1 !=n}=(names s).filter λx=>x !=n:=by simp only[names,Ua,VG];rfl
def WF.drop(h:WF s)(x:Int):WF (doDrop s x).1:=by
 unfold doDrop;refine ib h λhf=>?_;have h2:(readBy s x.toNat)=false:=hf (readBy s x.toNat,-12) (by simp);let⟨rc,rt⟩:=BF h2
 exact{
  nI:=RO (Th _ _) h.nI
  nC:=RO (Th _ _) h.nC
  nT:=h.nT
  fi:=λi hi=>h.fi i (Sn.mp hi).1
  nd:=by have:=(tU (s:=s) (n:=x.toNat));show(names {s with inputs:=s.inputs.filter λi=>i.name !=x.toNat,cells:=s.cells.filter λc=>c.1 !=x.toNat}).Nodup;rw[this];exact h.nd.filter _
  zw:=λc hc=>h.zw c (Sn.mp hc).1
  hZ:=by have:=h.hZ.drop (n:=x.toNat) rc;rw[VG]at this;exact this
  wT:=h.wT
  zA:=h.zA
  i6:=λt ht=>⟨(h.i6 t ht).1,λy hy=>by show y∈names {s with inputs:=s.inputs.filter λi=>i.name !=x.toNat,cells:=s.cells.filter λc=>c.1 !=x.toNat};rw[tU];refine Sn.mpr ⟨(h.i6 t ht).2 y hy,?_⟩;have:y≠x.toNat:=λe=>rt t ht (e▸hy);simpa using this⟩
  oU:=by show((s.presets.map λp=>(p.1,p.2.filter λy=>y.1 !=x.toNat)).map (·.1)).Nodup;rw[RV];exact h.oU
  zx:=λp hp=>by let⟨q,hq,rfl⟩:=Rm.mp hp;exact h.zx q hq
  pre:=λp hp=>by
   let⟨q,hq,rfl⟩:=Rm.mp hp;let⟨a,b⟩:=h.pre q hq;refine⟨?_,λy hy=>?_⟩
   .show((q.2.filter λy=>y.1 !=x.toNat).map (·.1)).Nodup;exact a.sublist ((UB).map _)
   .let⟨hy1,hy2⟩:=Sn.mp hy;let⟨i,hi,e1,e2⟩:=b y hy1;exact⟨i,Sn.mpr ⟨hi,by rw[e1];exact hy2⟩,e1,e2⟩
  AB:=h.AB
  AC:=h.AC}
def WF.dropTest(h:WF s)(n:Nat):WF {s with tests:=s.tests.filter λt=>t.1 !=n,marked:=s.marked.filter λt=>t.1 !=n}where
 nI:=h.nI
 nC:=h.nC
 nT:=RO (Th _ _) h.nT
 fi:=h.fi
 nd:=h.nd
 zw:=h.zw
 hZ:=h.hZ
 wT:=h.wT.sublist ((UB).map _)
 zA:=λt ht=>h.zA t (Sn.mp ht).1
 i6:=λt ht=>h.i6 t (Sn.mp ht).1
 oU:=h.oU
 zx:=h.zx
 pre:=h.pre
 AB:=h.AB.sublist ((UB).map _)
 AC:=λm hm=>by let⟨hm1,hm2⟩:=Sn.mp hm;let⟨a,t,ht,e⟩:=h.AC m hm1;exact⟨a,t,Sn.mpr ⟨ht,by rw[e];exact hm2⟩,e⟩
def WF.moved(h:WF s)(g:Input->Input)(hg:∀i∈s.inputs,(g i).name=i.name/\(g i).values=i.values/\(g i).place<i.values.length):WF {s with inputs:=s.inputs.map g}:=by
 have e1:(s.inputs.map g).map (·.name)=s.inputs.map (·.name):=by rw[RV];exact SE λi hi=>(hg i hi).1
 have en:names {s with inputs:=s.inputs.map g}=names s:=by show(s.inputs.map g).map (·.name)++_=names s;rw[e1];rfl
 exact{
  nI:=by show(s.inputs.map g).length<=8;rw[Rr];exact h.nI
  nC:=h.nC
  nT:=h.nT
  fi:=λi hi=>by let⟨j,hj,rfl⟩:=Rm.mp hi;let⟨a,b,c⟩:=hg j hj;have q:=h.fi j hj;exact⟨by rw[a];exact q.name,by rw[b];exact q.len,by rw[b];exact q.nd,by rw[b];exact q.Hh,by rw[b];exact c⟩
  nd:=by rw[en];exact h.nd
  zw:=h.zw
  hZ:=by show CellsOk ((s.inputs.map g).map (·.name)) s.cells;rw[e1];exact h.hZ
  wT:=h.wT
  zA:=h.zA
  i6:=λt ht=>⟨(h.i6 t ht).1,λy hy=>by rw[en];exact(h.i6 t ht).2 y hy⟩
  oU:=h.oU
  zx:=h.zx
  pre:=λp hp=>⟨(h.pre p hp).1,λy hy=>by let⟨i,hi,a,b⟩:=(h.pre p hp).2 y hy;let⟨c,d,_⟩:=hg i hi;exact⟨g i,Rm.mpr ⟨i,hi,rfl⟩,by rw[c];exact a,by rw[d];exact b⟩⟩
  AB:=h.AB
  AC:=h.AC}
def b7{α β:Type}{l:List α}{f:α->β}(h:(l.map f).Nodup):∀{a b:α},a∈l->b∈l->f a=f b->a=b:=by intro a b ha hb e;let⟨i,hi,rfl⟩:=WB ha;let⟨j,hj,rfl⟩:=WB hb;have:i=j:=(Xv (h₀:=by simpa using hi) (h₁:=by simpa using hj) h).mp (by simpa using e);subst this;rfl
def WF.zB(h:WF s):(s.inputs.map (·.name)).Nodup:=(Ss.mp h.nd).1
def WF.Qa(h:WF s):(s.cells.map (·.1)).Nodup:=(Ss.mp h.nd).2.1
theorem Db{x:Int}(h:inputI s x=zS i):0<=x/\i∈s.inputs/\i.name=x.toNat:=by
 unfold inputI at h;split at h
 .cases h
 .let⟨a,b⟩:=oV h;exact⟨by omega,a,b⟩
def WF.stand(h:WF s)(hi:i∈s.inputs)(hp:p<i.values.length):WF (Xw s i.name p):=by
 refine h.moved _ λj hj=>?_;by_cases e:j.name=i.name
 .have:=b7 h.zB hj hi e;subst this;rw[ag rfl];exact⟨rfl,rfl,hp⟩
 .rw[ae e];exact⟨rfl,rfl,(h.fi j hj).wr⟩
def oY(h:p<i.values.length):valueAt i p∈i.values:=by unfold valueAt;rw[RC h];exact Va h
theorem WF.keep(h:WF s)(p:Int):WF (doKeep s p).1:=by
 unfold doKeep;refine ib h λhf=>?_;have h1:(!within p 0 9)=false:=hf (!within p 0 9,-13) (by simp);simp only[U9,within,SH,decide_eq_true_eq]at h1
 exact{
  nI:=h.nI
  nC:=h.nC
  nT:=h.nT
  fi:=h.fi
  nd:=h.nd
  zw:=h.zw
  hZ:=h.hZ
  wT:=h.wT
  zA:=h.zA
  i6:=h.i6
  oU:=by show(((s.presets.filter λy=>y.1 !=p.toNat)++[(p.toNat,s.inputs.map λi=>(i.name,valueAt i i.place))]).map (·.1)).Nodup;rw[Sa];refine ja (h.oU.sublist ((UB).map _)) λhm=>?_;let⟨q,hq,e⟩:=Rm.mp hm;have:=(Sn.mp hq).2;rw[e]at this;simp at this
  zx:=λq hq=>by
   obtain z|z:=Ru.mp hq
   .exact h.zx q (Sn.mp z).1
   .rw[Sb.mp z];show p.toNat<=9;omega
  pre:=λq hq=>by
   obtain z|z:=Ru.mp hq
   .exact h.pre q (Sn.mp z).1
   .rw[Sb.mp z];refine⟨?_,λy hy=>?_⟩
    .show((s.inputs.map λi=>(i.name,valueAt i i.place)).map (·.1)).Nodup;rw[RV];exact h.zB
    .let⟨i,hi,rfl⟩:=Rm.mp hy;exact⟨i,hi,rfl,oY (h.fi i hi).wr⟩
  AB:=h.AB
  AC:=h.AC}
def WF.recall(h:WF s)(p:Int):WF (doRecall s p).1:=by
 unfold doRecall
 cases e:presetI s p with
 |none=>exact h
 |some l=>
  refine h.moved _ λi hi=>?_;have hp:=(h.fi i hi).wr
  cases e2:l.find? λy=>y.1==i.name with
  |none=>exact⟨rfl,rfl,hp⟩
  |some y=>
   refine⟨rfl,rfl,?_⟩;show(indexIn i.values y.2).getD i.place<i.values.length
   cases e3:indexIn i.values y.2 with
   |none=>exact hp
   |some q=>exact(xG e3).1
theorem BG(r:Res):verdictOf r<=2:=by
 unfold verdictOf;split
 .split<;>omega
 .omega
def WF.mark(h:WF s):WF {s with marked:=s.tests.map λt=>(t.1,verdictNow s t.2)}where
 nI:=h.nI
 nC:=h.nC
 nT:=h.nT
 fi:=h.fi
 nd:=h.nd
 zw:=h.zw
 hZ:=h.hZ
 wT:=h.wT
 zA:=h.zA
 i6:=h.i6
 oU:=h.oU
 zx:=h.zx
 pre:=h.pre
 AB:=by show((s.tests.map λt=>(t.1,verdictNow s t.2)).map (·.1)).Nodup;rw[RV];exact h.wT
 AC:=λm hm=>by let⟨t,ht,rfl⟩:=Rm.mp hm;exact⟨BG _,t,ht,rfl⟩
def base(s:State)(st:Setting):Env:=(s.inputs.zip st).map λx=>(x.1.name,.ok (valueAt x.1 x.2))
def grow(env:Env)(cs:List (Nat×Formula)):Env:=cs.foldl (λenv c=>env++[(c.1,eval env c.2)]) env
def Dc(s:State)(st:Setting):envAt s st=grow (base s st) s.cells:=rfl
def Jt(env:Env):grow env []=env:=rfl
def uS(env:Env)(c:Nat×Formula)(r:List (Nat×Formula)):grow env (c::r)=grow (env++[(c.1,eval env c.2)]) r:=rfl
theorem r6{s:State}{st:Setting}(h:st.length=s.inputs.length):(base s st).map (·.1)=s.inputs.map (·.name):=by
 unfold base;rw[RV];show(s.inputs.zip st).map (λx=>x.1.name)=_;have:(s.inputs.zip st).map (λx=>x.1.name)=((s.inputs.zip st).map (·.1)).map (·.name):=by rw[RV];rfl
 rw[this,Xx (by omega)]
variable{env:Env}
def ic{e:Env}{x:Nat}(h:x∈env.map (·.1)):lookup (env++e) x=lookup env x:=by
 unfold lookup;rw[Tp];have:(env.find? λy=>y.1==x).isSome=true:=by rw[VF];let⟨y,hy,e⟩:=Rm.mp h;exact⟨y,hy,by simpa using e⟩
 cases e2:env.find? λy=>y.1==x with
 |none=>rw[e2]at this;cases this
 |some y=>rfl
def eval_congr{env env':Env}:∀{f:Formula},(∀x∈reads f,lookup env x=lookup env' x)->eval env f=eval env' f
 | .const _,_=>rfl
 | .name x,h=>h x (by simp[reads])
 | .two o f g,h=>by have a:=eval_congr (f:=f) λx hx=>h x (by simp[reads,hx]);have b:=eval_congr (f:=g) λx hx=>h x (by simp[reads,hx]);unfold eval;rw[a,b]
 | .cond c f g,h=>by have a:=eval_congr (f:=c) λx hx=>h x (by simp[reads,hx]);have b:=eval_congr (f:=f) λx hx=>h x (by simp[reads,hx]);have d:=eval_congr (f:=g) λx hx=>h x (by simp[reads,hx]);unfold eval;rw[a,b,d]
def lookup_at(nd:(env.map (·.1)).Nodup){e:Nat×Res}(h:e∈env):lookup env e.1=e.2:=by
 unfold lookup
 cases q:env.find? λy=>y.1==e.1 with
 |none=>
  have:=S5.mp q e h;simp at this
 |some y=>
  have hy:=Ub q;have ey:y.1=e.1:=by simpa using Uz q
  have:=b7 nd hy h ey;rw[this]
def num:Call->Int
 | .slider .. =>0| .choice .. =>1| .cell .. =>2| .change .. =>3| .test .. =>4| .drop _=>5| .dropTest _=>6| .turn .. =>7| .set .. =>8| .keep _=>9| .recall _=>10| .value _=>11
 | .verdict _=>12| .verdicts=>13| .rests _=>14| .testRests _=>15| .inputs=>16| .sweep .. =>17| .edge .. =>18| .grid .. =>19| .nearest .. =>20| .inline _=>21| .mark=>22| .news=>23
def dI:Call->List Int
 | .slider x l h d v=>[x,l,h,d,v]| .choice x p _=>[x,p]| .cell x _=>[x]| .change x _=>[x]| .test n _=>[n]| .drop x=>[x]| .dropTest n=>[n]| .turn x k=>[x,k]| .set x v=>[x,v]| .keep p=>[p]| .recall p=>[p]| .value x=>[x]
 | .verdict n=>[n]| .verdicts=>[]| .rests x=>[x]| .testRests n=>[n]| .inputs=>[]| .sweep x n=>[x,n]| .edge x n d=>[x,n,d]| .grid x y n=>[x,y,n]| .nearest n v=>[n,v]| .inline n=>[n]| .mark=>[]| .news=>[]
def row:Call->Option (List Int)
 | .choice _ _ vs=>zS vs| .cell _ f=>zS f| .change _ f=>zS f| .test _ f=>zS f|_=>zN
def raw(k:Call):List (List Int):=(num k::dI k)::(row k).toList
def Dd(k:Call):List Int:=num k::(dI k++(match row k with
 |none=>[]
 |some r=>(r.length:Int)::r))
def Ju(k:Call):WE (raw k)=Dd k:=by cases k<;>simp[raw,WE,Dd,num,dI,row,PyFlat.putRows,PyFlat.putRow]
def EX(k:Call):Xy (raw k)=zS k:=by cases k<;>rfl
def Jv(s:State)(k:Call):Ue s (raw k)=((RP s k).1,Ug (RP s k).2):=by unfold Ue;rw[EX]
structure AD(k:Call):Prop where
 wh:∀z∈dI k,-1000000000000000000<=z/\z<=1000000000000000000
 ro:∀r,row k=zS r->r.length<=400/\∀z∈r,-1000000000000000000<=z/\z<=1000000000000000000
def oZ{z:Int}:Vb z=true<-> -1000000000000000000<=z/\z<=1000000000000000000:=by unfold Vb;rw[SH,decide_eq_true_eq,decide_eq_true_eq];rfl
def Qx(c:List (List Int)):Prop:=Vc c=c/\(VH c=true->∃k,raw k=c)
variable{c:List (List Int)}
def Qy(h:Vc c=c)(e:VH c=false):Qx c:=⟨h,λq=>by rw[e]at q;cases q⟩
def Ri{k:Call}(_:Xy c=zS k)(e:raw k=c)(h:Vc c=c):Qx c:=⟨h,λ_=>⟨k,e⟩⟩
def Q7(c:List (List Int)):Qx c:=by
 obtain _|⟨_|⟨(_|_|_|_|_|_|_|_|_|_|_|_|_|_|_|_|_|_|_|_|_|_|_|_|_)|_,x⟩,t⟩:=c
 all_goals first
  |exact Qy rfl rfl
  |(obtain _|⟨_,_|⟨_,_|⟨_,_|⟨_,_|⟨_,_|_⟩⟩⟩⟩⟩:=x<;>first
   |exact Qy rfl rfl
   |(obtain _|⟨_,_|_⟩:=t<;>first
    |exact Qy rfl rfl
    |exact Ri rfl rfl rfl))
def w0:∀z∈([]:List Int),-1000000000000000000<=z/\z<=1000000000000000000:=λ_ h=>absurd h Sj
def nr{r:List Int}{P:Prop}(e:zN=zS r):P:=nomatch e
variable{a:Int}
def w1(h:Vb a=true):∀z∈[a],-1000000000000000000<=z/\z<=1000000000000000000:=Wy.mpr ⟨oZ.mp h,w0⟩
variable{l:List Int}
def w2{r:Bool}(h:(Vb a&&r)=true)(e:r=true->∀z∈l,-1000000000000000000<=z/\z<=1000000000000000000):∀z∈a::l,-1000000000000000000<=z/\z<=1000000000000000000:=Wy.mpr ⟨oZ.mp (Uh.mp h).1,e (Uh.mp h).2⟩
def w3(h:(l.all (λ(z:Int)=>Vb z)&&decide (l.length<=400))=true):l.length<=400/\∀z∈l,-1000000000000000000<=z/\z<=1000000000000000000:=⟨of_decide_eq_true (Uh.mp h).2,λz hz=>oZ.mp (Ud.mp (Uh.mp h).1 z hz)⟩
def w4{a b:Bool}(h:(a&&b)=true):b=true:=(Uh.mp h).2
def Hk(h:VH c=true):∃k,raw k=c/\AD k:=by
 let⟨k,rfl⟩:=(Q7 c).2 h;refine⟨k,rfl,?_⟩;cases k
 all_goals first
  |exact⟨w0,λ_ e=>nr e⟩
  |exact⟨w1 h,λ_ e=>nr e⟩
  |exact⟨w2 h w1,λ_ e=>nr e⟩
  |exact⟨w2 h λh=>w2 h w1,λ_ e=>nr e⟩
  |exact⟨w2 h λh=>w2 h λh=>w2 h λh=>w2 h w1,λ_ e=>nr e⟩
  |exact⟨w2 h λ_=>w0,λ_ e=>RA e▸w3 (w4 h)⟩
  |exact⟨w2 h λh=>w2 h λ_=>w0,λ_ e=>RA e▸w3 (w4 (w4 h))⟩
def Jw(c:List (List Int)):Vc c=c:=(Q7 c).1
def played:State->List Call->List (List Int)
 |_,[]=>[]
 |s,k::r=>Ug (RP s k).2::played (RP s k).1 r
def xI:∀(ks:List Call)(s:State),WG Ue s (ks.map raw)=played s ks
 |[],_=>rfl
 |k::r,s=>by show(Ue s (raw k)).2::WG Ue (Ue s (raw k)).1 (r.map raw)=_;rw[Jv,xI r];rfl
def OV:∀{cs:List (List (List Int))},(∀c∈cs,VH c=true)->∃ks:List Call,ks.map raw=cs/\∀k∈ks,AD k
 |[],_=>⟨[],rfl,by simp⟩
 |c::r,h=>by
  let⟨k,e,a⟩:=Hk (h c Rv);let⟨ks,e2,a2⟩:=OV λd hd=>h d (Rp _ hd);refine⟨k::ks,by simp[e,e2],λj hj=>?_⟩;obtain q|q:=Rn.mp hj
  .rw[q];exact a
  .exact a2 j q
def aT(ks:List Call):List Int:=ks.flatMap Dd
def Gw:∀ks:List Call,Xz (ks.map raw)=aT ks
 |[]=>rfl
 |k::r=>by show WE (raw k)++Xz (r.map raw)=Dd k++aT r;rw[Ju,Gw r]
def wU(h:XA l=true):∃ks:List Call,l=aT ks/\(∀k∈ks,AD k)/\ks.length<=400/\XB l=Tq (played start ks):=by
 unfold XA at h;unfold XB;unfold PyVanbkj.calls at h⊢
 cases e:PyFlat.calls PyVanbkj.shape l.length l with
 |none=>rw[e]at h;cases h
 |some cs=>
  rw[e]at h;have ew:cs.map Vc=cs:=(SE λc _=>Jw c).trans (Xo cs);simp only[ew]at h⊢;simp only[SH,PyFlat.atMost,Zm,Ud,decide_eq_true_eq]at h;let⟨ks,rfl,ha⟩:=OV h.2.1;refine⟨ks,?_,ha,by simpa using h.1,?_⟩
  .rw[<-Gw];exact(PyFlat.put_calls _ _ _ e).1
  .show Tq (WG Ue Zn (ks.map raw))=_;rw[xI];rfl
def fu(acc:List Nat)(c:Nat×Formula):List Nat:=if c.1∈acc then acc++reads c.2 else acc
def ci(cs:List (Nat×Formula))(xs:List Nat):List Nat:=cs.reverse.foldl fu xs
def jB(c:Nat×Formula)(cs:List (Nat×Formula))(xs:List Nat):ci (c::cs) xs=fu (ci cs xs) c:=by unfold ci;rw[List.reverse_cons,Vd];rfl
def rE(acc:List Nat)(c:Nat×Formula):∀x∈acc,x∈fu acc c:=λx hx=>by
 unfold fu;split
 .exact Sm _ hx
 .exact hx
def m7:∀(cs:List (Nat×Formula))(xs:List Nat),∀x∈xs,x∈ci cs xs
 |[],xs,x,hx=>hx
 |c::cs,xs,x,hx=>by rw[jB];exact rE _ _ x (m7 cs xs x hx)
def AE:∀{cs:List (Nat×Formula)}{xs ms:List Nat},(∀c∈cs,∀x∈reads c.2,x∈ms)->(∀x∈xs,x∈ms)->∀x∈ci cs xs,x∈ms
 |[],xs,ms,_,hx=>hx
 |c::cs,xs,ms,hc,hx=>by
  intro x h;rw[jB]at h;unfold fu at h;have ih:=AE (λd hd=>hc d (Rp _ hd)) hx;split at h
  .obtain h|h:=Ru.mp h
   .exact ih x h
   .exact hc c Rv x h
  .exact ih x h
def gU:∀{cs:List (Nat×Formula)}{ns xs:List Nat},CellsOk ns cs->(ns++cs.map (·.1)).Nodup->∀c∈cs,c.1∈ci cs xs->∀x∈reads c.2,x∈ci cs xs
 |[],_,_,_,_,c,hc=>by simp at hc
 |d::cs,ns,xs,h,nd,c,hc=>by
  have nd':((ns++[d.1])++cs.map (·.1)).Nodup:=by simpa [Sk]using nd
  have ih:=gU (xs:=xs) h.2.2 nd';have notin:∀y,y∈(d::cs).map (·.1)->y∉ns:=λy hy hn=>(Ss.mp nd).2.2 y hn y hy rfl;rw[jB];intro hm x hx;have hm':c.1∈ci cs xs:=by
   unfold fu at hm;split at hm
   .obtain q|q:=Ru.mp hm
    .exact q
    .exact absurd (h.2.1 _ q) (notin _ (Rm.mpr ⟨c,hc,rfl⟩))
   .exact hm
  obtain e|e:=Rn.mp hc
  .subst e;unfold fu;rw[ag hm'];exact SD _ hx
  .exact rE _ _ x (ih c e hm' x hx)
def o0{p:Nat->Prop}:∀{cs:List (Nat×Formula)}{xs:List Nat},(∀c∈cs,(∃y∈reads c.2,p y)->p c.1)->(∃y∈ci cs xs,p y)->∃y∈xs,p y
 |[],xs,_,h=>h
 |c::cs,xs,hc,h=>by
  rw[jB]at h;have ih:=o0 (p:=p) (cs:=cs) (xs:=xs) λd hd=>hc d (Rp _ hd);apply ih;let⟨y,hy,py⟩:=h;unfold fu at hy;split at hy
  .rename_i hin;obtain q|q:=Ru.mp hy
   .exact⟨y,q,py⟩
   .exact⟨c.1,hin,hc c Rv ⟨y,q,py⟩⟩
  .exact⟨y,hy,py⟩
abbrev Tab:=List (Nat×List Nat)
def entry(t:Tab)(x:Nat):List Nat:=((t.find? λy=>y.1==x).map λy=>y.2).getD []
def lB(s:State)(t:Tab)(cs:List (Nat×Formula)):Tab:=cs.foldl (λt c=>t++[(c.1,gathered s t (reads c.2))]) t
variable{xs:List Nat}{x:Nat}{s:State}{t:Tab}
def BH:x∈gathered s t xs<->x∈s.inputs.map (·.name)/\∃y∈xs,x∈entry t y:=by unfold gathered;simp only[Sn,Ve,Tr];rfl
variable{u:Tab}
def m8(h:x∈t.map (·.1)):entry (t++u) x=entry t x:=by
 unfold entry;rw[Tp]
 cases e:t.find? λy=>y.1==x with
 |none=>
  let⟨y,hy,ey⟩:=Rm.mp h;have:=S5.mp e y hy;simp[ey]at this
 |some y=>rfl
variable{l:List Nat}
def EY(h:x∉t.map (·.1)):entry (t++[(x,l)]) x=l:=by
 unfold entry;rw[Tp];have:t.find? (λy=>y.1==x)=zN:=by rw[S5];intro y hy e;exact h (Rm.mpr ⟨y,hy,by simpa using e⟩)
 rw[this];simp
def o_(s:State):∀(cs:List (Nat×Formula))(t:Tab),∃u,lB s t cs=t++u
 |[],t=>⟨[],by simp[lB]⟩
 |c::r,t=>by let⟨u,hu⟩:=o_ s r (t++[(c.1,gathered s t (reads c.2))]);exact⟨(c.1,gathered s t (reads c.2))::u,by show lB s (t++[_]) r=_;rw[hu];simp⟩
def BI(h:∀x∈xs,x∈t.map (·.1)):gathered s (t++u) xs=gathered s t xs:=by
 unfold gathered;have:(xs.flatMap λx=>(((t++u).find? λy=>y.1==x).map λy=>y.2).getD [])=xs.flatMap λx=>((t.find? λy=>y.1==x).map λy=>y.2).getD []:=by rw[UC,UC];exact congrArg List.flatten (SE λx hx=>m8 (h x hx))
 simp only[this]
def tV(s:State):∀(cs:List (Nat×Formula))(t:Tab),CellsOk (t.map (·.1)) cs->(t.map (·.1)++cs.map (·.1)).Nodup->∀c∈cs,entry (lB s t cs) c.1=gathered s (lB s t cs) (reads c.2)
 |[],_,_,_,c,hc=>by simp at hc
 |d::r,t,h,nd,c,hc=>by
  have e1:(t++[(d.1,gathered s t (reads d.2))]).map (·.1)=t.map (·.1)++[d.1]:=by simp
  obtain e|e:=Rn.mp hc
  .subst e;let⟨u,hu⟩:=o_ s r (t++[(c.1,gathered s t (reads c.2))]);show entry (lB s (t++[_]) r) c.1=gathered s (lB s (t++[_]) r) (reads c.2);have hn:c.1∉t.map (·.1):=λq=>(Ss.mp nd).2.2 _ q c.1 (by simp) rfl;rw[hu,m8 (by simp),EY hn,Sk,BI h.2.1]
  .exact tV s r (t++[(d.1,gathered s t (reads d.2))]) (by rw[e1];exact h.2.2) (by rw[e1];simpa [Sk]using nd) c e
def EZ(s:State):Tab:=s.inputs.map λi=>(i.name,[i.name])
def tW(s:State):restTable s=lB s (EZ s) s.cells:=rfl
def uT(s:State):(EZ s).map (·.1)=s.inputs.map (·.name):=by simp[EZ]
def E1(h:x∈s.inputs.map (·.name)):entry (EZ s) x=[x]:=by
 unfold entry
 cases e:(EZ s).find? λy=>y.1==x with
 |none=>
  let⟨i,hi,ei⟩:=Rm.mp h;have:=S5.mp e (i.name,[i.name]) (Rm.mpr ⟨i,hi,rfl⟩);simp[ei]at this
 |some y=>
  have h1:=Ub e;have h2:y.1=x:=by simpa using Uz e
  let⟨i,hi,rfl⟩:=Rm.mp h1;show [i.name]=[x];rw[show i.name=x from h2]
def ph(h:x∈s.inputs.map (·.name)):entry (restTable s) x=[x]:=by rw[tW];let⟨u,hu⟩:=o_ s s.cells (EZ s);rw[hu,m8 (by rw[uT];exact h),E1 h]
variable{c:Nat×Formula}
def r8(w:WF s)(h:c∈s.cells):x∈entry (restTable s) c.1<->x∈s.inputs.map (·.name)/\∃y∈reads c.2,x∈entry (restTable s) y:=by rw[tW,tV s s.cells (EZ s) (by rw[uT];exact w.hZ) (by rw[uT];exact w.nd) c h];exact BH
def AF{s:State}{B:List Nat}{x:Nat}:∀{cs:List (Nat×Formula)}{ns:List Nat},CellsOk ns cs->(∀c∈cs,c.1∈B->∀y∈reads c.2,y∈B)->(∀c∈cs,x∈entry (restTable s) c.1->∃y∈reads c.2,x∈entry (restTable s) y)->(∀y∈ns,y∈B->x∈entry (restTable s) y->x∈B)->∀y∈ns++cs.map (·.1),y∈B->x∈entry (restTable s) y->x∈B
 |[],ns,_,_,_,h0,y,hy=>by simpa using h0 y (by simpa using hy)
 |c::r,ns,h,hb,he,h0,y,hy=>by
  refine AF (ns:=ns++[c.1]) h.2.2 (λd hd=>hb d (Rp _ hd)) (λd hd=>he d (Rp _ hd)) (λz hz=>?_) y (by simpa [Sk]using hy);obtain q|q:=Ru.mp hz
  .exact h0 z q
  .have ez:z=c.1:=by simpa using q
   subst ez;intro hzB hx;let⟨u,hu,hxu⟩:=he c Rv hx;exact h0 u (h.2.1 u hu) (hb c Rv hzB u hu) hxu
def Hl(w:WF s)(hx:∀x∈xs,x∈names s)(hi:x∈s.inputs.map (·.name)):(∃y∈xs,x∈entry (restTable s) y)<->x∈ci s.cells xs:=by
 constructor
 .rintro⟨y,hy,hxy⟩
  have:=AF (s:=s) (B:=ci s.cells xs) (x:=x) w.hZ (λc hc=>gU w.hZ w.nd c hc) (λc hc h=>((r8 w hc).mp h).2)
   (λz hz hzB h=>by rw[ph hz]at h;have:x=z:=(by simpa using h);rw[this];exact hzB) y (hx y hy) (m7 _ _ y hy) hxy
  exact this
 .intro h;refine o0 (p:=λy=>x∈entry (restTable s) y) (λc hc hy=>(r8 w hc).mpr ⟨hi,hy⟩) ⟨x,h,?_⟩;rw[ph hi];simp
def E2(w:WF s)(hx:∀x∈xs,x∈names s):restsOn s xs=(s.inputs.map (·.name)).filter λx=>decide (x∈ci s.cells xs):=by unfold restsOn gathered;apply Ts;intro x hi;have:=Hl w hx hi;rw[S6,Ve,decide_eq_true_eq,<-this,Tr];rfl
def lC(w:WF s){t:Nat×Formula}(h:t∈s.tests):∀x∈reads t.2,x∈names s:=(w.i6 t h).2
def m9(w:WF s)(h:c∈s.cells):∀x∈reads c.2,x∈names s:=λx hx=>w.hZ.reads c h x hx
def BJ(w:WF s)(h:c∈s.cells):restsOn s [c.1]=restsOn s (reads c.2):=by unfold restsOn gathered;apply Ts;intro x hi;rw[S6,Ve,Ve,Tr,Tr];show(∃y∈[c.1],x∈entry (restTable s) y)<->∃y∈reads c.2,x∈entry (restTable s) y;simp only[Sb,exists_eq_left];rw[r8 w h];exact⟨λq=>q.2,λq=>⟨hi,q⟩⟩
def E3(nd:l.Nodup)(h:x∈l):l.filter (λy=>decide (y=x))=[x]:=by
 induction l with
 |nil=>simp at h
 |cons a r ih=>
  have nd':=RK.mp nd;rw[Td];by_cases e:a=x
  .subst e;rw[ag (by simp)];have:r.filter (λy=>decide (y=a))=[]:=by
    rw[XC];intro y hy q;have:y=a:=by simpa using q
    exact nd'.1 (this▸hy)
   rw[this]
  .rw[ae (by simpa using e)];obtain q|q:=Rn.mp h
   .exact absurd q.symm e
   .exact ih nd'.2 q
def zC(w:WF s)(h:x∈s.inputs.map (·.name)):restsOn s [x]=[x]:=by refine Eq.trans ?_ (E3 w.zB h);unfold restsOn gathered;apply Ts;intro y hi;rw[S6,Ve,decide_eq_true_eq,Tr];show(∃z∈[x],y∈entry (restTable s) z)<->y=x;simp only[Sb,exists_eq_left];rw[ph h,Sb]
def xJ:∀(cs:List (Nat×Formula))(env:Env),∃u,grow env cs=env++u
 |[],env=>⟨[],by simp[Jt]⟩
 |c::r,env=>by let⟨u,hu⟩:=xJ r (env++[(c.1,eval env c.2)]);exact⟨(c.1,eval env c.2)::u,by rw[uS,hu];simp⟩
variable{x:Nat}
def De{env:Env}{r:Res}(h:x∉env.map (·.1)):lookup (env++[(x,r)]) x=r:=by
 unfold lookup;rw[Tp];have:env.find? (λy=>y.1==x)=zN:=by rw[S5];intro y hy e;exact h (Rm.mpr ⟨y,hy,by simpa using e⟩)
 rw[this];simp
def AG:∀(cs:List (Nat×Formula))(env:Env),CellsOk (env.map (·.1)) cs->(env.map (·.1)++cs.map (·.1)).Nodup->∀c∈cs,lookup (grow env cs) c.1=eval (grow env cs) c.2
 |[],_,_,_,c,hc=>by simp at hc
 |d::r,env,h,nd,c,hc=>by
  have e1:(env++[(d.1,eval env d.2)]).map (·.1)=env.map (·.1)++[d.1]:=by simp
  obtain e|e:=Rn.mp hc
  .subst e;let⟨u,hu⟩:=xJ r (env++[(c.1,eval env c.2)]);rw[uS];have hn:c.1∉env.map (·.1):=λq=>(Ss.mp nd).2.2 _ q c.1 (by simp) rfl;rw[hu,ic (by simp),De hn];apply eval_congr;intro x hx;rw[Sk,ic (h.2.1 x hx)]
  .rw[uS];exact AG r _ (by rw[e1];exact h.2.2) (by rw[e1];simpa [Sk]using nd) c e
variable{c:Nat×Formula}{s:State}
def E4(w:WF s){st:Setting}(hl:st.length=s.inputs.length)(h:c∈s.cells):lookup (envAt s st) c.1=eval (envAt s st) c.2:=by rw[Dc];exact AG s.cells (base s st) (by rw[r6 hl];exact w.hZ) (by rw[r6 hl];exact w.nd) c h
variable{i:Input}{k p:Nat}
def vQ(w:WF s){st:Setting}(hl:st.length=s.inputs.length)(h:s.inputs[k]?=zS i)(hp:st[k]?=zS p):lookup (envAt s st) i.name=.ok (valueAt i p):=by
 rw[Dc];let⟨u,hu⟩:=xJ s.cells (base s st);have hm:(i.name,Except.ok (valueAt i p))∈base s st:=by unfold base;refine Rm.mpr ⟨(i,p),?_,rfl⟩;apply Rz (i:=k);rw[WH];exact⟨h,hp⟩
 have hk:i.name∈(base s st).map (·.1):=Rm.mpr ⟨_,hm,rfl⟩;rw[hu,ic hk];exact lookup_at (by rw[r6 hl];exact w.zB) hm
def vR(s:State)(ns ps:List Nat):Setting:=(ns.zip ps).foldl (λst x=>placed s x.1 x.2 st) (setting s)
def kM{st:Setting}(h:st.length=s.inputs.length):(placed s x p st).length=s.inputs.length:=by unfold placed;rw[Rr,XD,h,Nat.min_self]
theorem r9{st:Setting}(h:st.length=s.inputs.length)(hi:s.inputs[k]?=zS i):(placed s x p st)[k]?=if i.name=x then zS p else st[k]?:=by
 unfold placed;have hk:k<s.inputs.length:=(RE.mp hi).1;have hk2:k<st.length:=by omega
 have ez:(s.inputs.zip st)[k]?=zS (i,st[k]):=by rw[WH];exact⟨hi,RC hk2⟩
 rw[RW,ez];show zS (if i.name=x then p else st[k])=_;split
 .rfl
 .rw[RC hk2]
def AH:∀(l:List (Nat×Nat))(st:Setting),st.length=s.inputs.length->(l.foldl (λst x=>placed s x.1 x.2 st) st).length=s.inputs.length
 |[],st,h=>h
 |x::r,st,h=>AH r _ (kM h)
variable{ns ps:List Nat}
def uU:(vR s ns ps).length=s.inputs.length:=AH _ _ (by unfold setting;rw[Rr])
def uV(hi:s.inputs[k]?=zS i):∀(l:List (Nat×Nat))(st:Setting),st.length=s.inputs.length->i.name∉l.map (·.1)->(l.foldl (λst x=>placed s x.1 x.2 st) st)[k]?=st[k]?
 |[],st,h,_=>rfl
 |x::r,st,h,hn=>by rw[Vf,uV hi r _ (kM h) (λq=>hn (Rp _ q)),r9 h hi,ae];intro e;exact hn (by rw[e];exact Rv)
def Df(hi:s.inputs[k]?=zS i):∀(l:List (Nat×Nat))(st:Setting),st.length=s.inputs.length->(l.map (·.1)).Nodup->∀p,(i.name,p)∈l->(l.foldl (λst x=>placed s x.1 x.2 st) st)[k]?=zS p
 |[],st,h,_,p,hp=>by simp at hp
 |x::r,st,h,nd,p,hp=>by
  have nd':=RK.mp (show(x.1::r.map (·.1)).Nodup from nd);rw[Vf];obtain e|e:=Rn.mp hp
  .subst e;rw[uV hi r _ (kM h) nd'.1,r9 h hi,ag rfl]
  .exact Df hi r _ (kM h) nd'.2 p e
def vS(hi:s.inputs[k]?=zS i):(setting s)[k]?=zS i.place:=by unfold setting;rw[RW,hi];rfl
def Hm(hi:s.inputs[k]?=zS i)(h:i.name∉ns):(vR s ns ps)[k]?=zS i.place:=by unfold vR;rw[uV hi _ _ (by unfold setting;rw[Rr]),vS hi];intro q;let⟨y,hy,e⟩:=Rm.mp q;exact h (by rw[<-e];exact(VI hy).1)
variable{j:Nat}
theorem Jx(nd:ns.Nodup)(hl:ns.length=ps.length)(hi:s.inputs[k]?=zS i)(hj:ns[j]?=zS i.name)(hp:ps[j]?=zS p):(vR s ns ps)[k]?=zS p:=by
 unfold vR;refine Df hi _ _ (by unfold setting;rw[Rr]) ?_ p ?_
 .rw[Xx (by omega)];exact nd
 .apply Rz (i:=j);rw[WH];exact⟨hj,hp⟩
def zD(s:State):∀(is:List Input)(ps:List Nat),withPlaces s is ps=vR s (is.map (·.name)) ps:=λis ps=>by unfold withPlaces vR;rw[XE,List.foldl_map];rfl
def r_(s:State)(ns ps:List Nat):Env:=envAt s (vR s ns ps)
def AI(w:WF s)(h:c∈s.cells):lookup (r_ s ns ps) c.1=eval (r_ s ns ps) c.2:=E4 w uU h
def Dg(w:WF s)(hi:i∈s.inputs)(h:i.name∉ns):lookup (r_ s ns ps) i.name=.ok (valueAt i i.place):=by let⟨k,hk⟩:=TJ.mp hi;exact vQ w uU hk (Hm hk h)
def Lp(w:WF s)(nd:ns.Nodup)(hl:ns.length=ps.length)(hi:i∈s.inputs)(hj:ns[j]?=zS i.name)(hp:ps[j]?=zS p):lookup (r_ s ns ps) i.name=.ok (valueAt i p):=by let⟨k,hk⟩:=TJ.mp hi;exact vQ w uU hk (Jx nd hl hk hj hp)
def Jy(s:State)(i:Input)(f:Formula):sweep s i f=((RM i.values.length).map λp=>[p]).map λps=>verdictOf (eval (r_ s [i.name] ps) f):=by unfold sweep;rw[RV];rfl
theorem Hn(w:WF s)(hi:i∈s.inputs)(f:Formula):(sweep s i f)[i.place]?=zS (verdictNow s f):=by
 have hp:=(w.fi i hi).wr;unfold sweep;rw[RW,RC (by simpa using hp)];simp only[XF,SN];congr 1;unfold verdictNow verdictAt;have:placed s i.name i.place (setting s)=setting s:=by
  apply Ui;intro k;by_cases hk:k<s.inputs.length
  .have hg:=RC hk;rw[r9 (by unfold setting;rw[Rr]) hg];split
   .rename_i e;rw[vS hg];have:=b7 w.zB (Rz hg) hi e;rw[this]
   .rfl
  .rw[SG (by rw[kM (by unfold setting;rw[Rr])];omega),SG (by unfold setting;rw[Rr];omega)]
 rw[this]
def xK{α:Type}(g:Nat->Nat->α)(b:Nat)(hb:0<b):∀a,(RM (a*b)).map (λk=>g (k/b) (k %b))=(RM a).flatMap λp=>(RM b).map λq=>g p q
 |0=>by simp
 |a+1=>by rw[XG,List.range_add,Sa,xK g b hb a,Uj,TK];congr 1;simp only[SR,XH,RB,RV];apply SE;intro q hq;have hq':q<b:=S7.mp hq;show g ((a*b+q)/b) ((a*b+q) %b)=g a q;rw[XI a b,Nat.mul_add_div hb,Nat.mul_add_mod,Nat.div_eq_of_lt hq',Nat.mod_eq_of_lt hq',Nat.add_zero]
def Lq(s:State)(i j:Input)(f:Formula)(hb:0<j.values.length):grid s i j f=((RM (i.values.length*j.values.length)).map λk=>[k/j.values.length,k %j.values.length]).map λps=>verdictOf (eval (r_ s [i.name,j.name] ps) f):=by rw[RV];exact(xK (λp q=>verdictOf (eval (r_ s [i.name,j.name] [p,q]) f)) j.values.length hb i.values.length).symm
def reachOf(i:Input)(left:Nat):List Nat:=(RM i.values.length).filter λp=>decide (apart p i.place<=left)
theorem gl(lo hi:Nat):∀n,hi<=n->(RM n).filter (λp=>decide (lo<=p/\p<hi))=Tt lo (hi-lo)
 |0,h=>by
  have:hi=0:=by omega
  subst this;simp
 |n+1,h=>by
  rw[Uj,Ua];by_cases e:hi<=n
  .rw[gl lo hi n e];have:([n]:List Nat).filter (λp=>decide (lo<=p/\p<hi))=[]:=by simp;omega
   rw[this,RB]
  .have eh:hi=n+1:=by omega
   subst eh;have e2:(RM n).filter (λp=>decide (lo<=p/\p<n+1))=(RM n).filter (λp=>decide (lo<=p/\p<n)):=by apply Ts;intro p hp;have:=S7.mp hp;rw[S6,decide_eq_true_eq,decide_eq_true_eq];omega
   rw[e2,gl lo n n (Ro _)];by_cases hl:lo<=n
   .have:([n]:List Nat).filter (λp=>decide (lo<=p/\p<n+1))=[n]:=by simp[hl]
    rw[this,Nat.succ_sub hl,List.range'_concat];congr 2;omega
   .have:([n]:List Nat).filter (λp=>decide (lo<=p/\p<n+1))=[]:=by simp;omega
    rw[this,RB];have a1:n-lo=0:=by omega
    have a2:n+1-lo=0:=by omega
    rw[a1,a2]
theorem sd{left:Nat}(h:i.place<i.values.length):reachOf i left=Tt (i.place-left) (min (i.values.length-1) (i.place+left)+1-(i.place-left)):=by unfold reachOf;rw[<-gl _ _ i.values.length (by omega)];apply Ts;intro p hp;have:=S7.mp hp;unfold apart;rw[S6,decide_eq_true_eq,decide_eq_true_eq];omega
def longer(b:List (List Nat×Nat))(i:Input):List (List Nat×Nat):=b.flatMap λx=>(reachOf i x.2).map λp=>(x.1++[p],x.2-apart p i.place)
def ended(b:List (List Nat×Nat)):List (List Nat):=(b.filter λx=>x.2==0).map (·.1)
def E5(d:Nat):around [] d=if d=0 then [[]]else []:=by cases d<;>rfl
def uW{α β γ:Type}(l:List α)(f:α->List β)(g:β->List γ):(l.flatMap f).flatMap g=l.flatMap λx=>(f x).flatMap g:=List.flatMap_assoc
def tX:∀(is:List Input)(b:List (List Nat×Nat)),ended (is.foldl longer b)=b.flatMap λx=>(around is x.2).map λl=>x.1++l
 |[],b=>by
  show ended b=_;unfold ended
  induction b with
  |nil=>rfl
  |cons x r ih=>
   rw[Td,SR,E5];by_cases e:x.2=0
   .simp[e,<-ih]
   .simp[e,<-ih]
 |i::is,b=>by rw[Vf,tX is];unfold longer;rw[uW,UC,UC];congr 1;apply SE;intro x _;rw[XJ];show _=((reachOf i x.2).flatMap λp=>(around is (x.2-apart p i.place)).map λl=>p::l).map _;rw[List.map_flatMap];rw[UC,UC];congr 1;apply SE;intro p _;rw[RV];apply SE;intro l _;simp
def AJ(is:List Input)(d:Nat):around is d=ended (is.foldl longer [([],d)]):=by rw[tX];simp
def sh:∀(is:List Input)(d:Nat),∀l∈around is d,l.length=is.length
 |[],0,l,h=>by simp[around]at h;rw[h];rfl
 |[],d+1,l,h=>by simp[around]at h
 |i::r,d,l,h=>by unfold around at h;let⟨p,_,hl⟩:=Tr.mp h;let⟨m,hm,rfl⟩:=Rm.mp hl;simp[sh r _ m hm]
def AK:∀(is:List Input)(d:Nat),∀l∈around is d,∀(j:Nat)(i:Input)(p:Nat),is[j]?=zS i->l[j]?=zS p->p<i.values.length
 |[],d,l,h,j,i,p,hi,_=>by simp at hi
 |i::r,d,l,h,j,k,q,hi,hq=>by
  unfold around at h;let⟨p,hp,hl⟩:=Tr.mp h;let⟨m,hm,rfl⟩:=Rm.mp hl
  cases j with
  |zero=>
   simp at hi hq;subst hi hq;exact S7.mp (Sn.mp hp).1
  |succ j=>exact AK r _ m hm j k q (by simpa using hi) (by simpa using hq)
variable{up:Bool}{f:Formula}{i:Input}{s:State}
def E6{k v:Nat}(way:Nat->Option Nat)(hw:∀j,(if up=true then(sweep s i f).drop (i.place+1)else((sweep s i f).take i.place).reverse)[j]?=way j)(hk:way k=zS v)(hv:v≠verdictNow s f)(hb:∀j,j<k->way j=zS (verdictNow s f)):edge s i f up=k+1:=by
 unfold edge;have:(if up=true then(sweep s i f).drop (i.place+1)else((sweep s i f).take i.place).reverse).findIdx? (λv=>v !=verdictNow s f)=zS k:=by rw[WA];have hk':=hk;rw[<-hw k]at hk';let⟨h1,h2⟩:=RE.mp hk';refine⟨h1,by rw[h2];simpa using hv,λj hj=>?_⟩;have hj':=hb j hj;rw[<-hw j]at hj';let⟨h3,h4⟩:=RE.mp hj';rw[h4];simp
 simp only[this]
def Ho(way:Nat->Option Nat)(hw:∀j,(if up=true then(sweep s i f).drop (i.place+1)else((sweep s i f).take i.place).reverse)[j]?=way j)(hb:∀j v,way j=zS v->v=verdictNow s f):edge s i f up=0:=by
 unfold edge;have:(if up=true then(sweep s i f).drop (i.place+1)else((sweep s i f).take i.place).reverse).findIdx? (λv=>v !=verdictNow s f)=zN:=by rw[Xr];intro v hv;let⟨j,hj⟩:=TJ.mp hv;rw[hw j]at hj;simp[hb j v hj]
 simp only[this]
def Nj(j:Nat):(if true=true then(sweep s i f).drop (i.place+1)else((sweep s i f).take i.place).reverse)[j]?=(sweep s i f)[i.place+1+j]?:=by rw[ag rfl,List.getElem?_drop]
def kj(s:State)(i:Input)(f:Formula):(sweep s i f).length=i.values.length:=by unfold sweep;rw[Rr,TM]
theorem Jz(w:WF s)(hi:i∈s.inputs)(j:Nat):(if false=true then(sweep s i f).drop (i.place+1)else((sweep s i f).take i.place).reverse)[j]?=if j<i.place then(sweep s i f)[i.place-1-j]? else zN:=by
 have hp:=(w.fi i hi).wr;rw[ae (by decide)];by_cases h:j<i.place
 .have hl:j<((sweep s i f).take i.place).length:=by rw[Sf,kj];omega
  rw[ag h,List.getElem?_reverse hl,Sf,kj];have e:min i.place i.values.length-1-j=i.place-1-j:=by omega
  rw[e,VJ,ag (by omega)]
 .rw[ae h,SG];rw[List.length_reverse,Sf,kj];omega
abbrev wx:=List (Nat×List Int)
def fS(t:wx)(x:Nat):Option (List Int):=(t.find? λy=>y.1==x).map (·.2)
def inl(t:wx):Formula->List Int
 | .const v=>[0,v]
 | .name x=>(fS t x).getD [1,(x:Int)]
 | .two o f g=>opNumber o::(inl t f++inl t g)
 | .cond c f g=>10::(inl t c++(inl t f++inl t g))
def qU(t:wx)(p:Piece):List Int:=if p.1=1 then(fS t p.2.toNat).getD [1,p.2]else if p.1=0 then [0,p.2]else [p.1]
theorem jb(t:wx):∀f:Formula,(pieces f).flatMap (qU t)=inl t f
 | .const v=>by simp[pieces,qU,inl]
 | .name x=>by simp[pieces,qU,inl]
 | .two o f g=>by
  have hb:=i8 o;have e1:¬opNumber o=0:=by omega
  have e2:¬opNumber o=1:=by omega
  simp only[pieces,SR,TK,jb t f,jb t g,inl];simp[qU,e1,e2]
 | .cond c f g=>by simp only[pieces,SR,TK,jb t f,jb t g,jb t c,inl];simp[qU]
abbrev xL:=List (Nat×Option Formula)
def ent(T:xL)(x:Nat):Option (Option Formula):=(T.find? λy=>y.1==x).map (·.2)
def rF(T:xL)(x:Nat):replaced T (.name x)=(ent T x).getD (zS (.name x)):=by unfold replaced ent;cases T.find? λy=>y.1==x<;>rfl
def fb{T:xL}{t:wx}:∀{f:Formula},(∀x∈reads f,(ent T x=zN/\fS t x=zN)\/∃g,ent T x=zS (zS g)/\fS t x=zS (flat g))->∃g,replaced T f=zS g/\flat g=inl t f
 | .const v,_=>⟨.const v,rfl,rfl⟩
 | .name x,h=>by
  rw[rF];obtain⟨h1,h2⟩|⟨g,h1,h2⟩:=h x (by simp[reads])
  .exact⟨.name x,by rw[h1];rfl,by simp[inl,h2,flat]⟩
  .exact⟨g,by rw[h1];rfl,by simp[inl,h2]⟩
 | .two o f g,h=>by let⟨a,a1,a2⟩:=fb (f:=f) λx hx=>h x (by simp[reads,hx]);let⟨b,b1,b2⟩:=fb (f:=g) λx hx=>h x (by simp[reads,hx]);exact⟨.two o a b,by simp[replaced,a1,b1],by simp[flat,inl,a2,b2]⟩
 | .cond c f g,h=>by let⟨d,d1,d2⟩:=fb (f:=c) λx hx=>h x (by simp[reads,hx]);let⟨a,a1,a2⟩:=fb (f:=f) λx hx=>h x (by simp[reads,hx]);let⟨b,b1,b2⟩:=fb (f:=g) λx hx=>h x (by simp[reads,hx]);exact⟨.cond d a b,by simp[replaced,a1,b1,d1],by simp[flat,inl,a2,b2,d2]⟩
def fe{T:xL}:∀{f:Formula},(∃x∈reads f,ent T x=zS zN)->replaced T f=zN
 | .const v,⟨x,hx,_⟩=>by simp[reads]at hx
 | .name y,⟨x,hx,h⟩=>by
  have:x=y:=by simpa [reads]using hx
  subst this;rw[rF,h];rfl
 | .two o f g,⟨x,hx,h⟩=>by
  obtain q|q:=Ru.mp hx
  .simp[replaced,fe (f:=f) ⟨x,q,h⟩]
  .simp[replaced,fe (f:=g) ⟨x,q,h⟩]
 | .cond c f g,⟨x,hx,h⟩=>by
  obtain q|q:=Ru.mp hx
  .obtain q|q:=Ru.mp q
   .simp[replaced,fe (f:=c) ⟨x,q,h⟩]
   .simp[replaced,fe (f:=f) ⟨x,q,h⟩]
  .simp[replaced,fe (f:=g) ⟨x,q,h⟩]
def gm(T:xL)(cs:List (Nat×Formula)):xL:=cs.foldl (λt c=>t++[(c.1,short (replaced t c.2))]) T
def jT(s:State):inlinedCells s=gm [] s.cells:=rfl
def E7(T:xL)(cs:List (Nat×Formula))(c:Nat×Formula):gm T (cs++[c])=gm T cs++[(c.1,short (replaced (gm T cs) c.2))]:=by unfold gm;rw[Vd];rfl
def jc:∀(cs:List (Nat×Formula))(T:xL),(gm T cs).map (·.1)=T.map (·.1)++cs.map (·.1)
 |[],T=>by simp[gm]
 |c::r,T=>by show(gm (T++[_]) r).map (·.1)=_;rw[jc r];simp
def uX:∀(cs:List (Nat×Formula))(T:xL),∃u,gm T cs=T++u
 |[],T=>⟨[],by simp[gm]⟩
 |c::r,T=>by let⟨u,hu⟩:=uX r (T++[(c.1,short (replaced T c.2))]);exact⟨(c.1,short (replaced T c.2))::u,by show gm (T++[_]) r=_;rw[hu];simp⟩
variable{x:Nat}{T:xL}
def xM{U:xL}(h:x∈T.map (·.1)):ent (T++U) x=ent T x:=by
 unfold ent;rw[Tp]
 cases e:T.find? λy=>y.1==x with
 |none=>
  let⟨y,hy,ey⟩:=Rm.mp h;have:=S5.mp e y hy;simp[ey]at this
 |some y=>rfl
def xN(h:x∉T.map (·.1)):ent T x=zN:=by
 unfold ent;have:T.find? (λy=>y.1==x)=zN:=by rw[S5];intro y hy e;exact h (Rm.mpr ⟨y,hy,by simpa using e⟩)
 rw[this];rfl
def JA{o:Option Formula}(h:x∉T.map (·.1)):ent (T++[(x,o)]) x=zS o:=by have h':=xN h;unfold ent at h'⊢;rw[Tp];have:T.find? (λy=>y.1==x)=zN:=XM.mp h';rw[this];simp
variable{cs ds:List (Nat×Formula)}
def vT:gm T (cs++ds)=gm (gm T cs) ds:=by unfold gm;rw[Vd]
variable{c:Nat×Formula}
def xO(w:WF s)(h:s.cells=cs++c::ds):ent (inlinedCells s) c.1=zS (short (replaced (gm [] cs) c.2)):=by
 rw[jT,h];have e:cs++c::ds=(cs++[c])++ds:=by simp
 rw[e,vT];let⟨u,hu⟩:=uX ds (gm [] (cs++[c]));rw[hu,xM (by rw[jc];simp),E7,JA];rw[jc];intro q;have nd:=w.Qa;rw[h,Sa,Ss]at nd;exact nd.2.2 c.1 (by simpa using q) c.1 (by simp) rfl
def xP(h:s.cells=cs++ds)(hx:x∈cs.map (·.1)):ent (gm [] cs) x=ent (inlinedCells s) x:=by rw[jT,h,vT];let⟨u,hu⟩:=uX ds (gm [] cs);rw[hu,xM (by rw[jc];simpa using hx)]
def AL(w:WF s)(hx:x∈s.inputs.map (·.name)):ent (inlinedCells s) x=zN:=by refine xN ?_;rw[jT,jc];intro q;exact(Ss.mp w.nd).2.2 x hx x (by simpa using q) rfl
def m_(w:WF s)(h:s.cells=cs++c::ds):∀x∈reads c.2,x∈s.inputs.map (·.name)++cs.map (·.1):=by
 have:∀{cs ds:List (Nat×Formula)}{ns:List Nat},CellsOk ns (cs++c::ds)->∀x∈reads c.2,x∈ns++cs.map (·.1):=by
  intro cs
  induction cs with
  |nil=>intro ds ns hc x hx;simpa using hc.2.1 x hx
  |cons d r ih=>intro ds ns hc x hx;simpa [Sk]using ih (ns:=ns++[d.1]) hc.2.2 x hx
 exact this (by rw[<-h];exact w.hZ)
def BK(w:WF s)(hf:∃x∈ci s.cells (reads f),ent (inlinedCells s) x=zS zN):inlined s f=zN:=by
 have:=o0 (p:=λx=>ent (inlinedCells s) x=zS zN) (cs:=s.cells) (xs:=reads f) (λc hc hy=>?_) hf
 .unfold inlined;rw[fe this];rfl
 .let⟨cs,ds,h⟩:=List.append_of_mem hc;rw[xO w h];let⟨y,hy,ey⟩:=hy;have hy2:=m_ w h y hy;have:ent (gm [] cs) y=zS zN:=by
   obtain q|q:=Ru.mp hy2
   .rw[AL w q]at ey;cases ey
   .rw[xP h q];exact ey
  rw[fe ⟨y,hy,this⟩];rfl
structure jC(s:State)(f:Formula)(cs:List (Nat×Formula))(t:wx):Prop where
 key:∀x,x∈t.map (·.1)<->x∈cs.map (·.1)/\x∈ci s.cells (reads f)
 val:∀x l,fS t x=zS l->∃g,ent (inlinedCells s) x=zS (zS g)/\l=flat g
variable{t:wx}
def Hq(h:x∈t.map (·.1)):∃l,fS t x=zS l:=by
 unfold fS
 cases e:t.find? λy=>y.1==x with
 |none=>
  let⟨y,hy,ey⟩:=Rm.mp h;have:=S5.mp e y hy;simp[ey]at this
 |some y=>exact⟨y.2,rfl⟩
def AM(h:x∉t.map (·.1)):fS t x=zN:=by
 unfold fS;have:t.find? (λy=>y.1==x)=zN:=by rw[S5];intro y hy e;exact h (Rm.mpr ⟨y,hy,by simpa using e⟩)
 rw[this];rfl
def qC{y:Nat}{l:List Int}(h:x∉t.map (·.1)):fS (t++[(x,l)]) y=if y=x then zS l else fS t y:=by
 unfold fS;rw[Tp];by_cases e:y=x
 .subst e;have:=AM h;unfold fS at this;rw[XM.mp this];simp
 .rw[ae e]
  cases t.find? λz=>z.1==y with
  |some z=>rfl
  |none=>simp[SY e]
variable{g:Formula}
def jC.BL(w:WF s)(h:jC s f cs t)(hs:s.cells=cs++ds)(hr:∀x∈reads g,x∈s.inputs.map (·.name)++cs.map (·.1))(hb:∀x∈reads g,x∈ci s.cells (reads f)):(∃a,replaced (gm [] cs) g=zS a/\flat a=inl t g)/\∃a,replaced (inlinedCells s) g=zS a/\flat a=inl t g:=by
 have key:∀x∈reads g,(ent (inlinedCells s) x=zN/\fS t x=zN/\ent (gm [] cs) x=zN)\/∃g,ent (inlinedCells s) x=zS (zS g)/\fS t x=zS (flat g)/\ent (gm [] cs) x=zS (zS g):=by
  intro x hx;by_cases hc:x∈cs.map (·.1)
  .let⟨l,hl⟩:=Hq ((h.key x).mpr ⟨hc,hb x hx⟩);let⟨g',h1,h2⟩:=h.val x l hl;subst h2;exact .inr ⟨g',h1,hl,by rw[xP hs hc];exact h1⟩
  .have hi:x∈s.inputs.map (·.name):=(Ru.mp (hr x hx)).resolve_right hc;exact .inl ⟨AL w hi,AM λq=>hc ((h.key x).mp q).1,xN (by rw[jc];simpa using hc)⟩
 refine⟨fb λx hx=>?_,fb λx hx=>?_⟩
 .obtain⟨a,b,c⟩|⟨g',a,b,c⟩:=key x hx
  .exact .inl ⟨c,b⟩
  .exact .inr ⟨g',c,b⟩
 .obtain⟨a,b,c⟩|⟨g',a,b,c⟩:=key x hx
  .exact .inl ⟨a,b⟩
  .exact .inr ⟨g',a,b⟩
def jC.start(s:State)(f:Formula):jC s f [] []:=⟨λx=>by simp,λx l h=>by simp[fS]at h⟩
def jC.skip(h:jC s f cs t)(hc:c.1∉ci s.cells (reads f)):jC s f (cs++[c]) t where
 key:=λx=>by
  rw[h.key x,Sa,Ru];constructor
  .rintro⟨a,b⟩;exact⟨.inl a,b⟩
  .rintro⟨a|a,b⟩
   .exact⟨a,b⟩
   .have:x=c.1:=by simpa using a
    exact absurd (this▸b) hc
 val:=h.val
theorem xQ(h:(flat g).length<=200):short (zS g)=zS g:=by show(if INLINED<(flat g).length then zN else zS g)=zS g;rw[ae (by show¬200<(flat g).length;omega)]
def xR(h:200<(flat g).length):short (zS g)=zN:=by show(if INLINED<(flat g).length then zN else zS g)=zN;rw[ag (show INLINED<(flat g).length from h)]
def jC.next(w:WF s)(h:jC s f cs t)(hs:s.cells=cs++c::ds)(hc:c.1∈ci s.cells (reads f))(hl:(inl t c.2).length<=200):jC s f (cs++[c]) (t++[(c.1,inl t c.2)]):=by
 have hn:c.1∉t.map (·.1):=λq=>by have nd:=w.Qa;rw[hs,Sa,Ss]at nd;exact nd.2.2 c.1 ((h.key _).mp q).1 c.1 (by simp) rfl
 refine⟨λx=>?_,λx l hx=>?_⟩
 .rw[Sa,Ru,h.key x,Sa,Ru];constructor
  .rintro(⟨a,b⟩|a)
   .exact⟨.inl a,b⟩
   .have:x=c.1:=by simpa using a
    subst this;exact⟨.inr (by simp),hc⟩
  .rintro⟨a|a,b⟩
   .exact .inl ⟨a,b⟩
   .exact .inr (by simpa using a)
 .rw[qC hn]at hx;split at hx
  .rename_i e;subst e;cases hx;let⟨⟨a,a1,a2⟩,_⟩:=h.BL w (g:=c.2) hs (m_ w hs) (gU w.hZ w.nd c (by rw[hs];simp) hc);exact⟨a,by rw[xO w hs,a1,xQ (by rw[a2];exact hl)],a2.symm⟩
  .exact h.val x l hx
def jC.long(w:WF s)(h:jC s f cs t)(hs:s.cells=cs++c::ds)(hc:c.1∈ci s.cells (reads f))(hl:200<(inl t c.2).length):inlined s f=zN:=by let⟨⟨a,a1,a2⟩,_⟩:=h.BL w (g:=c.2) hs (m_ w hs) (gU w.hZ w.nd c (by rw[hs];simp) hc);exact BK w ⟨c.1,hc,by rw[xO w hs,a1,xR (by rw[a2];exact hl)]⟩
def jC.done(w:WF s)(h:jC s f s.cells t)(hr:∀x∈reads f,x∈names s):(200<(inl t f).length->inlined s f=zN)/\((inl t f).length<=200->∃g,inlined s f=zS g/\flat g=inl t f):=by let⟨_,a,a1,a2⟩:=h.BL w (g:=f) (ds:=[]) (by simp) hr (m7 _ _);unfold inlined;rw[a1];exact⟨λq=>xR (by rw[a2];exact q),λq=>⟨a,xQ (by rw[a2];exact q),a2⟩⟩
def wt(b:List (List Nat×Nat)):Nat:=(b.map λx=>3^x.2).sum
theorem Nk(b:List (List Nat×Nat)):b.length<=wt b:=by
 unfold wt
 induction b with
 |nil=>exact Ro _
 |cons x r ih=>
  rw[RS,XN,RG];have:0<3^x.2:=Nat.pow_pos (by decide);omega
theorem sum_range'(f:Nat->Nat)(s:Nat):∀n m,n<=m->((Tt s n).map f).sum<=((Tt s m).map f).sum:=by intro n m h;obtain⟨k,rfl⟩:∃k,m=n+k:=⟨m-n,by omega⟩;have e:Tt s (n+k)=Tt s n++Tt (s+1*n) k:=List.range'_append.symm;rw[e,Sa,XO];omega
def E8:∀l,l<=4->∀p,p<l->((Tt 0 (p+l+1)).map λq=>3^(l-apart q p)).sum<=2*3^l:=by decide+kernel
def JB:∀l,l<=4->((RM (2*l+1)).map λk=>3^(l-apart k l)).sum<=2*3^l:=by decide+kernel
variable{i:Input}
theorem Hr{l:Nat}(h:i.place<i.values.length)(hl:l<=4):((reachOf i l).map λp=>3^(l-apart p i.place)).sum<=2*3^l:=by
 rw[sd h];by_cases c:i.place<l
 .have e:i.place-l=0:=by omega
  rw[e];refine RO (sum_range' _ 0 _ (i.place+l+1) (by omega)) (E8 l hl i.place c)
 .refine RO (sum_range' _ _ _ (2*l+1) (by omega)) ?_;refine RO (Vg ?_) (JB l hl);rw[XQ,RV];congr 1;apply SE;intro k _;show 3^(l-apart (i.place-l+k) i.place)=3^(l-apart k l);have:apart (i.place-l+k) i.place=apart k l:=by unfold apart;omega
  rw[this]
def Hs(b c:List (List Nat×Nat)):wt (b++c)=wt b+wt c:=by unfold wt;rw[Sa,XO]
theorem AO(h:i.place<i.values.length):∀(b:List (List Nat×Nat)),(∀x∈b,x.2<=4)->wt (longer b i)<=2*wt b
 |[],_=>Ro _
 |x::r,hb=>by
  have ih:=AO h r λy hy=>hb y (Rp _ hy);have e:longer (x::r) i=((reachOf i x.2).map λp=>(x.1++[p],x.2-apart p i.place))++longer r i:=by unfold longer;rw[SR]
  have e2:wt (x::r)=3^x.2+wt r:=by unfold wt;rw[RS,XN]
  rw[e,Hs,e2];have e3:wt ((reachOf i x.2).map λp=>(x.1++[p],x.2-apart p i.place))=((reachOf i x.2).map λp=>3^(x.2-apart p i.place)).sum:=by unfold wt;rw[RV];rfl
  rw[e3];have:=Hr (i:=i) h (hb x Rv);omega
theorem AQ{b:List (List Nat×Nat)}(hb:∀x∈b,x.2<=4):∀x∈longer b i,x.2<=4:=λx hx=>by unfold longer at hx;let⟨y,hy,hx⟩:=Tr.mp hx;let⟨p,_,rfl⟩:=Rm.mp hx;have:=hb y hy;show y.2-_<=4;omega
def OW:∀(is:List Input)(b:List (List Nat×Nat)),(∀i∈is,i.place<i.values.length)->(∀x∈b,x.2<=4)->wt (is.foldl longer b)<=2^is.length*wt b
 |[],b,_,_=>by simp
 |i::r,b,hi,hb=>by
  rw[Vf,RG];have h1:=OW r (longer b i) (λj hj=>hi j (Rp _ hj)) (AQ hb);have h2:=AO (hi i Rv) b hb
  calc wt (r.foldl longer (longer b i))<=2^r.length*wt (longer b i):=h1
   _<=2^r.length*(2*wt b):=Nat.mul_le_mul_left _ h2
   _=2^(r.length+1)*wt b:=by rw[Nat.pow_succ,Nat.mul_assoc]
variable{is:List Input}{d:Nat}
theorem uY(hn:is.length<=8)(hd:d<=4)(hi:∀i∈is,i.place<i.values.length):(is.foldl longer [([],d)]).length<=20736:=by
 have h1:=Nk (is.foldl longer [([],d)]);have h2:=OW is [([],d)] hi λx hx=>by rw[Sb.mp hx];exact hd
 have h3:wt [([],d)]=3^d:=by simp[wt]
 rw[h3]at h2;have h4:2^is.length<=2^8:=XR (by decide) hn;have h5:3^d<=3^4:=XR (by decide) hd;have h6:2^is.length*3^d<=2^8*3^4:=Nat.mul_le_mul h4 h5;have h7:2^8*3^4=20736:=by decide
 omega
def E9(hn:is.length<=8)(hd:d<=4)(hi:∀i∈is,i.place<i.values.length):(around is d).length<=20736:=by rw[AJ];unfold ended;rw[Rr];exact RO (Th _ _) (uY hn hd hi)
end ak
end
namespace PySem
open Sem (wp)
variable{a b:Addr}{Q:Bool->ZW->Prop}{h:Heap}{k x y:Int×List Int}
section
variable{prog:ZV}{w:World}
def dD(prog:ZV)(w:World)(h:Heap)(k:Int×List Int)(a:Addr):Prop:=
 ∃o items n b t,h.get? a=zS o/\o.cls=.type "tuple"/\o.data=.seq items n/\items.toList=[S0 k.1 t,.ref b]/\IsTupleKey (ZX prog w) h k.2 b
def dD.typeIs{s:ZW}(x:dD prog w s.heap k a):s.TypeIs (.ref a) "tuple":=let⟨o,_,_,_,_,ho,hc,_⟩:=x;⟨o,ho,hc⟩
def dD.inj(hx:dD prog w h x a)(hy:dD prog w h y a):x=y:=by let⟨o,items,n,b,t,ho,_,hd,hi,hb⟩:=hx;let⟨o',items',n',b',t',ho',_,hd',hi',hb'⟩:=hy;obtain rfl:o=o':=RA (ho.symm.trans ho');rw[hd]at hd';injection hd' with h1 _;subst h1;rw[hi]at hi';injection hi' with e1 e2;injection e1 with e3 _;injection e2 with e4 _;injection e4 with e5;subst e5;exact VA e3 (hb.inj hb')
def dD.keeps{h':Heap}{d:Addr}{o:Obj}{es ep}(x:dD prog w h k a)(ho:h.get? d=zS o)(hd:o.data=.dict es ep)(hs:Tu d h h'):dD prog w h' k a:=by
 let⟨o',items,n,b,t,ho',hc,hd',hi,hb⟩:=x;have hne:a≠d:=by rintro rfl;obtain rfl:o'=o:=RA (ho'.symm.trans ho);rw[hd]at hd';exact nomatch hd'
 exact⟨o',items,n,b,t,(hs.2 a hne).trans ho',hc,hd',hi,hb.keeps ho hd hs⟩
def pw(prog:ZV)(w:World)(k:Int×List Int):Int:=reduceHash (UD [hashInt k.1,ZY (ZX prog w) k.2])
variable{A:ZZ}{E:Value->ZW->Prop}{s:ZW}
def tY{Q:Int->ZW->Prop}(hu:A.units+4<cLine)(hk:dD prog w s.heap k a)(h:Q (pw prog w k) {s with toks:=s.toks+(k.2.length+3)}):wpAny (model prog w) A (pyHash (.ref a)) Q E s:=by
 have hT:=hk.typeIs;let⟨o,items,n,b,t,ho,_,hd,hi,hb⟩:=hk;unfold pyHash
 first|unfold pyHashByItsType|skip
 first|refine Z0 (wpAny_cRoomFor_or (.inr (VL (Su _ 4) hu)) ?_)|skip
 refine Z0 (Z1 hT VM.lookup ?_);show wpAny _ _ (if(zS (Value.builtin "tuple.__hash__")==zS S8)=true then _ else _) Q E s;rw[ae (by rw[beq_builtin_none];exact R5)];refine Z0 (Z1 hT VM.lookup ?_);show wpAny _ _ (callSpecialIfBoundUnlessNone? (.ref a) "__hash__" _>>=_) Q E s;refine Z0 (wpAny_callSpecialIfBoundUnlessNone?_slot hT VM (Z3 VM hT F.entry_tuple_hash ?_ (F.args_tuple_hash_1 _)));show wpAny _ _ (Zo (.ref a)>>=_) _ _ s;refine Z0 (wpAny_tupleItemsOf ho hd ?_);refine Z0 ?_;rw[<-WI,hi]
 refine Z4 _
  (λrest(r:Array Int) s'=>(rest=[S0 k.1 t,.ref b]/\r.toList=[]/\s'=s)\/(rest=[RF b]/\r.toList=[hashInt k.1]/\s'={s with toks:=s.toks+1})\/
   (rest=[]/\r.toList=[hashInt k.1,ZY (ZX prog w) k.2]/\s'={s with toks:=s.toks+(k.2.length+2)}))
  _ ?_ ?_ _ _ (.inl ⟨rfl,rfl,rfl⟩)
 .rintro x rest r s' (⟨e,hr,rfl⟩|⟨e,hr,rfl⟩|⟨e,_,_⟩)
  .injection e with e1 e2;subst e1 e2;refine Z0 ((ZX prog w).pyHash (k:=k.1) (by simp[ZX,UE]) ?_)
   first
    |exact Z5 (.inr (.inl ⟨rfl,by simp[hr,ZX],rfl⟩))
    |exact Z0 (Z5 (Z5 (.inr (.inl ⟨rfl,by simp[hr,ZX],rfl⟩))))
  .injection e with e1 e2;subst e1 e2;refine Z0 (wpAny_pyHash_tuple (knd:=ZX prog w) (ks:=k.2) ?_ hb ?_)
   .show A.in1.units<cLine;show A.units+1<cLine;omega
   .first
     |exact Z5 (.inr (.inr ⟨rfl,by simp[hr],by simp only[VN,WJ,XS]⟩))
     |exact Z0 (Z5 (Z5 (.inr (.inr ⟨rfl,by simp[hr],by simp only[VN,WJ,XS]⟩))))
  .cases e
 .rintro r s' (⟨e,_,_⟩|⟨e,_,_⟩|⟨_,hr,rfl⟩)
  .cases e
  .cases e
  .show wpAny _ _ (retInt (UD r.toList)) _ _ _;rw[hr];refine wpAny_ret_mkInt ?_;show wpAny _ _ (if(decide (-(2:Int)^63<=UD [hashInt k.1,ZY (ZX prog w) k.2])&&decide (UD [hashInt k.1,ZY (ZX prog w) k.2]<2^63))=true then _ else _) Q E _;unfold pw reduceHash at h;by_cases hr:(decide (-(2:Int)^63<=UD [hashInt k.1,ZY (ZX prog w) k.2])&&decide (UD [hashInt k.1,ZY (ZX prog w) k.2]<2^63))=true
   .rw[ag hr];rw[ag hr]at h;exact Z5 (by simpa [VN]using h)
   .rw[ae hr];rw[ae hr]at h;exact Z0 (Z6 (Z5 (by simpa [VN]using h)))
def BM{P:Fin->ZW->Prop}(hu:A.units<cLine)(hx:dD prog w s.heap x a)(hy:dD prog w s.heap y b)(h:P (.done (.ret (.bool (decide (x=y))))) s):wpAny (model prog w) A (Z7.«tuple.__eq__» ⟨[.ref a,.ref b],[]⟩) P E s:=by
 have hTb:=hy.typeIs;let⟨oa,xs,na,ba,ta,hoa,_,hda,hia,hxa⟩:=hx;let⟨ob,ys,nb,bb,tb,hob,_,hdb,hib,hyb⟩:=hy;show wpAny _ _ (isInstance (.ref b) (.type "tuple")>>=_) _ _ s;refine Z0 (Z8 hTb Z9 ?_);simp only[RL,RJ,if_false];refine Z0 (wpAny_tupleItemsOf hoa hda ?_);refine Z0 (wpAny_tupleItemsOf hob hdb ?_);refine Z0 ?_;have hz:List.zip xs.toList ys.toList=[(S0 x.1 ta,S0 y.1 tb),(.ref ba,.ref bb)]:=by rw[hia,hib];rfl
 have hsz:(xs.size==ys.size)=true:=by
  have h1:xs.size=2:=by rw[<-SJ,hia];rfl
  have h2:ys.size=2:=by rw[<-SJ,hib];rfl
  rw[h1,h2];rfl
 refine Z4 _
  (λrest r s'=>r.1=zN/\s'=s/\(rest=[(S0 x.1 ta,S0 y.1 tb),(.ref ba,.ref bb)]\/(rest=[(RF ba,RF bb)]/\x.1=y.1)\/(rest=[]/\x=y)))
  _ ?_ ?_ _ _ ⟨rfl,rfl,.inl hz⟩
 .rintro⟨u,v⟩ rest r s' ⟨hr,rfl,e|⟨e,e0⟩|⟨e,_⟩⟩
  .injection e with e1 e2;injection e1 with e3 e4;subst e2 e3 e4;refine Z0 ((ZX prog w).eqBool (a:=x.1) (b:=y.1) (by simp[ZX,UE]) (by simp[ZX,UE]) ?_);by_cases hk:x.1=y.1
   .rw[decide_eq_true hk];simp only[RL,RJ,if_false];exact Z5 ⟨rfl,rfl,.inr (.inl ⟨by simp,hk⟩)⟩
   .rw[decide_eq_false hk];simp only[R3,if_true];have hf:decide (x=y)=false:=decide_eq_false λq=>hk (by rw[q]);rw[hf]at h;exact Z0 (Z5 (Z5 (Z5 h)))
  .injection e with e1 e2;injection e1 with e3 e4;subst e2 e3 e4;refine Z0 (wpAny_eqBool_tuple (knd:=ZX prog w) hu hxa hyb ?_);by_cases hk:x.2=y.2
   .rw[decide_eq_true hk];simp only[RL,RJ,if_false];exact Z5 ⟨rfl,rfl,.inr (.inr ⟨by simp,VA e0 hk⟩)⟩
   .rw[decide_eq_false hk];simp only[R3,if_true];have hf:decide (x=y)=false:=decide_eq_false λq=>hk (by rw[q]);rw[hf]at h;exact Z0 (Z5 (Z5 (Z5 h)))
  .cases e
 .rintro⟨r1,r2⟩ s' ⟨hr,rfl,e|⟨e,_⟩|⟨_,e⟩⟩
  .cases e
  .cases e
  .simp only at hr;subst hr;refine Z5 ?_;show P (.done (.ret (.bool (xs.size==ys.size)))) s';rw[hsz];rw[decide_eq_true e]at h;exact h
def tZ(hu:A.units+4<cLine)(hx:dD prog w s.heap x a)(hy:dD prog w s.heap y b)(h:Q (decide (x=y)) s):wpAny (model prog w) A (eqBool (.ref a) (.ref b)) Q E s:=by
 unfold eqBool
 try with_reducible refine Z_ ?_
 show wpAny _ _ (if(RF a==RF b)=true then _ else _) Q E s;by_cases hab:(RF a==RF b)=true
 .rw[ag hab];have e:a=b:=by have:=eq_of_beq hab;injection this
  subst e;obtain rfl:=hx.inj hy;exact Z0 (Z6 (Z5 (by simpa using h)))
 .rw[ae hab]
  exact Z0 (wpAny_richCompare_same_room (op:=.Eq) hx.typeIs hy.typeIs VO
   (Z3 VO hx.typeIs F.entry_tuple_eq (BM (by show A.units+1<cLine;omega) hx hy ⟨_,rfl,(λe=>nomatch e),aaa h⟩) (F.args_tuple_eq_2 _ _)) (by omega))
def ng{ks:List Int}(hk:IsTupleKey (ZX prog w) s.heap ks a)(h:Q true s):wpAny (model prog w) A (eqIsQuiet 7 (.ref a)) Q E s:=by
 have hT:=hk.typeIs;let⟨o,items,n,ho,_,hd,hi⟩:=hk;unfold eqIsQuiet;refine Z0 (Z1 hT VO.lookup ?_);show wpAny _ _ (isInstance (.ref a) (.type "tuple")>>=_) _ _ s;refine Z0 (Z8 hT Z9 ?_);simp only[RL,RJ,if_false];refine Z0 (aab ho hd ?_);refine Z0 ?_;show wpAny _ _ (forIn items _ _) _ _ s;rw[<-WI];refine Z4 _ (λrest r s'=>r.1=zN/\s'=s/\∀v∈rest,carriedByValue v=true) _ ?_ ?_ _ _ ⟨rfl,rfl,hi.byValue⟩
 .rintro v rest r s' ⟨hr,rfl,hall⟩;rw[eqIsQuiet_byValue _ (hall v Rv)];refine Z0 (Z5 ?_);simp only[RL,RJ,if_false];exact Z5 ⟨rfl,rfl,λu hu'=>hall u (Rp _ hu')⟩
 .rintro⟨r1,r2⟩ s' ⟨hr,rfl,_⟩;simp only at hr;subst hr;exact Z5 h
def pz(hk:dD prog w s.heap k a)(h:Q true s):wpAny (model prog w) A (eqIsQuiet 8 (.ref a)) Q E s:=by
 have hT:=hk.typeIs;let⟨o,items,n,b,t,ho,_,hd,hi,hb⟩:=hk;unfold eqIsQuiet;refine Z0 (Z1 hT VO.lookup ?_);show wpAny _ _ (isInstance (.ref a) (.type "tuple")>>=_) _ _ s;refine Z0 (Z8 hT Z9 ?_);simp only[RL,RJ,if_false];refine Z0 (aab ho hd ?_);refine Z0 ?_;show wpAny _ _ (forIn items _ _) _ _ s;rw[<-WI,hi];refine Z4 _ (λrest r s'=>r.1=zN/\s'=s/\(rest=[S0 k.1 t,.ref b]\/rest=[RF b]\/rest=[])) _ ?_ ?_ _ _ ⟨rfl,rfl,.inl rfl⟩
 .rintro v rest r s' ⟨hr,rfl,e|e|e⟩
  .injection e with e1 e2;subst e1 e2;rw[eqIsQuiet_byValue _ rfl];refine Z0 (Z5 ?_);simp only[RL,RJ,if_false];exact Z5 ⟨rfl,rfl,.inr (.inl (by simp))⟩
  .injection e with e1 e2;subst e1 e2;refine Z0 (ng hb ?_);simp only[RL,RJ,if_false];exact Z5 ⟨rfl,rfl,.inr (.inr (by simp))⟩
  .cases e
 .rintro⟨r1,r2⟩ s' ⟨hr,rfl,_⟩;simp only at hr;subst hr;exact Z5 h
end
def mx(prog:ZV)(w:World):HeapKind prog w (Int×List Int)where
 is:=dD prog w
 hash:=pw prog w
 draws:=λk=>k.2.length+3
 room:=λA=>A.units+4<cLine
 inj:=λhx hy=>hx.inj hy
 keeps:=λx ho hd hs=>x.keeps ho hd hs
 pyHash:=λhu hk h=>tY hu hk h
 eqBool:=λhu hx hy h=>tZ hu hx hy h
 quiet:=λhk h=>pz hk h
end PySem
namespace L2
open PySem PySem.Spec PyProof.Rows
abbrev Key:=Sum Int Str
def rG:Key->Value->Bool
 | .inl k,v=>UE k v
 | .inr x,v=>XT x v
def Qz(w:World):Key->Int
 | .inl k=>hashInt k
 | .inr x=>hashStr w x
def dJ:∀{k:Key}{v:Value},rG k v=true->(∃i t,k=Rk i/\v=S0 i t)\/(∃x t,k=Uk x/\v=UG x t)
 | .inl i,v,h=>by let⟨t,e⟩:=Value.isInt_shape (k:=i) (v:=v) h;exact .inl ⟨i,t,rfl,e⟩
 | .inr x,v,h=>by let⟨t,e⟩:=Value.isStrOf_shape (x:=x) (v:=v) h;exact .inr ⟨x,t,rfl,e⟩
def Ht(i:Int)(t:Tok):rG (.inl i) (.int i t)=true:=by simp[rG,UE]
def Hu(x:Str)(t:Tok):rG (.inr x) (.str x t)=true:=by simp[rG,XT]
def Nl(a b:Int):decide ((Rk a:Key)=Rk b)=(a==b):=by
 by_cases e:a=b
 .subst e;simp
 .have h:¬(Rk a:Key)=Rk b:=λq=>e (Sum.inl.inj q);rw[decide_eq_false h];exact(beq_eq_false_iff_ne.mpr e).symm
def Nm(a b:Str):decide ((Uk a:Key)=Uk b)=decide (a=b):=by
 by_cases e:a=b
 .subst e;simp
 .have h:¬(Uk a:Key)=Uk b:=λq=>e (Sum.inr.inj q);rw[decide_eq_false h,decide_eq_false e]
def Nn(a:Int)(b:Str):decide ((Rk a:Key)=Uk b)=false:=decide_eq_false (λq=>nomatch q)
def No(a:Str)(b:Int):decide ((Uk a:Key)=Rk b)=false:=decide_eq_false (λq=>nomatch q)
def cB(prog:ZV)(w:World):PySem.KeyKind prog w Key where
 is:=rG
 hash:=Qz w
 inj:=λv a b ha hb=>by
  obtain⟨i,t,rfl,rfl⟩|⟨x,t,rfl,rfl⟩:=dJ ha
  .obtain⟨j,u,rfl,e⟩|⟨y,u,rfl,e⟩:=dJ hb
   .injection e with e1 _;rw[e1]
   .exact nomatch e
  .obtain⟨j,u,rfl,e⟩|⟨y,u,rfl,e⟩:=dJ hb
   .exact nomatch e
   .injection e with e1 _;rw[e1]
 byValue:=λk v h=>by obtain⟨i,t,rfl,rfl⟩|⟨x,t,rfl,rfl⟩:=dJ h<;>rfl
 pyHash:=λhv h=>by
  obtain⟨i,t,rfl,rfl⟩|⟨x,t,rfl,rfl⟩:=dJ hv
  .exact wpAny_pyHash_int h
  .exact wpAny_pyHash_str h
 eqBool:=λhu hv h=>by
  obtain⟨i,t,rfl,rfl⟩|⟨x,t,rfl,rfl⟩:=dJ hu
  .obtain⟨j,u,rfl,rfl⟩|⟨y,u,rfl,rfl⟩:=dJ hv
   .rw[Nl]at h;exact wpAny_eqBool_int h
   .rw[Nn]at h;exact XU i t y u _ _ _ _ h
  .obtain⟨j,u,rfl,rfl⟩|⟨y,u,rfl,rfl⟩:=dJ hv
   .rw[No]at h;exact XW x t j u _ _ _ _ h
   .rw[Nm]at h;exact wpAny_eqBool_str h
 «strs»:=λk x t v h=>by
  obtain⟨i,u,rfl,e⟩|⟨y,u,rfl,e⟩:=dJ h
  .exact nomatch e
  .injection e with e1 _;subst e1;cases v<;>rfl
def Dh(prog:ZV)(w:World)(i:Int)(t:Tok):(cB prog w).is (.inl i) (.int i t)=true:=Ht i t
def Di(prog:ZV)(w:World)(x:Str)(t:Tok):(cB prog w).is (.inr x) (.str x t)=true:=Hu x t
inductive V where
 |d7|bl (b:Bool)|int (i:Int)|str (x:Str)|EL (b:Array UInt8)|flt (b:UInt64)|ref (a:Addr)|ty (n:String)
 deriving DecidableEq
def RelV:V->Value->Prop
 | .d7,u=>u=S8
 | .bl b,u=>u=XX b
 | .int i,u=>∃t,u=S0 i t
 | .str x,u=>∃t,u=UG x t
 | .EL b,u=>∃t,u=XY b t
 | .flt b,u=>∃t,u=XZ b t
 | .ref a,u=>u=RF a
 | .ty n,u=>u=Ul n
abbrev Vals:List V->List Value->Prop:=Paired RelV
def Vals.length{xs:List V}{us:List Value}(r:Vals xs us):xs.length=us.length:=Sv r
def Vals.get:∀{xs:List V}{us:List Value}{i:Nat}{x:V},Vals xs us->xs[i]?=zS x->∃u,us[i]?=zS u/\RelV x u
 |_,_,_,_,.nil,e=>by simp at e
 |_,_,0,_,.cons r _,e=>by simp at e;subst e;exact⟨_,rfl,r⟩
 |_,_,i+1,x,.cons _ t,e=>by let⟨u,h1,h2⟩:=Vals.get (i:=i) (x:=x) t (by simpa using e);exact⟨u,by simpa using h1,h2⟩
def Vals.set{x:V}{u:Value}(r:RelV x u):∀{xs:List V}{us:List Value}(i:Nat),Vals xs us->Vals (xs.set i x) (us.set i u)
 |_,_,_,.nil=>.nil
 |_,_,0,.cons _ t=>.cons r t
 |_,_,i+1,.cons q t=>.cons q (Vals.set r i t)
def Vals.append:∀{xs ys:List V}{us ws:List Value},Vals xs us->Vals ys ws->Vals (xs++ys) (us++ws)
 |_,_,_,_,.nil,s=>s
 |_,_,_,_,.cons r t,s=>.cons r (Vals.append t s)
def Vals.take:∀{xs:List V}{us:List Value}(n:Nat),Vals xs us->Vals (xs.take n) (us.take n)
 |_,_,0,_=>.nil
 |_,_,_+1,.nil=>.nil
 |_,_,n+1,.cons r t=>.cons r (Vals.take n t)
def Vals.drop:∀{xs:List V}{us:List Value}(n:Nat),Vals xs us->Vals (xs.drop n) (us.drop n)
 |_,_,0,r=>r
 |_,_,_+1,.nil=>.nil
 |_,_,n+1,.cons _ t=>Vals.drop n t
def lS:Option V->Option Value->Prop
 |some v,zS u=>RelV v u
 |none,zN=>True
 |_,_=>False
def KV{κ:Type}:List (κ×V)->List (κ×Value)->Prop:=Paired λ(p:κ×V)(q:κ×Value)=>p.1=q.1/\RelV p.2 q.2
def kV:Key->V
 | .inl i=>.int i
 | .inr x=>.str x
inductive HO where
 |lst (xs:List V)
 |tup (xs:List V)
 |dK (kvs:List (Key×V))|dT (kvs:List (List Key×V))|dN (kvs:List ((Int×List Int)×V))
 |set (S:Int->Bool) (n:Nat)
 |ins (C dx:Addr) (fs:List (Str×V))
 |own (x:Addr)
 |xd (fs:List (Str×V))
 |met (f x:Addr)
 |Hh (lo hi:Int)
 |fg (o:Obj) (u:HO)
 |Np (ps:Array Value)
 |ext (φ:Heap->Prop)
abbrev Hp:=Addr->Option HO
def upd(H:Hp)(a:Addr)(o:HO):Hp:=λb=>if b=a then zS o else H b
variable{a:Addr}{o:HO}{H:Hp}
def aa:upd H a o a=zS o:=by unfold upd;rw[ag rfl]
variable{b:Addr}
def ab(h:b≠a):upd H a o b=H b:=by unfold upd;rw[ae h]
variable{u:HO}
def aQ(h:H a=zS o)(h':H b=zS u)(d:o≠u):a≠b:=by intro e;subst e;rw[h]at h';exact d (RA h')
def ay(h:H a=zS o)(h':H b=zN):a≠b:=by intro e;subst e;rw[h]at h';cases h'
section
variable(P:ZV)(w:World)
def dz(H:Hp)(h:Heap)(a:Addr):HO->Prop
 | .lst xs=>xs.length<=aac/\∃(aR:List Value)(n:Nat),Vals xs aR/\h.get? a=zS {cls:=.type "list",data:=.seq aR.toArray n}
 | .tup xs=>xs.length<=aac/\∃aR:List Value,Vals xs aR/\IsTup h a aR.toArray
 | .dK kvs=>kvs.length<=aac/\(a==aad)=false/\∃vs,KV kvs vs/\h.DictOf (cB P w) a vs
 | .dT kvs=>kvs.length<=aac/\(a==aad)=false/\∃xs:List (List Key×Addr×Value),
   Paired (λ(p:List Key×V)(q:List Key×Addr×Value)=>p.1=q.1/\H q.2.1=zS (.tup (p.1.map kV))/\RelV p.2 q.2.2) kvs xs/\
   ∃o es ep,h.get? a=zS o/\o.ExactDict/\o.data=.dict es ep/\es.toList=xs.map (entryOfKey (tupleKind (cB P w)))/\(xs.map (·.1)).Nodup
 | .dN kvs=>kvs.length<=aac/\(a==aad)=false/\∃xs:List ((Int×List Int)×Addr×Value),
   Paired (λ(p:(Int×List Int)×V)(q:(Int×List Int)×Addr×Value)=>p.1=q.1/\(∃b,H q.2.1=zS (.tup [.int p.1.1,.ref b])/\H b=zS (.tup (p.1.2.map V.int)))/\RelV p.2 q.2.2) kvs xs/\
   ∃o es ep,h.get? a=zS o/\o.ExactDict/\o.data=.dict es ep/\es.toList=xs.map (entryOfKey (mx P w))/\(xs.map (·.1)).Nodup
 | .set S n=>h.SetOf (ZX P w) a S n
 | .ins C dx fs=>H dx=zS (.own a)/\fs.length<=1000/\dx≠a/\h.get? a=zS (TN C dx)/\
   ∃mA,h.Ns1 dx mA/\(∀f,lS (fs.lookup f) (mA f))/\WK mA (fs.map (·.1))
 | .own _=>∃o,h.get? a=zS o
 | .xd fs=>∃mA,h.Ns1 a mA/\∀f,lS (fs.lookup f) (mA f)
 | .Hh lo hi=>∃t u v,h.get? a=zS {cls:=.type "range",data:=.fields #[.int lo t,.int hi u,.int 1 v]}
 | .fg o u=>h.get? a=zS o/\dz H h a u
 | .Np ps=>h.get? a=zS {cls:=.none,data:=.fields ps}
 | .met f x=>h.get? a=zS (WL (.ref f) (.ref x))
 | .ext φ=>φ h/\(∃o,h.get? a=zS o)/\∀h1 h2:Heap,φ h1->(∀o,h1.get? a=zS o->h2.get? a=zS o)->φ h2
def oC(H:Hp)(h:Heap):Prop:=∀a o,H a=zS o->dz P w H h a o
end
section
variable{P:ZV}{w:World}{H H':Hp}{h h':Heap}{a:Addr}{o:HO}
def dz.lt(x:dz P w H h a o):a<h.objs.size:=by
 cases o with
 |lst xs=>let⟨_,_,_,_,e⟩:=x;exact Rw e
 |tup xs=>let⟨_,_,_,p⟩:=x;exact p.lt
 |dK kvs=>let⟨_,_,_,_,o,_,_,e,_⟩:=x;exact Rw e
 |dT kvs=>let⟨_,_,_,_,o,_,_,e,_⟩:=x;exact Rw e
 |dN kvs=>let⟨_,_,_,_,o,_,_,e,_⟩:=x;exact Rw e
 |set S n=>let⟨o,_,_,_,e,_⟩:=x;exact Rw e
 |ins C dx fs=>let⟨_,_,_,e,_⟩:=x;exact Rw e
 |own y=>let⟨_,e⟩:=x;exact Rw e
 |xd fs=>let⟨_,⟨_,_,_,e,_⟩,_⟩:=x;exact Rw e
 |Hh lo hi=>let⟨_,_,_,e⟩:=x;exact Rw e
 |fg ob u=>let⟨e,_⟩:=x;exact Rw e
 |Np ps=>exact Rw (show h.get? a=zS _ from x)
 |met f y=>exact Rw (show h.get? a=zS _ from x)
 |ext φ=>let⟨_,⟨_,e⟩,_⟩:=x;exact Rw e
def Paired.j9{α β:Type}{F G:α->β->Prop}:∀{l₁:List α}{l₂:List β},Paired F l₁ l₂->(∀a b,F a b->G a b)->Paired G l₁ l₂
 |_,_,.nil,_=>.nil
 |_,_,.cons r t,f=>.cons (f _ _ r) (Paired.j9 t f)
def dz.uZ(x:dz P w H h a o)(k:∀b u,(b=a\/H b=zS (.own a))->h.get? b=zS u->h'.get? b=zS u)(ho:∀b,H b=zS (.own a)->H' b=zS (.own a))(ht:∀b xs,H b=zS (.tup xs)->H' b=zS (.tup xs)):dz P w H' h' a o:=by
 induction o with
 |lst xs=>let⟨z,aR,n,r,e⟩:=x;exact⟨z,aR,n,r,k _ _ (.inl rfl) e⟩
 |tup xs=>let⟨z,aR,r,ob,e,c⟩:=x;exact⟨z,aR,r,ob,k _ _ (.inl rfl) e,c⟩
 |dK kvs=>let⟨z,y,vs,r,ob,es,ep,e,c⟩:=x;exact⟨z,y,vs,r,ob,es,ep,k _ _ (.inl rfl) e,c⟩
 |dT kvs=>
  let⟨z,y,xs,r,ob,es,ep,e,c⟩:=x;exact⟨z,y,xs,Paired.j9 r λp q z=>⟨z.1,ht _ _ z.2.1,z.2.2⟩,ob,es,ep,k _ _ (.inl rfl) e,c⟩
 |dN kvs=>
  let⟨z,y,xs,r,ob,es,ep,e,c⟩:=x;exact⟨z,y,xs,Paired.j9 r λp q z=>⟨z.1,let⟨b,hb1,hb2⟩:=z.2.1;⟨b,ht _ _ hb1,ht _ _ hb2⟩,z.2.2⟩,ob,es,ep,k _ _ (.inl rfl) e,c⟩
 |set S n=>let⟨ob,es,ep,t,e,c⟩:=x;exact⟨ob,es,ep,t,k _ _ (.inl rfl) e,c⟩
 |ins C dx fs=>
  let⟨d,z,ne,e,mA,⟨od,es,ep,e2,c⟩,r⟩:=x;exact⟨ho _ d,z,ne,k _ _ (.inl rfl) e,mA,⟨od,es,ep,k _ _ (.inr d) e2,c⟩,r⟩
 |own y=>let⟨ob,e⟩:=x;exact⟨ob,k _ _ (.inl rfl) e⟩
 |xd fs=>let⟨mA,⟨od,es,ep,e,c⟩,r⟩:=x;exact⟨mA,⟨od,es,ep,k _ _ (.inl rfl) e,c⟩,r⟩
 |Hh lo hi=>let⟨t,u,v,e⟩:=x;exact⟨t,u,v,k _ _ (.inl rfl) e⟩
 |fg ob u ih=>let⟨e,q⟩:=x;exact⟨k _ _ (.inl rfl) e,ih q⟩
 |Np ps=>
  have e:h.get? a=zS {cls:=.none,data:=.fields ps}:=x;show h'.get? a=zS {cls:=.none,data:=.fields ps};exact k a _ (.inl rfl) e
 |met f y=>
  have e:h.get? a=zS (WL (.ref f) (.ref y)):=x;show h'.get? a=zS (WL (.ref f) (.ref y));exact k a _ (.inl rfl) e
 |ext φ=>let⟨p,⟨o,e⟩,st⟩:=x;exact⟨st _ _ p λo q=>k _ _ (.inl rfl) q,⟨o,k _ _ (.inl rfl) e⟩,st⟩
def oC.lt(x:oC P w H h)(e:H a=zS o):a<h.objs.size:=(x a o e).lt
def oC.fresh(x:oC P w H h)(e:h.objs.size<=a):H a=zN:=by
 cases q:H a with
 |none=>rfl
 |some u=>exact absurd (Sw (x.lt q) e) (Te _)
def oC.kept(x:oC P w H h)(k:∀b u,h.get? b=zS u->h'.get? b=zS u):oC P w H h':=λa o e=>
 (x a o e).uZ (λb u _ q=>k b u q) (λ_ q=>q) λ_ _ q=>q
def oC.laid(x:oC P w H h)(k:∀b u,h.get? b=zS u->h'.get? b=zS u)(hp:h.objs.size<=a)(new:dz P w (upd H a o) h' a o):oC P w (upd H a o) h':=λb u e=>by
 have hn:=x.fresh hp;by_cases hb:b=a
 .subst hb;rw[aa]at e;cases e;exact new
 .rw[ab hb]at e;exact(x b u e).uZ (λc v _ q=>k c v q) (λc q=>by rw[ab (ay q hn)];exact q) λc xs q=>by rw[ab (ay q hn)];exact q
end
def Rd(H:Hp)(a:Addr)(u:HO):Prop:=H a=zS u\/∃o,H a=zS (.fg o u)
variable{h:Heap}
def Rd.ok{P:ZV}{w:World}(r:Rd H a u)(x:oC P w H h):dz P w H h a u:=by
 obtain r|⟨o,r⟩:=r
 .exact x a u r
 .let⟨_,q⟩:=x a _ r;exact q
def JC:Option HO->Prop
 |some (.lst _)=>True
 |some (.dK _)=>True
 |some (.dT _)=>True
 |some (.dN _)=>True
 |some (.set _ _)=>True
 |some (.ins _ _ _)=>True
 |some (.ext _)=>True
 |_=>False
section
variable{P:ZV}{w:World}{H:Hp}{h h':Heap}{x e:Addr}{o':HO}
def oC.write(ok:oC P w H h)(mu:JC (H x))(he:e=x\/H e=zS (.own x))(k:∀b u,b≠e->h.get? b=zS u->h'.get? b=zS u)(heo:∃u,h'.get? e=zS u)(new:dz P w (upd H x o') h' x o'):oC P w (upd H x o') h':=λb u q=>by
 have nown:∀c y,H c=zS (.own y)->c≠x:=λc y r z=>by subst z;rw[r]at mu;exact mu
 have ntup:∀c xs,H c=zS (.tup xs)->c≠x:=λc xs r z=>by subst z;rw[r]at mu;exact mu
 by_cases hb:b=x
 .subst hb;rw[aa]at q;cases q;exact new
 .rw[ab hb]at q;by_cases hbe:b=e
  .have q':H b=zS (.own x):=by
    obtain z|z:=he
    .exact absurd (hbe.trans z) hb
    .rw[hbe];exact z
   rw[q]at q';cases q';let⟨v,hv⟩:=heo;exact⟨v,by rw[hbe];exact hv⟩
  .refine(ok b u q).uZ (λc v hc r=>k c v ?_ r) (λc r=>by rw[ab (nown c b r)];exact r) λc xs r=>by rw[ab (ntup c xs r)];exact r
   obtain rfl|hc:=hc
   .exact hbe
   .rintro rfl;obtain z|z:=he
    .exact nown c b hc z
    .rw[hc]at z;cases z;exact hb rfl
end
structure Un(fs ex:List Addr)(H H':Hp)(h h':Heap):Prop where
 keep:∀b o,h.get? b=zS o->H b=zN->b∉fs->b∉ex->h'.get? b=zS o
 slot:∀b o,h.get? b=zS o->H b=zN->b∈fs->b∉ex->∃sl,h'.get? b=zS {o with slots:=sl}
 free:∀b o,h.get? b=zS o->H b=zN->b∉ex->H' b=zN
 there:∀b o,h.get? b=zS o->b∉ex->∃o',h'.get? b=zS o'
 BO:∀b xs,H b=zS (.tup xs)->H' b=zS (.tup xs)
 xS:∀b o u,H b=zS (.fg o u)->H' b=zS (.fg o u)
 BP:∀b ps,H b=zS (.Np ps)->∃more,H' b=zS (.Np (ps++more))
section
variable{fs fs' ex ex':List Addr}{H H1 H2:Hp}{h h1 h2 h':Heap}{a x e:Addr}{o:HO}
def Un.any(u:Un fs ex H H1 h h1){ob:Obj}(q:h.get? b=zS ob)(n:H b=zN)(hx:b∉ex):∃sl,h1.get? b=zS {ob with slots:=sl}:=by
 by_cases hb:b∈fs
 .exact u.slot b ob q n hb hx
 .exact⟨ob.slots,u.keep b ob q n hb hx⟩
def Un.kept(k:∀b u,h.get? b=zS u->h'.get? b=zS u):Un fs ex H H h h':=
 ⟨λb ob q _ _ _=>k b ob q,λb ob q _ _ _=>⟨ob.slots,k b ob q⟩,λ_ _ _ n _=>n,λb ob q _=>⟨ob,k b ob q⟩,λ_ _ q=>q,λ_ _ _ q=>q,λ_ ps q=>⟨#[],by rw[q];simp⟩⟩
def Un.refl:Un fs ex H H h h:=Un.kept λ_ _ q=>q
def Un.laid(k:∀b u,h.get? b=zS u->h'.get? b=zS u)(hp:h.objs.size<=a)(hn:H a=zN):Un fs ex H (upd H a o) h h' where
 keep:=λb u q _ _ _=>k b u q
 slot:=λb u q _ _ _=>⟨u.slots,k b u q⟩
 free:=λb u q n _=>by rw[ab (Sd (Sw (Rw q) hp))];exact n
 there:=λb u q _=>⟨u,k b u q⟩
 BO:=λb xs q=>by rw[ab (ay q hn)];exact q
 xS:=λb u xs q=>by rw[ab (ay q hn)];exact q
 BP:=λb ps q=>⟨#[],by rw[ab (ay q hn),q];simp⟩
def Un.write(mu:JC (H x))(he:e=x\/H e=zS (.own x))(k:∀b u,b≠e->h.get? b=zS u->h'.get? b=zS u)(heo:∃u,h'.get? e=zS u):Un fs ex H (upd H x o) h h':=by
 have hx:∀b,H b=zN->b≠x:=λb n z=>by subst z;rw[n]at mu;exact mu
 have hb:∀b,H b=zN->b≠e:=λb n z=>by
  subst z;obtain r|r:=he
  .exact hx b n r
  .rw[n]at r;cases r
 have hm:∀b u,H b=zS u->¬JC (zS u)->b≠x:=λb u q nm z=>by subst z;rw[q]at mu;exact nm mu
 refine⟨λb u q n _ _=>k b u (hb b n) q,λb u q n _ _=>⟨u.slots,k b u (hb b n) q⟩,λb u q n _=>by rw[ab (hx b n)];exact n,λb u q _=>?_,
  λb xs q=>by rw[ab (hm b _ q λz=>z)];exact q,λb u xs q=>by rw[ab (hm b _ q λz=>z)];exact q,λb ps q=>⟨#[],by rw[ab (hm b _ q λz=>z),q];simp⟩⟩
 by_cases hbe:b=e
 .subst hbe;exact heo
 .exact⟨u,k b u hbe q⟩
end
def Qb(h:Heap)(H:Hp):List Addr:=(RM h.objs.size).filter λa=>(H a).isSome
def BQ(h:Heap)(H:Hp):Heap:=PySem.W.hideAll h (Qb h H)
def Hv(h:Heap)(H:Hp):(BQ h H).objs.size=h.objs.size:=PySem.W.hideAll_size _ _
def JD{o:Obj}(e:h.get? b=zS o)(n:H b=zN):(BQ h H).get? b=zS o:=
 PySem.W.hideAll_get _ e λhm=>by have q:(H b).isSome=true:=(Sn.mp hm).2;rw[n]at q;simp at q
def Lr{o:Obj}(e:(BQ h H).get? b=zS o):h.get? b=zS o/\H b=zN:=by
 have e':h.get? b=zS o:=PySem.W.of_hideAll (Qb h H) e;refine⟨e',?_⟩
 cases q:H b with
 |none=>rfl
 |some x=>
  have hm:b∈Qb h H:=Sn.mpr ⟨S7.mpr (Rw e'),by simp[q]⟩;have z:(BQ h H).get? b=zN:=PySem.W.hideAll_none (Qb h H) hm;rw[z]at e;cases e
def Ls(g h:Heap)(L:Addr):List (Addr×Obj):=(RM h.objs.size).filterMap λa=>if a=L\/(g.get? a).isSome=true then zN else(h.get? a).map λo=>(a,o)
def rest(g h:Heap)(L d:Addr):List (Addr×Obj):=(Ls g h L).filter λp=>decide (p.1≠d)
structure Mod(K:Rl)(mg:Str->Option Value)(base:Heap):Prop where
 Qc:K.In base
 glob:base.Ns ZU mg
 blt:∃mb,base.Ns builtinsNs mb/\∀x:Str,x≠"__name__"->mb x=aae x
 nolimit:base.NoLimit
structure Cx where
 prog:ZV
 w:World
 K:Rl
 mg:Str->Option Value
 base:Heap
 A:ZZ
 N:List Str
 AS:ZW
 Nq:Hp
 env:Env
 outer:List Env
 stack:List Env
 ex:List Addr
 fn:Str->Bool
 calm:Bool
 pn:List (Addr×Obj)
 xe:Value->ZW->Prop
def JE(l:List Env):List Addr:=l.filterMap (·.frame)
abbrev Cx.fs(X:Cx):List Addr:=JE X.outer
def Oy(sc:Scope)(x:Str):Prop:=sc.names.lookup x=zS .local\/sc.names.lookup x=zS .cell\/sc.names.lookup x=zS .free
def Loc(sc:Scope)(x:Str):Prop:=sc.names.lookup x=zS .local\/sc.names.lookup x=zS .cell
def Look(env:Env)(h:Heap)(m:Str->Option Value)(x:Str)(u:Value):Prop:=
 (env.kindOf x=zS .local/\m x=zS u)\/((env.kindOf x=zS .cell\/env.kindOf x=zS .free)/\∃c,env.cells.lookup x=zS c/\h.IsCell c (zS u))
structure Cx.Ok(X:Cx):Prop where
 mod:Mod X.K X.mg X.base
 kind:X.env.scope.kind=.function
 glob:X.env.globals=ZU
 blt:X.env.builtins=builtinsNs
 above:X.AS.heap.objs.size<=X.env.locals
 inj:∀x y c,X.env.cells.lookup x=zS c->X.env.cells.lookup y=zS c->x=y
 has:∀x,(X.env.kindOf x=zS .cell\/X.env.kindOf x=zS .free)->∃c,X.env.cells.lookup x=zS c
 OX:∀x c,X.fn x=true->X.env.cells.lookup x=zS c->X.AS.heap.objs.size<=c
 hd:X.calm=true->X.A.handled=zN
 frames:X.A.frames=zS X.stack
 Qe:X.stack=X.outer\/(X.stack=X.env::X.outer/\X.env.frame=zS X.env.locals)
 Qg:∀b∈X.ex,b≠X.env.locals/\∀x c,X.env.cells.lookup x=zS c->c≠b
 bs:∀b o,X.base.get? b=zS o->X.AS.heap.get? b=zS o/\X.Nq b=zN
 Lu:X.base.objs.size<=X.AS.heap.objs.size
 JF:∀b o,X.base.get? b=zS o->b∉X.ex
 JG:∀b∈X.ex,b∉X.fs
 wy:X.AS.heap.FunFrames X.base X.outer
 Nr:∀b∈X.fs,X.Nq b=zN
structure Inv(X:Cx)(π:List (Addr×Obj))(σ:List (Option V))(H:Hp)(s:ZW):Prop where
 ok:X.Ok
 os:s.os=X.AS.os
 bare:AllBare s.gens
 base:Un X.fs X.ex X.Nq H X.AS.heap s.heap
 loc:∃m,s.heap.Ns X.env.locals m/\∀(i:Nat)(x:Str)(v:V),X.N[i]?=zS x->σ[i]?=zS (zS v)->Oy X.env.scope x->∃u,RelV v u/\Look X.env s.heap m x u
 cell:∀x c,X.env.cells.lookup x=zS c->∃v,s.heap.IsCell c v
 free:H X.env.locals=zN
 my:∀x c,X.env.cells.lookup x=zS c->H c=zN
 pin:∀p∈X.pn++π,s.heap.get? p.1=zS p.2/\H p.1=zN/\p.1≠X.env.locals/\p.1∉X.fs/\∀v,p.2.data≠.cell v
 cA:oC X.prog X.w H s.heap
 len:σ.length=X.N.length
variable{a:Addr}{A:ZZ}{g':Array GenState}{d':Drawn}{o:HO}{ch:List Addr}{M:Model}{i t':Nat}{x:Str}{Q:Unit->ZW->Prop}{v:V}{u:Value}{E:Value->ZW->Prop}
section
variable{X:Cx}{π:List (Addr×Obj)}{σ:List (Option V)}{H H':Hp}{s:ZW}{h':Heap}
def Cx.Ok.QA(ok:X.Ok){b:Addr}{o:Obj}(e:X.base.get? b=zS o):b∉X.fs:=λhb=>by have:=(ok.wy.mem hb).1;rw[e]at this;cases this
def Inv.bs(I:Inv X π σ H s):∀b o,X.base.get? b=zS o->s.heap.get? b=zS o/\H b=zN:=λb o e=>
 ⟨I.base.keep b o (I.ok.bs b o e).1 (I.ok.bs b o e).2 (I.ok.QA e) (I.ok.JF b o e),I.base.free b o (I.ok.bs b o e).1 (I.ok.bs b o e).2 (I.ok.JF b o e)⟩
def Inv.bk(I:Inv X π σ H s):∀b o,X.base.get? b=zS o->s.heap.get? b=zS o:=λb o e=>(I.bs b o e).1
def Inv.mod(I:Inv X π σ H s):Mod X.K X.mg X.base:=I.ok.mod
def Inv.Hw(I:Inv X π σ H s):X.K.In s.heap:=I.ok.mod.Qc.keeps I.bk
def Inv.lt(I:Inv X π σ H s):X.env.locals<s.heap.objs.size:=let⟨_,hn,_⟩:=I.loc;hn.lt
def Inv.sz(I:Inv X π σ H s):X.AS.heap.objs.size<=s.heap.objs.size:=RO I.ok.above (TQ I.lt)
def Inv.QB(I:Inv X π σ H s)(h:s.heap.objs.size<=a):a∉X.fs:=λhb=>by let⟨_,o,ho,_⟩:=I.ok.wy.mem hb;exact absurd (Sw (Rw ho) (RO I.sz h)) (Te _)
def Inv.Nt(I:Inv X π σ H s):∀x c,X.env.cells.lookup x=zS c->c≠X.env.locals:=λx c e z=>by let⟨v,o,ho,hd⟩:=I.cell x c e;let⟨m,⟨o',es,ep,ho',hd',_⟩,_⟩:=I.loc;rw[z,ho']at ho;cases ho;rw[hd']at hd;cases hd
def Inv.wy(I:Inv X π σ H s):s.heap.FunFrames X.base X.outer:=by
 have all:∀(l:List Env),(∀b∈JE l,b∈X.fs)->X.AS.heap.FunFrames X.base l->s.heap.FunFrames X.base l:=by
  intro l
  induction l with
  |nil=>intro _ _;trivial
  |cons env r ih=>
   intro hs hl;let⟨hk,⟨L,o,hf,hn,ho,hd⟩,hr⟩:=hl;have hL:L∈X.fs:=hs L (by unfold JE;rw[Vh,hf];exact Rv);let⟨sl,e⟩:=I.base.slot L o ho (I.ok.Nr L hL) hL λz=>I.ok.JG L z hL;exact⟨hk,⟨L,_,hf,hn,e,hd⟩,ih (λb hb=>hs b (by unfold JE;rw[Vh,hf];exact Rp _ hb)) hr⟩
 exact all X.outer (λ_ hb=>hb) I.ok.wy
def Inv.stack(I:Inv X π σ H s):s.heap.FunFrames X.base X.stack:=by
 obtain e|⟨e,hf⟩:=I.ok.Qe
 .rw[e];exact I.wy
 .rw[e];let⟨m,hn,_⟩:=I.loc;refine .cons (by rw[I.ok.kind];decide) hf hn ?_ I.wy;exact Heap.get?_none_of_le (RO I.ok.Lu I.ok.above)
def Inv.E_(I:Inv X π σ H s):∀b∈JE X.stack,b∈X.env.locals::X.fs:=λb hb=>by
 obtain e|⟨e,hf⟩:=I.ok.Qe
 .rw[e]at hb;exact Rp _ hb
 .rw[e]at hb;unfold JE at hb;rw[Vh,hf]at hb;exact hb
def Inv.Gx(I:Inv X π σ H s):∀b∈JE X.stack,H b=zN:=λb hb=>by
 obtain e|hb:=Rn.mp (I.E_ b hb)
 .rw[e];exact I.free
 .let⟨_,o,ho,_⟩:=I.ok.wy.mem hb;exact I.base.free b o ho (I.ok.Nr b hb) λz=>I.ok.JG b z hb
def Inv.step(I:Inv X π σ H s)(hch:∀b∈ch,(b∈X.ex\/X.AS.heap.objs.size<=b)/\b≠X.env.locals/\(∀x c,X.env.cells.lookup x=zS c->c≠b)/\∀p∈X.pn++π,p.1≠b)(keep:∀b o,b≠X.env.locals->b∉X.fs->b∉ch->s.heap.get? b=zS o->H b=zN->h'.get? b=zS o)(slot:∀b o,b≠X.env.locals->b∈X.fs->b∉ch->s.heap.get? b=zS o->H b=zN->∃sl,h'.get? b=zS {o with slots:=sl})(free:∀b o,b∉ch->s.heap.get? b=zS o->H b=zN->H' b=zN)(there:∀b o,b∉ch->s.heap.get? b=zS o->∃o',h'.get? b=zS o')(BO:∀b xs,H b=zS (.tup xs)->H' b=zS (.tup xs))(xS:∀b o u,H b=zS (.fg o u)->H' b=zS (.fg o u))(BP:∀b ps,H b=zS (.Np ps)->∃more,H' b=zS (.Np (ps++more)))(ns:∀m,s.heap.Ns X.env.locals m->h'.Ns X.env.locals m)(cA:oC X.prog X.w H' h')(hg:AllBare g'):Inv X π σ H' {s with heap:=h',gens:=g',drawn:=d',toks:=t'}:=by
 have neL:∀b o,X.AS.heap.get? b=zS o->b≠X.env.locals:=λb o e=>Sd (Sw (Rw e) I.ok.above);have neC:∀b o,X.AS.heap.get? b=zS o->b∉X.ex->b∉ch:=λb o e hx hb=>by
  obtain z|z:=(hch b hb).1
  .exact hx z
  .exact absurd (Sw (Rw e) z) (Te _)
 have cellK:∀x c,X.env.cells.lookup x=zS c->∀v,s.heap.IsCell c v->h'.IsCell c v:=λx c e v⟨o,ho,hd⟩=>by
  have nch:c∉ch:=λz=>(hch c z).2.2.1 x c e rfl;by_cases hc:c∈X.fs
  .let⟨sl,q⟩:=slot c o (I.Nt x c e) hc nch ho (I.my x c e);exact⟨_,q,hd⟩
  .exact⟨o,keep c o (I.Nt x c e) hc nch ho (I.my x c e),hd⟩
 refine⟨I.ok,I.os,hg,⟨λb o e n hb hx=>?_,λb o e n hb hx=>?_,λb o e n hx=>?_,λb o e hx=>?_,λb xs e=>BO b xs (I.base.BO b xs e),λb o xs e=>xS b o xs (I.base.xS b o xs e),λb ps e=>?_⟩,?_,λx c e=>?_,?_,λx c e=>?_,λp hp=>?_,cA,I.len⟩
 .exact keep b o (neL b o e) hb (neC b o e hx) (I.base.keep b o e n hb hx) (I.base.free b o e n hx)
 .let⟨sl,e1⟩:=I.base.slot b o e n hb hx;let⟨sl',e2⟩:=slot b _ (neL b o e) hb (neC b o e hx) e1 (I.base.free b o e n hx);exact⟨sl',e2⟩
 .let⟨o',e1⟩:=I.base.there b o e hx;exact free b o' (neC b o e hx) e1 (I.base.free b o e n hx)
 .let⟨o',e1⟩:=I.base.there b o e hx;exact there b o' (neC b o e hx) e1
 .let⟨m1,e1⟩:=I.base.BP b ps e;let⟨m2,e2⟩:=BP b _ e1;exact⟨m1++m2,by rw[e2,Array.append_assoc]⟩
 .let⟨m,hn,hl⟩:=I.loc;refine⟨m,ns m hn,λi x v e1 e2 e3=>?_⟩;let⟨u,r,l⟩:=hl i x v e1 e2 e3;refine⟨u,r,?_⟩;obtain l|⟨k,c,e,z⟩:=l
  .exact .inl l
  .exact .inr ⟨k,c,e,cellK x c e _ z⟩
 .let⟨v,z⟩:=I.cell x c e;exact⟨v,cellK x c e v z⟩
 .let⟨m,⟨o,_,_,ho,_⟩,_⟩:=I.loc;exact free _ o (λz=>(hch _ z).2.1 rfl) ho I.free
 .let⟨v,o,ho,hd⟩:=I.cell x c e;exact free c o (λz=>(hch c z).2.2.1 x c e rfl) ho (I.my x c e)
 .let⟨e,n,ne,nf,d⟩:=I.pin p hp;have nch:p.1∉ch:=λz=>(hch p.1 z).2.2.2 p hp rfl;exact⟨keep p.1 p.2 ne nf nch e n,free p.1 p.2 nch e n,ne,nf,d⟩
def Inv.un(I:Inv X π σ H s)(u:Un X.fs [] H H' s.heap h')(cA:oC X.prog X.w H' h'):Inv X π σ H' {s with heap:=h',toks:=t'}:=by
 let⟨m,⟨o,es,ep,ho,r⟩,_⟩:=id I.loc;let⟨sl,hL⟩:=u.any ho I.free (by simp);exact I.step (g':=s.gens) (d':=s.drawn) (ch:=[]) (λ_ z=>nomatch z) (λb o _ hb _ e n=>u.keep b o e n hb (by simp)) (λb o _ hb _ e n=>u.slot b o e n hb (by simp)) (λb o _ e n=>u.free b o e n (by simp)) (λb o _ e=>u.there b o e (by simp)) u.BO u.xS u.BP (λm' hm=>by let⟨o',es',ep',ho',r'⟩:=hm;rw[ho]at ho';cases ho';exact⟨_,es',ep',hL,r'⟩) cA I.bare
def Inv.call(I:Inv X π σ H s)(u:Un (JE X.stack) ch H H' s.heap h')(cA:oC X.prog X.w H' h')(hg:AllBare g')(hch:∀b∈ch,(b∈X.ex\/X.AS.heap.objs.size<=b)/\b≠X.env.locals/\(∀x c,X.env.cells.lookup x=zS c->c≠b)/\∀p∈X.pn++π,p.1≠b):Inv X π σ H' {s with heap:=h',gens:=g',drawn:=d',toks:=t'}:=by
 let⟨m,⟨o,es,ep,ho,r⟩,_⟩:=id I.loc;let⟨sl,hL⟩:=u.any ho I.free λz=>(hch _ z).2.1 rfl;exact I.step (ch:=ch) hch (λb o hL hb hc e n=>u.keep b o e n (λz=>(Rn.mp (I.E_ b z)).elim hL hb) hc) (λb o _ _ hc e n=>u.any e n hc) (λb o hc e n=>u.free b o e n hc) (λb o hc e=>u.there b o e hc) u.BO u.xS u.BP (λm' hm=>by let⟨o',es',ep',ho',r'⟩:=hm;rw[ho]at ho';cases ho';exact⟨_,es',ep',hL,r'⟩) cA hg
def Inv.turned{it:Addr}(I:Inv X π σ H s)(k:∀b o,b≠it->s.heap.get? b=zS o->h'.get? b=zS o)(hn:H it=zN)(hL:it≠X.env.locals)(h1:it∈X.ex\/X.AS.heap.objs.size<=it)(h2:∀x c,X.env.cells.lookup x=zS c->c≠it)(h3:∀p∈X.pn++π,p.1≠it):Inv X π σ H {s with heap:=h',toks:=t'}:=by
 have nit:∀b u,H b=zS u->b≠it:=λb u e z=>by rw[z,hn]at e;cases e
 refine I.step (g':=s.gens) (d':=s.drawn) (ch:=[it]) (λb hb=>?_) (λb o _ _ hc e _=>k b o (λz=>hc (by simp[z])) e) (λb o _ _ hc e _=>⟨o.slots,k b o (λz=>hc (by simp[z])) e⟩) (λ_ _ _ _ n=>n)
  (λb o hc e=>⟨o,k b o (λz=>hc (by simp[z])) e⟩) (λ_ _ e=>e) (λ_ _ _ e=>e) (λb ps e=>⟨#[],by rw[e];simp⟩) (λm hm=>?_) (λb u e=>?_) I.bare
 .have e:b=it:=by simpa using hb
  subst e;exact⟨h1,hL,h2,h3⟩
 .let⟨o,es,ep,ho,r⟩:=hm;exact⟨o,es,ep,k _ o (SY hL) ho,r⟩
 .refine(I.cA b u e).uZ (λc v hc q=>k c v ?_ q) (λ_ q=>q) λ_ _ q=>q;obtain z|z:=hc
  .rw[z];exact nit b u e
  .exact nit c _ z
def Inv.tok(I:Inv X π σ H s)(t:Nat):Inv X π σ H {s with toks:=t}:=I.un (h':=s.heap) (t':=t) Un.refl I.cA
def Inv.kept(I:Inv X π σ H s)(k:∀b u,s.heap.get? b=zS u->h'.get? b=zS u):Inv X π σ H {s with heap:=h',toks:=t'}:=I.un (Un.kept k) (I.cA.kept k)
def Inv.laid(I:Inv X π σ H s)(k:∀b u,s.heap.get? b=zS u->h'.get? b=zS u)(hp:s.heap.objs.size<=a)(new:dz X.prog X.w (upd H a o) h' a o):Inv X π σ (upd H a o) {s with heap:=h',toks:=t'}:=I.un (Un.laid k hp (I.cA.fresh hp)) (I.cA.laid k hp new)
def Inv.write{x e:Addr}(I:Inv X π σ H s)(mu:JC (H x))(he:e=x\/H e=zS (.own x))(k:∀b u,b≠e->s.heap.get? b=zS u->h'.get? b=zS u)(heo:∃u,h'.get? e=zS u)(new:dz X.prog X.w (upd H x o) h' x o):Inv X π σ (upd H x o) {s with heap:=h',toks:=t'}:=I.un (Un.write mu he k heo) (I.cA.write mu he k heo new)
def Inv.weak{σ':List (Option V)}(I:Inv X π σ H s)(hl:σ'.length=σ.length)(w:∀(i:Nat) v,σ'[i]?=zS (zS v)->σ[i]?=zS (zS v)):Inv X π σ' H s:=
 ⟨I.ok,I.os,I.bare,I.base,let⟨m,hn,hl'⟩:=I.loc;⟨m,hn,λi x v e1 e2 e3=>hl' i x v e1 (w i v e2) e3⟩,I.cell,I.free,I.my,I.pin,I.cA,hl.trans I.len⟩
def Inv.Gy{pins':List (Addr×Obj)}(I:Inv X π σ H s)(h:∀p∈pins',s.heap.get? p.1=zS p.2/\H p.1=zN/\p.1≠X.env.locals/\p.1∉X.fs/\∀v,p.2.data≠.cell v):Inv X pins' σ H s:=
 ⟨I.ok,I.os,I.bare,I.base,I.loc,I.cell,I.free,I.my,λp hp=>(Ru.mp hp).elim (λz=>I.pin p (Sm _ z)) (h p),I.cA,I.len⟩
def xT{N:List Str}(hN:N.Nodup){j:Nat}(a:N[i]?=zS x)(b:N[j]?=zS x):i=j:=by let⟨h1,e1⟩:=RE.mp a;let⟨h2,e2⟩:=RE.mp b;exact(Xv hN).mp (e1.trans e2.symm)
def AT(I:Inv X π σ H s)(hN:X.N.Nodup)(hi:X.N[i]?=zS x)(hx:Loc X.env.scope x)(r:RelV v u)(h:∀s',Inv X π (σ.set i (zS v)) H s'->(∃a,Tu a s.heap s'.heap/\(a=X.env.locals\/X.env.cells.lookup x=zS a))->Q () s')(hf:X.fn x=true\/X.env.scope.names.lookup x=zS .local:=by first|exact .inl rfl|exact .inr rfl|assumption):wpAny M A (storeName X.env x u) Q E s:=by
 let⟨m,hn,hl⟩:=id I.loc;have hcls:(X.env.scope.kind== .class||(X.env.scope.kind== .module&&X.env.locals !=X.env.globals))=false:=by rw[I.ok.kind];rfl
 have hiσ:i<σ.length:=by rw[I.len];exact(RE.mp hi).1
 have Nt:=I.Nt;have tracked:∀{a:Addr}{h':Heap},(∃o,s.heap.get? a=zS o/\H a=zN)->Tu a s.heap h'->oC X.prog X.w H h':=λ{a h'} ha hs b ob e=>by
  let⟨_,_,hfree⟩:=ha;refine(I.cA b ob e).uZ (λc w' hc q=>(hs.2 c ?_).trans q) (λ_ q=>q) λ_ _ q=>q;rintro rfl;obtain rfl|hc:=hc
  .rw[hfree]at e;cases e
  .rw[hfree]at hc;cases hc
 obtain hk|hk:=hx
 .refine wpAny_storeName_local hk hn (λh' hn' hs=>?_) hcls;let⟨oL,_,_,hoL,_⟩:=id hn;refine h _ ⟨I.ok,I.os,I.bare,⟨λb o e n hb hx=>?_,λb o e n hb hx=>?_,I.base.free,λb o e hx=>?_,I.base.BO,I.base.xS,I.base.BP⟩,⟨_,hn',λj y v' e1 e2 e3=>?_⟩,λy c e=>?_,I.free,I.my,λp hp=>?_,tracked ⟨oL,hoL,I.free⟩ hs,by simpa using I.len⟩ ⟨_,hs,.inl rfl⟩
  .exact(hs.2 b (Sd (Sw (Rw e) I.ok.above))).trans (I.base.keep b o e n hb hx)
  .let⟨sl,e1⟩:=I.base.slot b o e n hb hx;exact⟨sl,(hs.2 b (Sd (Sw (Rw e) I.ok.above))).trans e1⟩
  .let⟨o',e1⟩:=I.base.there b o e hx;exact⟨o',(hs.2 b (Sd (Sw (Rw e) I.ok.above))).trans e1⟩
  .by_cases hj:j=i
   .subst hj;rw[hi]at e1;cases e1;rw[WM hiσ]at e2;cases e2;exact⟨u,r,.inl ⟨hk,by simp⟩⟩
   .rw[VP (SY hj)]at e2;let⟨u',r',q⟩:=hl j y v' e1 e2 e3;refine⟨u',r',?_⟩;obtain⟨k,e⟩|⟨k,c,e,z⟩:=q
    .refine .inl ⟨k,?_⟩;have:y≠x:=λe=>hj (xT hN e1 (e▸hi));simp[this,e]
    .exact .inr ⟨k,c,e,z.sameBut hs (Nt y c e)⟩
  .let⟨w',z⟩:=I.cell y c e;exact⟨w',z.sameBut hs (Nt y c e)⟩
  .let⟨e,n,ne,nf,d⟩:=I.pin p hp;exact⟨(hs.2 p.1 ne).trans e,n,ne,nf,d⟩
 .have hfn:X.fn x=true:=by
   obtain z|z:=hf
   .exact z
   .rw[z]at hk;cases hk
  let⟨c,hc⟩:=I.ok.has x (.inl hk);let⟨w',z⟩:=I.cell x c hc;refine wpAny_storeName_cell I.ok.kind hk hc z (λh' hc' hs=>?_);let⟨oc,hoc,hocd⟩:=id z;refine h {s with heap:=h'} ⟨I.ok,I.os,I.bare,⟨λb o e n hb hx=>?_,λb o e n hb hx=>?_,I.base.free,λb o e hx=>?_,I.base.BO,I.base.xS,I.base.BP⟩,⟨m,hn.sameBut hs (SY (Nt x c hc)),λj y v' e1 e2 e3=>?_⟩,λy c' e=>?_,I.free,I.my,λp hp=>?_,tracked ⟨oc,hoc,I.my x c hc⟩ hs,by simpa using I.len⟩ ⟨c,hs,.inr hc⟩
  .exact(hs.2 b (Sd (Sw (Rw e) (I.ok.OX x c hfn hc)))).trans (I.base.keep b o e n hb hx)
  .let⟨sl,e1⟩:=I.base.slot b o e n hb hx;exact⟨sl,(hs.2 b (Sd (Sw (Rw e) (I.ok.OX x c hfn hc)))).trans e1⟩
  .let⟨o',e1⟩:=I.base.there b o e hx;exact⟨o',(hs.2 b (Sd (Sw (Rw e) (I.ok.OX x c hfn hc)))).trans e1⟩
  .by_cases hj:j=i
   .subst hj;rw[hi]at e1;cases e1;rw[WM hiσ]at e2;cases e2;exact⟨u,r,.inr ⟨.inl hk,c,hc,hc'⟩⟩
   .rw[VP (SY hj)]at e2;let⟨u',r',q⟩:=hl j y v' e1 e2 e3;refine⟨u',r',?_⟩;obtain q|⟨k,c',e,z'⟩:=q
    .exact .inl q
    .refine .inr ⟨k,c',e,z'.sameBut hs ?_⟩;rintro rfl;exact hj (xT hN e1 (I.ok.inj _ _ _ e hc▸hi))
  .by_cases hcc:c'=c
   .subst hcc;exact⟨_,hc'⟩
   .let⟨w2,z2⟩:=I.cell y c' e;exact⟨w2,z2.sameBut hs hcc⟩
  .let⟨e,n,ne,nf,d⟩:=I.pin p hp;refine⟨(hs.2 p.1 ?_).trans e,n,ne,nf,d⟩;intro q;rw[q,hoc]at e;have q':oc=p.2:=RA e;exact d w' (by rw[<-q'];exact hocd)
def xU(I:Inv X π σ H s)(hN:X.N.Nodup)(hi:X.N[i]?=zS x)(hx:Loc X.env.scope x)(r:RelV v u)(h:∀s',Inv X π (σ.set i (zS v)) H s'->Q () s')(hf:X.fn x=true\/X.env.scope.names.lookup x=zS .local:=by first|exact .inl rfl|exact .inr rfl|assumption):wpAny M A (storeName X.env x u) Q E s:=
 AT I hN hi hx r (λs' I' _=>h s' I') hf
def Inv.OY{s':ZW}(I:Inv X π σ H s)(ho:s'.os=s.os)(u:Un (JE X.stack) ch H H' s.heap s'.heap)(cA:oC X.prog X.w H' s'.heap)(hg:AllBare s'.gens)(hch:∀b∈ch,(b∈X.ex\/X.AS.heap.objs.size<=b)/\b≠X.env.locals/\(∀x c,X.env.cells.lookup x=zS c->c≠b)/\∀p∈X.pn++π,p.1≠b):Inv X π σ H' s':=by let⟨h',g',d',t',o'⟩:=s';have e:o'=s.os:=ho;subst e;exact I.call (g':=g') (t':=t') (d':=d') u cA hg hch
end
abbrev XK:=Value->Option Addr->Hp->Prop
abbrev St:=List (Option V)
abbrev VK:=V->Hp->Prop
abbrev TE:=St->Hp->VK->Prop
abbrev TT:=St->Hp->(Bool->Hp->Prop)->Prop
abbrev TA:=St->Hp->(List V->Hp->Prop)->Prop
structure Ends where
 nx:St->Hp->Prop
 rt:VK
 bk:St->Hp->Prop:=λ_ _=>False
 ct:St->Hp->Prop:=λ_ _=>False
abbrev TS:=Ends->St->Hp->Prop
def EP(X:Cx)(π:List (Addr×Obj))(σ:St)(Q:VK)(u:Value)(s':ZW):Prop:=∃v H',Inv X π σ H' s'/\RelV v u/\Q v H'
def TP(X:Cx)(π:List (Addr×Obj))(σ:St)(Q:Bool->Hp->Prop)(b:Bool)(s':ZW):Prop:=∃H',Inv X π σ H' s'/\Q b H'
def AP(X:Cx)(π:List (Addr×Obj))(σ:St)(Q:List V->Hp->Prop)(us:List Value)(s':ZW):Prop:=∃vs H',Inv X π σ H' s'/\Vals vs us/\Q vs H'
def SP(X:Cx)(π:List (Addr×Obj))(D:Ends)(f:Flow)(s':ZW):Prop:=
 match f with
 | .next=>∃σ' H',Inv X π σ' H' s'/\D.nx σ' H'
 | .brk=>∃σ' H',Inv X π σ' H' s'/\D.bk σ' H'
 | .cont=>∃σ' H',Inv X π σ' H' s'/\D.ct σ' H'
 | .ret u=>∃v σ' H',Inv X π σ' H' s'/\RelV v u/\D.rt v H'
def PE(X:Cx)(e:Expr)(t:TE):Prop:=
 ∀(π:List (Addr×Obj))(s:ZW)(σ:St)(H:Hp)(Q:VK),Inv X π σ H s->t σ H Q->wpAny (model X.prog X.w) X.A (eval e X.env) (EP X π σ Q) X.xe s
def PT(X:Cx)(e:Expr)(t:TT):Prop:=
 ∀(π:List (Addr×Obj))(s:ZW)(σ:St)(H:Hp)(Q:Bool->Hp->Prop),Inv X π σ H s->t σ H Q->wpAny (model X.prog X.w) X.A (isTrue e X.env (eval e X.env)) (TP X π σ Q) X.xe s
def PW(X:Cx)(e:Expr)(t:TT):Prop:=
 ∀(whole:Sem Value)(π:List (Addr×Obj))(s:ZW)(σ:St)(H:Hp)(Q:Bool->Hp->Prop),Inv X π σ H s->t σ H Q->wpAny (model X.prog X.w) X.A (isTrue e X.env whole) (TP X π σ Q) X.xe s
def PW.pt{X:Cx}{e:Expr}{t:TT}(h:PW X e t):PT X e t:=h _
def PA(X:Cx)(es:List Expr)(t:TA):Prop:=
 ∀(pos:Pos)(π:List (Addr×Obj))(s:ZW)(σ:St)(H:Hp)(Q:List V->Hp->Prop),Inv X π σ H s->t σ H Q->wpAny (model X.prog X.w) X.A (spliced (aaf pos (aag es X.env))) (AP X π σ Q) X.xe s
def PS(X:Cx)(st:Stmt)(t:TS):Prop:=
 ∀(π:List (Addr×Obj))(s:ZW)(σ:St)(H:Hp)(D:Ends),Inv X π σ H s->t D σ H->wpAny (model X.prog X.w) X.A (exec st X.env) (SP X π D) X.xe s
def EM(X:Cx)(st:List Stmt)(t:TS):Prop:=
 ∀(π:List (Addr×Obj))(s:ZW)(σ:St)(H:Hp)(D:Ends),Inv X π σ H s->t D σ H->wpAny (model X.prog X.w) X.A (execs st X.env) (SP X π D) X.xe s
def du{α:Type}{t:Sem α}{Q Q':α->ZW->Prop}{s:ZW}(h:wpAny M A t Q E s)(hQ:∀a s,Q a s->Q' a s):wpAny M A t Q' E s:=aah h hQ λ_ _ x=>x
variable{c:Bool}{op:CmpOp}{H:Hp}{π:List (Addr×Obj)}{i:Nat}{pos:Pos}{s σ:St}{t:TE}{v x:V}{p:V->Prop}{u:Value}{E Q:Value->ZW->Prop}
section
variable{X:Cx}
def eB(x:V)(p:Bool->Prop):Prop:=match x with
 | .bl c=>p c
 |_=>False
def eI(x:V)(p:Int->Prop):Prop:=match x with
 | .int c=>p c
 |_=>False
def eV(s:St)(i:Nat)(p:V->Prop):Prop:=match s[i]? with
 |some (zS v)=>p v
 |_=>False
def ie{p:Bool->Prop}:eB x p=∃c,x=.bl c/\p c:=by cases x<;>simp[eB]
def ig{p:Int->Prop}:eI x p=∃c,x=.int c/\p c:=by cases x<;>simp[eI]
def gW:eV s i p=∃v,s[i]?=zS (zS v)/\p v:=by unfold eV;obtain _|_|v:=s[i]?<;>simp
def wz{p:Bool->Prop}(h:eB x p):∃c,x=.bl c/\p c:=ie▸h
def si{p:Int->Prop}(h:eI x p):∃c,x=.int c/\p c:=ig▸h
def Hx(h:eV s i p):∃v,s[i]?=zS (zS v)/\p v:=gW▸h
def Lv{p:Bool->Prop}(e:x=.bl c)(h:p c):eB x p:=e▸h
def Hy{p:Int->Prop}{c:Int}(e:x=.int c)(h:p c):eI x p:=e▸h
def Lw(e:s[i]?=zS (zS v))(h:p v):eV s i p:=gW▸⟨v,e,h⟩
theorem iD{p:Bool->Prop}:eB (.bl c) p=p c:=rfl
theorem iE{c:Int}{p:Int->Prop}:eI (.int c) p=p c:=rfl
theorem iF:eV (zS v::s) 0 p=p v:=rfl
theorem iG{o:Option V}:eV (o::s) (i+1) p=eV s i p:=rfl
def eG(i:Nat):TE:=λσ H Q=>eV σ i λv=>Q v H
def tC(v:V):TE:=λ_ H Q=>Q v H
def Nu{x:Str}(hN:X.N[i]?=zS x)(hv:Oy X.env.scope x)(hd:(x==("__debug__":Str))=false:=by decide)(hcd:(x==("__classdict__":Str))=false:=by decide):PE X (.Name x pos) (eG i):=by
 intro π s σ H Q I h;let⟨v,e,h⟩:=Hx h;let⟨m,hn,hl⟩:=I.loc;let⟨u,r,l⟩:=hl i x v hN e hv;have fin:EP X π σ Q u s:=⟨v,H,I,r,h⟩;obtain⟨hk,hm⟩|⟨hk,c,hc,hcell⟩:=l
 .exact wpAny_Name (wpAny_loadName_local I.ok.kind hk hn hm fin) hd
 .obtain hk|hk:=hk
  .exact wpAny_Name (wpAny_loadName_cell I.ok.kind hk hc hcell fin) hd
  .exact wpAny_Name (wpAny_loadName_free I.ok.kind hk hc hcell fin hcd) hd
def aw{i j pos}:PE X (.Constant (.int i) j pos) (tC (.int i)):=λ_ _ _ H _ I h=>wpAny_Constant_int ⟨.int i,H,I.tok _,⟨_,rfl⟩,h⟩
def JH{b j pos}:PE X (.Constant (.bool b) j pos) (tC (.bl b)):=λ_ _ _ H _ I h=>Constant_bool ⟨.bl b,H,I,rfl,h⟩
def iH{j pos}:PE X (.Constant .none j pos) (tC .d7):=λ_ _ _ H _ I h=>Constant_none ⟨.d7,H,I,rfl,h⟩
def Gl(X:Cx)(x:Str):Prop:=X.env.kindOf x=zS .globalImplicit
def t5{s:ZW}{x:Str}(I:Inv X π σ H s)(hg:Gl X x)(hm:X.mg x=zS u)(h:Q u s)(hd:(x==("__debug__":Str))=false:=by decide):wpAny (model X.prog X.w) X.A (eval (.Name x pos) X.env) Q E s:=
 X0 I.ok.kind hg (Calls.loadGlobal_global (by rw[I.ok.glob];exact I.mod.glob.keeps I.bk) hm h) hd
def nh{s:ZW}{x:Str}(I:Inv X π σ H s)(hg:Gl X x)(hm:X.mg x=zN)(hv:aae x=zS u)(h:Q u s)(hn:x≠"__name__":=by decide)(hd:(x==("__debug__":Str))=false:=by decide):wpAny (model X.prog X.w) X.A (eval (.Name x pos) X.env) Q E s:=by let⟨mb,h1,h2⟩:=I.mod.blt;exact X0 I.ok.kind hg (Calls.loadGlobal_builtin (by rw[I.ok.glob];exact I.mod.glob.keeps I.bk) hm (by rw[I.ok.blt];exact h1.keeps I.bk) ((h2 x hn).trans hv) h) hd
def Gz{x:Str}(hg:Gl X x)(hm:X.mg x=zS u)(r:RelV v u)(hd:(x==("__debug__":Str))=false:=by decide):PE X (.Name x pos) (tC v):=
 λ_ _ _ H _ I h=>t5 I hg hm ⟨v,H,I,r,h⟩ hd
variable{a b:Expr}{ta tb:TE}{pos:Pos}
def PC(X:Cx)(op:CmpOp)(a b:Expr)(t:TE):Prop:=
 ∀(π:List (Addr×Obj))(s:ZW)(σ:St)(H:Hp)(Q:VK),Inv X π σ H s->t σ H Q->
  wpAny (model X.prog X.w) X.A (eval a X.env) (λv s₁=>wpAny (model X.prog X.w) X.A (eval b X.env) (λu s₂=>wpAny (model X.prog X.w) X.A (aai op v u) (EP X π σ Q) X.xe s₂) X.xe s₁) X.xe s
def Dj(b:Expr)(h:op≠.In)(h2:op≠.NotIn):aaj op b=false:=by
 have e1:(op==CmpOp.In)=false:=by cases op<;>first|rfl|exact absurd rfl h
 have e2:(op==X3)=false:=by cases op<;>first|rfl|exact absurd rfl h2
 cases b<;>simp[aaj,e1,e2]
def tB(t:TE):TT:=λσ H Q=>t σ H λx H1=>eB x λc=>Q c H1
def Fa(h:PC X op a b t)(h1:aaj op b=false:=by first|exact Dj _ (by decide) (by decide)|rfl):PE X (.Compare a [op] [b] pos) t:=λπ s σ H Q I hw=>wpAny_Compare1 (h π s σ H Q I hw) h1
def cO(h:PC X op a b t)(h1:aaj op b=false:=by first|exact Dj _ (by decide) (by decide)|rfl):PT X (.Compare a [op] [b] pos) (tB t):=by intro π s σ H Q I hw;refine wpAny_isTrue_Compare1 (du (h π s σ H _ I hw) λv s1 h1=>du h1 λu s2 h2=>du h2 λc s3⟨x,H1,I1,r1,q1⟩=>?_) h1;let⟨d,rfl,q⟩:=wz q1;cases r1;exact aaa ⟨H1,I1,q⟩
def fL{e:Expr}(h:PE X e t)(he:∀whole,isTrue e X.env whole=(do let v<-whole;standAt e.pos;holding [v] (truthy v)):=by intro _;rfl):PT X e (tB t):=by intro π s σ H Q I hw;refine isTrue_plain (du (h π s σ H _ I hw) λv s1⟨x,H1,I1,r1,q1⟩=>?_) (he _);let⟨d,rfl,q⟩:=wz q1;cases r1;exact aaa ⟨H1,I1,q⟩
variable{tA tB':TT}{rest:List Expr}
def fG(t u:TT):TT:=λσ H Q=>t σ H λc H1=>if c=true then u σ H1 Q else Q false H1
def oE(t u:TT):TT:=λσ H Q=>t σ H λc H1=>if c=true then Q true H1 else u σ H1 Q
def fk(t:TT):TT:=λσ H Q=>t σ H λc H1=>Q (!c) H1
def j_(ha:PT X a tA):PW X (.BoolOp .And [a] pos) tA:=by
 intro wh π s σ H Q I h;refine isTrue_and (du (ha π s σ H Q I h) λc s1 e=>?_)
 cases c with
 |true=>exact isTrue_and_nil e
 |false=>exact e
def BS(ha:PT X a tA):PW X (.BoolOp .Or [a] pos) tA:=by
 intro wh π s σ H Q I h;refine isTrue_or (du (ha π s σ H Q I h) λc s1 e=>?_)
 cases c with
 |false=>exact isTrue_or_nil e
 |true=>exact e
def lT(ha:PT X a tA)(hb:PW X (.BoolOp .And (b::rest) pos) tB'):PW X (.BoolOp .And (a::b::rest) pos) (fG tA tB'):=by
 intro wh π s σ H Q I h;refine isTrue_and (du (ha π s σ H _ I h) λc s1⟨H1,I1,q1⟩=>?_)
 cases c with
 |true=>exact hb wh π s1 σ H1 Q I1 q1
 |false=>exact⟨H1,I1,q1⟩
def AU(ha:PT X a tA)(hb:PW X (.BoolOp .Or (b::rest) pos) tB'):PW X (.BoolOp .Or (a::b::rest) pos) (oE tA tB'):=by
 intro wh π s σ H Q I h;refine isTrue_or (du (ha π s σ H _ I h) λc s1⟨H1,I1,q1⟩=>?_)
 cases c with
 |true=>exact⟨H1,I1,q1⟩
 |false=>exact hb wh π s1 σ H1 Q I1 q1
def jU(ha:PT X a tA):PT X (.UnaryOp .Not a pos) (fk tA):=by intro π s σ H Q I h;exact isTrue_not (ha π s σ H (λc H1=>Q (!c) H1) I h)
def eT(ta tb:TE):TE:=λσ H Q=>ta σ H λx H1=>eB x λc=>if c=true then tb σ H1 Q else Q (.bl false) H1
def gX(ta tb:TE):TE:=λσ H Q=>ta σ H λx H1=>eB x λc=>if c=true then Q (.bl true) H1 else tb σ H1 Q
def eU(ta:TE):TE:=λσ H Q=>ta σ H λx H1=>eB x λc=>Q (.bl (!c)) H1
def JI{op}(h:PE X a t):PE X (.BoolOp op [a] pos) t:=λπ s σ H Q I hw=>BoolOp_one (h π s σ H Q I hw)
def ML(ha:PE X a ta)(hb:PE X (.BoolOp .Or (b::rest) pos) tb):PE X (.BoolOp .Or (a::b::rest) pos) (gX ta tb):=by
 intro π s σ H Q I h;refine BoolOp_or (du (ha π s σ H _ I h) λv s1⟨x,H1,I1,r1,q1⟩=>?_);replace q1:=wz q1;let⟨c,rfl,q1⟩:=q1;cases r1;refine aaa ?_
 cases c with
 |false=>exact hb π s1 σ H1 Q I1 q1
 |true=>exact⟨.bl true,H1,I1,rfl,q1⟩
def mz(t:TT)(ta tb:TE):TE:=λσ H Q=>t σ H λc H1=>if c=true then ta σ H1 Q else tb σ H1 Q
def gp{c:Expr}(hc:PT X c tA)(ha:PE X a ta)(hb:PE X b tb):PE X (.IfExp c a b pos) (mz tA ta tb):=by
 intro π s σ H Q I h;refine wpAny_IfExp (du (hc π s σ H _ I h) λd s1⟨H1,I1,q1⟩=>?_)
 cases d with
 |true=>exact ha π s1 σ H1 Q I1 q1
 |false=>exact hb π s1 σ H1 Q I1 q1
end
def cD(K:Rl)(H:Hp)(a:Addr)(xs:List V):Prop:=
 Rd H a (.lst xs)\/
  ∃(o:Obj)(aR:Array Value)(n:Nat),K.lookup a=zS o/\o.cls=.type "list"/\o.dict=zN/\o.data=.seq aR n/\aR.size<=aac/\Vals xs aR.toList
def km(K:Rl)(H:Hp)(a:Addr)(xs:List V):Prop:=
 Rd H a (.tup xs)\/
  ∃(o:Obj)(aR:Array Value)(n:Nat),K.lookup a=zS o/\o.cls=.type "tuple"/\o.data=.seq aR n/\aR.size<=aac/\Vals xs aR.toList
def QC:Value->Option V
 | .none=>zS .d7
 | .bool b=>zS (.bl b)
 | .int i _=>zS (.int i)
 | .str x _=>zS (.str x)
 | .bytes b _=>zS (.EL b)
 | .float b _=>zS (.flt b)
 | .ref a=>zS (.ref a)
 | .type n=>zS (.ty n)
 |_=>zN
variable{u:Value}
def RelV.abs{x:V}(r:RelV x u):QC u=zS x:=by
 cases x with
 |d7=>cases r;rfl
 |bl _=>cases r;rfl
 |int _=>let⟨t,rfl⟩:=r;rfl
 |str _=>let⟨t,rfl⟩:=r;rfl
 |EL _=>let⟨t,rfl⟩:=r;rfl
 |flt _=>let⟨t,rfl⟩:=r;rfl
 |ref _=>cases r;rfl
 |ty _=>cases r;rfl
def RelV.inj{x y:V}(r:RelV x u)(q:RelV y u):x=y:=RA (r.abs.symm.trans q.abs)
def Vals.inj:∀{xs ys:List V}{us:List Value},Vals xs us->Vals ys us->xs=ys
 |_,_,_,.nil,.nil=>rfl
 |_,_,_,.cons r t,.cons r' t'=>by rw[r.inj r',Vals.inj t t']
section
variable{X:Cx}{π:List (Addr×Obj)}{σ:St}{H:Hp}{s:ZW}{a:Addr}{xs ys:List V}
def cD.of{K:Rl}(h:H a=zS (.lst xs)):cD K H a xs:=.inl (.inl h)
def km.of{K:Rl}(h:H a=zS (.tup xs)):km K H a xs:=.inl (.inl h)
def Inv.list(I:Inv X π σ H s)(h:cD X.K H a xs):∃aR:List Value,Vals xs aR/\PlainL s.heap a aR.toArray/\xs.length<=aac:=by
 obtain h|⟨o,aR,n,hk,hc,hd,hs,hz,r⟩:=h
 .let⟨z,aR,n,r,e⟩:=h.ok I.cA;exact⟨aR,r,⟨_,n,e,rfl,rfl,rfl⟩,z⟩
 .refine⟨aR.toList,r,⟨o,n,I.Hw a o hk,hc,hd,by simpa using hs⟩,?_⟩;have e:=r.length;simp only[SJ]at e;omega
def Inv.tuple(I:Inv X π σ H s)(h:km X.K H a xs):∃aR:List Value,Vals xs aR/\IsTup s.heap a aR.toArray/\xs.length<=aac:=by
 obtain h|⟨o,aR,n,hk,hc,hs,hz,r⟩:=h
 .let⟨z,aR,r,p⟩:=h.ok I.cA;exact⟨aR,r,p,z⟩
 .refine⟨aR.toList,r,⟨o,I.Hw a o hk,hc,n,by simpa using hs⟩,?_⟩;have e:=r.length;simp only[SJ]at e;omega
def Inv.iI(I:Inv X π σ H s)(h:cD X.K H a xs)(h':cD X.K H a ys):xs=ys:=by
 let⟨aR,r,⟨o,n,e,_,_,d⟩,_⟩:=I.list h;let⟨its',r',⟨o',n',e',_,_,d'⟩,_⟩:=I.list h';rw[e]at e';cases e';rw[d]at d';injection d' with d1 _;have:aR=its':=by simpa using congrArg WN d1
 subst this;exact r.inj r'
def Inv.Hz(I:Inv X π σ H s)(h:km X.K H a xs)(h':km X.K H a ys):xs=ys:=by
 let⟨aR,r,⟨o,e,_,n,d⟩,_⟩:=I.tuple h;let⟨its',r',⟨o',e',_,n',d'⟩,_⟩:=I.tuple h';rw[e]at e';cases e';rw[d]at d';injection d' with d1 _;have:aR=its':=by simpa using congrArg WN d1
 subst this;exact r.inj r'
end
abbrev Cx.zE(X:Cx)(E:Value->ZW->Prop):Cx:={X with xe:=E}
abbrev Cx.Nv(X:Cx):Cx:=X.zE λ_ _=>False
variable{X:Cx}
def Cx.Ok.zE(ok:X.Ok)(E:Value->ZW->Prop):(X.zE E).Ok:=
 ⟨ok.mod,ok.kind,ok.glob,ok.blt,ok.above,ok.inj,ok.has,ok.OX,ok.hd,ok.frames,ok.Qe,ok.Qg,ok.bs,ok.Lu,ok.JF,ok.JG,ok.wy,ok.Nr⟩
variable{E:Value->ZW->Prop}
def Cx.Ok.pA(ok:(X.zE E).Ok):X.Ok:=
 ⟨ok.mod,ok.kind,ok.glob,ok.blt,ok.above,ok.inj,ok.has,ok.OX,ok.hd,ok.frames,ok.Qe,ok.Qg,ok.bs,ok.Lu,ok.JF,ok.JG,ok.wy,ok.Nr⟩
section
variable{X:Cx}{π:List (Addr×Obj)}{σ:St}{H:Hp}{s:ZW}{E:Value->ZW->Prop}
def Inv.zE(I:Inv X π σ H s)(E:Value->ZW->Prop):Inv (X.zE E) π σ H s:=⟨I.ok.zE E,I.os,I.bare,I.base,I.loc,I.cell,I.free,I.my,I.pin,I.cA,I.len⟩
def Inv.pA(I:Inv (X.zE E) π σ H s):Inv X π σ H s:=⟨I.ok.pA,I.os,I.bare,I.base,I.loc,I.cell,I.free,I.my,I.pin,I.cA,I.len⟩
def SP.pA{D:Ends}{f:Flow}{s':ZW}(h:SP (X.zE E) π D f s'):SP X π D f s':=by
 cases f with
 |next=>let⟨σ',H',I,q⟩:=h;exact⟨σ',H',I.pA,q⟩
 |brk=>let⟨σ',H',I,q⟩:=h;exact⟨σ',H',I.pA,q⟩
 |cont=>let⟨σ',H',I,q⟩:=h;exact⟨σ',H',I.pA,q⟩
 |ret u=>let⟨v,σ',H',I,r,q⟩:=h;exact⟨v,σ',H',I.pA,r,q⟩
def EM.Nv{st:List Stmt}{t:TS}(h:EM X.Nv st t):EM X st t:=λπ s σ H D I hw=>
 aah (h π s σ H D (I.zE _) hw) (λ_ _ q=>q.pA) λ_ _ z=>False.elim z
end
variable{c:Expr}{H:Hp}{π:List (Addr×Obj)}{s:ZW}{σ:St}{tc:TT}
section
variable{X:Cx}{st:Stmt}{rest:List Stmt}{t u:TS}{e:Expr}{te:TE}{pos:Pos}
def az:TS:=λD σ H=>D.nx σ H
def ap(t u:TS):TS:=λD σ H=>t {D with nx:=u D} σ H
def aq:EM X [] az:=λ_ _ σ H _ I h=>aak ⟨σ,H,I,h⟩
def ac(h1:PS X st t)(h2:EM X rest u):EM X (st::rest) (ap t u):=by
 intro π s σ H D I h;refine wpAny_execs_cons (du (h1 π s σ H {D with nx:=u D} I h) λf s1 q=>?_)
 cases f with
 |next=>
  let⟨σ',H',I',q⟩:=q;exact h2 π s1 σ' H' D I' q
 |ret v=>exact q
 |brk=>exact q
 |cont=>exact q
def af(h1:PS X st t):EM X [st] t:=by
 intro π s σ H D I h;refine wpAny_execs_cons (du (h1 π s σ H D I h) λf s1 q=>?_)
 cases f with
 |next=>exact aak q
 |ret v=>exact q
 |brk=>exact q
 |cont=>exact q
def cK:TS:=λD σ H=>D.bk σ H
def JJ:PS X (.Break pos) cK:=λ_ _ σ H _ I h=>wpAny_Break ⟨σ,H,I,h⟩
def Inv.quiet(I:Inv X π σ H s):interactive X.env=false:=by simp[interactive,I.ok.kind]
def bx(te:TE):TS:=λD σ H=>te σ H λ_ H1=>D.nx σ H1
def cH(he:PE X e te)(hs:aal e zN pos.line X.env=pure false:=by rfl):PS X (.Expr e pos) (bx te):=by intro π s σ H D I h;exact wpAny_Expr_any (du (he π s σ H _ I h) λv s1⟨x,H1,I1,r1,q1⟩=>⟨σ,H1,I1,q1⟩) I.quiet hs
def aA(te:TE):TS:=λD σ H=>te σ H D.rt
def ai(he:PE X e te):PS X (.Return (zS e) pos) (aA te):=by intro π s σ H D I h;exact wpAny_Return_some (du (he π s σ H _ I h) λv s1⟨x,H1,I1,r1,q1⟩=>⟨x,σ,H1,I1,r1,q1⟩)
def eW:TS:=λD _ H=>D.rt .d7 H
def aJ(c:TT)(t u:TS):TS:=λD σ H=>c σ H λb H1=>if b=true then t D σ H1 else u D σ H1
def aE{a b:List Stmt}(hc:PT X c tc)(ha:EM X a t)(hb:EM X b u):PS X (.If c a b pos) (aJ tc t u):=by
 intro π s σ H D I h;refine wpAny_If (du (hc π s σ H _ I h) λd s1⟨H1,I1,q1⟩=>?_)
 cases d with
 |true=>exact ha π s1 σ H1 D I1 q1
 |false=>exact hb π s1 σ H1 D I1 q1
end
abbrev TG:=V->St->Hp->(St->Hp->Prop)->Prop
abbrev JK:=List V->St->Hp->(St->Hp->Prop)->Prop
def PG(X:Cx)(target:Expr)(t:TG):Prop:=
 ∀(π:List (Addr×Obj))(s:ZW)(σ:St)(H:Hp)(v:V)(u:Value)(Q:St->Hp->Prop),Inv X π σ H s->RelV v u->t v σ H Q->
  wpAny (model X.prog X.w) X.A (assign target X.env u) (λ_ s'=>∃σ' H',Inv X π σ' H' s'/\Q σ' H') X.xe s
def Qh(X:Cx)(ts:List Expr)(t:JK):Prop:=
 ∀(π:List (Addr×Obj))(s:ZW)(σ:St)(H:Hp)(vs:List V)(us:List Value)(Q:St->Hp->Prop),Inv X π σ H s->Vals vs us->t vs σ H Q->
  wpAny (model X.prog X.w) X.A (assignInOrder ((aam ts X.env).map (·.2)) us) (λ_ s'=>∃σ' H',Inv X π σ' H' s'/\Q σ' H') X.xe s
abbrev Nw:=V->V->V->Hp->(Hp->Prop)->Prop
def OZ(X:Cx)(t:Nw):Prop:=
 ∀(π:List (Addr×Obj))(s:ZW)(σ:St)(H:Hp)(o i v:V)(ov iv u:Value)(Q:Hp->Prop),Inv X π σ H s->RelV o ov->RelV i iv->RelV v u->t o i v H Q->
  wpAny (model X.prog X.w) X.A (setItem ov iv u) (λ_ s'=>∃H',Inv X π σ H' s'/\Q H') X.xe s
abbrev O0:=V->V->Hp->VK->Prop
def QD(X:Cx)(op:Operator)(t:O0):Prop:=
 ∀(π:List (Addr×Obj))(s:ZW)(σ:St)(H:Hp)(x y:V)(v u:Value)(Q:VK),Inv X π σ H s->RelV x v->RelV y u->t x y H Q->
  wpAny (model X.prog X.w) X.A (inplaceOp op v u) (EP X π σ Q) X.xe s
variable{e tg:Expr}{es:List Expr}{i:Nat}{pos':Pos}{x:Str}{te:TE}
section
variable{X:Cx}{pos:Pos}
def ao(i:Nat):TG:=λv σ H Q=>Q (σ.set i (zS v)) H
def Lx(hN:X.N.Nodup)(hi:X.N[i]?=zS x)(hx:Loc X.env.scope x)(hf:X.fn x=true\/X.env.scope.names.lookup x=zS .local:=by first|exact .inl rfl|exact .inr rfl|assumption):PG X (.Name x pos) (ao i):=by intro π s σ H v u Q I r h;exact wpAny_assign_Name (xU I hN hi hx r (λs' I'=>⟨_,H,I',h⟩) hf)
def jd:JK:=λvs σ H Q=>vs=[]/\Q σ H
def bI(t:TG)(u:JK):JK:=λvs σ H Q=>∃v r,vs=v::r/\t v σ H λσ' H'=>u r σ' H' Q
def cI:Qh X [] jd:=by intro π s σ H vs us Q I r h;let⟨e,h⟩:=h;subst e;cases r;exact assignInOrder_nil ⟨σ,H,I,h⟩
def aG{t:TG}{u:JK}(h1:PG X e t)(h2:Qh X es u)(hs:(aam (e::es) X.env).map (·.2)=assign e X.env::(aam es X.env).map (·.2):=by rfl):Qh X (e::es) (bI t u):=by
 intro π s σ H vs us Q I r h;let⟨v,vr,e1,h⟩:=h;subst e1
 cases r with
 |cons r rr=>
  rw[hs];refine assignInOrder_cons (du (h1 π s σ H _ _ _ I r h) λ_ s1⟨σ1,H1,I1,q1⟩=>?_);exact h2 π s1 σ1 H1 _ _ Q I1 rr q1
def je(K:Rl)(n:Nat)(t:JK):TG:=λv σ H Q=>∃a xs,v=.ref a/\km K H a xs/\xs.length=n/\t xs σ H Q
def dX{k:Nat}{t:JK}{n:Nat}(hc:X.calm=true)(h:Qh X es t)(hn:(aam es X.env).length=n:=by rfl)(hst:(aam es X.env).findIdx? (·.1)=zN:=by rfl):PG X (.Tuple es k pos) (je X.K n t):=by intro π s σ H v u Q I r hw;let⟨a,xs,e1,hq,hl,hw⟩:=hw;subst e1;cases r;let⟨aR,rv,ht,hz⟩:=I.tuple hq;refine assign_Tuple_tuple (I.ok.hd hc) ht (by simp[hn,<-hl,rv.length]) hst λh' hx=>?_;have I1:Inv X π σ H {s with heap:=h'}:=I.kept (t':=s.toks) λb o e=>hx b o (Sd (Rw e)) e;exact h π _ σ H xs _ Q I1 (by simpa using rv) hw
def iB(to ti:TE)(t:Nw):TG:=λv σ H Q=>to σ H λo H1=>ti σ H1 λi H2=>t o i v H2 λH3=>Q σ H3
def JL{o i:Expr}{to ti:TE}{t:Nw}(ho:PE X o to)(hi:PE X i ti)(hs:OZ X t)
  (ha:∀v,assign (.Subscript o i pos) X.env v=(do
   let ov<-holding [v] (eval o X.env)
   let iv<-holding [v,ov] (eval i X.env)
   standAt pos
   holding [v,ov,iv] (setItem ov iv v)
   release [v,ov,iv] []):=by intro _;rfl):PG X (.Subscript o i pos) (iB to ti t):=by
 intro π s σ H v u Q I r h;rw[ha];refine Z0 (Z_ (du (ho π s σ H _ I h) λov s1⟨x,H1,I1,r1,q1⟩=>?_));refine Z0 (Z_ (du (hi π s1 σ H1 _ I1 q1) λiv s2⟨y,H2,I2,r2,q2⟩=>?_));refine Z0 (wpAny_standAt (Z0 (Z_ (du (hs π s2 σ H2 x y v ov iv u _ I2 r1 r2 r q2) λ_ s3⟨H3,I3,q3⟩=>?_))));exact wpAny_release ⟨σ,H3,I3,q3⟩
def aL(te:TE)(g:TG):TS:=λD σ H=>te σ H λx H1=>g x σ H1 D.nx
def JM{g:TG}(he:PE X e te)(hg:PG X tg g)(hs:swapsWithSole [tg] e pos.line X.env=pure false:=by rfl)(hw:swappedStores [tg] e X.env=pure zN:=by rfl)(h1:(aam [tg] X.env).map (·.2)=[assign tg X.env]:=by rfl):PS X (.Assign [tg] e pos) (aL te g):=by intro π s σ H D I h;refine wpAny_Assign_stores (du (he π s σ H _ I h) λv s1⟨x,H1,I1,r1,q1⟩=>?_) hs hw;rw[h1];exact du (hg π s1 σ H1 x v _ I1 r1 q1) λ_ s2 q=>q
def Ny(hN:X.N.Nodup)(hi:X.N[i]?=zS x)(hx:Loc X.env.scope x)(he:PE X e te)(hs:aal e (zS (.Name x pos')) pos.line X.env=pure false:=by rfl)(hf:X.fn x=true\/X.env.scope.names.lookup x=zS .local:=by first|exact .inl rfl|exact .inr rfl|assumption):PS X (.Assign [.Name x pos'] e pos) (aL te (ao i)):=by intro π s σ H D I h;refine wpAny_Assign_Name (du (he π s σ H _ I h) λv s1⟨y,H1,I1,r1,q1⟩=>?_) hs;exact xU I1 hN hi hx r1 (λs2 I2=>⟨_,H1,I2,q1⟩) hf
def gh(i:Nat)(te:TE)(ti:O0):TS:=λD σ H=>eV σ i λx=>te σ H λy H1=>ti x y H1 λz H2=>D.nx (σ.set i (zS z)) H2
def NA{op:Operator}{ti:O0}(hN:X.N.Nodup)(hi:X.N[i]?=zS x)(hx:Loc X.env.scope x)(he:PE X e te)(ho:QD X op ti)(hf:X.fn x=true\/X.env.scope.names.lookup x=zS .local:=by first|exact .inl rfl|exact .inr rfl|assumption):PS X (.AugAssign (.Name x pos') op e pos) (gh i te ti):=by
 intro π s σ H D I h;let⟨v,e1,h⟩:=Hx h;let⟨m,hn,hl⟩:=I.loc;have vis:Oy X.env.scope x:=by obtain k|k:=hx;exact .inl k;exact .inr (.inl k)
 let⟨u,r,l⟩:=hl i x v hi e1 vis;refine wpAny_AugAssign_Name ?_;have go:wpAny (model X.prog X.w) X.A (eval e X.env) (λw s₂=>wpAny (model X.prog X.w) X.A (inplaceOp op u w) (λr s₃=>wpAny (model X.prog X.w) X.A (storeName X.env x r) (λ_=>SP X π D .next) X.xe s₃) X.xe s₂) X.xe s:=by refine du (he π s σ H _ I h) λw s1⟨y,H1,I1,r1,q1⟩=>?_;refine du (ho π s1 σ H1 v y u w _ I1 r r1 q1) λz s2⟨zv,H2,I2,r2,q2⟩=>?_;exact xU I2 hN hi hx r2 (λs3 I3=>⟨_,H2,I3,q2⟩) hf
 obtain⟨hk,hm⟩|⟨hk,c,hc,hcell⟩:=l
 .exact wpAny_loadName_local I.ok.kind hk hn hm go
 .obtain hk|hk:=hk
  .exact wpAny_loadName_cell I.ok.kind hk hc hcell go
  .obtain k|k:=hx
   .have:X.env.scope.names.lookup x=zS .free:=hk;rw[k]at this;cases this
   .have:X.env.scope.names.lookup x=zS .free:=hk;rw[k]at this;cases this
def pB(f:Int->Int->Int):O0:=λx y H Q=>eI x λi=>eI y λj=>Q (.int (f i j)) H
def xV:QD X .Add (pB λi j=>i+j):=by intro π s σ H x y v u Q I r1 r2 h;let⟨i,e1,h2⟩:=si h;let⟨j,e2,q⟩:=si h2;subst e1;subst e2;let⟨t,rfl⟩:=r1;let⟨t',rfl⟩:=r2;exact iadd_int ⟨.int _,H,I.tok _,⟨_,rfl⟩,q⟩
def xW(c:TT)(tb:TS):TS:=λD σ H=>∃W:Nat->St->Hp->Prop,(∃m,W m σ H)/\∀m σ H,W m σ H->
 c σ H λb H1=>if b=true then∃N:St->Hp->Prop,(∀σ' H',N σ' H'->∃m',m'<m/\W m' σ' H')/\tb {D with nx:=N,ct:=N,bk:=D.nx} σ H1 else D.nx σ H1
def xX{body:List Stmt}{tb:TS}(hp:PassesOwn (model X.prog X.w) X.A X.env X.xe)(hc:PT X c tc)(hb:EM X body tb):PS X (.While c body [] pos) (xW tc tb):=by
 intro π s σ H D I h;let⟨W,⟨m0,w0⟩,turn⟩:=h;refine wpAny_While (codeAny_whileLoop (λn s'=>∃σ' H',Inv X π σ' H' s'/\W n σ' H') ?_ m0 ⟨σ,H,I,w0⟩);rintro n s1 ⟨σ1,H1,I1,w1⟩;refine aan hp (du (hc π s1 σ1 H1 _ I1 (turn n σ1 H1 w1)) λb s2⟨H2,I2,q2⟩=>?_)
 cases b with
 |true=>
  let⟨N,hN,q2⟩:=q2;rw[ag rfl];refine aan hp (du (hb π s2 σ1 H2 _ I2 q2) λf s3 q3=>?_)
  cases f with
  |next=>
   let⟨σ3,H3,I3,n3⟩:=q3;let⟨m',hm,w3⟩:=hN σ3 H3 n3;exact⟨m',hm,σ3,H3,I3,w3⟩
  |cont=>
   let⟨σ3,H3,I3,n3⟩:=q3;let⟨m',hm,w3⟩:=hN σ3 H3 n3;exact⟨m',hm,σ3,H3,I3,w3⟩
  |brk=>exact q3
  |ret v=>exact q3
 |false=>
  rw[ae R5];exact aak ⟨σ1,H2,I2,q2⟩
end
structure It where
 go:Nat->Hp->Prop
 HA:Nat->Hp->V->Hp->Prop
 stop:Nat->Hp->Prop
def wA(X:Cx)(π:List (Addr×Obj))(H:Hp)(b:Addr):Prop:=
 H b=zN/\b≠X.env.locals/\b∉X.fs/\(b∈X.ex\/X.AS.heap.objs.size<=b)/\(∀x c,X.env.cells.lookup x=zS c->c≠b)/\∀p∈X.pn++π,p.1≠b
def Inv.Dk{H':Hp}{b:Addr}(I:Inv X π σ H s)(hb:s.heap.objs.size<=b)(hn:H' b=zN):wA X π H' b:=by
 refine⟨hn,Ti (Sw I.lt hb),I.QB hb,.inr (RO I.sz hb),λx c e z=>?_,λp hp z=>?_⟩
 .let⟨v,q⟩:=I.cell x c e;exact absurd (Sw q.lt (by rw[z];exact hb)) (Te _)
 .exact absurd (Sw (Rw (I.pin p hp).1) (by rw[z];exact hb)) (Te _)
structure Turn(P:ZV)(w:World)(K:Rl)(tg:Expr)(J:It)(fp:List Addr)(it:Addr)(tn:Nat->Heap->Prop):Prop where
 mem:it∈fp
 obj:∀i h,tn i h->∀b∈fp,∃o,h.get? b=zS o/\∀v,o.data≠.cell v
 keep:∀i h h',tn i h->(∀b∈fp,∀o,h.get? b=zS o->h'.get? b=zS o)->tn i h'
 item:∀(X:Cx),X.prog=P->X.w=w->X.K=K->X.calm=true->∀(i:Nat)(π:List (Addr×Obj))(s:ZW)(σ:St)(H:Hp)(E:Value->ZW->Prop),Inv X π σ H s->(∀b∈fp,wA X π H b)->tn i s.heap->J.go i H->
  wpAny (model P w) X.A (aao (.ref it)) (λr s1=>∃u,r=zS u/\
   wpAny (model P w) X.A (aap tg (.ref it) u) (λ_ s2=>∃x H',Inv X π σ H' s2/\RelV x u/\J.HA i H x H'/\tn (i+1) s2.heap/\∀b∈fp,H' b=zN) E s1) E s
 done:∀(X:Cx),X.prog=P->X.w=w->X.K=K->X.calm=true->∀(i:Nat)(π:List (Addr×Obj))(s:ZW)(σ:St)(H:Hp)(E:Value->ZW->Prop),Inv X π σ H s->(∀b∈fp,wA X π H b)->tn i s.heap->J.stop i H->
  wpAny (model P w) X.A (aao (.ref it)) (λr s1=>r=zN/\Inv X π σ H s1) E s
 self:∀(A:ZZ)(i:Nat)(s:ZW)(Q:Value->ZW->Prop)(E:Value->ZW->Prop),tn i s.heap->Q (.ref it) s->wpAny (model P w) A (pyIter (.ref it)) Q E s
abbrev TI:=St->Hp->(It->Hp->Prop)->Prop
def O1(X:Cx)(π:List (Addr×Obj))(σ:St)(tg:Expr)(R:It->Hp->Prop)(itv:Value)(s2:ZW):Prop:=
 ∃(it:Addr)(fp:List Addr)(tn:Nat->Heap->Prop)(J:It)(H':Hp),itv=.ref it/\Inv X π σ H' s2/\Turn X.prog X.w X.K tg J fp it tn/\tn 0 s2.heap/\(∀b∈fp,wA X π H' b)/\R J H'
def PI(X:Cx)(tg iter:Expr)(wi:TI):Prop:=
 ∀(π:List (Addr×Obj))(s:ZW)(σ:St)(H:Hp)(R:It->Hp->Prop),Inv X π σ H s->wi σ H R->
  wpAny (model X.prog X.w) X.A (eval iter X.env) (λv s1=>wpAny (model X.prog X.w) X.A (pyIter v) (O1 X π σ tg R) X.xe s1) X.xe s
def AV{M:Model}{A:ZZ}{it:Addr}{o:Obj}{n:String}{vs:Array Value}{Q:Unit->ZW->Prop}(ho:s.heap.get? it=zS o)(hc:o.cls=.type n)(hd:o.data=.fields vs)(hn:["enumerate","zip","dict_itemiterator","dict_reverseitemiterator","odict_iterator","itertools.zip_longest","itertools.pairwise"].contains n=false)(hQ:Q () s):wpAny M A (aap tg (.ref it) u) Q E s:=by
 unfold aap
 cases tg<;>first
  |exact Z5 hQ
  |(cases u<;>first
    |exact Z5 hQ
    |(refine Z0 (wpAny_load ho ?_)
      rw[hc,hd];show wpAny M A (if(["enumerate","zip","dict_itemiterator","dict_reverseitemiterator","odict_iterator","itertools.zip_longest","itertools.pairwise"].contains n&&vs[0]?==zS (aaq _))=true then _ else _) Q E s;rw[ae (by intro h;rw[hn,Bool.false_and]at h;cases h)];exact Z5 hQ))
def Oz(K:Rl)(a:Addr):It:=
 ⟨λi H=>∃xs x,cD K H a xs/\xs[i]?=zS x,λi H x H'=>H'=H/\∀xs,cD K H a xs->xs[i]?=zS x,λi H=>∃xs,cD K H a xs/\xs.length<=i⟩
def Ly(lo:Int)(n:Nat):It:=⟨λi _=>i<n,λi H x H'=>H'=H/\x=.int (lo+i),λi _=>n<=i⟩
variable{P:ZV}{w:World}
def HB{K:Rl}(a it:Addr):Turn P w K tg (Oz K a) [it] it (λi h=>h.IsListIter it a i)where
 mem:=by simp
 obj:=λi h st b hb=>by
  have e:b=it:=by simpa using hb
  subst e;let⟨o,e,c,d⟩:=st;exact⟨o,e,λv z=>by rw[d]at z;cases z⟩
 keep:=λi h h' st k=>st.at λo e=>k it (by simp) o e
 item:=by intro X hP hw hK hc i π s σ H E I hf st hg;subst hP hw hK;let⟨xs,x,hq,hx⟩:=hg;let⟨aR,rv,p,hz⟩:=I.list hq;let⟨u,hu,ru⟩:=rv.get hx;let⟨f0,f1,f2,f3,f4,f5⟩:=hf it (by simp);refine wpAny_pyNext_list_item st p.isList (x:=u) (by simpa using hu) λh' st' sb=>?_;have I1:Inv X π σ H {s with heap:=h'}:=I.turned (t':=s.toks) (λb o hb e=>(sb.2 b hb).trans e) f0 f1 f3 f4 f5;let⟨o,e,c,d⟩:=id st';exact⟨u,rfl,AV (s:={s with heap:=h'}) e c d (by decide) ⟨x,H,I1,ru,⟨rfl,λys hy=>by rw[I.iI hy hq];exact hx⟩,st',λb hb=>(hf b hb).1⟩⟩
 done:=by intro X hP hw hK hc i π s σ H E I hf st hg;subst hP hw hK;let⟨xs,hq,hx⟩:=hg;let⟨aR,rv,p,hz⟩:=I.list hq;let⟨f0,f1,f2,f3,f4,f5⟩:=hf it (by simp);have hl:=rv.length;exact wpAny_pyNext_list_end (I.ok.hd hc) st p.isList (by simp;omega) λh' eb=>⟨rfl,I.turned (t':=s.toks) (λb o hb e=>eb b o hb e) f0 f1 f3 f4 f5⟩
 self:=λ_ _ _ _ _ st h=>wpAny_pyIter_listiter st h
def Fb{K:Rl}(it:Addr)(lo:Int)(n:Nat):Turn P w K tg (Ly lo n) [it] it (λi h=>IsRangeIter h it (lo+(i:Nat)*1) ((n:Int)-(i:Nat)) 1)where
 mem:=by simp
 obj:=λi h st b hb=>by
  have e:b=it:=by simpa using hb
  subst e;exact⟨_,st,λv z=>by have z':Data.fields _=Data.cell v:=z;cases z'⟩
 keep:=λi h h' st k=>k it (by simp) _ st
 item:=by intro X hP hw hK hc i π s σ H E I hf st hg;subst hP hw hK;let⟨f0,f1,f2,f3,f4,f5⟩:=hf it (by simp);have W:=Walks.range (prog:=X.prog) (w:=X.w) (I.ok.hd hc) it lo 1 n;refine W.item i s _ _ hg st λv h' tk hv st' kk=>?_;let⟨t,rfl⟩:=hv;have I1:Inv X π σ H {s with heap:=h',toks:=tk}:=I.turned (λb o hb e=>kk b o (by simpa using hb) e) f0 f1 f3 f4 f5;refine⟨_,rfl,AV (s:={s with heap:=h',toks:=tk}) (n:="range_iterator") st' rfl rfl (by decide) ⟨.int (lo+i),H,I1,⟨t,?_⟩,⟨rfl,rfl⟩,st',λb hb=>(hf b hb).1⟩⟩;rw[Int.mul_one]
 done:=by intro X hP hw hK hc i π s σ H E I hf st hg;subst hP hw hK;let⟨f0,f1,f2,f3,f4,f5⟩:=hf it (by simp);exact wpAny_pyNext_range_end (I.ok.hd hc) st (by have:n<=i:=hg;omega) λh' eb=>⟨rfl,I.turned (t':=s.toks) (λb o hb e=>eb b o hb e) f0 f1 f3 f4 f5⟩
 self:=λ_ _ _ _ _ st h=>wpAny_pyIter_rangeiter st h
variable{a:Expr}{h:Heap}{H:Hp}{π:List (Addr×Obj)}{fp:List Addr}{p pos:Pos}{s:ZW}{σ:St}{ta:TA}{g:TG}{tb:TS}
section
variable{X:Cx}{tg:Expr}
def lD(K:Rl)(tl:TE):TI:=λσ H R=>tl σ H λx H1=>∃a,x=.ref a/\(∃xs,cD K H1 a xs)/\R (Oz K a) H1
def h9{l:Expr}{tl:TE}(hl:PE X l tl):PI X tg l (lD X.K tl):=by
 intro π s σ H R I h;refine du (hl π s σ H _ I h) λv s1⟨x,H1,I1,r1,q1⟩=>?_;let⟨a,e,⟨xs,hq⟩,q⟩:=q1;subst e;cases r1;let⟨aR,rv,p,hz⟩:=I1.list hq;refine aar p.isList ?_;refine⟨s1.heap.objs.size,[s1.heap.objs.size],_,_,H1,rfl,I1.kept (t':=s1.toks) λb o e=>Rt _ e,HB a _,⟨_,RN _ rfl,rfl,rfl⟩,λb hb=>?_,q⟩;have e:b=s1.heap.objs.size:=by simpa using hb
 subst e;exact I1.Dk (Ro _) (I1.cA.fresh (Ro _))
def Dl{R:It->Hp->Prop}{E:Value->ZW->Prop}{lo hi:Int}{t u v:Tok}{tk:Nat}(I:Inv X π σ H s)(h1: -(2^62)<=lo)(h2:lo<2^62)(h3: -(2^62)<=hi)(h4:hi<2^62)(q:R (Ly lo (hi-lo).toNat) H):wpAny (model X.prog X.w) X.A (pyIter (.ref s.heap.objs.size)) (O1 X π σ tg R) E {s with heap:=s.heap.push {cls:=.type "range",data:=.fields #[.int lo t,.int hi u,.int 1 v]},toks:=tk}:=by
 refine wpAny_pyIter_range (IsRange.new ..) (small_one h1 h2 h3 h4) ?_;have I1:Inv X π σ H {s with heap:=s.heap.push {cls:=.type "range",data:=.fields #[.int lo t,.int hi u,.int 1 v]},toks:=tk}:=I.kept λb o e=>Rt _ e
 refine⟨(s.heap.push {cls:=.type "range",data:=.fields #[.int lo t,.int hi u,.int 1 v]}).objs.size,[(s.heap.push {cls:=.type "range",data:=.fields #[.int lo t,.int hi u,.int 1 v]}).objs.size],_,_,H,rfl,
  I1.kept (t':=tk) λb o e=>Rt _ e,Fb _ lo (hi-lo).toNat,?_,λb hb=>?_,q⟩
 .have e1:lo+((0:Nat):Int)*1=lo:=by simp
  have e2:(((hi-lo).toNat:Nat):Int)-((0:Nat):Int)=VQ lo hi 1:=by rw[rangeSize_one];split<;>omega
  show IsRangeIter _ _ (lo+((0:Nat):Int)*1) ((((hi-lo).toNat:Nat):Int)-((0:Nat):Int)) 1;rw[e1,e2];exact RN _ rfl
 .have e:b=(s.heap.push {cls:=.type "range",data:=.fields #[.int lo t,.int hi u,.int 1 v]}).objs.size:=by simpa using hb
  subst e;exact I1.Dk (Ro _) (I1.cA.fresh (Ro _))
def AW(ta:TA):TI:=λσ H R=>ta σ H λvs H1=>∃j:Int,vs=[.int j]/\ -(2^62)<=j/\j<2^62/\R (Ly 0 j.toNat) H1
def JN(ta:TA):TI:=λσ H R=>ta σ H λvs H1=>∃i j:Int,vs=[.int i,.int j]/\(-(2^62)<=i/\i<2^62/\ -(2^62)<=j/\j<2^62)/\R (Ly i (j-i).toNat) H1
def qD(hg:Gl X "range")(hm:X.mg "range"=zN)(ha:PA X [a] ta)(hs:aag [a] X.env=[(false,eval a X.env)]:=by rfl):PI X tg (.Call (.Name "range" p) [a] [] pos) (AW ta):=by
 intro π s σ H R I h;refine Call_ (nh I hg hm boot_range (TR (du (ha pos π s σ H _ I h) λus s1⟨vs,H1,I1,r1,q1⟩=>?_) hs rfl));let⟨j,e,q1,q2,q⟩:=q1;subst e
 cases r1 with
 |cons r rr=>
  cases rr;let⟨t,rfl⟩:=r;exact call_range_1 (Dl I1 (by omega) (by omega) q1 q2 (by simpa using q))
def HC{b:Expr}(hg:Gl X "range")(hm:X.mg "range"=zN)(ha:PA X [a,b] ta)(hs:aag [a,b] X.env=[(false,eval a X.env),(false,eval b X.env)]:=by rfl)(hs2:aag [b] X.env=[(false,eval b X.env)]:=by rfl):PI X tg (.Call (.Name "range" p) [a,b] [] pos) (JN ta):=by
 intro π s σ H R I h;refine Call_ (nh I hg hm boot_range (TR (du (ha pos π s σ H _ I h) λus s1⟨vs,H1,I1,r1,q1⟩=>?_) (by rw[hs,hs2]) (by rw[hs2];rfl)));let⟨i,j,e,⟨q1,q2,q3,q4⟩,q⟩:=q1;subst e
 cases r1 with
 |cons r rr=>
  cases rr with
  |cons r' rr=>
   cases rr;let⟨t,rfl⟩:=r;let⟨t',rfl⟩:=r';exact call_range_2 (Dl I1 q1 q2 q3 q4 q)
def gi(wi:TI)(g:TG)(tb:TS):TS:=λD σ H=>wi σ H λJ H1=>∃W:Nat->Nat->St->Hp->Prop,(∃m,W 0 m σ H1)/\∀i m σ H,W i m σ H->
 (J.stop i H/\D.nx σ H)\/(J.go i H/\∃N:St->Hp->Prop,(∀σ' H',N σ' H'->∃m',m'<m/\W (i+1) m' σ' H')/\∀x H',J.HA i H x H'->g x σ H' λσ2 H2=>tb {D with nx:=N,ct:=N,bk:=D.nx} σ2 H2)
def xY(fp:List Addr)(h:Heap):List (Addr×Obj):=fp.filterMap λb=>(h.get? b).map λo=>(b,o)
def sj{b:Addr}{o:Obj}(hb:b∈fp)(e:h.get? b=zS o):(b,o)∈xY fp h:=WO.mpr ⟨b,hb,by rw[e];rfl⟩
def HD{p:Addr×Obj}(hp:p∈xY fp h):p.1∈fp/\h.get? p.1=zS p.2:=by
 let⟨b,hb,e⟩:=WO.mp hp
 cases q:h.get? b with
 |none=>rw[q]at e;cases e
 |some o=>
  rw[q]at e;have e':(b,o)=p:=RA e;subst e';exact⟨hb,q⟩
def Inv.pinned(I:Inv X π σ H s)(hf:∀b∈fp,wA X π H b)(ho:∀b∈fp,∃o,s.heap.get? b=zS o/\∀v,o.data≠.cell v):Inv X (π++xY fp s.heap) σ H s:=
 I.Gy λp hp=>(Ru.mp hp).elim (λz=>I.pin p (SD _ z)) λz=>by let⟨hb,e⟩:=HD z;let⟨f0,f1,f2,_⟩:=hf p.1 hb;let⟨o,e',d⟩:=ho p.1 hb;rw[e]at e';cases e';exact⟨e,f0,f1,f2,d⟩
def Inv.t6{pl:List (Addr×Obj)}(I:Inv X (π++pl) σ H s):Inv X π σ H s:=I.Gy λp hp=>I.pin p (SD _ (Sm _ hp))
def cR{iter:Expr}{body:List Stmt}{wi:TI}(hp:PassesOwn (model X.prog X.w) X.A X.env X.xe)(hc:X.calm=true)(hi:PI X tg iter wi)(hg:PG X tg g)(hb:EM X body tb)(hs:∀x,aas iter X.env x=pure x:=by intro _;rfl):PS X (.For tg iter body [] pos) (gi wi g tb):=by
 intro π s σ H D I h;refine wpAny_For (du (hi π s σ H _ I h) λv s1 h1=>du h1 λitv s2 h2=>?_) hs;let⟨it,fp,tn,J,H2,e,I2,T,st2,f2,W,⟨m0,w0⟩,turn⟩:=h2;subst e;have stat:∀{H':Hp},(∀b∈fp,H' b=zN)->∀b∈fp,wA X π H' b:=λhn b hb=>⟨hn b hb,(f2 b hb).2⟩;refine codeAny_forLoop_any (λn s'=>∃i σ' H',Inv X π σ' H' s'/\tn i s'.heap/\(∀b∈fp,H' b=zN)/\W i n σ' H') ?_ m0 ⟨0,σ,H2,I2,st2,λb hb=>(f2 b hb).1,w0⟩;rintro n s3 ⟨i,σ3,H3,I3,st3,fr3,w3⟩;obtain⟨stop,qn⟩|⟨go,N,hN,step⟩:=turn i n σ3 H3 w3
 .refine aan hp (du (T.done X rfl rfl rfl hc i π s3 σ3 H3 X.xe I3 (stat fr3) st3 stop) λr s4⟨hr,I4⟩=>?_);subst hr;exact aak ⟨σ3,H3,I4,qn⟩
 .refine aan hp (du (T.item X rfl rfl rfl hc i π s3 σ3 H3 X.xe I3 (stat fr3) st3 go) λr s4⟨u,hr,h4⟩=>?_);subst hr;refine aan hp (du h4 λ_ s5⟨x,H5,I5,r5,y5,st5,fr5⟩=>?_);have I5':=I5.pinned (stat fr5) (T.obj _ _ st5);refine aan hp (du (hg _ s5 σ3 H5 x u _ I5' r5 (step x H5 y5)) λ_ s6⟨σ6,H6,I6,q6⟩=>?_);refine aan hp (du (hb _ s6 σ6 H6 _ I6 q6) λf s7 q7=>?_);have again:∀{σ7:St}{H7:Hp},Inv X (π++xY fp s5.heap) σ7 H7 s7->N σ7 H7->∃m,m<n/\∃i σ' H',Inv X π σ' H' s7/\tn i s7.heap/\(∀b∈fp,H' b=zN)/\W i m σ' H':=λ{σ7 H7} I7 n7=>by let⟨m',hm,w7⟩:=hN σ7 H7 n7;refine⟨m',hm,i+1,σ7,H7,I7.t6,T.keep _ _ _ st5 λb hb o e=>(I7.pin (b,o) (SD _ (SD _ (sj hb e)))).1,λb hb=>?_,w7⟩;let⟨o,e,d⟩:=T.obj _ _ st5 b hb;exact(I7.pin (b,o) (SD _ (SD _ (sj hb e)))).2.1
  cases f with
  |next=>let⟨σ7,H7,I7,n7⟩:=q7;exact again I7 n7
  |cont=>let⟨σ7,H7,I7,n7⟩:=q7;exact again I7 n7
  |brk=>let⟨σ7,H7,I7,q7⟩:=q7;exact⟨σ7,H7,I7.t6,q7⟩
  |ret v=>let⟨x7,σ7,H7,I7,r7,q7⟩:=q7;exact⟨x7,σ7,H7,I7.t6,r7,q7⟩
end
variable{D:Ends}
def JO{K:Rl}{a:Addr}{xs:List V}(Pv:Nat->St->Hp->Prop)(h0:Pv 0 σ H)(hl:∀i σ H,i<=xs.length->Pv i σ H->cD K H a xs)(hs:∀i x σ H,xs[i]?=zS x->Pv i σ H->g x σ H λσ2 H2=>tb {D with nx:=Pv (i+1),ct:=Pv (i+1),bk:=D.nx} σ2 H2)(hd:∀σ H,Pv xs.length σ H->D.nx σ H):∃W:Nat->Nat->St->Hp->Prop,(∃m,W 0 m σ H)/\∀i m σ H,W i m σ H->((Oz K a).stop i H/\D.nx σ H)\/((Oz K a).go i H/\∃N:St->Hp->Prop,(∀σ' H',N σ' H'->∃m',m'<m/\W (i+1) m' σ' H')/\∀x H',(Oz K a).HA i H x H'->g x σ H' λσ2 H2=>tb {D with nx:=N,ct:=N,bk:=D.nx} σ2 H2):=by
 refine⟨λi m σ H=>m=xs.length-i/\i<=xs.length/\Pv i σ H,⟨xs.length,by simp,SO _,h0⟩,?_⟩;rintro i m σ H ⟨rfl,hi,p⟩;have q:=hl i σ H hi p;by_cases hlt:i<xs.length
 .refine .inr ⟨⟨xs,xs[i],q,by simp[hlt]⟩,Pv (i+1),λσ' H' p'=>⟨xs.length-(i+1),by omega,rfl,hlt,p'⟩,λx H' y=>?_⟩;let⟨e,y⟩:=y;subst e;exact hs i x σ _ (y xs q) p
 .have e:i=xs.length:=by omega
  subst e;exact .inl ⟨⟨xs,q,Ro _⟩,hd σ H p⟩
def AX{lo:Int}{n:Nat}(Pv:Nat->St->Hp->Prop)(h0:Pv 0 σ H)(hs:∀i σ H,i<n->Pv i σ H->g (.int (lo+i)) σ H λσ2 H2=>tb {D with nx:=Pv (i+1),ct:=Pv (i+1),bk:=D.nx} σ2 H2)(hd:∀σ H,Pv n σ H->D.nx σ H):∃W:Nat->Nat->St->Hp->Prop,(∃m,W 0 m σ H)/\∀i m σ H,W i m σ H->((Ly lo n).stop i H/\D.nx σ H)\/((Ly lo n).go i H/\∃N:St->Hp->Prop,(∀σ' H',N σ' H'->∃m',m'<m/\W (i+1) m' σ' H')/\∀x H',(Ly lo n).HA i H x H'->g x σ H' λσ2 H2=>tb {D with nx:=N,ct:=N,bk:=D.nx} σ2 H2):=by
 refine⟨λi m σ H=>m=n-i/\i<=n/\Pv i σ H,⟨n,by simp,SO _,h0⟩,?_⟩;rintro i m σ H ⟨rfl,hi,p⟩;by_cases hlt:i<n
 .refine .inr ⟨hlt,Pv (i+1),λσ' H' p'=>⟨n-(i+1),by omega,rfl,hlt,p'⟩,λx H' y=>?_⟩;let⟨e,y⟩:=y;subst e y;exact hs i σ _ hlt p
 .have e:i=n:=by omega
  subst e;exact .inl ⟨Ro _,hd σ H p⟩
def xZ{c:TT}(Pv:St->Hp->Prop)(μ:St->Hp->Nat)(h0:Pv σ H)(hs:∀σ H,Pv σ H->c σ H λb H1=>if b=true then tb {D with nx:=λσ' H'=>Pv σ' H'/\μ σ' H'<μ σ H,ct:=λσ' H'=>Pv σ' H'/\μ σ' H'<μ σ H,bk:=D.nx} σ H1 else D.nx σ H1)(mono:∀σ H Q Q',(∀b H1,Q b H1->Q' b H1)->c σ H Q->c σ H Q'):xW c tb D σ H:=by
 refine⟨λm σ H=>m=μ σ H/\Pv σ H,⟨_,rfl,h0⟩,?_⟩;rintro m σ H ⟨rfl,p⟩;refine mono σ H _ _ (λb H1 q=>?_) (hs σ H p)
 cases b with
 |true=>exact⟨_,λσ' H'⟨p',l⟩=>⟨_,l,rfl,p'⟩,q⟩
 |false=>exact q
abbrev R2:=V->V->Hp->VK->Prop
def rH(X:Cx)(f:Value->Value->Sem Value)(r:R2):Prop:=
 ∀(π:List (Addr×Obj))(s:ZW)(σ:St)(H:Hp)(x y:V)(v u:Value)(Q:VK),Inv X π σ H s->RelV x v->RelV y u->r x y H Q->
  wpAny (model X.prog X.w) X.A (f v u) (EP X π σ Q) X.xe s
def QE(X:Cx)(f:Value->Sem Value)(r:V->Hp->VK->Prop):Prop:=
 ∀(π:List (Addr×Obj))(s:ZW)(σ:St)(H:Hp)(x:V)(v:Value)(Q:VK),Inv X π σ H s->RelV x v->r x H Q->
  wpAny (model X.prog X.w) X.A (f v) (EP X π σ Q) X.xe s
def eP(X:Cx)(f:Value)(r:List V->Hp->VK->Prop):Prop:=
 ∀(π:List (Addr×Obj))(s:ZW)(σ:St)(H:Hp)(xs:List V)(us:List Value)(Q:VK),Inv X π σ H s->Vals xs us->r xs H Q->
  wpAny (model X.prog X.w) X.A (call f us) (EP X π σ Q) X.xe s
def aP(r:R2)(ta tb:TE):TE:=λσ H Q=>ta σ H λx H1=>tb σ H1 λy H2=>r x y H2 Q
def rJ(r:V->Hp->VK->Prop)(ta:TE):TE:=λσ H Q=>ta σ H λx H1=>r x H1 Q
def rI(C:Int->Int->Prop)(g:Int->Int->V):R2:=λx y H Q=>eI x λi=>eI y λj=>C i j/\Q (g i j) H
def lE(g:Int->Int->V):R2:=λx y H Q=>eI x λi=>eI y λj=>Q (g i j) H
def rU(g:Int->V):V->Hp->VK->Prop:=λx H Q=>eI x λi=>Q (g i) H
variable{H:Hp}{i j:Int}{g:Int->Int->Int}{π:List (Addr×Obj)}{r:R2}{s:ZW}{σ:St}{f:Value->Value->Sem Value}
section
variable{X:Cx}{a b c:Expr}{ta tb tc:TE}{pos:Pos}
def NB(ha:PE X a ta)(hb:PE X b tb){R:V->V->Hp->Prop}(I:Inv X π σ H s)(h:ta σ H λx H1=>tb σ H1 λy H2=>R x y H2){Q:Value->ZW->Prop}(hf:∀v u s2 x y H2,Inv X π σ H2 s2->RelV x v->RelV y u->R x y H2->wpAny (model X.prog X.w) X.A (f v u) Q X.xe s2):wpAny (model X.prog X.w) X.A (eval a X.env) (λv s₁=>wpAny (model X.prog X.w) X.A (eval b X.env) (λu s₂=>wpAny (model X.prog X.w) X.A (f v u) Q X.xe s₂) X.xe s₁) X.xe s:=by refine du (ha π s σ H _ I h) λv s1⟨x,H1,I1,r1,q1⟩=>?_;refine du (hb π s1 σ H1 _ I1 q1) λu s2⟨y,H2,I2,r2,q2⟩=>?_;exact hf v u s2 x y H2 I2 r1 r2 q2
def b8{op:Operator}(ho:rH X (aat op) r)(ha:PE X a ta)(hb:PE X b tb):PE X (.BinOp a op b pos) (aP r ta tb):=by intro π s σ H Q I h;exact wpAny_BinOp (NB ha hb I h λv u s2 x y H2 I2 rx ry q=>ho π s2 σ H2 x y v u Q I2 rx ry q)
def MM{op:UnaryOp}{r:V->Hp->VK->Prop}(ho:QE X (unaryOp op) r)(ha:PE X a ta):PE X (.UnaryOp op a pos) (rJ r ta):=by intro π s σ H Q I h;exact UnaryOp_ (du (ha π s σ H _ I h) λv s1⟨x,H1,I1,r1,q1⟩=>ho π s1 σ H1 x v Q I1 r1 q1)
def QF{C:Int->Int->Prop}(rule:∀(i j:Int)(t u:Tok)(s:ZW)(Q:Value->ZW->Prop)(E:Value->ZW->Prop),C i j->Q (.int (g i j) s.toks) {s with toks:=s.toks+1}->wpAny (model X.prog X.w) X.A (f (.int i t) (.int j u)) Q E s):rH X f (rI C λi j=>.int (g i j)):=by intro π s σ H x y v u Q I rx ry h;let⟨i,rfl,h2⟩:=si h;let⟨j,rfl,hc,q⟩:=si h2;let⟨t,rfl⟩:=rx;let⟨t',rfl⟩:=ry;exact rule i j t t' s _ _ hc ⟨.int (g i j),H,I.tok _,⟨_,rfl⟩,q⟩
def O2(rule:∀(i j:Int)(t u:Tok)(s:ZW)(Q:Value->ZW->Prop)(E:Value->ZW->Prop),Q (.int (g i j) s.toks) {s with toks:=s.toks+1}->wpAny (model X.prog X.w) X.A (f (.int i t) (.int j u)) Q E s):rH X f (lE λi j=>.int (g i j)):=by intro π s σ H x y v u Q I rx ry h;let⟨i,rfl,h2⟩:=si h;let⟨j,rfl,q⟩:=si h2;let⟨t,rfl⟩:=rx;let⟨t',rfl⟩:=ry;exact rule i j t t' s _ _ ⟨.int (g i j),H,I.tok _,⟨_,rfl⟩,q⟩
def Lz{g:Int->Int->Bool}(rule:∀(i j:Int)(t u:Tok)(s:ZW)(Q:Value->ZW->Prop)(E:Value->ZW->Prop),Q (.bool (g i j)) s->wpAny (model X.prog X.w) X.A (f (.int i t) (.int j u)) Q E s):rH X f (lE λi j=>.bl (g i j)):=by intro π s σ H x y v u Q I rx ry h;let⟨i,rfl,h2⟩:=si h;let⟨j,rfl,q⟩:=si h2;let⟨t,rfl⟩:=rx;let⟨t',rfl⟩:=ry;exact rule i j t t' s _ _ ⟨.bl (g i j),H,I,rfl,q⟩
def wB(i j:Int):Prop:=(-(2^64)<i/\i<2^64)\/(-(2^64)<j/\j<2^64)
def wB.ok(h:wB i j):IntMulOk i j:=by
 obtain⟨h1,h2⟩|⟨h1,h2⟩:=h
 .exact .of_left (intBits_le_64 h1 h2)
 .exact .of_right (intBits_le_64 h1 h2)
def gb:rH X (aat .Add) (lE λi j=>.int (i+j)):=O2 λ_ _ _ _ _ _ _ q=>add_int q
def kN:rH X (aat .Sub) (lE λi j=>.int (i-j)):=O2 λ_ _ _ _ _ _ _ q=>sub_int q
def sn:rH X (aat .Mult) (rI wB λi j=>.int (i*j)):=QF λ_ _ _ _ _ _ _ hc q=>mul_int q hc.ok
def LB:rH X (aat .Mod) (rI (λ_ j=>j≠0) λi j=>.int (i.fmod j)):=QF λ_ _ _ _ _ _ _ hc q=>mod_int' hc q
def Rj{f:Value->Sem Value}{g:Int->Int}(rule:∀(i:Int)(t:Tok)(s:ZW)(Q:Value->ZW->Prop)(E:Value->ZW->Prop),Q (.int (g i) s.toks) {s with toks:=s.toks+1}->wpAny (model X.prog X.w) X.A (f (.int i t)) Q E s):QE X f (rU λi=>.int (g i)):=by intro π s σ H x v Q I rx h;let⟨i,rfl,q⟩:=si h;let⟨t,rfl⟩:=rx;exact rule i t s _ _ ⟨.int (g i),H,I.tok _,⟨_,rfl⟩,q⟩
def JP:QE X (unaryOp .USub) (rU λi=>.int (-i)):=Rj λ_ _ _ _ _ q=>neg_int q
end
def NC:V->V->Bool
 | .d7,.d7=>true| .d7,.int _=>true| .int _,.d7=>true| .d7,.bl _=>true| .bl _,.d7=>true| .d7,.str _=>true| .str _,.d7=>true
 | .int _,.int _=>true| .bl _,.bl _=>true| .str _,.str _=>true| .EL _,.EL _=>true
 | .int _,.str _=>true| .str _,.int _=>true| .bl _,.str _=>true| .str _,.bl _=>true
 |_,_=>false
def fM:R2:=λx y H Q=>NC x y=true/\Q (.bl (decide (x=y))) H
def mq:R2:=λx y H Q=>NC x y=true/\Q (.bl (!decide (x=y))) H
def GA:decide (V.int i=V.int j)=(i==j):=by rw[S6];simp
def JQ{i j:Bool}:decide (V.bl i=V.bl j)=(i==j):=by rw[S6];simp
def GB{i j:Str}:decide (V.str i=V.str j)=(i==j):=by rw[S6];simp
def GC{i j:Array UInt8}:decide (V.EL i=V.EL j)=(i.toList==j.toList):=by rw[S6];cases i;cases j;simp
variable{op op':CmpOp}{us:List Value}{r':R2}{x:V}
section
variable{X:Cx}{a b c:Expr}{ta tb tc:TE}{pos:Pos}
def cM{Q:VK}{k k':Bool}(I:Inv X π σ H s)(q:Q (.bl k) H)(e:k=k'):EP X π σ Q (.bool k') s:=by subst e;exact⟨.bl k,H,I,rfl,q⟩
def bP:rH X (aai .Eq) fM:=by
 intro π s σ H x y v u Q I rx ry h;let⟨hs,q⟩:=h
 cases x with
 |d7=>
  cases rx
  cases y with
  |d7=>cases ry;exact Zp (cM I q (by simp))
  |bl j=>cases ry;exact Zq (cM I q (by simp))
  |int j=>let⟨t',rfl⟩:=ry;exact Zr (cM I q (by simp))
  |str j=>let⟨t',rfl⟩:=ry;exact Zs (cM I q (by simp))
  |_=>exact absurd (show false=true from hs) R5
 |bl i=>
  cases rx
  cases y with
  |d7=>cases ry;exact Zt (cM I q (by simp))
  |bl j=>cases ry;exact eq_bool (cM I q JQ)
  |str j=>let⟨t',rfl⟩:=ry;exact Zu (cM I q (by simp))
  |_=>exact absurd (show false=true from hs) R5
 |int i=>
  let⟨t,rfl⟩:=rx
  cases y with
  |d7=>cases ry;exact Zv (cM I q (by simp))
  |int j=>let⟨t',rfl⟩:=ry;exact eq_int (cM I q GA)
  |str j=>let⟨t',rfl⟩:=ry;exact Zw (cM I q (by simp))
  |_=>exact absurd (show false=true from hs) R5
 |str i=>
  let⟨t,rfl⟩:=rx
  cases y with
  |d7=>cases ry;exact Zx (cM I q (by simp))
  |bl j=>cases ry;exact Zy (cM I q (by simp))
  |int j=>let⟨t',rfl⟩:=ry;exact Zz (cM I q (by simp))
  |str j=>let⟨t',rfl⟩:=ry;exact eq_str (cM I q GB)
  |_=>exact absurd (show false=true from hs) R5
 |EL i=>
  let⟨t,rfl⟩:=rx
  cases y with
  |EL j=>let⟨t',rfl⟩:=ry;exact PySem.W.eq_bytes (cM I q GC)
  |_=>exact absurd (show false=true from hs) R5
 |_=>cases y<;>exact absurd (show false=true from hs) R5
def om:rH X (aai .NotEq) mq:=by
 intro π s σ H x y v u Q I rx ry h;let⟨hs,q⟩:=h
 cases x with
 |d7=>
  cases rx
  cases y with
  |d7=>cases ry;exact ZA (cM I q (by simp))
  |bl j=>cases ry;exact ZC (cM I q (by simp))
  |int j=>let⟨t',rfl⟩:=ry;exact ZD (cM I q (by simp))
  |str j=>let⟨t',rfl⟩:=ry;exact ZE (cM I q (by simp))
  |_=>exact absurd (show false=true from hs) R5
 |bl i=>
  cases rx
  cases y with
  |d7=>cases ry;exact ZF (cM I q (by simp))
  |bl j=>cases ry;exact ne_bool (cM I q (congrArg not JQ))
  |str j=>let⟨t',rfl⟩:=ry;exact ZG (cM I q (by simp))
  |_=>exact absurd (show false=true from hs) R5
 |int i=>
  let⟨t,rfl⟩:=rx
  cases y with
  |d7=>cases ry;exact ZH (cM I q (by simp))
  |int j=>let⟨t',rfl⟩:=ry;exact ne_int (cM I q (congrArg not GA))
  |str j=>let⟨t',rfl⟩:=ry;exact ZI (cM I q (by simp))
  |_=>exact absurd (show false=true from hs) R5
 |str i=>
  let⟨t,rfl⟩:=rx
  cases y with
  |d7=>cases ry;exact ZJ (cM I q (by simp))
  |bl j=>cases ry;exact ZK (cM I q (by simp))
  |int j=>let⟨t',rfl⟩:=ry;exact ZL (cM I q (by simp))
  |str j=>let⟨t',rfl⟩:=ry;exact ne_str (cM I q (congrArg not GB))
  |_=>exact absurd (show false=true from hs) R5
 |EL i=>
  let⟨t,rfl⟩:=rx
  cases y with
  |EL j=>let⟨t',rfl⟩:=ry;exact PySem.W.ne_bytes (cM I q (congrArg not GC))
  |_=>exact absurd (show false=true from hs) R5
 |_=>cases y<;>exact absurd (show false=true from hs) R5
def t7:rH X (aai .Lt) (lE λi j=>.bl (decide (i<j))):=Lz λ_ _ _ _ _ _ _ q=>lt_int q
def iJ:rH X (aai .LtE) (lE λi j=>.bl (decide (i<=j))):=Lz λ_ _ _ _ _ _ _ q=>le_int q
def pC:rH X (aai .Gt) (lE λi j=>.bl (decide (j<i))):=Lz λ_ _ _ _ _ _ _ q=>gt_int q
def GD:rH X (aai .GtE) (lE λi j=>.bl (decide (j<=i))):=Lz λ_ _ _ _ _ _ _ q=>ge_int q
def ND:rH X (aai .Is) (λx y H Q=>y=.d7/\Q (.bl (decide (x=.d7))) H):=by
 intro π s σ H x y v u Q I rx ry h;let⟨rfl,q⟩:=h;cases ry;refine is_none_gen (cM I q ?_)
 cases x<;>first
  |(cases rx;rfl)
  |(let⟨t,rfl⟩:=rx;rfl)
def JR(b:Expr)(h:op≠.In:=by decide)(h2:op≠.NotIn:=by decide):aaj op b=false:=by
 have e1:(op==CmpOp.In)=false:=by cases op<;>first|rfl|exact absurd rfl h
 have e2:(op==X3)=false:=by cases op<;>first|rfl|exact absurd rfl h2
 cases b<;>simp[aaj,e1,e2]
def LC(ho:rH X (aai op) r)(ha:PE X a ta)(hb:PE X b tb)(hm:aaj op b=false):PE X (.Compare a [op] [b] pos) (aP r ta tb):=by intro π s σ H Q I h;exact wpAny_Compare1 (NB ha hb I h λv u s2 x y H2 I2 rx ry q=>ho π s2 σ H2 x y v u Q I2 rx ry q) hm
def aB(t:TE):TT:=λσ H Q=>t σ H λx H'=>eB x λk=>Q k H'
def qE(ho:rH X (aai op) r)(ha:PE X a ta)(hb:PE X b tb)(hm:aaj op b=false):PT X (.Compare a [op] [b] pos) (aB (aP r ta tb)):=by
 intro π s σ H Q I h
 refine wpAny_isTrue_Compare1 (du (ha π s σ H _ I h) λv s1⟨x,H1,I1,r1,q1⟩=>du (hb π s1 σ H1 _ I1 q1) λu s2⟨y,H2,I2,r2,q2⟩=>
  du (ho π s2 σ H2 x y v u _ I2 r1 r2 q2) λc s3⟨z,H3,I3,r3,q3⟩=>?_) hm
 let⟨k,e,q3⟩:=wz q3;subst e;cases r3;exact aaa ⟨H3,I3,q3⟩
def bH(r r':R2)(ta tb tc:TE):TE:=λσ H Q=>ta σ H λx H1=>tb σ H1 λy H2=>r x y H2 λz H3=>eB z λk=>
 (if k=true then tc σ H3 λw' H4=>r' y w' H4 Q else Q (.bl false) H3)
def Dm(ho:rH X (aai op) r)(ho':rH X (aai op') r')(ha:PE X a ta)(hb:PE X b tb)(hc:PE X c tc)(hm:lastMarks [op,op'] [b,c]=false:=by with_unfolding_all rfl):PE X (.Compare a [op,op'] [b,c] pos) (bH r r' ta tb tc):=by
 intro π s σ H Q I h
 refine Compare_chain (du (ha π s σ H _ I h) λv s1⟨x,H1,I1,r1,q1⟩=>chain_link (du (hb π s1 σ H1 _ I1 q1) λu s2⟨y,H2,I2,r2,q2⟩=>
  du (ho π s2 σ H2 x y v u _ I2 r1 r2 q2) λd s3⟨z,H3,I3,r3,q3⟩=>?_)) hm
 let⟨k,e,q3⟩:=wz q3;subst e;cases r3;refine aaa ?_
 cases k with
 |false=>exact ite_ff ⟨.bl false,H3,I3,rfl,q3⟩
 |true=>exact ite_tt (chain_last (du (hc π s3 σ H3 _ I3 q3) λw' s4⟨z',H4,I4,r4,q4⟩=>ho' π s4 σ H4 y z' u w' Q I4 r2 r4 q4))
def kO(ho:rH X (aai op) r)(ho':rH X (aai op') r')(ha:PE X a ta)(hb:PE X b tb)(hc:PE X c tc)(hm:lastMarks [op,op'] [b,c]=false:=by with_unfolding_all rfl):PT X (.Compare a [op,op'] [b,c] pos) (aB (bH r r' ta tb tc)):=by
 intro π s σ H Q I h
 refine isTrue_chain (du (ha π s σ H _ I h) λv s1⟨x,H1,I1,r1,q1⟩=>test_link (du (hb π s1 σ H1 _ I1 q1) λu s2⟨y,H2,I2,r2,q2⟩=>
  du (ho π s2 σ H2 x y v u _ I2 r1 r2 q2) λd s3⟨z,H3,I3,r3,q3⟩=>?_)) hm
 let⟨k,e,q3⟩:=wz q3;subst e;cases r3;refine aaa ?_
 cases k with
 |false=>
  let⟨k',e',q'⟩:=wz q3;cases e';exact ite_ff ⟨H3,I3,q'⟩
 |true=>
  refine ite_tt (test_last (du (hc π s3 σ H3 _ I3 q3) λw' s4⟨z',H4,I4,r4,q4⟩=>du (ho' π s4 σ H4 y z' u w' _ I4 r2 r4 q4) λd' s5⟨z2,H5,I5,r5,q5⟩=>?_));let⟨k2,e2,q5⟩:=wz q5;subst e2;cases r5;exact aaa ⟨H5,I5,q5⟩
def BU:(aac:Nat)<2^63:=by rw[sizeLine_eq];decide
def vals1(r:Vals [x] us):∃u,us=[u]/\RelV x u:=by
 cases r with
 |cons r1 r2=>cases r2;exact⟨_,rfl,r1⟩
def vals2{y:V}(r:Vals [x,y] us):∃u w',us=[u,w']/\RelV x u/\RelV y w':=by
 cases r with
 |cons r1 r2=>
  cases r2 with
  |cons r3 r4=>cases r4;exact⟨_,_,rfl,r1,r3⟩
def JS:eP X (.builtin "abs") (λxs H Q=>∃i,xs=[.int i]/\Q (.int (if i<0 then-i else i)) H):=by intro π s σ H xs us Q I r h;let⟨i,rfl,q⟩:=h;let⟨u,rfl,t,rfl⟩:=vals1 r;exact call_abs_int λu tk=>⟨.int (if i<0 then-i else i),H,I.tok _,⟨_,rfl⟩,q⟩
def HE(hc:X.calm=true):eP X (.builtin "max") (λxs H Q=>∃i j,xs=[.int i,.int j]/\Q (.int (if j>i then j else i)) H):=by
 intro π s σ H xs us Q I r h;let⟨i,j,rfl,q⟩:=h;let⟨u,w',rfl,⟨t,rfl⟩,⟨t',rfl⟩⟩:=vals2 r;refine max_two_ints (I.ok.hd hc) λh' tk k=>⟨_,H,I.kept k,?_,q⟩;by_cases hj:j>i
 .rw[ag hj,ag hj];exact⟨_,rfl⟩
 .rw[ae hj,ae hj];exact⟨_,rfl⟩
def HF(hc:X.calm=true):eP X (.builtin "min") (λxs H Q=>∃i j,xs=[.int i,.int j]/\Q (.int (if j<i then j else i)) H):=by
 intro π s σ H xs us Q I r h;let⟨i,j,rfl,q⟩:=h;let⟨u,w',rfl,⟨t,rfl⟩,⟨t',rfl⟩⟩:=vals2 r;refine min_two_ints (I.ok.hd hc) λh' tk k=>⟨_,H,I.kept k,?_,q⟩;by_cases hj:j<i
 .rw[ag hj,ag hj];exact⟨_,rfl⟩
 .rw[ae hj,ae hj];exact⟨_,rfl⟩
end
structure HG(h:Heap)(x dx C:Addr)(mA:Str->Option Value):Prop where
 obj:h.get? x=zS (TN C dx)
 ns:h.Ns1 dx mA
 ne:dx≠x
variable{dx:Addr}{h:Heap}{mA:Str->Option Value}
def HH(n:h.Ns1 dx mA):∃od,h.get? dx=zS od/\∀name,WQ name od=zS (mA name):=by
 let⟨o,es,ep,ho,hd,hk,_,hm⟩:=n;refine⟨o,ho,λname=>?_⟩;have e:=hm name;unfold nsFind findBy at e;rw[<-Array.find?_toList]at e;unfold WQ;rw[hd];dsimp only;split
 .rename_i y q;rw[q]at e;exact congrArg zS e
 .rename_i q;rw[q]at e;have a:es.toList.any (·.refKey)=false:=by rw[Wz];intro y hy;let⟨z,t,hkey⟩:=hk y (Array.mem_toList_iff.mp hy);simp[DictEntry.refKey,hkey]
  have a':¬es.toList.any (·.refKey)=true:=by rw[a];exact R5
  rw[ae a'];exact congrArg zS e
variable{C:Addr}
def HG.look{x:Addr}(I:HG h x dx C mA):∃od,PySem.W.InstAt h x (TN C dx) C (zS od)/\∀name,WQ name od=zS (mA name):=
 let⟨od,ho,hl⟩:=HH I.ns
 ⟨od,⟨I.obj,rfl,rfl,ho⟩,hl⟩
variable{Q:Value->ZW->Prop}
section
variable{prog:ZV}{w:World}{A:ZZ}{E:Value->ZW->Prop}{s:ZW}{K:Rl}{x dx C f:Addr}{mA:Str->Option Value}{name:Str}{v:Value}
def get_map{expr:Bool}(X:K.In s.heap)(I:HG s.heap x dx C mA)(hg:U5 K C name=true)(hh:U6 K C=true)(ha:SW K (.ref C) name=zS zN)(hv:mA name=zS v)(hv':X4 v=true)(h:Q v {s with toks:=s.toks+1}):wpAny (model prog w) A (getAttr (.ref x) name expr) Q E s:=by let⟨od,J,hl⟩:=I.look;exact PySem.W.get_value X J (PySem.W.plainGet_of hg).1 (PySem.W.findObj_own hh ha rfl (by rw[hl,hv])) hv' h
def LD{ns:List Str}{Q:Unit->ZW->Prop}(X:K.In s.heap)(I:HG s.heap x dx C mA)(hs:SW K (.ref C) "__setattr__"=zS (zS (.builtin "object.__setattr__")))(hp:Vx K C=true)(ht:WR K C name=zS zN)(hh:U6 K C=true)(hw:WK mA ns)(hsz:ns.length<=aac)(h:∀h',HG h' x dx C (λy=>if y=name then zS v else mA y)->Tu dx s.heap h'->Q () {s with heap:=h',toks:=s.toks+2}):wpAny (model prog w) A (setAttr (.ref x) name v) Q E s:=by let⟨od,J,hl⟩:=I.look;refine PySem.W.set_plain X J hs (PySem.W.osa_open (s:={s with toks:=s.toks+1}) (r:=zN) X J hp ht λb=>?_);let⟨cd,hc,hd'⟩:=PySem.W.any_some hh;have hx:s.heap.get? x=zS ⟨.ref C,zS dx,.plain,#[]⟩:=I.obj;refine Z0 (Z5 (Z0 (Z0 (wpAny_loadPart hx (Z0 (ZM (s:={s with toks:=s.toks+1}) (PySem.W.looks_clsIn X hc) ?_))))));rw[hd'];refine Z5 (a:=zS dx) (Z0 (Z5 (Z0 ?_)));refine wpAny_nsSet1 (s:={s with toks:=s.toks+1}) I.ns λh' hn2 hs2=>?_;let⟨oD,esD,epD,hoD,hdD,hcD⟩:=hn2.count (ZN name v hw);refine Z0 (wpAny_lookBehind hoD (by rw[hdD];exact pastItsLine_dict (RO hcD (by rw[RG];omega))) ?_);exact Z5 (h _ ⟨(hs2.2 _ (SY I.ne)).trans I.obj,hn2,I.ne⟩ hs2)
def JT{R:Result->ZW->Prop}{vs:List Value}{kw:List (Str×Value)}(X:K.In s.heap)(hm:Vy K C=true)(hi:SW K (.ref C) "__init__"=zS (zS (.ref f)))(hf:PySem.W.typeIn K (.ref f)=zS (.type "function"))(h:codeAny (model prog w) (A.under (.builtin "type.__call__" ⟨.ref C::vs,kw⟩)) (.call (.ref f) ⟨.ref (s.heap.objs.size+1)::vs,kw⟩) (PySem.W.InitBack (s.heap.objs.size+1) R) {s with heap:=(s.heap.push Tv).push (TN C s.heap.objs.size)}):codeAny (model prog w) A (.call (.ref C) ⟨vs,kw⟩) R s:=by let⟨hh,g,d,t,os⟩:=s;exact PySem.W.make_core (PySem.W.makes_of X hm) (PySem.W.looks_findIn X hi) (λself=>PySem.W.bind_fn X self hf) (.inl rfl) h
end
def kP(f:Str)(v:V):List (Str×V)->List (Str×V)
 |[]=>[(f,v)]
 |(g,x)::r=>if g=f then(g,v)::r else(g,x)::kP f v r
def vU(f g:Str)(v:V):∀fs:List (Str×V),(kP f v fs).lookup g=if g=f then zS v else fs.lookup g
 |[]=>by
  show TU g [(f,v)]=_;by_cases h:g=f
  .have hb:(g==f)=true:=beq_iff_eq.mpr h;simp only[TU,hb,ag h]
  .have hb:(g==f)=false:=beq_eq_false_iff_ne.mpr h;simp only[TU,hb,ae h]
 |(k,x)::r=>by
  have ih:=vU f g v r;rw[show kP f v ((k,x)::r)=(if k=f then(k,v)::r else(k,x)::kP f v r)from rfl];by_cases hk:k=f
  .rw[ag hk];by_cases h:g=k
   .have hb:(g==k)=true:=beq_iff_eq.mpr h;simp only[TU,hb,ag (h.trans hk)]
   .have hb:(g==k)=false:=beq_eq_false_iff_ne.mpr h;simp only[TU,hb,ae (λe:g=f=>h (e.trans hk.symm))]
  .rw[ae hk];by_cases h:g=k
   .have hb:(g==k)=true:=beq_iff_eq.mpr h;simp only[TU,hb,ae (λe:g=f=>hk (h.symm.trans e))]
   .have hb:(g==k)=false:=beq_eq_false_iff_ne.mpr h;simp only[TU,hb];exact ih
def u0(f:Str)(v:V):∀fs:List (Str×V),f∈(kP f v fs).map (·.1)/\∀g,g∈fs.map (·.1)->g∈(kP f v fs).map (·.1)
 |[]=>⟨by simp[kP],λg h=>by simp at h⟩
 |(k,x)::r=>by
  let⟨i1,i2⟩:=u0 f v r;rw[show kP f v ((k,x)::r)=(if k=f then(k,v)::r else(k,x)::kP f v r)from rfl];by_cases hk:k=f
  .rw[ag hk];subst hk;exact⟨by simp,λg h=>by simpa using h⟩
  .rw[ae hk];refine⟨?_,λg h=>?_⟩
   .rw[RS];exact Rp _ i1
   .rw[RS]at h⊢;obtain e|e:=Rn.mp h
    .exact Rn.mpr (.inl e)
    .exact Rp _ (i2 g e)
def vV(f:Str)(v:V):∀fs:List (Str×V),(kP f v fs).length<=fs.length+1
 |[]=>by simp[kP]
 |(k,x)::r=>by
  have ih:=vV f v r;rw[show kP f v ((k,x)::r)=(if k=f then(k,v)::r else(k,x)::kP f v r)from rfl];by_cases hk:k=f
  .rw[ag hk,RG,RG];omega
  .rw[ae hk,RG,RG];omega
variable{o:Option Value}{v:V}
def lS.some_of(r:lS (zS v) o):∃u,o=zS u/\RelV v u:=by
 cases o with
 |none=>exact(show False from r).elim
 |some u=>exact⟨u,rfl,r⟩
def lS.none_of(r:lS zN o):o=zN:=by
 cases o with
 |none=>rfl
 |some u=>exact(show False from r).elim
variable{u:Value}
def HI(r:RelV v u):X4 u=true:=by
 cases v with
 |d7=>cases(show u=S8 from r);rfl
 |bl b=>cases(show u=XX b from r);rfl
 |int i=>let⟨t,e⟩:=(show∃t,u=S0 i t from r);cases e;rfl
 |str x=>let⟨t,e⟩:=(show∃t,u=UG x t from r);cases e;rfl
 |EL b=>let⟨t,e⟩:=(show∃t,u=XY b t from r);cases e;rfl
 |flt b=>let⟨t,e⟩:=(show∃t,u=XZ b t from r);cases e;rfl
 |ref a=>cases(show u=RF a from r);rfl
 |ty n=>cases(show u=Ul n from r);rfl
section
variable{P:ZV}{w:World}{H H':Hp}{h h':Heap}{a C dx:Addr}{fs fs':List (Str×V)}
def GE(cA:oC P w H h)(e:H a=zS (.ins C dx fs)):∃mA,HG h a dx C mA/\(∀f,lS (fs.lookup f) (mA f))/\WK mA (fs.map (·.1))/\fs.length<=1000/\H dx=zS (.own a):=by let⟨d,z,ne,ob,mA,n,r,q⟩:=(show dz P w H h a (.ins C dx fs)from cA a _ e);exact⟨mA,⟨ob,n,ne⟩,r,q,z,d⟩
end
structure Fc(K:Rl)(C:Addr):Prop where
 pg:U5 K C Ww=true
 hd:U6 K C=true
 po:Vx K C=true
 sa:SW K (.ref C) "__setattr__"=zS (zS (.builtin "object.__setattr__"))
def Fc.get{K:Rl}(c:Fc K C)(f:Str):U5 K C f=true:=c.pg
def dE(K:Rl)(C:Addr)(f:Str):Prop:=SW K (.ref C) f=zS zN
def dE.O3{K:Rl}{f:Str}(n:dE K C f):WR K C f=zS zN:=by unfold WR;rw[show SW K (.ref C) f=zS zN from n];rfl
section
variable{X:Cx}{π:List (Addr×Obj)}{σ:St}{H:Hp}{s:ZW}{a C dx:Addr}{fs:List (Str×V)}{f:Str}{v:V}{A:ZZ}{E:Value->ZW->Prop}
def Fd{b:Bool}(I:Inv X π σ H s)(e:H a=zS (.ins C dx fs))(c:Fc X.K C)(n:dE X.K C f)(l:fs.lookup f=zS v)(h:∀u s',Inv X π σ H s'->RelV v u->Q u s'):wpAny (model X.prog X.w) A (getAttr (.ref a) f b) Q E s:=by let⟨mA,O,r,_,_,_⟩:=GE I.cA e;let⟨u,hu,ru⟩:=lS.some_of (v:=v) (o:=mA f) (by rw[<-l];exact r f);exact get_map I.Hw O (c.get f) c.hd n hu (HI ru) (h u _ (I.tok _) ru)
def Fe{y:V}{Q:Unit->ZW->Prop}(I:Inv X π σ H s)(e:H a=zS (.ins C dx fs))(c:Fc X.K C)(n:dE X.K C f)(hl:fs.length<1000)(ry:RelV y u)(h:∀s',Inv X π σ (upd H a (.ins C dx (kP f y fs))) s'->Q () s'):wpAny (model X.prog X.w) A (setAttr (.ref a) f u) Q E s:=by
 let⟨mA,O,r,wi,_,ho⟩:=GE I.cA e;have hz:(fs.map (·.1)).length<=aac:=by rw[Rr,sizeLine_eq];omega
 refine LD I.Hw O c.sa c.po n.O3 c.hd wi hz λh' O' sb=>h _ ?_;have hd:∃o,h'.get? dx=zS o:=let⟨o,_,_,e',_⟩:=O'.ns;⟨o,e'⟩;refine I.write (x:=a) (e:=dx) (by rw[e];exact True.intro) (.inr ho) (λb q hb z=>(sb.2 b hb).trans z) hd ?_;refine⟨by rw[ab O.ne];exact ho,?_,O.ne,O'.obj,_,O'.ns,λg=>?_,λg hg=>?_⟩
 .have:=vV f y fs;omega
 .show lS ((kP f y fs).lookup g) (if g=f then zS u else mA g);rw[vU];by_cases q:g=f
  .rw[ag q,ag q];exact ry
  .rw[ae q,ae q];exact r g
 .by_cases q:g=f
  .rw[q];exact(u0 f y fs).1
  .refine(u0 f y fs).2 g (wi g λz=>hg ?_);show(if g=f then zS u else mA g)=zN;rw[ae q];exact z
def Inv.made(I:Inv X π σ H s):Inv X π σ (upd (upd H s.heap.objs.size (.own (s.heap.objs.size+1))) (s.heap.objs.size+1) (.ins C s.heap.objs.size [])) {s with heap:=(s.heap.push Tv).push (TN C s.heap.objs.size)}:=by
 have e1:(s.heap.push Tv).get? s.heap.objs.size=zS Tv:=RN s.heap rfl;have e2:((s.heap.push Tv).push (TN C s.heap.objs.size)).get? (s.heap.objs.size+1)=zS (TN C s.heap.objs.size):=by
  have:=RN (s.heap.push Tv) (o:=TN C s.heap.objs.size) rfl
  rwa [R_]at this
 have e3:(s.heap.push Tv).Ns s.heap.objs.size (λ_=>zN):=⟨Tv,#[],_,e1,rfl,(λe he=>absurd he (by simp)),λ_=>rfl⟩;have I1:=I.laid (a:=s.heap.objs.size) (o:=.own (s.heap.objs.size+1)) (h':=s.heap.push Tv) (t':=s.toks) (λb u q=>Rt _ q) (Ro _) ⟨_,e1⟩;refine I1.laid (a:=s.heap.objs.size+1) (o:=.ins C s.heap.objs.size []) (t':=s.toks) (λb u q=>Rt _ q) (Vg (R_ _ _)) ?_;have ne:s.heap.objs.size≠s.heap.objs.size+1:=Sd (Vi _);refine⟨by rw[ab ne,aa],SO _,ne,e2,λ_=>zN,(Heap.Ns1.of_empty e3).at λo q=>Rt _ q,λ_=>True.intro,λy hy=>absurd rfl hy⟩
def LF{prog:ZV}{w:World}{env:Env}{e:Expr}{pos:Pos}(hb:aau e f env (eval e env)=eval e env)(h:wpAny (model prog w) A (eval e env) (λo s₁=>wpAny (model prog w) A (getAttr o f true) Q E s₁) E s):wpAny (model prog w) A (eval (.Attribute e f pos) env) Q E s:=
 Attribute_any_ h (by rw[arm_eval_Attribute,hb])
end
def aC(K:Rl)(ta:TE)(f:Str):TE:=λσ H Q=>ta σ H λx H1=>∃a C dx fs v,x=.ref a/\H1 a=zS (.ins C dx fs)/\Fc K C/\dE K C f/\fs.lookup f=zS v/\Q v H1
def jV(K:Rl)(ta tv:TE)(f:Str):TS:=λD σ H=>tv σ H λy H1=>ta σ H1 λx H2=>∃a C dx fs,x=.ref a/\H2 a=zS (.ins C dx fs)/\Fc K C/\dE K C f/\fs.length<1000/\
 D.nx σ (upd H2 a (.ins C dx (kP f y fs)))
section
variable{X:Cx}{o e value:Expr}{f:Str}{pos pos' tpos:Pos}{ta tv:TE}
def NE(he:PE X e ta)(hb:aau e f X.env (eval e X.env)=eval e X.env):PE X (.Attribute e f pos) (aC X.K ta f):=by intro π s σ H Q I h;refine LF hb (du (he π s σ H _ I h) λu s1⟨x,H1,I1,rx,a,C,dx,fs,v,ex,ea,c,n,l,q⟩=>?_);subst ex;obtain rfl:u=RF a:=rx;exact Fd I1 ea c n l λu' s2 I2 ru=>⟨v,H1,I2,ru,q⟩
def NF(ha:PE X o ta)(hv:PE X value tv)(hs:aal value (zS (.Attribute o f pos')) pos.line X.env=pure false):PS X (.Assign [.Attribute o f pos'] value pos) (jV X.K ta tv f):=by intro π s σ H D I h;refine plainObj_wpAny_Assign_Attribute (du (hv π s σ H _ I h) λu s1⟨y,H1,I1,ry,q⟩=>du (ha π s1 σ H1 _ I1 q) λov s2⟨x,H2,I2,rx,a,C,dx,fs,ex,ea,c,n,l,q2⟩=>?_) hs;subst ex;obtain rfl:ov=RF a:=rx;exact Fe I2 ea c n l ry λs3 I3=>⟨σ,_,I3,q2⟩
end
structure gP(k:Nat)(A:ZZ):Prop where
 hd:A.handled=zN
 dp:A.depth+3*k+5<recursionLimit
 un:A.units+16*k+200<cLine
variable{A:ZZ}{j k:Nat}
def gP.mono(r:gP k A)(h:j<=k):gP j A:=⟨r.hd,by have:=r.dp;omega,by have:=r.un;omega⟩
def gP.deeper(r:gP (k+1) A)(env:Env):gP k (A.deeper env):=
 ⟨r.hd,by have:=r.dp;show A.depth+1+3*k+5<_;omega,by have:=r.un;show A.units+3+16*k+200<_;omega⟩
variable{C:Addr}{kw:List (Str×Value)}{us:List Value}
def Ff:(A.under (.builtin "type.__call__" ⟨.ref C::us,kw⟩)).depth=A.depth+1:=by first|rfl|simp[WS,Code.weight,Code.isCreation,Code.isGuard,Code.isCaller,X5,WT,guardIds]
def Fg:(A.under (.builtin "type.__call__" ⟨.ref C::us,kw⟩)).units=A.units+1:=by first|rfl|simp[WS,Code.cUnits,X5,WT]
def gP.make(r:gP (k+1) A)(C:Addr)(us:List Value)(kw:List (Str×Value)):gP k (A.under (.builtin "type.__call__" ⟨.ref C::us,kw⟩)):=
 ⟨r.hd,by have:=r.dp;rw[Ff];omega,by have:=r.un;rw[Fg];omega⟩
def gP.depth(r:gP k A):A.depth<recursionLimit:=by have:=r.dp;omega
def gP.units(r:gP k A):A.units+64<cLine:=by have:=r.un;omega
def cP:TA:=λ_ H Q=>Q [] H
def a_(ta:TE)(tr:TA):TA:=λσ H Q=>ta σ H λx H1=>tr σ H1 λxs H2=>Q (x::xs) H2
section
variable{X:Cx}{e:Expr}{es:List Expr}{te:TE}{t:TA}{pos:Pos}
def gQ:PA X [] cP:=λ_ _ _ _ H Q I h=>UH ⟨[],H,I,.nil,h⟩
def dF(ha:PE X e te)(hr:PA X es t)(hs:aag (e::es) X.env=(false,eval e X.env)::aag es X.env:=by rfl):PA X (e::es) (a_ te t):=by intro pos π s σ H Q I h;rw[hs];show wpAny _ _ (spliced ((false,eval e X.env)::aaf pos (aag es X.env))) _ _ s;refine Tw (du (ha π s σ H _ I h) λu s1⟨x,H1,I1,r1,q1⟩=>?_);exact du (hr pos π s1 σ H1 _ I1 q1) λus s2⟨xs,H2,I2,r2,q2⟩=>⟨x::xs,H2,I2,.cons r1 r2,q2⟩
def mB(t:TA):TE:=λσ H Q=>t σ H λxs H1=>xs.length<=aac/\∀p,H1 p=zN->Q (.ref p) (upd H1 p (.tup xs))
def bG(t:TA):TE:=λσ H Q=>t σ H λxs H1=>xs.length<=aac/\∀p,H1 p=zN->Q (.ref p) (upd H1 p (.lst xs))
def gc{x1}(h:PA X es t):PE X (.Tuple es x1 pos) (mB t):=by intro π s σ H Q I hq;refine wpAny_Tuple_spliced (du (h pos π s σ H _ I hq) λus s1⟨xs,H1,I1,r,z,q⟩=>⟨by rw[<-r.length];exact z,?_⟩);have hf:H1 s1.heap.objs.size=zN:=I1.cA.fresh (Ro _);refine⟨.ref s1.heap.objs.size,upd H1 s1.heap.objs.size (.tup xs),I1.laid (t':=s1.toks) (λb u e=>Rt _ e) (Ro _) ?_,rfl,q _ hf⟩;exact⟨z,us,r,⟨_,RN _ rfl,rfl,_,rfl⟩⟩
def aF(h:PA X es t):PE X (.List es pos) (bG t):=by intro π s σ H Q I hq;refine wpAny_List_spliced (du (h pos π s σ H _ I hq) λus s1⟨xs,H1,I1,r,z,q⟩=>⟨by rw[<-r.length];exact z,?_⟩);have hf:H1 s1.heap.objs.size=zN:=I1.cA.fresh (Ro _);refine⟨.ref s1.heap.objs.size,upd H1 s1.heap.objs.size (.lst xs),I1.laid (t':=s1.toks) (λb u e=>Rt _ e) (Ro _) ?_,rfl,q _ hf⟩;exact⟨z,us,0,r,RN _ rfl⟩
end
abbrev Sp:=List V->Hp->VK->XK->Prop
abbrev Lm:=List Env->Hp->ZW->XK->Value->ZW->Prop
structure Fh(P:ZV)(w:World)(K:Rl)(mg:Str->Option Value)(base:Heap)(A:ZZ)(outer:List Env)(s:ZW)(H:Hp):Prop where
 frames:A.frames=zS outer
 mod:Mod K mg base
 bs:∀b o,base.get? b=zS o->s.heap.get? b=zS o/\H b=zN
 Lu:base.objs.size<=s.heap.objs.size
 wy:s.heap.FunFrames base outer
 Nr:∀b∈JE outer,H b=zN
 cA:oC P w H s.heap
 bare:AllBare s.gens
def CE(outer:List Env)(P:ZV)(w:World)(H:Hp)(s:ZW)(Q:VK)(u:Value)(s':ZW):Prop:=
 ∃v H',s'.os=s.os/\AllBare s'.gens/\Un (JE outer) [] H H' s.heap s'.heap/\oC P w H' s'.heap/\RelV v u/\Q v H'
def CR(CX:Lm)(outer:List Env)(P:ZV)(w:World)(H:Hp)(s:ZW)(Q:VK)(E:XK)(r:Result)(s':ZW):Prop:=
 match r with
 | .ok (.ret u)=>CE outer P w H s Q u s'
 | .ok _=>False
 | .error e=>CX outer H s E e s'
structure ni(P:ZV)(w:World)(K:Rl)(mg:Str->Option Value)(base:Heap)(CX:Lm)(k:Nat)(f:Addr)(fd:aav)(ps:List Str)(sp:Sp):Prop where
 len:∀vs H Q E,sp vs H Q E->vs.length=ps.length
 run:∀(A:ZZ)(outer:List Env)(s:ZW)(H:Hp)(args:Args)(us:List Value)(vs:List V)(Q:VK)(E:XK),gP k A->Fh P w K mg base A outer s H->BindsTo s fd args (ps.zip us)->Vals vs us->sp vs H Q E->
  codeAny (model P w) A (.call (.ref f) args) (CR CX outer P w H s Q E) s
variable{f:Addr}{CX:Lm}{fd:aav}{ps:List Str}{P:ZV}{sp:Sp}{mg:Str->Option Value}{w:World}
def ni.mono{K:Rl}{base:Heap}(F:ni P w K mg base CX j f fd ps sp)(h:j<=k):ni P w K mg base CX k f fd ps sp:=⟨F.len,λA outer s H args us vs Q E hr=>F.run A outer s H args us vs Q E (hr.mono h)⟩
variable{H:Hp}{outer:List Env}{s:ZW}
def Fh.make{K:Rl}{base:Heap}(e:Fh P w K mg base A outer s H)(C:Addr)(us:List Value)(kw:List (Str×Value)):Fh P w K mg base (A.under (.builtin "type.__call__" ⟨.ref C::us,kw⟩)) outer s H:=⟨by first|exact e.frames|(simpa [WS,Code.envs,WT,pushEnvs]using e.frames),e.mod,e.bs,e.Lu,e.wy,e.Nr,e.cA,e.bare⟩
variable{Q:VK}
section
variable{X:Cx}{π:List (Addr×Obj)}{σ:St}{H:Hp}{s s':ZW}
def Inv.O4(I:Inv X π σ H s):Fh X.prog X.w X.K X.mg X.base X.A X.stack s H:=
 ⟨I.ok.frames,I.ok.mod,I.bs,RO I.ok.Lu I.sz,I.stack,I.Gx,I.cA,I.bare⟩
def Inv.after{u:Value}(I:Inv X π σ H s)(h:CE X.stack X.prog X.w H s Q u s'):EP X π σ Q u s':=by let⟨v,H',os,bare,un,cA,r,q⟩:=h;let⟨hh,g,d,t,os'⟩:=s';obtain rfl:os'=s.os:=os;exact⟨v,H',I.call (h':=hh) (g':=g) (d':=d) (t':=t) (ch:=[]) un cA bare (λb z=>absurd z (by simp)),r,q⟩
end
def dR(sp:Sp)(dvs:List V)(E:XK)(t:TA):TE:=λσ H Q=>t σ H λvs H1=>sp (vs++dvs) H1 Q E
def gq(C:Addr)(sp:Sp)(dvs:List V)(E:XK)(t:TA):TE:=λσ H Q=>t σ H λvs H1=>∀x dx,H1 x=zN->H1 dx=zN->dx≠x->
 sp (.ref x::(vs++dvs)) (upd (upd H1 dx (.own x)) x (.ins C dx [])) (λv H2=>v=.d7/\Q (.ref x) H2) E
def Binds(K:Rl)(fd:aav)(ps:List Str)(ds:List Value):Prop:=
 ∀(s:ZW)(us:List Value),K.In s.heap->(us++ds).length=ps.length->BindsTo s fd ⟨us,[]⟩ (ps.zip (us++ds))
def Binds.all{K:Rl}(h:∀us:List Value,us.length=ps.length->bindArgs fd ⟨us,[]⟩=pure (ps.zip us)):Binds K fd ps []:=λs us _ hl=>by rw[RB]at hl⊢;exact .of_eq (h us hl)
def Passes(CX:Lm)(X:Cx)(E:XK):Prop:=∀(π:List (Addr×Obj))(σ:St)(H:Hp)(s:ZW)(e:Value)(s':ZW),Inv X π σ H s->CX X.stack H s E e s'->X.xe e s'
variable{π:List (Addr×Obj)}{vs:List V}{σ:St}
section
variable{X:Cx}{CX:Lm}{k:Nat}{f C:Addr}{fd:aav}{ps:List Str}{sp:Sp}{dvs:List V}{ds:List Value}{E:XK}{x m:Str}{p pos apos:Pos}{e o:Expr}{es:List Expr}{ta:TE}{t:TA}
def JU(F:ni X.prog X.w X.K X.mg X.base CX k f fd ps sp)(hr:gP k X.A)(hb:Binds X.K fd ps ds)(hd:Vals dvs ds)(hx:Passes CX X E)(I:Inv X π σ H s)(r:Vals vs us)(h:sp (vs++dvs) H Q E):wpAny (model X.prog X.w) X.A (call (.ref f) us) (EP X π σ Q) X.xe s:=by
 have r2:Vals (vs++dvs) (us++ds):=r.append hd;have hl:(us++ds).length=ps.length:=by rw[<-r2.length];exact F.len _ _ _ _ h
 refine wpAny_call (codeAny_mono (F.run X.A X.stack s H ⟨us,[]⟩ (us++ds) (vs++dvs) Q E hr I.O4 (hb s us I.Hw hl) r2 h) λr s' hq=>?_)
 cases r with
 |error e=>exact hx π σ H s e s' I hq
 |ok fl=>
  cases fl with
  |ret u=>exact I.after hq
  |next=>exact False.elim hq
  |brk=>exact False.elim hq
  |cont=>exact False.elim hq
def LG(F:ni X.prog X.w X.K X.mg X.base CX k f fd ps sp)(hr:gP k X.A)(hg:Gl X x)(hm:X.mg x=zS (.ref f))(hk:S4 X.K (.ref f)=true)(hb:Binds X.K fd ps ds)(hd:Vals dvs ds)(hx:Passes CX X E)(ha:PA X (e::es) t)(hdb:(x==("__debug__":Str))=false:=by decide)(he:aag (e::es) X.env=(false,eval e X.env)::aag es X.env:=by rfl)(hpl:(aaf pos (aag es X.env)).any (·.1)=false:=by rfl):PE X (.Call (.Name x p) (e::es) [] pos) (dR sp dvs E t):=by intro π s σ H Q I h;refine aaw (t5 I hg hm ?_ hdb);refine X6 (h₀:=X.base) I.ok.mod.Qc hk (du (ha pos π s σ H _ I h) λus s1⟨vs,H1,I1,r,q⟩=>⟨I1.Hw,?_⟩) he hpl;exact JU F hr hb hd hx I1 r q
def JV(F:ni X.prog X.w X.K X.mg X.base CX k f fd ps sp)(hr:gP k X.A)(hg:Gl X x)(hm:X.mg x=zS (.ref f))(hk:S4 X.K (.ref f)=true)(hb:Binds X.K fd ps ds)(hd:Vals dvs ds)(hx:Passes CX X E)(hdb:(x==("__debug__":Str))=false:=by decide):PE X (.Call (.Name x p) [] [] pos) (dR sp dvs E cP):=by intro π s σ H Q I h;refine aaw (t5 I hg hm ?_ hdb);exact X7 I.Hw hk (JU (us:=[]) F hr hb hd hx I .nil h)
structure Mk(K:Rl)(C f:Addr):Prop where
 makes:Vy K C=true
 init:SW K (.ref C) "__init__"=zS (zS (.ref f))
 fn:Wv K (.ref f)=true
 kp:S4 K (.ref C)=true
def Dn(M:Mk X.K C f)(F:ni X.prog X.w X.K X.mg X.base CX k f fd ps sp)(hr:gP (k+1) X.A)(hb:Binds X.K fd ps ds)(hd:Vals dvs ds)(hx:Passes CX X E)(I:Inv X π σ H s)(r:Vals vs us)(h:∀x dx,H x=zN->H dx=zN->dx≠x->sp (.ref x::(vs++dvs)) (upd (upd H dx (.own x)) x (.ins C dx [])) (λv H2=>v=.d7/\Q (.ref x) H2) E):wpAny (model X.prog X.w) X.A (call (.ref C) us) (EP X π σ Q) X.xe s:=by
 have hq:=h (s.heap.objs.size+1) s.heap.objs.size (I.cA.fresh (Nat.le_succ _)) (I.cA.fresh (Ro _)) (Sd (Vi _));have I2:=Inv.made (C:=C) I;have r2:Vals (V.ref (s.heap.objs.size+1)::(vs++dvs)) (RF (s.heap.objs.size+1)::(us++ds)):=.cons rfl (r.append hd);have hl:(RF (s.heap.objs.size+1)::us++ds).length=ps.length:=by have e:=r2.length;rw[F.len _ _ _ _ hq]at e;exact e.symm
 refine wpAny_call (JT (f:=f) I.Hw M.makes M.init (beq_iff_eq.mp M.fn) (codeAny_mono (F.run _ X.stack _ _ ⟨RF (s.heap.objs.size+1)::us,[]⟩ (RF (s.heap.objs.size+1)::(us++ds)) _ _ E (hr.make C us [])
  (I2.O4.make C us []) (hb _ (RF (s.heap.objs.size+1)::us) I2.Hw hl) r2 hq) λr s' hq'=>?_))
 cases r with
 |error e=>exact hx π σ _ _ e s' I2 hq'
 |ok fl=>
  cases fl with
  |ret u=>
   let⟨v,H',I3,rv,ev,q3⟩:=I2.after hq';subst ev;exact⟨rv,⟨V.ref (s.heap.objs.size+1),H',I3,rfl,q3⟩⟩
  |next=>exact False.elim hq'
  |brk=>exact False.elim hq'
  |cont=>exact False.elim hq'
def LH(M:Mk X.K C f)(F:ni X.prog X.w X.K X.mg X.base CX k f fd ps sp)(hr:gP (k+1) X.A)(hg:Gl X x)(hm:X.mg x=zS (.ref C))(hb:Binds X.K fd ps ds)(hd:Vals dvs ds)(hx:Passes CX X E)(ha:PA X (e::es) t)(hdb:(x==("__debug__":Str))=false:=by decide)(he:aag (e::es) X.env=(false,eval e X.env)::aag es X.env:=by rfl)(hpl:(aaf pos (aag es X.env)).any (·.1)=false:=by rfl):PE X (.Call (.Name x p) (e::es) [] pos) (gq C sp dvs E t):=by intro π s σ H Q I h;refine aaw (t5 I hg hm ?_ hdb);refine X6 (h₀:=X.base) I.ok.mod.Qc M.kp (du (ha pos π s σ H _ I h) λus s1⟨vs,H1,I1,r,q⟩=>⟨I1.Hw,?_⟩) he hpl;exact Dn M F hr hb hd hx I1 r q
def JW(M:Mk X.K C f)(F:ni X.prog X.w X.K X.mg X.base CX k f fd ps sp)(hr:gP (k+1) X.A)(hg:Gl X x)(hm:X.mg x=zS (.ref C))(hb:Binds X.K fd ps ds)(hd:Vals dvs ds)(hx:Passes CX X E)(hdb:(x==("__debug__":Str))=false:=by decide):PE X (.Call (.Name x p) [] [] pos) (gq C sp dvs E cP):=by intro π s σ H Q I h;refine aaw (t5 I hg hm ?_ hdb);exact X7 I.Hw M.kp (Dn (us:=[]) M F hr hb hd hx I .nil h)
end
structure qF(N P:List Str)(sc:Scope):Prop where
 kind:sc.kind=.function
 co:sc.isCoroutine=false
 gen:sc.isGenerator=false
 nd:N.Nodup
 pre:N.take P.length=P
 par:∀x∈P,sc.names.lookup x=zS .local\/sc.names.lookup x=zS .cell
 NG:∀y∈sc.names,y.2≠.free
variable{x:Str}
def AY{kindOf:Str->Option aax}:∀{binds:List (Str×Value)}{m:Str->Option Value},(∀v,(x,v)∉binds)->bindL kindOf binds m x=m x
 |[],_,_=>rfl
 |(n,v)::r,m,h=>by
  unfold bindL;rw[AY λw hw=>h w (Rp _ hw)];split
  .have:x≠n:=by rintro rfl;exact h v Rv
   simp[this]
  .rfl
def AZ{kindOf:Str->Option aax}:∀{binds:List (Str×Value)}{m:Str->Option Value},(∀v,(x,v)∉binds)->bindC kindOf binds m x=m x
 |[],_,_=>rfl
 |(n,v)::r,m,h=>by
  unfold bindC;rw[AZ λw hw=>h w (Rp _ hw)];split
  .rfl
  .have:x≠n:=by rintro rfl;exact h v Rv
   simp[this]
def A1{kindOf:Str->Option aax}{x:Str}{v:Value}:∀{P:List Str}{vs:List Value}{i:Nat}{m:Str->Option Value},P.Nodup->P[i]?=zS x->vs[i]?=zS v->kindOf x=zS .local->bindL kindOf (P.zip vs) m x=zS v
 |[],_,_,_,_,h,_,_=>by simp at h
 |_::_,[],_,_,_,_,h,_=>by simp at h
 |p::P,w::vs,0,m,nd,h1,h2,hk=>by simp at h1 h2;subst h1;subst h2;show bindL kindOf ((p,w)::P.zip vs) m p=_;unfold bindL;rw[AY λv hv=>(RK.mp nd).1 (VI hv).1,ag hk];simp
 |p::P,w::vs,i+1,m,nd,h1,h2,hk=>by show bindL kindOf ((p,w)::P.zip vs) m x=_;unfold bindL;exact A1 (i:=i) (RK.mp nd).2 (by simpa using h1) (by simpa using h2) hk
def A2{kindOf:Str->Option aax}{x:Str}{v:Value}:∀{P:List Str}{vs:List Value}{i:Nat}{m:Str->Option Value},P.Nodup->P[i]?=zS x->vs[i]?=zS v->kindOf x≠zS .local->bindC kindOf (P.zip vs) m x=zS v
 |[],_,_,_,_,h,_,_=>by simp at h
 |_::_,[],_,_,_,_,h,_=>by simp at h
 |p::P,w::vs,0,m,nd,h1,h2,hk=>by simp at h1 h2;subst h1;subst h2;show bindC kindOf ((p,w)::P.zip vs) m p=_;unfold bindC;rw[AZ λv hv=>(RK.mp nd).1 (VI hv).1,ae hk];simp
 |p::P,w::vs,i+1,m,nd,h1,h2,hk=>by show bindC kindOf ((p,w)::P.zip vs) m x=_;unfold bindC;exact A2 (i:=i) (RK.mp nd).2 (by simpa using h1) (by simpa using h2) hk
def start(N:List Str)(vs:List V):St:=vs.map zS++Sr (N.length-vs.length) zN
def BV(CX:Lm)(P:ZV)(w:World)(K:Rl)(mg:Str->Option Value)(base:Heap)(N:List Str)(qual:Str)(scope:Scope)(f:Addr)(cd:Value)(A:ZZ)(outer:List Env)(s:ZW)(H:Hp)(E:XK):Cx where
 prog:=P
 w:=w
 K:=K
 mg:=mg
 base:=base
 A:=A.deeper (envOfC qual scope s.heap.objs.size f cd)
 N:=N
 AS:=s
 Nq:=H
 env:=envOfC qual scope s.heap.objs.size f cd
 outer:=outer
 stack:=envOfC qual scope s.heap.objs.size f cd::outer
 ex:=[]
 calm:=true
 fn:=λ_=>true
 pn:=[]
 xe:=λe s'=>wpAny (model P w) (A.deeper (envOfC qual scope s.heap.objs.size f cd)) (leaving (envOfC qual scope s.heap.objs.size f cd) e) (λ_ s''=>CX outer H s E e s'') (λe' s''=>CX outer H s E e' s'') s'
def Do{sc:Scope}{n:Nat}(h:sc.names.lookup x=zS .cell):∃c,(aay n sc.names []).lookup x=zS c:=by have q:=X8 sc.names n [] (.inl h);exact VR.mp q
variable{N:List Str}{scope:Scope}{qual:Str}
def HJ{K:Rl}{base:Heap}{cd:Value}{s1:ZW}{E:XK}(S:qF N ps scope)(hd:A.handled=zN)(e0:Fh P w K mg base A outer s H)(hl:vs.length=ps.length)(r:Vals vs us)(x:InCallC s s.heap.objs.size (bindL (envOfC qual scope s.heap.objs.size f cd).kindOf (ps.zip us) λ_=>zN) (aay (s.heap.objs.size+1) scope.names []) (bindC (envOfC qual scope s.heap.objs.size f cd).kindOf (ps.zip us) λ_=>zN) s1):Inv (BV CX P w K mg base N qual scope f cd A outer s H E) [] (start N vs) H s1:=by
 have hpl:ps.length<=N.length:=by have:=congrArg UI S.pre;rw[Sf]at this;omega
 let⟨h1,tk,rfl,hk⟩:=x.done;have noA:∀b:Addr,b∉(BV CX P w K mg base N qual scope f cd A outer s H E).ex:=λb z=>absurd (show b∈([]:List Addr)from z) (by simp)
 refine⟨⟨e0.mod,S.kind,rfl,rfl,Ro _,λy z c h1 h2=>?_,λy hy=>?_,λy c _ h=>?_,λ_=>hd,Around.frames_deeper e0.frames,.inr ⟨rfl,rfl⟩,λb z=>absurd z (noA b),e0.bs,e0.Lu,λb _ _=>noA b,λb z=>absurd z (noA b),e0.wy,e0.Nr⟩,
  rfl,e0.bare,Un.kept hk,⟨_,x.toInCall.ns,λi y v h1 h2 h3=>?_⟩,λy c h=>⟨_,x.cell y c h⟩,e0.cA.fresh (Ro _),λy c h=>?_,λp hp=>absurd (show p∈([]:List (Addr×Obj))from hp) (by simp),e0.cA.kept hk,?_⟩
 .exact name_of_addr x.apart (SQ h1) (SQ h2)
 .have hy:scope.names.lookup y=zS .cell\/scope.names.lookup y=zS .free:=hy;obtain hy|hy:=hy
  .exact Do hy
  .exact absurd rfl (S.NG _ (SQ hy))
 .exact TQ (x.above y c (SQ h))
 .have hi:i<vs.length:=by
   unfold start at h2;by_cases hi:i<vs.length
   .exact hi
   .rw[X9 (by simpa using hi)]at h2;rw[WU]at h2;split at h2<;>cases h2
  have ha:vs[i]?=zS v:=by
   unfold start at h2;rw[List.getElem?_append_left (by simpa using hi),RW]at h2
   cases e:vs[i]? with
   |none=>rw[e]at h2;cases h2
   |some a=>rw[e]at h2;cases h2;rfl
  let⟨u,hu,rv⟩:=r.get ha;have hp:ps[i]?=zS y:=by rw[<-S.pre,List.getElem?_take_of_lt (by omega)];exact h1
  have ndP:ps.Nodup:=by rw[<-S.pre];exact S.nd.sublist (List.take_sublist _ _)
  refine⟨u,rv,?_⟩;obtain k|k:=S.par y (Rz hp)
  .exact .inl ⟨k,A1 ndP hp hu k⟩
  .let⟨c,e⟩:=Do (n:=s.heap.objs.size+1) k;refine .inr ⟨.inl k,c,e,?_⟩;have q:=x.cell y c e;rw[A2 ndP hp hu (by show scope.names.lookup y≠_;rw[k];decide)]at q;exact q
 .exact e0.cA.fresh (TQ (x.above y c (SQ h)))
 .unfold start;show _=N.length;rw[RH,Rr,List.length_replicate];omega
def O5{K:Rl}{base:Heap}{name:Str}{params:Arguments}{body:List Stmt}{dV kV doc pm cdv ct oc:Value}{an od:Option Addr}{osl:Array (Option Value)}(lk:K.lookup f=zS ⟨oc,od,.func (S3 name qual params body scope dV kV doc pm an cdv ct),osl⟩)(hcd:T_ K cdv qual=true)(S:qF N ps scope)(len:∀vs H Q E,sp vs H Q E->vs.length=ps.length)(hbody:∀(A:ZZ)(outer:List Env)(s:ZW)(H:Hp)(vs:List V)(Q:VK)(E:XK),gP k (A.deeper (envOfC qual scope s.heap.objs.size f cdv))->sp vs H Q E->∃t,EM (BV CX P w K mg base N qual scope f cdv A outer s H E) body t/\t {nx:=λ_ H'=>Q .d7 H',rt:=Q} (start N vs) H):ni P w K mg base CX (k+1) f (S3 name qual params body scope dV kV doc pm an cdv ct) ps sp:=by
 refine⟨len,λA outer s H args us vs Q E hr e0 hb r hsp=>?_⟩;have hl:=len _ _ _ _ hsp;have KX:K.In s.heap:=e0.mod.Qc.keeps λb o e=>(e0.bs b o e).1;have lim:s.heap.NoLimit:=e0.mod.nolimit.keeps λb o e=>(e0.bs b o e).1;have hkind:∀y∈ps.zip us,scope.names.lookup y.1=zS .local\/(scope.names.lookup y.1=zS .cell/\((aay (s.heap.objs.size+1) scope.names []).lookup y.1).isSome=true):=λ⟨n,v⟩ hy=>by
  obtain q|q:=S.par n (VI hy).1
  .exact .inl q
  .exact .inr ⟨q,X8 _ _ _ (.inl q)⟩
 refine codeAny_call_function hr.depth (KX _ _ lk) rfl S.co S.gen rfl (PySem.W.codeRec_of KX hcd) (hb _ _ _ _ ?_);refine wpAny_newFunctionEnv_cells S.kind hkind λenv he s1 x=>?_;subst he;refine⟨lim.keeps x.toInCall.keep,codeAny_func ?_⟩;let⟨t,ht,hq⟩:=hbody A outer s H vs Q E (hr.deeper _) hsp;have I:Inv (BV CX P w K mg base N qual scope f cdv A outer s H E) [] (start N vs) H s1:=HJ S hr.hd e0 hl r x;refine aah (ht [] s1 (start N vs) H _ I hq) (λfl s' hs=>?_) λe s' hs=>hs
 have fin:∀{σ':St}{H':Hp}{v:V}{u:Value},Inv (BV CX P w K mg base N qual scope f cdv A outer s H E) [] σ' H' s'->RelV v u->Q v H'->CE outer P w H s Q u s':=
  λ{σ' H' v u} J rv q=>⟨v,H',J.os,J.bare,J.base,J.cA,rv,q⟩
 cases fl with
 |ret u=>
  let⟨v,σ',H',J,rv,q⟩:=hs;exact fin J rv q
 |next=>
  let⟨σ',H',J,q⟩:=hs;exact fin (v:=V.d7) (u:=S8) J rfl q
 |brk=>
  let⟨_,_,_,q⟩:=hs;exact False.elim q
 |cont=>
  let⟨_,_,_,q⟩:=hs;exact False.elim q
section
variable{X:Cx}{x:Str}{p pos:Pos}{e:Expr}{es:List Expr}{t:TA}{id T:String}{r:List V->Hp->VK->Prop}
def dP(r:List V->Hp->VK->Prop)(t:TA):TE:=λσ H Q=>t σ H λvs H1=>r vs H1 Q
def JX(hc:eP X (.builtin id) r)(hg:Gl X x)(hm:X.mg x=zN)(hv:aae x=zS (.builtin id))(ha:PA X (e::es) t)(hn:x≠"__name__":=by decide)(hdb:(x==("__debug__":Str))=false:=by decide)(he:aag (e::es) X.env=(false,eval e X.env)::aag es X.env:=by rfl)(hpl:(aaf pos (aag es X.env)).any (·.1)=false:=by rfl):PE X (.Call (.Name x p) (e::es) [] pos) (dP r t):=by intro π s σ H Q I h;refine aaw (nh I hg hm hv ?_ hn hdb);exact ZO (du (ha pos π s σ H _ I h) λus s1⟨vs,H1,I1,r1,q1⟩=>hc π s1 σ H1 vs us Q I1 r1 q1) he hpl
def HK(hc:eP X (.type T) r)(hg:Gl X x)(hm:X.mg x=zN)(hv:aae x=zS (.type T))(ha:PA X (e::es) t)(hn:x≠"__name__":=by decide)(hdb:(x==("__debug__":Str))=false:=by decide)(he:aag (e::es) X.env=(false,eval e X.env)::aag es X.env:=by rfl)(hpl:(aaf pos (aag es X.env)).any (·.1)=false:=by rfl):PE X (.Call (.Name x p) (e::es) [] pos) (dP r t):=by intro π s σ H Q I h;refine aaw (nh I hg hm hv ?_ hn hdb);exact TR (du (ha pos π s σ H _ I h) λus s1⟨vs,H1,I1,r1,q1⟩=>hc π s1 σ H1 vs us Q I1 r1 q1) he hpl
end
end L2
namespace HT
open PySem PyProof.Rows
section
variable{prog:ZV}{w:World}{A:ZZ}{E:Value->ZW->Prop}{s:ZW}
def LI{t b:Addr}{vs ws:List Value}{Q:Value->ZW->Prop}(ht:IsTup s.heap t vs.toArray)(hb:IsTup s.heap b ws.toArray)(hv:vs≠[])(h1:ws=[]->Q (.ref t) s)(h2:ws≠[]->Q (.ref s.heap.objs.size) {s with heap:=s.heap.push {cls:=.type "tuple",data:=.seq (vs++ws).toArray}})(hsz:vs.length+ws.length<=aac):wpAny (model prog w) A (aat .Add (.ref t) (.ref b)) Q E s:=by
 let⟨⟨cls,dd,data,sl⟩,ho,hc,n,hd⟩:=id ht;let⟨⟨cls2,dd2,data2,sl2⟩,ho2,hc2,n2,hd2⟩:=id hb;simp only at hc hd hc2 hd2;subst hc hd hc2 hd2;have e:vs.toArray++ws.toArray=(vs++ws).toArray:=by simp
 by_cases hw:ws=[]
 .exact concat_meets ⟨_,ho,rfl⟩ ⟨_,ho2,rfl⟩ noFill_tuple_add seq_tuple_add WV WW (WX _ _)
   (tuple_addW1 t b vs.toArray ws.toArray n n2 dd dd2 sl sl2 (by simpa using hv) (by simp[hw])) ⟨ho,ho2,h1 hw⟩
 .refine concat_meets ⟨_,ho,rfl⟩ ⟨_,ho2,rfl⟩ noFill_tuple_add seq_tuple_add WV WW (WX _ _)
   (tuple_addW2 t b vs.toArray ws.toArray n n2 dd dd2 sl sl2 (by simpa using hv) (by simpa using hw) (by rw[RT,RT];exact hsz)) ⟨ho,ho2,?_⟩
  rw[e];exact h2 hw
def EN(n d:Nat):Option Int->Nat
 |none=>d
 |some v=>if v<0 then(v+(n:Int)).toNat else min v.toNat n
def GF(n d k:Nat):EN n d (zS (k:Int))=min k n:=by show(if(k:Int)<0 then((k:Int)+(n:Int)).toNat else min (k:Int).toNat n)=min k n;rw[ae (by omega),Sg]
end
end HT
namespace L2
open PySem PySem.Spec PyProof.Rows
abbrev TO:=St->Hp->(Option Int->Hp->Prop)->Prop
def PO(X:Cx)(e:Option Expr)(t:TO):Prop:=
 ∀(π:List (Addr×Obj))(s:ZW)(σ:St)(H:Hp)(Q:Option Int->Hp->Prop),Inv X π σ H s->t σ H Q->
  wpAny (model X.prog X.w) X.A (evalPart e X.env) (λu s'=>∃o H',Inv X π σ H' s'/\IsPart u o/\Q o H') X.xe s
def A3(t:TE):TO:=λσ H Q=>t σ H λx H1=>∃i,x=.int i/\Q (zS i) H1
section
variable{X:Cx}{e:Expr}{te:TE}{lo hi:Option Expr}{tl th:TO}{pos p2:Pos}
def wV(h:PE X e te):PO X (zS e) (A3 te):=by intro π s σ H Q I hw;rw[evalPart_some];refine du (h π s σ H _ I hw) λu s1⟨x,H1,I1,r1,q1⟩=>?_;let⟨i,rfl,q⟩:=q1;let⟨t,rfl⟩:=r1;exact⟨zS i,H1,I1,.int i t,q⟩
def Q8(X:Cx)(r:V->Option Int->Option Int->Hp->VK->Prop):Prop:=
 ∀(π:List (Addr×Obj))(s:ZW)(σ:St)(H:Hp)(x:V)(v vl vu:Value)(lo hi:Option Int)(sl:Addr)(Q:VK),Inv X π σ H s->RelV x v->s.heap.IsSliceOf sl vl vu .none->IsPart vl lo->IsPart vu hi->r x lo hi H Q->
  ∃T id,typeLookup (.type T) "__getitem__"=pure (zS (.builtin id))/\s.TypeIs v T/\wpAny (model X.prog X.w) X.A (getItem v (.ref sl)) (EP X π σ Q) X.xe s
def Qi(r:V->Option Int->Option Int->Hp->VK->Prop)(te:TE)(tl th:TO):TE:=λσ H Q=>te σ H λx H1=>tl σ H1 λl H2=>th σ H2 λu H3=>r x l u H3 Q
def Dp{r:V->Option Int->Option Int->Hp->VK->Prop}(hr:Q8 X r)(he:PE X e te)(hl:PO X lo tl)(hu:PO X hi th):PE X (.Subscript e (.Slice lo hi zN p2) pos) (Qi r te tl th):=by intro π s σ H Q I h;refine Subscript_ (du (he π s σ H _ I h) λv s1⟨x,H1,I1,r1,q1⟩=>?_);refine wpAny_Slice (du (hl π s1 σ H1 _ I1 q1) λvl s2⟨l,H2,I2,pl,q2⟩=>du (hu π s2 σ H2 _ I2 q2) λvu s3⟨u,H3,I3,pu,q3⟩=>?_);rw[evalPart_none];refine Z5 ?_;have I4:Inv X π σ H3 {s3 with heap:=s3.heap.push {cls:=.type "slice",data:=.fields #[vl,vu,.none]}}:=I3.kept (t':=s3.toks) λb ob q=>Rt _ q;let⟨T,id,hT,ht,hg⟩:=hr π {s3 with heap:=s3.heap.push {cls:=.type "slice",data:=.fields #[vl,vu,.none]}} σ H3 x v vl vu l u s3.heap.objs.size Q I4 r1 (ZP ..) pl pu q3;show wpAny (model X.prog X.w) X.A (subscriptTail e (.Slice lo hi zN p2) v (.ref s3.heap.objs.size)) (EP X π σ Q) X.xe {s3 with heap:=s3.heap.push {cls:=.type "slice",data:=.fields #[vl,vu,.none]}};exact tail_any (ops:=[.ref s3.heap.objs.size,v]) ht hT hg (by with_unfolding_all rfl)
def HM(xs:List V)(lo hi:Option Int):List V:=(xs.drop (HT.EN xs.length 0 lo)).take (HT.EN xs.length xs.length hi-HT.EN xs.length 0 lo)
def Dq(xs:List V)(lo hi:Option Int):(HM xs lo hi).length<=xs.length:=by unfold HM;rw[Sf,Vj];omega
def JY(K:Rl):R2:=λx y H Q=>∃a b xs ys,x=.ref a/\y=.ref b/\km K H a xs/\km K H b ys/\xs≠[]/\xs.length+ys.length<=aac/\
 (ys=[]->Q (.ref a) H)/\(ys≠[]->∀p,H p=zN->Q (.ref p) (upd H p (.tup (xs++ys))))
def Vals.wW{xs:List V}{us:List Value}(r:Vals xs us):us=[]<->xs=[]:=by
 cases r with
 |nil=>simp
 |cons _ _=>simp
def GG:rH X (aat .Add) (JY X.K):=by intro π s σ H x y v u Q I rx ry h;let⟨a,b,xs,ys,rfl,rfl,ha,hb,hx,hz,q1,q2⟩:=h;cases rx;cases ry;let⟨aR,r1,p1,_⟩:=I.tuple ha;let⟨its2,r2,p2,_⟩:=I.tuple hb;refine HT.LI p1 p2 (λz=>hx (r1.wW.mp z)) (λz=>⟨.ref a,H,I,rfl,q1 (r2.wW.mp z)⟩) (λz=>?_) (by rw[<-r1.length,<-r2.length];exact hz);refine⟨.ref s.heap.objs.size,_,I.laid (t':=s.toks) (o:=.tup (xs++ys)) (λb ob q=>Rt _ q) (Ro _) ?_,rfl,q2 (λw=>z (r2.wW.mpr w)) _ (I.cA.fresh (Ro _))⟩;exact⟨by rw[RH];exact hz,_,r1.append r2,X_ _ _⟩
end
def MN(n:Nat)(i:Int):Option Nat:=if 0<=i then(if i<n then zS i.toNat else zN)else if-(n:Int)<=i then zS (i+n).toNat else zN
def NH{α:Type}(xs:List α)(i:Int):Option α:=(MN xs.length i).bind λj=>xs[j]?
variable{i:Int}{j n:Nat}
def GH(h:MN n i=zS j):seqIndex? i n=zS j/\j<n/\ -(n:Int)<=i/\i<n:=by
 unfold MN at h;by_cases h0:0<=i
 .rw[ag h0]at h;by_cases h1:i<n
  .rw[ag h1]at h;have e:i.toNat=j:=RA h;exact⟨by rw[seqIndex_of h0 h1,e],by omega,by omega,h1⟩
  .rw[ae h1]at h;cases h
 .rw[ae h0]at h;by_cases h1: -(n:Int)<=i
  .rw[ag h1]at h;have e:(i+n).toNat=j:=RA h;exact⟨by rw[seqIndex_neg (by omega) h1,e],by omega,h1,by omega⟩
  .rw[ae h1]at h;cases h
def GI{α:Type}{xs:List α}{v:α}(h:NH xs i=zS v):∃j,seqIndex? i xs.length=zS j/\xs[j]?=zS v/\j<xs.length/\ -(xs.length:Int)<=i/\i<xs.length:=by
 unfold NH at h
 cases e:MN xs.length i with
 |none=>rw[e]at h;cases h
 |some j=>
  rw[e]at h;let⟨h1,h2,h3,h4⟩:=GH e;exact⟨j,h1,h,h2,h3,h4⟩
def LJ{α:Type}{xs:List α}{v:α}(h:xs[j]?=zS v):NH xs (j:Int)=zS v:=by
 have hj:j<xs.length:=(RE.mp h).1;have e:MN xs.length (j:Int)=zS j:=by unfold MN;rw[ag (by omega),ag (by omega)];simp
 unfold NH;rw[e];exact h
def GJ(b:Expr):Prop:=∀o i,subscripted b false o i=operate [o,i] (getItem o i)
def Qj(X:Cx)(r:R2):Prop:=
 ∀(value slice:Expr)(π:List (Addr×Obj))(s:ZW)(σ:St)(H:Hp)(x y:V)(v u:Value)(Q:VK),Inv X π σ H s->RelV x v->RelV y u->r x y H Q->
  subscripted slice false v u=operate [v,u] (getItem v u)->wpAny (model X.prog X.w) X.A (subscriptTail value slice v u) (EP X π σ Q) X.xe s
def Qk(X:Cx)(id:String)(r:V->List V->Hp->VK->Prop):Prop:=
 ∀(π:List (Addr×Obj))(s:ZW)(σ:St)(H:Hp)(x:V)(xs:List V)(v:Value)(us:List Value)(Q:VK),Inv X π σ H s->RelV x v->Vals xs us->r x xs H Q->
  wpAny (model X.prog X.w) X.A (call (.builtin id) (v::us)) (EP X π σ Q) X.xe s
variable{p:Addr}{A:ZZ}{H:Hp}{π:List (Addr×Obj)}{xs:List V}{s:ZW}{σ:St}{x y:V}{u v:Value}
section
variable{X:Cx}{a b:Expr}{ta tb:TE}{pos:Pos}
def O6{r:R2}(hr:Qj X r)(ha:PE X a ta)(hb:PE X b tb)(hs:GJ b):PE X (.Subscript a b pos) (aP r ta tb):=by intro π s σ H Q I h;exact Subscript_ (NB ha hb I h λv u s2 x y H2 I2 rx ry q=>hr a b π s2 σ H2 x y v u Q I2 rx ry q (hs _ _))
def dQ(K:Rl):R2:=λx y H Q=>∃p xs i v,x=.ref p/\y=.int i/\cD K H p xs/\NH xs i=zS v/\Q v H
def ke(K:Rl):R2:=λx y H Q=>∃p xs i v,x=.ref p/\y=.int i/\km K H p xs/\NH xs i=zS v/\Q v H
def aN:Qj X (dQ X.K):=by
 intro value slice π s σ H x y v u Q I rx ry h hs;let⟨p,xs,i,z,rfl,rfl,hq,he,q⟩:=h;cases rx;let⟨t,rfl⟩:=ry;let⟨aR,r,pl,hz⟩:=I.list hq;let⟨j,h1,h2,h3,h4,h5⟩:=GI he;let⟨w,ew,rw'⟩:=r.get h2;have hl:=r.length;have hn:=BU;have fin:EP X π σ Q w s:=⟨z,H,I,rw',q⟩;by_cases h0:0<=i
 .have hj:i.toNat=j:=by rw[seqIndex_of h0 h5]at h1;exact RA h1
  exact item_listR pl.isList h0 (by omega) (by rw[hj];simpa using ew) fin hs
 .have hj:(i+(aR.toArray.size:Int)).toNat=j:=by rw[seqIndex_neg (by omega) h4]at h1;rw[RT,<-hl];exact RA h1
  exact subscriptTail_builtinR (x:=w) pl.isList.typeIs slot_list_getitem.lookup
   (wpAny_getItem_list_neg (Q:=λr s'=>r=w/\EP X π σ Q r s') pl.isList (by omega) (by rw[RT]<;>omega) (by omega) (by rw[hj];simpa using ew) ⟨rfl,fin⟩) hs
def fO:Qj X (ke X.K):=by
 intro value slice π s σ H x y v u Q I rx ry h hs;let⟨p,xs,i,z,rfl,rfl,hq,he,q⟩:=h;cases rx;let⟨t,rfl⟩:=ry;let⟨aR,r,pl,hz⟩:=I.tuple hq;let⟨j,h1,h2,h3,h4,h5⟩:=GI he;let⟨w,ew,rw'⟩:=r.get h2;have hl:=r.length;have hn:=BU;have fin:EP X π σ Q w s:=⟨z,H,I,rw',q⟩
 exact subscriptTail_builtinR (x:=w) pl.typeIs slot_tuple_getitem.lookup
  (getItem_tuple (j:=j) (Q:=λr s'=>r=w/\EP X π σ Q r s') pl (by omega) (by omega) (by rw[RT,<-hl];exact h1) (by simpa using ew) ⟨rfl,fin⟩) hs
def Fi(aR:List Value)(n j:Nat)(u:Value):Um (·.setIfInBounds j u) {cls:=.type "list",data:=.seq aR.toArray n}={cls:=.type "list",data:=.seq (aR.set j u).toArray n}:=by simp[Um]
def Inv.lst(I:Inv X π σ H s)(h:H p=zS (.lst xs)):∃(aR:List Value)(n:Nat),Vals xs aR/\s.heap.get? p=zS {cls:=.type "list",data:=.seq aR.toArray n}/\xs.length<=aac:=by let⟨z,aR,n,r,e⟩:=I.cA p _ h;exact⟨aR,n,r,e,z⟩
def Inv.NI{ys:List V}{aR its':List Value}{n':Nat}{f:Obj->Obj}(I:Inv X π σ H s)(h:H p=zS (.lst xs))(ho:s.heap.get? p=zS {cls:=.type "list",data:=.seq aR.toArray n})(hf:f {cls:=.type "list",data:=.seq aR.toArray n}={cls:=.type "list",data:=.seq its'.toArray n'})(r:Vals ys its')(hz:ys.length<=aac)(t:Nat):Inv X π σ (upd H p (.lst ys)) {s with heap:=s.heap.update p f,toks:=t}:=by
 have e:(s.heap.update p f).get? p=zS {cls:=.type "list",data:=.seq its'.toArray n'}:=by rw[Vk f ho (by rw[hf]<;>rfl),hf]
 refine I.write (x:=p) (e:=p) (by rw[h];trivial) (.inl rfl) (λb u hb q=>(Yb _ _ (SY hb)).trans q) ⟨_,e⟩ ?_;exact⟨hz,its',n',r,e⟩
def GK:V->V->V->Hp->(Hp->Prop)->Prop:=λo i v H Q=>∃p xs k j,o=.ref p/\i=.int k/\H p=zS (.lst xs)/\MN xs.length k=zS j/\Q (upd H p (.lst (xs.set j v)))
def set_list:OZ X GK:=by
 intro π s σ H o i v ov iv u Q I ro ri rv h;let⟨p,xs,k,j,rfl,rfl,hp,hj,q⟩:=h;cases ro;let⟨t,rfl⟩:=ri;let⟨aR,n,r,ho,hz⟩:=I.lst hp;let⟨h1,h2,h3,h4⟩:=GH hj;have hl:=r.length;have hn:=BU
 have I':Inv X π σ (upd H p (.lst (xs.set j v))) {s with heap:=s.heap.update p (Um (·.setIfInBounds j u))}:=
  I.NI hp ho (Fi aR n j u) (r.set rv j) (by rw[WY];exact hz) s.toks
 by_cases h0:0<=k
 .have hk:k.toNat=j:=by rw[seqIndex_of h0 h4]at h1;exact RA h1
  exact PySem.W.ki_setAt ho h0 (by omega) (by rw[RT,<-hl];exact h4) (by rw[hk];exact⟨_,I',q⟩)
 .have hk:(k+(aR.toArray.size:Int)).toNat=j:=by rw[seqIndex_neg (by omega) h3]at h1;rw[RT,<-hl];exact RA h1
  exact PySem.W.ki_setBack ho (by omega) (by rw[RT,<-hl];exact h3) (by omega) (by rw[hk];exact⟨_,I',q⟩)
def BW(lo hi:Option Int)(n:Nat):(aaz lo hi zN n).1=((HT.EN n 0 lo:Nat):Int)/\(aaz lo hi zN n).2.1=((HT.EN n n hi:Nat):Int)/\(aaz lo hi zN n).2.2=1:=by
 refine⟨?_,?_,rfl⟩
 .cases lo with
  |none=>simp[aaz,HT.EN]
  |some i=>
   simp only[aaz,HT.EN,Yc,show(1:Int)>0 by decide,if_true];by_cases h:i<0
   .simp only[h,if_true]<;>omega
   .simp only[h,if_false]<;>omega
 .cases hi with
  |none=>simp[aaz,HT.EN]
  |some i=>
   simp only[aaz,HT.EN,Yc,show(1:Int)>0 by decide,if_true];by_cases h:i<0
   .simp only[h,if_true]<;>omega
   .simp only[h,if_false]<;>omega
def zF(aR:List Value)(lo hi:Option Int):slicePick aR.toArray lo hi zN=((aR.drop (HT.EN aR.length 0 lo)).take (HT.EN aR.length aR.length hi-HT.EN aR.length 0 lo)).toArray:=by let⟨h1,h2,h3⟩:=BW lo hi aR.toArray.size;unfold slicePick;rw[h1,h2,h3];simp only[sliceRange_one,pick_run,RT]<;>rfl
def LK(K:Rl):V->Option Int->Option Int->Hp->VK->Prop:=λx lo hi H Q=>∃a xs,x=.ref a/\cD K H a xs/\∀p,H p=zN->Q (.ref p) (upd H p (.lst (HM xs lo hi)))
def GL:Q8 X (LK X.K):=by intro π s σ H x v vl vu lo hi sl Q I rx hs pl pu h;let⟨a,xs,rfl,hx,q⟩:=h;cases rx;let⟨aR,r,ht,hz⟩:=I.list hx;have hlen:=r.length;refine⟨"list",_,slot_list_getitem.lookup,ht.isList.typeIs,?_⟩;refine wpAny_getItem_list_slice ht.isList hs pl pu .none (by simp) ?_ (by rw[RT]<;>omega);rw[zF,<-hlen];refine⟨.ref s.heap.objs.size,_,I.laid (t':=s.toks) (o:=.lst (HM xs lo hi)) (λb ob q=>Rt _ q) (Ro _) ?_,rfl,q _ (I.cA.fresh (Ro _))⟩;exact⟨RO (Dq xs lo hi) hz,_,0,(r.drop (HT.EN xs.length 0 lo)).take (HT.EN xs.length xs.length hi-HT.EN xs.length 0 lo),RN _ rfl⟩
def mC:V->Bool
 | .d7=>true
 | .bl _=>true
 | .int _=>true
 | .str _=>true
 |_=>false
def GM:V->V->Bool
 | .d7,.d7=>true
 | .bl a,.bl b=>a==b
 | .bl a,.int b=>(if a then 1 else 0)==b
 | .int a,.bl b=>a==(if b then 1 else 0)
 | .int a,.int b=>a==b
 | .str a,.str b=>a==b
 |_,_=>false
def NJ(ry:RelV y u)(rx:RelV x v)(fy:mC y=true)(fx:mC x=true):Yd A s u v (GM y x):=by
 cases y with
 |d7=>
  cases ry
  cases x with
  |d7=>cases rx;exact SeqAt.EqAt.same _
  |bl b=>cases rx;exact SeqAt.EqAt.none_bool b
  |int b=>let⟨t,rfl⟩:=rx;exact SeqAt.EqAt.none_int b t
  |str b=>let⟨t,rfl⟩:=rx;exact SeqAt.EqAt.none_str b t
  |_=>exact absurd (show false=true from fx) R5
 |bl a=>
  cases ry
  cases x with
  |d7=>cases rx;exact SeqAt.EqAt.bool_none a
  |bl b=>cases rx;exact SeqAt.EqAt.bool_bool a b
  |int b=>let⟨t,rfl⟩:=rx;exact SeqAt.EqAt.bool_int a b t
  |str b=>let⟨t,rfl⟩:=rx;exact SeqAt.EqAt.bool_str a b t
  |_=>exact absurd (show false=true from fx) R5
 |int a=>
  let⟨t',rfl⟩:=ry
  cases x with
  |d7=>cases rx;exact SeqAt.EqAt.int_none a t'
  |bl b=>cases rx;exact SeqAt.EqAt.int_bool a t' b
  |int b=>let⟨t,rfl⟩:=rx;exact SeqAt.EqAt.int_int a t' b t
  |str b=>let⟨t,rfl⟩:=rx;exact XU a t' b t
  |_=>exact absurd (show false=true from fx) R5
 |str a=>
  let⟨t',rfl⟩:=ry
  cases x with
  |d7=>cases rx;exact SeqAt.EqAt.str_none a t'
  |bl b=>cases rx;exact SeqAt.EqAt.str_bool a t' b
  |int b=>let⟨t,rfl⟩:=rx;exact XW a t' b t
  |str b=>let⟨t,rfl⟩:=rx;exact SeqAt.EqAt.str_str a t' b t
  |_=>exact absurd (show false=true from fx) R5
 |_=>exact absurd (show false=true from fy) R5
def EO(x:V)(u:Value):Bool:=match u with
 | .none=>GM .d7 x
 | .bool b=>GM (.bl b) x
 | .int i _=>GM (.int i) x
 | .str z _=>GM (.str z) x
 |_=>false
def BX(r:RelV y u)(f:mC y=true):EO x u=GM y x:=by
 cases y with
 |d7=>cases r;rfl
 |bl b=>cases r;rfl
 |int i=>let⟨t,rfl⟩:=r;rfl
 |str z=>let⟨t,rfl⟩:=r;rfl
 |_=>exact absurd (show false=true from f) R5
def t8:∀{xs:List V}{us:List Value},Vals xs us->xs.all mC=true->us.any (EO x)=xs.any λy=>GM y x
 |_,_,.nil,_=>rfl
 |y::xs,u::us,.cons r t,f=>by rw[WZ,SH]at f;rw[Vl,Vl,BX r f.1,t8 t f.2]
def mD(rx:RelV x v)(fx:mC x=true):∀{xs:List V}{us:List Value},Vals xs us->xs.all mC=true->∀u∈us,Yd A s u v (EO x u)
 |_,_,.nil,_=>λu hu=>by cases hu
 |y::xs,u::us,.cons r t,f=>λu' hu=>by
  rw[WZ,SH]at f;obtain rfl|hu:=Rn.mp hu
  .rw[BX r f.1];exact NJ r rx f.1 fx
  .exact mD rx fx t f.2 u' hu
def Ql(x:V)(xs:List V):Bool:=xs.any λy=>GM y x
def LL(K:Rl)(neg:Bool):R2:=λx y H Q=>∃p xs,y=.ref p/\(cD K H p xs\/km K H p xs)/\mC x=true/\xs.all mC=true/\Q (.bl (if neg then !Ql x xs else Ql x xs)) H
def HQ:rH X (aai .In) (LL X.K false):=by
 intro π s σ H x y v u Q I rx ry h;let⟨p,xs,rfl,hq,fx,fs,q⟩:=h;cases ry;obtain hq|hq:=hq
 .let⟨aR,r,pl,hz⟩:=I.list hq;refine SeqAt.in_listAt (EO x) pl.isList (λw hw=>mD rx fx r fs w (by simpa using hw)) ⟨.bl _,H,I,rfl,?_⟩;rw[show aR.toArray.any (EO x)=aR.any (EO x) by simp,t8 r fs];exact q
 .let⟨aR,r,pl,hz⟩:=I.tuple hq;refine SeqAt.in_tupleAt (EO x) pl (λw hw=>mD rx fx r fs w (by simpa using hw)) ⟨.bl _,H,I,rfl,?_⟩;rw[show aR.toArray.any (EO x)=aR.any (EO x) by simp,t8 r fs];exact q
def kf:rH X (aai .NotIn) (LL X.K true):=by
 intro π s σ H x y v u Q I rx ry h;let⟨p,xs,rfl,hq,fx,fs,q⟩:=h;cases ry;obtain hq|hq:=hq
 .let⟨aR,r,pl,hz⟩:=I.list hq;refine SeqAt.notIn_listAt (EO x) pl.isList (λw hw=>mD rx fx r fs w (by simpa using hw)) ⟨.bl _,H,I,rfl,?_⟩;rw[show aR.toArray.any (EO x)=aR.any (EO x) by simp,t8 r fs];exact q
 .let⟨aR,r,pl,hz⟩:=I.tuple hq;refine SeqAt.notIn_tupleAt (EO x) pl (λw hw=>mD rx fx r fs w (by simpa using hw)) ⟨.bl _,H,I,rfl,?_⟩;rw[show aR.toArray.any (EO x)=aR.any (EO x) by simp,t8 r fs];exact q
def BY:eP X (.builtin "len") (λxs H Q=>∃p ys,xs=[.ref p]/\(cD X.K H p ys\/km X.K H p ys)/\Q (.int ys.length) H):=by
 intro π s σ H xs us Q I r h;let⟨p,ys,rfl,hq,q⟩:=h;let⟨u,rfl,rx⟩:=vals1 r;cases rx;have hn:=BU;obtain hq|hq:=hq
 .let⟨aR,r',pl,hz⟩:=I.list hq;have hlen:=r'.length;exact Calls.call_len_list pl.isList (by simp only[RT]<;>omega) ⟨.int ys.length,H,I.tok _,⟨s.toks+1,by rw[RT,hlen]⟩,q⟩
 .let⟨aR,r',pl,hz⟩:=I.tuple hq;have hlen:=r'.length;exact len_tuple pl (by simp only[RT]<;>omega) ⟨.int ys.length,H,I.tok _,⟨s.toks+1,by rw[RT,hlen]⟩,q⟩
def BZ:eP X (.type "list") (λxs H Q=>∃p ys,xs=[.ref p]/\(cD X.K H p ys\/km X.K H p ys)/\∀l,H l=zN->Q (.ref l) (upd H l (.lst ys))):=by
 intro π s σ H xs us Q I r h;let⟨p,ys,rfl,hq,q⟩:=h;let⟨u,rfl,rx⟩:=vals1 r;cases rx
 have fin:∀(aR:List Value),Vals ys aR->ys.length<=aac->∀(h':Heap)(c':Nat),(∀b o',s.heap.get? b=zS o'->h'.get? b=zS o')->
   h'.get? s.heap.objs.size=zS {cls:=.type "list",dict:=zN,data:=.seq aR.toArray c',slots:= #[]}->EP X π σ Q (.ref s.heap.objs.size) {s with heap:=h'}:=λaR r' hz h' c' kp e=>
  ⟨.ref s.heap.objs.size,_,I.laid (t':=s.toks) kp (Ro _) (show dz X.prog X.w _ h' _ (.lst ys)from⟨hz,aR,c',r',e⟩),rfl,q _ (I.cA.fresh (Ro _))⟩
 obtain hq|hq:=hq
 .let⟨aR,r',pl,hz⟩:=I.list hq;have hlen:=r'.length;let⟨o,ho,hc,n,hd⟩:=pl.isList;exact call_list_seq p (.inl rfl) ho hc hd (λh' c' kp e=>fin aR r' hz h' c' kp e) (by simp only[RT]<;>omega)
 .let⟨aR,r',pl,hz⟩:=I.tuple hq;have hlen:=r'.length;let⟨o,ho,hc,n,hd⟩:=pl;exact call_list_seq p (.inr rfl) ho hc hd (λh' c' kp e=>fin aR r' hz h' c' kp e) (by simp only[RT]<;>omega)
def zG:eP X (.type "tuple") (λxs H Q=>∃p ys,xs=[.ref p]/\((cD X.K H p ys/\∀l,H l=zN->Q (.ref l) (upd H l (.tup ys)))\/(km X.K H p ys/\Q (.ref p) H))):=by
 intro π s σ H xs us Q I r h;let⟨p,ys,rfl,h⟩:=h;let⟨u,rfl,rx⟩:=vals1 r;cases rx;obtain⟨hq,q⟩|⟨hq,q⟩:=h
 .let⟨aR,r',pl,hz⟩:=I.list hq;have hlen:=r'.length;refine call_tuple_list pl.isList (λh' kp=>?_) (by simp only[RT]<;>omega);have I1:Inv X π σ H {s with heap:=h'}:=I.kept (t':=s.toks) kp
  have I2:Inv X π σ (upd H h'.objs.size (.tup ys)) {s with heap:=h'.push {cls:=.type "tuple",data:=.seq aR.toArray}}:=
   I1.laid (t':=s.toks) (λb o e=>Rt _ e) (Ro _) (show dz X.prog X.w _ _ _ (.tup ys)from⟨hz,aR,r',X_ _ _⟩)
  exact⟨.ref h'.objs.size,_,I2,rfl,q _ (I1.cA.fresh (Ro _))⟩
 .let⟨aR,r',pl,hz⟩:=I.tuple hq;exact call_tuple_same pl ⟨.ref p,H,I,rfl,q⟩
def OA(K:Rl)(T:String)(x:V)(H:Hp):Prop:=match x with
 | .str _=>T="str"
 | .int _=>T="int"
 | .ref p=>(T="list"/\∃xs,cD K H p xs)\/(T="tuple"/\∃o,K.lookup p=zS o/\o.cls=.type "tuple"/\o.dict=zN)\/
   (T="dict"/\((∃kvs,H p=zS (.dK kvs))\/∃kvs,H p=zS (.dT kvs)))\/(T="set"/\∃S n,H p=zS (.set S n))
 |_=>False
def JZ{T:String}(I:Inv X π σ H s)(r:RelV x v)(ty:OA X.K T x H):s.TypeIs v T/\∀a,v=.ref a->∃ob,s.heap.get? a=zS ob/\ob.dict=zN:=by
 cases x with
 |str z=>
  let⟨t,rfl⟩:=r;cases(show T="str" from ty);exact⟨typeIs_str s z t,λ_ e=>nomatch e⟩
 |int i=>
  let⟨t,rfl⟩:=r;cases(show T="int" from ty);exact⟨typeIs_int s i t,λ_ e=>nomatch e⟩
 |ref p=>
  cases r;obtain⟨rfl,xs,hq⟩|⟨rfl,o,hk,hc,hd⟩|⟨rfl,hk⟩|⟨rfl,S,n,hk⟩:=ty
  .let⟨aR,_,pl,_⟩:=I.list hq;refine⟨pl.isList.typeIs,λa e=>?_⟩;cases e;let⟨o,n,e,c,hd,_⟩:=pl;exact⟨o,e,hd⟩
  .refine⟨⟨o,I.Hw p o hk,hc⟩,λa e=>?_⟩;cases e;exact⟨o,I.Hw _ o hk,hd⟩
  .have z:∃o,s.heap.get? p=zS o/\o.ExactDict:=by
    obtain⟨kvs,hk⟩|⟨kvs,hk⟩:=hk
    .let⟨_,_,_,_,o,_,_,e,ex,_⟩:=I.cA p _ hk;exact⟨o,e,ex⟩
    .let⟨_,_,_,_,o,_,_,e,ex,_⟩:=I.cA p _ hk;exact⟨o,e,ex⟩
   let⟨o,e,ex⟩:=z;refine⟨⟨o,e,ex.1⟩,λa e2=>?_⟩;cases e2;exact⟨o,e,ex.2.1⟩
  .let⟨o,_,_,_,e,ex,_⟩:=I.cA p _ hk;refine⟨⟨o,e,ex.1⟩,λa e2=>?_⟩;cases e2;exact⟨o,e,ex.2.1⟩
 |_=>exact False.elim ty
def ii(K:Rl)(T:String)(r:V->List V->Hp->VK->Prop)(to:TE):TE:=λσ H Q=>to σ H λx H1=>OA K T x H1/\r x [] H1 Q
def jD(K:Rl)(T:String)(r:V->List V->Hp->VK->Prop)(to:TE)(t:TA):TE:=λσ H Q=>to σ H λx H1=>OA K T x H1/\t σ H1 λxs H2=>r x xs H2 Q
variable{o e:Expr}{es:List Expr}{to:TE}{t:TA}{name:Str}{apos cpos:Pos}{T id:String}{r:V->List V->Hp->VK->Prop}
def NL(pa:PlainAttrs T)(slot:Slot T name id)(hty:typeOf (.builtin id)=pure (.type "method_descriptor"))(hm:Qk X id r)(ho:PE X o to)(hbase:aau o name X.env (eval o X.env)=eval o X.env:=by rfl)(hline:(apos.endLine==cpos.line)=true:=by rfl):PE X (.Call (.Attribute o name apos) [] [] cpos) (ii X.K T r to):=by intro π s σ H Q I h;refine wpAny_Call_method0_late hbase hline (du (ho π s σ H _ I h) λv s1⟨x,H1,I1,r1,ty,q1⟩=>?_);let⟨h1,h2⟩:=JZ I1 r1 ty;exact⟨T,id,pa,slot,hty,h1,h2,TV rfl (Vm (hm π s1 σ H1 x [] v [] Q I1 r1 .nil q1))⟩
def gr(pa:PlainAttrs T)(slot:Slot T name id)(hty:typeOf (.builtin id)=pure (.type "method_descriptor"))(hm:Qk X id r)(ho:PE X o to)(ha:PA X (e::es) t)(hbase:aau o name X.env (eval o X.env)=eval o X.env:=by rfl)(hfew:((aaf cpos (aag (e::es) X.env)).all (λx=> !x.1)&&(backToKw cpos (keywordEach [] X.env)).all (λx=>x.1.isSome)&&decide ((e::es).length+([]:List Keyword).length+(if([]:List Keyword).isEmpty then 0 else 1)<30))=true:=by rfl)(hline:(apos.endLine==cpos.line)=true:=by rfl)(hs:aag (e::es) X.env=(false,eval e X.env)::aag es X.env:=by rfl)(hplain:(aaf cpos (aag es X.env)).any (·.1)=false:=by rfl):PE X (.Call (.Attribute o name apos) (e::es) [] cpos) (jD X.K T r to t):=by intro π s σ H Q I h;refine wpAny_Call_method_late hbase hfew hline rfl (du (ho π s σ H _ I h) λv s1⟨x,H1,I1,r1,ty,q1⟩=>?_);let⟨h1,h2⟩:=JZ I1 r1 ty;refine⟨T,id,pa,slot,hty,h1,h2,?_⟩;have hA:=ha cpos π s1 σ H1 _ I1 q1;rw[hs]at hA⊢;refine TV (by show(false||(aaf cpos (aag es X.env)).any (·.1))=false;rw[hplain]<;>rfl) (UJ ?_);exact du hA λus s2⟨vs,H2,I2,r2,q2⟩=>hm π s2 σ H2 x vs v us Q I2 r1 r2 q2
end
def Qm(X:Cx)(id:String)(r:V->List V->Hp->VK->Prop):Prop:=
 ∀(π:List (Addr×Obj))(s:ZW)(σ:St)(H:Hp)(x:V)(xs:List V)(v:Value)(us:List Value)(Q:VK),Inv X π σ H s->RelV x v->Vals xs us->r x xs H Q->
  wpAny (model X.prog X.w) X.A (call (.builtin id) (v::us)) (EP X π σ Q) X.xe s
def Vals.one:∀{x:V}{us:List Value},Vals [x] us->∃u,us=[u]/\RelV x u
 |_,_,.cons r .nil=>⟨_,rfl,r⟩
def Vals.zero:∀{us:List Value},Vals [] us->us=[]
 |_,.nil=>rfl
variable{xs:List V}{us:List Value}
def Vals.dropLast(h:Vals xs us):Vals xs.dropLast us.dropLast:=by
 induction h with
 |nil=>exact .nil
 |cons r t ih=>
  cases t with
  |nil=>exact .nil
  |cons q t'=>exact .cons r ih
def Vals.rep(h:Vals xs us):∀k:Nat,Vals (Sr k xs).flatten (Sr k us).flatten
 |0=>.nil
 |k+1=>by rw[Vn,Vn,VS,VS];exact Vals.append h (Vals.rep h k)
def Fj{α:Type}(l:List α):l.eraseIdx (l.length-1)=l.dropLast:=by
 induction l with
 |nil=>rfl
 |cons a r ih=>
  cases r with
  |nil=>rfl
  |cons b r=>
   have e:(a::b::r).length-1=((b::r).length-1)+1:=by have h1:(a::b::r).length=r.length+2:=rfl;have h2:(b::r).length=r.length+1:=rfl;omega
   rw[e,List.eraseIdx_cons_succ,ih]
   all_goals rfl
def foldl_rep(aR:List Value):∀(k:Nat)(acc:List Value),W0 (λx1 x2=>x1++x2) acc.toArray (Sr k aR.toArray)=(acc++(Sr k aR).flatten).toArray
 |0,acc=>by simp
 |k+1,acc=>by
  have e:acc.toArray++aR.toArray=(acc++aR).toArray:=by simp
  have e2:(acc++aR)++(Sr k aR).flatten=acc++(Sr (k+1) aR).flatten:=by rw[Vn,VS,Sk]
  rw[<-e2,<-foldl_rep aR k (acc++aR),<-e,Vn,Vf]
variable{aR:List Value}{n t':Nat}
section
variable{X:Cx}{π:List (Addr×Obj)}{σ:St}{H:Hp}{s:ZW}{l b:Addr}{xs ys zs:List V}
def Inv.LM{its':List Value}{f:Array Value->Array Value}(I:Inv X π σ H s)(hH:H l=zS (.lst xs))(e:s.heap.get? l=zS {cls:=.type "list",data:=.seq aR.toArray n})(hf:f aR.toArray=its'.toArray)(hv:Vals ys its')(hz:ys.length<=aac):Inv X π σ (upd H l (.lst ys)) {s with heap:=s.heap.update l (Um f),toks:=t'}:=by have q:=PySem.IsL.update e f;rw[hf]at q;refine I.write (x:=l) (e:=l) (by rw[hH];exact trivial) (.inl rfl) (λb' u hb hu=>(Yb s.heap (Um f) (SY hb)).trans hu) ⟨_,q⟩ ?_;exact⟨hz,its',_,hv,q⟩
def Inv.O7(I:Inv X π σ H s)(hv:Vals ys aR)(hz:ys.length<=aac):Inv X π σ (upd H s.heap.objs.size (.lst ys)) {s with heap:=s.heap.push {cls:=.type "list",data:=.seq aR.toArray},toks:=t'}:=
 I.laid (λ_ _ q=>Rt _ q) (Ro _) ⟨hz,aR,0,hv,RN _ rfl⟩
def Inv.fresh(I:Inv X π σ H s):H s.heap.objs.size=zN:=I.cA.fresh (Ro _)
def Inv.Dr(I:Inv X π σ H s)(hH:H l=zS (.lst xs)):xs.length<=aac/\∃(aR:List Value)(n:Nat),Vals xs aR/\xs.length=aR.length/\s.heap.get? l=zS {cls:=.type "list",data:=.seq aR.toArray n}:=by let⟨z,aR,n,r,e⟩:=I.cA l _ hH;exact⟨z,aR,n,r,r.length,e⟩
def x4(h:n<=aac):UK n=false:=by unfold UK;exact decide_eq_false (by omega)
end
section
variable{X:Cx}
def jt:V->List V->Hp->VK->Prop:=λx vs H Q=>∃l xs y,x=.ref l/\vs=[y]/\H l=zS (.lst xs)/\xs.length<aac/\Q .d7 (upd H l (.lst (xs++[y])))
def jf:Qm X "list.append" jt:=by intro π s σ H x vs v us Q I rx rv h;let⟨l,xs,y,rfl,rfl,hH,hz,q⟩:=h;cases rx;let⟨u,rfl,ru⟩:=rv.one;let⟨z,aR,n,r,hl,e⟩:=I.Dr hH;refine aaA F.slot_list_append ⟨_,e,rfl⟩ F.entry_list_append (F.args_list_append_2 _ _) (PySem.list_append l aR.toArray n u (by rw[RT];omega)) ⟨e,?_⟩;refine⟨.d7,_,I.LM (its':=aR++[u]) hH e (by simp) (r.append (.cons ru .nil)) ?_,rfl,q⟩;rw[RH,Ye];omega
def t9:V->List V->Hp->VK->Prop:=λx vs H Q=>∃l b xs zs,x=.ref l/\vs=[.ref b]/\H l=zS (.lst xs)/\H b=zS (.lst zs)/\xs.length+zs.length<=aac/\Q .d7 (upd H l (.lst (xs++zs)))
def A4:Qm X "list.extend" t9:=by
 intro π s σ H x vs v us Q I rx rv h;let⟨l,b,xs,zs,rfl,rfl,hH,hB,hz,q⟩:=h;cases rx;let⟨u,rfl,ru⟩:=rv.one;cases ru;let⟨z,aR,n,r,hl,e⟩:=I.Dr hH;let⟨z2,its2,n2,r2,hl2,e2⟩:=I.Dr hB;have hsz:aR.toArray.size+its2.toArray.size<=aac:=by rw[RT,RT];omega
 have hlong:¬(!aR.toArray.isEmpty&&UK (aR.toArray.size+its2.toArray.size))=true:=by rw[x4 hsz,Yg];exact R5
 refine aaA Yh ⟨_,e,rfl⟩ Yi (Yj _ _)
  (AutoSeq1.list_extend_list_list_0 l aR.toArray n b its2.toArray n2 hlong (by rw[RT];omega) (by omega)) ⟨e,e2,?_⟩
 refine⟨.d7,_,I.LM (its':=aR++its2) hH e (by simp) (r.append r2) ?_,rfl,q⟩;rw[RH];omega
def NM:V->List V->Hp->VK->Prop:=λx vs H Q=>∃l xs y,x=.ref l/\vs=[]/\H l=zS (.lst xs)/\xs[xs.length-1]?=zS y/\Q y (upd H l (.lst xs.dropLast))
def NN:Qm X "list.pop" NM:=by
 intro π s σ H x vs v us Q I rx rv h;let⟨l,xs,y,rfl,rfl,hH,hy,q⟩:=h;cases rx;have hus:=rv.zero;subst hus;let⟨z,aR,n,r,hl,e⟩:=I.Dr hH;let⟨u,hu,ru⟩:=r.get hy;have hy':aR.toArray[aR.toArray.size-1]?=zS u:=by show aR.toArray[aR.length-1]?=zS u;rw[<-VT,<-hl];exact hu
 refine aaA F.slot_list_pop ⟨_,e,rfl⟩ F.entry_list_pop (F.args_list_pop_1 _) (MeetsSeq.list_pop_last l aR.toArray n u hy' (by rw[RT];omega)) ⟨e,?_⟩;refine⟨y,_,I.LM (its':=aR.dropLast) hH e ?_ r.dropLast ?_,ru,q⟩
 .show aR.toArray.eraseIdxIfInBounds (aR.toArray.size-1)=aR.dropLast.toArray;rw[RT,List.eraseIdxIfInBounds_toArray,Fj]
 .rw[List.length_dropLast];omega
def Fk:R2:=λx y H Q=>∃l b xs zs,x=.ref l/\y=.ref b/\H l=zS (.lst xs)/\H b=zS (.lst zs)/\xs.length+zs.length<=aac/\∀p,H p=zN->Q (.ref p) (upd H p (.lst (xs++zs)))
def x5:rH X (aat .Add) Fk:=by
 intro π s σ H x y v u Q I rx ry h;let⟨l,b,xs,zs,rfl,rfl,hH,hB,hz,q⟩:=h;cases rx;cases ry;let⟨z,aR,n,r,hl,e⟩:=I.Dr hH;let⟨z2,its2,n2,r2,hl2,e2⟩:=I.Dr hB;refine PySem.P.add_list e e2 ?_ (by rw[RT,RT];omega);have ea:aR.toArray++its2.toArray=(aR++its2).toArray:=by simp
 rw[ea];exact⟨.ref _,_,I.O7 (t':=s.toks) (r.append r2) (by rw[RH];omega),rfl,q _ I.fresh⟩
def O8:R2:=λx y H Q=>∃l k xs,x=.ref l/\y=.int k/\H l=zS (.lst xs)/\ -(2^63)<=k/\k<2^63/\xs.length*k.toNat<=aac/\
 ∀p,H p=zN->Q (.ref p) (upd H p (.lst (Sr k.toNat xs).flatten))
def len_rep{α:Type}(xs:List α)(k:Nat):(Sr k xs).flatten.length=k*xs.length:=by
 induction k with
 |zero=>simp
 |succ k ih=>rw[Vn,VS,RH,ih,XG,WJ]
def NO:rH X (aat .Mult) O8:=by
 intro π s σ H x y v u Q I rx ry h;let⟨l,k,xs,rfl,rfl,hH,h1,h2,hz,q⟩:=h;cases rx;let⟨t,rfl⟩:=ry;let⟨z,aR,n,r,hl,e⟩:=I.Dr hH;have hlen:aR.toArray.size*k.toNat<=aac:=by rw[RT,<-hl];exact hz
 have hcap:¬aR.toArray.size*k.toNat>(2^63-1)/8:=by
  have:(aac:Nat)<=(2^63-1)/8:=by decide
  omega
 have hfit:¬(!Builtin.List.listFitsIndex k)=true:=by rw[fitsIndex_both h1 h2];exact R5
 have hlong:¬UK (aR.toArray.size*k.toNat)=true:=by rw[x4 hlen];exact R5
 have hnew:W0 (λx1 x2=>x1++x2) #[] (Sr (if aR.toArray.isEmpty=true then 0 else k.toNat) aR.toArray)=(Sr k.toNat aR).flatten.toArray:=by
  have f0:∀m:Nat,W0 (λx1 x2=>x1++x2) #[] (Sr m aR.toArray)=(Sr m aR).flatten.toArray:=λm=>by have:=foldl_rep aR m [];rw[RR]at this;exact this
  rw[f0]
  cases aR with
  |nil=>simp
  |cons a r'=>rw[ae (by simp)]
 refine wpAny_binaryOp_repeat_ref (T:="list") (U:="int") (by decide) ⟨_,e,rfl⟩ (λs'=>typeIs_int s' k t) noFill_list_mul F.fills_int_mul Yk repeat_list F.slot_int_index.lookup
  (aaA Yk (typeIs_int s k t) F.entry_int_rmul (F.args_int_rmul_2 _ _) (int___rmul___int_list k t l aR.toArray n)
   ⟨e,rfl,⟨_,e,rfl⟩,aaA F.slot_list_mul ⟨_,e,rfl⟩ F.entry_list_mul (F.args_list_mul_2 _ _) (AutoListH.list___mul___list_int_3 l aR.toArray n k t hfit hcap hlong) ⟨e,?_⟩⟩)
 rw[hnew];exact⟨.ref _,_,I.O7 (t':=s.toks) (r.rep k.toNat) (by rw[len_rep,XI];exact hz),rfl,q _ I.fresh⟩
end
def Vals.ints:∀{ns:List Int}{us:List Value},Vals (ns.map V.int) us->IntsAre us ns
 |[],us,h=>by rw[Vo]at h;cases h;exact IntsAre.nil
 |n::ns,us,h=>by
  rw[RS]at h
  cases h with
  |cons r t=>
   let⟨k,rfl⟩:=r;exact IntsAre.cons n k (Vals.ints t)
def Vals.LN{a:Addr}{us:List Value}(r:Vals [V.ref a] us):us=[RF a]:=by
 cases r with
 |cons r t=>
  cases t;cases r;rfl
section
variable{prog:ZV}{w:World}{A:ZZ}{E:Value->ZW->Prop}{s:ZW}{l:Addr}{aR:List Value}{ns:List Int}{Q:Value->ZW->Prop}
def LO(hh:A.handled=zN)(hl:s.heap.IsList l aR.toArray)(hi:IntsAre aR ns)(hne:0<ns.length)(h:∀h' tk M t',(∀b o,s.heap.get? b=zS o->h'.get? b=zS o)->M∈ns->(∀a,a∈ns->a<=M)->Q (.int M t') {s with heap:=h',toks:=tk}):wpAny (model prog w) A (call (.builtin "max") [.ref l]) Q E s:=by
 let⟨xs,e⟩:=hi.allInts.items;have hn:numsOf (aaB xs).toList=ns:=by rw[<-e];exact hi.numsOf
 rw[nums_intItems]at hn;subst hn;rw[e]at hl;have hsz:0<xs.size:=by simpa using hne
 refine PySem.max_intList hh hl hsz λv h' tk hv hk=>?_;let⟨t,rfl⟩:=aaC hv;let⟨h1,h2⟩:=argBest_gt (numAt xs) (xs.size-1);refine h h' tk _ t hk ?_ λa ha=>?_
 .rw[aaD];exact VU (by rw[Rr,SJ];omega)
 .let⟨j,hj,rfl⟩:=mem_getD ha;rw[Rr,SJ]at hj;rw[<-aaD];exact h2 j (by omega)
def LP(hh:A.handled=zN)(hl:s.heap.IsList l aR.toArray)(hi:IntsAre aR ns)(hne:0<ns.length)(h:∀h' tk M t',(∀b o,s.heap.get? b=zS o->h'.get? b=zS o)->M∈ns->(∀a,a∈ns->M<=a)->Q (.int M t') {s with heap:=h',toks:=tk}):wpAny (model prog w) A (call (.builtin "min") [.ref l]) Q E s:=by
 let⟨xs,e⟩:=hi.allInts.items;have hn:numsOf (aaB xs).toList=ns:=by rw[<-e];exact hi.numsOf
 rw[nums_intItems]at hn;subst hn;rw[e]at hl;have hsz:0<xs.size:=by simpa using hne
 refine PySem.min_intList hh hl hsz λv h' tk hv hk=>?_;let⟨t,rfl⟩:=aaC hv;let⟨h1,h2⟩:=argBest_lt (numAt xs) (xs.size-1);refine h h' tk _ t hk ?_ λa ha=>?_
 .rw[aaD];exact VU (by rw[Rr,SJ];omega)
 .let⟨j,hj,rfl⟩:=mem_getD ha;rw[Rr,SJ]at hj;rw[<-aaD];exact h2 j (by omega)
end
section
variable{X:Cx}
def LQ(K:Rl):List V->Hp->VK->Prop:=λvs H Q=>∃(a:Addr)(ns:List Int),vs=[V.ref a]/\cD K H a (ns.map V.int)/\0<ns.length/\∀m,m∈ns->(∀y,y∈ns->y<=m)->Q (.int m) H
def LR(K:Rl):List V->Hp->VK->Prop:=λvs H Q=>∃(a:Addr)(ns:List Int),vs=[V.ref a]/\cD K H a (ns.map V.int)/\0<ns.length/\∀m,m∈ns->(∀y,y∈ns->m<=y)->Q (.int m) H
def NP(hc:X.calm=true):eP X (.builtin "max") (LQ X.K):=by intro π s σ H vs us Q I r h;let⟨a,ns,rfl,hs,hne,q⟩:=h;let⟨aR,rv,hl,_⟩:=I.list hs;rw[Vals.LN r];exact LO (I.ok.hd hc) hl.isList rv.ints hne λh' tk m t' hk h1 h2=>⟨.int _,H,I.kept hk,⟨_,rfl⟩,q m h1 h2⟩
def NQ(hc:X.calm=true):eP X (.builtin "min") (LR X.K):=by intro π s σ H vs us Q I r h;let⟨a,ns,rfl,hs,hne,q⟩:=h;let⟨aR,rv,hl,_⟩:=I.list hs;rw[Vals.LN r];exact LP (I.ok.hd hc) hl.isList rv.ints hne λh' tk m t' hk h1 h2=>⟨.int _,H,I.kept hk,⟨_,rfl⟩,q m h1 h2⟩
def sq(K:Rl):V->List V->Hp->VK->Prop:=λx xs H Q=>∃(a:Addr)(ys:List V)(y:V)(j:Nat)(z:V),x=V.ref a/\xs=[y]/\cD K H a ys/\mC y=true/\ys.all mC=true/\ys[j]?=zS z/\GM z y=true/\
 (∀(m:Nat)(z':V),m<j->ys[m]?=zS z'->GM z' y=false)/\Q (.int (j:Nat)) H
def GN{ys:List V}(f:ys.all mC=true){j:Nat}{z:V}(h:ys[j]?=zS z):mC z=true:=Ud.mp f z (Rz h)
def pD:Qk X "list.index" (sq X.K):=by
 intro π s σ H x xs v us Q I rx rxs h;let⟨a,ys,y,j,z,rfl,rfl,hs,fy,fys,hz,hzj,hno,q⟩:=h;cases rx
 cases rxs with
 |cons ry rt=>
  rename_i uy ut;cases rt;let⟨aR,rv,⟨⟨cls,dd,data,sl⟩,n,ho,hc,hdn,hd⟩,hlen⟩:=I.list hs;simp only at hc hd;subst hc hd;let⟨u,hu,ru⟩:=rv.get hz;let⟨hjl,hje⟩:=RE.mp hu;have hvl:=rv.length;have hj:j<aR.toArray.size:=by simpa using hjl
  have hsl:=sizeLine_eq
  refine aaA UL ⟨_,ho,rfl⟩ PySem.F.entry_list_index (PySem.F.args_list_index_2 _ _)
   (SeqAt.list_indexAt a aR.toArray n dd sl uy (EO y) j hj (by omega) ?_ ?_) ⟨ho,λu' hu'=>mD ry fy rv fys u' (by simpa using hu'),?_⟩
  .have e1:aR.toArray[j]=u:=by simpa using hje
   rw[e1,BX ru (GN fys hz)];exact hzj
  .intro m hm hmj;have hml:m<aR.length:=by simpa using hm
   have hmy:m<ys.length:=by omega
   have hy':ys[m]?=zS ys[m]:=RC hmy;let⟨u2,hu2,ru2⟩:=rv.get hy';let⟨_,hme⟩:=RE.mp hu2;have e1:aR.toArray[m]=u2:=by simpa using hme
   rw[e1,BX ru2 (GN fys hy')];exact hno m _ hmj hy'
  .exact⟨.int (j:Nat),H,I.tok _,⟨_,rfl⟩,q⟩
end
abbrev J0(h:Heap)(c:Addr)(v:Option Value):Prop:=h.IsCell c v
def QG(scope sc:Scope):Scope:=
 {scope with names:=scope.names.map λ(n,k)=>if(k== .free&&sc.kind== .function&&sc.names.lookup n==zS .cell)then(n,.cell)else(n,k)}
def dG(cells:List (Str×Addr)):List (Str×aax)->List (Str×Addr)->List (Str×Addr)
 |[],acc=>acc
 |(n,k)::r,acc=>if k== .free then dG cells r ((n,(cells.lookup n).getD 0)::acc)else dG cells r acc
def t_(env:Env)(f:Str×aax->List (Str×Addr)->Sem (ForInStep (List (Str×Addr))))(hf:∀n k c,f (n,k) c=if k== .free then(do let a<-cellOf env n;pure (.yield ((n,a)::c)))else pure (.yield c)):∀(names:List (Str×aax))(acc:List (Str×Addr)),(∀y∈names,y.2=.free->∃c,env.cells.lookup y.1=zS c)->forIn names acc f=pure (dG env.cells names acc)
 |[],acc,_=>by rw[UM];rfl
 |(n,k)::r,acc,h=>by
  rw[Vp,hf];have ih:=λacc=>t_ env f hf r acc λy hy=>h y (Rp _ hy);unfold dG;by_cases hk:(k==UN)=true
  .rw[ag hk,ag hk];let⟨c,hc⟩:=h (n,k) Rv (by simpa using hk);have e:cellOf env n=pure c:=by unfold cellOf;rw[hc]
   rw[e];have e2:(env.cells.lookup n).getD 0=c:=by rw[hc];rfl
   rw[e2];exact ih _
  .rw[ae hk,ae hk];exact ih _
variable{env:Env}{scope:Scope}
def Fl(h:∀y∈scope.names,y.2=.free->∃c,env.cells.lookup y.1=zS c):closureFor scope env=pure (dG env.cells scope.names []):=by simp only[closureFor];rw[t_ env _ (λn k c=>rfl) scope.names [] h];rfl
def mem_lookup{α:Type}:∀{l:List (Str×α)}{n:Str}{c:α},(n,c)∈l->∃c',l.lookup n=zS c'
 |(k,v)::r,n,c,h=>by
  rw[Uo]
  cases hb:n==k with
  |true=>exact⟨_,rfl⟩
  |false=>
   obtain e|h:=Rn.mp h
   .cases e;simp at hb
   .exact mem_lookup h
def lF{cells:List (Str×Addr)}:∀{names:List (Str×aax)}{acc:List (Str×Addr)}{n:Str}{c:Addr},(n,c)∈dG cells names acc->(n,c)∈acc\/((n,.free)∈names/\c=(cells.lookup n).getD 0)
 |[],_,_,_,h=>.inl h
 |(m,k)::r,acc,n,c,h=>by
  unfold dG at h;split at h
  .rename_i hk;have hk:k=.free:=by simpa using hk
   obtain h|⟨h1,h2⟩:=lF h
   .obtain e|h:=Rn.mp h
    .cases e;exact .inr ⟨hk▸Rv,rfl⟩
    .exact .inl h
   .exact .inr ⟨Rp _ h1,h2⟩
  .obtain h|⟨h1,h2⟩:=lF h
   .exact .inl h
   .exact .inr ⟨Rp _ h1,h2⟩
def pE{cells:List (Str×Addr)}:∀{names:List (Str×aax)}{acc:List (Str×Addr)}{p:Str×Addr},p∈acc->p∈dG cells names acc
 |[],_,_,h=>h
 |(m,k)::r,acc,p,h=>by
  unfold dG;split
  .exact pE (Rp _ h)
  .exact pE h
def pF{cells:List (Str×Addr)}:∀{names:List (Str×aax)}{acc:List (Str×Addr)}{n:Str},(n,.free)∈names->(n,(cells.lookup n).getD 0)∈dG cells names acc
 |(m,k)::r,acc,n,h=>by
  unfold dG;obtain e|h:=Rn.mp h
  .cases e;exact pE Rv
  .split
   .exact pF h
   .exact pF h
def mE:∀{names:List (Str×aax)}{h:Heap}{acc:List (Str×Addr)}{x:Str}{c:Addr},(x,c)∈aay h.objs.size names acc->(x,c)∈acc\/((x,.cell)∈names/\h.objs.size<=c/\J0 (aaE h names) c zN)
 |[],_,_,_,_,h=>.inl h
 |(n,k)::r,h,acc,x,c,hm=>by
  unfold aay at hm;unfold aaE;split at hm
  .rename_i hk;rw[ag hk];have hk:k=.cell:=by simpa using hk
   rw[<-R_ h {cls:=.type "cell",data:=.cell zN}]at hm;obtain hm|⟨h1,h2,h3⟩:=mE hm
   .obtain e|hm:=Rn.mp hm
    .cases e;exact .inr ⟨hk▸Rv,Ro _,_,aaF r _ _ _ (RN _ rfl),rfl⟩
    .exact .inl hm
   .rw[R_]at h2;exact .inr ⟨Rp _ h1,VV h2,h3⟩
  .rename_i hk;rw[ae hk];obtain hm|⟨h1,h2,h3⟩:=mE hm
   .exact .inl hm
   .exact .inr ⟨Rp _ h1,h2,h3⟩
def qG:∀{names:List (Str×aax)}{n:Nat}{acc:List (Str×Addr)}{p:Str×Addr},p∈acc->p∈aay n names acc
 |[],_,_,_,h=>h
 |(m,k)::r,n,acc,p,h=>by
  unfold aay;split
  .exact qG (Rp _ h)
  .exact qG h
def u4:∀{names:List (Str×aax)}{n:Nat}{acc:List (Str×Addr)}{x:Str},(x,.cell)∈names->∃c,(x,c)∈aay n names acc
 |(m,k)::r,n,acc,x,h=>by
  unfold aay;obtain e|h:=Rn.mp h
  .cases e;exact⟨n,qG Rv⟩
  .split
   .exact u4 h
   .exact u4 h
def u5:∀{names:List (Str×aax)}{h:Heap}{acc:List (Str×Addr)}{x y:Str}{c:Addr},(∀p∈acc,p.2<h.objs.size)->(∀x y c,(x,c)∈acc->(y,c)∈acc->x=y)->(x,c)∈aay h.objs.size names acc->(y,c)∈aay h.objs.size names acc->x=y
 |[],_,_,_,_,_,_,hi,h1,h2=>hi _ _ _ h1 h2
 |(n,k)::r,h,acc,x,y,c,hl,hi,h1,h2=>by
  unfold aay at h1 h2;split at h1
  .rename_i hk;rw[ag hk]at h2;rw[<-R_ h {cls:=.type "cell",data:=.cell zN}]at h1 h2;refine u5 (h:=h.push _) (λp hp=>?_) (λx y c a b=>?_) h1 h2
   .rw[R_];obtain rfl|hp:=Rn.mp hp
    .exact Vi _
    .exact Vq (hl p hp)
   .obtain e|a:=Rn.mp a<;>obtain e'|b:=Rn.mp b
    .cases e;cases e';rfl
    .cases e;exact absurd (hl _ b) (Te _)
    .cases e';exact absurd (hl _ a) (Te _)
    .exact hi _ _ _ a b
  .rename_i hk;rw[ae hk]at h2;exact u5 hl hi h1 h2
variable{A:ZZ}{M:Model}{s:ZW}{E:Value->ZW->Prop}
def Ds{globals:Addr}{closure:List (Str×Addr)}{qual:Str}{func:Option Addr}{code:Value}{around:Env}{builtins:Addr}{Q:Env->ZW->Prop}(h:Q (newEnv scope s.heap.objs.size globals (aay (s.heap.objs.size+1) scope.names closure) qual func code (zS around) builtins) {s with heap:=aaE (s.heap.push {cls:=.type "dict",data:=.dict #[]}) scope.names}):wpAny M A (newFunctionEnv scope globals closure [] qual func code (zS around) builtins) Q E s:=by simp only[newFunctionEnv,W2,if_true];refine Z0 (wpAny_alloc ?_);refine Z0 (wpAny_layCells _ (λn k c=>rfl) scope.names closure _ _ ?_);rw[show({s with heap:=s.heap.push {cls:=.type "dict",data:=.dict #[]}}:ZW).heap.objs.size=s.heap.objs.size+1 from R_ ..];rw[UM];exact Z0 (Z5 (Z5 h))
def pG{sc:Scope}:∀{names:List (Str×aax)}{x:Str}{k:aax},(names.map λ(n,k)=>if(k==UN&&sc.kind== .function&&sc.names.lookup n==zS .cell)then(n,W3)else(n,k)).lookup x=zS k->∃k',names.lookup x=zS k'/\(k=k'\/(k'=.free/\k=.cell))
 |[],_,_,h=>by simp at h
 |(n,k₀)::r,x,k,h=>by
  have ih:= @pG sc r x k;have h':TU x ((if(k₀==UN&&sc.kind== .function&&sc.names.lookup n==zS .cell)=true then(n,W3)else(n,k₀))::(r.map _))=zS k:=h
  cases hx:x==n with
  |true=>
   simp only[Uo,hx];by_cases hc:(k₀==UN&&sc.kind== .function&&sc.names.lookup n==zS .cell)=true
   .rw[ag hc]at h';simp only[Uo,hx]at h';cases h';simp only[SH,beq_iff_eq]at hc;exact⟨k₀,rfl,.inr ⟨hc.1.1,rfl⟩⟩
   .rw[ae hc]at h';simp only[Uo,hx]at h';cases h';exact⟨_,rfl,.inl rfl⟩
  |false=>
   simp only[Uo,hx];by_cases hc:(k₀==UN&&sc.kind== .function&&sc.names.lookup n==zS .cell)=true
   .rw[ag hc]at h';simp only[Uo,hx]at h';exact ih h'
   .rw[ae hc]at h';simp only[Uo,hx]at h';exact ih h'
structure Dt(N:List Str)(sc scope:Scope)(own:List (Str×Nat)):Prop where
 kind:scope.kind=.function
 uniq:∀y∈scope.names,scope.names.lookup y.1=zS y.2
 ix:∀p∈own,N[p.2]?=zS p.1
 free:∀y∈scope.names,y.2=.free->sc.names.lookup y.1=zS .cell\/sc.names.lookup y.1=zS .free
 own:∀y∈scope.names,y.2=.local\/y.2=.cell->y.1∈own.map (·.1)\/y.1∉N
def wipe(σ:St):List Nat->St
 |[]=>σ
 |v::vs=>(wipe σ vs).set v zN
def pH(σ:St):∀vs:List Nat,(wipe σ vs).length=σ.length
 |[]=>rfl
 |v::vs=>by unfold wipe;rw[WY,pH σ vs]
variable{i:Nat}{σ:St}
def u6{x:V}:∀{vs:List Nat},(wipe σ vs)[i]?=zS (zS x)->σ[i]?=zS (zS x)/\i∉vs
 |[],h=>⟨h,by simp⟩
 |v::vs,h=>by
  unfold wipe at h;by_cases hi:v=i
  .subst hi;by_cases hv:v<(wipe σ vs).length
   .rw[WM hv]at h;cases h
   .rw[SG (by simpa using hv)]at h;cases h
  .rw[VP hi]at h;let⟨h1,h2⟩:=u6 h;exact⟨h1,by simp only[Rn,not_or];exact⟨λe=>hi e.symm,h2⟩⟩
abbrev Cx.wC(X:Cx)(s:ZW)(H:Hp)(scope:Scope)(cenv:Env)(fp:List Addr):Cx:={X with AS:=s,Nq:=H,env:=cenv,outer:=X.stack,ex:=fp,fn:=λx=>scope.names.lookup x==zS .cell,pn:=[],xe:=λ_ _=>False}
section
variable{X:Cx}{π:List (Addr×Obj)}{σ:St}{H:Hp}{s:ZW}
def Du{own:List (Str×Nat)}{fp:List Addr}(I:Inv X π σ H s)(ok:Dt X.N X.env.scope scope own)(hN:X.N.Nodup)(hfp:∀b∈fp,wA X π H b/\b<s.heap.objs.size):Inv (X.wC s H scope (aaG scope (aay (s.heap.objs.size+1) scope.names (dG X.env.cells scope.names [])) s.heap.objs.size X.env) fp) [] (wipe σ (own.map (·.2))) H {s with heap:=aaE (s.heap.push {cls:=.type "dict",data:=.dict #[]}) scope.names}:=by
 have hfree:∀y∈scope.names,y.2=.free->∃c,X.env.cells.lookup y.1=zS c:=λy hy e=>by
  obtain k|k:=ok.free y hy e
  .exact I.ok.has _ (.inl k)
  .exact I.ok.has _ (.inr k)
 generalize hcenv:aaG scope (aay (s.heap.objs.size+1) scope.names (dG X.env.cells scope.names [])) s.heap.objs.size X.env=cenv;have kp:∀b o,s.heap.get? b=zS o->(aaE (s.heap.push {cls:=.type "dict",data:=.dict #[]}) scope.names).get? b=zS o:=λb o e=>aaF _ _ _ _ (Rt _ e);have hL:cenv.locals=s.heap.objs.size:=by rw[<-hcenv];rfl
 have hcl:cenv.cells=aay (s.heap.objs.size+1) scope.names (dG X.env.cells scope.names []):=by rw[<-hcenv];rfl
 have hsc:cenv.scope=QG scope X.env.scope:=by rw[<-hcenv];rfl
 rw[<-R_ s.heap {cls:=.type "dict",data:=.dict #[]}]at hcl;have cm:∀{y c},(y,c)∈dG X.env.cells scope.names []->X.env.cells.lookup y=zS c/\c<s.heap.objs.size:=λ{y c} hm=>by
  obtain hm|⟨h1,rfl⟩:=lF hm
  .cases hm
  .let⟨c,hc⟩:=hfree _ h1 rfl;rw[hc];let⟨w,z⟩:=I.cell _ _ hc;exact⟨rfl,z.lt⟩
 have mem:∀{y c},cenv.cells.lookup y=zS c->(X.env.cells.lookup y=zS c/\c<s.heap.objs.size)\/(s.heap.objs.size+1<=c/\J0 (aaE (s.heap.push {cls:=.type "dict",data:=.dict #[]}) scope.names) c zN):=λ{y c} e=>by
  rw[hcl]at e;obtain hm|⟨_,h2,h3⟩:=mE (SQ e)
  .exact .inl (cm hm)
  .rw[R_]at h2;exact .inr ⟨h2,h3⟩
 have look:∀{y},scope.names.lookup y=zS .free->∃c,cenv.cells.lookup y=zS c/\X.env.cells.lookup y=zS c:=λ{y} hl=>by
  have hy:(y,UN)∈scope.names:=SQ hl;let⟨c',e'⟩:=mem_lookup (qG (names:=scope.names) (n:=(s.heap.push {cls:=.type "dict",data:=.dict #[]}).objs.size) (pF (cells:=X.env.cells) (acc:=[]) hy));rw[<-hcl]at e';refine⟨c',e',?_⟩;rw[hcl]at e';obtain hm|⟨h1,_,_⟩:=mE (SQ e')
  .exact(cm hm).1
  .have:=ok.uniq _ h1;rw[hl]at this;cases this
 have okB:(X.wC s H scope cenv fp).Ok:=by
  refine⟨I.ok.mod,by show cenv.scope.kind=_;rw[hsc];exact ok.kind,by show cenv.globals=_;rw[<-hcenv];exact I.ok.glob,by show cenv.builtins=_;rw[<-hcenv];exact I.ok.blt,by show s.heap.objs.size<=cenv.locals;rw[hL];exact Ro _,
   λy z c e1 e2=>?_,λy hy=>?_,λy c z e=>?_,I.ok.hd,I.ok.frames,.inl rfl,λb hb=>⟨?_,λy c e z=>?_⟩,I.bs,RO I.ok.Lu I.sz,λb o e hb=>?_,λb hb z=>?_,I.stack,I.Gx⟩
  .have e1:cenv.cells.lookup y=zS c:=e1;have e2:cenv.cells.lookup z=zS c:=e2;rw[hcl]at e1 e2;refine u5 (λp hp=>?_) (λy z c a b=>I.ok.inj y z c (cm a).1 (cm b).1) (SQ e1) (SQ e2);rw[R_];exact Vq (cm (y:=p.1) (c:=p.2) hp).2
  .show∃c,cenv.cells.lookup y=zS c;have key:∀k,cenv.kindOf y=zS k->(k=.cell\/k=.free)->∃c,cenv.cells.lookup y=zS c:=λk hk hk'=>by
    unfold Env.kindOf at hk;rw[hsc]at hk;let⟨k',e,r⟩:=pG hk;have:k'=.cell\/k'=.free:=by
     obtain rfl|⟨rfl,_⟩:=r
     .exact hk'
     .exact .inr rfl
    obtain rfl|rfl:=this
    .let⟨c,hm⟩:=u4 (n:=(s.heap.push {cls:=.type "dict",data:=.dict #[]}).objs.size) (acc:=dG X.env.cells scope.names []) (SQ e);let⟨c',e'⟩:=mem_lookup hm;exact⟨c',by rw[hcl];exact e'⟩
    .let⟨c,h1,_⟩:=look e;exact⟨c,h1⟩
   obtain hy|hy:=hy
   .exact key _ hy (.inl rfl)
   .exact key _ hy (.inr rfl)
  .have z:(scope.names.lookup y==zS W3)=true:=z;have z:scope.names.lookup y=zS .cell:=by simpa using z
   have e:cenv.cells.lookup y=zS c:=e;rw[hcl]at e;obtain hm|⟨_,h2,_⟩:=mE (SQ e)
   .obtain hm|⟨h1,_⟩:=lF hm
    .cases hm
    .have q:=ok.uniq _ h1;rw[z]at q;cases q
   .rw[R_]at h2;exact VV h2
  .show b≠cenv.locals;rw[hL];exact Sd (hfp b hb).2
  .have e:cenv.cells.lookup y=zS c:=e;obtain⟨h1,_⟩|⟨h1,_⟩:=mem e
   .exact(hfp b hb).1.2.2.2.2.1 y c h1 z
   .have h2:s.heap.objs.size+1<=b:=by rw[<-z];exact h1
    exact absurd (Sw (hfp b hb).2 (VV h2)) (Te _)
  .obtain z|z:=(hfp b hb).1.2.2.2.1
   .exact I.ok.JF b o e z
   .exact absurd (Sw (Rw e) (RO I.ok.Lu z)) (Te _)
  .obtain z|z:=Rn.mp (I.E_ b z)
   .exact(hfp b hb).1.2.1 z
   .exact(hfp b hb).1.2.2.1 z
 refine⟨okB,rfl,I.bare,Un.kept kp,⟨λ_=>zN,?_,λi y av e1 e2 e3=>?_⟩,λy c e=>?_,?_,λy c e=>?_,λp hp=>?_,I.cA.kept kp,by rw[pH];exact I.len⟩
 .show Heap.Ns _ cenv.locals _;rw[hL];exact Heap.Ns.keeps (Heap.Ns.new ..) λb o e=>aaF _ _ _ _ e
 .let⟨e2,hne⟩:=u6 e2;have hfr:scope.names.lookup y=zS .free/\(cenv.kindOf y=zS .cell\/cenv.kindOf y=zS .free):=by
   have key:∀k,cenv.scope.names.lookup y=zS k->k=.local\/k=.cell\/k=.free->scope.names.lookup y=zS .free/\(cenv.kindOf y=zS .cell\/cenv.kindOf y=zS .free):=λk hk hk'=>by
    have hk0:=hk;rw[hsc]at hk;let⟨k',e,r⟩:=pG hk;have no:¬(k'=.local\/k'=.cell):=λhh=>by
     obtain e'|e':=ok.own _ (SQ e) hh
     .let⟨p,hp,hpy⟩:=Rm.mp e';have e3:=ok.ix p hp;have:p.1=y:=hpy;rw[this]at e3;exact hne (Rm.mpr ⟨p,hp,xT hN e3 e1⟩)
     .exact e' (Rz e1)
    obtain rfl|⟨rfl,rfl⟩:=r
    .obtain rfl|rfl|rfl:=hk'
     .exact absurd (.inl rfl) no
     .exact absurd (.inr rfl) no
     .exact⟨e,.inr hk0⟩
    .exact⟨e,.inl hk0⟩
   have e3:Oy cenv.scope y:=e3;obtain e3|e3|e3:=e3
   .exact key _ e3 (.inl rfl)
   .exact key _ e3 (.inr (.inl rfl))
   .exact key _ e3 (.inr (.inr rfl))
  let⟨m,hn,hl⟩:=I.loc;have hvis:Oy X.env.scope y:=(ok.free _ (SQ hfr.1) rfl).elim (λk=>.inr (.inl k)) (λk=>.inr (.inr k));let⟨w,r,q⟩:=hl i y av e1 e2 hvis;refine⟨w,r,.inr ⟨hfr.2,?_⟩⟩;let⟨c,h1,h2⟩:=look hfr.1;obtain⟨k,_⟩|⟨_,c',e',z⟩:=q
  .have k:X.env.scope.names.lookup y=zS .local:=k;obtain k'|k':=ok.free _ (SQ hfr.1) rfl<;>rw[show X.env.scope.names.lookup y=_ from k']at k<;>cases k
  .rw[h2]at e';cases e';exact⟨c,h1,z.keeps kp⟩
 .have e:cenv.cells.lookup y=zS c:=e;obtain⟨h1,_⟩|⟨_,z⟩:=mem e
  .let⟨w,z⟩:=I.cell y c h1;exact⟨w,z.keeps kp⟩
  .exact⟨_,z⟩
 .show H cenv.locals=zN;rw[hL];exact I.cA.fresh (Ro _)
 .have e:cenv.cells.lookup y=zS c:=e;obtain⟨h1,_⟩|⟨h1,_⟩:=mem e
  .exact I.my y c h1
  .exact I.cA.fresh (VV h1)
 .exact absurd (show p∈([]:List (Addr×Obj))++[]from hp) (by simp)
def NR{D:Addr}{xs:List V}{y:V}{v:Value}{Q:Value->ZW->Prop}(I:Inv X π σ H s)(hD:H D=zS (.lst xs))(hz:xs.length<aac)(r:RelV y v)(h:∀s',Inv X π σ (upd H D (.lst (xs++[y]))) s'->Q .none s'):wpAny (model X.prog X.w) X.A (call (.builtin "list.append") [.ref D,v]) Q E s:=by let⟨hz',aR,n,ri,e⟩:=I.cA D _ hD;have hl:=ri.length;refine append_at (hsz:=by rw[RT];omega) e λh' sb ho'=>?_;refine h {s with heap:=h'} (I.write (t':=s.toks) (by rw[hD];trivial) (.inl rfl) (λb u hb q=>(sb.2 b hb).trans q) ⟨_,ho'⟩ ⟨by rw[RH];exact hz,aR++[v],n+1,ri.append (.cons r .nil),?_⟩);rw[ho'];simp
def NS(X:Cx)(ifs:List Expr)(t:TT):Prop:=
 ∀(π:List (Addr×Obj))(s:ZW)(σ:St)(H:Hp)(Q:Bool->Hp->Prop),Inv X π σ H s->t σ H Q->
  wpAny (model X.prog X.w) X.A (forIn ifs true λc r=>if r=true then do let ok<-isTrue c X.env (eval c X.env);pure (ForInStep.yield ok)else pure (ForInStep.yield r)) (TP X π σ Q) X.xe s
def eX:TT:=λ_ H Q=>Q true H
def gg:NS X [] eX:=λ_ _ _ H _ I h=>wpAny_tests_nil ⟨H,I,h⟩
def wX{c:Expr}{t:TT}(h:PT X c t):NS X [c] t:=λπ s σ H Q I hw=>wpAny_tests_one (h π s σ H Q I hw)
end
def HU{α:Type}{t:Sem α}{Q Q':α->ZW->Prop}(h:wpAny M A t Q (λ_ _=>False) s)(hQ:∀a s,Q a s->Q' a s):wpAny M A t Q' E s:=aah h hQ λ_ _ z=>False.elim z
variable{elt iter:Expr}{ifs:List Expr}{pos:Pos}
def B0{prog:ZV}{w:World}{R:Result->ZW->Prop}{target:Expr}{it acc:Value}(I:Nat->ZW->Prop)(turn:∀n s,I n s->wpAny (model prog w) A (aao it) (λr s₁=>match r with
   |none=>R (.ok .next) s₁
   |some v=>wpAny (model prog w) A (aap target it v) (λ_ s₁'=>wpAny (model prog w) A (assign target env v) (λ_ s₂=>
     wpAny (model prog w) A (forIn ifs true λc r=>if r=true then do let ok<-isTrue c env (eval c env);pure (ForInStep.yield ok)else pure (ForInStep.yield r)) (λok s₃=>
      if ok=true then wpAny (model prog w) A (eval elt env) (λx s₄=>
       wpAny (model prog w) A (call (.builtin "list.append") [acc,x]) (λ_ s₅=>∃m,m<n/\I m s₅) (notedBy (model prog w) A env λe s'=>R (.error e) s') s₄) (notedBy (model prog w) A env λe s'=>R (.error e) s') s₃
      else∃m,m<n/\I m s₃) (notedBy (model prog w) A env λe s'=>R (.error e) s') s₂) (notedBy (model prog w) A env λe s'=>R (.error e) s') s₁') (notedBy (model prog w) A env λe s'=>R (.error e) s') s₁) (notedBy (model prog w) A env λe s'=>R (.error e) s') s)
  (n:Nat) (h:I n s):
  codeAny (model prog w) A (.compLoop (.ListComp elt [⟨target,iter,ifs,0⟩] scope pos) 0 it acc env) R s:=by
 refine codeAny_loop rfl I (λn s hI=>?_) n h;show wpAny _ A ((compTurn (.ListComp elt [⟨target,iter,ifs,0⟩] scope pos) 0 it acc env).onRaise (λx=>do noteFrame x env;theTreesLotGoes x)) _ _ s;refine wpAny_noted ?_;rw[compTurn_list];refine Z0 (wpAny_standAt (Z0 (aah (turn n s hI) (λr s₁ h₁=>?_) λ_ _ h'=>h')))
 cases r with
 |none=>exact Z5 h₁
 |some v=>
  refine Z0 (aah h₁ (λ_ s₁' h₁'=>?_) λ_ _ h'=>h');refine Z0 (aah h₁' (λ_ s₂ h₂=>Z0 (aah h₂ (λok s₃ h₃=>?_) λ_ _ h'=>h')) λ_ _ h'=>h')
  cases ok with
  |false=>exact Z5 ⟨rfl,h₃⟩
  |true=>
   exact Z0 (Z0 (aah h₃ (λx s₄ h₄=>Z0 (aah h₄ (λ_ s₅ h₅=>Z5 (Z5 ⟨rfl,h₅⟩)) λ_ _ h'=>h')) λ_ _ h'=>h'))
variable{tg:Expr}{py:Pos}{y:Str}{te:TE}{g:TG}{wi:TI}{tt:TT}
section
variable{X:Cx}
def vW(wi:TI)(g:TG)(tt:TT)(te:TE)(vs:List Nat):TE:=λσ H Q=>wi σ H λJ H1=>∀D,H1 D=zN->∃W:Nat->Nat->Hp->Prop,(∃m,W 0 m (upd H1 D (.lst [])))/\∀i m H,W i m H->
 (J.stop i H/\Q (.ref D) H)\/(J.go i H/\∃Nx:Hp->Prop,(∀H',Nx H'->∃m',m'<m/\W (i+1) m' H')/\∀x H',J.HA i H x H'->g x (wipe σ vs) H' λσ2 H2=>wipe σ2 vs=wipe σ vs/\tt σ2 H2 λb H3=>
  if b=true then te σ2 H3 λy H4=>∃acc,H4 D=zS (.lst acc)/\acc.length<aac/\Nx (upd H4 D (.lst (acc++[y])))else Nx H3)
def GO{π:List (Addr×Obj)}{H:Hp}{Q:VK}{own:List (Str×Nat)}{pos':Pos}{use:Option (Value->Sem Unit)}{Qf:Value->ZW->Prop}(hc:X.calm=true)(hN:X.N.Nodup)(I:Inv X π σ H s)(hi:PI X tg iter wi)(ok:Dt X.N X.env.scope scope own)(hg:∀(s:ZW)(H:Hp)(C:Addr)(cl:List (Str×Addr))(fp:List Addr),PG (X.wC s H scope (aaG scope cl C X.env) fp) tg g)(ht:∀(s:ZW)(H:Hp)(C:Addr)(cl:List (Str×Addr))(fp:List Addr),NS (X.wC s H scope (aaG scope cl C X.env) fp) ifs tt)(he:∀(s:ZW)(H:Hp)(C:Addr)(cl:List (Str×Addr))(fp:List Addr),PE (X.wC s H scope (aaG scope cl C X.env) fp) elt te)(hs:∀x,aas iter X.env x=pure x)(h:vW wi g tt te (own.map (·.2)) σ H Q)(hRR:∀D C s' m H',Inv X π σ H' s'->Q (.ref D) H'->s'.heap.Ns C m->wA X π H' C->compPost (model X.prog X.w) X.A X.xe use Qf (.ref D) C (.ok .next) s'):wpAny (model X.prog X.w) X.A (comprehension (.ListComp elt [⟨tg,iter,ifs,0⟩] scope pos) scope X.env pos' (newList []) false (eval iter X.env) use) Qf X.xe s:=by
 have hfree:∀y∈scope.names,y.2=.free->∃c,X.env.cells.lookup y.1=zS c:=λy hy e=>by
  obtain k|k:=ok.free y hy e
  .exact I.ok.has _ (.inl k)
  .exact I.ok.has _ (.inr k)
 refine wpAny_comprehension_free (use:=use) rfl hs (Fl hfree) ok.kind (λy hy e=>by rw[ok.uniq y hy,e])
  (du (hi π s σ H _ I h) λxv s1 hx=>du hx λitv s2 h2=>?_)
 let⟨it,fp,tn,J,H2,e,I2,T,st2,f2,q⟩:=h2;subst e;refine aaH (Ds ?_) (by show 0<=aac;decide);generalize hD:s2.heap.objs.size=D;have hDn:H2 D=zN:=I2.cA.fresh (Vg hD);let⟨W,⟨m0,w0⟩,turn⟩:=q D hDn;generalize hs3:({s2 with heap:=s2.heap.push {cls:=.type "list",data:=.seq ([]:List Value).toArray}}:ZW)=s3;have I3:Inv X π σ (upd H2 D (.lst [])) s3:=by rw[<-hs3];refine I2.laid (t':=s2.toks) (λb o e=>Rt _ e) (Vg hD) ⟨SO _,[],0,.nil,?_⟩;rw[<-hD];exact RN _ rfl
 have h3:s3.heap=s2.heap.push {cls:=.type "list",data:=.seq ([]:List Value).toArray}:=by rw[<-hs3]
 have sz:∀b∈fp,b<s2.heap.objs.size:=λb hb=>by let⟨o,e,_⟩:=T.obj _ _ st2 b hb;exact Rw e
 have f3:∀b∈fp,wA X π (upd H2 D (.lst [])) b/\b<s3.heap.objs.size:=λb hb=>by have hlt:=sz b hb;refine⟨⟨?_,(f2 b hb).2⟩,by rw[h3,R_];exact Vq hlt⟩;rw[ab (by rw[<-hD];exact Sd hlt)];exact(f2 b hb).1
 have st3:tn 0 s3.heap:=T.keep _ _ _ st2 λb _ o e=>by rw[h3];exact Rt _ e
 have I4:=Du I3 ok hN f3;have pg:=hg s3 (upd H2 D (.lst [])) s3.heap.objs.size (aay (s3.heap.objs.size+1) scope.names (dG X.env.cells scope.names [])) fp;have pt:=ht s3 (upd H2 D (.lst [])) s3.heap.objs.size (aay (s3.heap.objs.size+1) scope.names (dG X.env.cells scope.names [])) fp;have pe:=he s3 (upd H2 D (.lst [])) s3.heap.objs.size (aay (s3.heap.objs.size+1) scope.names (dG X.env.cells scope.names [])) fp;show codeAny _ _ (.compStart (.ListComp elt [⟨tg,iter,ifs,0⟩] scope pos) 0 (.ref it) (.ref D) (aaG scope (aay (s3.heap.objs.size+1) scope.names (dG X.env.cells scope.names [])) s3.heap.objs.size X.env)) (compPost (model X.prog X.w) X.A X.xe use Qf (.ref D) s3.heap.objs.size) {s3 with heap:=aaE (s3.heap.push {cls:=.type "dict",data:=.dict #[]}) scope.names};have nfp:∀b∈fp,(upd H2 D (.lst [])) b=zN:=λb hb=>(f3 b hb).1.1;generalize hce:aaG scope (aay (s3.heap.objs.size+1) scope.names (dG X.env.cells scope.names [])) s3.heap.objs.size X.env=ce at I4 pg pt pe⊢;have cL:ce.locals=s3.heap.objs.size:=by subst hce;rfl
 generalize hH3:upd H2 D (.lst [])=H3 at I3 I4 pg pt pe w0 nfp f3;generalize hs4:({s3 with heap:=aaE (s3.heap.push {cls:=.type "dict",data:=.dict #[]}) scope.names}:ZW)=s4 at I4⊢;have st4:tn 0 s4.heap:=T.keep _ _ _ st3 λb _ o e=>by rw[<-hs4];exact aaF _ _ _ _ (Rt _ e)
 have stat:∀{σ':St}{H':Hp}{s':ZW},Inv (X.wC s3 H3 scope ce fp) [] σ' H' s'->(∀b∈fp,H' b=zN)->∀b∈fp,wA (X.wC s3 H3 scope ce fp) [] H' b:=λ{σ' H' s'} I' hn b hb=>
  ⟨hn b hb,(I'.ok.Qg b hb).1,I'.ok.JG b hb,.inl hb,λx c e=>(I'.ok.Qg b hb).2 x c e,λp hp=>absurd (show p∈([]:List (Addr×Obj))++[]from hp) (by simp)⟩
 have loop:codeAny (model X.prog X.w) X.A (.compLoop (.ListComp elt [⟨tg,iter,ifs,0⟩] scope pos) 0 (.ref it) (.ref D) ce) (compPost (model X.prog X.w) X.A X.xe use Qf (.ref D) s3.heap.objs.size) s4:=by
  refine B0 (λn s'=>∃i H',Inv (X.wC s3 H3 scope ce fp) [] (wipe σ (own.map (·.2))) H' s'/\tn i s'.heap/\(∀b∈fp,H' b=zN)/\W i n H') ?_ m0 ⟨0,H3,I4,st4,nfp,w0⟩;rintro n s5 ⟨i,H5,I5,st5,n5,w5⟩;obtain⟨stop,qq⟩|⟨go,Nx,hNx,step⟩:=turn i n H5 w5
  .have td:=T.done (X.wC s3 H3 scope ce fp) rfl rfl rfl hc i [] s5 _ H5 (λ_ _=>False) I5 (stat I5 n5) st5 stop;refine HU td λr s6⟨hr,I6⟩=>?_;subst hr;have I7:Inv X π σ H5 s6:=I3.OY (ch:=fp) I6.os I6.base I6.cA I6.bare λb hb=>⟨(f3 b hb).1.2.2.2.1,(f3 b hb).1.2.1,(f3 b hb).1.2.2.2.2.1,(f3 b hb).1.2.2.2.2.2⟩;have nC:H5 s3.heap.objs.size=zN:=by have z:H5 ce.locals=zN:=I6.free;rw[cL]at z;exact z
   let⟨m,hn,_⟩:=I6.loc;have hn:s6.heap.Ns ce.locals m:=hn;rw[cL]at hn;exact hRR D s3.heap.objs.size s6 m H5 I7 qq hn (I3.Dk (Ro _) nC)
  .have ti:=T.item (X.wC s3 H3 scope ce fp) rfl rfl rfl hc i [] s5 _ H5 (λ_ _=>False) I5 (stat I5 n5) st5 go;refine HU ti λr s6⟨u,hr,h6⟩=>?_;subst hr;refine HU h6 λ_ s7⟨x,H7,I7,r7,y7,st7,n7⟩=>?_;have I7':=I7.pinned (stat I7 n7) (T.obj _ _ st7);refine HU (pg _ s7 _ H7 x u _ I7' r7 (step x H7 y7)) λ_ s8⟨σ8,H8,I8,hw8,q8⟩=>?_;refine HU (pt _ s8 σ8 H8 _ I8 q8) λb s9⟨H9,I9,q9⟩=>?_;have fin:∀{s':ZW}{H':Hp},Inv (X.wC s3 H3 scope ce fp) ([]++xY fp s7.heap) σ8 H' s'->Nx H'->∃m,m<n/\∃i H',Inv (X.wC s3 H3 scope ce fp) [] (wipe σ (own.map (·.2))) H' s'/\tn i s'.heap/\(∀b∈fp,H' b=zN)/\W i m H':=λ{s' H'} I' nx=>by
    let⟨m',hm,w'⟩:=hNx H' nx
    have pin':∀b∈fp,∀o,s7.heap.get? b=zS o->s'.heap.get? b=zS o/\H' b=zN:=λb hb o e=>
     let z:=I'.pin (b,o) (SD _ (SD _ (sj hb e)))
     ⟨z.1,z.2.1⟩
    have hl:(wipe σ (own.map (·.2))).length=σ8.length:=by rw[<-hw8,pH]
    refine⟨m',hm,i+1,H',(I'.t6 (π:=[])).weak hl (λj v e=>?_),T.keep _ _ _ st7 λb hb o e=>(pin' b hb o e).1,λb hb=>?_,w'⟩
    .rw[<-hw8]at e;exact(u6 e).1
    .let⟨o,e,_⟩:=T.obj _ _ st7 b hb;exact(pin' b hb o e).2
   cases b with
   |false=>
    simp only[RJ,if_false]at q9⊢;exact fin I9 q9
   |true=>
    simp only[if_true]at q9⊢;refine HU (pe _ s9 σ8 H9 _ I9 q9) λz s10⟨yv,H10,I10,r10,acc,hD10,hz10,nx⟩=>?_;exact NR (X:=X.wC s3 H3 scope ce fp) I10 hD10 hz10 r10 λs11 I11=>fin I11 nx
 exact codeAny_compStart_list loop (T.self X.A 0 _ _ _ st4 loop)
def O9{own:List (Str×Nat)}(hc:X.calm=true)(hN:X.N.Nodup)(hi:PI X tg iter wi)(ok:Dt X.N X.env.scope scope own)(hg:∀(s:ZW)(H:Hp)(C:Addr)(cl:List (Str×Addr))(fp:List Addr),PG (X.wC s H scope (aaG scope cl C X.env) fp) tg g)(ht:∀(s:ZW)(H:Hp)(C:Addr)(cl:List (Str×Addr))(fp:List Addr),NS (X.wC s H scope (aaG scope cl C X.env) fp) ifs tt)(he:∀(s:ZW)(H:Hp)(C:Addr)(cl:List (Str×Addr))(fp:List Addr),PE (X.wC s H scope (aaG scope cl C X.env) fp) elt te)(hs:∀x,aas iter X.env x=pure x:=by intro _;rfl):PE X (.ListComp elt [⟨tg,iter,ifs,0⟩] scope pos) (vW wi g tt te (own.map (·.2))):=by intro π s σ H Q I h;rw[eval_ListComp];refine GO hc hN I hi ok hg ht he hs h λD C s' m H' I' q hn f=>⟨m,hn,λh'' sb=>?_⟩;let⟨f0,f1,f2,f3,f4,f5⟩:=f;exact⟨.ref D,H',I'.turned (t':=s'.toks) (λb o hb e=>(sb.2 b hb).trans e) f0 f1 f3 f4 f5,rfl,q⟩
def J1{own:List (Str×Nat)}{spos:Pos}(hc:X.calm=true)(hN:X.N.Nodup)(hy:X.N[i]?=zS y)(hyl:X.env.scope.names.lookup y=zS .local)(hsw:aal (.ListComp elt [⟨tg,iter,ifs,0⟩] scope pos) (zS (.Name y py)) spos.line X.env=pure true)(hi:PI X tg iter wi)(ok:Dt X.N X.env.scope scope own)(hg:∀(s:ZW)(H:Hp)(C:Addr)(cl:List (Str×Addr))(fp:List Addr),PG (X.wC s H scope (aaG scope cl C X.env) fp) tg g)(ht:∀(s:ZW)(H:Hp)(C:Addr)(cl:List (Str×Addr))(fp:List Addr),NS (X.wC s H scope (aaG scope cl C X.env) fp) ifs tt)(he:∀(s:ZW)(H:Hp)(C:Addr)(cl:List (Str×Addr))(fp:List Addr),PE (X.wC s H scope (aaG scope cl C X.env) fp) elt te)(hs:∀x,aas iter X.env x=pure x:=by intro _;rfl):PS X (.Assign [.Name y py] (.ListComp elt [⟨tg,iter,ifs,0⟩] scope pos) spos) (aL (vW wi g tt te (own.map (·.2))) (ao i)):=by
 intro π s σ H D I h;rw[exec_Assign_Name_used _ _ _ _ hsw];refine Z0 (wpAny_standAt (Z0 ?_));show wpAny _ X.A (do let _<-comprehension (.ListComp elt [⟨tg,iter,ifs,0⟩] scope pos) scope X.env (firstIterPos [⟨tg,iter,ifs,0⟩] pos) (newList []) false (eval iter X.env) (zS (assign (.Name y py) X.env))) _ _ s;have h:vW wi g tt te (own.map (·.2)) σ H (λx H1=>ao i x σ H1 D.nx):=h;refine Z0 (du (GO (Qf:=λ_ s'=>SP X π D .next s') hc hN I hi ok hg ht he hs h λL C s' m H' I' q hn f=>?_) λ_ s' hq=>Z5 (Z5 hq));show wpAny _ _ (assign (.Name y py) X.env (.ref L)) _ _ _;refine wpAny_assign_Name (AT (v:=V.ref L) I' hN hy (.inl hyl) rfl (λs2 I2⟨a,sb,ha⟩=>?_) (.inr hyl));let⟨f0,f1,f2,f3,f4,f5⟩:=f;have haC:C≠a:=by
  obtain z|z:=ha
  .rw[z];exact f1
  .exact λe=>f4 y a z e.symm
 refine⟨m,hn.sameBut sb haC,λh3 sb3=>?_⟩;exact⟨_,H',I2.turned (t':=s2.toks) (λb o hb e=>(sb3.2 b hb).trans e) f0 f1 f3 f4 f5,q⟩
def LS{gs:List Comprehension}{l:Nat}(hk:env.scope.kind=.function)(hy:env.scope.names.lookup y=zS .local)(hl:(py.line==pos.line)=true)(ha:(scope.names.any λ(n,k)=>n==y&&(k== .local||k== .cell))=false):aal (.ListComp elt gs scope pos) (zS (.Name y py)) l env=pure true:=by
 have ky:env.kindOf y=zS .local:=hy;have hb:env.blockKind=.function:=by unfold Env.blockKind;rw[hk];rfl
 unfold aal;simp only[hb,ky,ha,Expr.pos,hl];rfl
end
def LU(N:List Str)(sc scope:Scope)(own:List (Str×Nat)):Bool:=
 (match scope.kind with| .function=>true|_=>false)&&(scope.names.all λy=>decide (scope.names.lookup y.1=zS y.2))&&(own.all λp=>decide (N[p.2]?=zS p.1))&&
  (scope.names.all λy=>match y.2 with
   | .free=>(match sc.names.lookup y.1 with|some .cell=>true|some .free=>true|_=>false)
   | .local=>decide (y.1∈own.map (·.1))||decide (y.1∉N)
   | .cell=>decide (y.1∈own.map (·.1))||decide (y.1∉N)
   |_=>true)
def Dv{N:List Str}{sc:Scope}{own:List (Str×Nat)}(h:LU N sc scope own=true):Dt N sc scope own:=by
 unfold LU at h;simp only[SH,Ud,decide_eq_true_eq]at h;let⟨⟨⟨h1,h2⟩,h3⟩,h4⟩:=h;refine⟨?_,h2,h3,λy hy e=>?_,λy hy e=>?_⟩
 .split at h1
  .assumption
  .cases h1
 .have q:=h4 y hy;simp only[e]at q;split at q<;>first|exact .inl (by assumption)|exact .inr (by assumption)|cases q
 .have q:=h4 y hy;obtain e|e:=e<;>(simp only[e,UA,decide_eq_true_eq]at q;exact q)
variable{o:Option V}{y:V}{u:Value}
section
variable{κ:Type} [DecidableEq κ]
def aI(kvs:List (κ×V))(k:κ):Option V:=(kvs.find? λkv=>decide (kv.1=k)).map (·.2)
def putK(kvs:List (κ×V))(k:κ)(v:V):List (κ×V):=
 if(kvs.any λkv=>decide (kv.1=k))=true then kvs.map (λkv=>if kv.1=k then(kv.1,v)else kv)else kvs++[(k,v)]
def cE(kvs:List (κ×V))(k:κ):List (κ×V):=kvs.filter λkv=>decide (kv.1≠k)
def kQ{k:κ}:aI ([]:List (κ×V)) k=zN:=rfl
def dA{p:κ×V}{r:List (κ×V)}{k:κ}(e:p.1=k):aI (p::r) k=zS p.2:=by simp[aI,TX,e]
def dB{p:κ×V}{r:List (κ×V)}{k:κ}(e:¬p.1=k):aI (p::r) k=aI r k:=by simp[aI,TX,e]
def fw(k:κ):∀kvs:List (κ×V),(kvs.any λkv=>decide (kv.1=k))=(aI kvs k).isSome
 |[]=>rfl
 |p::r=>by
  rw[Vl];by_cases e:p.1=k
  .simp only[dA e,decide_eq_true e,Bool.true_or,W2]
  .rw[dB e,decide_eq_false e,Bool.false_or];exact fw k r
def Dx(k j:κ)(y:V):∀kvs:List (κ×V),aI (kvs.map λkv=>if kv.1=k then(kv.1,y)else kv) j=(aI kvs j).map λx=>if j=k then y else x
 |[]=>rfl
 |p::r=>by
  have ih:=Dx k j y r;rw[RS];by_cases h:p.1=k
  .rw[ag h];by_cases e:p.1=j
   .rw[dA (p:=(p.1,y)) e,dA e,SN,ag (e.symm.trans h)]
   .rw[dB (p:=(p.1,y)) e,dB e,ih]
  .rw[ae h];by_cases e:p.1=j
   .rw[dA (p:=p) e,dA e,SN,ae (λz=>h (e.trans z))]
   .rw[dB (p:=p) e,dB e,ih]
def A5(k j:κ)(y:V):∀kvs:List (κ×V),aI kvs k=zN->aI (kvs++[(k,y)]) j=if j=k then zS y else aI kvs j
 |[],_=>by
  by_cases e:k=j
  .rw[ag e.symm];exact dA (p:=(k,y)) e
  .rw[ae (λz=>e z.symm)];exact dB (p:=(k,y)) e
 |p::r,hn=>by
  rw[Rx];have hk:¬p.1=k:=λz=>by rw[dA z]at hn;cases hn
  rw[dB hk]at hn;have ih:=A5 k j y r hn;by_cases e:p.1=j
  .rw[dA e,dA e,ae (λz=>hk (e.trans z))]
  .rw[dB e,dB e,ih]
def fU(kvs:List (κ×V))(k j:κ)(y:V):aI (putK kvs k y) j=if j=k then zS y else aI kvs j:=by
 unfold putK;by_cases a:(kvs.any λkv=>decide (kv.1=k))=true
 .rw[ag a,Dx];rw[fw]at a;by_cases e:j=k
  .let⟨x,hx⟩:=VR.mp a;rw[ag e,e,hx,SN,ag rfl]
  .rw[ae e]
   cases aI kvs j with
   |none=>rfl
   |some x=>rw[SN,ae e]
 .rw[ae a];refine A5 k j y kvs ?_;rw[fw]at a
  cases q:aI kvs k with
  |none=>rfl
  |some x=>rw[q]at a;exact(a rfl).elim
def gt(kvs:List (κ×V))(k:κ)(v:V):(putK kvs k v).length<=kvs.length+1:=by
 unfold putK;split
 .rw[Rr];omega
 .rw[RH,RG,W4];omega
def iK{kvs:List (κ×V)}{k:κ}(v:V)(h:aI kvs k=zN):putK kvs k v=kvs++[(k,v)]:=by unfold putK;rw[fw,h];exact ae (by decide)
def lS.jg{u:Option Value}(r:lS o u):o.isSome=u.isSome:=by
 cases o with
 |none=>cases u with
  |none=>rfl
  |some _=>exact(show False from r).elim
 |some _=>cases u with
  |none=>exact(show False from r).elim
  |some _=>rfl
def lS.getD{u:Option Value}{d:V}{d':Value}(r:lS o u)(rd:RelV d d'):RelV (o.getD d) (u.getD d'):=by
 cases o with
 |none=>cases u with
  |none=>exact rd
  |some _=>exact(show False from r).elim
 |some _=>cases u with
  |none=>exact(show False from r).elim
  |some _=>exact r
def KV.val{kvs:List (κ×V)}{vs:List (κ×Value)}(r:KV kvs vs)(k:κ):lS (aI kvs k) (valueAt vs k):=by
 unfold KV at r
 induction r with
 |nil=>exact True.intro
 | @cons p q ps qs h t ih=>
  let⟨h1,h2⟩:=h;by_cases e:p.1=k
  .have e':q.1=k:=h1.symm.trans e;have b:valueAt (q::qs) k=zS q.2:=by simp[valueAt,TX,e']
   rw[dA e,b];exact h2
  .have e':¬q.1=k:=λz=>e (h1.trans z);have b:valueAt (q::qs) k=valueAt qs k:=by simp[valueAt,TX,e']
   rw[dB e,b];exact ih
def KV.any{kvs:List (κ×V)}{vs:List (κ×Value)}(r:KV kvs vs)(k:κ):(kvs.any λkv=>decide (kv.1=k))=vs.any λkv=>decide (kv.1=k):=by
 unfold KV at r
 induction r with
 |nil=>rfl
 |cons h t ih=>rw[Vl,Vl,ih,h.1]
def KV.J2{kvs:List (κ×V)}{vs:List (κ×Value)}(r:KV kvs vs)(k:κ)(ry:RelV y u):KV (kvs.map λkv=>if kv.1=k then(kv.1,y)else kv) (vs.map λkv=>if kv.1=k then(kv.1,u)else kv):=by
 unfold KV at r⊢
 induction r with
 |nil=>exact .nil
 | @cons p q ps qs h t ih=>
  rw[RS,RS];refine .cons ?_ ih;let⟨h1,h2⟩:=h;by_cases e:p.1=k
  .rw[ag e,ag (h1.symm.trans e)];exact⟨h1,ry⟩
  .rw[ae e,ae (λz=>e (h1.trans z))];exact⟨h1,h2⟩
def KV.put{kvs:List (κ×V)}{vs:List (κ×Value)}(r:KV kvs vs)(k:κ)(ry:RelV y u):KV (putK kvs k y) (stored vs k u):=by
 unfold putK stored;rw[r.any k];by_cases e:(vs.any λkv=>decide (kv.1=k))=true
 .rw[ag e,ag e];exact r.J2 k ry
 .rw[ae e,ae e];exact Tz r ⟨rfl,ry⟩
def KV.drop{kvs:List (κ×V)}{vs:List (κ×Value)}(r:KV kvs vs)(k:κ):KV (cE kvs k) (without vs k):=by
 unfold KV at r⊢;unfold cE without
 induction r with
 |nil=>exact .nil
 | @cons p q ps qs h t ih=>
  let⟨h1,h2⟩:=h;rw[Td,Td];by_cases e:p.1=k
  .have a:¬decide (p.1≠k)=true:=by simp[e]
   have b:¬decide (q.1≠k)=true:=by simp[h1.symm.trans e]
   rw[ae a,ae b];exact ih
  .have e':¬q.1=k:=λz=>e (h1.trans z);have a:decide (p.1≠k)=true:=by simp[e]
   have b:decide (q.1≠k)=true:=by simp[e']
   rw[ag a,ag b];exact .cons ⟨h1,h2⟩ ih
def KV.length{kvs:List (κ×V)}{vs:List (κ×Value)}(r:KV kvs vs):kvs.length=vs.length:=Sv r
def J3(kvs:List (κ×V))(k:κ):(cE kvs k).length<=kvs.length:=Th _ _
end
variable{P:ZV}{w:World}
def ua{k:Key}(r:RelV (kV k) u):(cB P w).is k u=true:=by
 cases k with
 |inl i=>let⟨t,e⟩:=(show∃t,u=S0 i t from r);subst e;exact Dh P w i t
 |inr x=>let⟨t,e⟩:=(show∃t,u=UG x t from r);subst e;exact Di P w x t
def A6:∀{ks:List Key}{us:List Value},Vals (ks.map kV) us->ItemsAre (cB P w) ks us
 |[],_,r=>by rw[Vo]at r;cases r;exact .nil
 |k::ks,_,r=>by
  rw[RS]at r
  cases r with
  |cons h t=>exact .cons (ua h) (A6 t)
abbrev KT(H:Hp):List (List Key×V)->List (List Key×Addr×Value)->Prop:=Paired λp q=>p.1=q.1/\H q.2.1=zS (.tup (p.1.map kV))/\RelV p.2 q.2.2
variable{H:Hp}{xs:List (List Key×Addr×Value)}{kvs:List (List Key×V)}
def KT.val(r:KT H kvs xs)(k:List Key):lS (aI kvs k) ((atKey xs k).map (·.2)):=by
 induction r with
 |nil=>exact True.intro
 | @cons p q ps qs h t ih=>
  let⟨h1,_,h2⟩:=h;by_cases e:p.1=k
  .have e':q.1=k:=h1.symm.trans e;have b:atKey (q::qs) k=zS q.2:=by simp[atKey,TX,e']
   rw[dA e,b];exact h2
  .have e':¬q.1=k:=λz=>e (h1.trans z);have b:atKey (q::qs) k=atKey qs k:=by simp[atKey,TX,e']
   rw[dB e,b];exact ih
def KT.J2(r:KT H kvs xs)(k:List Key)(ry:RelV y u):KT H (kvs.map λkv=>if kv.1=k then(kv.1,y)else kv) (xs.map (putAt k u)):=by
 induction r with
 |nil=>exact .nil
 | @cons p q ps qs h t ih=>
  rw[RS,RS];refine .cons ?_ ih;let⟨h1,h2,h3⟩:=h;unfold putAt;by_cases e:p.1=k
  .rw[ag e,ag (h1.symm.trans e)];exact⟨h1,h2,ry⟩
  .rw[ae e,ae (λz=>e (h1.trans z))];exact⟨h1,h2,h3⟩
def KT.put(r:KT H kvs xs)(k:List Key){b:Addr}(hb:H b=zS (.tup (k.map kV)))(ry:RelV y u):KT H (putK kvs k y) (storedH xs k b u):=by
 have e:(kvs.any λkv=>decide (kv.1=k))=(atKey xs k).isSome:=by rw[fw,(r.val k).jg,Uc]
 unfold putK storedH;rw[e];by_cases q:(atKey xs k).isSome=true
 .rw[ag q,ag q];exact r.J2 k ry
 .rw[ae q,ae q];exact Tz r ⟨rfl,hb,ry⟩
variable{H':Hp}
def KT.keeps(r:KT H kvs xs)(ht:∀b ys,H b=zS (.tup ys)->H' b=zS (.tup ys)):KT H' kvs xs:=
 Paired.j9 r λ_ _ z=>⟨z.1,ht _ _ z.2.1,z.2.2⟩
section
variable{P:ZV}{w:World}{H:Hp}{h:Heap}{a:Addr}
def J4{u:HO}(ok:oC P w H h)(e:Rd H a u):dz P w H h a u:=e.ok ok
def mF{kvs:List (Key×V)}(ok:oC P w H h)(e:Rd H a (.dK kvs)):kvs.length<=aac/\(a==aad)=false/\∃vs,KV kvs vs/\h.DictOf (cB P w) a vs:=
 show dz P w H h a (.dK kvs)from J4 ok e
def Dy{kvs:List (Key×V)}(ok:oC P w H h)(e:H a=zS (.dK kvs)):kvs.length<=aac/\(a==aad)=false/\∃vs,KV kvs vs/\h.DictOf (cB P w) a vs:=mF ok (.inl e)
def u7{ks:List Key}(ok:oC P w H h)(e:H a=zS (.tup (ks.map kV))):(tupleKind (cB P w)).is h ks a:=by let⟨_,aR,r,o,h1,h2,n,h3⟩:=(show dz P w H h a (.tup (ks.map kV))from ok a _ e);exact⟨o,aR.toArray,n,h1,h2,h3,by simpa using A6 r⟩
def x6(ok:oC P w H h)(e:Rd H a (.dT kvs)):kvs.length<=aac/\(a==aad)=false/\∃xs,KT H kvs xs/\h.DictOfH (tupleKind (cB P w)) a xs:=by
 let⟨z,y,xs,r,o,es,ep,h1,h2,h3,h4,h5⟩:=(show dz P w H h a (.dT kvs)from J4 ok e);refine⟨z,y,xs,r,o,es,ep,h1,h2,h3,h4,λx hx=>?_,h5⟩;have all:∀{l:List (List Key×V)}{m:List (List Key×Addr×Value)},KT H l m->∀x∈m,(tupleKind (cB P w)).is h x.1 x.2.1:=by
  intro l m q
  induction q with
  |nil=>intro x hx;exact nomatch hx
  | @cons p q ps qs hq t ih=>
   intro x hx;obtain e|hx:=Rn.mp hx
   .subst e;exact u7 ok (by rw[<-hq.1];exact hq.2.1)
   .exact ih x hx
 exact all r x hx
def O_(ok:oC P w H h)(e:H a=zS (.dT kvs)):kvs.length<=aac/\(a==aad)=false/\∃xs,KT H kvs xs/\h.DictOfH (tupleKind (cB P w)) a xs:=x6 ok (.inl e)
end
def u9(H:Hp)(a:Addr)(y:V)(r:Option V):Prop:=
 (∃kvs k,Rd H a (.dK kvs)/\y=kV k/\r=aI kvs k)\/∃kvs k b,Rd H a (.dT kvs)/\y=.ref b/\H b=zS (.tup (k.map kV))/\r=aI kvs k
def NT(H:Hp)(a:Addr)(y v:V)(H':Hp):Prop:=
 (∃kvs k,H a=zS (.dK kvs)/\y=kV k/\kvs.length<aac/\H'=upd H a (.dK (putK kvs k v)))\/
 ∃kvs k b,H a=zS (.dT kvs)/\y=.ref b/\H b=zS (.tup (k.map kV))/\kvs.length<aac/\H'=upd H a (.dT (putK kvs k v))
variable{h':Heap}{Q:Value->ZW->Prop}
section
variable{X:Cx}{π:List (Addr×Obj)}{σ:St}{H:Hp}{s:ZW}{a:Addr}{y v:V}{u r:Value}{o:Option V}{A:ZZ}{E:Value->ZW->Prop}
def Inv.big(I:Inv X π σ H s):aad<s.heap.objs.size:=by have h:ZU<s.heap.objs.size:=(I.mod.glob.keeps I.bk).lt;exact Nat.lt_trans (by decide) h
def HV(hu:A.units+1<cLine)(I:Inv X π σ H s)(g:u9 H a y (zS v))(ry:RelV y u)(h:∀w' s',Inv X π σ H s'->RelV v w'->Q w' s'):wpAny (model X.prog X.w) A (getItem (.ref a) u) Q E s:=by
 obtain⟨kvs,k,e,ey,l⟩|⟨kvs,k,b,e,ey,eb,l⟩:=g
 .subst ey;let⟨z,hd,vs,rel,dd⟩:=mF I.cA e;let⟨w',hw,rw'⟩:=lS.some_of (v:=v) (o:=valueAt vs k) (by rw[l];exact rel.val k);exact wpAny_getItem_of (ua ry) dd.mapOf hw (h w' _ (I.tok _) rw')
 .subst ey;cases(show u=RF b from ry);let⟨z,hd,xs,rel,dd⟩:=x6 I.cA e;let⟨w',hw,rw'⟩:=lS.some_of (v:=v) (o:=(atKey xs k).map (·.2)) (by rw[l];exact rel.val k);let⟨p,hp,hp2⟩:=To.mp hw;refine wpAny_getItem_heap (aaI hu) (u7 I.cA eb) dd hp ?_;rw[hp2];exact h w' _ (I.tok _) rw'
def QH(hu:A.units+1<cLine)(I:Inv X π σ H s)(g:u9 H a y o)(ry:RelV y u)(h:∀s',Inv X π σ H s'->Q (.bool o.isSome) s'):wpAny (model X.prog X.w) A (aai .In u (.ref a)) Q E s:=by
 obtain⟨kvs,k,e,ey,l⟩|⟨kvs,k,b,e,ey,eb,l⟩:=g
 .subst ey;let⟨z,hd,vs,rel,dd⟩:=mF I.cA e;refine wpAny_in_of (ua ry) hd dd.mapOf ?_;rw[<-(rel.val k).jg,<-l];exact h _ (I.tok _)
 .subst ey;cases(show u=RF b from ry);let⟨z,hd,xs,rel,dd⟩:=x6 I.cA e;refine wpAny_in_heap (aaI hu) (u7 I.cA eb) hd dd ?_;have q:=(rel.val k).jg;rw[Uc]at q;rw[<-q,<-l];exact h _ (I.tok _)
def LV(hu:A.units+1<cLine)(I:Inv X π σ H s)(g:u9 H a y o)(ry:RelV y u)(h:∀s',Inv X π σ H s'->Q (.bool (!o.isSome)) s'):wpAny (model X.prog X.w) A (aai .NotIn u (.ref a)) Q E s:=by
 obtain⟨kvs,k,e,ey,l⟩|⟨kvs,k,b,e,ey,eb,l⟩:=g
 .subst ey;let⟨z,hd,vs,rel,dd⟩:=mF I.cA e;refine wpAny_notIn_of (ua ry) hd dd.mapOf ?_;rw[<-(rel.val k).jg,<-l];exact h _ (I.tok _)
 .subst ey;cases(show u=RF b from ry);let⟨z,hd,xs,rel,dd⟩:=x6 I.cA e;refine wpAny_notIn_heap (aaI hu) (u7 I.cA eb) hd dd ?_;have q:=(rel.val k).jg;rw[Uc]at q;rw[<-q,<-l];exact h _ (I.tok _)
def nj{t':Nat}{ob:HO}(I:Inv X π σ H s)(mu:JC (H a))(hs:Tu a s.heap h')(he:∃q,h'.get? a=zS q)(new:dz X.prog X.w (upd H a ob) h' a ob):Inv X π σ (upd H a ob) {s with heap:=h',toks:=t'}:=
 I.write (x:=a) (e:=a) mu (.inl rfl) (λb q hb z=>(hs.2 b hb).trans z) he new
def x8{kvs:List (Key×V)}{vs:List (Key×Value)}(z:kvs.length<=aac)(hd:(a==aad)=false)(rel:KV kvs vs)(dd:h'.DictOf (cB P w) a vs):dz P w H' h' a (.dK kvs):=⟨z,hd,vs,rel,dd⟩
def HY{Q:Unit->ZW->Prop}(hu:A.units+1<cLine)(I:Inv X π σ H s)(g:NT H a y v H')(ry:RelV y u)(rv:RelV v r)(h:∀s',Inv X π σ H' s'->Q () s'):wpAny (model X.prog X.w) A (setItem (.ref a) u r) Q E s:=by
 obtain⟨kvs,k,e,ey,l,eH⟩|⟨kvs,k,b,e,ey,eb,l,eH⟩:=g
 .subst ey eH;let⟨z,hd,vs,rel,dd⟩:=Dy I.cA e;have hz:vs.length<=aac:=by rw[<-rel.length];exact z
  have hl:(putK kvs k v).length<=aac:=by have:=gt kvs k v;omega
  refine wpAny_setItem_pairs (hsz:=hz) (ua ry) dd λh' dd' hs=>h _ ?_;have he:∃q,h'.get? a=zS q:=let⟨q,_,_,hq,_⟩:=dd';⟨q,hq⟩;exact nj I (by rw[e];exact True.intro) hs he (x8 hl hd (rel.put k rv) dd')
 .subst ey eH;cases(show u=RF b from ry);let⟨z,hd,xs,rel,dd⟩:=O_ I.cA e;have hz:xs.length<=aac:=by rw[<-Sv rel];exact z
  have hl:(putK kvs k v).length<=aac:=by have:=gt kvs k v;omega
  refine wpAny_setItem_heap (hsz:=hz) (aaI hu) (u7 I.cA eb) dd λh' dd' hs=>h _ ?_;let⟨q,es,ep,hq,h2,h3,h4,_,h5⟩:=dd';refine nj I (by rw[e];exact True.intro) hs ⟨q,hq⟩ ⟨hl,hd,_,(rel.put k eb rv).keeps λc ys ec=>?_,q,es,ep,hq,h2,h3,h4,h5⟩;rw[ab (aQ ec e (λz=>nomatch z))];exact ec
end
section
variable{X:Cx}{π:List (Addr×Obj)}{σ:St}{H:Hp}{s:ZW}{a:Addr}{kvs:List (Key×V)}{k:Key}{u:Value}{A:ZZ}{E:Value->ZW->Prop}
def MO{v:V}{more:List Value}(I:Inv X π σ H s)(e:H a=zS (.dK kvs))(ry:RelV (kV k) u)(l:aI kvs k=zS v)(hm:more=[]\/∃x,more=[x])(h:∀w' s',Inv X π σ (upd H a (.dK (cE kvs k))) s'->RelV v w'->Q w' s'):wpAny (model X.prog X.w) A (call (.builtin "dict.pop") (.ref a::u::more)) Q E s:=by
 let⟨z,hd,vs,rel,dd⟩:=Dy I.cA e;let⟨w',hw,rw'⟩:=lS.some_of (v:=v) (o:=valueAt vs k) (by rw[<-l];exact rel.val k);have hp:(keyPart u).isSome=true:=by
  cases k with
  |inl i=>let⟨t,q⟩:=(show∃t,u=S0 i t from ry);subst q;rfl
  |inr x=>let⟨t,q⟩:=(show∃t,u=UG x t from ry);subst q;rfl
 have ha:argsOk "dict.pop" ⟨.ref a::u::more,[]⟩:=by
  obtain q|⟨x,q⟩:=hm
  .subst q;exact PySem.F.args_dict_pop_2 _ _
  .subst q;exact Yl _ _ _
 refine aaJ VW dd.typeIs Ym ha (meets_dict_pop_there (cB X.prog X.w) a (ua ry) more hm hp)
  ⟨vs,w',dd,by rw[<-rel.length];exact z,hw,λh' dd' hs=>h w' _ ?_ rw'⟩
 have he:∃q,h'.get? a=zS q:=let⟨q,_,_,hq,_⟩:=dd';⟨q,hq⟩;exact nj I (by rw[e];exact True.intro) hs he (x8 (RO (J3 kvs k) z) hd (rel.drop k) dd')
def NU{r:Value}(I:Inv X π σ H s)(e:H a=zS (.dK kvs))(ry:RelV (kV k) u)(l:aI kvs k=zN)(h:∀s',Inv X π σ H s'->Q r s'):wpAny (model X.prog X.w) A (call (.builtin "dict.pop") [.ref a,u,r]) Q E s:=by
 let⟨z,hd,vs,rel,dd⟩:=Dy I.cA e;have hn:valueAt vs k=zN:=lS.none_of (by rw[<-l];exact rel.val k);have hp:(keyPart u).isSome=true:=by
  cases k with
  |inl i=>let⟨t,q⟩:=(show∃t,u=S0 i t from ry);subst q;rfl
  |inr x=>let⟨t,q⟩:=(show∃t,u=UG x t from ry);subst q;rfl
 exact aaJ VW dd.typeIs Ym (Yl _ _ _) (meets_dict_pop_default (cB X.prog X.w) a (ua ry) hd hp r) ⟨vs,dd,hn,h _ (I.tok _)⟩
def Pa(I:Inv X π σ H s)(e:Rd H a (.dK kvs))(h:∀t s',Inv X π σ H s'->Q (.int kvs.length t) s'):wpAny (model X.prog X.w) A (call (.builtin "len") [.ref a]) Q E s:=by let⟨z,hd,vs,rel,dd⟩:=mF I.cA e;refine call_len_dict hd dd (by rw[<-rel.length];rw[sizeLine_eq]at z;omega) ?_;rw[<-rel.length];exact h _ _ (I.tok _)
end
def NV(i:Expr):Prop:=∀ov iv,subscripted i false ov iv=operate [ov,iv] (getItem ov iv)
variable{s:ZW}
def GP{prog:ZV}{A:ZZ}{E:Value->ZW->Prop}{env:Env}{value slice:Expr}{pos:Pos}{T id:String}(hl:typeLookup (.type T) "__getitem__"=pure (zS (.builtin id)))(hs:NV slice)(h:wpAny (model prog w) A (eval value env) (λo s₁=>wpAny (model prog w) A (eval slice env) (λi s₂=>s₂.TypeIs o T/\wpAny (model prog w) A (getItem o i) Q E s₂) E s₁) E s):wpAny (model prog w) A (eval (.Subscript value slice pos) env) Q E s:=by
 refine Subscript_ (aah h (λo s₁ h₁=>aah h₁ (λi s₂ h₂=>?_) λ_ _ x=>x) λ_ _ x=>x);let⟨hT,h₂⟩:=h₂;unfold subscriptTail;refine Z0 ?_;rw[getitemInPython_of_ne hT.not_modules];refine Z0 (Z1 hT hl ?_);have fin:wpAny (model prog w) A (subscripted slice false o i) (λr s₃=>wpAny (model prog w) A (letTemporaryGo value o r>>=λ_=>pure r) Q E s₃) E s₂:=by rw[hs o i];exact wpAny_operating (aah h₂ (λr s₃ h₃=>Z0 (wpAny_letTemporaryGo (Z5 h₃))) λ_ _ x=>x)
 first
  |exact Z5 (Z0 fin)
  |exact Z0 (Z5 (Z0 fin))
  |exact Z0 fin
variable{a:Addr}{X:Cx}{π:List (Addr×Obj)}{σ:St}
def Dz(I:Inv X π σ H s)(g:u9 H a y o):s.TypeIs (.ref a) "dict":=by
 obtain⟨kvs,k,e,_,_⟩|⟨kvs,k,b,e,_,_,_⟩:=g
 .let⟨_,_,vs,_,dd⟩:=mF I.cA e;exact dd.typeIs
 .let⟨_,_,xs,_,dd⟩:=x6 I.cA e;exact dd.typeIs
def gO(td ty:TE):TE:=λσ H Q=>td σ H λx H1=>ty σ H1 λy H2=>∃a v,x=.ref a/\u9 H2 a y (zS v)/\Q v H2
def ub(ty td:TE):TE:=λσ H Q=>ty σ H λy H1=>td σ H1 λx H2=>∃a o,x=.ref a/\u9 H2 a y o/\Q (.bl o.isSome) H2
def dw(ty td:TE):TE:=λσ H Q=>ty σ H λy H1=>td σ H1 λx H2=>∃a o,x=.ref a/\u9 H2 a y o/\Q (.bl (!o.isSome)) H2
def mG(td ty tv:TE):TS:=λD σ H=>tv σ H λv H1=>td σ H1 λx H2=>ty σ H2 λy H3=>∃a H4,x=.ref a/\NT H3 a y v H4/\D.nx σ H4
section
variable{X:Cx}{o i e value:Expr}{pos pos' tpos:Pos}{td ty tv:TE}
def dS(hu:X.A.units+1<cLine)(ho:PE X o td)(hi:PE X i ty)(hs:NV i):PE X (.Subscript o i pos) (gO td ty):=by intro π s σ H Q I h;refine GP Yn.lookup hs (du (ho π s σ H _ I h) λu s1⟨x,H1,I1,rx,q1⟩=>du (hi π s1 σ H1 _ I1 q1) λiv s2⟨y,H2,I2,ry,a,v,ex,g,q2⟩=>?_);subst ex;obtain rfl:u=RF a:=rx;exact⟨Dz I2 g,HV hu I2 g ry λw' s3 I3 rw'=>⟨v,H2,I3,rw',q2⟩⟩
def jW(hu:X.A.units+1<cLine)(hi:PE X i ty)(ho:PE X o td):PC X .In i o (ub ty td):=by intro π s σ H Q I h;refine du (hi π s σ H _ I h) λiv s1⟨y,H1,I1,ry,q1⟩=>du (ho π s1 σ H1 _ I1 q1) λu s2⟨x,H2,I2,rx,a,ov,ex,g,q2⟩=>?_;subst ex;obtain rfl:u=RF a:=rx;exact QH hu I2 g ry λs3 I3=>⟨.bl ov.isSome,H2,I3,rfl,q2⟩
def b9(hu:X.A.units+1<cLine)(hi:PE X i ty)(ho:PE X o td):PC X .NotIn i o (dw ty td):=by intro π s σ H Q I h;refine du (hi π s σ H _ I h) λiv s1⟨y,H1,I1,ry,q1⟩=>du (ho π s1 σ H1 _ I1 q1) λu s2⟨x,H2,I2,rx,a,ov,ex,g,q2⟩=>?_;subst ex;obtain rfl:u=RF a:=rx;exact LV hu I2 g ry λs3 I3=>⟨.bl (!ov.isSome),H2,I3,rfl,q2⟩
def iM(hu:X.A.units+1<cLine)(ho:PE X o td)(hi:PE X i ty)(hv:PE X value tv)(hs:aal value (zS (.Subscript o i pos')) pos.line X.env=pure false):PS X (.Assign [.Subscript o i pos'] value pos) (mG td ty tv):=by intro π s σ H D I h;refine wpAny_Assign_Subscript (du (hv π s σ H _ I h) λr s1⟨v,H1,I1,rv,q1⟩=>du (ho π s1 σ H1 _ I1 q1) λu s2⟨x,H2,I2,rx,q2⟩=>du (hi π s2 σ H2 _ I2 q2) λiv s3⟨y,H3,I3,ry,a,H4,ex,g,q3⟩=>?_) hs;subst ex;obtain rfl:u=RF a:=rx;exact HY hu I3 g ry rv λs4 I4=>⟨σ,H4,I4,q3⟩
end
def J5(h:Heap)(hb:aad<h.objs.size):dz P w H (h.push {cls:=.type "dict",data:=.dict #[]}) h.objs.size (.dK []):=
 ⟨SO _,beq_eq_false_iff_ne.mpr (SY (Sd hb)),[],.nil,ZQ h⟩
def fz:TE:=λ_ H Q=>∀p,H p=zN->Q (.ref p) (upd H p (.dK []))
section
variable{X:Cx}{pos:Pos}
def dC:PE X (.Dict [] [] pos) fz:=λπ s σ H Q I h=>
 wpAny_Dict_empty ⟨.ref s.heap.objs.size,_,I.laid (a:=s.heap.objs.size) (o:=.dK []) (t':=s.toks) (λ_ _ q=>Rt _ q) (Ro _) (J5 s.heap I.big),rfl,h _ (I.cA.fresh (Ro _))⟩
end
def gu(kvs more:List (Key×V)):List (Key×V):=more.foldl (λacc kv=>putK acc kv.1 kv.2) kvs
def KV.merge:∀{more:List (Key×V)}{rs:List (Key×Value)}{kvs:List (Key×V)}{vs:List (Key×Value)},KV more rs->KV kvs vs->KV (gu kvs more) (merged vs rs):=by
 intro more rs kvs vs r;unfold KV at r
 induction r generalizing kvs vs with
 |nil=>intro q;exact q
 | @cons p q ps qs h t ih=>
  intro r0;have e:KV (putK kvs p.1 p.2) (stored vs q.1 q.2):=by have:=r0.put p.1 h.2;rw[<-h.1];exact this
  exact ih e
def lU:∀(more kvs:List (Key×V)),(gu kvs more).length<=kvs.length+more.length
 |[],kvs=>by show kvs.length<=kvs.length+0;omega
 |p::r,kvs=>by have h1:=lU r (putK kvs p.1 p.2);have h2:=gt kvs p.1 p.2;show(gu (putK kvs p.1 p.2) r).length<=_;rw[RG];omega
structure M1(X:Cx)(o:Expr)(m:Str)(apos:Pos)(e:Expr)(cpos:Pos):Prop where
 base:aau o m X.env (eval o X.env)=eval o X.env
 OB:((aaf cpos (aag [e] X.env)).all (λx=> !x.1)&&(backToKw cpos (keywordEach [] X.env)).all (λx=>x.1.isSome)
  &&decide (([e]:List Expr).length+([]:List Keyword).length+(if([]:List Keyword).isEmpty then 0 else 1)<30))=true
 line:(apos.endLine==cpos.line)=true
 trees:aaf cpos (aag [e] X.env)=[(false,eval e X.env)]
structure M2(X:Cx)(o:Expr)(m:Str)(apos:Pos)(e f:Expr)(cpos:Pos):Prop where
 base:aau o m X.env (eval o X.env)=eval o X.env
 OB:((aaf cpos (aag [e,f] X.env)).all (λx=> !x.1)&&(backToKw cpos (keywordEach [] X.env)).all (λx=>x.1.isSome)
  &&decide (([e,f]:List Expr).length+([]:List Keyword).length+(if([]:List Keyword).isEmpty then 0 else 1)<30))=true
 line:(apos.endLine==cpos.line)=true
 trees:aaf cpos (aag [e,f] X.env)=[(false,eval e X.env),(false,eval f X.env)]
def J6(H:Hp)(a:Addr):Prop:=(∃kvs,Rd H a (.dK kvs))\/∃kvs,Rd H a (.dT kvs)
def x9(I:Inv X π σ H s)(d:J6 H a):s.TypeIs (.ref a) "dict"/\(∀b,RF a=.ref b->∃ob,s.heap.get? b=zS ob/\ob.dict=zN)/\(a==aad)=false:=by
 obtain⟨kvs,e⟩|⟨kvs,e⟩:=d
 .let⟨_,hd,vs,_,dd⟩:=mF I.cA e;refine⟨dd.typeIs,λb q=>?_,hd⟩;cases q;let⟨ob,_,_,h1,h2,_⟩:=dd;exact⟨ob,h1,h2.2.1⟩
 .let⟨_,hd,xs,_,dd⟩:=x6 I.cA e;refine⟨dd.typeIs,λb q=>?_,hd⟩;cases q;let⟨ob,_,_,h1,h2,_⟩:=dd;exact⟨ob,h1,h2.2.1⟩
section
variable{X:Cx}{π:List (Addr×Obj)}{σ:St}{H:Hp}{s:ZW}{a:Addr}{y d:V}{u r:Value}{o:Option V}{A:ZZ}{E:Value->ZW->Prop}
def NW(hu:A.units+1<cLine)(I:Inv X π σ H s)(g:u9 H a y o)(ry:RelV y u)(rd:RelV d r)(h:∀w' s',Inv X π σ H s'->RelV (o.getD d) w'->Q w' s'):wpAny (model X.prog X.w) A (call (.builtin "dict.get") [.ref a,u,r]) Q E s:=by
 obtain⟨kvs,k,e,ey,l⟩|⟨kvs,k,b,e,ey,eb,l⟩:=g
 .subst ey;let⟨z,hd,vs,rel,dd⟩:=mF I.cA e;refine aaJ W5 dd.typeIs Yo (Yp _ _ _) (meets_dict_get_default (cB X.prog X.w) a (ua ry) hd r) ⟨_,dd.mapOf,h _ _ (I.tok _) ?_⟩;rw[l];exact(rel.val k).getD rd
 .subst ey;cases(show u=RF b from ry);let⟨z,hd,xs,rel,dd⟩:=x6 I.cA e;refine aaJ W5 dd.typeIs Yo (Yp _ _ _) (meetsH_dict_get_default (tupleKind (cB X.prog X.w)) a b hd r) ⟨aaI hu,k,xs,u7 I.cA eb,dd,h _ _ (I.tok _) ?_⟩;rw[l];exact(rel.val k).getD rd
end
def Fm(td ty tx:TE):TE:=λσ H Q=>td σ H λx H1=>∃a,x=.ref a/\J6 H1 a/\ty σ H1 λy H2=>tx σ H2 λz H3=>∃o,u9 H3 a y o/\Q (o.getD z) H3
def Fn(td ty:TE):TE:=λσ H Q=>td σ H λx H1=>∃a,x=.ref a/\J6 H1 a/\ty σ H1 λy H2=>∃kvs k v,H2 a=zS (.dK kvs)/\y=kV k/\aI kvs k=zS v/\Q v (upd H2 a (.dK (cE kvs k)))
def pI(td ty tx:TE):TE:=λσ H Q=>td σ H λx H1=>∃a,x=.ref a/\J6 H1 a/\ty σ H1 λy H2=>tx σ H2 λz H3=>∃kvs k,H3 a=zS (.dK kvs)/\y=kV k/\
 (∀v,aI kvs k=zS v->Q v (upd H3 a (.dK (cE kvs k))))/\(aI kvs k=zN->Q z H3)
section
variable{X:Cx}{o e f:Expr}{apos cpos:Pos}{td ty tx:TE}
def J7(hu:X.A.units+1<cLine)(ho:PE X o td)(he:PE X e ty)(hf:PE X f tx)(m:M2 X o "get" apos e f cpos):PE X (.Call (.Attribute o "get" apos) [e,f] [] cpos) (Fm td ty tx):=by
 intro π s σ H Q I h;refine aaK m.base m.OB m.line UO W5 PySem.F.type_dict_get (du (ho π s σ H _ I h) λu s1⟨x,H1,I1,rx,a,ex,d,q1⟩=>?_);subst ex;obtain rfl:u=RF a:=rx;let⟨t1,t2,_⟩:=x9 I1 d;refine⟨t1,t2,?_⟩;rw[m.trees]
 refine TV rfl (UJ (Tw (du (he π s1 σ H1 _ I1 q1) λiv s2⟨y,H2,I2,ry,q2⟩=>
  Tw (du (hf π s2 σ H2 _ I2 q2) λfv s3⟨z,H3,I3,rz,ov,g,q3⟩=>UH ?_))))
 exact NW hu I3 g ry rz λw' s4 I4 rw'=>⟨_,H3,I4,rw',q3⟩
def J8(ho:PE X o td)(he:PE X e ty)(m:M1 X o "pop" apos e cpos):PE X (.Call (.Attribute o "pop" apos) [e] [] cpos) (Fn td ty):=by intro π s σ H Q I h;refine aaK m.base m.OB m.line UO VW Yq (du (ho π s σ H _ I h) λu s1⟨x,H1,I1,rx,a,ex,d,q1⟩=>?_);subst ex;obtain rfl:u=RF a:=rx;let⟨t1,t2,_⟩:=x9 I1 d;refine⟨t1,t2,?_⟩;rw[m.trees];refine TV rfl (UJ (Tw (du (he π s1 σ H1 _ I1 q1) λiv s2⟨y,H2,I2,ry,kvs,k,v,ea,ey,l,q2⟩=>UH ?_)));subst ey;exact MO I2 ea ry l (.inl rfl) λw' s3 I3 rw'=>⟨v,_,I3,rw',q2⟩
def uc(ho:PE X o td)(he:PE X e ty)(hf:PE X f tx)(m:M2 X o "pop" apos e f cpos):PE X (.Call (.Attribute o "pop" apos) [e,f] [] cpos) (pI td ty tx):=by
 intro π s σ H Q I h;refine aaK m.base m.OB m.line UO VW Yq (du (ho π s σ H _ I h) λu s1⟨x,H1,I1,rx,a,ex,d,q1⟩=>?_);subst ex;obtain rfl:u=RF a:=rx;let⟨t1,t2,_⟩:=x9 I1 d;refine⟨t1,t2,?_⟩;rw[m.trees]
 refine TV rfl (UJ (Tw (du (he π s1 σ H1 _ I1 q1) λiv s2⟨y,H2,I2,ry,q2⟩=>
  Tw (du (hf π s2 σ H2 _ I2 q2) λfv s3⟨z,H3,I3,rz,kvs,k,ea,ey,q3,q4⟩=>UH ?_))))
 subst ey
 cases l:aI kvs k with
 |some v=>exact MO I3 ea ry l (.inr ⟨fv,rfl⟩) λw' s4 I4 rw'=>⟨v,_,I4,rw',q3 v l⟩
 |none=>exact NU I3 ea ry l λs4 I4=>⟨z,H3,I4,rz,q4 l⟩
end
section
variable{X:Cx}{π:List (Addr×Obj)}{σ:St}{H:Hp}{s:ZW}{a:Addr}{kvs:List (Key×V)}{A:ZZ}{E:Value->ZW->Prop}
def J9(I:Inv X π σ H s)(e:Rd H a (.dK kvs))(h:∀p s',H p=zN->Inv X π σ (upd H p (.dK kvs)) s'->Q (.ref p) s'):wpAny (model X.prog X.w) A (call (.type "dict") [.ref a]) Q E s:=by let⟨z,hd,vs,rel,dd⟩:=mF I.cA e;refine kt_call_dict hd dd (by rw[<-rel.length];exact z) λh' dd' hs=>?_;refine h _ _ (I.cA.fresh (Ro _)) (I.laid (a:=s.heap.objs.size) (o:=.dK kvs) (t':=s.toks) (λb q hq=>?_) (Ro _) (x8 z (beq_eq_false_iff_ne.mpr (SY (Sd I.big))) rel dd'));exact(hs.2 b (Sd (Rw hq))).trans (Rt _ hq)
end
def x_:aae "reversed"=zS (.type "reversed"):=by decide+kernel
variable{d:Addr}{u:HO}{ch:List Addr}{t':Nat}{od:Obj}
section
variable{X:Cx}{π:List (Addr×Obj)}{σ:St}{H:Hp}{s:ZW}{h':Heap}
def Inv.B1(I:Inv X π σ H s)(k:∀b o,b∉ch->s.heap.get? b=zS o->h'.get? b=zS o)(hf:∀b∈ch,wA X π H b):Inv X π σ H {s with heap:=h',toks:=t'}:=by
 have nit:∀b u,H b=zS u->b∉ch:=λb u e z=>by have q:=(hf b z).1;rw[q]at e;cases e
 refine I.step (g':=s.gens) (d':=s.drawn) (ch:=ch) (λb hb=>⟨(hf b hb).2.2.2.1,(hf b hb).2.1,(hf b hb).2.2.2.2.1,(hf b hb).2.2.2.2.2⟩) (λb o _ _ hc e _=>k b o hc e) (λb o _ _ hc e _=>⟨o.slots,k b o hc e⟩)
  (λ_ _ _ _ n=>n) (λb o hc e=>⟨o,k b o hc e⟩) (λ_ _ e=>e) (λ_ _ _ e=>e) (λb ps e=>⟨#[],by rw[e];simp⟩) (λm hm=>?_) (λb u e=>?_) I.bare
 .let⟨o,es,ep,ho,r⟩:=hm;exact⟨o,es,ep,k _ o (λz=>(hf _ z).2.1 rfl) ho,r⟩
 .refine(I.cA b u e).uZ (λc v hc q=>k c v ?_ q) (λ_ q=>q) λ_ _ q=>q;obtain z|z:=hc
  .rw[z];exact nit b u e
  .exact nit c _ z
def Inv.mH{T:Addr}{ob:HO}(I:Inv X π σ H s)(k:∀b o,b∉ch->s.heap.get? b=zS o->h'.get? b=zS o)(hf:∀b∈ch,wA X π H b)(hT:s.heap.objs.size<=T)(new:dz X.prog X.w (upd H T ob) h' T ob):Inv X π σ (upd H T ob) {s with heap:=h',toks:=t'}:=by
 have hn:H T=zN:=I.cA.fresh hT;have nit:∀b u,H b=zS u->b∉ch:=λb u e z=>by have q:=(hf b z).1;rw[q]at e;cases e
 refine I.step (g':=s.gens) (d':=s.drawn) (ch:=ch) (λb hb=>⟨(hf b hb).2.2.2.1,(hf b hb).2.1,(hf b hb).2.2.2.2.1,(hf b hb).2.2.2.2.2⟩) (λb o _ _ hc e _=>k b o hc e) (λb o _ _ hc e _=>⟨o.slots,k b o hc e⟩)
  (λb o _ e n=>?_) (λb o hc e=>⟨o,k b o hc e⟩) (λb xs e=>?_) (λb o u e=>?_) (λb ps e=>⟨#[],?_⟩) (λm hm=>?_) (λb u e=>?_) I.bare
 .rw[ab (Sd (Sw (Rw e) hT))];exact n
 .rw[ab (ay e hn)];exact e
 .rw[ab (ay e hn)];exact e
 .rw[ab (ay e hn),e];simp
 .let⟨o,es,ep,ho,r⟩:=hm;exact⟨o,es,ep,k _ o (λz=>(hf _ z).2.1 rfl) ho,r⟩
 .by_cases hb:b=T
  .subst hb;rw[aa]at e;cases e;exact new
  .rw[ab hb]at e;refine(I.cA b u e).uZ (λc v hc q=>k c v ?_ q) (λc q=>by rw[ab (ay q hn)];exact q) λc xs q=>by rw[ab (ay q hn)];exact q
   obtain z|z:=hc
   .rw[z];exact nit b u e
   .exact nit c _ z
def Inv.lock(I:Inv X π σ H s)(h:H d=zS u)(mu:JC (zS u)):∃od,Inv X π σ (upd H d (.fg od u)) s:=by
 have x:=I.cA d u h;have ex:∃od,s.heap.get? d=zS od:=by
  cases u with
  |lst xs=>let⟨_,_,_,_,e⟩:=x;exact⟨_,e⟩
  |dK kvs=>let⟨_,_,_,_,o,_,_,e,_⟩:=x;exact⟨o,e⟩
  |dT kvs=>let⟨_,_,_,_,o,_,_,e,_⟩:=x;exact⟨o,e⟩
  |dN kvs=>let⟨_,_,_,_,o,_,_,e,_⟩:=x;exact⟨o,e⟩
  |set S n=>let⟨o,_,_,_,e,_⟩:=x;exact⟨o,e⟩
  |ins C dx fs=>let⟨_,_,_,e,_⟩:=x;exact⟨_,e⟩
  |ext φ=>let⟨_,⟨_,e⟩,_⟩:=x;exact⟨_,e⟩
  |_=>exact False.elim mu
 let⟨od,e⟩:=ex;have new:dz X.prog X.w (upd H d (.fg od u)) s.heap d (.fg od u):=by
  refine⟨e,x.uZ (λb v _ q=>q) (λb q=>?_) λb xs q=>?_⟩
  .rw[ab (λz=>by rw[z,h]at q;cases q;exact mu)];exact q
  .rw[ab (λz=>by rw[z,h]at q;cases q;exact mu)];exact q
 exact⟨od,I.write (x:=d) (e:=d) (t':=s.toks) (h':=s.heap) (by rw[h];exact mu) (.inl rfl) (λb v _ q=>q) ⟨od,e⟩ new⟩
def Inv.DB(I:Inv X π σ H s)(h:H d=zS u)(mu:JC (zS u)):∀o' u',X.Nq d≠zS (.fg o' u'):=λo' u' e=>by have q:=I.base.xS d o' u' e;rw[h]at q;cases q;exact mu
def Inv.unlock(I:Inv X π σ H s)(h:H d=zS (.fg od u))(hn:∀o' u',X.Nq d≠zS (.fg o' u')):Inv X π σ (upd H d u) s:=by
 have neH:∀b o,H b=zS o->(∀o' u',o≠.fg o' u')->b≠d:=λb o e hne z=>by rw[z,h]at e;cases e;exact hne _ _ rfl
 have neN:∀b,H b=zN->b≠d:=λb e z=>by rw[z,h]at e;cases e
 refine⟨I.ok,I.os,I.bare,⟨I.base.keep,I.base.slot,λb o e n hx=>?_,I.base.there,λb xs e=>?_,λb o x e=>?_,λb ps e=>?_⟩,I.loc,I.cell,?_,λx c e=>?_,λp hp=>?_,λb o e=>?_,I.len⟩
 .rw[ab (neN b (I.base.free b o e n hx))];exact I.base.free b o e n hx
 .have q:=I.base.BO b xs e;rw[ab (neH b _ q (λ_ _ z=>nomatch z))];exact q
 .have q:=I.base.xS b o x e;rw[ab (λz=>by rw[z]at e;exact hn _ _ e)];exact q
 .let⟨m,q⟩:=I.base.BP b ps e;exact⟨m,by rw[ab (neH b _ q (λ_ _ z=>nomatch z))];exact q⟩
 .rw[ab (neN _ I.free)];exact I.free
 .rw[ab (neN c (I.my x c e))];exact I.my x c e
 .let⟨e,n,r⟩:=I.pin p hp;exact⟨e,by rw[ab (neN _ n)];exact n,r⟩
 .by_cases hb:b=d
  .rw[hb,aa]at e;cases e;rw[hb];let⟨_,x⟩:=I.cA d _ h;exact x.uZ (λc v _ q=>q) (λc q=>by rw[ab (neH c _ q (λ_ _ z=>nomatch z))];exact q) λc xs q=>by rw[ab (neH c _ q (λ_ _ z=>nomatch z))];exact q
  .rw[ab hb]at e;exact(I.cA b o e).uZ (λc v _ q=>q) (λc q=>by rw[ab (neH c _ q (λ_ _ z=>nomatch z))];exact q) λc xs q=>by rw[ab (neH c _ q (λ_ _ z=>nomatch z))];exact q
end
def iN(t:TS):TS:=λD σ H=>∃d u,H d=zS u/\JC (zS u)/\∀od,t ⟨λσ' H'=>H' d=zS (.fg od u)/\D.nx σ' (upd H' d u),λv H'=>H' d=zS (.fg od u)/\D.rt v (upd H' d u),λσ' H'=>H' d=zS (.fg od u)/\D.bk σ' (upd H' d u),λσ' H'=>H' d=zS (.fg od u)/\D.ct σ' (upd H' d u)⟩ σ (upd H d (.fg od u))
def Fo(t:TE):TE:=λσ H Q=>∃d u,H d=zS u/\JC (zS u)/\∀od,t σ (upd H d (.fg od u)) λv H'=>H' d=zS (.fg od u)/\Q v (upd H' d u)
variable{e tg:Expr}
section
variable{X:Cx}
def gL{st:Stmt}{t:TS}(h:PS X st t):PS X st (iN t):=by
 intro π s σ H D I hw;let⟨d,u,hd,mu,hw⟩:=hw;let⟨od,I1⟩:=I.lock hd mu;refine du (h π s σ _ _ I1 (hw od)) λf s1 q=>?_
 cases f with
 |next=>let⟨σ',H',I2,e,q⟩:=q;exact⟨σ',_,I2.unlock e (I.DB hd mu),q⟩
 |brk=>let⟨σ',H',I2,e,q⟩:=q;exact⟨σ',_,I2.unlock e (I.DB hd mu),q⟩
 |cont=>let⟨σ',H',I2,e,q⟩:=q;exact⟨σ',_,I2.unlock e (I.DB hd mu),q⟩
 |ret v=>let⟨x,σ',H',I2,r,e,q⟩:=q;exact⟨x,σ',_,I2.unlock e (I.DB hd mu),r,q⟩
def LW{t:TE}(h:PE X e t):PE X e (Fo t):=by intro π s σ H Q I hw;let⟨d,u,hd,mu,hw⟩:=hw;let⟨od,I1⟩:=I.lock hd mu;refine du (h π s σ _ _ I1 (hw od)) λv s1⟨x,H1,I2,r,e2,q⟩=>?_;exact⟨x,_,I2.unlock e2 (I.DB hd mu),r,q⟩
def ya{π:List (Addr×Obj)}{σ:St}{H:Hp}{s:ZW}{R:It->Hp->Prop}{J:It}{tn:Nat->Heap->Prop}{tk:Nat}(I:Inv X π σ H s)(o:Obj)(T:Turn X.prog X.w X.K tg J [s.heap.objs.size] s.heap.objs.size tn)(st:tn 0 (s.heap.push o))(q:R J H):O1 X π σ tg R (.ref s.heap.objs.size) {s with heap:=s.heap.push o,toks:=tk}:=by
 refine⟨s.heap.objs.size,[s.heap.objs.size],tn,J,H,rfl,I.kept λb ob e=>Rt _ e,T,st,λb hb=>?_,q⟩;have e:b=s.heap.objs.size:=by simpa using hb
 subst e;exact I.Dk (Ro _) (I.cA.fresh (Ro _))
end
def QI(K:Rl)(a:Addr)(n:Nat):It:=
 ⟨λi H=>i<n/\∃(xs:List V)(x:V),cD K H a xs/\xs[n-1-i]?=zS x,λi H x H'=>H'=H/\∀xs,cD K H a xs->xs[n-1-i]?=zS x,λi _=>n<=i⟩
variable{P:ZV}{w:World}
def J_{K:Rl}(a it:Addr)(n:Nat):Turn P w K tg (QI K a n) [it] it (λi h=>i<=n/\h.IsRevIter it a ((n:Int)-1-(i:Nat)))where
 mem:=by simp
 obj:=λi h st b hb=>by
  have e:b=it:=by simpa using hb
  subst e;let⟨_,o,e,c,d⟩:=st;exact⟨o,e,λv z=>by rw[d]at z;cases z⟩
 keep:=λi h h' st k=>⟨st.1,st.2.at λo e=>k it (by simp) o e⟩
 item:=by
  intro X hP hw hK hc i π s σ H E I hf st hg;subst hP hw hK;let⟨hin,xs,x,hq,hx⟩:=hg;let⟨aR,rv,p,hz⟩:=I.list hq;let⟨u,hu,ru⟩:=rv.get hx;let⟨f0,f1,f2,f3,f4,f5⟩:=hf it (by simp);let⟨_,hit⟩:=st;have e1:(n:Int)-1-((i:Nat):Int)=((n-1-i:Nat):Int):=by omega
  rw[e1]at hit;refine wpAny_pyNext_rev_item hit p.isList (x:=u) (by simpa using hu) λh' st' sb=>?_;have e2:((n-1-i:Nat):Int)-1=(n:Int)-1-((i+1:Nat):Int):=by omega
  rw[e2]at st';have I1:Inv X π σ H {s with heap:=h'}:=I.turned (t':=s.toks) (λb o hb e=>(sb.2 b hb).trans e) f0 f1 f3 f4 f5;let⟨o,e,c,d⟩:=id st';exact⟨u,rfl,AV (s:={s with heap:=h'}) e c d (by decide) ⟨x,H,I1,ru,⟨rfl,λys hy=>by rw[I.iI hy hq];exact hx⟩,⟨hin,st'⟩,λb hb=>(hf b hb).1⟩⟩
 done:=by
  intro X hP hw hK hc i π s σ H E I hf st hg;subst hP hw hK;let⟨f0,f1,f2,f3,f4,f5⟩:=hf it (by simp);let⟨hin,hit⟩:=st;have hge:n<=i:=hg;have e1:(n:Int)-1-((i:Nat):Int)= -1:=by omega
  rw[e1]at hit;exact wpAny_pyNext_rev_end (I.ok.hd hc) hit λh' eb=>⟨rfl,I.turned (t':=s.toks) (λb o hb e=>eb b o hb e) f0 f1 f3 f4 f5⟩
 self:=λA i s Q E st h=>wpAny_pyIter_revIter st.2 h
def LX(K:Rl)(ta:TA):TI:=λσ H R=>ta σ H λvs H1=>∃(a:Addr)(xs:List V),vs=[.ref a]/\cD K H1 a xs/\R (QI K a xs.length) H1
variable{p pos:Pos}{ta:TA}
section
variable{X:Cx}{tg:Expr}
def vX(hg:Gl X "reversed")(hm:X.mg "reversed"=zN)(ha:PA X [e] ta)(hs:aag [e] X.env=[(false,eval e X.env)]:=by rfl):PI X tg (.Call (.Name "reversed" p) [e] [] pos) (LX X.K ta):=by
 intro π s σ H R I h;refine Call_ (nh I hg hm x_ (TR (du (ha pos π s σ H _ I h) λus s1⟨vs,H1,I1,r1,q1⟩=>?_) hs rfl));let⟨a,xs,e,hq,q⟩:=q1;subst e
 cases r1 with
 |cons r rr=>
  cases rr;cases r;let⟨aR,rv,p',hz⟩:=I1.list hq;have hl:=rv.length;have e1:((aR.toArray.size:Nat):Int)-1=(xs.length:Int)-1-((0:Nat):Int):=by simp only[RT];omega
  refine call_reversed_list p'.isList (wpAny_pyIter_revIter (l:=a) (i:=((aR.toArray.size:Nat):Int)-1) ⟨_,RN _ rfl,rfl,rfl⟩ ?_);refine ya (tk:=s1.toks) I1 _ (J_ a _ xs.length) ⟨SO _,?_⟩ q;rw[<-e1];exact⟨_,RN _ rfl,rfl,rfl⟩
end
variable{it:Addr}{es:Array aaL}{ep i n:Nat}{o:Obj}{Q:Option Value->ZW->Prop}
section
variable{prog:ZV}{w:World}{A:ZZ}{E:Value->ZW->Prop}{s:ZW}
def A7{Q:Value->ZW->Prop}(hd:(d==aad)=false)(ho:s.heap.get? d=zS o)(hc:o.ExactDict)(hdat:o.data=.dict es ep)(hQ:Q (.ref s.heap.objs.size) {s with heap:=s.heap.push {cls:=.type "dict_keyiterator",data:=.fields #[.ref d,.int 0 0,.int es.size 0,.int ep 0]}}):wpAny (model prog w) A (pyIter (.ref d)) Q E s:=by have hT:s.TypeIs (.ref d) "dict":=⟨o,ho,hc.1⟩;refine wpAny_pyIter_slot hT Yr (Z3 Yr hT F.entry_dict_iter ?_ (F.args_dict_iter_1 _));unfold Z7.«dict.__iter__»;refine Z0 ?_;unfold ZR;refine Z0 (wpAny_notOrdered_dict hT ?_);show wpAny _ _ (pure (RF d)) _ _ s;refine Z5 ?_;show wpAny _ _ (Ys d>>=_) _ _ s;unfold Ys;rw[ae (by rw[hd];exact R5)];refine Z0 (Z5 ?_);refine Z0 (aaM ho hdat ?_);refine Z0 (wpAny_dictEpoch ho hdat ?_);refine Z0 (aaH (Z5 ⟨_,rfl,"dict_keyiterator",_,⟨_,RN _ rfl,rfl⟩,UP.lookup,?_⟩));simpa [aaq]using hQ
def zH{en:aaL}(hit:s.heap.IsKeyIter it d i n ep)(hod:s.heap.get? d=zS od)(hdd:od.data=.dict es ep)(hsz:es.size=n)(hx:es[i]?=zS en)(hQ:∀h',h'.IsKeyIter it d (i+1) n ep->Tu it s.heap h'->Q (zS en.key) {s with heap:=h'}):wpAny (model prog w) A (aao (.ref it)) Q E s:=by
 let⟨o,ho,hc,hd⟩:=id hit;unfold aao
 refine Z0 (aaN (aaO (name:=Up "__next__") hit.typeIs UP
  (Z3 UP hit.typeIs Yt ?_ (Yu _))))
 refine Z0 (Z5 ?_);refine Z0 ?_;refine Z0 ?_
 first|refine Z0 (aaP hit.typeIs (Z5 ?_))|refine Z0 (aaQ hit.typeIs (Z5 ?_))
 refine Z0 (wpAny_fieldsOf ho hd ?_);have hown:Yv "dict_keyiterator"=false:=by decide
 simp only[hown,RJ,if_false];show wpAny _ _ (if(RF d==S8)=true then _ else _) _ _ s;rw[ae (show¬((RF d==S8)=true)from R5)];refine Z0 (Z5 ?_);refine Z0 (aaM hod hdd ?_);rw[ae (by rw[hsz];simp)];refine Z0 (Z5 ?_);refine Z0 (wpAny_dictEpoch hod hdd ?_);rw[ae (by simp)];refine Z5 ?_;let⟨hlt',hen⟩:=Array.getElem?_eq_some_iff.mp hx;simp only[show¬((i:Int)<0)from by omega,if_false,Sg,Array.getElem?_eq_getElem hlt'];refine Z0 ?_
 first|refine Z0 (aaP hit.typeIs (Z5 ?_))|refine Z0 (aaQ hit.typeIs (Z5 ?_))
 refine Z0 (wpAny_isOneOf_keyiter hit.typeIs ?_);show wpAny _ _ (setField (.ref it) 1 (aaq ((i:Int)+1))>>=_) _ _ s;refine Z0 (wpAny_setField ho hd (by simp) ?_)
 have hit':(s.heap.update it (Yw (·.setIfInBounds 1 (aaq ((i:Int)+1))))).IsKeyIter it d (i+1) n ep:=
  ⟨_,Vk _ ho (Yx (VX hd _)),(Yy ..).trans hc,by rw[VX hd];simp[aaq]⟩
 refine Z0 (Z_ ?_);refine Z0 (wpAny_isOneOf_keyiter (s:={s with heap:=s.heap.update it (Yw (·.setIfInBounds 1 (aaq ((i:Int)+1))))}) hit'.typeIs ?_);show wpAny _ _ (pure es[i].key) _ _ _;rw[hen];exact Z5 (Z5 ⟨_,rfl,Z5 (hQ _ hit' (UQ ..))⟩)
def ud(hh:A.handled=zN)(hit:s.heap.IsKeyIter it d i n ep)(hod:s.heap.get? d=zS od)(hdd:od.data=.dict es ep)(hsz:es.size=n)(hge:n<=i)(hQ:∀h',Heap.ExtBut it s.heap h'->Q zN {s with heap:=h'}):wpAny (model prog w) A (aao (.ref it)) Q E s:=by
 let⟨o,ho,hc,hd⟩:=id hit;unfold aao
 refine Z0 (aaN (aaO (name:=Up "__next__") hit.typeIs UP
  (Z3 UP hit.typeIs Yt ?_ (Yu _))))
 refine Z0 (Z5 ?_);refine Z0 ?_;refine Z0 ?_
 first|refine Z0 (aaP hit.typeIs (Z5 ?_))|refine Z0 (aaQ hit.typeIs (Z5 ?_))
 refine Z0 (wpAny_fieldsOf ho hd ?_);have hown:Yv "dict_keyiterator"=false:=by decide
 simp only[hown,RJ,if_false];show wpAny _ _ (if(RF d==S8)=true then _ else _) _ _ s;rw[ae (show¬((RF d==S8)=true)from R5)];refine Z0 (Z5 ?_);refine Z0 (aaM hod hdd ?_);rw[ae (by rw[hsz];simp)];refine Z0 (Z5 ?_);refine Z0 (wpAny_dictEpoch hod hdd ?_);rw[ae (by simp)];refine Z5 ?_;have hge':es.size<=i:=by rw[hsz];exact hge
 simp only[show¬((i:Int)<0)from by omega,if_false,Sg,Array.getElem?_eq_none hge'];refine Z0 ?_
 first|refine Z0 (aaP hit.typeIs (Z5 ?_))|refine Z0 (aaQ hit.typeIs (Z5 ?_))
 show wpAny _ _ (setField (.ref it) 0 .none>>=_) _ _ s;refine Z0 (wpAny_setField ho hd (by simp) ?_);show wpAny _ _ (newExc (.type "StopIteration") []>>=_) _ _ _;refine Z0 ?_;simp only[newExc,newTuple];refine Z0 (aaH ?_ (by size_fits));refine Z0 (m:=firstArgMember _ _) (wpAny_of_eq (a:=S8) (by first|rfl|(simp only[firstArgMember];rfl)) ?_);refine aaH ?_ (by size_fits);simp only[raiseNew];refine Z0 (wpAny_handled ?_);rw[show A.in1.handled=zN from hh];refine Z0 (Z5 (wpAny_throw ?_));refine Z0 (Z8 (T:="StopIteration") (b:=true) ⟨_,RN _ rfl,rfl⟩ isSubtype_stop ?_);exact Z5 (hQ _ (((UQ ..).extBut.push _).push _))
end
def Fp{κ:Type}{kvs:List (κ×V)}{vs:List (κ×Value)}(h:KV kvs vs):∀{i:Nat}{k:κ}{v:V},kvs[i]?=zS (k,v)->∃u,vs[i]?=zS (k,u)/\RelV v u:=by
 unfold KV at h
 induction h with
 |nil=>intro i k v e;simp at e
 | @cons a b l₁ l₂ r t ih=>
  intro i k v e
  cases i with
  |zero=>
   simp only[RZ,RU]at e;subst e;refine⟨b.2,?_,r.2⟩;simp only[RZ];exact congrArg zS (VA r.1.symm rfl)
  |succ j=>
   simp only[R4]at e⊢;exact ih e
def Fq{α β:Type}{G:α->β->Prop}{l₁:List α}{l₂:List β}(h:Paired G l₁ l₂):∀{i:Nat}{a:α},l₁[i]?=zS a->∃b,l₂[i]?=zS b/\G a b:=by
 induction h with
 |nil=>intro i a e;simp at e
 | @cons a b l₁ l₂ r t ih=>
  intro i a' e
  cases i with
  |zero=>
   simp only[RZ,RU]at e;subst e;exact⟨b,rfl,r⟩
  |succ j=>
   simp only[R4]at e⊢;exact ih e
def DC{k:Key}{u:Value}(h:rG k u=true):RelV (kV k) u:=by
 obtain⟨i,t,rfl,rfl⟩|⟨x,t,rfl,rfl⟩:=dJ h
 .exact⟨t,rfl⟩
 .exact⟨t,rfl⟩
variable{kvs:List (Key×V)}
section
variable{X:Cx}{π:List (Addr×Obj)}{σ:St}{H:Hp}{s:ZW}{d:Addr}{o:Obj}
def Inv.B2(I:Inv X π σ H s)(h:H d=zS (.fg o (.dK kvs))):(d==aad)=false/\s.heap.get? d=zS o/\o.ExactDict/\∃(es:Array aaL)(ep:Nat)(vs:List (Key×Value)),o.data=.dict es ep/\es.size=kvs.length/\KV kvs vs/\s.heap.DictAt (cB X.prog X.w) d vs ep:=by let⟨hd,z,hs,vs,kv,o',es,ep,ho,hx,hdt,r⟩:=I.cA d _ h;rw[hd]at ho;cases ho;refine⟨hs,hd,hx,es,ep,vs,hdt,?_,kv,o,es,hd,hx,hdt,r⟩;have l1:=r.2.1.length;have l2:kvs.length=vs.length:=Sv kv;rw[SJ]at l1;omega
def Inv.NX{kvs:List (List Key×V)}(I:Inv X π σ H s)(h:H d=zS (.fg o (.dT kvs))):(d==aad)=false/\s.heap.get? d=zS o/\o.ExactDict/\∃(es:Array aaL)(ep:Nat),o.data=.dict es ep/\es.size=kvs.length/\∀(i:Nat)(k:List Key)(v:V),kvs[i]?=zS (k,v)->∃(en:aaL)(q:Addr),es[i]?=zS en/\en.key=.ref q/\H q=zS (.tup (k.map kV)):=by
 let⟨hd,z,hs,xs,pr,o',es,ep,ho,hx,hdt,he,_⟩:=I.cA d _ h;rw[hd]at ho;cases ho;refine⟨hs,hd,hx,es,ep,hdt,?_,λi k v e=>?_⟩
 .have l1:es.size=xs.length:=size_of_entries he;have l2:kvs.length=xs.length:=Sv pr;omega
 .let⟨b,hb,e1,e2,_⟩:=Fq pr e;have q:=entry_at he i;rw[hb]at q;exact⟨_,b.2.1,q,rfl,e2⟩
end
def QJ(d:Addr)(o:Obj)(kvs:List (Key×V)):It:=
 ⟨λi H=>H d=zS (.fg o (.dK kvs))/\i<kvs.length,λi H x H'=>H'=H/\∃k v,kvs[i]?=zS (k,v)/\x=kV k,λi H=>H d=zS (.fg o (.dK kvs))/\kvs.length<=i⟩
def Pb(d:Addr)(o:Obj)(kvs:List (List Key×V)):It:=
 ⟨λi H=>H d=zS (.fg o (.dT kvs))/\i<kvs.length,λi H x H'=>H'=H/\∃(k:List Key)(v:V)(q:Addr),kvs[i]?=zS (k,v)/\x=.ref q/\H q=zS (.tup (k.map kV)),λi H=>H d=zS (.fg o (.dT kvs))/\kvs.length<=i⟩
def Q9(d:Addr)(o:Obj)(kvs:List (Key×V)):It:=
 ⟨λi H=>H d=zS (.fg o (.dK kvs))/\i<kvs.length,λi H x H'=>H'=H/\∃k,kvs[i]?=zS (k,x),λi H=>H d=zS (.fg o (.dK kvs))/\kvs.length<=i⟩
def Pc(d:Addr)(o:Obj)(kvs:List (Key×V)):It:=
 ⟨λi H=>H d=zS (.fg o (.dK kvs))/\i<kvs.length,λi H x H'=>∃T k v,kvs[i]?=zS (k,v)/\x=.ref T/\H T=zN/\H'=upd H T (.tup [kV k,v]),λi H=>H d=zS (.fg o (.dK kvs))/\kvs.length<=i⟩
def lG{es':Array aaL}{ep':Nat}(h:o.data=.dict es ep)(h':o.data=.dict es' ep'):es'=es/\ep'=ep:=by rw[h]at h';cases h';exact⟨rfl,rfl⟩
variable{elts:List Expr}{kk:Nat}{tpos:Pos}
section
variable{P:ZV}{w:World}{K:Rl}{tg:Expr}{d:Addr}{o:Obj}{es:Array aaL}{ep:Nat}
def HZ(it:Addr)(hod:o.data=.dict es ep):Turn P w K tg (QJ d o kvs) [it] it (λi h=>h.IsKeyIter it d i kvs.length ep)where
 mem:=by simp
 obj:=λi h st b hb=>by
  have e:b=it:=by simpa using hb
  subst e;let⟨oi,e,c,dd⟩:=st;exact⟨oi,e,λv z=>by rw[dd]at z;cases z⟩
 keep:=λi h h' st k=>st.at λoi e=>k it (by simp) oi e
 item:=by intro X hP hw hK hc i π s σ H E I hf st hg;subst hP hw hK;let⟨hd,hi⟩:=hg;let⟨f0,f1,f2,f3,f4,f5⟩:=hf it (by simp);let⟨hs,hgd,hx,es',ep',vs,hdt,hsz,kv,hm⟩:=I.B2 hd;let⟨rfl,rfl⟩:=lG hod hdt;obtain⟨⟨k,v⟩,fK⟩:∃p,kvs[i]?=zS p:=⟨kvs[i],RC hi⟩;let⟨u,hu,ru⟩:=Fp kv fK;have hl:kvs.length=vs.length:=Sv kv;rw[hl]at st;refine wpAny_pyNext_dict_item st hm hu λkey h' hkey st' sb=>?_;have I1:Inv X π σ H {s with heap:=h'}:=I.turned (t':=s.toks) (λb ob hb e=>(sb.2 b hb).trans e) f0 f1 f3 f4 f5;let⟨oi,e,c,dd⟩:=id st';refine⟨key,rfl,AV (s:={s with heap:=h'}) e c dd (by decide) ⟨kV k,H,I1,DC (show rG k key=true from hkey),⟨rfl,k,v,fK,rfl⟩,?_,λb hb=>(hf b hb).1⟩⟩;show h'.IsKeyIter it d (i+1) kvs.length _;rw[hl];exact st'
 done:=by intro X hP hw hK hc i π s σ H E I hf st hg;subst hP hw hK;let⟨hd,hi⟩:=hg;let⟨f0,f1,f2,f3,f4,f5⟩:=hf it (by simp);let⟨hs,hgd,hx,es',ep',vs,hdt,hsz,kv,hm⟩:=I.B2 hd;let⟨rfl,rfl⟩:=lG hod hdt;exact ud (I.ok.hd hc) st hgd hdt hsz hi λh' eb=>⟨rfl,I.turned (t':=s.toks) (λb ob hb e=>eb b ob hb e) f0 f1 f3 f4 f5⟩
 self:=λA i s Q E st h=>wpAny_pyIter_keyiter st h
def Fs{kvs:List (List Key×V)}(it:Addr)(hod:o.data=.dict es ep):Turn P w K tg (Pb d o kvs) [it] it (λi h=>h.IsKeyIter it d i kvs.length ep)where
 mem:=by simp
 obj:=λi h st b hb=>by
  have e:b=it:=by simpa using hb
  subst e;let⟨oi,e,c,dd⟩:=st;exact⟨oi,e,λv z=>by rw[dd]at z;cases z⟩
 keep:=λi h h' st k=>st.at λoi e=>k it (by simp) oi e
 item:=by intro X hP hw hK hc i π s σ H E I hf st hg;subst hP hw hK;let⟨hd,hi⟩:=hg;let⟨f0,f1,f2,f3,f4,f5⟩:=hf it (by simp);let⟨hs,hgd,hx,es',ep',hdt,hsz,ent⟩:=I.NX hd;let⟨rfl,rfl⟩:=lG hod hdt;obtain⟨⟨k,v⟩,fK⟩:∃p,kvs[i]?=zS p:=⟨kvs[i],RC hi⟩;let⟨en,q,hen,hkey,hq⟩:=ent i k v fK;refine zH st hgd hdt hsz hen λh' st' sb=>?_;have I1:Inv X π σ H {s with heap:=h'}:=I.turned (t':=s.toks) (λb ob hb e=>(sb.2 b hb).trans e) f0 f1 f3 f4 f5;let⟨oi,e,c,dd⟩:=id st';exact⟨en.key,rfl,AV (s:={s with heap:=h'}) e c dd (by decide) ⟨.ref q,H,I1,hkey,⟨rfl,k,v,q,fK,rfl,hq⟩,st',λb hb=>(hf b hb).1⟩⟩
 done:=by intro X hP hw hK hc i π s σ H E I hf st hg;subst hP hw hK;let⟨hd,hi⟩:=hg;let⟨f0,f1,f2,f3,f4,f5⟩:=hf it (by simp);let⟨hs,hgd,hx,es',ep',hdt,hsz,ent⟩:=I.NX hd;let⟨rfl,rfl⟩:=lG hod hdt;exact ud (I.ok.hd hc) st hgd hdt hsz hi λh' eb=>⟨rfl,I.turned (t':=s.toks) (λb ob hb e=>eb b ob hb e) f0 f1 f3 f4 f5⟩
 self:=λA i s Q E st h=>by refine wpAny_pyIter_slot st.typeIs Yz (Z3 Yz st.typeIs F.entry_dict_keyiterator_iter ?_ (F.args_dict_keyiterator_iter_1 _));show wpAny _ _ (ret (.ref it)) _ _ s;exact Z5 ⟨_,rfl,"dict_keyiterator",_,st.typeIs,UP.lookup,h⟩
def H_(it:Addr)(hod:o.data=.dict es ep):Turn P w K tg (Q9 d o kvs) [it] it (λi h=>h.IsValIter it d i kvs.length ep)where
 mem:=by simp
 obj:=λi h st b hb=>by
  have e:b=it:=by simpa using hb
  subst e;let⟨oi,e,c,dd⟩:=st;exact⟨oi,e,λv z=>by rw[dd]at z;cases z⟩
 keep:=λi h h' st k=>st.at λoi e=>k it (by simp) oi e
 item:=by intro X hP hw hK hc i π s σ H E I hf st hg;subst hP hw hK;let⟨hd,hi⟩:=hg;let⟨f0,f1,f2,f3,f4,f5⟩:=hf it (by simp);let⟨hs,hgd,hx,es',ep',vs,hdt,hsz,kv,hm⟩:=I.B2 hd;let⟨rfl,rfl⟩:=lG hod hdt;obtain⟨⟨k,v⟩,fK⟩:∃p,kvs[i]?=zS p:=⟨kvs[i],RC hi⟩;let⟨u,hu,ru⟩:=Fp kv fK;have hl:kvs.length=vs.length:=Sv kv;rw[hl]at st;refine wpAny_pyNext_values_item st hm hu λh' st' sb=>?_;have I1:Inv X π σ H {s with heap:=h'}:=I.turned (t':=s.toks) (λb ob hb e=>(sb.2 b hb).trans e) f0 f1 f3 f4 f5;let⟨oi,e,c,dd⟩:=id st';refine⟨u,rfl,AV (s:={s with heap:=h'}) e c dd (by decide) ⟨v,H,I1,ru,⟨rfl,k,fK⟩,?_,λb hb=>(hf b hb).1⟩⟩;show h'.IsValIter it d (i+1) kvs.length _;rw[hl];exact st'
 done:=by intro X hP hw hK hc i π s σ H E I hf st hg;subst hP hw hK;let⟨hd,hi⟩:=hg;let⟨f0,f1,f2,f3,f4,f5⟩:=hf it (by simp);let⟨hs,hgd,hx,es',ep',vs,hdt,hsz,kv,hm⟩:=I.B2 hd;let⟨rfl,rfl⟩:=lG hod hdt;have hl:kvs.length=vs.length:=Sv kv;rw[hl]at st;exact wpAny_pyNext_values_end (I.ok.hd hc) st hm (SG (by omega)) λh' eb=>⟨rfl,I.turned (t':=s.toks) (λb ob hb e=>eb b ob hb e) f0 f1 f3 f4 f5⟩
 self:=λA i s Q E st h=>wpAny_pyIter_valiter st h
def Ft(it:Addr)(hod:o.data=.dict es ep):Turn P w K (.Tuple elts kk tpos) (Pc d o kvs) [it] it (λi h=>∃ok ov,IsItemIter h it d i kvs.length ep ok ov)where
 mem:=by simp
 obj:=λi h st b hb=>by
  have e:b=it:=by simpa using hb
  subst e;let⟨ok,ov,e⟩:=st;exact⟨_,e,λv z=>nomatch z⟩
 keep:=λi h h' st k=>let⟨ok,ov,e⟩:=st;⟨ok,ov,k it (by simp) _ e⟩
 item:=by
  intro X hP hw hK hc i π s σ H E I hf st hg;subst hP hw hK;let⟨hd,hi⟩:=hg;let⟨hs,hgd,hx,es',ep',vs,hdt,hsz,kv,hm⟩:=I.B2 hd;let⟨rfl,rfl⟩:=lG hod hdt;obtain⟨⟨k,v⟩,fK⟩:∃p,kvs[i]?=zS p:=⟨kvs[i],RC hi⟩;let⟨u,hu,ru⟩:=Fp kv fK;have hl:kvs.length=vs.length:=Sv kv;let⟨ok,ov,he⟩:=st;rw[hl]at he;have hlt:it<s.heap.objs.size:=Rw he;refine wpAny_pyNext_items_item he hm hu λkey h' hkey ho hT hz hk=>?_;refine⟨_,rfl,wpAny_letOwnedTupleGo_items (s:={s with heap:=h'}) ho λh'' he' sb=>?_⟩;have hT2:h''.get? s.heap.objs.size=zS {cls:=.type "tuple",data:=.seq #[key,u]}:=(sb.2 _ (Ti hlt)).trans hT
  have new:dz X.prog X.w (upd H s.heap.objs.size (.tup [kV k,v])) h'' s.heap.objs.size (.tup [kV k,v]):=
   ⟨by show 2<=aac;decide,[key,u],.cons (DC (show rG k key=true from hkey)) (.cons ru .nil),⟨_,hT2,rfl,_,rfl⟩⟩
  have I1:Inv X π σ (upd H s.heap.objs.size (.tup [kV k,v])) {s with heap:=h''}:=
   I.mH (t':=s.toks) (ch:=[it]) (λb ob hb e=>(sb.2 b (by simpa using hb)).trans (hk b ob (by simpa using hb) e)) hf (Ro _) new
  refine⟨.ref s.heap.objs.size,_,I1,rfl,⟨_,k,v,fK,rfl,I.cA.fresh (Ro _),rfl⟩,⟨key,u,?_⟩,λb hb=>?_⟩
  .rw[hl];exact he'
  .have e:b=it:=by simpa using hb
   rw[e,ab (Sd hlt)];exact(hf it (by simp)).1
 done:=by intro X hP hw hK hc i π s σ H E I hf st hg;subst hP hw hK;let⟨hd,hi⟩:=hg;let⟨f0,f1,f2,f3,f4,f5⟩:=hf it (by simp);let⟨hs,hgd,hx,es',ep',vs,hdt,hsz,kv,hm⟩:=I.B2 hd;let⟨rfl,rfl⟩:=lG hod hdt;have hl:kvs.length=vs.length:=Sv kv;let⟨ok,ov,he⟩:=st;rw[hl]at he;exact wpAny_pyNext_items_end (I.ok.hd hc) he hm (SG (by omega)) λh' eb=>⟨rfl,I.turned (t':=s.toks) (λb ob hb e=>eb b ob hb e) f0 f1 f3 f4 f5⟩
 self:=λA i s Q E st h=>let⟨_,_,e⟩:=st;PySem.W.kcp_self e h
end
def vY(td:TE):TI:=λσ H R=>td σ H λx H1=>∃d o,x=.ref d/\((∃kvs,H1 d=zS (.fg o (.dK kvs))/\R (QJ d o kvs) H1)\/∃kvs,H1 d=zS (.fg o (.dT kvs))/\R (Pb d o kvs) H1)
def DD(td:TE):TI:=λσ H R=>td σ H λx H1=>∃d o kvs,x=.ref d/\H1 d=zS (.fg o (.dK kvs))/\R (Q9 d o kvs) H1
def jh(td:TE):TI:=λσ H R=>td σ H λx H1=>∃d o kvs,x=.ref d/\H1 d=zS (.fg o (.dK kvs))/\R (Pc d o kvs) H1
section
variable{X:Cx}{tg e:Expr}{td:TE}{apos cpos:Pos}
def ue(he:PE X e td):PI X tg e (vY td):=by
 intro π s σ H R I h;refine du (he π s σ H _ I h) λu s1⟨x,H1,I1,rx,d,o,ex,q⟩=>?_;subst ex;obtain rfl:u=RF d:=rx;obtain⟨kvs,hd,q⟩|⟨kvs,hd,q⟩:=q
 .let⟨hs,hgd,hx,es,ep,vs,hdt,hsz,kv,hm⟩:=I1.B2 hd;refine A7 hs hgd hx hdt (ya (tk:=s1.toks) I1 _ (HZ _ hdt) ⟨_,RN _ rfl,rfl,?_⟩ q);rw[hsz]<;>rfl
 .let⟨hs,hgd,hx,es,ep,hdt,hsz,ent⟩:=I1.NX hd;refine A7 hs hgd hx hdt (ya (tk:=s1.toks) I1 _ (Fs _ hdt) ⟨_,RN _ rfl,rfl,?_⟩ q);rw[hsz]<;>rfl
def Ia(he:PE X e td)(hbase:aau e "values" X.env (eval e X.env)=eval e X.env:=by rfl)(hline:(apos.endLine==cpos.line)=true:=by rfl):PI X tg (.Call (.Attribute e "values" apos) [] [] cpos) (DD td):=by
 intro π s σ H R I h;refine aaK (T:="dict") (id:="dict.values") hbase rfl hline W6 VY YA (du (he π s σ H _ I h) λu s1⟨x,H1,I1,rx,d,o,kvs,ex,hd,q⟩=>?_);subst ex;obtain rfl:u=RF d:=rx;let⟨hs,hgd,hx,es,ep,vs,hdt,hsz,kv,hm⟩:=I1.B2 hd;have hl:kvs.length=vs.length:=Sv kv;refine⟨hm.dictOf.typeIs,hm.dictOf.mapOf.noDict,?_⟩;have I2:Inv X π σ H1 {s1 with heap:=s1.heap.push {cls:=.type "dict_values",data:=.fields #[.ref d]}}:=I1.kept (t':=s1.toks) λb ob q=>Rt _ q;have fin:wpAny (model X.prog X.w) X.A (pyIter (.ref s1.heap.objs.size)) (O1 X π σ tg R) X.xe {s1 with heap:=s1.heap.push {cls:=.type "dict_values",data:=.fields #[.ref d]}}:=by refine wpAny_pyIter_values (d:=d) (knd:=cB X.prog X.w) ⟨_,RN _ rfl,rfl,rfl⟩ (hm.push _) (ya (tk:=s1.toks) I2 _ (H_ _ hdt) ⟨_,RN _ rfl,rfl,?_⟩ q);rw[hl]<;>rfl
 show wpAny _ _ (callWith cpos (.builtin "dict.values") [.ref d] [] []) _ X.xe s1;exact method_meetsIn VY YB rfl (Vm ⟨rfl,hm.dictOf.typeIs,YC _,_,meets_dict_values (cB X.prog X.w) d hs,⟨vs,hm.dictOf⟩,fin⟩)
def gY(he:PE X e td)(hbase:aau e "items" X.env (eval e X.env)=eval e X.env:=by rfl)(hline:(apos.endLine==cpos.line)=true:=by rfl):PI X (.Tuple elts kk tpos) (.Call (.Attribute e "items" apos) [] [] cpos) (jh td):=by
 intro π s σ H R I h;refine aaK (T:="dict") (id:="dict.items") hbase rfl hline W6 YD F.type_dict_items (du (he π s σ H _ I h) λu s1⟨x,H1,I1,rx,d,o,kvs,ex,hd,q⟩=>?_);subst ex;obtain rfl:u=RF d:=rx;let⟨hs,hgd,hx,es,ep,vs,hdt,hsz,kv,hm⟩:=I1.B2 hd;have hl:kvs.length=vs.length:=Sv kv;refine⟨hm.dictOf.typeIs,hm.dictOf.mapOf.noDict,?_⟩;have I2:Inv X π σ H1 {s1 with heap:=s1.heap.push {cls:=.type "dict_items",data:=.fields #[.ref d]}}:=I1.kept (t':=s1.toks) λb ob q=>Rt _ q;have fin:wpAny (model X.prog X.w) X.A (pyIter (.ref s1.heap.objs.size)) (O1 X π σ (.Tuple elts kk tpos) R) X.xe {s1 with heap:=s1.heap.push {cls:=.type "dict_items",data:=.fields #[.ref d]}}:=by refine wpAny_pyIter_items (d:=d) (knd:=cB X.prog X.w) ⟨_,RN _ rfl,rfl,rfl⟩ (hm.push _) (ya (tk:=s1.toks) I2 _ (Ft _ hdt) ⟨.none,.none,?_⟩ q);rw[hl];exact RN _ rfl
 show wpAny _ _ (callWith cpos (.builtin "dict.items") [.ref d] [] []) _ X.xe s1;exact method_meetsIn YD F.entry_dict_items rfl (Vm ⟨rfl,hm.dictOf.typeIs,F.args_dict_items_1 _,_,meets_dict_items (cB X.prog X.w) d hs,⟨vs,hm.dictOf⟩,fin⟩)
end
def QK(K:Rl)(a:Addr):It:=
 ⟨λi H=>∃(xs:List V)(x:V),cD K H a xs/\xs[i]?=zS x,λi H v H'=>∃T x,v=.ref T/\H T=zN/\H'=upd H T (.tup [.int (i:Nat),x])/\∀xs,cD K H a xs->xs[i]?=zS x,λi H=>∃xs:List V,cD K H a xs/\xs.length<=i⟩
def Ib{K:Rl}(a e it:Addr):Turn P w K (.Tuple elts kk tpos) (QK K a) [e,it] e (λi h=>(∃old,IsEnum h e it ((i:Nat):Int) old)/\h.IsListIter it a i/\e≠it)where
 mem:=by simp
 obj:=λi h st b hb=>by
  let⟨⟨old,he⟩,⟨o,ho,hc,hd⟩,_⟩:=st;have e':b=e\/b=it:=by simpa using hb
  obtain z|z:=e'
  .rw[z];exact⟨_,he,λv q=>nomatch q⟩
  .rw[z];exact⟨o,ho,λv q=>by rw[hd]at q;cases q⟩
 keep:=λi h h' st k=>let⟨⟨old,he⟩,hi,hne⟩:=st;⟨⟨old,k e (by simp) _ he⟩,hi.at λo q=>k it (by simp) o q,hne⟩
 item:=by
  intro X hP hw hK hc i π s σ H E I hf st hg;subst hP hw hK;let⟨⟨old,he⟩,hit,hne⟩:=st;let⟨xs,x,hq,hx⟩:=hg;let⟨aR,rv,p,hz⟩:=I.list hq;let⟨u,hu,ru⟩:=rv.get hx;have hel:e<s.heap.objs.size:=Rw he;have hil:it<s.heap.objs.size:=by let⟨_,q,_⟩:=hit;exact Rw q
  refine wpAny_pyNext_enum_item he hit p.isList (x:=u) (by simpa using hu) hne λh' ho hit' hT hsz hk=>?_;refine⟨_,rfl,wpAny_letOwnedTupleGo_enum (s:={s with heap:=h',toks:=s.toks+1}) ho λh'' he' sb=>?_⟩;have hT2:h''.get? s.heap.objs.size=zS {cls:=.type "tuple",data:=.seq #[.int i s.toks,u]}:=(sb.2 _ (Ti hel)).trans hT
  have new:dz X.prog X.w (upd H s.heap.objs.size (.tup [.int (i:Nat),x])) h'' s.heap.objs.size (.tup [.int (i:Nat),x]):=
   ⟨by show 2<=aac;decide,[.int i s.toks,u],.cons ⟨_,rfl⟩ (.cons ru .nil),⟨_,hT2,rfl,_,rfl⟩⟩
  have I1:Inv X π σ (upd H s.heap.objs.size (.tup [.int (i:Nat),x])) {s with heap:=h'',toks:=s.toks+1}:=
   I.mH (ch:=[e,it]) (λb ob hb q=>(sb.2 b (λz=>hb (by simp[z]))).trans (hk b ob (λz=>hb (by simp[z])) (λz=>hb (by simp[z])) q)) hf (Ro _) new
  refine⟨.ref s.heap.objs.size,_,I1,rfl,⟨_,x,rfl,I.cA.fresh (Ro _),rfl,λys hy=>by rw[I.iI hy hq];exact hx⟩,⟨⟨u,?_⟩,hit'.at λo q=>(sb.2 it (SY hne)).trans q,hne⟩,λb hb=>?_⟩
  .have e1:((i+1:Nat):Int)=(i:Int)+1:=by omega
   rw[e1];exact he'
  .have hb':b<s.heap.objs.size:=by
    have e':b=e\/b=it:=by simpa using hb
    obtain z|z:=e'
    .rw[z];exact hel
    .rw[z];exact hil
   rw[ab (Sd hb')];exact(hf b hb).1
 done:=by intro X hP hw hK hc i π s σ H E I hf st hg;subst hP hw hK;let⟨⟨old,he⟩,hit,hne⟩:=st;let⟨xs,hq,hx⟩:=hg;let⟨aR,rv,p,hz⟩:=I.list hq;let⟨f0,f1,f2,f3,f4,f5⟩:=hf it (by simp);have hl:=rv.length;exact wpAny_pyNext_enum_end (I.ok.hd hc) he hit p.isList (by simp;omega) λh' eb=>⟨rfl,I.turned (t':=s.toks) (λb o hb q=>eb b o hb q) f0 f1 f3 f4 f5⟩
 self:=λA i s Q E st h=>let⟨⟨_,he⟩,_⟩:=st;wpAny_pyIter_enum he h
def GQ(K:Rl)(ta:TA):TI:=λσ H R=>ta σ H λvs H1=>∃a xs,vs=[.ref a]/\cD K H1 a xs/\R (QK K a) H1
variable{X:Cx}
def GR(hg:Gl X "enumerate")(hm:X.mg "enumerate"=zN)(ha:PA X [e] ta)(hs:aag [e] X.env=[(false,eval e X.env)]:=by rfl):PI X (.Tuple elts kk tpos) (.Call (.Name "enumerate" p) [e] [] pos) (GQ X.K ta):=by
 intro π s σ H R I h;refine Call_ (nh I hg hm boot_enumerate (TR (du (ha pos π s σ H _ I h) λus s1⟨vs,H1,I1,r1,q1⟩=>?_) hs rfl));let⟨a,xs,ex,hq,q⟩:=q1;subst ex
 cases r1 with
 |cons r rr=>
  cases rr;cases r;let⟨aR,rv,p',hz⟩:=I1.list hq;refine call_enumerate_list p'.isList λh' he hit hsz hk=>wpAny_pyIter_enum he ?_;have I2:Inv X π σ H1 {s1 with heap:=h'}:=I1.kept (t':=s1.toks) hk
  refine⟨s1.heap.objs.size+1,[s1.heap.objs.size+1,s1.heap.objs.size],_,_,H1,rfl,I2,Ib a (s1.heap.objs.size+1) s1.heap.objs.size,⟨⟨.none,he⟩,hit,Nat.succ_ne_self _⟩,λb hb=>?_,q⟩;have e':b=s1.heap.objs.size+1\/b=s1.heap.objs.size:=by simpa using hb
  have hle:s1.heap.objs.size<=b:=by
   obtain z|z:=e'
   .rw[z];exact Su _ _
   .rw[z];exact Ro _
  exact I1.Dk hle (I1.cA.fresh hle)
def u_:aae "zip"=zS (.type "zip"):=by decide+kernel
def QL(K:Rl)(a b:Addr):It:=
 ⟨λi H=>∃(xs ys:List V)(x y:V),cD K H a xs/\cD K H b ys/\xs[i]?=zS x/\ys[i]?=zS y,
  λi H v H'=>∃T x y,v=.ref T/\H T=zN/\H'=upd H T (.tup [x,y])/\(∀xs,cD K H a xs->xs[i]?=zS x)/\∀ys,cD K H b ys->ys[i]?=zS y,
  λi H=>∃xs ys:List V,cD K H a xs/\cD K H b ys/\(xs.length<=i\/ys.length<=i)⟩
def Ka{K:Rl}{a b z TI TO i1 i2:Addr}(D:ZipApart z TI TO i1 i2 a b):Turn P w K (.Tuple elts kk tpos) (QL K a b) [z,TI,TO,i1,i2] z (λi h=>IsZip h z TI TO .none/\IsPair h TI (.ref i1) (.ref i2)/\(∃x y,IsPair h TO x y)/\h.IsListIter i1 a i/\h.IsListIter i2 b i)where
 mem:=by simp
 obj:=λi h st c hc=>by
  let⟨hz,hTI,⟨x,y,hTO⟩,⟨o1,e1,_,d1⟩,⟨o2,e2,_,d2⟩⟩:=st;have e':c=z\/c=TI\/c=TO\/c=i1\/c=i2:=by simpa using hc
  obtain q|q|q|q|q:=e'
  .rw[q];exact⟨_,hz,λv q=>nomatch q⟩
  .rw[q];exact⟨_,hTI,λv q=>nomatch q⟩
  .rw[q];exact⟨_,hTO,λv q=>nomatch q⟩
  .rw[q];exact⟨o1,e1,λv q=>by rw[d1]at q;cases q⟩
  .rw[q];exact⟨o2,e2,λv q=>by rw[d2]at q;cases q⟩
 keep:=λi h h' st k=>by let⟨hz,hTI,⟨x,y,hTO⟩,h1,h2⟩:=st;exact⟨k z (by simp) _ hz,k TI (by simp) _ hTI,⟨x,y,k TO (by simp) _ hTO⟩,h1.at λo q=>k i1 (by simp) o q,h2.at λo q=>k i2 (by simp) o q⟩
 item:=by
  intro X hP hw hK hc i π s σ H E I hf st hg;subst hP hw hK;let⟨hz,hTI,⟨x0,y0,hTO⟩,h1,h2⟩:=st;let⟨xs,ys,x,y,hqx,hqy,hx,hy⟩:=hg;let⟨aR,rv,p,_⟩:=I.list hqx;let⟨its2,rv2,p2,_⟩:=I.list hqy;let⟨u,hu,ru⟩:=rv.get hx;let⟨u2,hu2,ru2⟩:=rv2.get hy;have hzl:z<s.heap.objs.size:=Rw hz;refine wpAny_pyNext_zip_item D hz hTI hTO h1 h2 p.isList p2.isList (x:=u) (y:=u2) (by simpa using hu) (by simpa using hu2) λh' z' TO' h1' h2' hT hsz hk=>?_;refine⟨_,rfl,aaR (s:={s with heap:=h'}) z' λh'' z'' sb=>?_⟩;have hT2:h''.get? s.heap.objs.size=zS {cls:=.type "tuple",data:=.seq #[u,u2]}:=(sb.2 _ (Ti hzl)).trans hT
  have new:dz X.prog X.w (upd H s.heap.objs.size (.tup [x,y])) h'' s.heap.objs.size (.tup [x,y]):=
   ⟨by show 2<=aac;decide,[u,u2],.cons ru (.cons ru2 .nil),⟨_,hT2,rfl,_,rfl⟩⟩
  have I1:Inv X π σ (upd H s.heap.objs.size (.tup [x,y])) {s with heap:=h''}:=
   I.mH (t':=s.toks) (ch:=[z,TI,TO,i1,i2]) (λc o hb q=>(sb.2 c (λq'=>hb (by simp[q']))).trans (hk c o (λq'=>hb (by simp[q'])) (λq'=>hb (by simp[q'])) (λq'=>hb (by simp[q'])) (λq'=>hb (by simp[q'])) q)) hf (Ro _) new
  refine⟨.ref s.heap.objs.size,_,I1,rfl,⟨_,x,y,rfl,I.cA.fresh (Ro _),rfl,λl hl=>by rw[I.iI hl hqx];exact hx,λl hl=>by rw[I.iI hl hqy];exact hy⟩,⟨z'',?_,⟨u,u2,?_⟩,?_,?_⟩,λc hcm=>?_⟩
  .exact(sb.2 _ D.TIz).trans (hk _ _ D.TIz D.TITO D.TIi1 D.TIi2 hTI)
  .exact(sb.2 _ D.TOz).trans TO'
  .exact h1'.at λo q=>(sb.2 _ D.i1z).trans q
  .exact h2'.at λo q=>(sb.2 _ D.i2z).trans q
  .have hlt:c<s.heap.objs.size:=by
    have e':c=z\/c=TI\/c=TO\/c=i1\/c=i2:=by simpa using hcm
    obtain q|q|q|q|q:=e'
    .rw[q];exact hzl
    .rw[q];exact Rw hTI
    .rw[q];exact Rw hTO
    .rw[q];let⟨_,e1,_⟩:=h1;exact Rw e1
    .rw[q];let⟨_,e2,_⟩:=h2;exact Rw e2
   rw[ab (Sd hlt)];exact(hf c hcm).1
 done:=by
  intro X hP hw hK hc i π s σ H E I hf st hg;subst hP hw hK;let⟨hz,hTI,⟨x0,y0,hTO⟩,h1,h2⟩:=st;let⟨xs,ys,hqx,hqy,hend⟩:=hg;let⟨aR,rv,p,_⟩:=I.list hqx;let⟨its2,rv2,p2,_⟩:=I.list hqy;have l1:=rv.length;have l2:=rv2.length;have he:aR.toArray[i]?=zN\/its2.toArray[i]?=zN:=by
   obtain q|q:=hend
   .exact .inl (by simp;omega)
   .exact .inr (by simp;omega)
  exact wpAny_pyNext_zip_end (I.ok.hd hc) D hz hTI hTO h1 h2 p.isList p2.isList he λh' hk=>⟨rfl,I.B1 (t':=s.toks) (ch:=[z,TI,TO,i1,i2]) (λc o hb q=>
   hk c o (λq'=>hb (by simp[q'])) (λq'=>hb (by simp[q'])) (λq'=>hb (by simp[q'])) (λq'=>hb (by simp[q'])) q) hf⟩
 self:=λA i s Q E st h=>aaS st.1 h
def zI(K:Rl)(ta:TA):TI:=λσ H R=>ta σ H λvs H1=>∃a b xs ys,vs=[.ref a,.ref b]/\cD K H1 a xs/\cD K H1 b ys/\R (QL K a b) H1
def pJ{e2:Expr}(hg:Gl X "zip")(hm:X.mg "zip"=zN)(ha:PA X [e,e2] ta)(hs:aag [e,e2] X.env=(false,eval e X.env)::aag [e2] X.env:=by rfl)(hpl:(aaf pos (aag [e2] X.env)).any (·.1)=false:=by rfl):PI X (.Tuple elts kk tpos) (.Call (.Name "zip" p) [e,e2] [] pos) (zI X.K ta):=by
 intro π s σ H R I h;refine Call_ (nh I hg hm u_ (TR (du (ha pos π s σ H _ I h) λus s1⟨vs,H1,I1,r1,q1⟩=>?_) hs hpl));let⟨a,b,xs,ys,ex,hqx,hqy,q⟩:=q1;subst ex
 cases r1 with
 |cons r rr=>
  cases rr with
  |cons r' rr=>
   cases rr;cases r;cases r';let⟨aR,rv,p1,_⟩:=I1.list hqx;let⟨its2,rv2,p2,_⟩:=I1.list hqy;have la:a<s1.heap.objs.size:=p1.lt;have lb:b<s1.heap.objs.size:=p2.lt;refine call_zip_2 p1.isList p2.isList λh' hz hTI hTO h1 h2 hsz hk=>aaS hz ?_;have I2:Inv X π σ H1 {s1 with heap:=h'}:=I1.kept (t':=s1.toks) hk
   refine⟨s1.heap.objs.size+4,[s1.heap.objs.size+4,s1.heap.objs.size+2,s1.heap.objs.size+3,s1.heap.objs.size,s1.heap.objs.size+1],_,_,H1,rfl,I2,Ka (PySem.W.ktu_apart s1.heap.objs.size a b la lb),⟨hz,hTI,⟨_,_,hTO⟩,h1,h2⟩,λc hcm=>?_,q⟩;have e':c=s1.heap.objs.size+4\/c=s1.heap.objs.size+2\/c=s1.heap.objs.size+3\/c=s1.heap.objs.size\/c=s1.heap.objs.size+1:=by simpa using hcm
   have hle:s1.heap.objs.size<=c:=by
    obtain z|z|z|z|z:=e'
    .rw[z];exact Su _ _
    .rw[z];exact Su _ _
    .rw[z];exact Su _ _
    .rw[z];exact Ro _
    .rw[z];exact Su _ _
   exact I1.Dk hle (I1.cA.fresh hle)
end L2
section
namespace TL
open PySem PySem.Builtin PySem.Builtin.Str PySem.StrLaws
abbrev tl(x:Str):List Nat:=x.cps.toList
def pre(S l:List Nat):Bool:=l.take S.length==S
def OD(S:List Nat):Nat->List Nat->List Nat->List (List Nat)
 |_,acc,[]=>[acc]
 |0,acc,c::r=>if pre S (c::r)=true then acc::OD S (S.length-1) [] r else OD S 0 (acc++[c]) r
 |k+1,acc,_::r=>OD S k acc r
end TL
end
namespace L2
open PySem PySem.Spec PyProof.Rows
abbrev Ji:Lm:=λ_ _ _ _ _ _=>False
abbrev E0:XK:=λ_ _ _=>False
def GS{X:Cx}:Passes Ji X E0:=λ_ _ _ _ _ _ _ h=>h.elim
structure LY(K:Rl)(x qual:Str)(st:Stmt)(f:Addr)(fd:aav):Prop where
 ex:∃(oc:Value)(od:Option Addr)(kV doc pm:Value)(an:Option Addr)(cdv ct:Value)(osl:Array (Option Value)),
  fd=S3 x qual (jq st) (gf st) (bm st) .none kV doc pm an cdv ct/\K.lookup f=zS ⟨oc,od,.func fd,osl⟩/\T_ K cdv qual=true
 kp:S4 K (.ref f)=true
variable{f:Addr}{fd:aav}{ps:List Str}{k:Nat}{qual x:Str}
section
variable{P:ZV}{w:World}{K:Rl}{mg:Str->Option Value}{base:Heap}
def LY.ok{st:Stmt}{N:List Str}{sp:Sp}(F:LY K x qual st f fd)(S:qF N ps (bm st))(len:∀vs H Q E,sp vs H Q E->vs.length=ps.length)(hbody:∀(cdv:Value)(A:ZZ)(outer:List Env)(s:ZW)(H:Hp)(vs:List V)(Q:VK)(E:XK),gP k (A.deeper (envOfC qual (bm st) s.heap.objs.size f cdv))->sp vs H Q E->∃t,EM (BV Ji P w K mg base N qual (bm st) f cdv A outer s H E).Nv (gf st) t/\t {nx:=λ_ H'=>Q .d7 H',rt:=Q} (start N vs) H):ni P w K mg base Ji (k+1) f fd ps sp:=by let⟨oc,od,kV,doc,pm,an,cdv,ct,osl,rfl,lk,hcd⟩:=F.ex;refine O5 lk hcd S len λA outer s H vs Q E hr hsp=>?_;let⟨t,h,q⟩:=hbody cdv A outer s H vs Q E hr hsp;exact⟨t,h.Nv,q⟩
def LY.binds{st:Stmt}(F:LY K x qual st f fd)(h:∀(kV doc pm:Value)(an:Option Addr)(cdv ct:Value)(us:List Value),us.length=ps.length->bindArgs (S3 x qual (jq st) (gf st) (bm st) .none kV doc pm an cdv ct) ⟨us,[]⟩=pure (ps.zip us)):Binds K fd ps []:=by let⟨oc,od,kV,doc,pm,an,cdv,ct,osl,rfl,lk,hcd⟩:=F.ex;exact .all (h kV doc pm an cdv ct)
def Kb{st:Stmt}{oc:Value}{od an:Option Addr}{osl:Array (Option Value)}{kV doc pm cdv ct:Value}(l:K.lookup f=zS ⟨oc,od,.func (S3 x qual (jq st) (gf st) (bm st) .none kV doc pm an cdv ct),osl⟩)(c:T_ K cdv qual=true)(k:S4 K (.ref f)=true):LY K x qual st f (S3 x qual (jq st) (gf st) (bm st) .none kV doc pm an cdv ct):=⟨⟨oc,od,kV,doc,pm,an,cdv,ct,osl,rfl,l,c⟩,k⟩
end
def Pd{A:ZZ}(hr:gP k A):A.units+1<cLine:=VL (Nat.add_le_add_left (by decide:1<=64) _) hr.units
def va{n:Nat}(h:n<=1000):n<aac:=VL h (by decide)
section
variable{X:Cx}
def pv(i:Nat){pos:Pos}(hN:X.N[i]?=zS x:=by rfl)(hv:Oy X.env.scope x:=by first|exact UR rfl|exact Uq (UR rfl)|exact Uq (Uq rfl))(hd:(x==("__debug__":Str))=false:=by decide)(hcd:(x==("__classdict__":Str))=false:=by decide):PE X (.Name x pos) (eG i):=Nu hN hv hd hcd
def eS:eP X (.builtin "len") (λxs H Q=>∃a kvs,xs=[V.ref a]/\H a=zS (.dK kvs)/\Q (.int kvs.length) H):=by intro π s σ H xs us Q I r h;let⟨a,kvs,rfl,ha,q⟩:=h;let⟨u,rfl,ru⟩:=vals1 r;cases ru;exact Pa I (.inl ha) λt s' I'=>⟨.int kvs.length,H,I',⟨t,rfl⟩,q⟩
end
def Pe{c A B:Prop} [Decidable c](h1:c->A)(h2:¬c->B):if c then A else B:=by
 by_cases h:c
 .rw[ag h];exact h1 h
 .rw[ae h];exact h2 h
def ah(H H':Hp):Prop:=∀b o,H b=zS o->H' b=zS o
def ah.refl(H:Hp):ah H H:=λ_ _ h=>h
variable{H H1:Hp}
def ah.trans{H2:Hp}(a:ah H H1)(b:ah H1 H2):ah H H2:=λc o h=>b c o (a c o h)
variable{H':Hp}
def ah.free(e:ah H H'){l:Addr}(h:H' l=VZ):H l=VZ:=by
 cases q:H l with
 |none=>rfl
 |some o=>
  rw[e l o q]at h;cases h
variable{xs:List V}
def ah.seq{K:Rl}{a:Addr}(e:ah H H')(h:cD K H a xs):cD K H' a xs:=by
 obtain(h|⟨o,h⟩)|h:=h
 .exact .inl (.inl (e _ _ h))
 .exact .inl (.inr ⟨o,e _ _ h⟩)
 .exact .inr h
variable{v:V}
section
variable{κ:Type} [DecidableEq κ]
def yb{kvs:List (κ×V)}{k:κ}(h:aI kvs k=zN):¬k∈kvs.map (·.1):=by intro m;let⟨p,hp,e⟩:=Rm.mp m;have q:(kvs.any λkv=>decide (kv.1=k))=true:=Tg.mpr ⟨p,hp,decide_eq_true e⟩;rw[fw,h]at q;exact absurd q (by simp)
def wY{kvs:List (κ×V)}{k:κ}(h:aI kvs k=zS v):k∈kvs.map (·.1):=by
 have q:(kvs.any λkv=>decide (kv.1=k))=true:=by
  rw[fw,h]
  all_goals rfl
 let⟨p,hp,e⟩:=Tg.mp q;exact Rm.mpr ⟨p,hp,of_decide_eq_true e⟩
def GT:∀{l:List κ}{k:κ},l.Nodup->¬k∈l->(l++[k]).Nodup
 |[],k,_,_=>by simp
 |a::r,k,h,hk=>by
  let⟨h1,h2⟩:=RK.mp h;show(a::(r++[k])).Nodup;refine RK.mpr ⟨λm=>?_,GT h2 λm=>hk (Rn.mpr (Uq m))⟩;obtain q|q:=Ru.mp m
  .exact h1 q
  .exact hk (Rn.mpr (UR (Sb.mp q).symm))
def LZ{kvs:List (κ×V)}{k:κ}(v:V)(hn:(kvs.map (·.1)).Nodup)(h:aI kvs k=zN):((putK kvs k v).map (·.1)).Nodup:=by rw[iK v h,Sa];exact GT hn (yb h)
end
def at_of{z:Int}{j:Nat}(e:z=(j:Int))(h:xs[j]?=zS v):NH xs z=zS v:=by rw[e];exact LJ h
def ah.made{x dx C:Addr}(nx:H x=VZ)(nd:H dx=VZ)(k:∀b o,(upd (upd H dx (.own x)) x (.ins C dx [])) b=zS o->b≠x->H1 b=zS o):ah H H1:=λb o e=>
 k b o (by rw[ab (ay e nx),ab (ay e nd)];exact e) (ay e nx)
def A8:R2:=rI (λ_ j=>j≠0/\j.natAbs<18446744073709551616) λi j=>.int (i.fdiv j)
def NY:R2:=rI (λ_ j=>j≠0) λi j=>.int (i.fmod j)
def gR:R2:=λx y H Q=>y=.d7/\Q (.bl (decide (x=.d7))) H
def GU{n:Nat}(h:n<18446744073709551616):n.log2<9000:=by
 by_cases e:n=0
 .subst e;decide
 .have:n.log2<64:=(Nat.log2_lt e).mpr (by have e2:(2:Nat)^64=18446744073709551616:=(by decide);rw[e2];exact h);omega
section
variable{X:Cx}
def yc:rH X (aat .FloorDiv) A8:=QF λ_ _ _ _ _ _ _ hc q=>floordiv_int hc.1 q (.inl (YF (GU hc.2)))
def L0:rH X (aat .Mod) NY:=LB
def B3:rH X (aai .Is) gR:=ND
def Kc:List V->Hp->VK->Prop:=λxs H Q=>∃i,xs=[.int i]/\Q (.int (if i<0 then-i else i)) H
def yd:List V->Hp->VK->Prop:=λxs H Q=>∃i j,xs=[.int i,.int j]/\Q (.int (if j>i then j else i)) H
def A9:List V->Hp->VK->Prop:=λxs H Q=>∃i j,xs=[.int i,.int j]/\Q (.int (if j<i then j else i)) H
def qH:eP X (.builtin "abs") Kc:=JS
def ji(hc:X.calm=true):eP X (.builtin "max") yd:=HE hc
def kR(hc:X.calm=true):eP X (.builtin "min") A9:=HF hc
def Ic(hc:X.calm=true):eP X (.builtin "max") (LQ X.K):=NP hc
def Ie(hc:X.calm=true):eP X (.builtin "min") (LR X.K):=NQ hc
def mI:List V->Hp->VK->Prop:=λxs H Q=>∃a kvs,xs=[V.ref a]/\H a=zS (.dK kvs)/\Q (.int kvs.length) H
def eQ(K:Rl):List V->Hp->VK->Prop:=λxs H Q=>∃p ys,xs=[.ref p]/\(cD K H p ys\/km K H p ys)/\Q (.int ys.length) H
def bf:eP X (.builtin "len") (eQ X.K):=BY
def Fu(K:Rl):List V->Hp->VK->Prop:=λxs H Q=>∃p ys,xs=[.ref p]/\(cD K H p ys\/km K H p ys)/\∀l,H l=zN->Q (.ref l) (upd H l (.lst ys))
def Fv:eP X (.type "list") (Fu X.K):=BZ
def GV(K:Rl):List V->Hp->VK->Prop:=λxs H Q=>∃p ys,xs=[.ref p]/\((cD K H p ys/\∀l,H l=zN->Q (.ref l) (upd H l (.tup ys)))\/(km K H p ys/\Q (.ref p) H))
def DE:eP X (.type "tuple") (GV X.K):=zG
def jE:aae "list"=zS (.type "list"):=by decide+kernel
def ye:aae "dict"=zS (.type "dict"):=by decide+kernel
def L4:aae "set"=zS (.type "set"):=by decide+kernel
def Ig:aae "tuple"=zS (.type "tuple"):=by decide+kernel
def lH:aae "max"=zS (.builtin "max"):=by decide+kernel
def nu:aae "min"=zS (.builtin "min"):=by decide+kernel
def wZ:aae "abs"=zS (.builtin "abs"):=by decide+kernel
def be:aae "len"=zS (.builtin "len"):=by decide+kernel
def Ih:aae "range"=zS (.type "range"):=by decide+kernel
def vb:List V->Hp->VK->Prop:=λxs H Q=>∃a kvs,xs=[V.ref a]/\Rd H a (.dK kvs)/\∀p,H p=zN->Q (.ref p) (upd H p (.dK kvs))
def sr:eP X (.type "dict") vb:=by intro π s σ H xs us Q I r h;let⟨a,kvs,rfl,ha,q⟩:=h;let⟨u,rfl,ru⟩:=vals1 r;cases ru;exact J9 I ha λp s' hp I'=>⟨.ref p,_,I',rfl,q p hp⟩
def uf:∀{xs:List V}{us:List Value},xs.length=us.length->(∀(i:Nat) x u,xs[i]?=zS x->us[i]?=zS u->RelV x u)->Vals xs us
 |[],[],_,_=>.nil
 |[],_::_,h,_=>by simp at h
 |_::_,[],h,_=>by simp at h
 |x::xs,u::us,h,f=>.cons (f 0 x u rfl rfl) (uf (by simpa using h) λi y w h1 h2=>f (i+1) y w (by simpa using h1) (by simpa using h2))
def Paired.Fw{α β:Type}{F:α->β->Prop}:∀{l:List α}{m:List β}{i:Nat}{a:α}{b:β},Paired F l m->l[i]?=zS a->m[i]?=zS b->F a b
 |_,_,_,_,_,.nil,h,_=>by simp at h
 |_,_,0,_,_,.cons r _,h1,h2=>by simp at h1 h2;subst h1 h2;exact r
 |_,_,i+1,a,b,.cons _ t,h1,h2=>Paired.Fw (i:=i) t (by simpa using h1) (by simpa using h2)
def zJ{k:Key}{v:Value}(h:rG k v=true):RelV (kV k) v:=by
 obtain⟨i,t,rfl,rfl⟩|⟨x,t,rfl,rfl⟩:=dJ h
 .exact⟨t,rfl⟩
 .exact⟨t,rfl⟩
def vc:List V->Hp->VK->Prop:=λxs H Q=>∃a kvs,xs=[V.ref a]/\Rd H a (.dK kvs)/\∀l,H l=zN->Q (.ref l) (upd H l (.lst (kvs.map λkv=>kV kv.1)))
def nv(hc:X.calm=true):eP X (.type "list") vc:=by
 intro π s σ H xs us Q I r h;let⟨a,kvs,rfl,ha,q⟩:=h;let⟨u,rfl,ru⟩:=vals1 r;cases ru;let⟨z,hd,vs,rel,dd⟩:=mF I.cA ha;have hl:kvs.length=vs.length:=Sv rel;let⟨ep,hat⟩:=dd.dictAt;refine YG (PySem.W.kdl_dict (knd:=cB X.prog X.w) (kvs:=vs) (ep:=ep) hd) (I.ok.hd hc) hat (by rw[<-hl];exact z) λh' tk acc' c' hk hS hacc=>?_;have hv:Vals (kvs.map λkv=>kV kv.1) acc'.toList:=by refine uf (by rw[Rr];exact hl.trans (hacc.1.symm.trans (SJ).symm)) λi x u hx hu=>?_;let⟨k,y,hk1,hk2⟩:=hacc.2 i u (by rw[<-VT];exact hu);rw[RW]at hx;let⟨kv,fK,rfl⟩:=To.mp hx;have:=(Paired.Fw rel fK hk1).1;rw[this];exact zJ hk2
 exact⟨.ref s.heap.objs.size,_,I.laid (o:=.lst _) (t':=tk) hk (Ro _) ⟨by rw[Rr];exact z,acc'.toList,c',hv,by simpa using hS⟩,rfl,q _ (I.cA.fresh (Ro _))⟩
def vZ(v d:Addr):HO:=.ext λh=>h.get? v=zS {cls:=.type "dict_values",data:=.fields #[.ref d]}
def w6(td:TE):TE:=λσ H Q=>td σ H λx H1=>∃d kvs,x=.ref d/\Rd H1 d (.dK kvs)/\∀v,H1 v=zN->Q (.ref v) (upd H1 v (vZ v d))
def A_{e:Expr}{td:TE}{apos cpos:Pos}(he:PE X e td)(hbase:aau e "values" X.env (eval e X.env)=eval e X.env:=by rfl)(hline:(apos.endLine==cpos.line)=true:=by rfl):PE X (.Call (.Attribute e "values" apos) [] [] cpos) (w6 td):=by intro π s σ H Q I h;refine aaK (T:="dict") (id:="dict.values") hbase rfl hline W6 VY YA (du (he π s σ H _ I h) λu s1⟨x,H1,I1,rx,d,kvs,ex,hd,q⟩=>?_);subst ex;obtain rfl:u=RF d:=rx;let⟨z,hs,vs,rel,dd⟩:=mF I1.cA hd;refine⟨dd.typeIs,dd.mapOf.noDict,?_⟩;show wpAny _ _ (callWith cpos (.builtin "dict.values") [.ref d] [] []) _ X.xe s1;refine method_meetsIn VY YB rfl (Vm ⟨rfl,dd.typeIs,YC _,_,meets_dict_values (cB X.prog X.w) d hs,⟨vs,dd⟩,?_⟩);have hg:(s1.heap.push {cls:=.type "dict_values",data:=.fields #[.ref d]}).get? s1.heap.objs.size=zS {cls:=.type "dict_values",data:=.fields #[.ref d]}:=RN _ rfl;exact⟨.ref s1.heap.objs.size,_,I1.laid (a:=s1.heap.objs.size) (o:=vZ s1.heap.objs.size d) (t':=s1.toks) (λ_ _ e=>Rt _ e) (Ro _) ⟨hg,⟨_,hg⟩,λh1 h2 p k=>k _ p⟩,rfl,q _ (I1.cA.fresh (Ro _))⟩
def B4:List V->Hp->VK->Prop:=λxs H Q=>∃v d kvs,xs=[V.ref v]/\H v=zS (vZ v d)/\Rd H d (.dK kvs)/\∀l,H l=zN->Q (.ref l) (upd H l (.lst (kvs.map (·.2))))
def yf(hc:X.calm=true):eP X (.type "list") B4:=by
 intro π s σ H xs us Q I r h;let⟨v,d,kvs,rfl,hv,ha,q⟩:=h;let⟨u,rfl,ru⟩:=vals1 r;cases ru;let⟨hg,_⟩:=(show dz X.prog X.w H s.heap v (vZ v d)from I.cA v _ hv);let⟨z,hd,vs,rel,dd⟩:=mF I.cA ha;have hl:kvs.length=vs.length:=Sv rel;let⟨ep,hat⟩:=dd.dictAt;refine YG (PySem.W.kdl_values (knd:=cB X.prog X.w) (kvs:=vs) (ep:=ep)) (I.ok.hd hc) ⟨⟨_,hg,rfl,rfl⟩,hat⟩ (by rw[<-hl];exact z) λh' tk acc' c' hk hS hacc=>?_;have hv:Vals (kvs.map (·.2)) acc'.toList:=by refine uf (by rw[Rr];exact hl.trans (hacc.1.symm.trans (SJ).symm)) λi x u hx hu=>?_;let⟨k,hk1⟩:=hacc.2 i u (by rw[<-VT];exact hu);rw[RW]at hx;let⟨kv,fK,rfl⟩:=To.mp hx;exact(Paired.Fw rel fK hk1).2
 exact⟨.ref s.heap.objs.size,_,I.laid (o:=.lst _) (t':=tk) hk (Ro _) ⟨by rw[Rr];exact z,acc'.toList,c',hv,by simpa using hS⟩,rfl,q _ (I.cA.fresh (Ro _))⟩
def yg(v:Addr)(i j c:Int):HO:=.ext λh=>∃t u w,h.get? v=zS {cls:=.type "range",data:=.fields #[.int i t,.int j u,.int c w]}
def GW:List V->Hp->VK->Prop:=λxs H Q=>∃i j c,xs=[.int i,.int j,.int c]/\c≠0/\c.natAbs<18446744073709551616/\∀v,H v=zN->Q (.ref v) (upd H v (yg v i j c))
def DF:eP X (.type "range") GW:=by
 intro π s σ H xs us Q I r h;let⟨i,j,c,rfl,c0,c1,q⟩:=h
 cases r with
 |cons r rr=>
  cases rr with
  |cons r' rr=>
   cases rr with
   |cons r'' rr=>
    cases rr;let⟨t,rfl⟩:=r;let⟨t',rfl⟩:=r';let⟨t'',rfl⟩:=r'';refine call_range_3 c0 ?_ (.inl (YF (GU c1)));have hg:(s.heap.push {cls:=.type "range",data:=.fields #[.int i t,.int j t',.int c t'']}).get? s.heap.objs.size=zS {cls:=.type "range",data:=.fields #[.int i t,.int j t',.int c t'']}:=RN _ rfl;exact⟨.ref s.heap.objs.size,_,I.laid (a:=s.heap.objs.size) (o:=yg s.heap.objs.size i j c) (t':=s.toks) (λ_ _ e=>Rt _ e) (Ro _) ⟨⟨t,t',t'',hg⟩,⟨_,hg⟩,λh1 h2⟨t,u,w,p⟩ k=>⟨t,u,w,k _ p⟩⟩,rfl,q _ (I.cA.fresh (Ro _))⟩
def Kd:List V->Hp->VK->Prop:=λxs H Q=>∃(v:Addr)(i j c:Int)(n:Nat),xs=[V.ref v]/\H v=zS (yg v i j c)/\W7 i j c=true/\VQ i j c=n/\n<=2^20/\
 ∀l,H l=zN->Q (.ref l) (upd H l (.lst ((RM n).map λ(k:Nat)=>V.int (i+(k:Int)*c))))
def Fx(hc:X.calm=true):eP X (.type "list") Kd:=by
 intro π s σ H xs us Q I r h;let⟨v,i,j,c,n,rfl,hv,hsm,hsz,hn,q⟩:=h;let⟨u,rfl,ru⟩:=vals1 r;cases ru;let⟨⟨t,t',t'',hg⟩,_⟩:=(show dz X.prog X.w H s.heap v (yg v i j c)from I.cA v _ hv);refine call_list_range (I.ok.hd hc) hg hsm hsz (RO hn (by decide)) λh' tk acc' c' hk hS hacc=>?_;have hv:Vals ((RM n).map λ(k:Nat)=>V.int (i+(k:Int)*c)) acc'.toList:=by refine uf (by rw[Rr,TM];exact hacc.1.symm.trans (SJ).symm) λk x u hx hu=>?_;let⟨t,rfl⟩:=hacc.2 k u (by rw[<-VT];exact hu);rw[RW]at hx;let⟨kk,fK,rfl⟩:=To.mp hx;let⟨hlt,e⟩:=RE.mp fK;rw[XF]at e;subst e;exact⟨t,rfl⟩
 have hz:((RM n).map λ(k:Nat)=>V.int (i+(k:Int)*c)).length<=aac:=by rw[Rr,TM];exact RO hn (by decide)
 exact⟨.ref s.heap.objs.size,_,I.laid (o:=.lst _) (t':=tk) hk (Ro _) ⟨hz,acc'.toList,c',hv,by simpa using hS⟩,rfl,q _ (I.cA.fresh (Ro _))⟩
def vd(K:Rl):V->List V->Hp->VK->Prop:=λx xs H Q=>∃(a:Addr)(ns:List Int)(k:Int),x=V.ref a/\xs=[.int k]/\cD K H a (ns.map V.int)/\Q (.int (ns.count k:Nat)) H
def qI:Qk X "list.count" (vd X.K):=by intro π s σ H x xs v us Q I rx rxs h;let⟨a,ns,k,rfl,rfl,hs,q⟩:=h;cases rx;let⟨u,rfl,t,rfl⟩:=vals1 rxs;let⟨aR,rv,pl,hz⟩:=I.list hs;exact count_list_ints pl.isList rv.ints ⟨.int _,H,I.tok _,⟨_,rfl⟩,q⟩
end
variable{J:It}{n:Nat}{σ:St}{g:TG}
def qJ{tb:TS}{D:Ends}{H:Hp}(Pv:Nat->St->Hp->Prop)(h0:Pv 0 σ H)(hgo:∀i σ H,i<n->Pv i σ H->J.go i H)(hstop:∀σ H,Pv n σ H->J.stop n H)(hs:∀i σ H x H',i<n->Pv i σ H->J.HA i H x H'->g x σ H' λσ2 H2=>tb {D with nx:=Pv (i+1),ct:=Pv (i+1),bk:=D.nx} σ2 H2)(hd:∀σ H,Pv n σ H->D.nx σ H):∃W:Nat->Nat->St->Hp->Prop,(∃m,W 0 m σ H)/\∀i m σ H,W i m σ H->(J.stop i H/\D.nx σ H)\/(J.go i H/\∃N:St->Hp->Prop,(∀σ' H',N σ' H'->∃m',m'<m/\W (i+1) m' σ' H')/\∀x H',J.HA i H x H'->g x σ H' λσ2 H2=>tb {D with nx:=N,ct:=N,bk:=D.nx} σ2 H2):=by
 refine⟨λi m σ H=>m=n-i/\i<=n/\Pv i σ H,⟨n,by simp,SO _,h0⟩,?_⟩;rintro i m σ H ⟨rfl,hi,p⟩;by_cases hlt:i<n
 .exact .inr ⟨hgo i σ H hlt p,Pv (i+1),λσ' H' p'=>⟨n-(i+1),by omega,rfl,hlt,p'⟩,λx H' y=>hs i σ H x H' hlt p y⟩
 .have e:i=n:=by omega
  subst e;exact .inl ⟨hstop σ H p,hd σ H p⟩
variable{te:TE}
def NZ{tt:TT}{vs:List Nat}{H1:Hp}{D:Addr}{Qd:Hp->Prop}(Pv:Nat->Hp->Prop)(h0:Pv 0 (upd H1 D (.lst [])))(hgo:∀i H,i<n->Pv i H->J.go i H)(hstop:∀H,Pv n H->J.stop n H)(hs:∀i H x H',i<n->Pv i H->J.HA i H x H'->g x (wipe σ vs) H' λσ2 H2=>wipe σ2 vs=wipe σ vs/\tt σ2 H2 λb H3=>if b=true then te σ2 H3 λy H4=>∃acc,H4 D=zS (.lst acc)/\acc.length<aac/\Pv (i+1) (upd H4 D (.lst (acc++[y])))else Pv (i+1) H3)(hd:∀H,Pv n H->Qd H):∃W:Nat->Nat->Hp->Prop,(∃m,W 0 m (upd H1 D (.lst [])))/\∀i m H,W i m H->(J.stop i H/\Qd H)\/(J.go i H/\∃Nx:Hp->Prop,(∀H',Nx H'->∃m',m'<m/\W (i+1) m' H')/\∀x H',J.HA i H x H'->g x (wipe σ vs) H' λσ2 H2=>wipe σ2 vs=wipe σ vs/\tt σ2 H2 λb H3=>if b=true then te σ2 H3 λy H4=>∃acc,H4 D=zS (.lst acc)/\acc.length<aac/\Nx (upd H4 D (.lst (acc++[y])))else Nx H3):=by
 refine⟨λi m H=>m=n-i/\i<=n/\Pv i H,⟨n,by simp,SO _,h0⟩,?_⟩;rintro i m H ⟨rfl,hi,p⟩;by_cases hlt:i<n
 .exact .inr ⟨hgo i H hlt p,Pv (i+1),λH' p'=>⟨n-(i+1),by omega,rfl,hlt,p'⟩,λx H' y=>hs i H x H' hlt p y⟩
 .have e:i=n:=by omega
  subst e;exact .inl ⟨hstop H p,hd H p⟩
variable{e o:Expr}{apos cpos:Pos}{td:TE}
section
variable{X:Cx}
def w8(t:TE):TE:=λσ H Q=>t σ H λv H1=>∃d u,v=.ref d/\H1 d=zS u/\JC (zS u)/\∀od,Q v (upd H1 d (.fg od u))
def Ba{t:TE}(h:PE X e t):PE X e (w8 t):=by intro π s σ H Q I hw;refine du (h π s σ H _ I hw) λv s1⟨x,H1,I1,r,d,u,ex,hd,mu,q⟩=>?_;let⟨od,I2⟩:=I1.lock hd mu;exact⟨x,_,I2,r,q od⟩
def DG(td te:TE):TE:=λσ H Q=>td σ H λx H1=>∃a,x=.ref a/\J6 H1 a/\te σ H1 λy H2=>∃b kvs more,y=.ref b/\a≠b/\H2 a=zS (.dK kvs)/\Rd H2 b (.dK more)/\kvs.length+more.length<=aac/\Q .d7 (upd H2 a (.dK (gu kvs more)))
def KV.merged{kvs more:List (Key×V)}{vs ms:List (Key×Value)}(r:KV kvs vs)(m:KV more ms):KV (gu kvs more) (PySem.merged vs ms):=by exact m.merge r
def B5(ho:PE X o td)(he:PE X e te)(m:M1 X o "update" apos e cpos):PE X (.Call (.Attribute o "update" apos) [e] [] cpos) (DG td te):=by
 intro π s σ H Q I h;refine aaK m.base m.OB m.line UO YH PySem.F.type_dict_update (du (ho π s σ H _ I h) λu s1⟨x,H1,I1,rx,a,ex,d,q1⟩=>?_);subst ex;obtain rfl:u=RF a:=rx;let⟨t1,t2,_⟩:=x9 I1 d;refine⟨t1,t2,?_⟩;rw[m.trees];refine TV rfl (UJ (Tw (du (he π s1 σ H1 _ I1 q1) λiv s2⟨y,H2,I2,ry,b,kvs,more,ey,hab,ea,eb,hz,q2⟩=>UH ?_)));subst ey;cases ry;let⟨z,hd,vs,rel,dd⟩:=Dy I2.cA ea;let⟨z',hd',vs',rel',dd'⟩:=mF I2.cA eb;have l1:=Sv rel;have l2:=Sv rel';refine aaJ YH dd.typeIs PySem.F.entry_dict_update (PySem.F.args_dict_update_2 _ _) (meets_dict_update (cB X.prog X.w) a b hab hd') ⟨vs,vs',dd,dd',by omega,λh' e1 e2 hs=>?_⟩;have hlen:(gu kvs more).length<=aac:=by have:=lU more kvs;omega
 have he':∃q,h'.get? a=zS q:=let⟨q,_,_,hq,_⟩:=e1;⟨q,hq⟩;exact⟨.d7,_,nj (t':=s2.toks) I2 (by rw[ea];exact True.intro) hs he' (x8 hlen hd (rel.merged rel') e1),rfl,q2⟩
def B6(td ty tx:TE):TE:=λσ H Q=>td σ H λx H1=>∃a,x=.ref a/\J6 H1 a/\ty σ H1 λy H2=>tx σ H2 λz H3=>∃kvs k,H3 a=zS (.dK kvs)/\y=kV k/\kvs.length<aac/\
 (∀v,aI kvs k=zS v->Q v H3)/\(aI kvs k=zN->Q z (upd H3 a (.dK (putK kvs k z))))
def DH{f:Expr}{ty tx:TE}(hu:X.A.units+1<cLine)(ho:PE X o td)(he:PE X e ty)(hf:PE X f tx)(m:M2 X o "setdefault" apos e f cpos):PE X (.Call (.Attribute o "setdefault" apos) [e,f] [] cpos) (B6 td ty tx):=by
 intro π s σ H Q I h;refine aaK m.base m.OB m.line UO YI PySem.F.type_dict_setdefault (du (ho π s σ H _ I h) λu s1⟨x,H1,I1,rx,a,ex,d,q1⟩=>?_);subst ex;obtain rfl:u=RF a:=rx;let⟨t1,t2,_⟩:=x9 I1 d;refine⟨t1,t2,?_⟩;rw[m.trees]
 refine TV rfl (UJ (Tw (du (he π s1 σ H1 _ I1 q1) λiv s2⟨y,H2,I2,ry,q2⟩=>
  Tw (du (hf π s2 σ H2 _ I2 q2) λfv s3⟨z,H3,I3,rz,kvs,k,ea,ey,hz,q3,q4⟩=>UH ?_))))
 subst ey;let⟨z0,hd,vs,rel,dd⟩:=Dy I3.cA ea;have l1:=Sv rel;refine aaJ YI dd.typeIs PySem.F.entry_dict_setdefault (PySem.F.args_dict_setdefault_3 _ _ _) (kt_meets_setdefault (cB X.prog X.w) a (ua ry) hd fv) ⟨vs,dd,by omega,λw' hw=>?_,λhn h' e1 hs=>?_⟩
 .have r:=rel.val k;rw[hw]at r
  cases hk:aI kvs k with
  |none=>rw[hk]at r;exact False.elim r
  |some v=>rw[hk]at r;exact⟨v,H3,I3.tok _,r,q3 v hk⟩
 .have r:=rel.val k;rw[hn]at r
  cases hk:aI kvs k with
  |some v=>rw[hk]at r;exact False.elim r
  |none=>
   have he':∃q,h'.get? a=zS q:=let⟨q,_,_,hq,_⟩:=e1;⟨q,hq⟩;have hl:(putK kvs k z).length<=aac:=by have:=gt kvs k z;omega
   exact⟨z,_,nj I3 (by rw[ea];exact True.intro) hs he' (x8 hl hd (rel.put k rz) e1),rz,q4 hk⟩
end
abbrev NK:=Int×List Int
def oo(H:Hp)(c:Addr)(k:NK):Prop:=∃b,H c=zS (.tup [.int k.1,.ref b])/\H b=zS (.tup (k.2.map V.int))
abbrev KN(H:Hp):List (NK×V)->List (NK×Addr×Value)->Prop:=Paired λp q=>p.1=q.1/\(∃b,H q.2.1=zS (.tup [.int p.1.1,.ref b])/\H b=zS (.tup (p.1.2.map V.int)))/\RelV p.2 q.2.2
variable{H:Hp}{xs:List (NK×Addr×Value)}{kvs:List (NK×V)}
def KN.val(r:KN H kvs xs)(k:NK):lS (aI kvs k) ((atKey xs k).map (·.2)):=by
 induction r with
 |nil=>exact True.intro
 | @cons p q ps qs h t ih=>
  let⟨h1,_,h2⟩:=h;by_cases e:p.1=k
  .have e':q.1=k:=h1.symm.trans e;have b:atKey (q::qs) k=zS q.2:=by simp[atKey,TX,e']
   rw[dA e,b];exact h2
  .have e':¬q.1=k:=λz=>e (h1.trans z);have b:atKey (q::qs) k=atKey qs k:=by simp[atKey,TX,e']
   rw[dB e,b];exact ih
variable{y:V}{u:Value}
def KN.J2(r:KN H kvs xs)(k:NK)(ry:RelV y u):KN H (kvs.map λkv=>if kv.1=k then(kv.1,y)else kv) (xs.map (putAt k u)):=by
 induction r with
 |nil=>exact .nil
 | @cons p q ps qs h t ih=>
  rw[RS,RS];refine .cons ?_ ih;let⟨h1,h2,h3⟩:=h;unfold putAt;by_cases e:p.1=k
  .rw[ag e,ag (h1.symm.trans e)];exact⟨h1,h2,ry⟩
  .rw[ae e,ae (λz=>e (h1.trans z))];exact⟨h1,h2,h3⟩
def KN.put(r:KN H kvs xs)(k:NK){b:Addr}(hb:oo H b k)(ry:RelV y u):KN H (putK kvs k y) (storedH xs k b u):=by
 have e:(kvs.any λkv=>decide (kv.1=k))=(atKey xs k).isSome:=by rw[fw,(r.val k).jg,Uc]
 unfold putK storedH;rw[e];by_cases q:(atKey xs k).isSome=true
 .rw[ag q,ag q];exact r.J2 k ry
 .rw[ae q,ae q];exact Tz r ⟨rfl,hb,ry⟩
def KN.keeps{H':Hp}(r:KN H kvs xs)(ht:∀b ys,H b=zS (.tup ys)->H' b=zS (.tup ys)):KN H' kvs xs:=
 Paired.j9 r λ_ _ z=>⟨z.1,let⟨b,h1,h2⟩:=z.2.1;⟨b,ht _ _ h1,ht _ _ h2⟩,z.2.2⟩
variable{P:ZV}{w:World}
def yh:∀{ns:List Int}{us:List Value},Vals (ns.map V.int) us->ItemsAre (ZX P w) ns us
 |[],_,r=>by rw[Vo]at r;cases r;exact .nil
 |k::ks,_,r=>by
  rw[RS]at r
  cases r with
  |cons h t=>
   let⟨t0,rfl⟩:=h;exact .cons (by simp[ZX,UE]) (yh t)
section
variable{P:ZV}{w:World}{H:Hp}{h:Heap}{a:Addr}
def w9{k:NK}(ok:oC P w H h)(e:oo H a k):(mx P w).is h k a:=by
 let⟨b,e1,e2⟩:=e;let⟨_,aR,r,o,h1,h2,n,h3⟩:=(show dz P w H h a (.tup [.int k.1,.ref b])from ok a _ e1);let⟨_,its',r',o',h1',h2',n',h3'⟩:=(show dz P w H h b (.tup (k.2.map V.int))from ok b _ e2)
 cases r with
 |cons r1 r2=>
  cases r2 with
  |cons r3 r4=>
   cases r4;let⟨t,rfl⟩:=r1;cases r3;exact⟨o,_,n,b,t,h1,h2,h3,rfl,o',_,n',h1',h2',h3',by simpa using yh r'⟩
def GX(ok:oC P w H h)(e:Rd H a (.dN kvs)):kvs.length<=aac/\(a==aad)=false/\∃xs,KN H kvs xs/\h.DictOfH (mx P w) a xs:=by
 let⟨z,y,xs,r,o,es,ep,h1,h2,h3,h4,h5⟩:=(show dz P w H h a (.dN kvs)from J4 ok e);refine⟨z,y,xs,r,o,es,ep,h1,h2,h3,h4,λx hx=>?_,h5⟩;have all:∀{l:List (NK×V)}{m:List (NK×Addr×Value)},KN H l m->∀x∈m,(mx P w).is h x.1 x.2.1:=by
  intro l m q
  induction q with
  |nil=>intro x hx;exact nomatch hx
  | @cons p q ps qs hq t ih=>
   intro x hx;obtain e|hx:=Rn.mp hx
   .subst e;refine w9 ok ?_;rw[<-hq.1];exact hq.2.1
   .exact ih x hx
 exact all r x hx
end
def ve{A:ZZ}(hu:A.units+64<cLine):(mx P w).room A.in1:=by show A.units+1+4<cLine;omega
def yi(ty td:TE):TE:=λσ H Q=>ty σ H λy H1=>td σ H1 λx H2=>∃a kvs c k,x=.ref a/\y=.ref c/\H2 a=zS (.dN kvs)/\oo H2 c k/\Q (.bl (!(aI kvs k).isSome)) H2
def Fy(td ty:TE):TE:=λσ H Q=>td σ H λx H1=>ty σ H1 λy H2=>∃a kvs c k v,x=.ref a/\y=.ref c/\H2 a=zS (.dN kvs)/\oo H2 c k/\aI kvs k=zS v/\Q v H2
def Fz(td ty tv:TE):TS:=λD σ H=>tv σ H λv H1=>td σ H1 λx H2=>ty σ H2 λy H3=>∃a kvs c k,x=.ref a/\y=.ref c/\H3 a=zS (.dN kvs)/\oo H3 c k/\kvs.length<aac/\D.nx σ (upd H3 a (.dN (putK kvs k v)))
def FA(td:TE):TE:=λσ H Q=>td σ H λx H1=>∃a kvs,x=.ref a/\H1 a=zS (.dN kvs)/\Q .d7 (upd H1 a (.dN []))
def Ke:TE:=λ_ H Q=>∀p,H p=zN->Q (.ref p) (upd H p (.dN []))
section
variable{X:Cx}{o i e value:Expr}{pos pos' tpos:Pos}{td ty tv:TE}
def FB(hu:X.A.units+64<cLine)(hi:PE X i ty)(ho:PE X o td):PC X .NotIn i o (yi ty td):=by intro π s σ H Q I h;refine du (hi π s σ H _ I h) λiv s1⟨y,H1,I1,ry,q1⟩=>du (ho π s1 σ H1 _ I1 q1) λu s2⟨x,H2,I2,rx,a,kvs,c,k,ex,ey,ha,hk,q2⟩=>?_;subst ex ey;cases rx;cases ry;let⟨z,hd,xs,rel,dd⟩:=GX I2.cA (.inl ha);refine wpAny_notIn_heap (ve hu) (w9 I2.cA hk) hd dd ?_;have q:=(rel.val k).jg;rw[Uc]at q;rw[<-q];exact⟨.bl _,H2,I2.tok _,rfl,q2⟩
def Kf(hu:X.A.units+64<cLine)(ho:PE X o td)(hi:PE X i ty)(hs:NV i):PE X (.Subscript o i pos) (Fy td ty):=by intro π s σ H Q I h;refine GP Yn.lookup hs (du (ho π s σ H _ I h) λu s1⟨x,H1,I1,rx,q1⟩=>du (hi π s1 σ H1 _ I1 q1) λiv s2⟨y,H2,I2,ry,a,kvs,c,k,v,ex,ey,ha,hk,hv,q2⟩=>?_);subst ex ey;cases rx;cases ry;let⟨z,hd,xs,rel,dd⟩:=GX I2.cA (.inl ha);refine⟨dd.typeIs,?_⟩;let⟨w',hw,rw'⟩:=lS.some_of (v:=v) (o:=(atKey xs k).map (·.2)) (by rw[<-hv];exact rel.val k);let⟨p,hp,hp2⟩:=To.mp hw;refine wpAny_getItem_heap (ve hu) (w9 I2.cA hk) dd hp ?_;rw[hp2];exact⟨v,H2,I2.tok _,rw',q2⟩
def Kg(hu:X.A.units+64<cLine)(ho:PE X o td)(hi:PE X i ty)(hv:PE X value tv)(hs:aal value (zS (.Subscript o i pos')) pos.line X.env=pure false):PS X (.Assign [.Subscript o i pos'] value pos) (Fz td ty tv):=by
 intro π s σ H D I h;refine wpAny_Assign_Subscript (du (hv π s σ H _ I h) λr s1⟨v,H1,I1,rv,q1⟩=>du (ho π s1 σ H1 _ I1 q1) λu s2⟨x,H2,I2,rx,q2⟩=>du (hi π s2 σ H2 _ I2 q2) λiv s3⟨y,H3,I3,ry,a,kvs,c,k,ex,ey,ha,hk,hl,q3⟩=>?_) hs;subst ex ey;cases rx;cases ry;let⟨z,hd,xs,rel,dd⟩:=GX I3.cA (.inl ha);have hz:xs.length<=aac:=by rw[<-Sv rel];exact z
 have hl2:(putK kvs k v).length<=aac:=by have:=gt kvs k v;omega
 refine wpAny_setItem_heap (hsz:=hz) (ve hu) (w9 I3.cA hk) dd λh' dd' hs=>?_;let⟨q,es,ep,hq,h2,h3,h4,_,h5⟩:=dd';refine⟨σ,_,nj (ob:=.dN (putK kvs k v)) I3 (by rw[ha];exact True.intro) hs ⟨q,hq⟩ ⟨hl2,hd,_,(rel.put k hk rv).keeps λc ys ec=>?_,q,es,ep,hq,h2,h3,h4,h5⟩,q3⟩;rw[ab (aQ ec ha (λz=>nomatch z))];exact ec
def ug{prog:ZV}{K:Type} [DecidableEq K](knd:HeapKind prog w K)(d:Addr):MeetsIn prog w (Z7.«dict.clear» ⟨[.ref d],[]⟩) (λ_ R s=>∃xs,s.heap.DictOfH knd d xs/\xs.length<=aac/\∀h',h'.DictOfH knd d []->Tu d s.heap h'->R (.ok (.ret .none)) {s with heap:=h'}):=
 .of_wp λA R s⟨xs,hm,hsz,h⟩=>by
  let⟨o,es,ep,ho,hc,hdat,he,hk,hn⟩:=id hm;have hes:es.size<=aac:=by rw[size_of_entries he];exact hsz
  unfold Z7.«dict.clear»;refine Z0 ?_;unfold ZS;refine Z0 (wpAny_notOrdered_dict hm.typeIs ?_);show wpAny _ _ (pure d) _ _ s;refine Z5 ?_;refine Z0 (aaM ho hdat ?_);refine Z0 ?_;unfold bearsInstanceDictMark;refine Z0 (wpAny_load ho (Z5 ?_));refine Z0 (wpAny_updateDictKeys (hz:=hes) ho hdat ?_)
  have hnew:(s.heap.update d (Obj.mapDictKeys λ_=> #[])).DictOfH knd d []:=
   ⟨_,_,ep+1,Vk _ ho (Obj.isFreed_of_dict (YJ hdat _)),hc.mapDictKeys _,YJ hdat _,rfl,λ_ he=>by simp at he,SI⟩
  split
  .exact Z0 (aaT (Z5 ⟨.none,rfl,h _ hnew (UQ ..)⟩))
  .exact Z0 (Z5 (Z5 ⟨.none,rfl,h _ hnew (UQ ..)⟩))
def Kh{apos cpos:Pos}(ho:PE X o td)(hbase:aau o "clear" X.env (eval o X.env)=eval o X.env:=by rfl)(hline:(apos.endLine==cpos.line)=true:=by rfl):PE X (.Call (.Attribute o "clear" apos) [] [] cpos) (FA td):=by
 intro π s σ H Q I h;refine wpAny_Call_method0_late hbase hline (du (ho π s σ H _ I h) λv s1⟨x,H1,I1,r1,a,kvs,ex,ha,q1⟩=>?_);subst ex;cases r1;let⟨z,hd,xs,rel,dd⟩:=GX I1.cA (.inl ha);have hz:xs.length<=aac:=by rw[<-Sv rel];exact z
 refine⟨"dict","dict.clear",UO,YK,PySem.F.type_dict_clear,dd.typeIs,λb e=>?_,TV rfl (Vm ?_)⟩
 .cases e;let⟨o,_,_,h1,h2,_⟩:=dd;exact⟨o,h1,h2.2.1⟩
 .refine aaJ YK dd.typeIs PySem.F.entry_dict_clear (PySem.F.args_dict_clear_1 _) (ug (mx X.prog X.w) a) ⟨xs,dd,hz,λh' dd' hs=>?_⟩;let⟨q,es,ep,hq,h2,h3,h4,_,h5⟩:=dd';exact⟨.d7,_,nj (ob:=.dN []) (t':=s1.toks) I1 (by rw[ha];exact True.intro) hs ⟨q,hq⟩ ⟨SO _,hd,[],.nil,q,es,ep,hq,h2,h3,h4,h5⟩,rfl,q1⟩
def Ki:PE X (.Dict [] [] pos) Ke:=λπ s σ H Q I h=>
 wpAny_Dict_empty ⟨.ref s.heap.objs.size,_,I.laid (a:=s.heap.objs.size) (o:=.dN []) (t':=s.toks) (λ_ _ q=>Rt _ q) (Ro _)
  ⟨SO _,beq_eq_false_iff_ne.mpr (SY (Sd I.big)),[],.nil,_,#[],0,RN _ rfl,⟨rfl,rfl,rfl⟩,rfl,rfl,SI⟩,rfl,h _ (I.cA.fresh (Ro _))⟩
end
end L2
namespace PySem
namespace AutoSeq1
set_option maxRecDepth 8000 in theorem mJ (l:Addr) (items:Array Value) (n:Nat) (b:Addr) (items2:Array Value) (n2:Nat) (dd:Option Addr) (sl:Array (Option Value)) (hs0:¬(!items.isEmpty&&UK (items.size+items2.size))=true) (hs1:items.size<=aac) (hs2:items.size+items2.size<=aac+1):Meets (Z7.«list.extend» ⟨[.ref l,.ref b],[]⟩) (λ_ R s=>s.heap.get? l=zS {cls:=.type "list",dict:=zN,data:=.seq items n,slots:= #[]}/\s.heap.get? b=zS {cls:=.type "tuple",dict:=dd,data:=.seq items2 n2,slots:=sl}/\R (.ok (.ret S8)) {s with heap:=s.heap.update l (Um λx=>x++items2),toks:=s.toks}):=
 .of_wp λprog w A R s h=>by
  let⟨hp,g,d,tk,os⟩:=s;let⟨hl,hb,h⟩:=h;have f1:=idx_int;have f2:=sub_tuple_tuple;have f3:=sub_list_list;have f4:=sub_tuple_list;have f5:=sub_list_tuple;have hz':(items++items2).size<=aac+1:=by rw[Array.size_append];exact hs2
  wp_walk using(wpAny_updateSeq hl rfl (hz:=hs1) (_hz':=hz')),wpAny_loadPart' hl,wpAny_loadPart' hb;exact⟨_,rfl,h⟩
end AutoSeq1
end PySem
namespace L2
open PySem PySem.Spec PyProof.Rows
variable{l:Addr}{A:ZZ}{ns:List Int}{aR:List Value}{prog:ZV}{s:ZW}{E Q:Value->ZW->Prop}{w:World}
section
variable{X:Cx}
def kS(K:Rl):V->List V->Hp->VK->Prop:=λx vs H Q=>∃l b xs zs,x=.ref l/\vs=[.ref b]/\H l=zS (.lst xs)/\km K H b zs/\xs.length+zs.length<=aac/\Q .d7 (upd H l (.lst (xs++zs)))
def kT:Qm X "list.extend" (kS X.K):=by
 intro π s σ H x vs v us Q I rx rv h;let⟨l,b,xs,zs,rfl,rfl,hH,hB,hz,q⟩:=h;cases rx;let⟨u,rfl,ru⟩:=rv.one;cases ru;let⟨z,aR,n,r,hl,e⟩:=I.Dr hH;let⟨its2,r2,⟨⟨c2,dd,dat,sl⟩,e2,hc2,n2,hd2⟩,z2⟩:=I.tuple hB;simp only at hc2 hd2;subst hc2 hd2;have hl2:=r2.length;have hsz:aR.toArray.size+its2.toArray.size<=aac:=by rw[RT,RT];omega
 have hlong:¬(!aR.toArray.isEmpty&&UK (aR.toArray.size+its2.toArray.size))=true:=by rw[x4 hsz,Yg];exact R5
 refine aaA Yh ⟨_,e,rfl⟩ Yi (Yj _ _)
  (AutoSeq1.mJ l aR.toArray n b its2.toArray n2 dd sl hlong (by rw[RT];omega) (by omega)) ⟨e,e2,?_⟩
 refine⟨.d7,_,I.LM (its':=aR++its2) hH e (by simp) (r.append r2) ?_,rfl,q⟩;rw[RH];omega
def distinct(ns:List Int):Nat:=(firstMet (λi=>ns.getD i 0) ns.length).length
def Kj(K:Rl):List V->Hp->VK->Prop:=λxs H Q=>∃(a:Addr)(ns:List Int),xs=[V.ref a]/\cD K H a (ns.map V.int)/\ns.length+1<4096/\∀p S,H p=zN->Q (.ref p) (upd H p (.set S (distinct ns)))
def FC(hc:X.calm=true):eP X (.type "set") (Kj X.K):=by
 intro π s σ H xs us Q I r h;let⟨a,ns,rfl,ha,hb,q⟩:=h;let⟨u,rfl,ru⟩:=vals1 r;cases ru;let⟨aR,rv,pl,hz⟩:=I.list ha;have hlen:=rv.ints.length;have hsz:aR.toArray.size=ns.length:=by rw[RT];exact hlen
 refine call_set_list (items:=aR.toArray) (ns:=ns) (I.ok.hd hc) pl.isList (by simpa using rv.ints) (by rw[hsz];exact hb) λh' tk hS hk=>?_;rw[hsz]at hS;exact⟨.ref s.heap.objs.size,_,I.laid (o:=.set _ (distinct ns)) (t':=tk) (λb o e=>hk b o (Rw e) e) (Ro _) hS,rfl,q _ _ (I.cA.fresh (Ro _))⟩
def MP:List V->Hp->VK->Prop:=λxs H Q=>∃a S n,xs=[V.ref a]/\H a=zS (.set S n)/\Q (.int (n:Int)) H
def Ii:eP X (.builtin "len") MP:=by intro π s σ H xs us Q I r h;let⟨a,S,n,rfl,ha,q⟩:=h;let⟨u,rfl,ru⟩:=vals1 r;cases ru;let⟨o,es,ep,t,ho,hex,hd,_,_,hb,hf,hn⟩:=(show dz X.prog X.w H s.heap a (.set S n)from I.cA a _ ha);refine call_len_set ho hex hd hf (by have:es.size<4096:=hb;omega) ⟨.int (n:Int),H,I.tok _,⟨_,by rw[hn]⟩,q⟩
def Kk(hh:A.handled=zN)(hl:s.heap.IsTuple l aR.toArray)(hi:IntsAre aR ns)(hne:0<ns.length)(h:∀h' tk M t',(∀b o,s.heap.get? b=zS o->h'.get? b=zS o)->M∈ns->(∀a,a∈ns->a<=M)->Q (.int M t') {s with heap:=h',toks:=tk}):wpAny (model prog w) A (call (.builtin "max") [.ref l]) Q E s:=by
 let⟨xs,e⟩:=hi.allInts.items;have hn:numsOf (aaB xs).toList=ns:=by rw[<-e];exact hi.numsOf
 rw[nums_intItems]at hn;subst hn;rw[e]at hl;have hsz:0<xs.size:=by simpa using hne
 have hlt:l<s.heap.objs.size:=by let⟨_,e,_⟩:=hl;exact Rw e
 refine call_max_walk (wpAny_pyIter_tuple hl ?_);refine⟨_,[_,l],[_],_,_,_,_,rfl,YL (A:=A.in1) hh _ l (Sd hlt) (aaB xs),⟨⟨_,RN _ rfl,rfl,rfl⟩,hl.push _⟩,λb hb=>?_,by simpa [aaB]using hsz,CmpOf.ints_gt (numAt xs) (λ_ _=>aaC),λv h' tk hP hk=>?_⟩
 .show b<(s.heap.push _).objs.size;rw[R_];obtain rfl|hb:=Rn.mp hb
  .exact Vi _
  .obtain rfl|hb:=Rn.mp hb
   .exact Vq hlt
   .cases hb
 .have hv:(aaB xs)[argBest (λi j=>decide (numAt xs i>numAt xs j)) (xs.size-1)]?=zS v:=by simpa [aaB]using hP
  let⟨t,rfl⟩:=aaC hv;let⟨h1,h2⟩:=argBest_gt (numAt xs) (xs.size-1);refine h h' tk _ t (λb o e=>hk b o (λhm=>?_) (Rt _ e)) ?_ λa ha=>?_
  .have e1:=Sb.mp hm;exact absurd (e1▸Rw e) (Te _)
  .rw[aaD];exact VU (by rw[Rr,SJ];omega)
  .let⟨j,hj,rfl⟩:=mem_getD ha;rw[Rr,SJ]at hj;rw[<-aaD];exact h2 j (by omega)
def Kl(hh:A.handled=zN)(hl:s.heap.IsTuple l aR.toArray)(hi:IntsAre aR ns)(hne:0<ns.length)(h:∀h' tk M t',(∀b o,s.heap.get? b=zS o->h'.get? b=zS o)->M∈ns->(∀a,a∈ns->M<=a)->Q (.int M t') {s with heap:=h',toks:=tk}):wpAny (model prog w) A (call (.builtin "min") [.ref l]) Q E s:=by
 let⟨xs,e⟩:=hi.allInts.items;have hn:numsOf (aaB xs).toList=ns:=by rw[<-e];exact hi.numsOf
 rw[nums_intItems]at hn;subst hn;rw[e]at hl;have hsz:0<xs.size:=by simpa using hne
 have hlt:l<s.heap.objs.size:=by let⟨_,e,_⟩:=hl;exact Rw e
 refine call_min_walk (wpAny_pyIter_tuple hl ?_);refine⟨_,[_,l],[_],_,_,_,_,rfl,YL (A:=A.in1) hh _ l (Sd hlt) (aaB xs),⟨⟨_,RN _ rfl,rfl,rfl⟩,hl.push _⟩,λb hb=>?_,by simpa [aaB]using hsz,CmpOf.ints_lt (numAt xs) (λ_ _=>aaC),λv h' tk hP hk=>?_⟩
 .show b<(s.heap.push _).objs.size;rw[R_];obtain rfl|hb:=Rn.mp hb
  .exact Vi _
  .obtain rfl|hb:=Rn.mp hb
   .exact Vq hlt
   .cases hb
 .have hv:(aaB xs)[argBest (λi j=>decide (numAt xs i<numAt xs j)) (xs.size-1)]?=zS v:=by simpa [aaB]using hP
  let⟨t,rfl⟩:=aaC hv;let⟨h1,h2⟩:=argBest_lt (numAt xs) (xs.size-1);refine h h' tk _ t (λb o e=>hk b o (λhm=>?_) (Rt _ e)) ?_ λa ha=>?_
  .have e1:=Sb.mp hm;exact absurd (e1▸Rw e) (Te _)
  .rw[aaD];exact VU (by rw[Rr,SJ];omega)
  .let⟨j,hj,rfl⟩:=mem_getD ha;rw[Rr,SJ]at hj;rw[<-aaD];exact h2 j (by omega)
def Km(K:Rl):List V->Hp->VK->Prop:=λvs H Q=>∃(a:Addr)(ns:List Int),vs=[V.ref a]/\km K H a (ns.map V.int)/\0<ns.length/\∀m,m∈ns->(∀y,y∈ns->y<=m)->Q (.int m) H
def Kn(K:Rl):List V->Hp->VK->Prop:=λvs H Q=>∃(a:Addr)(ns:List Int),vs=[V.ref a]/\km K H a (ns.map V.int)/\0<ns.length/\∀m,m∈ns->(∀y,y∈ns->m<=y)->Q (.int m) H
def Ij(hc:X.calm=true):eP X (.builtin "max") (Km X.K):=by intro π s σ H vs us Q I r h;let⟨a,ns,rfl,hs,hne,q⟩:=h;let⟨aR,rv,hl,_⟩:=I.tuple hs;rw[Vals.LN r];exact Kk (I.ok.hd hc) hl rv.ints hne λh' tk m t' hk h1 h2=>⟨.int _,H,I.kept hk,⟨_,rfl⟩,q m h1 h2⟩
def Ik(hc:X.calm=true):eP X (.builtin "min") (Kn X.K):=by intro π s σ H vs us Q I r h;let⟨a,ns,rfl,hs,hne,q⟩:=h;let⟨aR,rv,hl,_⟩:=I.tuple hs;rw[Vals.LN r];exact Kl (I.ok.hd hc) hl rv.ints hne λh' tk m t' hk h1 h2=>⟨.int _,H,I.kept hk,⟨_,rfl⟩,q m h1 h2⟩
end
end L2
namespace Nz
open PySem
open Sem (wp)
abbrev IsT(h:Heap)(T:Addr)(vs:Array Value):Prop:=h.get? T=zS {cls:=.type "tuple",data:=.seq vs}
def FD{h h':Heap}{a t i}(x:h.IsTupleIter a t i)(k:∀o,h.get? a=zS o->h'.get? a=zS o):h'.IsTupleIter a t i:=
 let⟨o,ho,r⟩:=x;⟨o,k o ho,r⟩
def yj(a b c:Value):checkTypeCall "zip" ⟨[a,b,c],[]⟩=pure ():=by kernel_rfl
def zK(a b c:Value):checkBuiltinCall "zip.__new__" ⟨[.type "zip",a,b,c],[]⟩=pure ():=by kernel_rfl
def ss(a b c d:Value):argsOk "object.__init__" ⟨[a,b,c,d],[]⟩:=by unfold argsOk;rw[signature?_of (id:="object.__init__") (n:=['_','_','t','i','n','i','_','_']) (o:=['t','c','e','j','b','o']) (by kernel_rfl) F.owner_object];kernel_rfl
variable{i1 i2 i3 l1 l2 l3 z:Addr}{xs1 xs2 xs3:Array Value}{k1 k2 k3:Nat}{x x1 x2 x3:Value}{Q:Value->ZW->Prop}
section
variable{prog:ZV}{w:World}{A:ZZ}{E:Value->ZW->Prop}{s:ZW}
def uh{it l:Addr}{i:Nat}{items}(hit:s.heap.IsTupleIter it l i)(hl:s.heap.IsTuple l items)(hx:items[i]?=zS x)(hQ:∀h',h'.IsTupleIter it l (i+1)->Tu it s.heap h'->Q x {s with heap:=h'}):wpAny (model prog w) A (TB (.ref it)) Q E s:=by
 let⟨o,ho,hc,hd⟩:=id hit;let⟨ol,hol,_,nl,hdl⟩:=hl;unfold TB
 refine Z0 (aaO (name:=Up "__next__") hit.typeIs YM
  (Z3 YM hit.typeIs F.entry_tuple_iterator_next ?_ (F.args_tuple_iterator_next_1 _)))
 show wpAny _ _ (field (.ref it) 0>>=_) _ _ s;refine Z0 (aaU ho hd (x:=.ref l) rfl ?_);show wpAny _ _ (if(RF l==S8)=true then _ else _) _ _ s;rw[ae (show¬((RF l==S8)=true)from R5)];show wpAny _ _ (field (.ref it) 1>>=_) _ _ s;refine Z0 (aaU ho hd (x:=.int i 0) rfl ?_);show wpAny _ _ (seqItems? (.ref l)>>=_) _ _ s;refine Z0 (aab hol hdl ?_);simp only[Sg,hx];refine Z0 (wpAny_setField ho hd (by simp) (Z5 ⟨x,rfl,Z5 (hQ _ ?_ (UQ ..))⟩));exact⟨_,Vk _ ho (Yx (VX hd _)),(Yy ..).trans hc,by rw[VX hd];simp[aaq]⟩
def jF{T:Addr}{vs:Array Value}{k:Nat}{Q:Unit->ZW->Prop}(hT:IsT s.heap T vs)(hv:vs.size<=4)(h:∀h',IsT h' T (vs.setIfInBounds k x)->Tu T s.heap h'->Q () {s with heap:=h'}):wpAny (model prog w) A (updateSeq T (·.setIfInBounds k x)) Q E s:=by
 have h4:4<=aac:=by decide
 refine wpAny_updateSeq hT rfl (h _ ?_ (UQ ..)) (RO hv h4) (by rw[Array.size_setIfInBounds];omega);show Heap.get? _ _=_;rw[Vk _ hT rfl];simp[Um]
structure OE(z TI TO i1 i2 l1 l2:Addr):Prop where
 Ko:TI≠z
 wD:TO≠z
 Kp:TO≠TI
 vf:i1≠z
 Kq:i1≠TI
 v0:i1≠TO
 B7:i2≠z
 Kr:i2≠TI
 v4:i2≠TO
 DI:i2≠i1
 Ks:l1≠z
 Pf:l1≠TO
 Pg:l1≠i1
 Ph:l1≠i2
 N1:l2≠z
 Kt:l2≠TO
 Ku:l2≠i1
 Pi:l2≠i2
def yk{TI TO:Addr}{a1 a2:Value}(D:OE z TI TO i1 i2 l1 l2)(hz:IsZip s.heap z TI TO .none)(hTI:IsT s.heap TI #[.ref i1,.ref i2])(hTO:IsT s.heap TO #[a1,a2])(h1:s.heap.IsListIter i1 l1 k1)(h2:s.heap.IsTupleIter i2 l2 k2)(hl1:s.heap.IsList l1 xs1)(hl2:s.heap.IsTuple l2 xs2)(hx1:xs1[k1]?=zS x1)(hx2:xs2[k2]?=zS x2)(hQ:∀h',IsZip h' z TI TO (aaq s.heap.objs.size)->IsT h' TO #[x1,x2]->h'.IsListIter i1 l1 (k1+1)->h'.IsTupleIter i2 l2 (k2+1)->IsT h' s.heap.objs.size #[x1,x2]->h'.objs.size=s.heap.objs.size+1->(∀c o,c≠z->c≠TO->c≠i1->c≠i2->s.heap.get? c=zS o->h'.get? c=zS o)->Q (.ref s.heap.objs.size) {s with heap:=h'}):wpAny (model prog w) A (Z7.«zip.__next__» ⟨[.ref z],[]⟩) (λfin s'=>∃v,fin=.done (.ret v)/\Q v s') E s:=by
 show wpAny _ _ (field (.ref z) 2>>=_) _ _ _;refine Z0 (aaU hz rfl (x:=.bool false) rfl ?_);show wpAny _ _ (field (.ref z) 3>>=_) _ _ _;refine Z0 (aaU hz rfl (x:=.ref TI) rfl ?_);refine Z0 (aab hTI rfl ?_);show wpAny _ _ (TY (.ref z)>>=_) _ _ _;refine Z0 ?_;unfold TY;refine Z0 (aaU hz rfl (x:=.none) rfl (Z5 ?_));simp only[if_true];refine Z0 (Z6 ?_);refine Z0 (aaU hz rfl (x:=.ref TO) rfl ?_);refine Z0 (aaV hz (by simp) λg0 hz0 hs0=>?_);replace hz0:IsZip g0 z TI TO .ellipsis:=hz0;refine Z0 ?_;simp only[V0,V1,Vp,UM];refine Z0 (Z0 (aaW ?_));show wpAny _ _ (TB (.ref i1)>>=_) _ _ _;refine Z0 (aaX (h1.extBut hs0.extBut D.vf) (hl1.extBut hs0.extBut D.Ks) hx1 λp1 hp1 sp1=>Z5 ?_);have hTp1:IsT p1 TO #[a1,a2]:=(sp1.extBut _ _ D.v0.symm (hs0.extBut _ _ D.wD hTO));refine Z0 (aab hTp1 rfl ?_);refine Z0 (jF hTp1 (show(_:Nat)<=4 by simp) λu1 hTu1 su1=>?_);replace hTu1:IsT u1 TO #[x1,a2]:=hTu1;refine Z0 (aaT (Z5 ?_));refine Z0 (Z0 (aaW ?_));show wpAny _ _ (TB (.ref i2)>>=_) _ _ _;refine Z0 (uh (((h2.extBut hs0.extBut D.B7).extBut sp1.extBut D.DI).extBut su1.extBut D.v4) (((hl2.extBut hs0.extBut D.N1).extBut sp1.extBut D.Ku).extBut su1.extBut D.Kt) hx2 λp2 hp2 sp2=>Z5 ?_);have hTp2:IsT p2 TO #[x1,a2]:=(sp2.extBut _ _ D.v4.symm hTu1);refine Z0 (aab hTp2 rfl ?_);refine Z0 (jF hTp2 (show(_:Nat)<=4 by simp) λu2 hTu2 su2=>?_);replace hTu2:IsT u2 TO #[x1,x2]:=hTu2;refine Z0 (aaT (Z5 (Z5 ?_)));refine Z0 (aab hTu2 rfl ?_);refine Z0 (wpAny_newTuple ?_);have hsz:u2.objs.size=s.heap.objs.size:=by rw[su2.1,sp2.1,su1.1,sp1.1,hs0.1]
 have hzU:IsZip u2 z TI TO .ellipsis:=(su2.extBut _ _ D.wD.symm (sp2.extBut _ _ D.B7.symm (su1.extBut _ _ D.wD.symm (sp1.extBut _ _ D.vf.symm hz0))));have hkU:∀c o,c≠z->c≠TO->c≠i1->c≠i2->s.heap.get? c=zS o->u2.get? c=zS o:=λc o cz cT c1 c2 e=>(su2.extBut _ _ cT (sp2.extBut _ _ c2 (su1.extBut _ _ cT (sp1.extBut _ _ c1 (hs0.extBut _ _ cz e)))));have hiU1:u2.IsListIter i1 l1 (k1+1):=(((hp1.extBut su1.extBut D.v0).extBut sp2.extBut D.DI.symm).extBut su2.extBut D.v0);have hiU2:u2.IsTupleIter i2 l2 (k2+1):=(hp2.extBut su2.extBut D.v4);have hzlt:z<u2.objs.size:=Rw hzU;show wpAny _ _ (V2 (.ref z) (.ref u2.objs.size)>>=_) _ _ _;refine Z0 ?_;unfold V2;have hz6:IsZip (u2.push {cls:=.type "tuple",data:=.seq #[x1,x2]}) z TI TO .ellipsis:=Rt _ hzU;refine Z0 (aaV hz6 (by simp) λh7 hz7 hs7=>?_);replace hz7:IsZip h7 z TI TO (aaq u2.objs.size):=hz7;refine aaV hz7 (by simp) λh8 hz8 hs8=>?_;replace hz8:IsZip h8 z TI TO (aaq u2.objs.size):=hz8;have up:∀c o,c≠z->u2.get? c=zS o->h8.get? c=zS o:=λc o c1 e=>hs8.extBut _ _ c1 (hs7.extBut _ _ c1 (Rt _ e));have hT8:IsT h8 u2.objs.size #[x1,x2]:=hs8.extBut _ _ (Ti hzlt) (hs7.extBut _ _ (Ti hzlt) (RN _ rfl));have hsz8:h8.objs.size=u2.objs.size+1:=by rw[hs8.1,hs7.1,R_]
 rw[hsz]at hz8 hT8 hsz8;refine Z5 ⟨_,rfl,?_⟩;show Q (.ref u2.objs.size) _;rw[hsz];exact hQ h8 hz8 (up _ _ D.wD hTu2) (hiU1.at λo e=>up _ o D.vf e) (FD hiU2 λo e=>up _ o D.B7 e) hT8 hsz8 λc o cz cT c1 c2 e=>up c o cz (hkU c o cz cT c1 c2 e)
def zL{TI TO:Addr}{Q:Fin->ZW->Prop}(hh:A.handled=zN)(D:OE z TI TO i1 i2 l1 l2)(hz:IsZip s.heap z TI TO .none)(hTI:IsT s.heap TI #[.ref i1,.ref i2])(h1:s.heap.IsListIter i1 l1 k1)(hl1:s.heap.IsList l1 xs1)(hx:xs1[k1]?=zN)(hE:∀h' e,(∀c o,c≠z->c≠i1->s.heap.get? c=zS o->h'.get? c=zS o)->(∃o,h'.get? e=zS o/\o.cls=.type "StopIteration")->E (.ref e) {s with heap:=h'}):wpAny (model prog w) A (Z7.«zip.__next__» ⟨[.ref z],[]⟩) Q E s:=by
 show wpAny _ _ (field (.ref z) 2>>=_) _ _ _;refine Z0 (aaU hz rfl (x:=.bool false) rfl ?_);show wpAny _ _ (field (.ref z) 3>>=_) _ _ _;refine Z0 (aaU hz rfl (x:=.ref TI) rfl ?_);refine Z0 (aab hTI rfl ?_);show wpAny _ _ (TY (.ref z)>>=_) _ _ _;refine Z0 ?_;unfold TY;refine Z0 (aaU hz rfl (x:=.none) rfl (Z5 ?_));simp only[if_true];refine Z0 (Z6 ?_);refine Z0 (aaU hz rfl (x:=.ref TO) rfl ?_);refine Z0 (aaV hz (by simp) λg0 hz0 hs0=>?_);replace hz0:IsZip g0 z TI TO .ellipsis:=hz0;refine Z0 ?_;simp only[V0,V1,Vp,UM];refine Z0 (Z0 (aaW ?_));show wpAny _ _ (TB (.ref i1)>>=_) _ _ _;refine Z0 (wpAny_nextOf_list_end hh (h1.extBut hs0.extBut D.vf) (hl1.extBut hs0.extBut D.Ks) hx λh2 e hs2 he=>?_);let⟨oe,hoe,hce⟩:=he;have hz2:IsZip h2 z TI TO .ellipsis:=hs2 _ _ D.vf.symm hz0;have hez:e≠z:=λx=>by subst x;rw[hz2]at hoe;cases hoe;simp at hce
 refine aaV hz2 (by simp) λh3 _ hs3=>hE h3 e (λc o c1 c3 x=>hs3.extBut _ _ c1 (hs2 _ _ c3 (hs0.extBut _ _ c1 x))) ⟨oe,hs3.extBut _ _ hez hoe,hce⟩
def vg{TI TO:Addr}{a1 a2:Value}{Q:Option Value->ZW->Prop}(D:OE z TI TO i1 i2 l1 l2)(hz:IsZip s.heap z TI TO .none)(hTI:IsT s.heap TI #[.ref i1,.ref i2])(hTO:IsT s.heap TO #[a1,a2])(h1:s.heap.IsListIter i1 l1 k1)(h2:s.heap.IsTupleIter i2 l2 k2)(hl1:s.heap.IsList l1 xs1)(hl2:s.heap.IsTuple l2 xs2)(hx1:xs1[k1]?=zS x1)(hx2:xs2[k2]?=zS x2)(hQ:∀h',IsZip h' z TI TO (aaq s.heap.objs.size)->IsT h' TO #[x1,x2]->h'.IsListIter i1 l1 (k1+1)->h'.IsTupleIter i2 l2 (k2+1)->IsT h' s.heap.objs.size #[x1,x2]->h'.objs.size=s.heap.objs.size+1->(∀c o,c≠z->c≠TO->c≠i1->c≠i2->s.heap.get? c=zS o->h'.get? c=zS o)->Q (zS (.ref s.heap.objs.size)) {s with heap:=h'}):wpAny (model prog w) A (aao (.ref z)) Q E s:=by
 have hT:s.TypeIs (.ref z) "zip":=⟨_,hz,rfl⟩;unfold aao
 exact Z0 (aaN (aaO (name:=Up "__next__") hT TZ
  (Z3 TZ hT V3
   (yk D hz hTI hTO h1 h2 hl1 hl2 hx1 hx2 λh' q0 q1 q2 q3 q4 q5 q6=>Z5 (hQ h' q0 q1 q2 q3 q4 q5 q6)) (V4 _))))
def wE{TI TO:Addr}{Q:Option Value->ZW->Prop}(hh:A.handled=zN)(D:OE z TI TO i1 i2 l1 l2)(hz:IsZip s.heap z TI TO .none)(hTI:IsT s.heap TI #[.ref i1,.ref i2])(h1:s.heap.IsListIter i1 l1 k1)(hl1:s.heap.IsList l1 xs1)(hx:xs1[k1]?=zN)(hQ:∀h',(∀c o,c≠z->c≠i1->s.heap.get? c=zS o->h'.get? c=zS o)->Q zN {s with heap:=h'}):wpAny (model prog w) A (aao (.ref z)) Q E s:=by
 have hT:s.TypeIs (.ref z) "zip":=⟨_,hz,rfl⟩;unfold aao
 refine Z0 (aaN (aaO (name:=Up "__next__") hT TZ
  (Z3 TZ hT V3 (zL hh D hz hTI h1 hl1 hx λh' e hk he=>?_) (V4 _))))
 let⟨o,ho,hc⟩:=he;refine Z0 (Z8 (T:="StopIteration") (b:=true) ⟨o,ho,hc⟩ isSubtype_stop ?_);exact Z5 (hQ _ hk)
abbrev L5(h:Heap)(l1 l2:Addr):Heap:=(h).push {cls:=.type "list_iterator",data:=.fields #[.ref l1,.int 0 0]}
abbrev L6(h:Heap)(l1 l2:Addr):Heap:=(L5 h l1 l2).push {cls:=.type "tuple_iterator",data:=.fields #[.ref l2,.int 0 0]}
abbrev L7(h:Heap)(l1 l2:Addr):Heap:=(L6 h l1 l2).push {cls:=.type "tuple",data:=.seq #[.ref h.objs.size,.ref (L5 h l1 l2).objs.size]}
abbrev L8(h:Heap)(l1 l2:Addr):Heap:=(L7 h l1 l2).push {cls:=.type "tuple",data:=.seq #[.none,.none]}
abbrev FE(h:Heap)(l1 l2:Addr):Heap:=(L8 h l1 l2).push {cls:=.type "zip",data:=.fields #[.none,.bool false,.bool false,.ref (L6 h l1 l2).objs.size,.ref (L7 h l1 l2).objs.size]}
def yl(l1 l2:Addr)(xs1 xs2:Array Value):Meets (Z7.«zip.__new__» ⟨[.type "zip",.ref l1,.ref l2],[]⟩) (λ_ R s=>s.heap.IsList l1 xs1/\s.heap.IsTuple l2 xs2/\R (.ok (.ret (.ref (L8 s.heap l1 l2).objs.size))) {s with heap:=FE s.heap l1 l2}):=
 .of_wp λprog w A R s h=>by let⟨hp,g,d,tk,os⟩:=s;let⟨hl1,hl2,h⟩:=h;have hsub:=sub_zip;have hL1:V5 (Vr ⟨hp,g,d,tk,os⟩) l1 xs1:=hl1;have hL2:Heap.IsTuple (Vr ⟨(hp).push {cls:=.type "list_iterator",data:=.fields #[.ref l1,.int 0 0]},g,d,tk,os⟩) l2 xs2:=(ZT hl2 _);wp_walk using aar hL1,wpAny_pyIter_tuple hL2;exact⟨_,rfl,h⟩
def Il(hl1:s.heap.IsList l1 xs1)(hl2:s.heap.IsTuple l2 xs2)(h:∀h',IsZip h' (s.heap.objs.size+4) (s.heap.objs.size+2) (s.heap.objs.size+3) .none->IsT h' (s.heap.objs.size+2) #[.ref s.heap.objs.size,.ref (s.heap.objs.size+1)]->IsT h' (s.heap.objs.size+3) #[.none,.none]->h'.IsListIter s.heap.objs.size l1 0->h'.IsTupleIter (s.heap.objs.size+1) l2 0->h'.objs.size=s.heap.objs.size+5->(∀c o,s.heap.get? c=zS o->h'.get? c=zS o)->Q (.ref (s.heap.objs.size+4)) {s with heap:=h'}):wpAny (model prog w) A (call (.type "zip") [.ref l1,.ref l2]) Q E s:=by
 refine callType_new F.called_zip (by decide) (F.typeCall_zip_2 _ _) (F.newCall_zip_2 _ _) (λobj=>F.args_object_init_3 obj _ _) YN
  (yl l1 l2 xs1 xs2) ⟨hl1,hl2,?_⟩
 have z0:s.heap.objs.size=s.heap.objs.size:=rfl;have z1:(L5 s.heap l1 l2).objs.size=s.heap.objs.size+1:=by rw[R_]
 have z2:(L6 s.heap l1 l2).objs.size=s.heap.objs.size+2:=by rw[R_,z1]
 have z3:(L7 s.heap l1 l2).objs.size=s.heap.objs.size+3:=by rw[R_,z2]
 have z4:(L8 s.heap l1 l2).objs.size=s.heap.objs.size+4:=by rw[R_,z3]
 have z5:(FE s.heap l1 l2).objs.size=s.heap.objs.size+5:=by rw[R_,z4]
 have g0:(FE s.heap l1 l2).get? s.heap.objs.size=zS _:=Rt _ (Rt _ (Rt _ (Rt _ (RN _ rfl))));have g1:(FE s.heap l1 l2).get? (L5 s.heap l1 l2).objs.size=zS _:=Rt _ (Rt _ (Rt _ (RN _ rfl)));have g2:(FE s.heap l1 l2).get? (L6 s.heap l1 l2).objs.size=zS _:=Rt _ (Rt _ (RN _ rfl));have g3:(FE s.heap l1 l2).get? (L7 s.heap l1 l2).objs.size=zS _:=Rt _ (RN _ rfl);have g4:(FE s.heap l1 l2).get? (L8 s.heap l1 l2).objs.size=zS _:=RN _ rfl;show _/\_;rw[z2,z3,z4]at g4;rw[z1,z2]at g2;rw[z3]at g3;rw[z1]at g1;rw[z4];exact⟨⟨_,g4,rfl⟩,h _ g4 g2 g3 ⟨_,g0,rfl,rfl⟩ ⟨_,g1,rfl,rfl⟩ z5 λc o x=>Rt _ (Rt _ (Rt _ (Rt _ (Rt _ (x)))))⟩
def N2(I l1 l2:Nat)(h1:l1<I)(h2:l2<I):OE (I+4) (I+2) (I+3) I (I+1) l1 l2:=by constructor<;>(refine YO ?_;omega)
structure OF(z TI TO i1 i2 i3 l1 l2 l3:Addr):Prop where
 Ko:TI≠z
 wD:TO≠z
 Kp:TO≠TI
 vf:i1≠z
 Kq:i1≠TI
 v0:i1≠TO
 B7:i2≠z
 Kr:i2≠TI
 v4:i2≠TO
 DI:i2≠i1
 L9:i3≠z
 Pj:i3≠TI
 GY:i3≠TO
 MQ:i3≠i1
 MR:i3≠i2
 Ks:l1≠z
 Pf:l1≠TO
 Pg:l1≠i1
 Ph:l1≠i2
 Q_:l1≠i3
 N1:l2≠z
 Kt:l2≠TO
 Ku:l2≠i1
 Pi:l2≠i2
 Ra:l2≠i3
 QM:l3≠z
 MS:l3≠TO
 Pk:l3≠i1
 Pl:l3≠i2
 Rb:l3≠i3
def ym{TI TO:Addr}{a1 a2 a3:Value}(D:OF z TI TO i1 i2 i3 l1 l2 l3)(hz:IsZip s.heap z TI TO .none)(hTI:IsT s.heap TI #[.ref i1,.ref i2,.ref i3])(hTO:IsT s.heap TO #[a1,a2,a3])(h1:s.heap.IsListIter i1 l1 k1)(h2:s.heap.IsListIter i2 l2 k2)(h3:s.heap.IsListIter i3 l3 k3)(hl1:s.heap.IsList l1 xs1)(hl2:s.heap.IsList l2 xs2)(hl3:s.heap.IsList l3 xs3)(hx1:xs1[k1]?=zS x1)(hx2:xs2[k2]?=zS x2)(hx3:xs3[k3]?=zS x3)(hQ:∀h',IsZip h' z TI TO (aaq s.heap.objs.size)->IsT h' TO #[x1,x2,x3]->h'.IsListIter i1 l1 (k1+1)->h'.IsListIter i2 l2 (k2+1)->h'.IsListIter i3 l3 (k3+1)->IsT h' s.heap.objs.size #[x1,x2,x3]->h'.objs.size=s.heap.objs.size+1->(∀c o,c≠z->c≠TO->c≠i1->c≠i2->c≠i3->s.heap.get? c=zS o->h'.get? c=zS o)->Q (.ref s.heap.objs.size) {s with heap:=h'}):wpAny (model prog w) A (Z7.«zip.__next__» ⟨[.ref z],[]⟩) (λfin s'=>∃v,fin=.done (.ret v)/\Q v s') E s:=by
 show wpAny _ _ (field (.ref z) 2>>=_) _ _ _;refine Z0 (aaU hz rfl (x:=.bool false) rfl ?_);show wpAny _ _ (field (.ref z) 3>>=_) _ _ _;refine Z0 (aaU hz rfl (x:=.ref TI) rfl ?_);refine Z0 (aab hTI rfl ?_);show wpAny _ _ (TY (.ref z)>>=_) _ _ _;refine Z0 ?_;unfold TY;refine Z0 (aaU hz rfl (x:=.none) rfl (Z5 ?_));simp only[if_true];refine Z0 (Z6 ?_);refine Z0 (aaU hz rfl (x:=.ref TO) rfl ?_);refine Z0 (aaV hz (by simp) λg0 hz0 hs0=>?_);replace hz0:IsZip g0 z TI TO .ellipsis:=hz0;refine Z0 ?_;simp only[V0,V1,Vp,UM];refine Z0 (Z0 (aaW ?_));show wpAny _ _ (TB (.ref i1)>>=_) _ _ _;refine Z0 (aaX (h1.extBut hs0.extBut D.vf) (hl1.extBut hs0.extBut D.Ks) hx1 λp1 hp1 sp1=>Z5 ?_);have hTp1:IsT p1 TO #[a1,a2,a3]:=(sp1.extBut _ _ D.v0.symm (hs0.extBut _ _ D.wD hTO));refine Z0 (aab hTp1 rfl ?_);refine Z0 (jF hTp1 (show(_:Nat)<=4 by simp) λu1 hTu1 su1=>?_);replace hTu1:IsT u1 TO #[x1,a2,a3]:=hTu1;refine Z0 (aaT (Z5 ?_));refine Z0 (Z0 (aaW ?_));show wpAny _ _ (TB (.ref i2)>>=_) _ _ _;refine Z0 (aaX (((h2.extBut hs0.extBut D.B7).extBut sp1.extBut D.DI).extBut su1.extBut D.v4) (((hl2.extBut hs0.extBut D.N1).extBut sp1.extBut D.Ku).extBut su1.extBut D.Kt) hx2 λp2 hp2 sp2=>Z5 ?_);have hTp2:IsT p2 TO #[x1,a2,a3]:=(sp2.extBut _ _ D.v4.symm hTu1);refine Z0 (aab hTp2 rfl ?_);refine Z0 (jF hTp2 (show(_:Nat)<=4 by simp) λu2 hTu2 su2=>?_);replace hTu2:IsT u2 TO #[x1,x2,a3]:=hTu2;refine Z0 (aaT (Z5 ?_));refine Z0 (Z0 (aaW ?_));show wpAny _ _ (TB (.ref i3)>>=_) _ _ _;refine Z0 (aaX (((((h3.extBut hs0.extBut D.L9).extBut sp1.extBut D.MQ).extBut su1.extBut D.GY).extBut sp2.extBut D.MR).extBut su2.extBut D.GY) (((((hl3.extBut hs0.extBut D.QM).extBut sp1.extBut D.Pk).extBut su1.extBut D.MS).extBut sp2.extBut D.Pl).extBut su2.extBut D.MS) hx3 λp3 hp3 sp3=>Z5 ?_);have hTp3:IsT p3 TO #[x1,x2,a3]:=(sp3.extBut _ _ D.GY.symm hTu2);refine Z0 (aab hTp3 rfl ?_);refine Z0 (jF hTp3 (show(_:Nat)<=4 by simp) λu3 hTu3 su3=>?_);replace hTu3:IsT u3 TO #[x1,x2,x3]:=hTu3;refine Z0 (aaT (Z5 (Z5 ?_)));refine Z0 (aab hTu3 rfl ?_);refine Z0 (wpAny_newTuple ?_);have hsz:u3.objs.size=s.heap.objs.size:=by rw[su3.1,sp3.1,su2.1,sp2.1,su1.1,sp1.1,hs0.1]
 have hzU:IsZip u3 z TI TO .ellipsis:=(su3.extBut _ _ D.wD.symm (sp3.extBut _ _ D.L9.symm (su2.extBut _ _ D.wD.symm (sp2.extBut _ _ D.B7.symm (su1.extBut _ _ D.wD.symm (sp1.extBut _ _ D.vf.symm hz0))))));have hkU:∀c o,c≠z->c≠TO->c≠i1->c≠i2->c≠i3->s.heap.get? c=zS o->u3.get? c=zS o:=λc o cz cT c1 c2 c3 e=>(su3.extBut _ _ cT (sp3.extBut _ _ c3 (su2.extBut _ _ cT (sp2.extBut _ _ c2 (su1.extBut _ _ cT (sp1.extBut _ _ c1 (hs0.extBut _ _ cz e)))))));have hiU1:u3.IsListIter i1 l1 (k1+1):=(((((hp1.extBut su1.extBut D.v0).extBut sp2.extBut D.DI.symm).extBut su2.extBut D.v0).extBut sp3.extBut D.MQ.symm).extBut su3.extBut D.v0);have hiU2:u3.IsListIter i2 l2 (k2+1):=(((hp2.extBut su2.extBut D.v4).extBut sp3.extBut D.MR.symm).extBut su3.extBut D.v4);have hiU3:u3.IsListIter i3 l3 (k3+1):=(hp3.extBut su3.extBut D.GY);have hzlt:z<u3.objs.size:=Rw hzU;show wpAny _ _ (V2 (.ref z) (.ref u3.objs.size)>>=_) _ _ _;refine Z0 ?_;unfold V2;have hz6:IsZip (u3.push {cls:=.type "tuple",data:=.seq #[x1,x2,x3]}) z TI TO .ellipsis:=Rt _ hzU;refine Z0 (aaV hz6 (by simp) λh7 hz7 hs7=>?_);replace hz7:IsZip h7 z TI TO (aaq u3.objs.size):=hz7;refine aaV hz7 (by simp) λh8 hz8 hs8=>?_;replace hz8:IsZip h8 z TI TO (aaq u3.objs.size):=hz8;have up:∀c o,c≠z->u3.get? c=zS o->h8.get? c=zS o:=λc o c1 e=>hs8.extBut _ _ c1 (hs7.extBut _ _ c1 (Rt _ e));have hT8:IsT h8 u3.objs.size #[x1,x2,x3]:=hs8.extBut _ _ (Ti hzlt) (hs7.extBut _ _ (Ti hzlt) (RN _ rfl));have hsz8:h8.objs.size=u3.objs.size+1:=by rw[hs8.1,hs7.1,R_]
 rw[hsz]at hz8 hT8 hsz8;refine Z5 ⟨_,rfl,?_⟩;show Q (.ref u3.objs.size) _;rw[hsz];exact hQ h8 hz8 (up _ _ D.wD hTu3) (hiU1.at λo e=>up _ o D.vf e) (hiU2.at λo e=>up _ o D.B7 e) (hiU3.at λo e=>up _ o D.L9 e) hT8 hsz8 λc o cz cT c1 c2 c3 e=>up c o cz (hkU c o cz cT c1 c2 c3 e)
def zM{TI TO:Addr}{Q:Fin->ZW->Prop}(hh:A.handled=zN)(D:OF z TI TO i1 i2 i3 l1 l2 l3)(hz:IsZip s.heap z TI TO .none)(hTI:IsT s.heap TI #[.ref i1,.ref i2,.ref i3])(h1:s.heap.IsListIter i1 l1 k1)(hl1:s.heap.IsList l1 xs1)(hx:xs1[k1]?=zN)(hE:∀h' e,(∀c o,c≠z->c≠i1->s.heap.get? c=zS o->h'.get? c=zS o)->(∃o,h'.get? e=zS o/\o.cls=.type "StopIteration")->E (.ref e) {s with heap:=h'}):wpAny (model prog w) A (Z7.«zip.__next__» ⟨[.ref z],[]⟩) Q E s:=by
 show wpAny _ _ (field (.ref z) 2>>=_) _ _ _;refine Z0 (aaU hz rfl (x:=.bool false) rfl ?_);show wpAny _ _ (field (.ref z) 3>>=_) _ _ _;refine Z0 (aaU hz rfl (x:=.ref TI) rfl ?_);refine Z0 (aab hTI rfl ?_);show wpAny _ _ (TY (.ref z)>>=_) _ _ _;refine Z0 ?_;unfold TY;refine Z0 (aaU hz rfl (x:=.none) rfl (Z5 ?_));simp only[if_true];refine Z0 (Z6 ?_);refine Z0 (aaU hz rfl (x:=.ref TO) rfl ?_);refine Z0 (aaV hz (by simp) λg0 hz0 hs0=>?_);replace hz0:IsZip g0 z TI TO .ellipsis:=hz0;refine Z0 ?_;simp only[V0,V1,Vp,UM];refine Z0 (Z0 (aaW ?_));show wpAny _ _ (TB (.ref i1)>>=_) _ _ _;refine Z0 (wpAny_nextOf_list_end hh (h1.extBut hs0.extBut D.vf) (hl1.extBut hs0.extBut D.Ks) hx λh2 e hs2 he=>?_);let⟨oe,hoe,hce⟩:=he;have hz2:IsZip h2 z TI TO .ellipsis:=hs2 _ _ D.vf.symm hz0;have hez:e≠z:=λx=>by subst x;rw[hz2]at hoe;cases hoe;simp at hce
 refine aaV hz2 (by simp) λh3 _ hs3=>hE h3 e (λc o c1 c3 x=>hs3.extBut _ _ c1 (hs2 _ _ c3 (hs0.extBut _ _ c1 x))) ⟨oe,hs3.extBut _ _ hez hoe,hce⟩
def vh{TI TO:Addr}{a1 a2 a3:Value}{Q:Option Value->ZW->Prop}(D:OF z TI TO i1 i2 i3 l1 l2 l3)(hz:IsZip s.heap z TI TO .none)(hTI:IsT s.heap TI #[.ref i1,.ref i2,.ref i3])(hTO:IsT s.heap TO #[a1,a2,a3])(h1:s.heap.IsListIter i1 l1 k1)(h2:s.heap.IsListIter i2 l2 k2)(h3:s.heap.IsListIter i3 l3 k3)(hl1:s.heap.IsList l1 xs1)(hl2:s.heap.IsList l2 xs2)(hl3:s.heap.IsList l3 xs3)(hx1:xs1[k1]?=zS x1)(hx2:xs2[k2]?=zS x2)(hx3:xs3[k3]?=zS x3)(hQ:∀h',IsZip h' z TI TO (aaq s.heap.objs.size)->IsT h' TO #[x1,x2,x3]->h'.IsListIter i1 l1 (k1+1)->h'.IsListIter i2 l2 (k2+1)->h'.IsListIter i3 l3 (k3+1)->IsT h' s.heap.objs.size #[x1,x2,x3]->h'.objs.size=s.heap.objs.size+1->(∀c o,c≠z->c≠TO->c≠i1->c≠i2->c≠i3->s.heap.get? c=zS o->h'.get? c=zS o)->Q (zS (.ref s.heap.objs.size)) {s with heap:=h'}):wpAny (model prog w) A (aao (.ref z)) Q E s:=by
 have hT:s.TypeIs (.ref z) "zip":=⟨_,hz,rfl⟩;unfold aao
 exact Z0 (aaN (aaO (name:=Up "__next__") hT TZ
  (Z3 TZ hT V3
   (ym D hz hTI hTO h1 h2 h3 hl1 hl2 hl3 hx1 hx2 hx3 λh' q0 q1 q2 q3 q4 q5 q6 q7=>Z5 (hQ h' q0 q1 q2 q3 q4 q5 q6 q7)) (V4 _))))
def wF{TI TO:Addr}{Q:Option Value->ZW->Prop}(hh:A.handled=zN)(D:OF z TI TO i1 i2 i3 l1 l2 l3)(hz:IsZip s.heap z TI TO .none)(hTI:IsT s.heap TI #[.ref i1,.ref i2,.ref i3])(h1:s.heap.IsListIter i1 l1 k1)(hl1:s.heap.IsList l1 xs1)(hx:xs1[k1]?=zN)(hQ:∀h',(∀c o,c≠z->c≠i1->s.heap.get? c=zS o->h'.get? c=zS o)->Q zN {s with heap:=h'}):wpAny (model prog w) A (aao (.ref z)) Q E s:=by
 have hT:s.TypeIs (.ref z) "zip":=⟨_,hz,rfl⟩;unfold aao
 refine Z0 (aaN (aaO (name:=Up "__next__") hT TZ
  (Z3 TZ hT V3 (zM hh D hz hTI h1 hl1 hx λh' e hk he=>?_) (V4 _))))
 let⟨o,ho,hc⟩:=he;refine Z0 (Z8 (T:="StopIteration") (b:=true) ⟨o,ho,hc⟩ isSubtype_stop ?_);exact Z5 (hQ _ hk)
abbrev L_(h:Heap)(l1 l2 l3:Addr):Heap:=(h).push {cls:=.type "list_iterator",data:=.fields #[.ref l1,.int 0 0]}
abbrev Ma(h:Heap)(l1 l2 l3:Addr):Heap:=(L_ h l1 l2 l3).push {cls:=.type "list_iterator",data:=.fields #[.ref l2,.int 0 0]}
abbrev Mb(h:Heap)(l1 l2 l3:Addr):Heap:=(Ma h l1 l2 l3).push {cls:=.type "list_iterator",data:=.fields #[.ref l3,.int 0 0]}
abbrev Mc(h:Heap)(l1 l2 l3:Addr):Heap:=(Mb h l1 l2 l3).push {cls:=.type "tuple",data:=.seq #[.ref h.objs.size,.ref (L_ h l1 l2 l3).objs.size,.ref (Ma h l1 l2 l3).objs.size]}
abbrev Md(h:Heap)(l1 l2 l3:Addr):Heap:=(Mc h l1 l2 l3).push {cls:=.type "tuple",data:=.seq #[.none,.none,.none]}
abbrev DJ(h:Heap)(l1 l2 l3:Addr):Heap:=(Md h l1 l2 l3).push {cls:=.type "zip",data:=.fields #[.none,.bool false,.bool false,.ref (Mb h l1 l2 l3).objs.size,.ref (Mc h l1 l2 l3).objs.size]}
def yn(l1 l2 l3:Addr)(xs1 xs2 xs3:Array Value):Meets (Z7.«zip.__new__» ⟨[.type "zip",.ref l1,.ref l2,.ref l3],[]⟩) (λ_ R s=>s.heap.IsList l1 xs1/\s.heap.IsList l2 xs2/\s.heap.IsList l3 xs3/\R (.ok (.ret (.ref (Md s.heap l1 l2 l3).objs.size))) {s with heap:=DJ s.heap l1 l2 l3}):=
 .of_wp λprog w A R s h=>by let⟨hp,g,d,tk,os⟩:=s;let⟨hl1,hl2,hl3,h⟩:=h;have hsub:=sub_zip;have hL1:V5 (Vr ⟨hp,g,d,tk,os⟩) l1 xs1:=hl1;have hL2:V5 (Vr ⟨(hp).push {cls:=.type "list_iterator",data:=.fields #[.ref l1,.int 0 0]},g,d,tk,os⟩) l2 xs2:=(W8 hl2 _);have hL3:V5 (Vr ⟨((hp).push {cls:=.type "list_iterator",data:=.fields #[.ref l1,.int 0 0]}).push {cls:=.type "list_iterator",data:=.fields #[.ref l2,.int 0 0]},g,d,tk,os⟩) l3 xs3:=(W8 (W8 hl3 _) _);wp_walk using aar hL1,aar hL2,aar hL3;exact⟨_,rfl,h⟩
def Im(hl1:s.heap.IsList l1 xs1)(hl2:s.heap.IsList l2 xs2)(hl3:s.heap.IsList l3 xs3)(h:∀h',IsZip h' (s.heap.objs.size+5) (s.heap.objs.size+3) (s.heap.objs.size+4) .none->IsT h' (s.heap.objs.size+3) #[.ref s.heap.objs.size,.ref (s.heap.objs.size+1),.ref (s.heap.objs.size+2)]->IsT h' (s.heap.objs.size+4) #[.none,.none,.none]->h'.IsListIter s.heap.objs.size l1 0->h'.IsListIter (s.heap.objs.size+1) l2 0->h'.IsListIter (s.heap.objs.size+2) l3 0->h'.objs.size=s.heap.objs.size+6->(∀c o,s.heap.get? c=zS o->h'.get? c=zS o)->Q (.ref (s.heap.objs.size+5)) {s with heap:=h'}):wpAny (model prog w) A (call (.type "zip") [.ref l1,.ref l2,.ref l3]) Q E s:=by
 refine callType_new F.called_zip (by decide) (yj _ _ _) (zK _ _ _) (λobj=>ss obj _ _ _) YN
  (yn l1 l2 l3 xs1 xs2 xs3) ⟨hl1,hl2,hl3,?_⟩
 have z0:s.heap.objs.size=s.heap.objs.size:=rfl;have z1:(L_ s.heap l1 l2 l3).objs.size=s.heap.objs.size+1:=by rw[R_]
 have z2:(Ma s.heap l1 l2 l3).objs.size=s.heap.objs.size+2:=by rw[R_,z1]
 have z3:(Mb s.heap l1 l2 l3).objs.size=s.heap.objs.size+3:=by rw[R_,z2]
 have z4:(Mc s.heap l1 l2 l3).objs.size=s.heap.objs.size+4:=by rw[R_,z3]
 have z5:(Md s.heap l1 l2 l3).objs.size=s.heap.objs.size+5:=by rw[R_,z4]
 have z6:(DJ s.heap l1 l2 l3).objs.size=s.heap.objs.size+6:=by rw[R_,z5]
 have g0:(DJ s.heap l1 l2 l3).get? s.heap.objs.size=zS _:=Rt _ (Rt _ (Rt _ (Rt _ (Rt _ (RN _ rfl)))));have g1:(DJ s.heap l1 l2 l3).get? (L_ s.heap l1 l2 l3).objs.size=zS _:=Rt _ (Rt _ (Rt _ (Rt _ (RN _ rfl))));have g2:(DJ s.heap l1 l2 l3).get? (Ma s.heap l1 l2 l3).objs.size=zS _:=Rt _ (Rt _ (Rt _ (RN _ rfl)));have g3:(DJ s.heap l1 l2 l3).get? (Mb s.heap l1 l2 l3).objs.size=zS _:=Rt _ (Rt _ (RN _ rfl));have g4:(DJ s.heap l1 l2 l3).get? (Mc s.heap l1 l2 l3).objs.size=zS _:=Rt _ (RN _ rfl);have g5:(DJ s.heap l1 l2 l3).get? (Md s.heap l1 l2 l3).objs.size=zS _:=RN _ rfl;show _/\_;rw[z3,z4,z5]at g5;rw[z1,z2,z3]at g3;rw[z4]at g4;rw[z1]at g1;rw[z2]at g2;rw[z5];exact⟨⟨_,g5,rfl⟩,h _ g5 g3 g4 ⟨_,g0,rfl,rfl⟩ ⟨_,g1,rfl,rfl⟩ ⟨_,g2,rfl,rfl⟩ z6 λc o x=>Rt _ (Rt _ (Rt _ (Rt _ (Rt _ (Rt _ (x))))))⟩
def N3(I l1 l2 l3:Nat)(h1:l1<I)(h2:l2<I)(h3:l3<I):OF (I+5) (I+3) (I+4) I (I+1) (I+2) l1 l2 l3:=by constructor<;>(refine YO ?_;omega)
end
end Nz
namespace L2
open PySem PySem.Spec PyProof.Rows
def N4(K:Rl)(a b:Addr):It:=
 ⟨λi H=>∃(xs ys:List V)(x y:V),cD K H a xs/\km K H b ys/\xs[i]?=zS x/\ys[i]?=zS y,
  λi H v H'=>∃T x y,v=.ref T/\H T=zN/\H'=upd H T (.tup [x,y])/\(∀xs,cD K H a xs->xs[i]?=zS x)/\(∀ys,km K H b ys->ys[i]?=zS y),
  λi H=>∃xs ys:List V,cD K H a xs/\km K H b ys/\(xs.length<=i\/False)⟩
variable{Z a b i1 i2:Addr}{elts:List Expr}{kk:Nat}{tpos:Pos}{P:ZV}{w:World}
def Io{K:Rl}{TI TO:Addr}(D:Nz.OE Z TI TO i1 i2 a b):Turn P w K (.Tuple elts kk tpos) (N4 K a b) [Z,TI,TO,i1,i2] Z (λi h=>IsZip h Z TI TO .none/\Nz.IsT h TI #[.ref i1,.ref i2]/\(∃q1 q2,Nz.IsT h TO #[q1,q2])/\h.IsListIter i1 a i/\h.IsTupleIter i2 b i)where
 mem:=by simp
 obj:=λi h st c hc=>by
  let⟨hz,hTI,⟨q1,q2,hTO⟩,⟨o1,e1,_,d1⟩,⟨o2,e2,_,d2⟩⟩:=st;have e':c=Z\/c=TI\/c=TO\/c=i1\/c=i2:=by simpa using hc
  obtain q|q|q|q|q:=e'
  .rw[q];exact⟨_,hz,λv q=>nomatch q⟩
  .rw[q];exact⟨_,hTI,λv q=>nomatch q⟩
  .rw[q];exact⟨_,hTO,λv q=>nomatch q⟩
  .rw[q];exact⟨o1,e1,λv q=>by rw[d1]at q;cases q⟩
  .rw[q];exact⟨o2,e2,λv q=>by rw[d2]at q;cases q⟩
 keep:=λi h h' st k=>by let⟨hz,hTI,⟨q1,q2,hTO⟩,h1,h2⟩:=st;exact⟨k Z (by simp) _ hz,k TI (by simp) _ hTI,⟨q1,q2,k TO (by simp) _ hTO⟩,h1.at (λo q=>k i1 (by simp) o q),Nz.FD h2 (λo q=>k i2 (by simp) o q)⟩
 item:=by
  intro X hP hw hK hc i π s σ H E I hf st hg;subst hP hw hK;let⟨hz,hTI,⟨q1,q2,hTO⟩,h1,h2⟩:=st;let⟨xs,ys,x,y,hq1,hq2,hv1,hv2⟩:=hg;let⟨its1,rv1,p1,_⟩:=I.list hq1;let⟨its2,rv2,p2,_⟩:=I.tuple hq2;let⟨u1,hu1,ru1⟩:=rv1.get hv1;let⟨u2,hu2,ru2⟩:=rv2.get hv2;have hzl:Z<s.heap.objs.size:=Rw hz;refine Nz.vg D hz hTI hTO h1 h2 p1.isList p2 (x1:=u1) (x2:=u2) (by simpa using hu1) (by simpa using hu2) λh' z' TO' g1 g2 hT hsz hk=>?_;refine⟨_,rfl,aaR (s:={s with heap:=h'}) z' λh'' z'' sb=>?_⟩;have hT2:h''.get? s.heap.objs.size=zS {cls:=.type "tuple",data:=.seq #[u1,u2]}:=(sb.2 _ (Ti hzl)).trans hT
  have new:dz X.prog X.w (upd H s.heap.objs.size (.tup [x,y])) h'' s.heap.objs.size (.tup [x,y]):=
   ⟨by show 2<=aac;decide,[u1,u2],(.cons ru1 (.cons ru2 .nil)),⟨_,hT2,rfl,_,rfl⟩⟩
  have I1:Inv X π σ (upd H s.heap.objs.size (.tup [x,y])) {s with heap:=h''}:=
   I.mH (t':=s.toks) (ch:=[Z,TI,TO,i1,i2]) (λc o hb q=>(sb.2 c (λq'=>hb (by simp[q']))).trans (hk c o (λq'=>hb (by simp[q'])) (λq'=>hb (by simp[q'])) (λq'=>hb (by simp[q'])) (λq'=>hb (by simp[q'])) q)) hf (Ro _) new
  refine⟨.ref s.heap.objs.size,_,I1,rfl,⟨_,x,y,rfl,I.cA.fresh (Ro _),rfl,λl hl=>by rw[I.iI hl hq1];exact hv1,λl hl=>by rw[I.Hz hl hq2];exact hv2⟩,⟨z'',?_,⟨u1,u2,?_⟩,?_,?_⟩,λc hcm=>?_⟩
  .exact(sb.2 _ D.Ko).trans (hk _ _ D.Ko D.Kp.symm D.Kq.symm D.Kr.symm hTI)
  .exact(sb.2 _ D.wD).trans TO'
  .exact g1.at (λo q=>(sb.2 _ D.vf).trans q)
  .exact Nz.FD g2 (λo q=>(sb.2 _ D.B7).trans q)
  .have hlt:c<s.heap.objs.size:=by
    have e':c=Z\/c=TI\/c=TO\/c=i1\/c=i2:=by simpa using hcm
    obtain q|q|q|q|q:=e'
    .rw[q];exact hzl
    .rw[q];exact Rw hTI
    .rw[q];exact Rw hTO
    .rw[q];let⟨_,e1,_⟩:=h1;exact Rw e1
    .rw[q];let⟨_,e1,_⟩:=h2;exact Rw e1
   rw[ab (Sd hlt)];exact(hf c hcm).1
 done:=by
  intro X hP hw hK hc i π s σ H E I hf st hg;subst hP hw hK;let⟨hz,hTI,⟨q1,q2,hTO⟩,h1,h2⟩:=st;let⟨xs,ys,hq1,hq2,hend⟩:=hg;let⟨aR,rv,p,_⟩:=I.list hq1;have l1:=rv.length;have he:aR.toArray[i]?=zN:=by
   obtain q|q:=hend
   .simp;omega
   .exact q.elim
  exact Nz.wE (I.ok.hd hc) D hz hTI h1 p.isList he λh' hk=>⟨rfl,I.B1 (t':=s.toks) (ch:=[Z,TI,TO,i1,i2]) (λc o hb q=>
   hk c o (λq'=>hb (by simp[q'])) (λq'=>hb (by simp[q'])) q) hf⟩
 self:=λA i s Q E st h=>aaS st.1 h
def Kv(K:Rl)(ta:TA):TI:=λσ H R=>ta σ H λvs H1=>∃a b xs ys,vs=[.ref a,.ref b]/\cD K H1 a xs/\km K H1 b ys/\R (N4 K a b) H1
variable{X:Cx}{e e2:Expr}{p pos:Pos}{ta:TA}
def Me(hg:Gl X "zip")(hm:X.mg "zip"=zN)(ha:PA X [e,e2] ta)(hs:aag [e,e2] X.env=(false,eval e X.env)::aag [e2] X.env:=by rfl)(hpl:(aaf pos (aag [e2] X.env)).any (·.1)=false:=by rfl):PI X (.Tuple elts kk tpos) (.Call (.Name "zip" p) [e,e2] [] pos) (Kv X.K ta):=by
 intro π s σ H R I h;refine Call_ (nh I hg hm u_ (TR (du (ha pos π s σ H _ I h) λus s1⟨vs,H1,I1,r1,q1⟩=>?_) hs hpl));let⟨a,b,xs,ys,ex,hq1,hq2,q⟩:=q1;subst ex;obtain _|⟨r2,rr2⟩:=r1;obtain _|⟨r3,rr3⟩:=rr2;cases rr3;cases r2;cases r3;let⟨its1,rv1,p1,_⟩:=I1.list hq1;let⟨its2,rv2,p2,_⟩:=I1.tuple hq2;have la1:a<s1.heap.objs.size:=p1.lt;have la2:b<s1.heap.objs.size:=(by let⟨_,e,_⟩:=p2;exact Rw e);refine Nz.Il p1.isList p2 λh' hz hTI hTO h1 h2 hsz hk=>aaS hz ?_;have I2:Inv X π σ H1 {s1 with heap:=h'}:=I1.kept (t':=s1.toks) hk;refine⟨s1.heap.objs.size+4,[s1.heap.objs.size+4,s1.heap.objs.size+2,s1.heap.objs.size+3,s1.heap.objs.size,s1.heap.objs.size+1],_,_,H1,rfl,I2,Io (Nz.N2 s1.heap.objs.size a b la1 la2),⟨hz,hTI,⟨_,_,hTO⟩,h1,h2⟩,λc hcm=>?_,q⟩;have e':c=s1.heap.objs.size+4\/c=s1.heap.objs.size+2\/c=s1.heap.objs.size+3\/c=s1.heap.objs.size\/c=s1.heap.objs.size+1:=by simpa using hcm
 have hle:s1.heap.objs.size<=c:=by obtain z|z|z|z|z:=e'<;>(rw[z];first|exact Ro _|exact Su _ _)
 exact I1.Dk hle (I1.cA.fresh hle)
def N5(K:Rl)(a b c:Addr):It:=
 ⟨λi H=>∃(xs ys zs:List V)(x y z:V),cD K H a xs/\cD K H b ys/\cD K H c zs/\xs[i]?=zS x/\ys[i]?=zS y/\zs[i]?=zS z,
  λi H v H'=>∃T x y z,v=.ref T/\H T=zN/\H'=upd H T (.tup [x,y,z])/\(∀xs,cD K H a xs->xs[i]?=zS x)/\(∀ys,cD K H b ys->ys[i]?=zS y)/\(∀zs,cD K H c zs->zs[i]?=zS z),
  λi H=>∃xs ys zs:List V,cD K H a xs/\cD K H b ys/\cD K H c zs/\(xs.length<=i\/False)⟩
def Ip{K:Rl}{c TI TO i3:Addr}(D:Nz.OF Z TI TO i1 i2 i3 a b c):Turn P w K (.Tuple elts kk tpos) (N5 K a b c) [Z,TI,TO,i1,i2,i3] Z (λi h=>IsZip h Z TI TO .none/\Nz.IsT h TI #[.ref i1,.ref i2,.ref i3]/\(∃q1 q2 q3,Nz.IsT h TO #[q1,q2,q3])/\h.IsListIter i1 a i/\h.IsListIter i2 b i/\h.IsListIter i3 c i)where
 mem:=by simp
 obj:=λi h st c hc=>by
  let⟨hz,hTI,⟨q1,q2,q3,hTO⟩,⟨o1,e1,_,d1⟩,⟨o2,e2,_,d2⟩,⟨o3,e3,_,d3⟩⟩:=st;have e':c=Z\/c=TI\/c=TO\/c=i1\/c=i2\/c=i3:=by simpa using hc
  obtain q|q|q|q|q|q:=e'
  .rw[q];exact⟨_,hz,λv q=>nomatch q⟩
  .rw[q];exact⟨_,hTI,λv q=>nomatch q⟩
  .rw[q];exact⟨_,hTO,λv q=>nomatch q⟩
  .rw[q];exact⟨o1,e1,λv q=>by rw[d1]at q;cases q⟩
  .rw[q];exact⟨o2,e2,λv q=>by rw[d2]at q;cases q⟩
  .rw[q];exact⟨o3,e3,λv q=>by rw[d3]at q;cases q⟩
 keep:=λi h h' st k=>by let⟨hz,hTI,⟨q1,q2,q3,hTO⟩,h1,h2,h3⟩:=st;exact⟨k Z (by simp) _ hz,k TI (by simp) _ hTI,⟨q1,q2,q3,k TO (by simp) _ hTO⟩,h1.at (λo q=>k i1 (by simp) o q),h2.at (λo q=>k i2 (by simp) o q),h3.at (λo q=>k i3 (by simp) o q)⟩
 item:=by
  intro X hP hw hK hc i π s σ H E I hf st hg;subst hP hw hK;let⟨hz,hTI,⟨q1,q2,q3,hTO⟩,h1,h2,h3⟩:=st;let⟨xs,ys,zs,x,y,z,hq1,hq2,hq3,hv1,hv2,hv3⟩:=hg;let⟨its1,rv1,p1,_⟩:=I.list hq1;let⟨its2,rv2,p2,_⟩:=I.list hq2;let⟨its3,rv3,p3,_⟩:=I.list hq3;let⟨u1,hu1,ru1⟩:=rv1.get hv1;let⟨u2,hu2,ru2⟩:=rv2.get hv2;let⟨u3,hu3,ru3⟩:=rv3.get hv3;have hzl:Z<s.heap.objs.size:=Rw hz;refine Nz.vh D hz hTI hTO h1 h2 h3 p1.isList p2.isList p3.isList (x1:=u1) (x2:=u2) (x3:=u3) (by simpa using hu1) (by simpa using hu2) (by simpa using hu3) λh' z' TO' g1 g2 g3 hT hsz hk=>?_;refine⟨_,rfl,aaR (s:={s with heap:=h'}) z' λh'' z'' sb=>?_⟩;have hT2:h''.get? s.heap.objs.size=zS {cls:=.type "tuple",data:=.seq #[u1,u2,u3]}:=(sb.2 _ (Ti hzl)).trans hT
  have new:dz X.prog X.w (upd H s.heap.objs.size (.tup [x,y,z])) h'' s.heap.objs.size (.tup [x,y,z]):=
   ⟨by show 3<=aac;decide,[u1,u2,u3],(.cons ru1 (.cons ru2 (.cons ru3 .nil))),⟨_,hT2,rfl,_,rfl⟩⟩
  have I1:Inv X π σ (upd H s.heap.objs.size (.tup [x,y,z])) {s with heap:=h''}:=
   I.mH (t':=s.toks) (ch:=[Z,TI,TO,i1,i2,i3]) (λc o hb q=>(sb.2 c (λq'=>hb (by simp[q']))).trans (hk c o (λq'=>hb (by simp[q'])) (λq'=>hb (by simp[q'])) (λq'=>hb (by simp[q'])) (λq'=>hb (by simp[q'])) (λq'=>hb (by simp[q'])) q)) hf (Ro _) new
  refine⟨.ref s.heap.objs.size,_,I1,rfl,⟨_,x,y,z,rfl,I.cA.fresh (Ro _),rfl,λl hl=>by rw[I.iI hl hq1];exact hv1,λl hl=>by rw[I.iI hl hq2];exact hv2,λl hl=>by rw[I.iI hl hq3];exact hv3⟩,⟨z'',?_,⟨u1,u2,u3,?_⟩,?_,?_,?_⟩,λc hcm=>?_⟩
  .exact(sb.2 _ D.Ko).trans (hk _ _ D.Ko D.Kp.symm D.Kq.symm D.Kr.symm D.Pj.symm hTI)
  .exact(sb.2 _ D.wD).trans TO'
  .exact g1.at (λo q=>(sb.2 _ D.vf).trans q)
  .exact g2.at (λo q=>(sb.2 _ D.B7).trans q)
  .exact g3.at (λo q=>(sb.2 _ D.L9).trans q)
  .have hlt:c<s.heap.objs.size:=by
    have e':c=Z\/c=TI\/c=TO\/c=i1\/c=i2\/c=i3:=by simpa using hcm
    obtain q|q|q|q|q|q:=e'
    .rw[q];exact hzl
    .rw[q];exact Rw hTI
    .rw[q];exact Rw hTO
    .rw[q];let⟨_,e1,_⟩:=h1;exact Rw e1
    .rw[q];let⟨_,e1,_⟩:=h2;exact Rw e1
    .rw[q];let⟨_,e1,_⟩:=h3;exact Rw e1
   rw[ab (Sd hlt)];exact(hf c hcm).1
 done:=by
  intro X hP hw hK hc i π s σ H E I hf st hg;subst hP hw hK;let⟨hz,hTI,⟨q1,q2,q3,hTO⟩,h1,h2,h3⟩:=st;let⟨xs,ys,zs,hq1,hq2,hq3,hend⟩:=hg;let⟨aR,rv,p,_⟩:=I.list hq1;have l1:=rv.length;have he:aR.toArray[i]?=zN:=by
   obtain q|q:=hend
   .simp;omega
   .exact q.elim
  exact Nz.wF (I.ok.hd hc) D hz hTI h1 p.isList he λh' hk=>⟨rfl,I.B1 (t':=s.toks) (ch:=[Z,TI,TO,i1,i2,i3]) (λc o hb q=>
   hk c o (λq'=>hb (by simp[q'])) (λq'=>hb (by simp[q'])) q) hf⟩
 self:=λA i s Q E st h=>aaS st.1 h
def Kw(K:Rl)(ta:TA):TI:=λσ H R=>ta σ H λvs H1=>∃a b c xs ys zs,vs=[.ref a,.ref b,.ref c]/\cD K H1 a xs/\cD K H1 b ys/\cD K H1 c zs/\R (N5 K a b c) H1
def Mf{e3:Expr}(hg:Gl X "zip")(hm:X.mg "zip"=zN)(ha:PA X [e,e2,e3] ta)(hs:aag [e,e2,e3] X.env=(false,eval e X.env)::aag [e2,e3] X.env:=by rfl)(hpl:(aaf pos (aag [e2,e3] X.env)).any (·.1)=false:=by rfl):PI X (.Tuple elts kk tpos) (.Call (.Name "zip" p) [e,e2,e3] [] pos) (Kw X.K ta):=by
 intro π s σ H R I h;refine Call_ (nh I hg hm u_ (TR (du (ha pos π s σ H _ I h) λus s1⟨vs,H1,I1,r1,q1⟩=>?_) hs hpl));let⟨a,b,c,xs,ys,zs,ex,hq1,hq2,hq3,q⟩:=q1;subst ex;obtain _|⟨r2,rr2⟩:=r1;obtain _|⟨r3,rr3⟩:=rr2;obtain _|⟨r4,rr4⟩:=rr3;cases rr4;cases r2;cases r3;cases r4;let⟨its1,rv1,p1,_⟩:=I1.list hq1;let⟨its2,rv2,p2,_⟩:=I1.list hq2;let⟨its3,rv3,p3,_⟩:=I1.list hq3;have la1:a<s1.heap.objs.size:=p1.lt;have la2:b<s1.heap.objs.size:=p2.lt;have la3:c<s1.heap.objs.size:=p3.lt;refine Nz.Im p1.isList p2.isList p3.isList λh' hz hTI hTO h1 h2 h3 hsz hk=>aaS hz ?_;have I2:Inv X π σ H1 {s1 with heap:=h'}:=I1.kept (t':=s1.toks) hk;refine⟨s1.heap.objs.size+5,[s1.heap.objs.size+5,s1.heap.objs.size+3,s1.heap.objs.size+4,s1.heap.objs.size,s1.heap.objs.size+1,s1.heap.objs.size+2],_,_,H1,rfl,I2,Ip (Nz.N3 s1.heap.objs.size a b c la1 la2 la3),⟨hz,hTI,⟨_,_,_,hTO⟩,h1,h2,h3⟩,λc hcm=>?_,q⟩;have e':c=s1.heap.objs.size+5\/c=s1.heap.objs.size+3\/c=s1.heap.objs.size+4\/c=s1.heap.objs.size\/c=s1.heap.objs.size+1\/c=s1.heap.objs.size+2:=by simpa using hcm
 have hle:s1.heap.objs.size<=c:=by obtain z|z|z|z|z|z:=e'<;>(rw[z];first|exact Ro _|exact Su _ _)
 exact I1.Dk hle (I1.cA.fresh hle)
def Kx(K:Rl):R2:=λx y H Q=>∃a b xs ys,x=.ref a/\y=.ref b/\km K H a xs/\km K H b ys/\xs.length+ys.length<=aac/\
 (xs=[]->Q (.ref b) H)/\(xs≠[]->ys=[]->Q (.ref a) H)/\(xs≠[]->ys≠[]->∀p,H p=zN->Q (.ref p) (upd H p (.tup (xs++ys))))
def Mg{X:Cx}:rH X (aat .Add) (Kx X.K):=by
 intro π s σ H x y v u Q I rx ry h;let⟨a,b,xs,ys,rfl,rfl,ha,hb,hz,q0,q1,q2⟩:=h;by_cases hx:xs=[]
 .cases rx;cases ry;let⟨aR,r1,p1,_⟩:=I.tuple ha;let⟨its2,r2,p2,_⟩:=I.tuple hb;let⟨⟨cls,dd,data,sl⟩,ho,hc,n,hd⟩:=id p1;let⟨⟨cls2,dd2,data2,sl2⟩,ho2,hc2,n2,hd2⟩:=id p2;simp only at hc hd hc2 hd2;subst hc hd hc2 hd2;have hv:aR=[]:=r1.wW.mpr hx
  exact concat_meets ⟨_,ho,rfl⟩ ⟨_,ho2,rfl⟩ noFill_tuple_add seq_tuple_add WV WW (WX _ _)
   (tuple_addW0 a b aR.toArray its2.toArray n n2 dd dd2 sl sl2 (by simp[hv])) ⟨ho,ho2,⟨.ref b,H,I,rfl,q0 hx⟩⟩
 .exact GG π s σ H (.ref a) (.ref b) v u Q I rx ry ⟨a,b,xs,ys,rfl,rfl,ha,hb,hx,hz,q1 hx,q2 hx⟩
end L2
namespace Nb
open PySem PySem.Spec PyProof.Rows L2
open Vanbkj (Formula State Input Res Op)
open ak (Piece)
structure Ga where
 K:Rl
 CF:Addr
 CD:Addr
 CN:Addr
 CC:Addr
 CT:Addr
 cQ:Addr
 dW:Addr
 e_:Addr
abbrev iL(l:List Int):List V:=l.map V.int
abbrev nL(l:List Nat):List V:=l.map λ(n:Nat)=>V.int (n:Int)
def cut(ms:List Addr)(H:Hp):Hp:=λa=>if a∈ms then zN else H a
variable{a:Addr}{o:HO}{H:Hp}{ms:List Addr}
def cS(h:H a=zS o)(n:a∉ms):cut ms H a=zS o:=by unfold cut;rw[ae n];exact h
def aj(h:cut ms H a=zS o):H a=zS o/\a∉ms:=by
 unfold cut at h;split at h
 .cases h
 .exact⟨h,by assumption⟩
variable{H':Hp}
def bo(s:ah H H'):ah (cut ms H) (cut ms H'):=λa o h=>let⟨h1,h2⟩:=aj h;cS (s a o h1) h2
def lu(ms:List Addr)(H:Hp):Prop:=∀a∈ms,∃o,H a=zS o
def lu.free(d:lu ms H)(h:H a=zN):a∉ms:=λm=>by let⟨o,e⟩:=d a m;rw[h]at e;cases e
def lu.mono(d:lu ms H)(s:ah H H'):lu ms H':=λa m=>let⟨o,e⟩:=d a m;⟨o,s a o e⟩
def bz(d:lu ms H)(n:H a=zN)(h:H' a=zS o):cut ms H' a=zS o:=cS h (d.free n)
def ah.upd(h:H a=zN):ah H (L2.upd H a o):=λb u e=>by rw[ab (ay e h)];exact e
def ah.put(s:ah H H')(h:H a=zN):ah H (L2.upd H' a o):=λb u e=>by rw[ab (ay e h)];exact s b u e
def eJ(I:Hp):Formula->V->Prop
 | .const v,x=>∃a,x=.ref a/\I a=zS (.tup [.int 0,.int v])
 | .name n,x=>∃a,x=.ref a/\I a=zS (.tup [.int 1,.int (n:Int)])
 | .two o f g,x=>∃a y z,x=.ref a/\I a=zS (.tup [.int (US o),y,z])/\eJ I f y/\eJ I g z
 | .cond c f g,x=>∃a y z u,x=.ref a/\I a=zS (.tup [.int 10,y,z,u])/\eJ I c y/\eJ I f z/\eJ I g u
variable{I I':Hp}
def eJ.mono(s:ah I I'):∀{f:Formula}{x:V},eJ I f x->eJ I' f x
 | .const v,x,⟨a,e,h⟩=>⟨a,e,s _ _ h⟩
 | .name v,x,⟨a,e,h⟩=>⟨a,e,s _ _ h⟩
 | .two o f g,x,⟨a,y,z,e,h,h1,h2⟩=>⟨a,y,z,e,s _ _ h,h1.mono s,h2.mono s⟩
 | .cond c f g,x,⟨a,y,z,u,e,h,h0,h1,h2⟩=>⟨a,y,z,u,e,s _ _ h,h0.mono s,h1.mono s,h2.mono s⟩
def qK(I:Hp)(v:V)(q:Piece):Prop:=∃a,v=.ref a/\I a=zS (.tup [.int q.1,.int q.2])
def qK.mono(s:ah I I'){v:V}{q:Piece}(h:qK I v q):qK I' v q:=let⟨a,e,h⟩:=h;⟨a,e,s _ _ h⟩
def gZ(I:Hp)(p:Addr)(ps:List Piece):Prop:=∃vs,I p=zS (.lst vs)/\Paired (qK I) vs ps
def gZ.mono(s:ah I I'){p:Addr}{ps:List Piece}(h:gZ I p ps):gZ I' p ps:=let⟨vs,e,h⟩:=h;⟨vs,s _ _ e,Paired.j9 h λ_ _ z=>z.mono s⟩
structure fh(kvs:List (Key×V))(B:List Nat):Prop where
 nd:(kvs.map (·.1)).Nodup
 key:∀k:Key,k∈kvs.map (·.1)<->∃x∈B,k=Rk (x:Int)
def fF(p t n:V):List (Str×V):=[("pieces",p),("tree",t),("names",n)]
def fD(l k:V):List (Str×V):=[("stops",l),("place",k)]
def fN(i c t p r n:V):List (Str×V):=[("inputs",i),("cells",c),("tests",t),("presets",p),("remembered",r),("near_trials",n)]
def fC(n l h r:V):List (Str×V):=[("numbers",n),("low",l),("high",h),("refusals",r)]
def fT(n s c:V):List (Str×V):=[("names",n),("settings",s),("columns",c)]
def FF(l k j:V):kP "place" j (fD l k)=fD l j:=by rfl
structure Ok(P:ZV)(w:World)(K:Rl)(mg:Str->Option Value)(base:Heap)(k:Nat)(x:Str)(ps:List Str)(sp:Sp):Prop where
 ex:∃f fd,mg x=zS (.ref f)/\S4 K (.ref f)=true/\Binds K fd ps []/\ni P w K mg base Ji k f fd ps sp
structure OG(P:ZV)(w:World)(K:Rl)(mg:Str->Option Value)(base:Heap)(k:Nat)(x:Str)(C:Addr)(ps:List Str)(sp:Sp):Prop where
 ex:∃f fd j,j+1<=k/\Mk K C f/\mg x=zS (.ref C)/\Binds K fd ps []/\ni P w K mg base Ji j f fd ps sp
variable{ps:List Str}{j k:Nat}{P:ZV}{sp:Sp}{x:Str}{mg:Str->Option Value}{w:World}
def Ok.mono{K:Rl}{base:Heap}(o:Ok P w K mg base j x ps sp)(h:j<=k):Ok P w K mg base k x ps sp:=
 let⟨f,fd,a,b,c,d⟩:=o.ex
 ⟨f,fd,a,b,c,d.mono h⟩
def OG.mono{K:Rl}{base:Heap}{C:Addr}(o:OG P w K mg base j x C ps sp)(h:j<=k):OG P w K mg base k x C ps sp:=
 let⟨f,fd,i,z,a,b,c,d⟩:=o.ex
 ⟨f,fd,i,RO z h,a,b,c,d⟩
def Pn(mg:Str->Option Value)(x:Str)(i:Int):Prop:=∃t,mg x=zS (.int i t)
def Po(K:Rl)(mg:Str->Option Value)(x:Str)(a:Addr)(l:List Int):Prop:=mg x=zS (.ref a)/\∀H,km K H a (iL l)
section
variable{X:Cx}{x:Str}{p pos:Pos}{e:Expr}{es:List Expr}{t:TA}{sp:Sp}{ps:List Str}{k:Nat}{C:Addr}
def ax(o:Ok X.prog X.w X.K X.mg X.base k x ps sp)(hr:gP k X.A)(ha:PA X (e::es) t)(hg:Gl X x:=by rfl)(hdb:(x==("__debug__":Str))=false:=by decide)(he:aag (e::es) X.env=(false,eval e X.env)::aag es X.env:=by rfl)(hpl:(aaf pos (aag es X.env)).any (·.1)=false:=by rfl):PE X (.Call (.Name x p) (e::es) [] pos) (dR sp [] E0 t):=by let⟨f,fd,a,b,c,d⟩:=o.ex;exact LG d hr hg a b c .nil GS ha hdb he hpl
def B8(o:Ok X.prog X.w X.K X.mg X.base k x ps sp)(hr:gP k X.A)(hg:Gl X x:=by rfl)(hdb:(x==("__debug__":Str))=false:=by decide):PE X (.Call (.Name x p) [] [] pos) (dR sp [] E0 cP):=by let⟨f,fd,a,b,c,d⟩:=o.ex;exact JV d hr hg a b c .nil GS hdb
def gv(o:OG X.prog X.w X.K X.mg X.base k x C ps sp)(hr:gP k X.A)(ha:PA X (e::es) t)(hg:Gl X x:=by rfl)(hdb:(x==("__debug__":Str))=false:=by decide)(he:aag (e::es) X.env=(false,eval e X.env)::aag es X.env:=by rfl)(hpl:(aaf pos (aag es X.env)).any (·.1)=false:=by rfl):PE X (.Call (.Name x p) (e::es) [] pos) (gq C sp [] E0 t):=by let⟨f,fd,j,z,M,a,c,d⟩:=o.ex;exact LH M d (hr.mono z) hg a c .nil GS ha hdb he hpl
def Mh(o:OG X.prog X.w X.K X.mg X.base k x C ps sp)(hr:gP k X.A)(hg:Gl X x:=by rfl)(hdb:(x==("__debug__":Str))=false:=by decide):PE X (.Call (.Name x p) [] [] pos) (gq C sp [] E0 cP):=by let⟨f,fd,j,z,M,a,c,d⟩:=o.ex;exact JW M d (hr.mono z) hg a c .nil GS hdb
def aD{i:Int}(h:Pn X.mg x i)(hg:Gl X x:=by rfl)(hd:(x==("__debug__":Str))=false:=by decide):PE X (.Name x pos) (tC (.int i)):=by let⟨t,h⟩:=h;exact Gz hg h ⟨t,rfl⟩ hd
def GZ{a:Addr}{l:List Int}{K:Rl}(h:Po K X.mg x a l)(hg:Gl X x:=by rfl)(hd:(x==("__debug__":Str))=false:=by decide):PE X (.Name x pos) (tC (.ref a)):=Gz hg h.1 rfl hd
end
abbrev Tx(mg:Str->Option Value)(G:Ga):Prop:=Ng (Pn mg) (Po G.K mg) (λx=>mg x=zN) G.cQ G.dW G.e_
abbrev dr:TE:=tC (.int 0)
abbrev fV:TE:=tC (.int 1)
abbrev mr:TE:=tC (.int 2)
abbrev kq:R2:=lE λi j=>.bl (decide (i<=j))
abbrev mR:R2:=lE λi j=>.bl (decide (j<i))
abbrev oq:R2:=lE λi j=>.bl (decide (i<j))
abbrev qV:R2:=lE λi j=>.bl (decide (j<=i))
abbrev kU:R2:=lE λi j=>.int (i+j)
abbrev mS:R2:=lE λi j=>.int (i-j)
abbrev tK(sp:Sp)(t:TA):TE:=dR sp [] E0 t
abbrev aU(a:TE):TA:=a_ a cP
abbrev dH(a b:TE):TA:=a_ a (a_ b cP)
abbrev gM(a b c:TE):TA:=a_ a (a_ b (a_ c cP))
abbrev ju(a b c d:TE):TA:=a_ a (a_ b (a_ c (a_ d cP)))
abbrev aK:TE:=eG 0
abbrev aW:TE:=eG 1
abbrev bj:TE:=eG 2
abbrev b_:TE:=eG 3
abbrev d9:TE:=eG 4
abbrev gd:TE:=eG 5
abbrev jj:TE:=eG 6
abbrev mT:TE:=eG 7
abbrev oF:TE:=eG 8
abbrev rK:TE:=eG 9
abbrev Bb:List Str:=["self","pieces"]
abbrev Iq:List Str:=["self","pieces"]
def vi(G:Ga)(jG kW:Sp):TS:=ap (jV G.K aK aW "pieces") (ap (jV G.K aK (tK kW (aU aW)) "tree") (jV G.K aK (tK jG (aU aW)) "names"))
abbrev Ky:List Str:=["self","stops","place"]
abbrev N6:List Str:=["self","stops","place"]
def FG(G:Ga):TS:=ap (jV G.K aK aW "stops") (jV G.K aK bj "place")
abbrev yo:List Str:=["self"]
abbrev FH:List Str:=["self"]
def su(G:Ga):TS:=ap (jV G.K aK fz "inputs") (ap (jV G.K aK fz "cells") (ap (jV G.K aK fz "tests") (ap (jV G.K aK fz "presets") (ap (jV G.K aK fz "remembered") (jV G.K aK Ke "near_trials")))))
abbrev DK:List Str:=["self","numbers","low","high","refusals"]
abbrev Kz:List Str:=["self","numbers","low","high","refusals"]
def yp(G:Ga):TS:=ap (jV G.K aK aW "numbers") (ap (jV G.K aK bj "low") (ap (jV G.K aK b_ "high") (jV G.K aK d9 "refusals")))
abbrev G0:List Str:=["self","names","settings"]
abbrev Mi:List Str:=["self","names","settings"]
def B9(G:Ga):TS:=ap (jV G.K aK aW "names") (ap (jV G.K aK bj "settings") (jV G.K aK fz "columns"))
abbrev Bc:List Str:=["number"]
abbrev Ir:List Str:=["number"]
def vj(G:Ga):TS:=aA (bH kq kq dr aK (tC (.int 31)))
abbrev yq:List Str:=["number"]
abbrev FI:List Str:=["number"]
def sw(G:Ga):TS:=aA (bH kq kq (tC (.int (-1000000000000))) aK (tC (.int 1000000000000)))
abbrev ui:List Str:=["numbers","pieces"]
abbrev B_:List Str:=["numbers"]
def nw(G:Ga)(kX iO:Sp):TS:=ap (aL (tK iO (aU aK)) (ao 1)) (ap (aJ (aB (aP gR aW (tC .d7))) (aA (tC .d7)) az) (aA (gq G.CF kX [] E0 (aU aW))))
abbrev v5:List Str:=["numbers","pieces","at","missing","piece"]
abbrev DL:List Str:=["numbers"]
def pK(G:Ga)(cU jH:Sp):TS:=ap (aJ (aB (aP mR (dP (eQ G.K) (aU aK)) (tC (.int 60)))) (aA (tC .d7)) az) (ap (aL (bG cP) (ao 1)) (ap (aL dr (ao 2)) (ap (aL fV (ao 3)) (ap (xW (aB (aP mR b_ dr)) (ap (aL (tK jH (dH aK bj)) (ao 4)) (ap (aJ (aB (aP gR d9 (tC .d7))) (aA (tC .d7)) az) (ap (bx (jD G.K "list" jt aW (aU d9))) (ap (gh 2 (mz (tB (tK cU (aU (aP (ke G.K) d9 dr)))) mr fV) (pB λi j=>i+j)) (gh 3 (aP mS (aP (ke G.K) (tC (.ref G.cQ)) (aP (ke G.K) d9 dr)) fV) (pB λi j=>i+j))))))) (ap (aJ (aB (aP oq bj (dP (eQ G.K) (aU aK)))) (aA (tC .d7)) az) (aA aW))))))
abbrev yr:List Str:=["numbers","at","sign","told","fits"]
abbrev FJ:List Str:=["numbers","at"]
def sx(G:Ga)(cU eK bJ:Sp):TS:=ap (aJ (oE (aB (aP qV aW (dP (eQ G.K) (aU aK)))) (fk (aB (bH kq kq dr (aP (dQ G.K) aK aW) (tC (.int 10)))))) (aA (tC .d7)) az) (ap (aL (aP (dQ G.K) aK aW) (ao 2)) (ap (aJ (fk (tB (tK cU (aU bj)))) (aA (mB (dH bj dr))) az) (ap (aJ (aB (aP qV (aP kU aW fV) (dP (eQ G.K) (aU aK)))) (aA (tC .d7)) az) (ap (aL (aP (dQ G.K) aK (aP kU aW fV)) (ao 3)) (ap (aL (mz (aB (aP fM bj dr)) (tK bJ (aU b_)) (tK eK (aU b_))) (ao 4)) (aA (mz (tB d9) (mB (dH bj b_)) (tC .d7))))))))
abbrev Bd:List Str:=["sign"]
abbrev Iu:List Str:=["sign"]
def vk(G:Ga):TS:=aA (gX (aP fM aK dr) (aP fM aK fV))
abbrev Be:List Str:=["pieces","made","piece","sign","tree","k"]
abbrev Iv:List Str:=["pieces"]
def vm(G:Ga)(cU:Sp):TS:=ap (aL (bG cP) (ao 1)) (ap (gi (LX G.K (aU aK)) (ao 2) (ap (aL (aP (ke G.K) bj dr) (ao 3)) (aJ (tB (tK cU (aU b_))) (bx (jD G.K "list" jt aW (aU bj))) (ap (aL (mB (aU b_)) (ao 4)) (ap (gi (AW (aU (aP (ke G.K) (tC (.ref G.cQ)) b_))) (ao 5) (aL (aP (JY G.K) d9 (mB (aU (ii G.K "list" NM aW)))) (ao 4))) (bx (jD G.K "list" jt aW (aU d9)))))))) (aA (aP (dQ G.K) aW dr)))
abbrev yt:List Str:=["pieces","names","piece"]
abbrev FK:List Str:=["pieces"]
def sy(G:Ga):TS:=ap (aL fz (ao 1)) (ap (gi (lD G.K aK) (ao 2) (aJ (aB (aP fM (aP (ke G.K) bj dr) fV)) (mG aW (aP (ke G.K) bj fV) (tC (.bl true))) az)) (aA aW))
abbrev Bf:List Str:=["formula","inlined_cells","numbers","sign","told"]
abbrev Iw:List Str:=["formula","inlined_cells"]
def vo(G:Ga)(cU:Sp):TS:=ap (aL (bG cP) (ao 2)) (ap (gi (lD G.K (aC G.K aK "pieces")) (je G.K 2 (bI (ao 3) (bI (ao 4) jd))) (aJ (fG (aB (aP fM b_ fV)) (tB (ub d9 aW))) (bx (jD G.K "list" t9 bj (aU (gO aW d9)))) (aJ (tB (tK cU (aU b_))) (bx (jD G.K "list" (kS G.K) bj (aU (mB (dH b_ d9))))) (bx (jD G.K "list" jt bj (aU b_)))))) (aA bj))
abbrev yu:List Str:=["notebook","name"]
abbrev FL:List Str:=["notebook","name"]
def sD(G:Ga):TS:=aA (gX (ub aW (aC G.K aK "inputs")) (ub aW (aC G.K aK "cells")))
abbrev v6:List Str:=["notebook"]
abbrev DM:List Str:=["notebook"]
def pL(G:Ga):TS:=aA (aP Fk (dP vc (aU (aC G.K aK "inputs"))) (dP vc (aU (aC G.K aK "cells"))))
abbrev pM:List Str:=["notebook","cell","names","other"]
abbrev yw:List Str:=["notebook","cell"]
def kY(G:Ga):TS:=ap (aL (dP vc (aU (aC G.K aK "inputs"))) (ao 2)) (ap (iN (gi (vY (aC G.K aK "cells")) (ao 3) (ap (aJ (aB (aP fM b_ aW)) cK az) (bx (jD G.K "list" jt bj (aU b_)))))) (aA bj))
abbrev Bg:List Str:=["notebook","name","formula"]
abbrev Ix:List Str:=["notebook","name"]
def vp(G:Ga):TS:=ap (gi (lD G.K (aP Fk (dP B4 (aU (w6 (aC G.K aK "cells")))) (dP B4 (aU (w6 (aC G.K aK "tests")))))) (ao 2) (aJ (tB (ub aW (aC G.K bj "names"))) (aA (tC (.bl true))) az)) (aA (tC (.bl false)))
abbrev rL:List Str:=["notebook","formula","below","name"]
abbrev Rs:List Str:=["notebook","formula"]
def lV(G:Ga):TS:=ap (aL (dP vb (aU (aC G.K aW "names"))) (ao 2)) (ap (gi (LX G.K (aU (dP vc (aU (aC G.K aK "cells"))))) (ao 3) (aJ (tB (ub b_ bj)) (bx (DG bj (aC G.K (gO (aC G.K aK "cells") b_) "names"))) az)) (aA bj))
abbrev pN:List Str:=["notebook","formula","below","name"]
abbrev DN:List Str:=["notebook","formula"]
def pO(G:Ga)(cj:Sp):TS:=ap (aL (tK cj (dH aK aW)) (ao 2)) (aA (Fo (vW (vY (aC G.K aK "inputs")) (ao 3) (tB (ub b_ bj)) b_ [3])))
abbrev v9:List Str:=["dial"]
abbrev DO:List Str:=["dial"]
def pP(G:Ga):TS:=aA (aP (dQ G.K) (aC G.K aK "stops") (aC G.K aK "place"))
abbrev yx:List Str:=["numbers","refusals"]
abbrev FM:List Str:=["numbers","refusals"]
def sE(G:Ga)(aV:Sp):TS:=aA (gq G.CC aV [] E0 (ju aK (dP (LR G.K) (aU aK)) (dP (LQ G.K) (aU aK)) aW))
abbrev lI:List Str:=["value","how_many"]
abbrev uj:List Str:=["value","how_many"]
def iP(G:Ga)(aV:Sp):TS:=aA (gq G.CC aV [] E0 (ju (aP O8 (bG (aU aK)) aW) aK aK fz))
abbrev pQ:List Str:=["tree","columns","how_many","sign","first","second","column"]
abbrev ir:List Str:=["tree","columns","how_many"]
def pR(G:Ga)(aV aO gw mK mL cq:Sp):TS:=ap (aL (aP (ke G.K) aK dr) (ao 3)) (ap (aJ (aB (aP fM b_ dr)) (aA (tK cq (dH (aP (ke G.K) aK fV) bj))) az) (ap (aJ (aB (aP fM b_ fV)) (aA (gO aW (aP (ke G.K) aK fV))) az) (ap (aL (tK aO (gM (aP (ke G.K) aK fV) aW bj)) (ao 4)) (ap (aJ (aB (aP fM (dP mI (aU (aC G.K d9 "refusals"))) bj)) (aA d9) az) (ap (aJ (aB (aP fM b_ (tC (.int 10)))) (aA (tK gw (ju aK d9 aW bj))) az) (ap (aL (tK aO (gM (aP (ke G.K) aK mr) aW bj)) (ao 5)) (ap (aL (tK mL (gM b_ d9 gd)) (ao 6)) (aA (gq G.CC aV [] E0 (ju (aC G.K jj "numbers") (aC G.K jj "low") (aC G.K jj "high") (tK mK (gM (aC G.K d9 "refusals") (aC G.K gd "refusals") (aC G.K jj "refusals")))))))))))))
abbrev DP:List Str:=["first","second","own","refusals"]
abbrev KA:List Str:=["first","second","own"]
def yy(G:Ga):TS:=ap (aJ (fG (aB (aP fM (dP mI (aU aW)) dr)) (aB (aP fM (dP mI (aU bj)) dr))) (aA aK) az) (ap (aJ (fG (aB (aP fM (dP mI (aU aK)) dr)) (aB (aP fM (dP mI (aU bj)) dr))) (aA aW) az) (ap (aL (dP vb (aU bj)) (ao 3)) (ap (bx (DG b_ aW)) (ap (bx (DG b_ aK)) (aA b_)))))
abbrev rM:List Str:=["tree","asked","columns","how_many","zeros"]
abbrev zO:List Str:=["tree","asked","columns","how_many"]
def lW(G:Ga)(ga aO:Sp):TS:=ap (aJ (aB (aP fM (dP mI (aU (aC G.K aW "refusals"))) dr)) (ap (aL (jD G.K "list" (vd G.K) (aC G.K aW "numbers") (aU dr)) (ao 4)) (ap (aJ (aB (aP fM d9 dr)) (aA (tK aO (gM (aP (ke G.K) aK mr) bj b_))) az) (aJ (aB (aP fM d9 b_)) (aA (tK aO (gM (aP (ke G.K) aK (tC (.int 3))) bj b_))) az))) az) (aA (tK ga (gM aW (tK aO (gM (aP (ke G.K) aK mr) bj b_)) (tK aO (gM (aP (ke G.K) aK (tC (.int 3))) bj b_)))))
abbrev nz:List Str:=["asked","taken","other","numbers","refusals","k","kind","a","b","c"]
abbrev Ca:List Str:=["asked","taken","other"]
def nA(G:Ga)(aV:Sp):TS:=ap (aL (vW (Kw G.K (gM (aC G.K aK "numbers") (aC G.K aW "numbers") (aC G.K bj "numbers"))) (je G.K 3 (bI (ao 7) (bI (ao 8) (bI (ao 9) jd)))) eX (mz (aB (aP mq mT dr)) oF rK) [7,8,9]) (ao 3)) (ap (aL (dP vb (aU (aC G.K aK "refusals"))) (ao 4)) (ap (iN (gi (jh (aC G.K aW "refusals")) (je G.K 2 (bI (ao 5) (bI (ao 6) jd))) (aJ (aB (aP mq (aP (dQ G.K) (aC G.K aK "numbers") gd) dr)) (bx (B6 d9 gd jj)) az))) (ap (iN (gi (jh (aC G.K bj "refusals")) (je G.K 2 (bI (ao 5) (bI (ao 6) jd))) (aJ (aB (aP fM (aP (dQ G.K) (aC G.K aK "numbers") gd) dr)) (bx (B6 d9 gd jj)) az))) (aA (gq G.CC aV [] E0 (ju b_ (dP A9 (dH (aC G.K aW "low") (aC G.K bj "low"))) (dP yd (dH (aC G.K aW "high") (aC G.K bj "high"))) d9))))))
abbrev uk:List Str:=["sign","first","second","a","b"]
abbrev KB:List Str:=["sign","first","second"]
def yz(G:Ga)(aV sp_divided sp_greater_one sp_less sp_lesser_one sp_plus sp_times:Sp):TS:=ap (aJ (aB (aP fM aK mr)) (aA (tK sp_plus (dH aW bj))) az) (ap (aJ (aB (aP fM aK (tC (.int 3)))) (aA (tK sp_less (dH aW bj))) az) (ap (aJ (aB (aP fM aK (tC (.int 4)))) (aA (tK sp_times (dH aW bj))) az) (ap (aJ (aB (aP fM aK (tC (.int 5)))) (aA (tK sp_divided (dH aW bj))) az) (ap (aJ (aB (aP fM aK (tC (.int 6)))) (aA (tK sp_greater_one (dH aW bj))) az) (ap (aJ (aB (aP fM aK (tC (.int 7)))) (aA (tK sp_lesser_one (dH aW bj))) az) (ap (aJ (aB (aP fM aK (tC (.int 8)))) (aA (gq G.CC aV [] E0 (ju (vW (zI G.K (dH (aC G.K aW "numbers") (aC G.K bj "numbers"))) (je G.K 2 (bI (ao 3) (bI (ao 4) jd))) eX (mz (aB (aP oq b_ d9)) fV dr) [3,4]) dr fV fz))) az) (aA (gq G.CC aV [] E0 (ju (vW (zI G.K (dH (aC G.K aW "numbers") (aC G.K bj "numbers"))) (je G.K 2 (bI (ao 3) (bI (ao 4) jd))) eX (mz (aB (aP fM b_ d9)) fV dr) [3,4]) dr fV fz)))))))))
abbrev FN:List Str:=["first","second","sums","a","b"]
abbrev N7:List Str:=["first","second"]
def FO(G:Ga)(bL:Sp):TS:=ap (aL (vW (zI G.K (dH (aC G.K aK "numbers") (aC G.K aW "numbers"))) (je G.K 2 (bI (ao 3) (bI (ao 4) jd))) eX (aP kU b_ d9) [3,4]) (ao 2)) (aA (tK bL (gM bj (aP kU (aC G.K aK "low") (aC G.K aW "low")) (aP kU (aC G.K aK "high") (aC G.K aW "high")))))
abbrev FP:List Str:=["first","second","differences","a","b"]
abbrev N8:List Str:=["first","second"]
def FQ(G:Ga)(bL:Sp):TS:=ap (aL (vW (zI G.K (dH (aC G.K aK "numbers") (aC G.K aW "numbers"))) (je G.K 2 (bI (ao 3) (bI (ao 4) jd))) eX (aP mS b_ d9) [3,4]) (ao 2)) (aA (tK bL (gM bj (aP mS (aC G.K aK "low") (aC G.K aW "high")) (aP mS (aC G.K aK "high") (aC G.K aW "low")))))
abbrev Cb:List Str:=["first","second","products","corners","a","b"]
abbrev Mj:List Str:=["first","second"]
def Cc(G:Ga)(bL:Sp):TS:=ap (aL (vW (zI G.K (dH (aC G.K aK "numbers") (aC G.K aW "numbers"))) (je G.K 2 (bI (ao 4) (bI (ao 5) jd))) eX (aP (rI wB λi j=>.int (i*j)) d9 gd) [4,5]) (ao 2)) (ap (aL (mB (ju (aP (rI wB λi j=>.int (i*j)) (aC G.K aK "low") (aC G.K aW "low")) (aP (rI wB λi j=>.int (i*j)) (aC G.K aK "low") (aC G.K aW "high")) (aP (rI wB λi j=>.int (i*j)) (aC G.K aK "high") (aC G.K aW "low")) (aP (rI wB λi j=>.int (i*j)) (aC G.K aK "high") (aC G.K aW "high")))) (ao 3)) (aA (tK bL (gM bj (dP (Kn G.K) (aU b_)) (dP (Km G.K) (aU b_))))))
abbrev kZ:List Str:=["numbers","low","high","outside","kept","k","number"]
abbrev yA:List Str:=["numbers","low","high"]
def k0(G:Ga)(aV bJ fH eF:Sp):TS:=ap (aJ (fG (tB (tK bJ (aU aW))) (tB (tK bJ (aU bj)))) (aA (gq G.CC aV [] E0 (ju aK aW bj fz))) az) (ap (aL (vW (GQ G.K (aU aK)) (je G.K 2 (bI (ao 5) (bI (ao 6) jd))) (fk (aB (bH kq kq (tC (.int (-1000000000000))) jj (tC (.int 1000000000000))))) gd [5,6]) (ao 3)) (ap (aL (dP (Fu G.K) (aU aK)) (ao 4)) (ap (gi (lD G.K b_) (ao 5) (aL dr (iB d9 gd GK))) (aA (tK fH (dH d9 (tK eF (dH b_ mr))))))))
abbrev ul:List Str:=["settings","kind","refusals","k"]
abbrev Cd:List Str:=["settings","kind"]
def nD(G:Ga):TS:=ap (aL fz (ao 2)) (ap (gi (lD G.K aK) (ao 3) (mG bj b_ aW)) (aA bj))
abbrev qL:List Str:=["first","second","quotients","nothings","farthest","a","b","k","number"]
abbrev Iy:List Str:=["first","second"]
def vq(G:Ga)(aV eF:Sp):TS:=ap (aL (vW (zI G.K (dH (aC G.K aK "numbers") (aC G.K aW "numbers"))) (je G.K 2 (bI (ao 5) (bI (ao 6) jd))) eX (mz (aB (aP mq jj dr)) (aP A8 gd jj) dr) [5,6]) (ao 2)) (ap (aL (vW (GQ G.K (aU (aC G.K aW "numbers"))) (je G.K 2 (bI (ao 7) (bI (ao 8) jd))) (aB (aP fM oF dr)) mT [7,8]) (ao 3)) (ap (aL (dP yd (dH (dP Kc (aU (aC G.K aK "low"))) (dP Kc (aU (aC G.K aK "high"))))) (ao 4)) (aA (gq G.CC aV [] E0 (ju bj (rJ (rU λi=>.int (-i)) d9) d9 (tK eF (dH b_ fV)))))))
abbrev lX:List Str:=["first","second","greater","a","b"]
abbrev zP:List Str:=["first","second"]
def lY(G:Ga)(aV:Sp):TS:=ap (aL (vW (zI G.K (dH (aC G.K aK "numbers") (aC G.K aW "numbers"))) (je G.K 2 (bI (ao 3) (bI (ao 4) jd))) eX (mz (aB (aP mR b_ d9)) b_ d9) [3,4]) (ao 2)) (aA (gq G.CC aV [] E0 (ju bj (dP yd (dH (aC G.K aK "low") (aC G.K aW "low"))) (dP yd (dH (aC G.K aK "high") (aC G.K aW "high"))) fz)))
abbrev nE:List Str:=["first","second","lesser","a","b"]
abbrev Ce:List Str:=["first","second"]
def nF(G:Ga)(aV:Sp):TS:=ap (aL (vW (zI G.K (dH (aC G.K aK "numbers") (aC G.K aW "numbers"))) (je G.K 2 (bI (ao 3) (bI (ao 4) jd))) eX (mz (aB (aP oq b_ d9)) b_ d9) [3,4]) (ao 2)) (aA (gq G.CC aV [] E0 (ju bj (dP A9 (dH (aC G.K aK "low") (aC G.K aW "low"))) (dP A9 (dH (aC G.K aK "high") (aC G.K aW "high"))) fz)))
abbrev lZ:List Str:=["column","verdicts","k","number"]
abbrev zQ:List Str:=["column"]
def l5(G:Ga):TS:=ap (aL (vW (lD G.K (aC G.K aK "numbers")) (ao 3) eX (mz (aB (aP mq b_ dr)) fV dr) [3]) (ao 1)) (ap (iN (gi (vY (aC G.K aK "refusals")) (ao 2) (aL mr (iB aW bj GK)))) (aA aW))
abbrev pS:List Str:=[]
abbrev yB:List Str:=[]
def k4(G:Ga)(eL:Sp):TS:=aA (gq G.CT eL [] E0 (dH (bG cP) (bG (aU (mB cP)))))
abbrev v_:List Str:=["notebook","trial","formula","below","name","dial","cell"]
abbrev DQ:List Str:=["notebook","trial","formula"]
def pT(G:Ga)(aO fW cj:Sp):TS:=ap (aL (tK cj (dH aK bj)) (ao 3)) (ap (iN (gi (jh (aC G.K aK "inputs")) (je G.K 2 (bI (ao 4) (bI (ao 5) jd))) (aJ (fG (tB (ub d9 b_)) (tB (dw d9 (aC G.K aW "columns")))) (mG (aC G.K aW "columns") d9 (tK fW (gM gd d9 aW))) az))) (ap (iN (gi (jh (aC G.K aK "cells")) (je G.K 2 (bI (ao 4) (bI (ao 6) jd))) (aJ (fG (tB (ub d9 b_)) (tB (dw d9 (aC G.K aW "columns")))) (mG (aC G.K aW "columns") d9 (tK aO (gM (aC G.K jj "tree") (aC G.K aW "columns") (dP (eQ G.K) (aU (aC G.K aW "settings")))))) az))) (aA (tK aO (gM (aC G.K bj "tree") (aC G.K aW "columns") (dP (eQ G.K) (aU (aC G.K aW "settings"))))))))
abbrev k6:List Str:=["dial","name","trial","at","places"]
abbrev yC:List Str:=["dial","name","trial"]
def k7(G:Ga)(fH cq bp:Sp):TS:=ap (aJ (aB (aP (LL G.K true) aW (aC G.K bj "names"))) (aA (tK cq (dH (tK bp (aU aK)) (dP (eQ G.K) (aU (aC G.K bj "settings")))))) az) (ap (aL (jD G.K "list" (sq G.K) (aC G.K bj "names") (aU aW)) (ao 3)) (aA (tK fH (dH (vW (lD G.K (aC G.K bj "settings")) (ao 4) eX (aP (dQ G.K) (aC G.K aK "stops") (aP (ke G.K) d9 b_)) [4]) fz))))
abbrev rN:List Str:=["notebook","trial","number"]
abbrev zR:List Str:=["notebook","trial","number"]
def l6(G:Ga)(eY gx:Sp):TS:=aA (tK gx (aU (tK eY (gM aK aW (gO (aC G.K aK "tests") bj)))))
abbrev rO:List Str:=["notebook","number"]
abbrev Sc:List Str:=["notebook","number"]
def l7(G:Ga)(bM aX:Sp):TS:=aA (aP (dQ G.K) (tK aX (gM aK (tK bM cP) aW)) dr)
abbrev pU:List Str:=["notebook","trial","verdicts","number"]
abbrev yD:List Str:=["notebook"]
def k8(G:Ga)(bM aX:Sp):TS:=ap (aL (tK bM cP) (ao 1)) (ap (aL fz (ao 2)) (ap (iN (gi (vY (aC G.K aK "tests")) (ao 3) (mG bj b_ (aP (dQ G.K) (tK aX (gM aK aW b_)) dr)))) (aA bj)))
abbrev pV:List Str:=["notebook","number"]
abbrev yE:List Str:=["notebook","number"]
def k9(G:Ga)(gy:Sp):TS:=ap (aJ (tB (dw aW (aC G.K aK "tests"))) (aA (bG (aU (tC (.int (-9)))))) az) (aA (bG (aU (tK gy (dH aK aW)))))
abbrev ot:List Str:=["notebook","told","number","verdict"]
abbrev wG:List Str:=["notebook"]
def jX(G:Ga)(bN:Sp):TS:=ap (aL (bG (aU (dP mI (aU (aC G.K aK "tests"))))) (ao 1)) (ap (gi (jh (w8 (tK bN (aU aK)))) (je G.K 2 (bI (ao 2) (bI (ao 3) jd))) (bx (jD G.K "list" (kS G.K) aW (aU (mB (dH bj b_)))))) (aA aW))
abbrev um:List Str:=["notebook","name"]
abbrev Cf:List Str:=["notebook","name"]
def nG(G:Ga)(dY dL cV:Sp):TS:=ap (aJ (fk (tB (tK dL (dH aK aW)))) (aA (bG (aU (tC (.int (-8)))))) az) (ap (aJ (tB (ub aW (aC G.K aK "inputs"))) (aA (bG (dH fV aW))) az) (aA (tK dY (aU (tK cV (dH aK (gO (aC G.K aK "cells") aW)))))))
abbrev lJ:List Str:=["notebook","number"]
abbrev uo:List Str:=["notebook","number"]
def iQ(G:Ga)(dY cV:Sp):TS:=ap (aJ (tB (dw aW (aC G.K aK "tests"))) (aA (bG (aU (tC (.int (-9)))))) az) (aA (tK dY (aU (tK cV (dH aK (gO (aC G.K aK "tests") aW))))))
abbrev Bh:List Str:=["numbers"]
abbrev Iz:List Str:=["numbers"]
def vt(G:Ga):TS:=aA (aP Fk (bG (aU (dP (eQ G.K) (aU aK)))) aK)
abbrev rP:List Str:=["notebook","told","name","dial"]
abbrev zT:List Str:=["notebook"]
def l8(G:Ga)(bp:Sp):TS:=ap (aL (bG (aU (dP mI (aU (aC G.K aK "inputs"))))) (ao 1)) (ap (iN (gi (jh (aC G.K aK "inputs")) (je G.K 2 (bI (ao 2) (bI (ao 3) jd))) (bx (jD G.K "list" (kS G.K) aW (aU (mB (ju bj (tK bp (aU b_)) (aC G.K b_ "place") (dP (eQ G.K) (aU (aC G.K b_ "stops")))))))))) (aA aW))
abbrev rQ:List Str:=["notebook","number","formula","below","inlined_cells","numbers","name","cell"]
abbrev zU:List Str:=["notebook","number"]
def l9(G:Ga)(dY jk cj:Sp):TS:=ap (aJ (tB (dw aW (aC G.K aK "tests"))) (aA (bG (aU (tC (.int (-9)))))) az) (ap (aL (gO (aC G.K aK "tests") aW) (ao 2)) (ap (aL (tK cj (dH aK bj)) (ao 3)) (ap (aL fz (ao 4)) (ap (iN (gi (jh (aC G.K aK "cells")) (je G.K 2 (bI (ao 6) (bI (ao 7) jd))) (aJ (tB (ub jj b_)) (ap (aL (tK jk (dH mT d9)) (ao 5)) (ap (aJ (aB (aP mR (dP (eQ G.K) (aU gd)) (tC (.int 200)))) (aA (bG (aU (tC (.int (-19)))))) az) (mG d9 jj gd))) az))) (ap (aL (tK jk (dH bj d9)) (ao 5)) (ap (aJ (aB (aP mR (dP (eQ G.K) (aU gd)) (tC (.int 200)))) (aA (bG (aU (tC (.int (-19)))))) az) (aA (tK dY (aU gd)))))))))
abbrev yF:List Str:=["notebook"]
abbrev FR:List Str:=["notebook"]
def sF(G:Ga)(bN:Sp):TS:=ap (jV G.K aK (tK bN (aU aK)) "remembered") (aA (bG (aU (dP mI (aU (aC G.K aK "tests"))))))
abbrev wb:List Str:=["notebook","told","how_many","number","verdict","before"]
abbrev DR:List Str:=["notebook"]
def pW(G:Ga)(bN:Sp):TS:=ap (aL (bG cP) (ao 1)) (ap (aL dr (ao 2)) (ap (gi (jh (w8 (tK bN (aU aK)))) (je G.K 2 (bI (ao 3) (bI (ao 4) jd))) (ap (aL (Fm (aC G.K aK "remembered") b_ (tC (.int 3))) (ao 5)) (aJ (aB (aP mq d9 gd)) (ap (gh 2 fV (pB λi j=>i+j)) (bx (jD G.K "list" (kS G.K) aW (aU (mB (gM b_ gd d9)))))) az))) (aA (aP Fk (bG (aU bj)) aW))))
abbrev uq:List Str:=["notebook","name","low","high","stride","value","refusal","stops"]
abbrev Cg:List Str:=["notebook","name","low","high","stride","value"]
def nH(G:Ga)(jv bJ bc:Sp):TS:=ap (aL (tK bc (ju aK aW (aC G.K aK "inputs") (tC (.int 8)))) (ao 6)) (ap (aJ (aB (aP mq jj dr)) (aA (bG (aU jj))) az) (ap (aJ (fk (fG (tB (tK bJ (aU bj))) (fG (tB (tK bJ (aU b_))) (tB (tK bJ (aU gd)))))) (aA (bG (aU (tC (.int (-4)))))) az) (ap (aJ (oE (aB (aP oq d9 fV)) (oE (aB (aP mR bj b_)) (aB (aP mR (aP kU (aP A8 (aP mS b_ bj) d9) fV) (tC (.int 64)))))) (aA (bG (aU (tC (.int (-5)))))) az) (ap (aL (dP Kd (aU (dP GW (gM bj (aP kU b_ fV) d9)))) (ao 7)) (ap (aJ (aB (aP (LL G.K true) gd mT)) (aA (bG (aU (tC (.int (-6)))))) az) (ap (mG (aC G.K aK "inputs") aW (gq G.CD jv [] E0 (dH mT (jD G.K "list" (sq G.K) mT (aU gd))))) (aA (bG (aU dr)))))))))
abbrev ur:List Str:=["notebook","name","place","stops","refusal","value"]
abbrev Ch:List Str:=["notebook","name","place","stops"]
def nJ(G:Ga)(jv bJ bc:Sp):TS:=ap (aL (tK bc (ju aK aW (aC G.K aK "inputs") (tC (.int 8)))) (ao 4)) (ap (aJ (aB (aP mq d9 dr)) (aA (bG (aU d9))) az) (ap (aJ (oE (aB (aP oq (dP (eQ G.K) (aU b_)) fV)) (oE (aB (aP mR (dP (eQ G.K) (aU b_)) (tC (.int 64)))) (aB (aP oq (dP MP (aU (dP (Kj G.K) (aU b_)))) (dP (eQ G.K) (aU b_)))))) (aA (bG (aU (tC (.int (-5)))))) az) (ap (gi (lD G.K b_) (ao 5) (aJ (fk (tB (tK bJ (aU gd)))) (aA (bG (aU (tC (.int (-4)))))) az)) (ap (aJ (fk (aB (bH kq oq dr bj (dP (eQ G.K) (aU b_))))) (aA (bG (aU (tC (.int (-6)))))) az) (ap (mG (aC G.K aK "inputs") aW (gq G.CD jv [] E0 (dH b_ bj))) (aA (bG (aU dr))))))))
abbrev k_:List Str:=["notebook","name","kept","most"]
abbrev sG:List Str:=["notebook","name","kept","most"]
def ij(G:Ga)(dL eK:Sp):TS:=ap (aJ (fk (tB (tK eK (aU aW)))) (aA (tC (.int (-1)))) az) (ap (aJ (tB (tK dL (dH aK aW))) (aA (tC (.int (-2)))) az) (ap (aJ (aB (aP qV (dP mI (aU bj)) b_)) (aA (tC (.int (-3)))) az) (aA dr)))
abbrev yG:List Str:=["notebook","name","numbers","refusal"]
abbrev FS:List Str:=["notebook","name","numbers"]
def sH(G:Ga)(ek bc bO:Sp):TS:=ap (aL (tK bc (ju aK aW (aC G.K aK "cells") (tC (.int 12)))) (ao 3)) (ap (aJ (aB (aP mq b_ dr)) (aA (bG (aU b_))) az) (aA (tK bO (a_ (aC G.K aK "cells") (ju aW bj (tK ek (aU aK)) dr)))))
abbrev rR:List Str:=["notebook","name","numbers"]
abbrev zV:List Str:=["notebook","name","numbers"]
def l_(G:Ga)(fX bO:Sp):TS:=ap (aJ (tB (dw aW (aC G.K aK "cells"))) (aA (bG (aU (tC (.int (-8)))))) az) (aA (tK bO (a_ (aC G.K aK "cells") (ju aW bj (tK fX (dH aK aW)) dr))))
abbrev yH:List Str:=["notebook","number","numbers","is_new"]
abbrev FT:List Str:=["notebook","number","numbers"]
def sI(G:Ga)(ek eK bO:Sp):TS:=ap (aJ (fk (tB (tK eK (aU aW)))) (aA (bG (aU (tC (.int (-1)))))) az) (ap (aL (dw aW (aC G.K aK "tests")) (ao 3)) (ap (aJ (fG (tB b_) (aB (aP qV (dP mI (aU (aC G.K aK "tests"))) (tC (.int 8))))) (aA (bG (aU (tC (.int (-3)))))) az) (aA (tK bO (a_ (aC G.K aK "tests") (ju aW bj (tK ek (aU aK)) (mz (tB b_) fV dr)))))))
abbrev rS:List Str:=["kept","key","numbers","allowed","answer","formula","name"]
abbrev zW:List Str:=["kept","key","numbers","allowed","answer"]
def ma(G:Ga)(g7:Sp):TS:=ap (aL (tK g7 (aU bj)) (ao 5)) (ap (aJ (aB (aP gR gd (tC .d7))) (aA (bG (aU (tC (.int (-10)))))) az) (ap (iN (gi (vY (aC G.K gd "names")) (ao 6) (aJ (aB (aP (LL G.K true) jj b_)) (aA (bG (aU (tC (.int (-11)))))) az))) (ap (mG aK aW gd) (aA (bG (aU d9))))))
abbrev wc:List Str:=["notebook","name","preset"]
abbrev DS:List Str:=["notebook","name"]
def pX(G:Ga)(dL lc:Sp):TS:=ap (aJ (fk (tB (tK dL (dH aK aW)))) (aA (bG (aU (tC (.int (-7)))))) az) (ap (aJ (tB (tK lc (dH aK aW))) (aA (bG (aU (tC (.int (-12)))))) az) (ap (bx (pI (aC G.K aK "inputs") aW (tC .d7))) (ap (bx (pI (aC G.K aK "cells") aW (tC .d7))) (ap (iN (gi (DD (aC G.K aK "presets")) (ao 2) (bx (pI bj aW (tC .d7))))) (aA (bG (aU dr)))))))
abbrev wd:List Str:=["notebook","number"]
abbrev DT:List Str:=["notebook","number"]
def pY(G:Ga):TS:=ap (aJ (tB (dw aW (aC G.K aK "tests"))) (aA (bG (aU (tC (.int (-9)))))) az) (ap (bx (Fn (aC G.K aK "tests") aW)) (ap (bx (pI (aC G.K aK "remembered") aW (tC .d7))) (aA (bG (aU dr)))))
abbrev uu:List Str:=["notebook","name","steps","dial"]
abbrev Ci:List Str:=["notebook","name","steps"]
def nM(G:Ga):TS:=ap (aJ (tB (dw aW (aC G.K aK "inputs"))) (aA (bG (aU (tC (.int (-7)))))) az) (ap (aL (gO (aC G.K aK "inputs") aW) (ao 3)) (ap (jV G.K b_ (dP yd (dH dr (dP A9 (dH (aP kU (aC G.K b_ "place") bj) (aP mS (dP (eQ G.K) (aU (aC G.K b_ "stops"))) fV))))) "place") (aA (bG (aU (aC G.K b_ "place"))))))
abbrev we:List Str:=["notebook","name","value","dial"]
abbrev DU:List Str:=["notebook","name","value"]
def pZ(G:Ga):TS:=ap (aJ (tB (dw aW (aC G.K aK "inputs"))) (aA (bG (aU (tC (.int (-7)))))) az) (ap (aL (gO (aC G.K aK "inputs") aW) (ao 3)) (ap (aJ (aB (aP (LL G.K true) bj (aC G.K b_ "stops"))) (aA (bG (aU (tC (.int (-6)))))) az) (ap (jV G.K b_ (jD G.K "list" (sq G.K) (aC G.K b_ "stops") (aU bj)) "place") (aA (bG (aU (aC G.K b_ "place")))))))
abbrev rT:List Str:=["notebook","number","preset","name","dial"]
abbrev zX:List Str:=["notebook","number"]
def md(G:Ga)(bp:Sp):TS:=ap (aJ (fk (aB (bH kq kq dr aW (tC (.int 9))))) (aA (bG (aU (tC (.int (-13)))))) az) (ap (aL fz (ao 2)) (ap (iN (gi (jh (aC G.K aK "inputs")) (je G.K 2 (bI (ao 3) (bI (ao 4) jd))) (mG bj b_ (tK bp (aU d9))))) (ap (mG (aC G.K aK "presets") aW bj) (aA (bG (aU (dP mI (aU bj))))))))
abbrev ou:List Str:=["notebook","number","moved","name","value","dial"]
abbrev wH:List Str:=["notebook","number"]
def jY(G:Ga)(bp:Sp):TS:=ap (aJ (tB (dw aW (aC G.K aK "presets"))) (aA (bG (aU (tC (.int (-13)))))) az) (ap (aL dr (ao 2)) (ap (iN (gi (jh (gO (aC G.K aK "presets") aW)) (je G.K 2 (bI (ao 3) (bI (ao 4) jd))) (ap (aL (gO (aC G.K aK "inputs") b_) (ao 5)) (aJ (aB (aP mq (tK bp (aU gd)) d9)) (ap (jV G.K gd (jD G.K "list" (sq G.K) (aC G.K gd "stops") (aU d9)) "place") (gh 2 fV (pB λi j=>i+j))) az)))) (aA (bG (aU bj)))))
abbrev uv:List Str:=["notebook","name","column"]
abbrev Cj:List Str:=["notebook","name"]
def nN(G:Ga)(eY bM bp:Sp):TS:=ap (aJ (tB (ub aW (aC G.K aK "inputs"))) (aA (bG (dH dr (tK bp (aU (gO (aC G.K aK "inputs") aW)))))) az) (ap (aJ (tB (dw aW (aC G.K aK "cells"))) (aA (bG (aU (tC (.int (-8)))))) az) (ap (aL (tK eY (gM aK (tK bM cP) (gO (aC G.K aK "cells") aW))) (ao 2)) (ap (aJ (tB (ub dr (aC G.K bj "refusals"))) (aA (bG (dH fV (gO (aC G.K bj "refusals") dr)))) az) (aA (bG (dH dr (aP (dQ G.K) (aC G.K bj "numbers") dr)))))))
abbrev uw:List Str:=["notebook","name","number","verdicts"]
abbrev Ck:List Str:=["notebook","name","number"]
def nO(G:Ga)(jI:Sp):TS:=ap (aJ (tB (dw aW (aC G.K aK "inputs"))) (aA (bG (aU (tC (.int (-7)))))) az) (ap (aJ (tB (dw bj (aC G.K aK "tests"))) (aA (bG (aU (tC (.int (-9)))))) az) (ap (aL (tK jI (gM aK aW bj)) (ao 3)) (aA (aP Fk (bG (aU (dP (eQ G.K) (aU b_)))) b_))))
abbrev Cm:List Str:=["notebook","name","number","settings","place"]
abbrev Ml:List Str:=["notebook","name","number"]
def Cn(G:Ga)(eL aX:Sp):TS:=ap (aL (vW (AW (aU (dP (eQ G.K) (aU (aC G.K (gO (aC G.K aK "inputs") aW) "stops"))))) (ao 4) eX (mB (aU d9)) [4]) (ao 3)) (aA (tK aX (gM aK (gq G.CT eL [] E0 (dH (bG (aU aW)) b_)) bj)))
abbrev wg:List Str:=["notebook","name","number","direction","verdicts","start","place"]
abbrev DV:List Str:=["notebook","name","number","direction"]
def p6(G:Ga)(jI:Sp):TS:=ap (aJ (tB (dw aW (aC G.K aK "inputs"))) (aA (bG (aU (tC (.int (-7)))))) az) (ap (aJ (tB (dw bj (aC G.K aK "tests"))) (aA (bG (aU (tC (.int (-9)))))) az) (ap (aJ (fG (aB (aP mq b_ fV)) (aB (aP mq b_ (rJ (rU λi=>.int (-i)) fV)))) (aA (bG (aU (tC (.int (-14)))))) az) (ap (aL (tK jI (gM aK aW bj)) (ao 4)) (ap (aL (aC G.K (gO (aC G.K aK "inputs") aW) "place") (ao 5)) (ap (aL (aP kU gd b_) (ao 6)) (ap (xW (aB (bH kq oq dr jj (dP (eQ G.K) (aU d9)))) (ap (aJ (aB (aP mq (aP (dQ G.K) d9 jj) (aP (dQ G.K) d9 gd))) (aA (bG (aU (dP Kc (aU (aP mS jj gd)))))) az) (gh 6 b_ (pB λi j=>i+j)))) (aA (bG (aU dr)))))))))
abbrev p7:List Str:=["notebook","x","y","number","x_places","y_places","settings","verdicts","k"]
abbrev DW:List Str:=["notebook","x","y","number"]
def p8(G:Ga)(eL aX:Sp):TS:=ap (aJ (oE (tB (dw aW (aC G.K aK "inputs"))) (tB (dw bj (aC G.K aK "inputs")))) (aA (bG (aU (tC (.int (-7)))))) az) (ap (aJ (aB (aP fM aW bj)) (aA (bG (aU (tC (.int (-15)))))) az) (ap (aJ (tB (dw b_ (aC G.K aK "tests"))) (aA (bG (aU (tC (.int (-9)))))) az) (ap (aL (dP (eQ G.K) (aU (aC G.K (gO (aC G.K aK "inputs") aW) "stops"))) (ao 4)) (ap (aL (dP (eQ G.K) (aU (aC G.K (gO (aC G.K aK "inputs") bj) "stops"))) (ao 5)) (ap (aJ (aB (aP mR (aP (rI wB λi j=>.int (i*j)) d9 gd) (tC (.int 1024)))) (aA (bG (aU (tC (.int (-16)))))) az) (ap (aL (vW (AW (aU (aP (rI wB λi j=>.int (i*j)) d9 gd))) (ao 8) eX (mB (dH (aP A8 oF gd) (aP NY oF gd))) [8]) (ao 6)) (ap (aL (tK aX (gM aK (gq G.CT eL [] E0 (dH (bG (dH aW bj)) jj)) b_)) (ao 7)) (aA (bG (gM (jD G.K "list" (vd G.K) mT (aU fV)) (jD G.K "list" (vd G.K) mT (aU dr)) (jD G.K "list" (vd G.K) mT (aU mr))))))))))))
abbrev p9:List Str:=["notebook","number","verdict","names","distance","trial","verdicts"]
abbrev yI:List Str:=["notebook","number","verdict"]
def lf(G:Ga)(g8 cV fY aX:Sp):TS:=ap (aJ (tB (dw aW (aC G.K aK "tests"))) (aA (bG (aU (tC (.int (-9)))))) az) (ap (aJ (fk (aB (bH kq kq dr bj mr))) (aA (bG (aU (tC (.int (-17)))))) az) (ap (aL (tK cV (dH aK (gO (aC G.K aK "tests") aW))) (ao 3)) (ap (gi (AW (aU (aP kU (tC (.int 4)) fV))) (ao 4) (ap (aL (tK g8 (gM aK b_ d9)) (ao 5)) (aJ (aB (aP mR (dP (eQ G.K) (aU (aC G.K gd "settings"))) dr)) (ap (aL (tK aX (gM aK gd aW)) (ao 6)) (aJ (aB (aP (LL G.K false) bj jj)) (aA (tK fY (gM d9 b_ (aP (dQ G.K) (aC G.K gd "settings") (jD G.K "list" (sq G.K) jj (aU bj)))))) az)) az))) (aA (bG (aU (tC (.int (-18)))))))))
abbrev nP:List Str:=["notebook","names","distance","key","dials","name"]
abbrev Co:List Str:=["notebook","names","distance"]
def nQ(G:Ga)(eL gz:Sp):TS:=ap (aL (mB (dH bj (dP (GV G.K) (aU aW)))) (ao 3)) (ap (aJ (tB (yi b_ (aC G.K aK "near_trials"))) (ap (aL (vW (lD G.K aW) (ao 5) eX (gO (aC G.K aK "inputs") gd) [5]) (ao 4)) (Fz (aC G.K aK "near_trials") b_ (gq G.CT eL [] E0 (dH aW (tK gz (dH d9 bj)))))) az) (aA (Fy (aC G.K aK "near_trials") b_)))
abbrev me:List Str:=["dials","distance","begun","dial","longer","places","left","lowest","highest","place"]
abbrev zY:List Str:=["dials","distance"]
def mf(G:Ga):TS:=ap (aL (bG (aU (mB (dH (mB cP) aW)))) (ao 2)) (ap (gi (lD G.K aK) (ao 3) (ap (aL (bG cP) (ao 4)) (ap (gi (lD G.K bj) (je G.K 2 (bI (ao 5) (bI (ao 6) jd))) (ap (aL (dP yd (dH dr (aP mS (aC G.K b_ "place") jj))) (ao 7)) (ap (aL (dP A9 (dH (aP mS (dP (eQ G.K) (aU (aC G.K b_ "stops"))) fV) (aP kU (aC G.K b_ "place") jj))) (ao 8)) (gi (JN (dH mT (aP kU oF fV))) (ao 9) (bx (jD G.K "list" jt d9 (aU (mB (dH (aP (Kx G.K) gd (mB (aU rK))) (aP mS jj (dP Kc (aU (aP mS rK (aC G.K b_ "place")))))))))))))) (aL d9 (ao 2))))) (aA (vW (lD G.K bj) (je G.K 2 (bI (ao 5) (bI (ao 6) jd))) (aB (aP fM jj dr)) gd [5,6])))
abbrev p_:List Str:=["distance","names","places","told","name","place"]
abbrev yJ:List Str:=["distance","names","places"]
def lh(G:Ga):TS:=ap (aL (bG (dH aK (dP (eQ G.K) (aU aW)))) (ao 3)) (ap (gi (Kv G.K (dH aW bj)) (je G.K 2 (bI (ao 4) (bI (ao 5) jd))) (bx (jD G.K "list" (kS G.K) b_ (aU (mB (dH d9 gd)))))) (aA b_))
abbrev Bi:List Str:=["calls","notebook","told","at","number","row_at","wholes","row","answer"]
abbrev IA:List Str:=["calls"]
def vv(G:Ga)(iu gN:Sp):TS:=ap (aL (gq G.CN iu [] E0 cP) (ao 1)) (ap (aL (bG cP) (ao 2)) (ap (aL dr (ao 3)) (ap (xW (aB (aP oq b_ (dP (eQ G.K) (aU aK)))) (ap (aL (aP (dQ G.K) aK b_) (ao 4)) (ap (aL (aP kU (aP kU b_ fV) (aP (ke G.K) (tC (.ref G.dW)) d9)) (ao 5)) (ap (aL (Qi (LK G.K) aK (A3 (aP kU b_ fV)) (A3 gd)) (ao 6)) (ap (aL (bG cP) (ao 7)) (ap (aL gd (ao 3)) (ap (aJ (aB (aP mR (aP (ke G.K) (tC (.ref G.e_)) d9) dr)) (ap (aL (aP kU (aP kU gd fV) (aP (dQ G.K) aK gd)) (ao 3)) (aL (Qi (LK G.K) aK (A3 (aP kU gd fV)) (A3 b_)) (ao 7))) az) (ap (aL (tK gN (ju aW d9 jj mT)) (ao 8)) (ap (bx (jD G.K "list" jt bj (aU (dP (eQ G.K) (aU oF))))) (bx (jD G.K "list" t9 bj (aU oF)))))))))))) (aA bj))))
abbrev wj:List Str:=["notebook","number","wholes","row"]
abbrev DX:List Str:=["notebook","number","wholes","row"]
def qa(G:Ga)(cu dk cG dq:Sp):TS:=ap (aJ (aB (aP kq aW (tC (.int 10)))) (bx (FA (aC G.K aK "near_trials"))) az) (ap (aJ (aB (aP kq aW (tC (.int 6)))) (aA (tK dk (ju aK aW bj b_))) az) (ap (aJ (aB (aP kq aW (tC (.int 11)))) (aA (tK cG (gM aK aW bj))) az) (ap (aJ (aB (bH kq kq (tC (.int 17)) aW (tC (.int 20)))) (aA (tK dq (gM aK aW bj))) az) (aA (tK cu (gM aK aW bj))))))
abbrev li:List Str:=["notebook","number","wholes","row"]
abbrev sJ:List Str:=["notebook","number","wholes","row"]
def aM(G:Ga)(jJ g9 g_ gA iR iS jK:Sp):TS:=ap (aJ (aB (aP fM aW dr)) (aA (tK g_ (a_ aK (a_ (aP (dQ G.K) bj dr) (ju (aP (dQ G.K) bj fV) (aP (dQ G.K) bj mr) (aP (dQ G.K) bj (tC (.int 3))) (aP (dQ G.K) bj (tC (.int 4)))))))) az) (ap (aJ (aB (aP fM aW fV)) (aA (tK g9 (ju aK (aP (dQ G.K) bj dr) (aP (dQ G.K) bj fV) b_))) az) (ap (aJ (aB (aP fM aW mr)) (aA (tK jJ (gM aK (aP (dQ G.K) bj dr) b_))) az) (ap (aJ (aB (aP fM aW (tC (.int 3)))) (aA (tK gA (gM aK (aP (dQ G.K) bj dr) b_))) az) (ap (aJ (aB (aP fM aW (tC (.int 4)))) (aA (tK jK (gM aK (aP (dQ G.K) bj dr) b_))) az) (ap (aJ (aB (aP fM aW (tC (.int 5)))) (aA (tK iR (dH aK (aP (dQ G.K) bj dr)))) az) (aA (tK iS (dH aK (aP (dQ G.K) bj dr)))))))))
abbrev jL:List Str:=["notebook","number","wholes"]
abbrev qb:List Str:=["notebook","number","wholes"]
def aY(G:Ga)(gB fA iT hC hJ:Sp):TS:=ap (aJ (aB (aP fM aW (tC (.int 7)))) (aA (tK hJ (gM aK (aP (dQ G.K) bj dr) (aP (dQ G.K) bj fV)))) az) (ap (aJ (aB (aP fM aW (tC (.int 8)))) (aA (tK iT (gM aK (aP (dQ G.K) bj dr) (aP (dQ G.K) bj fV)))) az) (ap (aJ (aB (aP fM aW (tC (.int 9)))) (aA (tK gB (dH aK (aP (dQ G.K) bj dr)))) az) (ap (aJ (aB (aP fM aW (tC (.int 10)))) (aA (tK fA (dH aK (aP (dQ G.K) bj dr)))) az) (aA (tK hC (dH aK (aP (dQ G.K) bj dr)))))))
abbrev lj:List Str:=["notebook","number","wholes"]
abbrev sK:List Str:=["notebook","number","wholes"]
def bK(G:Ga)(iU iV fZ hR:Sp):TS:=ap (aJ (aB (aP fM aW (tC (.int 17)))) (aA (tK hR (gM aK (aP (dQ G.K) bj dr) (aP (dQ G.K) bj fV)))) az) (ap (aJ (aB (aP fM aW (tC (.int 18)))) (aA (tK iU (ju aK (aP (dQ G.K) bj dr) (aP (dQ G.K) bj fV) (aP (dQ G.K) bj mr)))) az) (ap (aJ (aB (aP fM aW (tC (.int 19)))) (aA (tK iV (ju aK (aP (dQ G.K) bj dr) (aP (dQ G.K) bj fV) (aP (dQ G.K) bj mr)))) az) (aA (tK fZ (gM aK (aP (dQ G.K) bj dr) (aP (dQ G.K) bj fV))))))
abbrev j6:List Str:=["notebook","number","wholes"]
abbrev qW:List Str:=["notebook","number","wholes"]
def aH(G:Ga)(jM gC gD iW hU eM f7 fB:Sp):TS:=ap (aJ (aB (aP fM aW (tC (.int 12)))) (aA (tK f7 (dH aK (aP (dQ G.K) bj dr)))) az) (ap (aJ (aB (aP fM aW (tC (.int 13)))) (aA (tK fB (aU aK))) az) (ap (aJ (aB (aP fM aW (tC (.int 14)))) (aA (tK hU (dH aK (aP (dQ G.K) bj dr)))) az) (ap (aJ (aB (aP fM aW (tC (.int 15)))) (aA (tK eM (dH aK (aP (dQ G.K) bj dr)))) az) (ap (aJ (aB (aP fM aW (tC (.int 16)))) (aA (tK gD (aU aK))) az) (ap (aJ (aB (aP fM aW (tC (.int 21)))) (aA (tK gC (dH aK (aP (dQ G.K) bj dr)))) az) (ap (aJ (aB (aP fM aW (tC (.int 22)))) (aA (tK jM (aU aK))) az) (aA (tK iW (aU aK)))))))))
abbrev ends(Q:VK):Ends:={nx:=λ_ H'=>Q .d7 H',rt:=Q}
def bQ(i j:Int):NC (.int i) (.int j)=true:=rfl
def lv(K:Rl)(x:V)(f:Str)(H:Hp)(Q:VK):Prop:=∃a C dx fs v,x=.ref a/\H a=zS (.ins C dx fs)/\Fc K C/\dE K C f/\fs.lookup f=zS v/\Q v H
variable{H:Hp}{σ:L2.St}{f:Str}{Q:VK}
def cW{K:Rl}{ta:TE}:aC K ta f σ H Q=ta σ H λx H1=>lv K x f H1 Q:=rfl
def MT(K:Rl)(x y:V)(f:Str)(H:Hp)(R:Hp->Prop):Prop:=∃a C dx fs,x=.ref a/\H a=zS (.ins C dx fs)/\Fc K C/\dE K C f/\fs.length<1000/\R (upd H a (.ins C dx (kP f y fs)))
variable{D:Ends}{tv:TE}
def cX{K:Rl}{ta:TE}:jV K ta tv f D σ H=tv σ H λy H1=>ta σ H1 λx H2=>MT K x y f H2 λH3=>D.nx σ H3:=rfl
def MU(x y:V)(H:Hp)(Q:VK):Prop:=∃a v,x=.ref a/\u9 H a y (zS v)/\Q v H
variable{td ty:TE}
def bR:gO td ty σ H Q=td σ H λx H1=>ty σ H1 λy H2=>MU x y H2 Q:=rfl
def Pp(y x:V)(H:Hp)(Q:VK):Prop:=∃a o,x=.ref a/\u9 H a y o/\Q (.bl o.isSome) H
def cY:ub ty td σ H Q=ty σ H λy H1=>td σ H1 λx H2=>Pp y x H2 Q:=rfl
def G1(y x:V)(H:Hp)(Q:VK):Prop:=∃a o,x=.ref a/\u9 H a y o/\Q (.bl (!o.isSome)) H
def aZ:dw ty td σ H Q=ty σ H λy H1=>td σ H1 λx H2=>G1 y x H2 Q:=rfl
def KC(x y v:V)(H:Hp)(R:Hp->Prop):Prop:=∃a H4,x=.ref a/\NT H a y v H4/\R H4
def bS:mG td ty tv D σ H=tv σ H λv H1=>td σ H1 λx H2=>ty σ H2 λy H3=>KC x y v H3 λH4=>D.nx σ H4:=rfl
def Pq(xs:List V)(H:Hp)(Q:VK):Prop:=xs.length<=aac/\∀p,H p=zN->Q (.ref p) (upd H p (.tup xs))
def cZ{t:TA}:mB t σ H Q=t σ H λxs H1=>Pq xs H1 Q:=rfl
def qX(xs:List V)(H:Hp)(Q:VK):Prop:=xs.length<=aac/\∀p,H p=zN->Q (.ref p) (upd H p (.lst xs))
def c9{t:TA}:bG t σ H Q=t σ H λxs H1=>qX xs H1 Q:=rfl
def Pr(H:Hp)(Q:VK):Prop:=∀p,H p=zN->Q (.ref p) (upd H p (.dK []))
def bq:fz σ H Q=Pr H Q:=rfl
def Bj(C:Addr)(sp:Sp)(vs:List V)(H:Hp)(Q:VK):Prop:=∀x dx,H x=zN->H dx=zN->dx≠x->sp (.ref x::vs) (upd (upd H dx (.own x)) x (.ins C dx [])) (λv H2=>v=.d7/\Q (.ref x) H2) E0
variable{C:Addr}
def bT{sp:Sp}{t:TA}:gq C sp [] E0 t σ H Q=t σ H λvs H1=>Bj C sp (vs++[]) H1 Q:=rfl
def Mm(x:V)(t:Hp->VK->Prop)(H:Hp)(Q:VK):Prop:=∃a,x=.ref a/\J6 H a/\t H λy H2=>∃b kvs more,y=.ref b/\a≠b/\H2 a=zS (.dK kvs)/\Rd H2 b (.dK more)/\kvs.length+more.length<=aac/\Q .d7 (upd H2 a (.dK (gu kvs more)))
variable{te:TE}
def cC:DG td te σ H Q=td σ H λx H1=>Mm x (λH2 R=>te σ H2 R) H1 Q:=rfl
def MV(x:V)(t u:Hp->VK->Prop)(H:Hp)(Q:VK):Prop:=∃a,x=.ref a/\J6 H a/\t H λy H2=>u H2 λz H3=>∃kvs k,H3 a=zS (.dK kvs)/\y=kV k/\kvs.length<aac/\(∀v,aI kvs k=zS v->Q v H3)/\(aI kvs k=zN->Q z (upd H3 a (.dK (putK kvs k z))))
variable{tx:TE}
def bB:B6 td ty tx σ H Q=td σ H λx H1=>MV x (λH2 R=>ty σ H2 R) (λH2 R=>tx σ H2 R) H1 Q:=rfl
def MW(x:V)(t u:Hp->VK->Prop)(H:Hp)(Q:VK):Prop:=∃a,x=.ref a/\J6 H a/\t H λy H2=>u H2 λz H3=>∃o,u9 H3 a y o/\Q (o.getD z) H3
def bC:Fm td ty tx σ H Q=td σ H λx H1=>MW x (λH2 R=>ty σ H2 R) (λH2 R=>tx σ H2 R) H1 Q:=rfl
def MX(x:V)(t:Hp->VK->Prop)(H:Hp)(Q:VK):Prop:=∃a,x=.ref a/\J6 H a/\t H λy H2=>∃kvs k v,H2 a=zS (.dK kvs)/\y=kV k/\aI kvs k=zS v/\Q v (upd H2 a (.dK (cE kvs k)))
def bD:Fn td ty σ H Q=td σ H λx H1=>MX x (λH2 R=>ty σ H2 R) H1 Q:=rfl
def KD(x:V)(t u:Hp->VK->Prop)(H:Hp)(Q:VK):Prop:=∃a,x=.ref a/\J6 H a/\t H λy H2=>u H2 λz H3=>∃kvs k,H3 a=zS (.dK kvs)/\y=kV k/\(∀v,aI kvs k=zS v->Q v (upd H3 a (.dK (cE kvs k))))/\(aI kvs k=zN->Q z H3)
def bE:pI td ty tx σ H Q=td σ H λx H1=>KD x (λH2 R=>ty σ H2 R) (λH2 R=>tx σ H2 R) H1 Q:=rfl
def Ps(K:Rl)(n:Nat)(t:JK)(v:V)(σ:L2.St)(H:Hp)(R:L2.St->Hp->Prop):Prop:=∃a xs,v=.ref a/\km K H a xs/\xs.length=n/\t xs σ H R
variable{n:Nat}{v:V}
def c_{K:Rl}{t:JK}{R:L2.St->Hp->Prop}:je K n t v σ H R=Ps K n t v σ H R:=rfl
def db{R:L2.St->Hp->Prop}:jd [] σ H R=R σ H:=propext ⟨λh=>h.2,λh=>⟨rfl,h⟩⟩
def bU{t:TG}{u:JK}{r:List V}{R:L2.St->Hp->Prop}:bI t u (v::r) σ H R=t v σ H λσ' H'=>u r σ' H' R:=
 propext ⟨λ⟨v',r',e,h⟩=>by injection e with e1 e2;subst e1 e2;exact h,λh=>⟨v,r,rfl,h⟩⟩
def Cp(J:It)(g:TG)(tb:TS)(D:Ends)(σ:L2.St)(H:Hp):Prop:=∃W:Nat->Nat->L2.St->Hp->Prop,(∃m,W 0 m σ H)/\∀i m σ H,W i m σ H->
 (J.stop i H/\D.nx σ H)\/(J.go i H/\∃N:L2.St->Hp->Prop,(∀σ' H',N σ' H'->∃m',m'<m/\W (i+1) m' σ' H')/\∀x H',J.HA i H x H'->g x σ H' λσ2 H2=>tb {D with nx:=N,ct:=N,bk:=D.nx} σ2 H2)
variable{g:TG}{wi:TI}
def de{tb:TS}:gi wi g tb D σ H=wi σ H λJ H1=>Cp J g tb D σ H1:=rfl
def Mn(J:It)(g:TG)(tt:TT)(te:TE)(vs:List Nat)(σ:L2.St)(H1:Hp)(Q:VK):Prop:=∀D,H1 D=zN->∃W:Nat->Nat->Hp->Prop,(∃m,W 0 m (upd H1 D (.lst [])))/\∀i m H,W i m H->
 (J.stop i H/\Q (.ref D) H)\/(J.go i H/\∃Nx:Hp->Prop,(∀H',Nx H'->∃m',m'<m/\W (i+1) m' H')/\∀x H',J.HA i H x H'->g x (wipe σ vs) H' λσ2 H2=>wipe σ2 vs=wipe σ vs/\tt σ2 H2 λb H3=>
  if b=true then te σ2 H3 λy H4=>∃acc,H4 D=zS (.lst acc)/\acc.length<aac/\Nx (upd H4 D (.lst (acc++[y])))else Nx H3)
def eZ{tt:TT}{vs:List Nat}:vW wi g tt te vs σ H Q=wi σ H λJ H1=>Mn J g tt te vs σ H1 Q:=rfl
abbrev RI:=It->Hp->Prop
def N9(K:Rl)(x:V)(H:Hp)(R:RI):Prop:=∃a,x=.ref a/\(∃xs,cD K H a xs)/\R (Oz K a) H
def bV{K:Rl}{tl:TE}{R:RI}:lD K tl σ H R=tl σ H λx H1=>N9 K x H1 R:=rfl
def KE(K:Rl)(vs:List V)(H:Hp)(R:RI):Prop:=∃(a:Addr)(xs:List V),vs=[.ref a]/\cD K H a xs/\R (QI K a xs.length) H
variable{ta:TA}
def dh{K:Rl}{R:RI}:LX K ta σ H R=ta σ H λvs H1=>KE K vs H1 R:=rfl
def KF(vs:List V)(H:Hp)(R:RI):Prop:=∃j:Int,vs=[.int j]/\ -(2^62)<=j/\j<2^62/\R (Ly 0 j.toNat) H
def bW{R:RI}:AW ta σ H R=ta σ H λvs H1=>KF vs H1 R:=rfl
def MY(vs:List V)(H:Hp)(R:RI):Prop:=∃i j:Int,vs=[.int i,.int j]/\(-(2^62)<=i/\i<2^62/\ -(2^62)<=j/\j<2^62)/\R (Ly i (j-i).toNat) H
def bX{R:RI}:JN ta σ H R=ta σ H λvs H1=>MY vs H1 R:=rfl
def Pt(K:Rl)(vs:List V)(H:Hp)(R:RI):Prop:=∃a xs,vs=[.ref a]/\cD K H a xs/\R (QK K a) H
def bY{K:Rl}{R:RI}:GQ K ta σ H R=ta σ H λvs H1=>Pt K vs H1 R:=rfl
def Pu(K:Rl)(vs:List V)(H:Hp)(R:RI):Prop:=∃a b xs ys,vs=[.ref a,.ref b]/\cD K H a xs/\cD K H b ys/\R (QL K a b) H
def di{K:Rl}{R:RI}:zI K ta σ H R=ta σ H λvs H1=>Pu K vs H1 R:=rfl
def MZ(K:Rl)(vs:List V)(H:Hp)(R:RI):Prop:=∃a b c xs ys zs,vs=[.ref a,.ref b,.ref c]/\cD K H a xs/\cD K H b ys/\cD K H c zs/\R (N5 K a b c) H
def bZ{K:Rl}{R:RI}:Kw K ta σ H R=ta σ H λvs H1=>MZ K vs H1 R:=rfl
def M0(K:Rl)(vs:List V)(H:Hp)(R:RI):Prop:=∃a b xs ys,vs=[.ref a,.ref b]/\cD K H a xs/\km K H b ys/\R (N4 K a b) H
def b0{K:Rl}{R:RI}:Kv K ta σ H R=ta σ H λvs H1=>M0 K vs H1 R:=rfl
variable{d:Addr}{j k:Int}{J:It}{ms ns:List Int}
section
variable{K:Rl}{H:Hp}{g:TG}{tb:TS}{D:Ends}{σ:L2.St}{a b c:Addr}{xs ys zs:List V}{kvs:List (Key×V)}
def KG(h:n<16000000):n<aac:=Sw h (by decide)
def qc(h:H a=zS (.lst xs))(Pv:Nat->L2.St->Hp->Prop)(h0:Pv 0 σ H)(hl:∀i σ H',i<=xs.length->Pv i σ H'->H' a=zS (.lst xs))(hs:∀i x σ H',xs[i]?=zS x->Pv i σ H'->g x σ H' λσ2 H2=>tb {D with nx:=Pv (i+1),ct:=Pv (i+1),bk:=D.nx} σ2 H2)(hd:∀σ H',Pv xs.length σ H'->D.nx σ H'):N9 K (.ref a) H λJ H1=>Cp J g tb D σ H1:=
 ⟨a,rfl,⟨xs,cD.of h⟩,JO (K:=K) (xs:=xs) Pv h0 (λi σ H' hi p=>cD.of (hl i σ H' hi p)) hs hd⟩
def DY(h:H a=zS (.lst xs))(Pv:Nat->L2.St->Hp->Prop)(h0:Pv 0 σ H)(hl:∀i σ H',i<=xs.length->Pv i σ H'->H' a=zS (.lst xs))(hs:∀i x σ H',i<xs.length->xs[xs.length-1-i]?=zS x->Pv i σ H'->g x σ H' λσ2 H2=>tb {D with nx:=Pv (i+1),ct:=Pv (i+1),bk:=D.nx} σ2 H2)(hd:∀σ H',Pv xs.length σ H'->D.nx σ H'):KE K [.ref a] H λJ H1=>Cp J g tb D σ H1:=
 ⟨a,xs,rfl,cD.of h,qJ (n:=xs.length) Pv h0 (λi σ H' hi p=>⟨hi,xs,_,cD.of (hl i σ H' (TQ hi) p),RC (by omega)⟩) (λσ H' p=>Ro _) (λi σ H' x H2 hi p y=>by let⟨e,f⟩:=y;subst e;exact hs i x σ _ hi (f xs (cD.of (hl i σ _ (TQ hi) p))) p) hd⟩
def G2(n:Nat)(e:j=(n:Int))(hn:n<1000000)(Pv:Nat->L2.St->Hp->Prop)(h0:Pv 0 σ H)(hs:∀i σ H',i<n->Pv i σ H'->g (.int (i:Nat)) σ H' λσ2 H2=>tb {D with nx:=Pv (i+1),ct:=Pv (i+1),bk:=D.nx} σ2 H2)(hd:∀σ H',Pv n σ H'->D.nx σ H'):KF [.int j] H λJ H1=>Cp J g tb D σ H1:=by
 refine⟨j,rfl,by omega,by omega,?_⟩;have en:j.toNat=n:=by omega
 rw[en];exact AX (n:=n) Pv h0 (λi σ H' hi p=>by have e0:(0:Int)+(i:Nat)=(i:Nat):=(by omega);rw[e0];exact hs i σ H' hi p) hd
def Mo(m n:Nat)(e:j=(m:Int))(e2:k=(m:Int)+(n:Int))(hn:m+n<1000000)(Pv:Nat->L2.St->Hp->Prop)(h0:Pv 0 σ H)(hs:∀i σ H',i<n->Pv i σ H'->g (.int ((m+i:Nat):Int)) σ H' λσ2 H2=>tb {D with nx:=Pv (i+1),ct:=Pv (i+1),bk:=D.nx} σ2 H2)(hd:∀σ H',Pv n σ H'->D.nx σ H'):MY [.int j,.int k] H λJ H1=>Cp J g tb D σ H1:=by
 refine⟨j,k,rfl,⟨by omega,by omega,by omega,by omega⟩,?_⟩;have en:(k-j).toNat=n:=by omega
 rw[en];exact AX (n:=n) Pv h0 (λi σ H' hi p=>by have e0:j+(i:Nat)=((m+i:Nat):Int):=(by omega);rw[e0];exact hs i σ H' hi p) hd
abbrev KH(d:Addr)(od:Obj)(kvs:List (Key×V))(D:Ends)(N:L2.St->Hp->Prop):Ends:=
 {nx:=N,rt:=λv H'=>H' d=zS (.fg od (.dK kvs))/\D.rt v (upd H' d (.dK kvs)),bk:=λσ' H'=>H' d=zS (.fg od (.dK kvs))/\D.nx σ' (upd H' d (.dK kvs)),ct:=N}
def fI(h:H d=zS (.dK kvs))(htd:∀od(R:VK),R (.ref d) (upd H d (.fg od (.dK kvs)))->td σ (upd H d (.fg od (.dK kvs))) R)(Pv:Obj->Nat->L2.St->Hp->Prop)(h0:∀od,Pv od 0 σ (upd H d (.fg od (.dK kvs))))(hf:∀od i σ' H',Pv od i σ' H'->H' d=zS (.fg od (.dK kvs)))(hs:∀od i k v σ' H' T,kvs[i]?=zS (k,v)->Pv od i σ' H'->H' T=zN->g (.ref T) σ' (upd H' T (.tup [kV k,v])) λσ2 H2=>tb (KH d od kvs D (Pv od (i+1))) σ2 H2)(hd:∀od σ' H',Pv od kvs.length σ' H'->D.nx σ' (upd H' d (.dK kvs))):iN (gi (jh td) g tb) D σ H:=by refine⟨d,_,h,True.intro,λod=>?_⟩;refine htd od _ ⟨d,od,kvs,rfl,aa,?_⟩;refine qJ (n:=kvs.length) (Pv od) (h0 od) (λi σ H' hi p=>⟨hf od i σ H' p,hi⟩) (λσ H' p=>⟨hf od _ σ H' p,Ro _⟩) (λi σ' H' x H2 hi p y=>?_) (λσ' H' p=>⟨hf od _ σ' H' p,hd od σ' H' p⟩);let⟨T,k,v,hk,ex,hT,eH⟩:=y;subst ex eH;exact hs od i k v σ' H' T hk p hT
def nR(h:H d=zS (.dK kvs))(htd:∀od(R:VK),R (.ref d) (upd H d (.fg od (.dK kvs)))->td σ (upd H d (.fg od (.dK kvs))) R)(Pv:Obj->Nat->L2.St->Hp->Prop)(h0:∀od,Pv od 0 σ (upd H d (.fg od (.dK kvs))))(hf:∀od i σ' H',Pv od i σ' H'->H' d=zS (.fg od (.dK kvs)))(hs:∀od i k v σ' H',kvs[i]?=zS (k,v)->Pv od i σ' H'->g (kV k) σ' H' λσ2 H2=>tb (KH d od kvs D (Pv od (i+1))) σ2 H2)(hd:∀od σ' H',Pv od kvs.length σ' H'->D.nx σ' (upd H' d (.dK kvs))):iN (gi (vY td) g tb) D σ H:=by refine⟨d,_,h,True.intro,λod=>?_⟩;refine htd od _ ⟨d,od,rfl,.inl ⟨kvs,aa,?_⟩⟩;refine qJ (n:=kvs.length) (Pv od) (h0 od) (λi σ H' hi p=>⟨hf od i σ H' p,hi⟩) (λσ H' p=>⟨hf od _ σ H' p,Ro _⟩) (λi σ' H' x H2 hi p y=>?_) (λσ' H' p=>⟨hf od _ σ' H' p,hd od σ' H' p⟩);let⟨eH,k,v,hk,ex⟩:=y;subst ex eH;exact hs od i k v σ' _ hk p
def FU(h:H d=zS (.dK kvs))(htd:∀od(R:VK),R (.ref d) (upd H d (.fg od (.dK kvs)))->td σ (upd H d (.fg od (.dK kvs))) R)(Pv:Obj->Nat->L2.St->Hp->Prop)(h0:∀od,Pv od 0 σ (upd H d (.fg od (.dK kvs))))(hf:∀od i σ' H',Pv od i σ' H'->H' d=zS (.fg od (.dK kvs)))(hs:∀od i k v σ' H',kvs[i]?=zS (k,v)->Pv od i σ' H'->g v σ' H' λσ2 H2=>tb (KH d od kvs D (Pv od (i+1))) σ2 H2)(hd:∀od σ' H',Pv od kvs.length σ' H'->D.nx σ' (upd H' d (.dK kvs))):iN (gi (DD td) g tb) D σ H:=by refine⟨d,_,h,True.intro,λod=>?_⟩;refine htd od _ ⟨d,od,kvs,rfl,aa,?_⟩;refine qJ (n:=kvs.length) (Pv od) (h0 od) (λi σ H' hi p=>⟨hf od i σ H' p,hi⟩) (λσ H' p=>⟨hf od _ σ H' p,Ro _⟩) (λi σ' H' x H2 hi p y=>?_) (λσ' H' p=>⟨hf od _ σ' H' p,hd od σ' H' p⟩);let⟨eH,k,hk⟩:=y;subst eH;exact hs od i k x σ' _ hk p
variable{tt:TT}{te:TE}{vs:List Nat}{Q:VK}
abbrev sM(g:TG)(tt:TT)(te:TE)(vs:List Nat)(σ:L2.St)(x:V)(H:Hp)(R:VK)(R0:Hp->Prop):Prop:=
 g x (wipe σ vs) H λσ2 H2=>wipe σ2 vs=wipe σ vs/\tt σ2 H2 λb H3=>if b=true then te σ2 H3 R else R0 H3
def KI(hz:n<16000000)(Pv:Nat->List V->Hp->Prop)(p0:Pv 0 [] H)(hlen:∀i o H',Pv i o H'->o.length<=i)(pm:∀i o H1 H2,ah H1 H2->Pv i o H1->Pv i o H2)(pu:∀i o H' p l l',H' p=zS (.lst l)->Pv i o H'->Pv i o (upd H' p (.lst l')))(hgo:∀i H',i<n->ah H H'->J.go i H')(hstop:∀H',ah H H'->J.stop n H')(hs:∀i x o H1 H'(R:VK)(R0:Hp->Prop),i<n->ah H H1->Pv i o H1->J.HA i H1 x H'->(∀y H2,ah H1 H2->Pv (i+1) (o++[y]) H2->R y H2)->(∀H2,ah H1 H2->Pv (i+1) o H2->R0 H2)->sM g tt te vs σ x H' R R0)(hd:∀H' p o,ah H H'->H p=zN->Pv n o H'->H' p=zS (.lst o)->Q (.ref p) H'):Mn J g tt te vs σ H Q:=by
 intro p hp;refine NZ (n:=n) (λi H'=>i<=n/\ah H H'/\∃o,H' p=zS (.lst o)/\Pv i o H') ⟨SO _,ah.upd hp,[],aa,pm _ _ _ _ (ah.upd hp) p0⟩ (λi H' hi q=>hgo i H' hi q.2.1) (λH' q=>hstop H' q.2.1) (λi H1 x H' hi q y=>?_) (λH' q=>?_)
 .let⟨_,s1,o,hp1,pv⟩:=q;refine hs i x o H1 H' _ _ hi s1 pv y (λy H2 s2 p2=>?_) (λH2 s2 p2=>⟨hi,s1.trans s2,o,s2 _ _ hp1,p2⟩);have hp2:=s2 _ _ hp1;refine⟨o,hp2,KG (VL (hlen i o H1 pv) (by omega)),hi,λb u e=>?_,o++[y],aa,pu _ _ _ _ _ _ hp2 p2⟩;rw[ab (ay e hp)];exact s2 _ _ (s1 _ _ e)
 .let⟨_,s1,o,hp1,pv⟩:=q;exact hd H' p o s1 hp pv hp1
def yK(hz:n<16000000)(out:Nat->List V)(h0:out 0=[])(hlen:∀i,(out i).length<=i)(hgo:∀i H',i<n->ah H H'->J.go i H')(hstop:∀H',ah H H'->J.stop n H')(hs:∀i x H1 H'(R:VK)(R0:Hp->Prop),i<n->ah H H1->J.HA i H1 x H'->(∀y H2,ah H1 H2->out (i+1)=out i++[y]->R y H2)->(∀H2,ah H1 H2->out (i+1)=out i->R0 H2)->sM g tt te vs σ x H' R R0)(hd:∀H' p,ah H H'->H p=zN->H' p=zS (.lst (out n))->Q (.ref p) H'):Mn J g tt te vs σ H Q:=
 KI hz (λi o _=>o=out i) h0.symm (λi o _ e=>by rw[e];exact hlen i) (λ_ _ _ _ _ e=>e) (λ_ _ _ _ _ _ _ e=>e) hgo hstop
  (λi x o H1 H' R R0 hi s1 e y k1 k2=>hs i x H1 H' R R0 hi s1 y (λz H2 s2 e2=>k1 z H2 s2 (by rw[e,e2])) (λH2 s2 e2=>k2 H2 s2 (by rw[e,e2]))) (λH' p o s1 hp e h=>hd H' p s1 hp (by rw[<-e];exact h))
def Mp{F:Int->V}(h:H a=zS (.lst (iL ns)))(hz:ns.length<16000000)(hs:∀x H'(R:VK)(R0:Hp->Prop),R (F x) H'->sM g tt te vs σ (.int x) H' R R0)(hd:∀H' p,ah H H'->H p=zN->H' p=zS (.lst (ns.map F))->Q (.ref p) H'):N9 K (.ref a) H λJ H1=>Mn J g tt te vs σ H1 Q:=by
 refine⟨a,rfl,⟨_,cD.of h⟩,yK (n:=ns.length) hz (λi=>(ns.take i).map F) rfl (λi=>by rw[Rr,Sf];exact UT _ _) (λi H' hi s1=>⟨_,V.int ns[i],cD.of (s1 _ _ h),by simp[hi]⟩) (λH' s1=>⟨_,cD.of (s1 _ _ h),by simp⟩) (λi x H1 H' R R0 hi s1 y k1 _=>?_) (λH' p s1 hp e=>hd H' p s1 hp (by rw[R9]at e;exact e))⟩;let⟨e,y⟩:=y;subst e;have hx:=y _ (cD.of (s1 _ _ h));have hx2:x=V.int ns[i]:=by simpa [hi]using hx.symm
 subst hx2;refine hs _ _ R R0 (k1 _ _ (ah.refl _) ?_);rw[T1 hi,Sa];rfl
def lK{F:Int->Int->Int}(ha:H a=zS (.lst (iL ms)))(hb:H b=zS (.lst (iL ns)))(hl:ms.length=ns.length)(hz:ms.length<16000000)(hs:∀x y T H'(R:VK)(R0:Hp->Prop),H' T=zS (.tup [.int x,.int y])->x∈ms->y∈ns->R (.int (F x y)) H'->sM g tt te vs σ (.ref T) H' R R0)(hd:∀H' p,ah H H'->H p=zN->H' p=zS (.lst (iL (SS F ms ns)))->Q (.ref p) H'):Pu K [.ref a,.ref b] H λJ H1=>Mn J g tt te vs σ H1 Q:=by
 refine⟨a,b,_,_,rfl,cD.of ha,cD.of hb,yK (n:=ms.length) hz (λi=>(iL (SS F ms ns)).take i) rfl (λi=>by rw[Sf];exact UT _ _)
  (λi H' hi s1=>⟨_,_,V.int ms[i],V.int (ns[i]'(by omega)),cD.of (s1 _ _ ha),cD.of (s1 _ _ hb),by simp[hi],by simp[show i<ns.length by omega]⟩) (λH' s1=>⟨_,_,cD.of (s1 _ _ ha),cD.of (s1 _ _ hb),.inl (by simp)⟩) (λi x H1 H' R R0 hi s1 y k1 _=>?_)
  (λH' p s1 hp e=>hd H' p s1 hp (by rw[W9 (by simp;omega)]at e;exact e))⟩
 let⟨T,x',y',ex,hT,eH,hx,hy⟩:=y;subst ex eH;have hi2:i<ns.length:=by omega
 have e1:x'=V.int ms[i]:=by simpa [hi]using(hx _ (cD.of (s1 _ _ ha))).symm
 have e2:y'=V.int ns[i]:=by simpa [hi2]using(hy _ (cD.of (s1 _ _ hb))).symm
 subst e1 e2;refine hs ms[i] ns[i] T _ R R0 aa (Va _) (Va _) (k1 _ _ (ah.upd hT) ?_);have hlz:i<(iL (SS F ms ns)).length:=by simp;omega
 rw[T1 hlz];simp
def KJ{os:List Int}{F:Int->Int->Int->Int}(ha:H a=zS (.lst (iL ms)))(hb:H b=zS (.lst (iL ns)))(hc:H c=zS (.lst (iL os)))(hl:ms.length=ns.length)(hl2:ms.length=os.length)(hz:ms.length<16000000)(hs:∀x y z T H'(R:VK)(R0:Hp->Prop),H' T=zS (.tup [.int x,.int y,.int z])->R (.int (F x y z)) H'->sM g tt te vs σ (.ref T) H' R R0)(hd:∀H' p,ah H H'->H p=zN->H' p=zS (.lst (iL ((RM ms.length).map λi=>F (ms.getD i 0) (ns.getD i 0) (os.getD i 0))))->Q (.ref p) H'):MZ K [.ref a,.ref b,.ref c] H λJ H1=>Mn J g tt te vs σ H1 Q:=by
 refine⟨a,b,c,_,_,_,rfl,cD.of ha,cD.of hb,cD.of hc,yK (n:=ms.length) hz (λi=>(iL ((RM ms.length).map λi=>F (ms.getD i 0) (ns.getD i 0) (os.getD i 0))).take i) rfl (λi=>by rw[Sf];exact UT _ _)
  (λi H' hi s1=>⟨_,_,_,V.int ms[i],V.int (ns[i]'(by omega)),V.int (os[i]'(by omega)),cD.of (s1 _ _ ha),cD.of (s1 _ _ hb),cD.of (s1 _ _ hc),by simp[hi],by simp[show i<ns.length by omega],by simp[show i<os.length by omega]⟩) (λH' s1=>⟨_,_,_,cD.of (s1 _ _ ha),cD.of (s1 _ _ hb),cD.of (s1 _ _ hc),.inl (by simp)⟩) (λi x H1 H' R R0 hi s1 y k1 _=>?_)
  (λH' p s1 hp e=>hd H' p s1 hp (by rw[W9 (by simp)]at e;exact e))⟩
 let⟨T,x',y',z',ex,hT,eH,hx,hy,hz'⟩:=y;subst ex eH;have hi2:i<ns.length:=by omega
 have hi3:i<os.length:=by omega
 have e1:x'=V.int ms[i]:=by simpa [hi]using(hx _ (cD.of (s1 _ _ ha))).symm
 have e2:y'=V.int ns[i]:=by simpa [hi2]using(hy _ (cD.of (s1 _ _ hb))).symm
 have e3:z'=V.int os[i]:=by simpa [hi3]using(hz' _ (cD.of (s1 _ _ hc))).symm
 subst e1 e2 e3;refine hs ms[i] ns[i] os[i] T _ R R0 aa (k1 _ _ (ah.upd hT) ?_);have hlz:i<(iL ((RM ms.length).map λi=>F (ms.getD i 0) (ns.getD i 0) (os.getD i 0))).length:=by simp;omega
 rw[T1 hlz];simp[Sx,hi,hi2,hi3]
def DZ{p:Int->Bool}(ha:H a=zS (.lst (iL ns)))(hz:ns.length<16000000)(hs:∀(i:Nat) x T H'(R:VK)(R0:Hp->Prop),H' T=zS (.tup [.int (i:Int),.int x])->(p x=true->R (.int (i:Int)) H')->(p x=false->R0 H')->sM g tt te vs σ (.ref T) H' R R0)(hd:∀H' q,ah H H'->H q=zN->H' q=zS (.lst (nL ((RM ns.length).filter λi=>p (ns.getD i 0))))->Q (.ref q) H'):Pt K [.ref a] H λJ H1=>Mn J g tt te vs σ H1 Q:=by
 refine⟨a,_,rfl,cD.of ha,yK (n:=ns.length) hz (λi=>nL ((RM i).filter λi=>p (ns.getD i 0))) rfl (λi=>by rw[Rr];exact RO (Th _ _) (by simp))
  (λi H' hi s1=>⟨_,V.int ns[i],cD.of (s1 _ _ ha),by simp[hi]⟩) (λH' s1=>⟨_,cD.of (s1 _ _ ha),by simp⟩) (λi x H1 H' R R0 hi s1 y k1 k2=>?_) hd⟩
 let⟨T,x',ex,hT,eH,hx⟩:=y;subst ex eH;have e1:x'=V.int ns[i]:=by simpa [hi]using(hx _ (cD.of (s1 _ _ ha))).symm
 subst e1;have eg:ns.getD i 0=ns[i]:=by simp[Sx,hi]
 refine hs i ns[i] T _ R R0 aa (λhp=>k1 _ _ (ah.upd hT) ?_) (λhp=>k2 _ (ah.upd hT) ?_)
 .rw[Uj,Ua];simp only[Td,eg,hp];simp
 .rw[Uj,Ua];simp only[Td,eg,hp];simp
end
variable{t u:Hp->VK->Prop}{i z:Int}
section
variable{K:Rl}{H:Hp}{a b:Addr}{xs zs:List V}{kvs:List (Key×V)}{Q:VK}{v y:V}
def fJ(h:H a=zS (.lst xs))(q:Q (.int xs.length) H):eQ K [.ref a] H Q:=⟨a,xs,rfl,.inl (cD.of h),q⟩
def iX(h:H a=zS (.dK kvs))(q:Q (.int kvs.length) H):mI [.ref a] H Q:=⟨a,kvs,rfl,h,q⟩
def eN(j:Nat)(e:i=(j:Int))(h:H a=zS (.lst xs))(hj:xs[j]?=zS v)(q:Q v H):dQ K (.ref a) (.int i) H Q:=⟨a,xs,i,v,rfl,rfl,cD.of h,at_of e hj,q⟩
def iw(j:Nat)(e:i=(j:Int))(h:H a=zS (.tup xs))(hj:xs[j]?=zS v)(q:Q v H):ke K (.ref a) (.int i) H Q:=⟨a,xs,i,v,rfl,rfl,km.of h,at_of e hj,q⟩
def D0(j:Nat)(e:i=(j:Int))(h:km K H a xs)(hj:xs[j]?=zS v)(q:Q v H):ke K (.ref a) (.int i) H Q:=⟨a,xs,i,v,rfl,rfl,h,at_of e hj,q⟩
def f8(h:H a=zS (.lst xs)):OA K "list" (.ref a) H:=.inl ⟨rfl,_,cD.of h⟩
def yL(h:H a=zS (.lst xs))(hz:xs.length<aac)(q:Q .d7 (upd H a (.lst (xs++[y])))):jt (.ref a) [y] H Q:=⟨a,xs,y,rfl,rfl,h,hz,q⟩
def M3(h:H a=zS (.lst xs))(hb:H b=zS (.lst zs))(hz:xs.length+zs.length<=aac)(q:Q .d7 (upd H a (.lst (xs++zs)))):t9 (.ref a) [.ref b] H Q:=⟨a,b,xs,zs,rfl,rfl,h,hb,hz,q⟩
def vw(h:H a=zS (.lst xs))(hb:H b=zS (.tup zs))(hz:xs.length+zs.length<=aac)(q:Q .d7 (upd H a (.lst (xs++zs)))):kS K (.ref a) [.ref b] H Q:=⟨a,b,xs,zs,rfl,rfl,h,km.of hb,hz,q⟩
def D1(h:H a=zS (.lst xs))(hb:H b=zS (.lst zs))(hz:xs.length+zs.length<=aac)(q:∀p,H p=zN->Q (.ref p) (upd H p (.lst (xs++zs)))):Fk (.ref a) (.ref b) H Q:=⟨a,b,xs,zs,rfl,rfl,h,hb,hz,q⟩
def fq(h:n<=16000000):n<=aac:=RO h (by decide)
def eu(h:n<16000000):n<aac:=Sw h (by decide)
def ow(h:Rd H a (.dK kvs))(q:Q (.bl (aI kvs (Rk z)).isSome) H):Pp (.int z) (.ref a) H Q:=⟨a,_,rfl,.inl ⟨kvs,Rk z,h,rfl,rfl⟩,q⟩
def cN(h:Rd H a (.dK kvs))(q:Q (.bl (!(aI kvs (Rk z)).isSome)) H):G1 (.int z) (.ref a) H Q:=⟨a,_,rfl,.inl ⟨kvs,Rk z,h,rfl,rfl⟩,q⟩
def fE(h:Rd H a (.dK kvs))(hv:aI kvs (Rk z)=zS v)(q:Q v H):MU (.ref a) (.int z) H Q:=⟨a,v,rfl,.inl ⟨kvs,Rk z,h,rfl,hv.symm⟩,q⟩
def mh{R:Hp->Prop}(h:H a=zS (.dK kvs))(hl:kvs.length<aac)(q:R (upd H a (.dK (putK kvs (Rk z) v)))):KC (.ref a) (.int z) v H R:=⟨a,_,rfl,.inl ⟨kvs,Rk z,h,rfl,hl,rfl⟩,q⟩
def iy(hl:xs.length<=1000)(q:∀p,H p=zN->Q (.ref p) (upd H p (.tup xs))):Pq xs H Q:=⟨TQ (va hl),q⟩
def jN(hl:xs.length<=1000)(q:∀p,H p=zN->Q (.ref p) (upd H p (.lst xs))):qX xs H Q:=⟨TQ (va hl),q⟩
def eR{dx:Addr}{fs:List (Str×V)}{R:Hp->Prop}(h:H a=zS (.ins C dx fs))(cl:Fc K C)(n:dE K C f)(hl:fs.length<1000)(q:R (upd H a (.ins C dx (kP f y fs)))):MT K (.ref a) y f H R:=⟨a,C,dx,fs,rfl,h,cl,n,hl,q⟩
def KL{more:List (Key×V)}(h:H a=zS (.dK kvs))(ht:∀R:VK,R (.ref b) H->t H R)(hb:Rd H b (.dK more))(hab:a≠b)(hz:kvs.length+more.length<=16000000)(q:Q .d7 (upd H a (.dK (gu kvs more)))):Mm (.ref a) t H Q:=
 ⟨a,rfl,.inl ⟨kvs,.inl h⟩,ht _ ⟨b,kvs,more,rfl,hab,h,hb,fq hz,q⟩⟩
def KM(h:H a=zS (.dK kvs))(ht:∀R:VK,R (.int z) H->t H R)(hu:∀R:VK,R v H->u H R)(hz:kvs.length<16000000)(q1:∀w,aI kvs (Rk z)=zS w->Q w H)(q2:aI kvs (Rk z)=zN->Q v (upd H a (.dK (putK kvs (Rk z) v)))):MV (.ref a) t u H Q:=
 ⟨a,rfl,.inl ⟨kvs,.inl h⟩,ht _ (hu _ ⟨kvs,Rk z,h,rfl,eu hz,q1,q2⟩)⟩
def N_(h:Rd H a (.dK kvs))(ht:∀R:VK,R (.int z) H->t H R)(hu:∀R:VK,R v H->u H R)(q:Q ((aI kvs (Rk z)).getD v) H):MW (.ref a) t u H Q:=
 ⟨a,rfl,.inl ⟨kvs,h⟩,ht _ (hu _ ⟨_,.inl ⟨kvs,Rk z,h,rfl,rfl⟩,q⟩)⟩
def Oa(h:H a=zS (.dK kvs))(ht:∀R:VK,R (.int z) H->t H R)(hv:aI kvs (Rk z)=zS v)(q:Q v (upd H a (.dK (cE kvs (Rk z))))):MX (.ref a) t H Q:=
 ⟨a,rfl,.inl ⟨kvs,.inl h⟩,ht _ ⟨kvs,Rk z,v,h,rfl,hv,q⟩⟩
def Cq(h:H a=zS (.dK kvs))(ht:∀R:VK,R (.int z) H->t H R)(hu:∀R:VK,R v H->u H R)(q1:∀w,aI kvs (Rk z)=zS w->Q w (upd H a (.dK (cE kvs (Rk z)))))(q2:aI kvs (Rk z)=zN->Q v H):KD (.ref a) t u H Q:=
 ⟨a,rfl,.inl ⟨kvs,.inl h⟩,ht _ (hu _ ⟨kvs,Rk z,h,rfl,q1,q2⟩)⟩
def Cr(h:Rd H a (.dK kvs))(q:∀p,H p=zN->Q (.ref p) (upd H p (.dK kvs))):vb [.ref a] H Q:=⟨a,kvs,rfl,h,q⟩
def w_(h:Rd H a (.dK kvs))(q:∀p,H p=zN->Q (.ref p) (upd H p (.lst (kvs.map λkv=>kV kv.1)))):vc [.ref a] H Q:=⟨a,kvs,rfl,h,q⟩
def Mq(h:H a=zS (.lst xs))(q:∀p,H p=zN->Q (.ref p) (upd H p (.lst xs))):Fu K [.ref a] H Q:=⟨a,xs,rfl,.inl (cD.of h),q⟩
def Pw(h:H a=zS (.lst (iL ns)))(hn:0<ns.length)(q:∀m,m∈ns->(∀y,y∈ns->m<=y)->Q (.int m) H):LR K [.ref a] H Q:=⟨a,ns,rfl,cD.of h,hn,q⟩
def Px(h:H a=zS (.lst (iL ns)))(hn:0<ns.length)(q:∀m,m∈ns->(∀y,y∈ns->y<=m)->Q (.int m) H):LQ K [.ref a] H Q:=⟨a,ns,rfl,cD.of h,hn,q⟩
def Ob(h:H a=zS (.tup (iL ns)))(hn:0<ns.length)(q:∀m,m∈ns->(∀y,y∈ns->m<=y)->Q (.int m) H):Kn K [.ref a] H Q:=⟨a,ns,rfl,km.of h,hn,q⟩
def Oc(h:H a=zS (.tup (iL ns)))(hn:0<ns.length)(q:∀m,m∈ns->(∀y,y∈ns->y<=m)->Q (.int m) H):Km K [.ref a] H Q:=⟨a,ns,rfl,km.of h,hn,q⟩
def G3(h:H a=zS (.lst (iL ns)))(q:Q (.int (ns.count k:Nat)) H):vd K (.ref a) [.int k] H Q:=⟨a,ns,k,rfl,rfl,cD.of h,q⟩
def f9{t:JK}{R:L2.St->Hp->Prop}(h:H a=zS (.tup xs))(hn:xs.length=n)(q:t xs σ H R):Ps K n t (.ref a) σ H R:=⟨a,xs,rfl,km.of h,hn,q⟩
end
variable{kvs:List (Key×V)}
def mM{k:Key}:(aI kvs k).isSome=true<->k∈kvs.map (·.1):=by
 rw[<-fw,Tg];constructor
 .rintro⟨p,hp,e⟩;exact Rm.mpr ⟨p,hp,of_decide_eq_true e⟩
 .intro h;let⟨p,hp,e⟩:=Rm.mp h;exact⟨p,hp,decide_eq_true e⟩
def fh.has{B:List Nat}(h:fh kvs B)(x:Nat):(aI kvs (Rk (x:Int))).isSome=decide (x∈B):=by
 rw[S6,mM,h.key,decide_eq_true_eq];constructor
 .rintro⟨y,hy,e⟩;have:x=y:=by injection e with e;omega
  rw[this];exact hy
 .intro hx;exact⟨x,hx,rfl⟩
structure Tc(G:Ga):Prop where
 OH:Fc G.K G.CF
 tP:dE G.K G.CF "pieces"
 BC:dE G.K G.CF "tree"
 wN:dE G.K G.CF "names"
 Od:Fc G.K G.CD
 wO:dE G.K G.CD "stops"
 mZ:dE G.K G.CD "place"
 IB:Fc G.K G.CN
 tQ:dE G.K G.CN "inputs"
 wP:dE G.K G.CN "cells"
 wQ:dE G.K G.CN "tests"
 qz:dE G.K G.CN "presets"
 iC:dE G.K G.CN "remembered"
 jr:dE G.K G.CN "near_trials"
 M4:Fc G.K G.CC
 qA:dE G.K G.CC "numbers"
 Gu:dE G.K G.CC "low"
 BD:dE G.K G.CC "high"
 m5:dE G.K G.CC "refusals"
 OI:Fc G.K G.CT
 wR:dE G.K G.CT "names"
 m6:dE G.K G.CT "settings"
 qB:dE G.K G.CT "columns"
 HP:∀H,km G.K H G.cQ (iL [0,0,2,2,2,2,2,2,2,2,3])
 HW:∀H,km G.K H G.dW (iL [5,2,1,1,1,1,1,2,2,1,1,1,1,0,1,1,0,2,3,3,2,1,0,0])
 HR:∀H,km G.K H G.e_ (iL [0,1,1,1,1,0,0,0,0,0,0,0,0,0,0,0,0,0,0,0,0,0,0,0])
variable{l p:V}
section
variable{G:Ga}{H:Hp}{a dx:Addr}{Q:VK}
def KO(T:Tc G){t n:V}(h:H a=zS (.ins G.CF dx (fF p t n)))(q:Q p H):lv G.K (.ref a) "pieces" H Q:=⟨a,_,dx,_,_,rfl,h,T.OH,T.tP,rfl,q⟩
def KP(T:Tc G){t n:V}(h:H a=zS (.ins G.CF dx (fF p t n)))(q:Q t H):lv G.K (.ref a) "tree" H Q:=⟨a,_,dx,_,_,rfl,h,T.OH,T.BC,rfl,q⟩
def ux(T:Tc G){t n:V}(h:H a=zS (.ins G.CF dx (fF p t n)))(q:Q n H):lv G.K (.ref a) "names" H Q:=⟨a,_,dx,_,_,rfl,h,T.OH,T.wN,rfl,q⟩
def iY(T:Tc G){k:V}(h:H a=zS (.ins G.CD dx (fD l k)))(q:Q l H):lv G.K (.ref a) "stops" H Q:=⟨a,_,dx,_,_,rfl,h,T.Od,T.wO,rfl,q⟩
def kg(T:Tc G){k:V}(h:H a=zS (.ins G.CD dx (fD l k)))(q:Q k H):lv G.K (.ref a) "place" H Q:=⟨a,_,dx,_,_,rfl,h,T.Od,T.mZ,rfl,q⟩
variable{i c t p r n:V}
def bu(T:Tc G)(h:H a=zS (.ins G.CN dx (fN i c t p r n)))(q:Q i H):lv G.K (.ref a) "inputs" H Q:=⟨a,_,dx,_,_,rfl,h,T.IB,T.tQ,rfl,q⟩
def ft(T:Tc G)(h:H a=zS (.ins G.CN dx (fN i c t p r n)))(q:Q c H):lv G.K (.ref a) "cells" H Q:=⟨a,_,dx,_,_,rfl,h,T.IB,T.wP,rfl,q⟩
def dU(T:Tc G)(h:H a=zS (.ins G.CN dx (fN i c t p r n)))(q:Q t H):lv G.K (.ref a) "tests" H Q:=⟨a,_,dx,_,_,rfl,h,T.IB,T.wQ,rfl,q⟩
def qM(T:Tc G)(h:H a=zS (.ins G.CN dx (fN i c t p r n)))(q:Q p H):lv G.K (.ref a) "presets" H Q:=⟨a,_,dx,_,_,rfl,h,T.IB,T.qz,rfl,q⟩
def uz(T:Tc G)(h:H a=zS (.ins G.CN dx (fN i c t p r n)))(q:Q r H):lv G.K (.ref a) "remembered" H Q:=⟨a,_,dx,_,_,rfl,h,T.IB,T.iC,rfl,q⟩
def yM(T:Tc G)(h:H a=zS (.ins G.CN dx (fN i c t p r n)))(q:Q n H):lv G.K (.ref a) "near_trials" H Q:=⟨a,_,dx,_,_,rfl,h,T.IB,T.jr,rfl,q⟩
variable{l h':V}
def bh(T:Tc G)(h:H a=zS (.ins G.CC dx (fC n l h' r)))(q:Q n H):lv G.K (.ref a) "numbers" H Q:=⟨a,_,dx,_,_,rfl,h,T.M4,T.qA,rfl,q⟩
def j7(T:Tc G)(h:H a=zS (.ins G.CC dx (fC n l h' r)))(q:Q l H):lv G.K (.ref a) "low" H Q:=⟨a,_,dx,_,_,rfl,h,T.M4,T.Gu,rfl,q⟩
def gS(T:Tc G)(h:H a=zS (.ins G.CC dx (fC n l h' r)))(q:Q h' H):lv G.K (.ref a) "high" H Q:=⟨a,_,dx,_,_,rfl,h,T.M4,T.BD,rfl,q⟩
def dZ(T:Tc G)(h:H a=zS (.ins G.CC dx (fC n l h' r)))(q:Q r H):lv G.K (.ref a) "refusals" H Q:=⟨a,_,dx,_,_,rfl,h,T.M4,T.m5,rfl,q⟩
variable{s:V}
def D2(T:Tc G)(h:H a=zS (.ins G.CT dx (fT n s c)))(q:Q n H):lv G.K (.ref a) "names" H Q:=⟨a,_,dx,_,_,rfl,h,T.OI,T.wR,rfl,q⟩
def jm(T:Tc G)(h:H a=zS (.ins G.CT dx (fT n s c)))(q:Q s H):lv G.K (.ref a) "settings" H Q:=⟨a,_,dx,_,_,rfl,h,T.OI,T.m6,rfl,q⟩
def ku(T:Tc G)(h:H a=zS (.ins G.CT dx (fT n s c)))(q:Q c H):lv G.K (.ref a) "columns" H Q:=⟨a,_,dx,_,_,rfl,h,T.OI,T.qB,rfl,q⟩
end
end Nb
section
local macro_rules|`(tactic|omega)=>`(tactic|first|lia|omega)
namespace Nb
open PySem PySem.Spec PyProof.Rows L2
open Vanbkj (Formula State Input Res Op)
open ak (Piece)
local macro_rules|`(conv|whnf)=>`(conv|simp only [aK, aW, bj, b_, d9, gd, jj, mT, oF, rK, dr, fV, mr, aU, dH, gM, ju, kq, mR, oq, qV, kU, mS, tK, ↓iD, ↓iE, ↓iF, ↓iG, iD, iE, iF, iG, ↓Zz.ff, ↓Zz.tt, ap, aJ, aA, eW, bx, aL, ao, db, bU, az, tC, eG, aP, rJ, aB, tB, fG, oE, fk, eT, gX, eU, mz, bH, dR, a_, cP, dP, lE, rI, rU, fM, mq, gR, bQ, pB, gh, jD, ii, cK, eX, cW, cX, bR, cY, aZ, bS, cZ, c9, bq, bT, c_, cC, bB, bC, bD, bE, iB, wipe, de, eZ, bV, dh, bW, bX, bY, di, bZ, b0,
  List.getElem?_cons_zero, List.getElem?_cons_succ, List.set_cons_zero, List.set_cons_succ, List.cons_append, List.nil_append,
  Option.some.injEq, V.int.injEq, V.ref.injEq, V.bl.injEq, List.cons.injEq, and_true, true_and, exists_eq_left, exists_eq_left', exists_and_left, exists_and_right, exists_eq, Bool.false_eq_true, if_false, if_true, Bool.not_true, Bool.not_false, decide_eq_true_eq, Bool.not_eq_true', decide_eq_false_iff_not])
local macro_rules|`(tactic|and_intros)=>`(tactic|(first|(refine (?f:Zz.K _ ?T) ?p;(case p=>(conv=>lhs;whnf);try (change ?T=?T;exact rfl));intro z;refine (?x:?T);clear z)|(conv=>whnf));try with_reducible exact True.intro)
local macro_rules|`(tactic|nofun)=>`(tactic|((try and_intros);repeat(simp only [ie, ig, gW, List.append_nil];try and_intros)))
def eK:Sp:=λvs H Q _=>∃z:Int,vs=[.int z]/\Q (.bl (decide (0<=z/\z<=31))) H
def bJ:Sp:=λvs H Q _=>∃z:Int,vs=[.int z]/\Q (.bl (RD z)) H
def cU:Sp:=λvs H Q _=>∃z:Int,vs=[.int z]/\Q (.bl (decide (z=0\/z=1))) H
variable{z:Int}{ns:List Int}{k:Nat}
section
variable{G:Ga}{vs:List V}{H:Hp}{Q:VK}{E:XK}
def IC(h:eK vs H Q E):vj G (ends Q) (start Bc vs) H:=by
 let⟨z,rfl,q⟩:=h;show vj G (ends Q) [zS (.int z)] H;unfold vj
 nofun
 by_cases h1:0<=z
 .rw[ag h1];simpa [h1]using q
 .rw[ae h1];simpa [h1]using q
def FV(h:bJ vs H Q E):sw G (ends Q) (start yq vs) H:=by
 let⟨z,rfl,q⟩:=h;show sw G (ends Q) [zS (.int z)] H;unfold sw
 nofun
 have e:RD z=(decide (-1000000000000<=z)&&decide (z<=1000000000000)):=rfl;rw[e]at q;by_cases h1: -1000000000000<=z
 .rw[ag h1];simpa [h1]using q
 .rw[ae h1];simpa [h1]using q
def ID(h:cU vs H Q E):vk G (ends Q) (start Bd vs) H:=by
 let⟨z,rfl,q⟩:=h;show vk G (ends Q) [zS (.int z)] H;unfold vk
 nofun
 by_cases h1:z=0
 .rw[ag h1];simpa [h1]using q
 .rw[ae h1];simpa [h1]using q
def jH:Sp:=λvs H Q _=>∃(a:Addr)(ns:List Int)(k:Nat),vs=[.ref a,.int k]/\H a=zS (.lst (iL ns))/\(ak.pieceAt (ns.drop k)=zN->Q .d7 H)/\
 ∀q r,ak.pieceAt (ns.drop k)=zS (q,r)->∀t,H t=zN->Q (.ref t) (upd H t (.tup [.int q.1,.int q.2]))
def yN(h:ns[k]?=zS z):(iL ns)[k]?=zS (.int z):=by show(ns.map V.int)[k]?=_;rw[RW,h];rfl
def drop_cons(h:ns[k]?=zS z):ns.drop k=z::ns.drop (k+1):=by let⟨hk,e⟩:=RE.mp h;rw[UU hk,e]
theorem FW(h:jH vs H Q E):sx G cU eK bJ (ends Q) (start yr vs) H:=by
 let⟨a,ns,k,rfl,ha,q0,q1⟩:=h;show sx G _ _ _ (ends Q) [zS (.ref a),zS (.int k),zN,zN,zN] H;unfold sx
 nofun
 refine fJ ha ?_
 nofun
 rw[Rr];by_cases hk:k<ns.length
 .rw[ae (by omega)];obtain⟨z,hz⟩:∃z,ns[k]?=zS z:=⟨_,RC hk⟩;refine eN k rfl ha (yN hz) ?_;rw[drop_cons hz]at q0 q1
  nofun
  by_cases h0:0<=z
  .rw[ag h0];by_cases h10:z<=10
   .rw[ae (by omega)];refine eN k rfl ha (yN hz) ⟨z,rfl,?_⟩
    nofun
    by_cases hl:z=0\/z=1
    .rw[ae (by simp[hl])];refine fJ ha ?_
     nofun
     rw[Rr];by_cases hk1:k+1<ns.length
     .rw[ae (by omega)];obtain⟨y,hy⟩:∃y,ns[k+1]?=zS y:=⟨_,RC hk1⟩;refine eN (k+1) (by omega) ha (yN hy) ?_;rw[drop_cons hy]at q0 q1
      nofun
      by_cases hz0:z=0
      .rw[ag hz0];refine⟨y,rfl,?_⟩
       nofun
       subst hz0;by_cases hv:RD y=true
       .rw[ag hv];exact iy (by simp) (q1 (0,y) (ns.drop (k+1+1)) (by simp[ak.pieceAt,hv]))
       .rw[ae hv];exact q0 (by simp[ak.pieceAt,hv])
      .rw[ae hz0];have hz1:z=1:=hl.resolve_left hz0;subst hz1;refine⟨y,rfl,?_⟩
       nofun
       by_cases hv:0<=y/\y<=31
       .rw[ag hv];exact iy (by simp) (q1 (1,y) (ns.drop (k+1+1)) (by simp[ak.pieceAt,hv]))
       .rw[ae hv];exact q0 (by simp only[ak.pieceAt];rw[ae (by decide),ag (by trivial),ae hv])
     .rw[ag (by omega)];have e:ns.drop (k+1)=[]:=W_ (by omega);rw[e]at q0;refine q0 ?_;obtain hl|hl:=hl
      .subst hl;simp[ak.pieceAt]
      .subst hl;simp[ak.pieceAt]
    .rw[ag (by simpa using hl)];refine iy (by simp) (q1 (z,0) (ns.drop (k+1)) ?_);have e0:¬z=0:=λe=>hl (.inl e);have e1:¬z=1:=λe=>hl (.inr e);simp only[ak.pieceAt];rw[ae e0,ae e1,ag ⟨by omega,h10⟩]
   .rw[ag h10];refine q0 ?_;simp only[ak.pieceAt];rw[ae (by omega),ae (by omega),ae (by omega)]
  .rw[ae h0];refine q0 ?_;simp only[ak.pieceAt];rw[ae (by omega),ae (by omega),ae (by omega)]
 .rw[ag (by omega)];exact q0 (by rw[W_ (by omega)];rfl)
theorem Cs{l r:List Int}{q:Piece}(h:ak.pieceAt l=zS (q,r)):0<=q.1/\q.1<=10:=by
 cases l with
 |nil=>simp[ak.pieceAt]at h
 |cons n t=>
  unfold ak.pieceAt at h;dsimp only at h;split at h
  .cases t with
   |nil=>cases h
   |cons v t=>
    dsimp only at h;split at h
    .cases h;exact⟨by show(0:Int)<=_;simp,by show _<=(10:Int);simp⟩
    .cases h
  .split at h
   .cases t with
    |nil=>cases h
    |cons v t=>
     dsimp only at h;split at h
     .cases h;exact⟨by show(0:Int)<=_;simp,by show _<=(10:Int);simp⟩
     .cases h
   .split at h
    .rename_i h2;cases h;exact⟨by omega,h2.2⟩
    .cases h
theorem yO(h0:0<=z)(h1:z<=10):(iL [0,0,2,2,2,2,2,2,2,2,3])[z.toNat]?=zS (.int (ak.parts z:Nat)):=by
 have:z=0\/z=1\/z=2\/z=3\/z=4\/z=5\/z=6\/z=7\/z=8\/z=9\/z=10:=by omega
 obtain h|h|h|h|h|h|h|h|h|h|h:=this<;>subst h<;>rfl
def Paired.M5{α β:Type}{F:α->β->Prop}:∀{l:List α}{m:List β}{a:α}{b:β},Paired F l m->F a b->Paired F (l++[a]) (m++[b])
 |_,_,_,_,.nil,h=>.cons h .nil
 |_,_,_,_,.cons r t,h=>.cons r (Paired.M5 t h)
def Paired.nS{α β:Type}{F:α->β->Prop}:∀{l:List α}{m:List β},Paired F l m->l.length=m.length
 |_,_,.nil=>rfl
 |_,_,.cons _ t=>by simp[Paired.nS t]
def iO:Sp:=λvs H Q _=>∃(ms:List Addr)(a:Addr)(ns:List Int),vs=[.ref a]/\H a=zS (.lst (iL ns))/\lu ms H/\(S9 ns=zN->∀H',ah H H'->Q .d7 H')/\
 ∀f,S9 ns=zS f->∀H' p,ah H H'->H p=zN->gZ (cut ms H') p (ak.pieces f)->Q (.ref p) H'
structure Py(ms:List Addr)(ns:List Int)(a p:Addr)(H:Hp)(σ:L2.St)(H':Hp):Prop where
 ex:∃(k m:Nat)(o:Option V)(vs:List V)(ps:List Piece),σ=[zS (.ref a),zS (.ref p),zS (.int k),zS (.int m),o]/\ah H H'/\H' p=zS (.lst vs)/\Paired (qK (cut ms H')) vs ps/\k<=ns.length/\ps.length<=k/\
  ∀ps',ak.bv 1 ns ps'<->∃qs,ps'=ps++qs/\ak.bv m (ns.drop k) qs
theorem D3(T:Tc G)(h:iO vs H Q E):pK G cU jH (ends Q) (start v5 vs) H:=by
 let⟨ms,a,ns,rfl,ha,dm,q0,q1⟩:=h;show pK G _ _ (ends Q) [zS (.ref a),zN,zN,zN,zN] H;unfold pK
 nofun
 refine fJ ha ?_
 nofun
 rw[Rr];by_cases hl:60<ns.length
 .rw[ag (by omega)];exact q0 (ak.xE hl) H (ah.refl H)
 .rw[ae (by omega)];refine jN (by simp) λp hp=>?_
  nofun
  have dp:=dm.free hp;refine xZ (Py ms ns a p H) (λσ _=>match σ with|[_,_,zS (.int k),_,_]=>ns.length-k.toNat|_=>0) ⟨0,1,zN,[],[],rfl,ah.upd hp,aa,.nil,SO _,Ro _,λps'=>by simp⟩ ?_ ?_
  .rintro σ H1 ⟨k,m,o,vs,ps,rfl,s1,hp1,pr,hk,hpk,fo⟩
   nofun
   by_cases hm:m=0
   .rw[ae (by omega)];refine fJ (s1 _ _ ha) ?_
    nofun
    rw[Rr];subst hm;by_cases he:k<ns.length
    .rw[ag (by omega)];refine q0 (ak.j5 λps' hf=>?_) H1 s1;let⟨qs,_,h2⟩:=(fo ps').mp hf;have:=(ak.bv.zero.mp h2).1;have h3:=congrArg UI this;rw[Vj]at h3;simp at h3;omega
    .rw[ae (by omega)];have hd:ns.drop k=[]:=W_ (by omega);have hf:ak.bv 1 ns ps:=(fo ps).mpr ⟨[],by simp,by rw[hd];exact ak.bv.zero.mpr ⟨rfl,rfl⟩⟩;let⟨f,h1,h2,_⟩:=ak.qT (by omega) hf;exact q1 f h1 H1 p s1 hp ⟨vs,cS hp1 dp,by rw[<-h2];exact pr⟩
   .rw[ag (by omega)];obtain⟨m,rfl⟩:∃j,m=j+1:=⟨m-1,by omega⟩;refine⟨a,ns,k,rfl,s1 _ _ ha,λhn=>?_,λq r hq t ht=>?_⟩
    .dsimp only;rw[ag rfl];refine q0 (ak.j5 λps' hf=>?_) H1 s1;let⟨qs,_,h2⟩:=(fo ps').mp hf;exact ak.bv.stuck hn h2
    .dsimp only;rw[ae (by simp)];have s2:ah H1 (upd H1 t (.tup [.int q.1,.int q.2])):=ah.upd ht;have hpt:p≠t:=ay hp1 ht;have hsg:=Cs hq;have hvl:vs.length<=60:=by rw[Paired.nS pr];omega
     refine⟨f8 (s2 _ _ hp1),yL (s2 _ _ hp1) (eu (by omega)) ?_⟩;have htp:(upd (upd H1 t (.tup [.int q.1,.int q.2])) p (.lst (vs++[.ref t]))) t=zS (.tup [.int q.1,.int q.2]):=by rw[ab hpt.symm,aa]
     have s3:ah H (upd (upd H1 t (.tup [.int q.1,.int q.2])) p (.lst (vs++[.ref t]))):=ah.put (s1.trans s2) hp;have hlen:=ak.C_ hq;rw[Vj]at hlen;have nx:∀d,(ns.drop k).length=r.length+d->r=ns.drop (k+d):=by
      intro d hd;have hsuf:∃pre,ns.drop k=pre++r/\pre.length=d:=by
       have:∃pre,ns.drop k=pre++r:=by
        revert hq
        cases ns.drop k with
        |nil=>intro hq;simp[ak.pieceAt]at hq
        |cons n l=>
         intro hq;unfold ak.pieceAt at hq;dsimp only at hq;split at hq
         .cases l with
          |nil=>cases hq
          |cons v l=>
           dsimp only at hq;split at hq
           .cases hq;exact⟨[n,v],rfl⟩
           .cases hq
         .split at hq
          .cases l with
           |nil=>cases hq
           |cons v l=>
            dsimp only at hq;split at hq
            .cases hq;exact⟨[n,v],rfl⟩
            .cases hq
          .split at hq
           .cases hq;exact⟨[n],rfl⟩
           .cases hq
       let⟨pre,e⟩:=this;refine⟨pre,e,?_⟩;rw[e,RH]at hd;omega
      let⟨pre,e,hl⟩:=hsuf;rw[<-List.drop_drop,e,<-hl,List.drop_left]
     have next:∀d:Nat,(d=1\/d=2)->(ns.drop k).length=r.length+d->Py ms ns a p H [zS (.ref a),zS (.ref p),zS (.int ((k:Int)+(d:Nat))),zS (.int (((m+1:Nat):Int)+((ak.parts q.1:Nat)-1))),zS (.ref t)] (upd (upd H1 t (.tup [.int q.1,.int q.2])) p (.lst (vs++[.ref t])))/\
       ns.length-((k:Int)+(d:Nat)).toNat<ns.length-(k:Int).toNat:=by
      intro d hd12 hd;have er:=nx d hd;rw[Vj]at hd;clear hlen;refine⟨⟨k+d,m+ak.parts q.1,zS (.ref t),vs++[.ref t],ps++[q],?_,s3,aa,?_,by omega,by rw[RH,Ye];omega,λps'=>?_⟩,by omega⟩
      .have e1:((k:Int)+(d:Nat))=((k+d:Nat):Int):=by omega
       have e2:(((m+1:Nat):Int)+((ak.parts q.1:Nat)-1))=((m+ak.parts q.1:Nat):Int):=by omega
       rw[e1,e2]
      .refine Paired.M5 (Paired.j9 pr λv' q'⟨a',e',h'⟩=>⟨a',e',?_⟩) ⟨t,rfl,cS htp λhm=>dm.free (s1.free ht) hm⟩;let⟨h1,h2⟩:=aj h';refine cS ?_ h2;rw[ab (λe=>by rw[e,hp1]at h1;cases h1)];exact s2 _ _ h1
      .rw[fo ps'];constructor
       .rintro⟨qs,e,hf⟩;let⟨qs',e2,hf2⟩:=(ak.bv.step hq).mp hf;exact⟨qs',by rw[e,e2];simp,by rw[<-er];exact hf2⟩
       .rintro⟨qs,e,hf⟩;exact⟨q::qs,by rw[e];simp,(ak.bv.step hq).mpr ⟨qs,rfl,by rw[er];exact hf⟩⟩
     refine iw 0 rfl htp rfl ⟨q.1,rfl,?_⟩
     nofun
     rw[Vj]at nx next;by_cases hl2:q.1=0\/q.1=1
     .rw[ag hl2]at hlen⊢;refine iw 0 rfl htp rfl (D0 q.1.toNat (by omega) (T.HP _) (yO hsg.1 hsg.2) ⟨_,rfl,?_⟩);exact next 2 (.inr rfl) hlen
     .rw[ae hl2]at hlen⊢;refine iw 0 rfl htp rfl (D0 q.1.toNat (by omega) (T.HP _) (yO hsg.1 hsg.2) ⟨_,rfl,?_⟩);exact next 1 (.inl rfl) hlen
  .rintro σ H Q Q' f h;simp only[ie,ig,gW,aB,aP,eG,tC,lE]at h⊢;let⟨v,e,i,j,e1,e2,k,e3,q⟩:=h;exact⟨v,e,i,j,e1,e2,k,e3,f _ _ q⟩
end
variable{a x:Addr}{f:Formula}{o:HO}{H' I I':Hp}{k:Key}{kvs:List (Key×V)}{ms:List Addr}{B:List Nat}{i:Nat}{t:ak.wx}{v:V}
section
variable{G:Ga}{vs:List V}{H:Hp}{Q:VK}{E:XK}
theorem Paired.nU{α β:Type}{F:α->β->Prop}{l:List α}{m:List β}(h:Paired F l m){a:α}(ha:l[i]?=zS a):∃b,m[i]?=zS b/\F a b:=by have hl:=Paired.nS h;have hi:=(RE.mp ha).1;refine⟨m[i]'(by omega),RC (by omega),Paired.Fw h ha (RC (by omega))⟩
def gE(I I':Hp):Prop:=∀b xs,I b=zS (.tup xs)->I' b=zS (.tup xs)
def gE.of(s:ah I I'):gE I I':=λb xs h=>s _ _ h
def gE.trans{I1 I2:Hp}(s:gE I I1)(t:gE I1 I2):gE I I2:=λb xs h=>t _ _ (s _ _ h)
def gE.cut(s:gE H H'):gE (Nb.cut ms H) (Nb.cut ms H'):=λb xs h=>let⟨h1,h2⟩:=aj h;cS (s _ _ h1) h2
def gE.lst{m:Addr}{l l':List V}(h:H m=zS (.lst l)):gE H (upd H m (.lst l')):=λb xs e=>by rw[ab (aQ e h (by intro z;cases z))];exact e
def eJ.wk(s:gE I I'):∀{f:Formula}{x:V},eJ I f x->eJ I' f x
 | .const v,x,⟨a,e,h⟩=>⟨a,e,s _ _ h⟩
 | .name v,x,⟨a,e,h⟩=>⟨a,e,s _ _ h⟩
 | .two o f g,x,⟨a,y,z,e,h,h1,h2⟩=>⟨a,y,z,e,s _ _ h,h1.wk s,h2.wk s⟩
 | .cond c f g,x,⟨a,y,z,u,e,h,h0,h1,h2⟩=>⟨a,y,z,u,e,s _ _ h,h0.wk s,h1.wk s,h2.wk s⟩
def kW:Sp:=λvs H Q _=>∃(ms:List Addr)(p:Addr)(f:Formula),vs=[.ref p]/\lu ms H/\gZ (cut ms H) p (ak.pieces f)/\ak.Told f/\∀H' x,ah H H'->eJ (cut ms H') f x->Q x H'
theorem D4{α:Type}{l:List α}{n:Nat}(hn:l.length=n)(hi:i<n):∃q,l[n-1-i]?=zS q/\l.drop (n-(i+1))=q::l.drop (n-i):=by
 have h1:n-1-i<l.length:=by omega
 refine⟨l[n-1-i],RC h1,?_⟩;have e:n-(i+1)=n-1-i:=by omega
 have e2:n-i=n-1-i+1:=by omega
 rw[e,e2,UU h1]
def Pz{us:List V}{u:V}(h:H a=zS (.lst (u::us).reverse))(q:Q u (upd H a (.lst us.reverse))):NM (.ref a) [] H Q:=by
 refine⟨a,_,u,rfl,rfl,h,?_,?_⟩
 .simp
 .have:(u::us).reverse.dropLast=us.reverse:=by simp
  rw[this];exact q
def Oe{K:Rl}{b:Addr}{xs zs:List V}(h:H a=zS (.tup xs))(h0:xs≠[])(hb:H b=zS (.tup zs))(h1:zs≠[])(hz:xs.length+zs.length<=1000)(q:∀p,H p=zN->Q (.ref p) (upd H p (.tup (xs++zs)))):JY K (.ref a) (.ref b) H Q:=
 ⟨a,b,xs,zs,rfl,rfl,km.of h,km.of hb,h0,TQ (va hz),λe=>absurd e h1,λ_=>q⟩
theorem iz:∀(f:Formula)(q:Piece),q∈ak.pieces f->0<=q.1/\q.1<=10
 | .const v,q,h=>by simp[ak.pieces]at h;subst h;exact⟨by show(0:Int)<=0;omega,by show(0:Int)<=10;omega⟩
 | .name v,q,h=>by simp[ak.pieces]at h;subst h;exact⟨by show(0:Int)<=1;omega,by show(1:Int)<=10;omega⟩
 | .two o f g,q,h=>by
  simp only[ak.pieces,Rn,Ru]at h;obtain h|h|h:=h
  .subst h;have:=ak.i8 o;exact⟨by show(0:Int)<=US o;omega,by show US o<=(10:Int);omega⟩
  .exact iz f q h
  .exact iz g q h
 | .cond c f g,q,h=>by
  simp only[ak.pieces,Rn,Ru]at h;obtain h|h|h|h:=h
  .subst h;exact⟨by show(0:Int)<=10;omega,by show(10:Int)<=10;omega⟩
  .exact iz c q h
  .exact iz f q h
  .exact iz g q h
def IE{q:Piece}{st st':List Formula}(e0:¬q.1=0)(e1:¬q.1=1)(h:ak.push q st=zS st'):(q.1=10/\ak.parts q.1=3/\∃a b c r,st=a::b::c::r/\st'=.cond a b c::r)\/(ak.parts q.1=2/\∃o a b r,q.1=US o/\st=a::b::r/\st'=.two o a b::r):=by
 unfold ak.push at h;rw[ae e0,ae e1]at h;unfold ak.parts;rw[ae e0,ae e1];by_cases e10:q.1=10
 .rw[ag e10]at h⊢
  match st,h with
  |a::b::c::r,h=>exact .inl ⟨e10,rfl,a,b,c,r,rfl,(RA h).symm⟩
 .rw[ae e10]at h⊢
  cases eo:Vanbkj.opOf q.1 with
  |none=>rw[eo]at h;cases h
  |some o=>
   rw[eo]at h
   match st,h with
   |a::b::r,h=>exact .inr ⟨rfl,o,a,b,r,ak.uQ eo,rfl,(RA h).symm⟩
structure QN(ms:List Addr)(H:Hp)(p m:Addr)(f:Formula)(n i:Nat)(σ:L2.St)(H':Hp):Prop where
 ex:∃(o2 o3 o4 o5:Option V)(us:List V)(st:List Formula),σ=[zS (.ref p),zS (.ref m),o2,o3,o4,o5]/\ah H H'/\H' m=zS (.lst us.reverse)/\us.length<=i/\
  ak.build ((ak.pieces f).drop (n-i))=zS st/\Paired (λv g=>eJ (cut ms H') g v) us st
structure PB(ms:List Addr)(H:Hp)(p m t:Addr)(sg:Int)(us:List V)(st:List Formula)(i:Nat)(σ:L2.St)(H':Hp):Prop where
 ex:∃(o5:Option V)(t':Addr),σ=[zS (.ref p),zS (.ref m),zS (.ref t),zS (.int sg),zS (.ref t'),o5]/\ah H H'/\H' m=zS (.lst (us.drop i).reverse)/\H' t'=zS (.tup (.int sg::us.take i))/\H t'=zN/\Paired (λv g=>eJ (cut ms H') g v) us st
theorem IF(T:Tc G)(h:kW vs H Q E):vm G cU (ends Q) (start Be vs) H:=by
 let⟨ms,p,f,rfl,dm,⟨ws,hp,pr⟩,tf,k⟩:=h;show vm G _ (ends Q) [zS (.ref p),zN,zN,zN,zN,zN] H;unfold vm
 nofun
 refine jN (by simp) λm hm=>?_
 nofun
 let⟨hp',npm⟩:=aj hp;have hpm:p≠m:=ay hp' hm;have hwl:ws.length=(ak.pieces f).length:=Paired.nS pr;have hw60:ws.length<=60:=by rw[hwl];exact RO (ak.rZ f) tf.2
 have bw:=ak.Da f;refine DY (xs:=ws) (by rw[ab hpm];exact hp') (QN ms H p m f ws.length) ⟨zN,zN,zN,zN,[],[],rfl,ah.upd hm,aa,Ro _,by rw[YQ,hwl,YR];rfl,.nil⟩ ?_ ?_ ?_
 .rintro i σ H' _ ⟨_,_,_,_,us,st,_,s1,_⟩;exact s1 _ _ hp'
 .rintro i x σ H' hi hx ⟨o2,o3,o4,o5,us,st,rfl,s1,hm1,hul,hb,pu⟩;let⟨q,hq,hdr⟩:=D4 hwl.symm hi;have pq:qK (cut ms H) x q:=Paired.Fw pr hx hq;let⟨t,rfl,ht0⟩:=pq;have ht:H' t=zS (.tup [.int q.1,.int q.2]):=s1 _ _ (aj ht0).1;have htm:t≠m:=ay (aj ht0).1 hm;obtain⟨st',hst'⟩:∃st',ak.build ((ak.pieces f).drop (ws.length-(i+1)))=zS st':=by have e:ak.pieces f=(ak.pieces f).take (ws.length-(i+1))++(ak.pieces f).drop (ws.length-(i+1)):=(V6 _ _).symm;exact ak.tS _ _ _ (by rw[<-e];exact bw)
  have hpush:ak.push q st=zS st':=by rw[hdr,ak.build_cons,hb]at hst';exact hst'
  have hqm:q∈ak.pieces f:=Rz hq
  nofun
  refine iw 0 rfl ht rfl ⟨q.1,rfl,?_⟩
  nofun
  have hmm:m∉ms:=dm.free hm;have huL:us.length<1000:=by omega
  by_cases hl:q.1=0\/q.1=1
  .rw[ag hl];refine⟨f8 hm1,yL hm1 (eu (by simp;omega)) ?_⟩;refine⟨_,_,o4,o5,.ref t::us,st',rfl,ah.put s1 hm,by rw[aa];simp,by simp;omega,hst',?_⟩;have st1:gE H' (upd H' m (.lst (us.reverse++[.ref t]))):=gE.lst hm1;have pu2:=Paired.j9 pu λv g tv=>eJ.wk (gE.cut (ms:=ms) st1) tv;have hc:cut ms (upd H' m (.lst (us.reverse++[.ref t]))) t=zS (.tup [.int q.1,.int q.2]):=cS (by rw[ab htm];exact ht) (aj ht0).2;obtain hl|hl:=hl
   .have e:st'=.const q.2::st:=by unfold ak.push at hpush;rw[ag hl]at hpush;exact(RA hpush).symm
    rw[e];exact .cons ⟨t,rfl,by rw[hl]at hc;exact hc⟩ pu2
   .have e:st'=.name q.2.toNat::st:=by unfold ak.push at hpush;rw[ae (by omega),ag hl]at hpush;exact(RA hpush).symm
    rw[e];let⟨x,_,hx⟩:=(ak.cw f q.2).mp (by rw[<-hl];exact hqm);refine .cons ⟨t,rfl,?_⟩ pu2;have e2:((q.2.toNat:Nat):Int)=q.2:=by omega
    rw[e2];rw[hl]at hc;exact hc
  .rw[ae hl];refine iy (by simp) λt0 ht0'=>?_
   nofun
   have hsg:=iz f q hqm;refine D0 q.1.toNat (by omega) (T.HP _) (yO hsg.1 hsg.2) ?_;have pn:=IE (λe=>hl (.inl e)) (λe=>hl (.inr e)) hpush;have hj3:ak.parts q.1<=3/\ak.parts q.1<=us.length:=by
    rw[Paired.nS pu];obtain⟨_,e,a,b,c,r,e2,_⟩|⟨e,o,a,b,r,_,e2,_⟩:=pn
    .rw[e,e2];simp
    .rw[e,e2];simp
   have s2:ah H' (upd H' t0 (.tup [.int q.1])):=ah.upd ht0';refine G2 (ak.parts q.1) rfl (by omega) (PB ms H p m t q.1 us st) ⟨o5,t0,rfl,s1.trans s2,by rw[Xa];exact s2 _ _ hm1,by rw[Xb];exact aa,s1.free ht0',Paired.j9 pu λv g tv=>eJ.mono (bo s2) tv⟩ ?_ ?_
   .rintro j σ H2 hj ⟨o5,t',rfl,s3,hm2,ht2,hn2,pu2⟩
    nofun
    obtain⟨u,hu⟩:∃u,us[j]?=zS u:=⟨_,RC (by omega)⟩;let⟨hju,eju⟩:=RE.mp hu;have ed:us.drop j=u::us.drop (j+1):=by rw[UU hju,eju]
    rw[ed]at hm2;refine⟨f8 hm2,Pz hm2 ?_⟩;have tm:t'≠m:=aQ ht2 hm2 (by intro z;cases z);refine iy (by simp) λt1 ht1=>?_;have n1:t'≠t1:=ay (by rw[ab tm];exact ht2) ht1;have m1:m≠t1:=ay aa ht1;refine Oe (xs:=.int q.1::us.take j) (zs:=[u]) (by rw[ab n1,ab tm];exact ht2) (by simp) aa (by simp) (by simp;omega) λt3 ht3=>?_;have m3:m≠t3:=ay (by rw[ab m1];exact aa) ht3;have hfree:H t3=zN:=by
     cases e:H t3 with
     |none=>rfl
     |some o=>
      have:=s3 _ _ e;have n3:t3≠m:=λz=>m3 z.symm;have n4:t3≠t1:=λz=>by rw[z,aa]at ht3;cases ht3
      rw[ab n4,ab n3,this]at ht3;cases ht3
    have sT:gE H2 (upd (upd (upd H2 m (.lst (us.drop (j+1)).reverse)) t1 (.tup [u])) t3 (.tup ((.int q.1::us.take j)++[u]))):=(gE.lst hm2).trans ((gE.of (ah.upd ht1)).trans (gE.of (ah.upd ht3)));refine⟨_,t3,rfl,λb o e=>?_,?_,?_,hfree,Paired.j9 pu2 λv g tv=>eJ.wk (gE.cut sT) tv⟩
    .have nb:b≠m:=ay e hm;exact ah.upd ht3 _ _ (ah.upd ht1 _ _ (by rw[ab nb];exact s3 _ _ e))
    .rw[ab m3,ab m1,aa]
    .rw[aa,T1 hju,eju];rfl
   .rintro σ H2 ⟨o5,t',rfl,s3,hm2,ht2,hn2,pu2⟩
    nofun
    refine⟨f8 hm2,yL hm2 (eu (by simp;omega)) ?_⟩;have tm:t'≠m:=aQ ht2 hm2 (by intro z;cases z);refine⟨_,_,_,o5,.ref t'::us.drop (ak.parts q.1),st',rfl,λb o e=>by rw[ab (ay e hm)];exact s3 _ _ e,by rw[aa];simp,by simp;omega,hst',?_⟩;have sT:gE H2 (upd H2 m (.lst ((us.drop (ak.parts q.1)).reverse++[.ref t']))):=gE.lst hm2;have pu3:=Paired.j9 pu2 λv g tv=>eJ.wk (gE.cut (ms:=ms) sT) tv;have hc:cut ms (upd H2 m (.lst ((us.drop (ak.parts q.1)).reverse++[.ref t']))) t'=zS (.tup (.int q.1::us.take (ak.parts q.1))):=cS (by rw[ab tm];exact ht2) (dm.free hn2);obtain⟨e10,e,a,b,c,r,e2,e3⟩|⟨e,o,a,b,r,eo,e2,e3⟩:=pn
    .rw[e3];rw[e2]at pu3;rw[e]at hc pu3⊢
     cases pu3 with
     |cons h1 r1=>cases r1 with
      |cons h2 r2=>cases r2 with
       |cons h3 r3=>exact .cons ⟨t',_,_,_,rfl,by rw[e10]at hc;exact hc,h1,h2,h3⟩ r3
    .rw[e3];rw[e2]at pu3;rw[e]at hc pu3⊢
     cases pu3 with
     |cons h1 r1=>cases r1 with
      |cons h2 r2=>exact .cons ⟨t',_,_,rfl,by rw[eo]at hc;exact hc,h1,h2⟩ r2
 .rintro σ H' ⟨o2,o3,o4,o5,us,st,rfl,s1,hm1,hul,hb,pu⟩;rw[YS,Xa,bw]at hb;obtain rfl:=RA hb
  cases pu with
  |cons tv r=>
   cases r
   nofun
   refine eN 0 rfl hm1 rfl ?_;exact k H' _ s1 tv
def qN{j:Key}:j∈(putK kvs k v).map (·.1)<->j∈kvs.map (·.1)\/j=k:=by
 unfold putK;split
 .rename_i h;have e:(kvs.map λkv=>if kv.1=k then(kv.1,v)else kv).map (·.1)=kvs.map (·.1):=by rw[RV];apply SE;intro kv _;show(if kv.1=k then(kv.1,v)else kv).1=kv.1;split<;>rfl
  rw[e];constructor
  .exact .inl
  .rintro(h1|h1)
   .exact h1
   .rw[h1];let⟨p,hp,e⟩:=Tg.mp h;exact Rm.mpr ⟨p,hp,of_decide_eq_true e⟩
 .simp
def mN(h:(kvs.map (·.1)).Nodup):((putK kvs k v).map (·.1)).Nodup:=by
 by_cases hv:aI kvs k=zN
 .exact LZ v h hv
 .unfold putK;have:(kvs.any λkv=>decide (kv.1=k))=true:=by
   rw[fw]
   cases e:aI kvs k with
   |none=>exact absurd e hv
   |some x=>rfl
  rw[ag this];have e:(kvs.map λkv=>if kv.1=k then(kv.1,v)else kv).map (·.1)=kvs.map (·.1):=by rw[RV];apply SE;intro kv _;show(if kv.1=k then(kv.1,v)else kv).1=kv.1;split<;>rfl
  rw[e];exact h
def fh.congr{B':List Nat}(h:fh kvs B)(e:∀x,x∈B<->x∈B'):fh kvs B':=⟨h.nd,λk=>by rw[h.key k];constructor<;>(rintro⟨x,hx,e2⟩;exact⟨x,by first|exact(e x).mp hx|exact(e x).mpr hx,e2⟩)⟩
def fh.put(h:fh kvs B)(x:Nat)(v:V):fh (putK kvs (Rk (x:Int)) v) (B++[x]):=⟨mN h.nd,λk=>by
 rw[qN,h.key k];constructor
 .rintro(⟨y,hy,e⟩|e)
  .exact⟨y,Sm _ hy,e⟩
  .exact⟨x,by simp,e⟩
 .rintro⟨y,hy,e⟩;obtain hy|hy:=Ru.mp hy
  .exact .inl ⟨y,hy,e⟩
  .rw[Sb]at hy;subst hy;exact .inr e⟩
def namesOf(ps:List Piece):List Nat:=ps.filterMap λq=>if q.1=1 then zS q.2.toNat else zN
def D5{x:Nat}:x∈namesOf (ak.pieces f)<->x∈Ry f:=by
 unfold namesOf;rw[WO];constructor
 .rintro⟨q,hq,e⟩;split at e
  .rename_i h1;let⟨y,hy,e2⟩:=(ak.cw f q.2).mp (by rw[<-h1];exact hq);cases e;rw[e2];simpa using hy
  .cases e
 .intro h;exact⟨(1,(x:Int)),(ak.cw f x).mpr ⟨x,h,rfl⟩,by simp⟩
def jG:Sp:=λvs H Q _=>∃(ms:List Addr)(p:Addr)(f:Formula),vs=[.ref p]/\lu ms H/\gZ (cut ms H) p (ak.pieces f)/\ak.Told f/\
 ∀H' n kvs,ah H H'->H n=zN->H' n=zS (.dK kvs)->fh kvs (Ry f)->Q (.ref n) H'
structure QO(H:Hp)(p n:Addr)(f:Formula)(i:Nat)(σ:L2.St)(H':Hp):Prop where
 ex:∃(o:Option V)(kvs:List (Key×V)),σ=[zS (.ref p),zS (.ref n),o]/\ah H H'/\H' n=zS (.dK kvs)/\fh kvs (namesOf ((ak.pieces f).take i))/\kvs.length<=i
theorem FX(h:jG vs H Q E):sy G (ends Q) (start yt vs) H:=by
 let⟨ms,p,f,rfl,dm,⟨ws,hp,pr⟩,tf,k⟩:=h;show sy G (ends Q) [zS (.ref p),zN,zN] H;unfold sy
 nofun
 intro n hn
 nofun
 let⟨hp',npm⟩:=aj hp;have hpn:p≠n:=ay hp' hn;have hwl:ws.length=(ak.pieces f).length:=Paired.nS pr;have hw60:ws.length<=60:=by rw[hwl];exact RO (ak.rZ f) tf.2
 refine qc (xs:=ws) (by rw[ab hpn];exact hp') (QO H p n f) ⟨zN,[],rfl,ah.upd hn,aa,⟨SI,λk=>by simp[namesOf]⟩,Ro _⟩ ?_ ?_ ?_
 .rintro i σ H' _ ⟨_,_,_,s1,_⟩;exact s1 _ _ hp'
 .rintro i x σ H' hx ⟨o,kvs,rfl,s1,hn1,ko,hl⟩;let⟨q,hq,pq⟩:=Paired.nU pr hx;let⟨t,rfl,ht0⟩:=pq;have hi:i<(ak.pieces f).length:=(RE.mp hq).1;have ht:H' t=zS (.tup [.int q.1,.int q.2]):=s1 _ _ (aj ht0).1;have htk:(ak.pieces f).take (i+1)=(ak.pieces f).take i++[q]:=by rw[T1 hi,(RE.mp hq).2]
  have hqm:q∈ak.pieces f:=Rz hq
  nofun
  refine iw 0 rfl ht rfl ?_
  nofun
  by_cases h1:q.1=1
  .rw[ag h1];refine iw 1 rfl ht rfl ?_;let⟨y,_,ey⟩:=(ak.cw f q.2).mp (by rw[<-h1];exact hqm);refine mh hn1 (eu (by omega)) ?_;refine⟨_,_,rfl,ah.put s1 hn,aa,?_,by have:=gt kvs (Rk q.2) (.bl true);omega⟩;have e2:namesOf ((ak.pieces f).take (i+1))=namesOf ((ak.pieces f).take i)++[y]:=by rw[htk];unfold namesOf;rw[Xc];simp[h1,ey]
   rw[e2];show fh (putK kvs (Rk q.2) _) _;rw[ey];exact ko.put y _
  .rw[ae h1];refine⟨_,kvs,rfl,s1,hn1,?_,by omega⟩;have e2:namesOf ((ak.pieces f).take (i+1))=namesOf ((ak.pieces f).take i):=by rw[htk];unfold namesOf;rw[Xc];simp[h1]
   rw[e2];exact ko
 .rintro σ H' ⟨o,kvs,rfl,s1,hn1,ko,hl⟩
  nofun
  refine k H' n kvs s1 hn hn1 (ko.congr λx=>?_);rw[hwl,R9];exact D5
def fP(G:Ga)(I:Hp)(v:V)(f:Formula):Prop:=∃a dx p t n kvs,v=.ref a/\I a=zS (.ins G.CF dx (fF (.ref p) t (.ref n)))/\gZ I p (ak.pieces f)/\eJ I f t/\I n=zS (.dK kvs)/\fh kvs (Ry f)
def fP.mono(s:ah I I')(h:fP G I v f):fP G I' v f:=
 let⟨a,dx,p,t,n,kvs,e,h1,h2,h3,h4,h5⟩:=h
 ⟨a,dx,p,t,n,kvs,e,s _ _ h1,h2.mono s,h3.mono s,s _ _ h4,h5⟩
def cJ(h:x∈ms):cut ms (upd H x o)=cut ms H:=by
 funext b;unfold cut;split
 .rfl
 .rename_i hb;rw[ab (λe=>hb (by rw[e];exact h))]
def kX(G:Ga):Sp:=λvs H Q _=>∃(ms:List Addr)(x dx p:Addr)(f:Formula),vs=[.ref x,.ref p]/\H x=zS (.ins G.CF dx [])/\lu ms H/\x∈ms/\gZ (cut ms H) p (ak.pieces f)/\ak.Told f/\
 ∀H' t n kvs,(∀b o,H b=zS o->b≠x->H' b=zS o)->H' x=zS (.ins G.CF dx (fF (.ref p) t (.ref n)))->eJ (cut ms H') f t->H n=zN->H' n=zS (.dK kvs)->fh kvs (Ry f)->Q .d7 H'
def lu.upd(d:lu ms H):lu ms (L2.upd H x o):=λa m=>by
 by_cases e:a=x
 .subst e;exact⟨o,aa⟩
 .let⟨u,h⟩:=d a m;exact⟨u,by rw[ab e];exact h⟩
def IG(T:Tc G)(h:kX G vs H Q E):vi G jG kW (ends Q) (start Bb vs) H:=by
 let⟨ms,x,dx,p,f,rfl,hx,dm,hxm,hp,tf,k⟩:=h;show vi G _ _ (ends Q) [zS (.ref x),zS (.ref p)] H;unfold vi
 nofun
 refine eR hx T.OH T.tP (by simp) ?_;have e1:kP "pieces" (V.ref p) []=[(("pieces":Str),V.ref p)]:=rfl;rw[e1];refine⟨ms,p,f,rfl,dm.upd,by rw[cJ hxm];exact hp,tf,λH1 t s1 ht=>?_⟩
 nofun
 have hx1:=s1 _ _ aa;refine eR hx1 T.OH T.BC (by simp) ?_;have e2:kP "tree" t [(("pieces":Str),V.ref p)]=[(("pieces":Str),V.ref p),("tree",t)]:=rfl;rw[e2];have dm1:lu ms H1:=(dm.upd (x:=x)).mono s1;have hp1:gZ (cut ms H1) p (ak.pieces f):=(show gZ (cut ms (upd H x _)) p _ by rw[cJ hxm];exact hp).mono (bo s1);refine⟨ms,p,f,rfl,dm1.upd,by rw[cJ hxm];exact hp1,tf,λH2 n kvs s2 hn hn2 ko=>?_⟩
 nofun
 have hx2:=s2 _ _ aa;refine eR hx2 T.OH T.wN (by simp) ?_;have e3:kP "names" (V.ref n) [(("pieces":Str),V.ref p),("tree",t)]=fF (.ref p) t (.ref n):=rfl;rw[e3];have hnx:n≠x:=λe=>by rw[e,aa]at hn;cases hn
 have hk:∀b o,H b=zS o->b≠x->H2 b=zS o:=λb o e nb=>s2 _ _ (by rw[ab nb];exact s1 _ _ (by rw[ab nb];exact e));refine k _ t n kvs (λb o e nb=>by rw[ab nb];exact hk b o e nb) aa ?_ ?_ (by rw[ab hnx];exact hn2) ko
 .rw[cJ hxm];have:eJ (cut ms (upd H1 x (.ins G.CF dx [(("pieces":Str),V.ref p),("tree",t)]))) f t:=by rw[cJ hxm];exact ht
  exact this.mono (bo s2)
 .cases e:H n with
  |none=>rfl
  |some o=>
   have h1:=s1 _ _ (show(upd H x _) n=zS o by rw[ab hnx];exact e);rw[ab hnx,h1]at hn;cases hn
def g7(G:Ga):Sp:=λvs H Q _=>∃(ms:List Addr)(a:Addr)(ns:List Int),vs=[.ref a]/\H a=zS (.lst (iL ns))/\lu ms H/\(S9 ns=zN->∀H',ah H H'->Q .d7 H')/\
 ∀f,S9 ns=zS f->∀H' x,ah H H'->H x=zN->fP G (cut ms H') (.ref x) f->Q (.ref x) H'
def Ct(h:g7 G vs H Q E):nw G (kX G) iO (ends Q) (start ui vs) H:=by
 let⟨ms,a,ns,rfl,ha,dm,q0,q1⟩:=h;show nw G _ _ (ends Q) [zS (.ref a),zN] H;unfold nw
 nofun
 refine⟨ms,a,ns,rfl,ha,dm,λhn H' s1=>?_,λf hf H1 p s1 hp hpc=>?_⟩
 .nofun
  exact q0 hn H' s1
 .nofun
  rw[ae (by simp)];intro x dx nx ndx nex;have ox:ah H1 (upd (upd H1 dx (.own x)) x (.ins G.CF dx [])):=λb o e=>by rw[ab (ay e nx),ab (ay e ndx)];exact e
  have dm1:=dm.mono s1;have xm:x∉ms:=dm1.free nx;have sc:ah (cut ms H1) (cut (x::ms) (upd (upd H1 dx (.own x)) x (.ins G.CF dx []))):=λb o e=>by let⟨e1,e2⟩:=aj e;exact cS (ox _ _ e1) (by simp only[Rn,not_or];exact⟨ay e1 nx,e2⟩)
  refine⟨x::ms,x,dx,p,f,rfl,aa,λb hb=>?_,Rv,hpc.mono sc,(ak.gk hf),λH2 t n kvs kp hx2 ht hn hn2 ko=>⟨rfl,?_⟩⟩
  .obtain e|e:=Rn.mp hb
   .subst e;exact⟨_,aa⟩
   .let⟨o,h⟩:=dm1 b e;exact⟨o,ox _ _ h⟩
  .have s2:ah H1 H2:=λb o e=>kp b o (ox _ _ e) (ay e nx);have nn:n∉ms:=λhm=>by let⟨o,h⟩:=dm1 n hm;rw[ox _ _ h]at hn;cases hn
   refine q1 f hf H2 x (s1.trans s2) (s1.free nx) ⟨x,dx,p,t,n,kvs,rfl,cS hx2 xm,hpc.mono (bo s2),ht.mono λb o e=>?_,cS hn2 nn,ko⟩;let⟨e1,e2⟩:=aj e;exact cS e1 (λhm=>e2 (Rp _ hm))
def dt(l:List Int):(iL l).length=l.length:=Rr ..
def jZ(l:List Nat):(nL l).length=l.length:=Rr ..
structure Bk(H:Hp)(kvs:List (Key×V))(t:ak.wx):Prop where
 yes:∀x l,ak.fS t x=zS l->∃b,aI kvs (Rk (x:Int))=zS (.ref b)/\H b=zS (.lst (iL l))
 no:∀x,ak.fS t x=zN->aI kvs (Rk (x:Int))=zN
 len:∀x l,ak.fS t x=zS l->l.length<=200
def Bk.mono(s:ah H H')(h:Bk H kvs t):Bk H' kvs t:=⟨λx l e=>let⟨b,h1,h2⟩:=h.yes x l e;⟨b,h1,s _ _ h2⟩,h.no,h.len⟩
def jk(G:Ga):Sp:=λvs H Q _=>∃(fa d:Addr)(f:Formula)(kvs:List (Key×V))(t:ak.wx),vs=[.ref fa,.ref d]/\fP G H (.ref fa) f/\ak.Told f/\Rd H d (.dK kvs)/\Bk H kvs t/\
 ∀H' p,ah H H'->H p=zN->H' p=zS (.lst (iL (ak.inl t f)))->Q (.ref p) H'
structure PD(H:Hp)(fa d q:Addr)(f:Formula)(t:ak.wx)(i:Nat)(σ:L2.St)(H':Hp):Prop where
 ex:∃(o3 o4:Option V),σ=[zS (.ref fa),zS (.ref d),zS (.ref q),o3,o4]/\ah H H'/\H' q=zS (.lst (iL (((ak.pieces f).take i).flatMap (ak.qU t))))
def KQ(hl:∀x l,ak.fS t x=zS l->l.length<=200)(q:Piece):(ak.qU t q).length<=200:=by
 unfold ak.qU;split
 .cases e:ak.fS t q.2.toNat with
  |none=>simp
  |some l=>exact hl _ l e
 .split<;>simp
theorem D6(hl:∀x l,ak.fS t x=zS l->l.length<=200):∀ps:List Piece,(ps.flatMap (ak.qU t)).length<=200*ps.length
 |[]=>by simp
 |q::r=>by rw[SR,RH,RG];have:=KQ hl q;have:=D6 hl r;omega
def Rd.same(s:ah H H'){u:HO}(h:Rd H a u):Rd H' a u:=by
 obtain h|⟨o,h⟩:=h
 .exact .inl (s _ _ h)
 .exact .inr ⟨o,s _ _ h⟩
theorem IH(T:Tc G)(h:jk G vs H Q E):vo G cU (ends Q) (start Bf vs) H:=by
 let⟨fa,d,f,kvs,t,rfl,⟨fa',dx,p,tr,n,nk,efa,hfa,⟨ws,hp,pr⟩,_⟩,tf,hd,ia,k⟩:=h;cases efa;show vo G _ (ends Q) [zS (.ref fa),zS (.ref d),zN,zN,zN] H;unfold vo
 nofun
 refine jN (by simp) λq hq=>?_
 nofun
 have s0:ah H (upd H q (.lst [])):=ah.upd hq;refine KO T (s0 _ _ hfa) ?_;have hwl:ws.length=(ak.pieces f).length:=Paired.nS pr;have hw60:(ak.pieces f).length<=60:=RO (ak.rZ f) tf.2;refine qc (xs:=ws) (s0 _ _ hp) (PD H fa d q f t) ⟨zN,zN,rfl,s0,aa⟩ ?_ ?_ ?_
 .rintro i σ H' _ ⟨_,_,_,s1,_⟩;exact s1 _ _ hp
 .rintro i x σ H' hx ⟨o3,o4,rfl,s1,hq1⟩;let⟨pc,hpc,a,rfl,ht0⟩:=Paired.nU pr hx;have hi:i<(ak.pieces f).length:=(RE.mp hpc).1;have ht:H' a=zS (.tup [.int pc.1,.int pc.2]):=s1 _ _ ht0;have htk:(ak.pieces f).take (i+1)=(ak.pieces f).take i++[pc]:=by rw[T1 hi,(RE.mp hpc).2]
  have hpm:pc∈ak.pieces f:=Rz hpc;have hfl:(iL (((ak.pieces f).take i).flatMap (ak.qU t))).length<=12000:=by rw[Rr];have:=D6 ia.len ((ak.pieces f).take i);rw[Sf]at this;omega
  have fin:∀(H2:Hp)(o3 o4:Option V),ah H H2->H2 q=zS (.lst (iL (((ak.pieces f).take i).flatMap (ak.qU t))++iL (ak.qU t pc)))->PD H fa d q f t (i+1) [zS (.ref fa),zS (.ref d),zS (.ref q),o3,o4] H2:=λH2 o3 o4 s2 h2=>by refine⟨o3,o4,rfl,s2,?_⟩;rw[htk,TK,h2];simp
  nofun
  refine f9 ht rfl ?_
  nofun
  by_cases h1:pc.1=1
  .rw[ag h1];let⟨y,_,ey⟩:=(ak.cw f pc.2).mp (by rw[<-h1];exact hpm);refine ow (Rd.same s1 hd) ?_
   nofun
   have ey2:pc.2.toNat=y:=by omega
   cases ht2:ak.fS t y with
   |some l=>
    let⟨b,hb1,hb2⟩:=ia.yes y l ht2;rw[ey,hb1]
    nofun
    rw[ag (by rfl)];refine⟨f8 hq1,?_⟩;refine fE (Rd.same s1 hd) hb1 ?_;refine M3 hq1 (s1 _ _ hb2) (fq (by have:=ia.len y l ht2;rw[dt l];omega)) ?_;refine fin _ _ _ (ah.put s1 hq) ?_;rw[aa];unfold ak.qU;rw[ag h1,ey2,ht2];rfl
   |none=>
    rw[ey,ia.no y ht2]
    nofun
    rw[ae (by simp)];refine⟨pc.1,rfl,?_⟩
    nofun
    rw[ag (.inr h1)];refine⟨f8 hq1,iy (by simp) λt1 ht1=>?_⟩;have hq2:=ah.upd (o:=.tup [.int pc.1,.int (y:Int)]) ht1 _ _ hq1;refine vw hq2 aa (fq (by simp only[RG,W4];omega)) ?_;refine fin _ _ _ (ah.put (s1.trans (ah.upd ht1)) hq) ?_;rw[aa];unfold ak.qU;rw[ag h1,ey2,ht2,ey,h1];rfl
  .rw[ae h1]
   nofun
   refine⟨pc.1,rfl,?_⟩
   nofun
   by_cases h0:pc.1=0
   .rw[ag (.inl h0)];refine⟨f8 hq1,iy (by simp) λt1 ht1=>?_⟩;have hq2:=ah.upd (o:=.tup [.int pc.1,.int pc.2]) ht1 _ _ hq1;refine vw hq2 aa (fq (by simp only[RG,W4];omega)) ?_;refine fin _ _ _ (ah.put (s1.trans (ah.upd ht1)) hq) ?_;rw[aa];unfold ak.qU;rw[ae h1,ag h0,h0];rfl
   .rw[ae (by omega)];refine⟨f8 hq1,yL hq1 (eu (by omega)) ?_⟩;refine fin _ _ _ (ah.put s1 hq) ?_;rw[aa];unfold ak.qU;rw[ae h1,ae h0];rfl
 .rintro σ H' ⟨o3,o4,rfl,s1,hq1⟩
  nofun
  refine k H' q s1 hq ?_;rw[hq1,hwl,R9,ak.jb]
end
variable{rf:List (Key×V)}{l:List Nat}{j n:Nat}{e:Nat->Option Nat}
section
variable{G:Ga}{vs:List V}{H:Hp}{Q:VK}{E:XK}
theorem KR{a:Addr}{xs:List V}{v:V}{R:Hp->Prop}(h:H a=zS (.lst xs))(hj:j<xs.length)(q:R (upd H a (.lst (xs.set j v)))):GK (.ref a) (.int (j:Int)) v H R:=by refine⟨a,xs,_,j,rfl,rfl,h,?_,q⟩;unfold MN;rw[ag (by omega),ag (by omega)];simp
structure dM(rf:List (Key×V))(n:Nat)(e:Nat->Option Nat):Prop where
 nd:(rf.map (·.1)).Nodup
 key:∀k∈rf.map (·.1),∃j:Nat,j<n/\k=Rk (j:Int)
 val:∀j,j<n->aI rf (Rk (j:Int))=(e j).map λ(k:Nat)=>V.int (k:Int)
def dM.congr{e':Nat->Option Nat}(h:dM rf n e)(he:∀j,j<n->e j=e' j):dM rf n e':=⟨h.nd,h.key,λj hj=>by rw[<-he j hj];exact h.val j hj⟩
def dM.nil(n:Nat):dM [] n λ_=>zN:=⟨SI,λk h=>by simp at h,λj _=>rfl⟩
theorem uA:∀(n:Nat)(l:List Nat),l.Nodup->(∀x∈l,x<n)->l.length<=n
 |0,l,_,h=>by
  cases l with
  |nil=>simp
  |cons a r=>exact absurd (h a Rv) (by omega)
 |n+1,l,nd,h=>by
  have ih:=uA n (l.erase n) (nd.erase n) λx hx=>by have h1:=(nd.mem_erase_iff.mp hx);have h2:=h x h1.2;have h3:=h1.1;omega
  by_cases hm:n∈l
  .rw[List.length_erase_of_mem hm]at ih;omega
  .rw[List.erase_of_not_mem hm]at ih;omega
def lL(nd:l.Nodup)(h:∀x∈l,x<n):l.length<=n:=uA n l nd h
theorem FY(nd:l.Nodup)(h:∀x∈l,x<n)(hl:l.length=n)(hj:j<n):j∈l:=by
 by_cases hm:j∈l
 .exact hm
 .have:=lL (l:=j::l) (RK.mpr ⟨hm,nd⟩) (n:=n) λx hx=>by
   obtain e|e:=Rn.mp hx
   .subst e;exact hj
   .exact h x e
  rw[RG]at this;omega
def dM.M6(h:dM rf n e):∃l:List Nat,l.Nodup/\(∀x∈l,x<n)/\rf.map (·.1)=l.map λ(j:Nat)=>(Rk (j:Int):Key):=by
 have:∀{ks:List Key},ks.Nodup->(∀k∈ks,∃j:Nat,j<n/\k=Rk (j:Int))->∃l:List Nat,l.Nodup/\(∀x∈l,x<n)/\ks=l.map λ(j:Nat)=>(Rk (j:Int):Key):=by
  intro ks
  induction ks with
  |nil=>intro _ _;exact⟨[],SI,by simp,rfl⟩
  |cons k r ih=>
   intro nd hk;let⟨l,l1,l2,l3⟩:=ih (RK.mp nd).2 λk hk'=>hk k (Rp _ hk');let⟨j,hj,rfl⟩:=hk k Rv;refine⟨j::l,RK.mpr ⟨λhm=>(RK.mp nd).1 ?_,l1⟩,?_,by rw[l3];rfl⟩
   .rw[l3];exact Rm.mpr ⟨j,hm,rfl⟩
   .intro x hx;obtain e|e:=Rn.mp hx
    .subst e;exact hj
    .exact l2 x e
 exact this h.nd h.key
def dM.len(h:dM rf n e):rf.length<=n:=by
 let⟨l,l1,l2,l3⟩:=h.M6;have:rf.length=l.length:=by have:=congrArg UI l3;simpa using this
 rw[this];exact lL l1 l2
def dM.zero(h:dM rf n e)(h0:rf.length=0)(hj:j<n):e j=zN:=by
 have:=h.val j hj;rw[V7.mp h0]at this
 cases e2:e j with
 |none=>rfl
 |some k=>rw[e2]at this;cases this
def dM.full(h:dM rf n e)(hn:rf.length=n)(hj:j<n):∃k,e j=zS k:=by
 let⟨l,l1,l2,l3⟩:=h.M6;have hl:l.length=n:=by have:=congrArg UI l3;rw[<-hn];simpa using this.symm
 have hm:j∈l:=FY l1 l2 hl hj;have hk:(Rk (j:Int):Key)∈rf.map (·.1):=by rw[l3];exact Rm.mpr ⟨j,hm,rfl⟩
 have hv:=mM.mpr hk;rw[h.val j hj]at hv
 cases e2:e j with
 |none=>rw[e2]at hv;cases hv
 |some k=>exact⟨k,rfl⟩
def kindOf:Res->Option Nat
 | .ok _=>zN
 | .error k=>zS k
def kindAt(rs:List Res)(j:Nat):Option Nat:=rs[j]?.bind kindOf
structure PF(nums:List Int)(lo hi:Int)(rf:List (Key×V))(rs:List Res):Prop where
 len:nums.length=rs.length
 l1: -1000000000000<=lo/\lo<=1000000000000
 h1: -1000000000000<=hi/\hi<=1000000000000
 Hh:∀x∈nums,lo<=x/\x<=hi
 ref:dM rf rs.length (kindAt rs)
 val:∀(j:Nat)(v:Int),rs[j]?=zS (Except.ok v)->nums[j]?=zS v
def f_(G:Ga)(I:Hp)(x:V)(rs:List Res):Prop:=∃a dx n r nums lo hi rf,x=.ref a/\I a=zS (.ins G.CC dx (fC (.ref n) (.int lo) (.int hi) (.ref r)))/\I n=zS (.lst (iL nums))/\I r=zS (.dK rf)/\PF nums lo hi rf rs
def f_.mono{I I':Hp}(s:ah I I'){x:V}{rs:List Res}(h:f_ G I x rs):f_ G I' x rs:=
 let⟨a,dx,n,r,nums,lo,hi,rf,e,h1,h2,h3,h4⟩:=h
 ⟨a,dx,n,r,nums,lo,hi,rf,e,s _ _ h1,s _ _ h2,s _ _ h3,h4⟩
def aV(G:Ga):Sp:=λvs H Q _=>∃(x dx:Addr)(n l h r:V),vs=[.ref x,n,l,h,r]/\H x=zS (.ins G.CC dx [])/\∀H',(∀b o,H b=zS o->b≠x->H' b=zS o)->H' x=zS (.ins G.CC dx (fC n l h r))->Q .d7 H'
def KS(T:Tc G)(h:aV G vs H Q E):yp G (ends Q) (start DK vs) H:=by
 let⟨x,dx,n,l,hh,r,rfl,hx,k⟩:=h;show yp G (ends Q) [zS (.ref x),zS n,zS l,zS hh,zS r] H;unfold yp
 nofun
 refine eR hx T.M4 T.qA (by simp) ?_;refine eR aa T.M4 T.Gu (by show 1<1000;decide) ?_;refine eR aa T.M4 T.BD (by show 2<1000;decide) ?_;refine eR aa T.M4 T.m5 (by show 3<1000;decide) ?_;exact k _ (λb o e nb=>by rw[ab nb,ab nb,ab nb,ab nb];exact e) aa
def rV{n l h r:V}(q:∀H' x dx,ah H H'->H x=zN->H' x=zS (.ins G.CC dx (fC n l h r))->Q (.ref x) H'):Bj G.CC (aV G) [n,l,h,r] H Q:=by intro x dx nx ndx nex;refine⟨x,dx,n,l,h,r,rfl,aa,λH' kp hx=>⟨rfl,q H' x dx (ah.made nx ndx kp) nx hx⟩⟩
def inR{z:Int}:RD z=true<-> -1000000000000<=z/\z<=1000000000000:=ak.jy
def fH(G:Ga):Sp:=λvs H Q _=>∃(ms:List Addr)(n r:Addr)(nums:List Int)(rf:List (Key×V))(rs:List Res),vs=[.ref n,.ref r]/\lu ms H/\cut ms H n=zS (.lst (iL nums))/\cut ms H r=zS (.dK rf)/\
 0<nums.length/\(∀x∈nums,RD x=true)/\nums.length=rs.length/\dM rf rs.length (kindAt rs)/\(∀(j:Nat)(v:Int),rs[j]?=zS (Except.ok v)->nums[j]?=zS v)/\∀H' x,ah H H'->H x=zN->f_ G (cut ms H') (.ref x) rs->Q (.ref x) H'
def FZ(h:fH G vs H Q E):sE G (aV G) (ends Q) (start yx vs) H:=by
 let⟨ms,n,r,nums,rf,rs,rfl,dm,hn,hr,h0,hv,hl,ro,hj,k⟩:=h;show sE G _ (ends Q) [zS (.ref n),zS (.ref r)] H;unfold sE
 nofun
 refine Pw (aj hn).1 h0 λlo lo1 lo2=>Px (aj hn).1 h0 λhi hi1 hi2=>rV λH' x dx s1 nx hx=>?_;exact k H' x s1 nx ⟨x,dx,n,r,nums,lo,hi,rf,rfl,bz dm nx hx,bo s1 _ _ hn,bo s1 _ _ hr,hl,inR.mp (hv lo lo1),inR.mp (hv hi hi1),λy hy=>⟨lo2 y hy,hi2 y hy⟩,ro,hj⟩
def cq(G:Ga):Sp:=λvs H Q _=>∃(ms:List Addr)(z:Int)(m:Nat),vs=[.int z,.int m]/\lu ms H/\RD z=true/\m<=30000/\∀H' x,ah H H'->H x=zN->f_ G (cut ms H') (.ref x) (Sr m (Except.ok z))->Q (.ref x) H'
theorem uB(h:cq G vs H Q E):iP G (aV G) (ends Q) (start lI vs) H:=by
 let⟨ms,z,m,rfl,dm,hz,hm,k⟩:=h;show iP G _ (ends Q) [zS (.int z),zS (.int m)] H;unfold iP
 nofun
 refine jN (by simp) λl hl=>?_;refine⟨l,m,_,rfl,rfl,aa,by omega,by omega,fq (by simp;omega),λn hn=>?_⟩;intro d hd;refine rV λH' x dx s1 nx hx=>?_;have s0:ah H (upd (upd (upd H l (.lst [.int z])) n (.lst (Sr (m:Int).toNat [V.int z]).flatten)) d (.dK [])):=(ah.upd hl).trans ((ah.upd hn).trans (ah.upd hd));have e1:(Sr (m:Int).toNat [V.int z]).flatten=iL (Sr m z):=by simp[iL]
 have hnd:n≠d:=ay aa hd;have hn1:=s1 _ _ (show _=zS _ by rw[ab hnd,aa]);have hd1:=s1 _ _ (aa (H:=upd (upd H l (.lst [.int z])) n (.lst (Sr (m:Int).toNat [V.int z]).flatten)) (a:=d));rw[e1]at hn1;have fr:∀{b:Addr},(upd H l (.lst [.int z])) b=zN->H b=zN:=λh=>(ah.upd hl).free h;have fn:H n=zN:=(ah.upd hl).free hn;have fd:H d=zN:=((ah.upd hl).trans (ah.upd hn)).free hd;refine k H' x (s0.trans s1) (s0.free nx) ⟨x,dx,n,d,Sr m z,z,z,[],rfl,bz dm (s0.free nx) hx,bz dm fn hn1,bz dm fd hd1,by simp,inR.mp hz,inR.mp hz,λy hy=>?_,?_,λj v hv=>?_⟩
 .rw[(List.mem_replicate.mp hy).2];omega
 .refine(dM.nil _).congr λj hj=>?_;unfold kindAt;simp at hj;simp[WU,hj,kindOf]
 .rw[WU]at hv⊢;split at hv
  .cases hv;rename_i hlt;rw[ag hlt]
  .cases hv
end
variable{x:Int}{i:Nat}
section
variable{G:Ga}{vs:List V}{H:Hp}{Q:VK}{E:XK}
def eF:Sp:=λvs H Q _=>∃(l:Addr)(kind n:Nat)(ks:List Nat),vs=[.ref l,.int kind]/\H l=zS (.lst (nL ks))/\ks.length<=30000/\(∀k∈ks,k<n)/\
 ∀H' d rf,ah H H'->H d=zN->H' d=zS (.dK rf)->dM rf n (λj=>if j∈ks then zS kind else zN)->Q (.ref d) H'
structure QP(H:Hp)(l d:Addr)(kind n:Nat)(ks:List Nat)(i:Nat)(σ:L2.St)(H':Hp):Prop where
 ex:∃(o:Option V)(rf:List (Key×V)),σ=[zS (.ref l),zS (.int kind),zS (.ref d),o]/\ah H H'/\H' d=zS (.dK rf)/\dM rf n (λj=>if j∈ks.take i then zS kind else zN)/\rf.length<=i
def KU{ks:List Nat}{x:V}(h:(nL ks)[i]?=zS x):∃k,ks[i]?=zS k/\x=.int (k:Int):=by have h:(ks.map λ(n:Nat)=>V.int (n:Int))[i]?=zS x:=h;rw[RW]at h;let⟨k,h1,h2⟩:=To.mp h;exact⟨k,h1,h2.symm⟩
def take_snoc{α:Type}{l:List α}{x:α}(h:l[i]?=zS x):l.take (i+1)=l.take i++[x]:=by let⟨hi,e⟩:=RE.mp h;rw[T1 hi,e]
theorem Cu(h:eF vs H Q E):nD G (ends Q) (start ul vs) H:=by
 let⟨l,kind,n,ks,rfl,hl,hz,hk,k⟩:=h;show nD G (ends Q) [zS (.ref l),zS (.int kind),zN,zN] H;unfold nD
 nofun
 intro d hd
 nofun
 refine qc (xs:=nL ks) (ah.upd hd _ _ hl) (QP H l d kind n ks) ⟨zN,[],rfl,ah.upd hd,aa,(dM.nil n).congr λj _=>by simp,Ro _⟩ ?_ ?_ ?_
 .rintro i σ H' _ ⟨_,_,_,s1,_⟩;exact s1 _ _ hl
 .rintro i x σ H' hx ⟨o,rf,rfl,s1,hd1,ro,hrl⟩;let⟨j,hj,rfl⟩:=KU hx;have hi:i<ks.length:=(RE.mp hj).1;have hjn:j<n:=hk j (Rz hj)
  nofun
  refine mh hd1 (eu (by omega)) ?_;refine⟨_,_,rfl,ah.put s1 hd,aa,⟨mN ro.nd,λk hk'=>?_,λj' hj'=>?_⟩,by have:=gt rf (Rk (j:Int)) (.int kind);omega⟩
  .obtain h1|h1:=qN.mp hk'
   .exact ro.key k h1
   .exact⟨j,hjn,h1⟩
  .rw[fU,take_snoc hj];by_cases e:j'=j
   .subst e;rw[ag rfl,ag (by simp)];rfl
   .rw[ae (λz=>e (by injection z with z;omega)),ro.val j' hj'];simp[e]
 .rintro σ H' ⟨o,rf,rfl,s1,hd1,ro,hrl⟩
  nofun
  refine k H' d rf s1 hd hd1 ?_;rw[jZ,R9]at ro;exact ro
def bL(G:Ga):Sp:=λvs H Q _=>∃(ms:List Addr)(n:Addr)(nums:List Int)(lo hi:Int),vs=[.ref n,.int lo,.int hi]/\lu ms H/\cut ms H n=zS (.lst (iL nums))/\0<nums.length/\nums.length<=30000/\
 (∀x∈nums,lo<=x/\x<=hi)/\∀H' x,ah H H'->H x=zN->f_ G (cut ms H') (.ref x) (nums.map Tj)->Q (.ref x) H'
structure QQ(H:Hp)(n l c:Addr)(nums:List Int)(ks:List Nat)(lo hi:Int)(i:Nat)(σ:L2.St)(H':Hp):Prop where
 ex:∃(o5 o6:Option V)(m:List Int),σ=[zS (.ref n),zS (.int lo),zS (.int hi),zS (.ref l),zS (.ref c),o5,o6]/\ah H H'/\H' l=zS (.lst (nL ks))/\H' c=zS (.lst (iL m))/\m.length=nums.length/\∀j:Nat,m[j]?=if j∈ks.take i then zS 0 else nums[j]?
def kK(h:RD x=true):Tj x=.ok x:=by unfold Tj;rw[ag h]
def D7(h:¬RD x=true):Tj x=.error 2:=by unfold Tj;rw[ae h]
def Of(m:List Int)(j:Nat)(z:Int):(iL m).set j (.int z)=iL (m.set j z):=by simp[iL,List.map_set]
theorem yP(h:bL G vs H Q E):k0 G (aV G) bJ (fH G) eF (ends Q) (start kZ vs) H:=by
 let⟨ms,n,nums,lo,hi,rfl,dm,hn,h0,hz,hr,k⟩:=h;show k0 G _ _ _ _ (ends Q) [zS (.ref n),zS (.int lo),zS (.int hi),zN,zN,zN,zN] H;unfold k0;have hn':=(aj hn).1
 nofun
 refine⟨lo,rfl,?_⟩
 nofun
 by_cases hb:RD lo=true/\RD hi=true
 .rw[ag hb.1];refine⟨hi,rfl,?_⟩
  nofun
  rw[ag hb.2];intro d hd;refine rV λH' x dx s1 nx hx=>?_;have s0:ah H (upd H d (.dK [])):=ah.upd hd;have l1:=inR.mp hb.1;have l2:=inR.mp hb.2;refine k H' x (s0.trans s1) (s0.free nx) ⟨x,dx,n,d,nums,lo,hi,[],rfl,bz dm (s0.free nx) hx,bo (s0.trans s1) _ _ hn,bz dm hd (s1 _ _ aa),by simp,l1,l2,hr,?_,λj v hv=>?_⟩
  .refine(dM.nil _).congr λj hj=>?_;rw[Rr]at hj;unfold kindAt;rw[RW,RC hj,SN,SX,kK (inR.mpr (by have:=hr _ (Va hj);omega))];rfl
  .rw[RW]at hv;let⟨y,h1,h2⟩:=To.mp hv;rw[kK (inR.mpr (by have:=hr y (Rz h1);omega))]at h2;cases h2;exact h1
 .have hc:(RD lo=true/\¬RD hi=true)\/¬RD lo=true:=by
   by_cases h1:RD lo=true
   .exact .inl ⟨h1,λh2=>hb ⟨h1,h2⟩⟩
   .exact .inr h1
  obtain⟨h1,h2⟩|h1:=hc
  case' inl=>
   rw[ag h1];refine⟨hi,rfl,?_⟩
   nofun
   rw[ae h2]
  case' inr=>rw[ae h1]
  all_goals
   refine DZ (p:=λx=> !Vanbkj.inRange x) hn' (by omega) (λi x T H' R R0 hT q1 q0=>?_) λH1 l s1 hl hl1=>?_
   .nofun
    refine f9 hT rfl ?_
    nofun
    have e:RD x=(decide (-1000000000000<=x)&&decide (x<=1000000000000)):=rfl;by_cases c1: -1000000000000<=x
    .rw[ag c1];by_cases c2:x<=1000000000000
     .rw[ae (by omega)];exact q0 (by simp[e,c1,c2])
     .rw[ag c2];exact q1 (by simp[e,c1,c2])
    .rw[ae c1];exact q1 (by simp[e,c1])
   .refine Mq (s1 _ _ hn') λc hc'=>?_;have s2:ah H1 (upd H1 c (.lst (iL nums))):=ah.upd hc';have s02:=s1.trans s2;have hlc:l≠c:=ay hl1 hc';have hcf:H c=zN:=s1.free hc';generalize hks:(RM nums.length).filter (λi=> !Vanbkj.inRange (nums.getD i 0))=ks at hl1;have kmem:∀j,j∈ks<->∃x,nums[j]?=zS x/\¬RD x=true:=λj=>by
     rw[<-hks,Sn,S7];constructor
     .rintro⟨h1,h2⟩;refine⟨nums[j],RC h1,?_⟩;simpa [Sx,h1]using h2
     .rintro⟨x,h1,h2⟩;let⟨h3,h4⟩:=RE.mp h1;refine⟨h3,?_⟩;simp[Sx,h3,h4];simpa using h2
    have hkl:ks.length<=30000:=by rw[<-hks];exact RO (Th _ _) (by rw[TM];exact hz)
    refine qc (xs:=nL ks) (s2 _ _ hl1) (QQ H n l c nums ks lo hi) ⟨zN,zN,nums,rfl,s02,s2 _ _ hl1,aa,rfl,λj=>by simp⟩ ?_ ?_ ?_
    .rintro i σ H' _ ⟨_,_,_,_,_,h4,_⟩;exact h4
    .rintro i x σ H' hx ⟨o5,o6,m,rfl,s3,hl3,hc3,hm,hj⟩;let⟨j,hj2,rfl⟩:=KU hx;have hjm:=(kmem j).mp (Rz hj2);let⟨y,hy,_⟩:=hjm;have hjl:j<m.length:=by rw[hm];exact(RE.mp hy).1
     nofun
     refine KR hc3 (by rw[dt];exact hjl) ?_;rw[Of];refine⟨_,_,m.set j 0,rfl,ah.put s3 hcf,by rw[ab hlc];exact hl3,aa,by rw[WY];exact hm,λj'=>?_⟩;rw[take_snoc hj2,List.getElem?_set];by_cases e:j=j'
     .subst e;rw[ag rfl,ag hjl,ag (by simp)]
     .rw[ae e,hj j'];have:(j'∈ks.take i++[j])<->j'∈ks.take i:=by simp;intro z;exact absurd z.symm e
      simp only[this]
    .rintro σ H' ⟨o5,o6,m,rfl,s3,hl3,hc3,hm,hj⟩;rw[jZ,R9]at hj
     nofun
     refine⟨l,2,nums.length,ks,rfl,hl3,hkl,λk hk=>?_,λH4 d rf s4 hd hd4 ro=>?_⟩
     .let⟨x,h1,_⟩:=(kmem k).mp hk;exact(RE.mp h1).1
     .have sz:(nums.map Tj).length=nums.length:=Rr ..;have ck:∀j,j<nums.length->(if j∈ks then zS 2 else zN)=kindAt (nums.map Tj) j:=λj hjl=>by
       unfold kindAt;rw[RW,RC hjl,SN,SX];by_cases hin:RD nums[j]=true
       .rw[kK hin,ae (λhm=>?_)]
        .rfl
        .let⟨x,h1,h2⟩:=(kmem j).mp hm;rw[RC hjl]at h1;cases h1;exact h2 hin
       .rw[D7 hin,ag ((kmem j).mpr ⟨_,RC hjl,hin⟩)];rfl
      have hin:∀x∈m,RD x=true:=λx hx=>by
       let⟨j,hj'⟩:=TJ.mp hx;rw[hj j]at hj';split at hj'
       .cases hj';decide
       .rename_i hnk;by_cases hin:RD x=true
        .exact hin
        .exact absurd ((kmem j).mpr ⟨x,hj',hin⟩) hnk
      refine⟨ms,c,d,m,rf,nums.map Tj,rfl,dm.mono (s3.trans s4),bz dm hcf (s4 _ _ hc3),bz dm (s3.free hd) hd4,by omega,hin,by rw[sz];exact hm,by rw[sz];exact ro.congr ck,λj v hv=>?_,λH5 x s5 nx cx=>?_⟩
      .rw[RW]at hv;let⟨y,h1,h2⟩:=To.mp hv;by_cases hin:RD y=true
       .rw[kK hin]at h2;cases h2;rw[hj j,ae (λhm=>?_)]
        .exact h1
        .let⟨x,h3,h4⟩:=(kmem j).mp hm;rw[h1]at h3;cases h3;exact h4 hin
       .rw[D7 hin]at h2;cases h2
      .exact k H5 x ((s3.trans s4).trans s5) ((s3.trans s4).free nx) cx
end
variable{a b:Int}
section
variable{G:Ga}{vs:List V}{H:Hp}{Q:VK}{E:XK}
def M7(G:Ga)(I:Hp)(x:V)(nums:List Int)(lo hi:Int):Prop:=∃a dx n r,x=.ref a/\I a=zS (.ins G.CC dx (fC (.ref n) (.int lo) (.int hi) (.ref r)))/\I n=zS (.lst (iL nums))/\(∀y∈nums,lo<=y/\y<=hi)/\(-1000000000000<=lo/\lo<=1000000000000)/\(-1000000000000<=hi/\hi<=1000000000000)
def fQ(G:Ga)(o:Op):Sp:=λvs H Q _=>∃(ms:List Addr)(x y:V)(n1 n2:List Int)(l1 h1 l2 h2:Int),vs=[x,y]/\lu ms H/\M7 G (cut ms H) x n1 l1 h1/\M7 G (cut ms H) y n2 l2 h2/\n1.length=n2.length/\0<n1.length/\n1.length<=30000/\
 ∀H' x,ah H H'->H x=zN->f_ G (cut ms H') (.ref x) (SS (Ur o) n1 n2)->Q (.ref x) H'
def mO{α β γ:Type}{f:α->β->γ}{x:γ}:∀{l:List α}{m:List β},x∈SS f l m->∃a∈l,∃b∈m,x=f a b
 |[],_,h=>by simp at h
 |_::_,[],h=>by simp at h
 |a::l,b::m,h=>by
  rw[List.zipWith_cons_cons]at h;obtain e|e:=Rn.mp h
  .exact⟨a,Rv,b,Rv,e⟩
  .let⟨a',h1,b',h2,h3⟩:=mO e;exact⟨a',Rp _ h1,b',Rp _ h2,h3⟩
def yQ{α β γ δ:Type}(g:γ->δ)(f:α->β->γ)(l:List α)(m:List β):(SS f l m).map g=SS (λa b=>g (f a b)) l m:=by rw[List.map_zipWith]
theorem Og(T:Tc G)(h:fQ G .add vs H Q E):FO G (bL G) (ends Q) (start FN vs) H:=by
 let⟨ms,x,y,n1,n2,l1,h1,l2,h2,rfl,dm,⟨a,dx,an,ar,rfl,ha,han,ra,la,ha2⟩,⟨b,dy,bn,br,rfl,hb,hbn,rb,lb,hb2⟩,hl,h0,hz,k⟩:=h;show FO G _ (ends Q) [zS (.ref a),zS (.ref b),zN,zN,zN] H;unfold FO
 nofun
 refine bh T (aj ha).1 (bh T (aj hb).1 ?_);refine lK (F:=λx y=>x+y) (aj han).1 (aj hbn).1 hl (by omega) (λx y t H' R R0 ht _ _ q=>?_) λH1 p s1 hp hp1=>?_
 .nofun
  refine f9 ht rfl ?_
  nofun
  exact q
 .refine j7 T (s1 _ _ (aj ha).1) (j7 T (s1 _ _ (aj hb).1) ?_)
  nofun
  refine gS T (s1 _ _ (aj ha).1) (gS T (s1 _ _ (aj hb).1) ?_)
  nofun
  refine⟨ms,p,_,_,_,rfl,dm.mono s1,bz dm hp hp1,by simp;omega,by simp;omega,λz hz=>?_,λH2 x s2 nx cx=>k H2 x (s1.trans s2) (s1.free nx) ?_⟩
  .let⟨u,hu,w,hw,rfl⟩:=mO hz;have:=ra u hu;have:=rb w hw;omega
  .rw[yQ]at cx;exact cx
theorem Oh(T:Tc G)(h:fQ G .sub vs H Q E):FQ G (bL G) (ends Q) (start FP vs) H:=by
 let⟨ms,x,y,n1,n2,l1,h1,l2,h2,rfl,dm,⟨a,dx,an,ar,rfl,ha,han,ra,la,ha2⟩,⟨b,dy,bn,br,rfl,hb,hbn,rb,lb,hb2⟩,hl,h0,hz,k⟩:=h;show FQ G _ (ends Q) [zS (.ref a),zS (.ref b),zN,zN,zN] H;unfold FQ
 nofun
 refine bh T (aj ha).1 (bh T (aj hb).1 ?_);refine lK (F:=λx y=>x-y) (aj han).1 (aj hbn).1 hl (by omega) (λx y t H' R R0 ht _ _ q=>?_) λH1 p s1 hp hp1=>?_
 .nofun
  refine f9 ht rfl ?_
  nofun
  exact q
 .refine j7 T (s1 _ _ (aj ha).1) (gS T (s1 _ _ (aj hb).1) ?_)
  nofun
  refine gS T (s1 _ _ (aj ha).1) (j7 T (s1 _ _ (aj hb).1) ?_)
  nofun
  refine⟨ms,p,_,_,_,rfl,dm.mono s1,bz dm hp hp1,by simp;omega,by simp;omega,λz hz=>?_,λH2 x s2 nx cx=>k H2 x (s1.trans s2) (s1.free nx) ?_⟩
  .let⟨u,hu,w,hw,rfl⟩:=mO hz;have:=ra u hu;have:=rb w hw;omega
  .rw[yQ]at cx;exact cx
theorem yR{l h:Int}(h1:l<=a)(h2:a<=h):(l*b<=a*b/\a*b<=h*b)\/(h*b<=a*b/\a*b<=l*b):=by
 by_cases hb:0<=b
 .exact .inl ⟨YT h1 hb,YT h2 hb⟩
 .exact .inr ⟨YU h2 (by omega),YU h1 (by omega)⟩
theorem Mr{l1 h1 l2 h2:Int}(a1:l1<=a)(a2:a<=h1)(b1:l2<=b)(b2:b<=h2):(∀m,(∀y∈[l1*l2,l1*h2,h1*l2,h1*h2],m<=y)->m<=a*b)/\∀m,(∀y∈[l1*l2,l1*h2,h1*l2,h1*h2],y<=m)->a*b<=m:=by
 have e1:=yR (b:=b) a1 a2;have f1:=yR (b:=l1) b1 b2;have f2:=yR (b:=h1) b1 b2;rw[TH l2 l1,TH b l1,TH h2 l1]at f1;rw[TH l2 h1,TH b h1,TH h2 h1]at f2;refine⟨λm hm=>?_,λm hm=>?_⟩
 .have m1:=hm (l1*l2) (by simp);have m2:=hm (l1*h2) (by simp);have m3:=hm (h1*l2) (by simp);have m4:=hm (h1*h2) (by simp);omega
 .have m1:=hm (l1*l2) (by simp);have m2:=hm (l1*h2) (by simp);have m3:=hm (h1*l2) (by simp);have m4:=hm (h1*h2) (by simp);omega
theorem KW{i j:Int}(h: -1000000000000<=i/\i<=1000000000000):wB i j:=.inl ⟨by omega,by omega⟩
theorem Ms(T:Tc G)(h:fQ G .mul vs H Q E):Cc G (bL G) (ends Q) (start Cb vs) H:=by
 let⟨ms,x,y,n1,n2,l1,h1,l2,h2,rfl,dm,⟨a,dx,an,ar,rfl,ha,han,ra,la,ha2⟩,⟨b,dy,bn,br,rfl,hb,hbn,rb,lb,hb2⟩,hl,h0,hz,k⟩:=h;show Cc G _ (ends Q) [zS (.ref a),zS (.ref b),zN,zN,zN,zN] H;unfold Cc
 nofun
 refine bh T (aj ha).1 (bh T (aj hb).1 ?_);refine lK (F:=λx y=>x*y) (aj han).1 (aj hbn).1 hl (by omega) (λx y t H' R R0 ht hx _ q=>?_) λH1 p s1 hp hp1=>?_
 .nofun
  refine f9 ht rfl ?_
  nofun
  exact⟨KW (by have:=ra x hx;omega),q⟩
 .have A:=s1 _ _ (aj ha).1;have B:=s1 _ _ (aj hb).1;refine j7 T A (j7 T B ?_)
  nofun
  refine⟨KW la,j7 T A (gS T B ?_)⟩
  nofun
  refine⟨KW la,gS T A (j7 T B ?_)⟩
  nofun
  refine⟨KW ha2,gS T A (gS T B ?_)⟩
  nofun
  refine⟨KW ha2,iy (by simp) λt ht=>?_⟩;have s2:ah H1 (upd H1 t (.tup [.int (l1*l2),.int (l1*h2),.int (h1*l2),.int (h1*h2)])):=ah.upd ht;refine Ob (ns:=[l1*l2,l1*h2,h1*l2,h1*h2]) aa (by simp) λlo _ lo2=>Oc (ns:=[l1*l2,l1*h2,h1*l2,h1*h2]) aa (by simp) λhi _ hi2=>?_;have s02:=s1.trans s2;refine⟨ms,p,_,_,_,rfl,dm.mono s02,bz dm hp (s2 _ _ hp1),by simp;omega,by simp;omega,λz hz=>?_,λH2 x s3 nx cx=>k H2 x (s02.trans s3) (s02.free nx) ?_⟩
  .let⟨u,hu,w,hw,rfl⟩:=mO hz;have r1:=ra u hu;have r2:=rb w hw;have c:=Mr r1.1 r1.2 r2.1 r2.2;exact⟨c.1 lo lo2,c.2 hi hi2⟩
  .rw[yQ]at cx;exact cx
end
variable{j:Nat}
section
variable{G:Ga}{vs:List V}{H:Hp}{Q:VK}{E:XK}
theorem II{v w F:Int}(h1: -F<=v)(h2:v<=F)(hw:w≠0): -F<=Tf v w/\Tf v w<=F:=by
 have hF:0<=F:=by omega
 obtain h|h:=Xl hw
 .have e:Tf v w=Tf (-v) (-w):=(Xm v w).symm;rw[e,Uy _ (by omega)];have p:0< -w:=by omega
  constructor
  .exact(U8 p).mpr (by have: -F* -w<= -F*1:=VC (by omega) (by omega);omega)
  .exact VD p (by have:F*1<=F* -w:=VE (by omega) (by omega);omega)
 .rw[Uy _ (by omega)];constructor
  .exact(U8 h).mpr (by have: -F*w<= -F*1:=VC (by omega) (by omega);omega)
  .exact VD h (by have:F*1<=F*w:=VE (by omega) (by omega);omega)
def zip_get{α β γ:Type}{f:α->β->γ}{l:List α}{m:List β}{z:γ}(h:(SS f l m)[j]?=zS z):∃a b,l[j]?=zS a/\m[j]?=zS b/\z=f a b:=by
 rw[YV]at h;split at h
 .cases h;exact⟨_,_,by assumption,by assumption,rfl⟩
 .cases h
def yS{α β γ:Type}{f:α->β->γ}{l:List α}{m:List β}{a:α}{b:β}(h1:l[j]?=zS a)(h2:m[j]?=zS b):(SS f l m)[j]?=zS (f a b):=by rw[YV,h1,h2]
theorem IJ(T:Tc G)(h:fQ G .div vs H Q E):vq G (aV G) eF (ends Q) (start qL vs) H:=by
 let⟨ms,x,y,n1,n2,l1,h1,l2,h2,rfl,dm,⟨a,dx,an,ar,rfl,ha,han,ra,la,ha2⟩,⟨b,dy,bn,br,rfl,hb,hbn,rb,lb,hb2⟩,hl,h0,hz,k⟩:=h;show vq G _ _ (ends Q) [zS (.ref a),zS (.ref b),zN,zN,zN,zN,zN,zN,zN] H;unfold vq
 nofun
 refine bh T (aj ha).1 (bh T (aj hb).1 ?_);refine lK (F:=λx y=>if y≠0 then x.fdiv y else 0) (aj han).1 (aj hbn).1 hl (by omega) (λx y t H' R R0 ht hx hy q=>?_) λH1 p s1 hp hp1=>?_
 .nofun
  refine f9 ht rfl ?_
  nofun
  by_cases e:y=0
  .rw[ae (by simp[e])];rw[ae (by simp[e])]at q;exact q
  .rw[ag (by simpa using e)];rw[ag e]at q;exact⟨⟨e,by have:=rb y hy;omega⟩,q⟩
 .have A:=s1 _ _ (aj ha).1;have B:=s1 _ _ (aj hb).1;refine bh T B ?_;refine DZ (p:=λy=>decide (y=0)) (s1 _ _ (aj hbn).1) (by omega) (λi x t H' R R0 ht q1 q0=>?_) λH2 l s2 hl2 hl3=>?_
  .nofun
   refine f9 ht rfl ?_
   nofun
   by_cases e:x=0
   .rw[ag e];exact q1 (by simp[e])
   .rw[ae e];exact q0 (by simp[e])
  .have s02:=s1.trans s2;refine j7 T (s2 _ _ A) ⟨l1,rfl,gS T (s2 _ _ A) ⟨h1,rfl,_,_,rfl,?_⟩⟩
   nofun
   generalize hF:(if(if h1<0 then-h1 else h1)>(if l1<0 then-l1 else l1)then(if h1<0 then-h1 else h1)else(if l1<0 then-l1 else l1))=F;have hF1: -F<=l1/\h1<=F/\F<=1000000000000/\ -F<=h1/\l1<=F/\0<=F:=by rw[<-hF];split<;>split<;>(try split)<;>omega
   generalize hks:(RM n2.length).filter (λi=>decide (n2.getD i 0=0))=ks at hl3;have kmem:∀j,j∈ks<->n2[j]?=zS 0:=λj=>by
    rw[<-hks,Sn,S7];constructor
    .rintro⟨h1,h2⟩;rw[RC h1];have:n2[j]=0:=by simpa [Sx,h1]using h2
     rw[this]
    .intro h1;let⟨h3,h4⟩:=RE.mp h1;exact⟨h3,by simp[Sx,h3,h4]⟩
   have hkl:ks.length<=30000:=by rw[<-hks];exact RO (Th _ _) (by rw[TM];omega)
   refine⟨l,1,n2.length,ks,rfl,hl3,hkl,λj hj=>(RE.mp ((kmem j).mp hj)).1,λH3 d rf s3 hd hd3 ro=>?_⟩;refine rV λH4 x dx' s4 nx hx=>?_;have s03:=s02.trans s3;have s14:=(s2.trans s3).trans s4;refine k H4 x (s03.trans s4) (s03.free nx) ⟨x,dx',p,d,_,-F,F,rf,rfl,bz dm (s03.free nx) hx,bz dm hp (s14 _ _ hp1),bz dm (s02.free hd) (s4 _ _ hd3),by simp,by omega,by omega,λz hz=>?_,?_,λj v hv=>?_⟩
   .let⟨u,hu,w,hw,rfl⟩:=mO hz;have r1:=ra u hu;split
    .rename_i hw0;exact II (by omega) (by omega) hw0
    .omega
   .have el:(SS (Ur .div) n1 n2).length=n2.length:=by simp;omega
    rw[el];refine ro.congr λj hj=>?_;obtain⟨u,hu⟩:∃u,n1[j]?=zS u:=⟨_,RC (by omega)⟩;obtain⟨w,hw⟩:∃w,n2[j]?=zS w:=⟨_,RC hj⟩;unfold kindAt;rw[yS hu hw,SX];show _=kindOf (if w=0 then .error 1 else Tj (Tf u w));by_cases e:w=0
    .rw[ag e,ag ((kmem j).mpr (by rw[hw,e]))];rfl
    .rw[ae e,ae (λhm=>e (by have:=(kmem j).mp hm;rw[hw]at this;exact RA this))];have r1:=ra u (Rz hu);have hin:RD (Tf u w)=true:=ak.Gv (inR.mpr (by omega)) e;rw[kK hin];rfl
   .let⟨u,w,hu,hw,e⟩:=zip_get hv;have r1:=ra u (Rz hu);rw[yS hu hw];have e:Except.ok v=(if w=0 then(.error 1:Res)else Tj (Tf u w)):=e;by_cases e0:w=0
    .rw[ag e0]at e;cases e
    .rw[ae e0,kK (ak.Gv (inR.mpr (by omega)) e0)]at e;cases e;rw[ag e0]
def uC{ms:List Addr}{H':Hp}{x dx p d:Addr}{n1 n2:List Int}{o:Op}{F:Int->Int->Int}{lo hi:Int}(hx:cut ms H' x=zS (.ins G.CC dx (fC (.ref p) (.int lo) (.int hi) (.ref d))))(hp:cut ms H' p=zS (.lst (iL (SS F n1 n2))))(hd:cut ms H' d=zS (.dK []))(hF:∀a b,Ur o a b=.ok (F a b))(l1: -1000000000000<=lo/\lo<=1000000000000)(h1: -1000000000000<=hi/\hi<=1000000000000)(hr:∀a∈n1,∀b∈n2,lo<=F a b/\F a b<=hi):f_ G (cut ms H') (.ref x) (SS (Ur o) n1 n2):=by
 refine⟨x,dx,p,d,_,lo,hi,[],rfl,hx,hp,hd,by simp,l1,h1,λz hz=>?_,(dM.nil _).congr λj hj=>?_,λj v hv=>?_⟩
 .let⟨u,hu,w,hw,rfl⟩:=mO hz;exact hr u hu w hw
 .unfold kindAt
  cases e:(SS (Ur o) n1 n2)[j]? with
  |none=>rfl
  |some z=>
   let⟨u,w,_,_,rfl⟩:=zip_get e;rw[hF];rfl
 .let⟨u,w,hu,hw,e⟩:=zip_get hv;rw[hF]at e;cases e;exact yS hu hw
theorem zZ(T:Tc G)(h:fQ G .most vs H Q E):lY G (aV G) (ends Q) (start lX vs) H:=by
 let⟨ms,x,y,n1,n2,l1,h1,l2,h2,rfl,dm,⟨a,dx,an,ar,rfl,ha,han,ra,la,ha2⟩,⟨b,dy,bn,br,rfl,hb,hbn,rb,lb,hb2⟩,hl,h0,hz,k⟩:=h;show lY G _ (ends Q) [zS (.ref a),zS (.ref b),zN,zN,zN] H;unfold lY
 nofun
 refine bh T (aj ha).1 (bh T (aj hb).1 ?_);refine lK (F:=λx y=>max x y) (aj han).1 (aj hbn).1 hl (by omega) (λx y t H' R R0 ht hx hy q=>?_) λH1 p s1 hp hp1=>?_
 .nofun
  refine f9 ht rfl ?_
  nofun
  by_cases e:y<x
  .rw[ag e];rw[show max x y=x by omega]at q;exact q
  .rw[ae e];rw[show max x y=y by omega]at q;exact q
 .have A:=s1 _ _ (aj ha).1;have B:=s1 _ _ (aj hb).1;refine j7 T A (j7 T B ⟨_,_,rfl,gS T A (gS T B ⟨_,_,rfl,?_⟩)⟩);intro d hd;refine rV λH4 x dx' s4 nx hx=>?_;have s2:ah H1 (upd H1 d (.dK [])):=ah.upd hd;have s02:=s1.trans s2;refine k H4 x (s02.trans s4) (s02.free nx) (uC (F:=λx y=>max x y) (bz dm (s02.free nx) hx) (bz dm hp (s4 _ _ (s2 _ _ hp1))) (bz dm (s1.free hd) (s4 _ _ aa)) (λ_ _=>rfl) (by split<;>omega) (by split<;>omega) λu hu w hw=>?_);have:=ra u hu;have:=rb w hw;constructor
  .split<;>omega
  .split<;>omega
theorem Cv(T:Tc G)(h:fQ G .least vs H Q E):nF G (aV G) (ends Q) (start nE vs) H:=by
 let⟨ms,x,y,n1,n2,l1,h1,l2,h2,rfl,dm,⟨a,dx,an,ar,rfl,ha,han,ra,la,ha2⟩,⟨b,dy,bn,br,rfl,hb,hbn,rb,lb,hb2⟩,hl,h0,hz,k⟩:=h;show nF G _ (ends Q) [zS (.ref a),zS (.ref b),zN,zN,zN] H;unfold nF
 nofun
 refine bh T (aj ha).1 (bh T (aj hb).1 ?_);refine lK (F:=λx y=>min x y) (aj han).1 (aj hbn).1 hl (by omega) (λx y t H' R R0 ht hx hy q=>?_) λH1 p s1 hp hp1=>?_
 .nofun
  refine f9 ht rfl ?_
  nofun
  by_cases e:x<y
  .rw[ag e];rw[show min x y=x by omega]at q;exact q
  .rw[ae e];rw[show min x y=y by omega]at q;exact q
 .have A:=s1 _ _ (aj ha).1;have B:=s1 _ _ (aj hb).1;refine j7 T A (j7 T B ⟨_,_,rfl,gS T A (gS T B ⟨_,_,rfl,?_⟩)⟩);intro d hd;refine rV λH4 x dx' s4 nx hx=>?_;have s2:ah H1 (upd H1 d (.dK [])):=ah.upd hd;have s02:=s1.trans s2;refine k H4 x (s02.trans s4) (s02.free nx) (uC (F:=λx y=>min x y) (bz dm (s02.free nx) hx) (bz dm hp (s4 _ _ (s2 _ _ hp1))) (bz dm (s1.free hd) (s4 _ _ aa)) (λ_ _=>rfl) (by split<;>omega) (by split<;>omega) λu hu w hw=>?_);have:=ra u hu;have:=rb w hw;constructor
  .split<;>omega
  .split<;>omega
def mL(G:Ga):Sp:=λvs H Q E=>∃(o:Op)(x y:V),vs=[.int (US o),x,y]/\fQ G o [x,y] H Q E
theorem KY(T:Tc G)(h:mL G vs H Q E):yz G (aV G) (fQ G .div) (fQ G .most) (fQ G .sub) (fQ G .least) (fQ G .add) (fQ G .mul) (ends Q) (start uk vs) H:=by
 let⟨o,x,y,rfl,h⟩:=h;have h':=h;let⟨ms,x',y',n1,n2,l1,h1,l2,h2,e,dm,⟨a,dx,an,ar,rfl,ha,han,ra,la,ha2⟩,⟨b,dy,bn,br,rfl,hb,hbn,rb,lb,hb2⟩,hl,h0,hz,k⟩:=h;injection e with e1 e2;injection e2 with e2 _;subst e1 e2;show yz G _ _ _ _ _ _ _ (ends Q) [zS (.int (US o)),zS (.ref a),zS (.ref b),zN,zN] H;unfold yz
 nofun
 cases o with
 |add=>exact h'
 |sub=>exact h'
 |mul=>exact h'
 |div=>exact h'
 |most=>exact h'
 |least=>exact h'
 |less=>
  rw[ae (by decide),ae (by decide),ae (by decide),ae (by decide),ae (by decide),ae (by decide),ag (by decide)];refine bh T (aj ha).1 (bh T (aj hb).1 ?_);refine lK (F:=λx y=>T3 (decide (x<y))) (aj han).1 (aj hbn).1 hl (by omega) (λx y t H' R R0 ht hx hy q=>?_) λH1 p s1 hp hp1=>?_
  .nofun
   refine f9 ht rfl ?_
   nofun
   exact(by by_cases e:x<y<;>simpa [T3,e]using q)
  .intro d hd;refine rV λH4 x dx' s4 nx hx=>?_;have s2:ah H1 (upd H1 d (.dK [])):=ah.upd hd;have s02:=s1.trans s2;refine k H4 x (s02.trans s4) (s02.free nx) (uC (F:=λx y=>T3 (decide (x<y))) (bz dm (s02.free nx) hx) (bz dm hp (s4 _ _ (s2 _ _ hp1))) (bz dm (s1.free hd) (s4 _ _ aa)) (λ_ _=>rfl) (by omega) (by omega) λu hu w hw=>?_);unfold T3;split<;>omega
 |equal=>
  rw[ae (by decide),ae (by decide),ae (by decide),ae (by decide),ae (by decide),ae (by decide),ae (by decide)];refine bh T (aj ha).1 (bh T (aj hb).1 ?_);refine lK (F:=λx y=>T3 (x==y)) (aj han).1 (aj hbn).1 hl (by omega) (λx y t H' R R0 ht hx hy q=>?_) λH1 p s1 hp hp1=>?_
  .nofun
   refine f9 ht rfl ?_
   nofun
   exact(by by_cases e:x=y<;>simpa [T3,e]using q)
  .intro d hd;refine rV λH4 x dx' s4 nx hx=>?_;have s2:ah H1 (upd H1 d (.dK [])):=ah.upd hd;have s02:=s1.trans s2;refine k H4 x (s02.trans s4) (s02.free nx) (uC (F:=λx y=>T3 (x==y)) (bz dm (s02.free nx) hx) (bz dm hp (s4 _ _ (s2 _ _ hp1))) (bz dm (s1.free hd) (s4 _ _ aa)) (λ_ _=>rfl) (by omega) (by omega) λu hu w hw=>?_);unfold T3;split<;>omega
end
variable{l rf:List (Key×V)}{i n:Nat}{p:Nat->Bool}{e:Nat->Option Nat}{g0:Nat->Option V}{v:V}
section
variable{G:Ga}{vs:List V}{H:Hp}{Q:VK}{E:XK}
def sN:∀{more kvs:List (Key×V)}(k:Key),(more.map (·.1)).Nodup->aI (gu kvs more) k=(aI more k).or (aI kvs k)
 |[],kvs,k,_=>by simp[gu,kQ]
 |p::r,kvs,k,nd=>by
  have nd':=RK.mp (show(p.1::r.map (·.1)).Nodup from nd);show aI (gu (putK kvs p.1 p.2) r) k=_;rw[sN k nd'.2,fU];by_cases e:p.1=k
  .rw[dA e,ag e.symm];have:aI r k=zN:=by
    cases ev:aI r k with
    |none=>rfl
    |some v=>exact absurd (wY ev) (by rw[<-e];exact nd'.1)
   rw[this];rfl
  .rw[dB e,ae (λz=>e z.symm)]
def yT:∀{more kvs:List (Key×V)}{k:Key},k∈(gu kvs more).map (·.1)<->k∈kvs.map (·.1)\/k∈more.map (·.1)
 |[],kvs,k=>by simp[gu]
 |p::r,kvs,k=>by
  show k∈(gu (putK kvs p.1 p.2) r).map (·.1)<->_;rw[yT,qN];simp only[RS,Rn];constructor
  .rintro((h|h)|h)
   .exact .inl h
   .exact .inr (.inl h)
   .exact .inr (.inr h)
  .rintro(h|h|h)
   .exact .inl (.inl h)
   .exact .inl (.inr h)
   .exact .inr h
def yU:∀{more kvs:List (Key×V)},(kvs.map (·.1)).Nodup->((gu kvs more).map (·.1)).Nodup
 |[],kvs,h=>h
 |p::r,kvs,h=>yU (more:=r) (mN h)
def dM.merge{a b:List (Key×V)}{f:Nat->Option Nat}(ha:dM a n e)(hb:dM b n f):dM (gu a b) n (λj=>(f j).or (e j)):=by
 refine⟨yU ha.nd,λk hk=>?_,λj hj=>?_⟩
 .obtain h|h:=yT.mp hk
  .exact ha.key k h
  .exact hb.key k h
 .rw[sN _ hb.nd,ha.val j hj,hb.val j hj];cases f j<;>rfl
def mK:Sp:=λvs H Q _=>∃(ms:List Addr)(a b c:Addr)(f1 f2 f3:List (Key×V))(n:Nat)(e1 e2 e3:Nat->Option Nat),vs=[.ref a,.ref b,.ref c]/\lu ms H/\cut ms H a=zS (.dK f1)/\cut ms H b=zS (.dK f2)/\cut ms H c=zS (.dK f3)/\n<=30000/\
 dM f1 n e1/\dM f2 n e2/\dM f3 n e3/\∀H' r rf,ah H H'->cut ms H' r=zS (.dK rf)->dM rf n (λj=>(e1 j).or ((e2 j).or (e3 j)))->Q (.ref r) H'
theorem KZ(h:mK vs H Q E):yy G (ends Q) (start DP vs) H:=by
 let⟨ms,a,b,c,f1,f2,f3,n,e1,e2,e3,rfl,dm,ha,hb,hc,hn,r1,r2,r3,k⟩:=h;show yy G (ends Q) [zS (.ref a),zS (.ref b),zS (.ref c),zN] H;have Ha:=(aj ha).1;have Hb:=(aj hb).1;have Hc:=(aj hc).1;unfold yy
 nofun
 refine iX Hb ?_
 nofun
 have z1:=r1.len;have z2:=r2.len;have z3:=r3.len;have last:vb [V.ref c] H λx H1=>Mm x (λH2 R=>R (V.ref b) H2) H1 λx_1 H1=>Mm x (λH2 R=>R (V.ref a) H2) H1 λx_2 H1=>Q x H1:=by refine Cr (.inl Hc) λp hp=>?_;have np:∀{q:Addr}{o:HO},H q=zS o->q≠p:=λh=>ay h hp;refine KL aa (λR r=>r) (.inl (by rw[ab (np Hb)];exact Hb)) (np Hb).symm (by omega) ?_;have hm:=lU f2 f3;refine KL aa (λR r=>r) (.inl (by rw[ab (np Ha),ab (np Ha)];exact Ha)) (np Ha).symm (by omega) ?_;refine k _ p _ (λq o e=>by rw[ab (np e),ab (np e),ab (np e)];exact e) (bz dm hp aa) ?_;exact(r3.merge r2).merge r1
 have hc:(f2.length=0/\f3.length=0)\/(f2.length=0/\¬f3.length=0)\/¬f2.length=0:=by omega
 obtain⟨c2,c3⟩|⟨c2,c3⟩|c2:=hc
 .rw[ag (by omega)];refine iX Hc ?_
  nofun
  rw[ag (by omega)];refine k H a f1 (ah.refl H) ha (r1.congr λj hj=>?_);rw[r2.zero c2 hj,r3.zero c3 hj];cases e1 j<;>rfl
 case' inr.inl=>
  rw[ag (by omega)];refine iX Hc ?_
  nofun
  rw[ae (by omega)]
 case' inr.inr=>
  rw[ae (by omega)]
 all_goals
  refine iX Ha ?_
  nofun
  by_cases c1:f1.length=0
  .rw[ag (by omega)];refine iX Hc ?_
   nofun
   by_cases c3':f3.length=0
   .rw[ag (by omega)];refine k H b f2 (ah.refl H) hb (r2.congr λj hj=>?_);rw[r1.zero c1 hj,r3.zero c3' hj];cases e2 j<;>rfl
   .rw[ae (by omega)];exact last
  .rw[ae (by omega)];exact last
def pick(a:Res)(b c:Res):Res:=match a with
 | .error k=>.error k
 | .ok v=>if v=0 then c else b
def yV(r1 r2 r3:List Res):List Res:=(RM r1.length).map λj=>pick (r1.getD j (.ok 0)) (r2.getD j (.ok 0)) (r3.getD j (.ok 0))
def ga(G:Ga):Sp:=λvs H Q _=>∃(ms:List Addr)(x y z:V)(r1 r2 r3:List Res),vs=[x,y,z]/\lu ms H/\f_ G (cut ms H) x r1/\f_ G (cut ms H) y r2/\f_ G (cut ms H) z r3/\r1.length=r2.length/\r1.length=r3.length/\0<r1.length/\r1.length<=30000/\
 ∀H' x,ah H H'->H x=zN->f_ G (cut ms H') (.ref x) (yV r1 r2 r3)->Q (.ref x) H'
structure sO(n:Nat)(g0:Nat->Option V)(l:List (Key×V))(p:Nat->Bool)(i:Nat)(rf:List (Key×V)):Prop where
 nd:(rf.map (·.1)).Nodup
 key:∀k∈rf.map (·.1),∃j:Nat,j<n/\k=Rk (j:Int)
 val:∀j,j<n->aI rf (Rk (j:Int))=(g0 j).or (if p j=true then aI (l.take i) (Rk (j:Int))else zN)
def qd:∀(l m:List (Key×V))(k:Key),aI (l++m) k=(aI l k).or (aI m k)
 |[],m,k=>by simp[kQ]
 |p::l,m,k=>by
  by_cases e:p.1=k
  .rw[Rx,dA e,dA e];rfl
  .rw[Rx,dB e,dB e,qd l m k]
def D8{k k':Key}:aI [(k,v)] k'=if k=k' then zS v else zN:=by
 by_cases e:k=k'
 .rw[ag e];exact dA e
 .rw[ae e,dB e];rfl
def K0:∀{ks:List Key},ks.Nodup->(∀k∈ks,∃j:Nat,j<n/\k=Rk (j:Int))->ks.length<=n:=λ{ks} nd hk=>by
 have:∀{ks:List Key},ks.Nodup->(∀k∈ks,∃j:Nat,j<n/\k=Rk (j:Int))->∃l:List Nat,l.Nodup/\(∀x∈l,x<n)/\ks=l.map λ(j:Nat)=>(Rk (j:Int):Key):=by
  intro ks
  induction ks with
  |nil=>intro _ _;exact⟨[],SI,by simp,rfl⟩
  |cons k r ih=>
   intro nd hk;let⟨l,l1,l2,l3⟩:=ih (RK.mp nd).2 λk hk'=>hk k (Rp _ hk');let⟨j,hj,rfl⟩:=hk k Rv;refine⟨j::l,RK.mpr ⟨λhm=>(RK.mp nd).1 ?_,l1⟩,?_,by rw[l3];rfl⟩
   .rw[l3];exact Rm.mpr ⟨j,hm,rfl⟩
   .intro x hx;obtain e|e:=Rn.mp hx
    .subst e;exact hj
    .exact l2 x e
 let⟨l,l1,l2,l3⟩:=this nd hk;rw[l3,Rr];exact lL l1 l2
def sO.len(h:sO n g0 l p i rf):rf.length<=n:=by
 have:=K0 h.nd h.key
 rwa [Rr]at this
theorem sO.step{j:Nat}(hnd:(l.map (·.1)).Nodup)(hjn:j<n)(h:sO n g0 l p i rf)(hi:l[i]?=zS (Rk (j:Int),v)):(p j=false->sO n g0 l p (i+1) rf)/\(p j=true->(∀w,aI rf (Rk (j:Int))=zS w->sO n g0 l p (i+1) rf)/\(aI rf (Rk (j:Int))=zN->sO n g0 l p (i+1) (putK rf (Rk (j:Int)) v))):=by
 have et:∀j':Nat,aI (l.take (i+1)) (Rk (j':Int))=(aI (l.take i) (Rk (j':Int))).or (if j'=j then zS v else zN):=λj'=>by
  rw[take_snoc hi,qd,D8];congr 1;by_cases e:j'=j
  .subst e;rw[ag rfl,ag rfl]
  .rw[ae e,ae (λz=>e (by injection z with z;omega))]
 have ej:aI (l.take i) (Rk (j:Int))=zN:=by
  cases ev:aI (l.take i) (Rk (j:Int))with
  |none=>rfl
  |some w=>
   have hm:=wY ev;let⟨hil,ei⟩:=RE.mp hi;have e2:l.map (·.1)=(l.take i).map (·.1)++(l.drop i).map (·.1):=by rw[<-Sa,V6]
   rw[e2,Ss]at hnd;refine absurd rfl (hnd.2.2 _ hm _ ?_);rw[UU hil,ei];simp
 refine⟨λhp=>⟨h.nd,h.key,λj' hj'=>?_⟩,λhp=>⟨λw hw=>⟨h.nd,h.key,λj' hj'=>?_⟩,λhw=>⟨mN h.nd,λk hk=>?_,λj' hj'=>?_⟩⟩⟩
 .rw[h.val j' hj',et j'];by_cases e:j'=j
  .subst e;rw[hp];rfl
  .rw[ae e];simp
 .rw[h.val j' hj',et j'];by_cases e:j'=j
  .subst e;have hv:=h.val j' hj';rw[hp,ag rfl,ej,YW]at hv;rw[hp,ag rfl,ag rfl,ag rfl,ej];rw[hw]at hv;rw[<-hv];rfl
  .rw[ae e];simp
 .obtain h1|h1:=qN.mp hk
  .exact h.key k h1
  .exact⟨j,hjn,h1⟩
 .rw[fU,et j'];by_cases e:j'=j
  .subst e;have hv:=h.val j' hj';rw[hp,ag rfl,ej,YW,hw]at hv;rw[ag rfl,hp,ag rfl,ag rfl,ej,<-hv];rfl
  .rw[ae (λz=>e (by injection z with z;omega)),h.val j' hj',ae e];simp
def sO.start(h:dM rf n e)(l:List (Key×V))(p:Nat->Bool):sO n (λj=>aI rf (Rk (j:Int))) l p 0 rf:=⟨h.nd,h.key,λj _=>by simp[kQ]⟩
def sO.Oi{l0:List (Key×V)}{p0:Nat->Bool}{i0:Nat}(h:sO n g0 l0 p0 i0 rf)(l:List (Key×V))(p:Nat->Bool):sO n (λj=>aI rf (Rk (j:Int))) l p 0 rf:=⟨h.nd,h.key,λj _=>by simp[kQ]⟩
structure K3(H:Hp)(x y z p q d:Addr)(od:Obj)(n:Nat)(g0:Nat->Option V)(l:List (Key×V))(pr:Nat->Bool)(i:Nat)(σ:L2.St)(H':Hp):Prop where
 ex:∃(o5 o6 o7 o8 o9:Option V)(rf:List (Key×V)),σ=[zS (.ref x),zS (.ref y),zS (.ref z),zS (.ref p),zS (.ref q),o5,o6,o7,o8,o9]/\(∀b u,H b=zS u->b≠d->b≠q->H' b=zS u)/\H' d=zS (.fg od (.dK l))/\H' q=zS (.dK rf)/\sO n g0 l pr i rf
theorem Cw(T:Tc G)(h:ga G vs H Q E):nA G (aV G) (ends Q) (start nz vs) H:=by
 let⟨ms,x,y,z,r1,r2,r3,rfl,dm,⟨a,adx,an,ar,n1,l1,h1,f1,rfl,ha,han,har,ca⟩,⟨b,bdx,bn,br,n2,l2,h2,f2,rfl,hb,hbn,hbr,cb⟩,⟨c,cdx,cn,cr,n3,l3,h3,f3,rfl,hc,hcn,hcr,cc⟩,e2,e3,h0,hz,k⟩:=h;show nA G _ (ends Q) [zS (.ref a),zS (.ref b),zS (.ref c),zN,zN,zN,zN,zN,zN,zN] H;have A:=(aj ha).1;have B:=(aj hb).1;have C:=(aj hc).1;have AN:=(aj han).1;have BN:=(aj hbn).1;have CN:=(aj hcn).1;have AR:=(aj har).1;have BR:=(aj hbr).1;have CR:=(aj hcr).1;have L1:=ca.len;have L2:=cb.len;have L3:=cc.len;unfold nA
 nofun
 refine bh T A (bh T B (bh T C ?_));refine KJ (F:=λu v w=>if u≠0 then v else w) AN BN CN (by omega) (by omega) (by omega) (λu v w t H' R R0 ht q=>?_) λH1 p s1 hp hp1=>?_
 .nofun
  refine f9 ht rfl ?_
  nofun
  by_cases e:u=0
  .rw[ae (by simp[e])];rw[ae (by simp[e])]at q;exact q
  .rw[ag (by simpa using e)];rw[ag e]at q;exact q
 .refine dZ T (s1 _ _ A) (Cr (.inl (s1 _ _ AR)) λq hq=>?_);have s2:ah H1 (upd H1 q (.dK f1)):=ah.upd hq;have s02:=s1.trans s2;have hqH:H q=zN:=s1.free hq;have nq:∀{b:Addr}{o:HO},H b=zS o->b≠q:=λe=>ay e hqH;have hpq:p≠q:=ay hp1 hq;have num:∀j,j<r1.length->n1[j]?=zS (n1.getD j 0):=λj hj=>by
   have:j<n1.length:=by omega
   simp[Sx,this]
  have hR2:dM f2 r1.length (kindAt r2):=by rw[e2];exact cb.ref
  have hR3:dM f3 r1.length (kindAt r3):=by rw[e3];exact cc.ref
  have isj:∀{l:List (Key×V)}{e:Nat->Option Nat}{i:Nat}{kk:Key}{v:V},dM l r1.length e->l[i]?=zS (kk,v)->∃j:Nat,j<r1.length/\kk=Rk (j:Int):=λhl hi=>hl.key _ (Rm.mpr ⟨_,Rz hi,rfl⟩);refine fI (s2 _ _ (s1 _ _ BR)) (λod R r=>?_) (λod=>K3 (upd H1 q (.dK f1)) a b c p q br od r1.length (λj=>aI f1 (Rk (j:Int))) f2 (λj=>decide (n1.getD j 0≠0))) (λod=>⟨_,_,_,_,_,f1,rfl,λb u hb nb _=>by rw[ab nb];exact hb,aa,by rw[ab (nq BR).symm];exact aa,sO.start ca.ref _ _⟩) (λod i σ' H'⟨_,_,_,_,_,_,_,_,h4,_⟩=>h4) ?_ ?_
  .nofun
   exact dZ T (show _=zS _ by rw[ab (aQ B BR (by intro z;cases z))];exact s02 _ _ B) r
  .rintro od i kk v σ' H' t hi ⟨o5,o6,o7,o8,o9,rf,rfl,kp,hd,hq',bi⟩ ht;let⟨j,hj,rfl⟩:=isj hR2 hi;have nt:∀{b:Addr}{o:HO},H' b=zS o->b≠t:=λe=>ay e ht;have up:∀{b:Addr}{o:HO},H b=zS o->b≠br->H' b=zS o:=λe nb=>kp _ _ (s02 _ _ e) nb (nq e);have A':=up A (aQ A BR (by intro z;cases z));have AN':=up AN (aQ AN BR (by intro z;cases z))
   nofun
   refine f9 aa rfl ?_
   nofun
   refine bh T (by rw[ab (nt A')];exact A') ?_;refine eN j rfl (by rw[ab (nt AN')];exact AN') (yN (num j hj)) ?_
   nofun
   have st:=bi.step cb.ref.nd hj hi
   have fin:∀{H2:Hp}{rf2:List (Key×V)},(∀b u,H' b=zS u->b≠q->H2 b=zS u)->H2 q=zS (.dK rf2)->sO r1.length (λj=>aI f1 (Rk (j:Int))) f2 (λj=>decide (n1.getD j 0≠0)) (i+1) rf2->K3 (upd H1 q (.dK f1)) a b c p q br od r1.length (λj=>aI f1 (Rk (j:Int))) f2 (λj=>decide (n1.getD j 0≠0)) (i+1) [zS (.ref a),zS (.ref b),zS (.ref c),zS (.ref p),zS (.ref q),zS (kV (Rk (j:Int))),zS v,o7,o8,o9] H2:=λ{H2 rf2} k2 q2 b2=>
    ⟨_,_,o7,o8,o9,rf2,rfl,λb u hb n1 n2=>k2 _ _ (kp b u hb n1 n2) n2,k2 _ _ hd (aQ hd hq' (by intro z;cases z)),q2,b2⟩
   have kt:∀b u,H' b=zS u->b≠q->(upd H' t (.tup [kV (Rk (j:Int)),v])) b=zS u:=λb u e _=>by rw[ab (nt e)];exact e
   have qt:(upd H' t (.tup [kV (Rk (j:Int)),v])) q=zS (.dK rf):=by rw[ab (nt hq')];exact hq'
   by_cases e:n1.getD j 0=0
   .rw[ae (λh=>h e)];exact fin kt qt (st.1 (decide_eq_false λh=>h e))
   .rw[ag e];have st2:=st.2 (decide_eq_true e);refine KM (z:=(j:Int)) (v:=v) qt (λR r=>r) (λR r=>r) (by have:=bi.len;omega) (λw hw=>fin kt qt (st2.1 w hw)) λhw=>?_;exact fin (λb u e nb=>by rw[ab nb];exact kt b u e nb) aa (st2.2 hw)
  .rintro od σ' H' ⟨o5,o6,o7,o8,o9,rf,rfl,kp,hd,hq',bi⟩
   nofun
   have K1:∀b u,(upd H1 q (.dK f1)) b=zS u->b≠q->(upd H' br (.dK f2)) b=zS u:=λb u e nb=>by
    by_cases eb:b=br
    .subst eb;rw[s2 _ _ (s1 _ _ BR)]at e;rw[aa];exact e
    .rw[ab eb];exact kp b u e eb nb
   have Q1:(upd H' br (.dK f2)) q=zS (.dK rf):=by rw[ab (nq BR).symm];exact hq'
   generalize hG:upd H' br (.dK f2)=H3 at K1 Q1;have up3:∀{b:Addr}{o:HO},H b=zS o->H3 b=zS o:=λe=>K1 _ _ (s02 _ _ e) (nq e);refine fI (up3 CR) (λod R r=>?_) (λod=>K3 H3 a b c p q cr od r1.length (λj=>aI rf (Rk (j:Int))) f3 (λj=>decide (n1.getD j 0=0))) (λod=>⟨_,_,_,_,_,rf,rfl,λb u hb nb _=>by rw[ab nb];exact hb,aa,by rw[ab (nq CR).symm];exact Q1,bi.Oi _ _⟩) (λod i σ' H'⟨_,_,_,_,_,_,_,_,h4,_⟩=>h4) ?_ ?_
   .nofun
    exact dZ T (show _=zS _ by rw[ab (aQ C CR (by intro z;cases z))];exact up3 C) r
   .rintro od i kk v σ' H' t hi ⟨o5,o6,o7,o8,o9,rf,rfl,kp,hd,hq',bi⟩ ht;let⟨j,hj,rfl⟩:=isj hR3 hi;have nt:∀{b:Addr}{o:HO},H' b=zS o->b≠t:=λe=>ay e ht;have up:∀{b:Addr}{o:HO},H b=zS o->b≠cr->H' b=zS o:=λe nb=>kp _ _ (up3 e) nb (nq e);have A':=up A (aQ A CR (by intro z;cases z));have AN':=up AN (aQ AN CR (by intro z;cases z))
    nofun
    refine f9 aa rfl ?_
    nofun
    refine bh T (by rw[ab (nt A')];exact A') ?_;refine eN j rfl (by rw[ab (nt AN')];exact AN') (yN (num j hj)) ?_
    nofun
    have st:=bi.step cc.ref.nd hj hi;have kt:∀b u,H' b=zS u->b≠q->(upd H' t (.tup [kV (Rk (j:Int)),v])) b=zS u:=λb u e _=>by rw[ab (nt e)];exact e
    have qt:(upd H' t (.tup [kV (Rk (j:Int)),v])) q=zS (.dK rf):=by rw[ab (nt hq')];exact hq'
    have hdq:cr≠q:=aQ hd hq' (by intro z;cases z);by_cases e:n1.getD j 0=0
    .rw[ag e];have st2:=st.2 (decide_eq_true e);refine KM (z:=(j:Int)) (v:=v) qt (λR r=>r) (λR r=>r) (by have:=bi.len;omega) (λw hw=>?_) λhw=>?_
     .exact⟨_,_,o7,o8,o9,rf,rfl,λb u hb n1 n2=>kt _ _ (kp b u hb n1 n2) n2,kt _ _ hd hdq,qt,st2.1 w hw⟩
     .exact⟨_,_,o7,o8,o9,_,rfl,λb u hb n1 n2=>by rw[ab n2];exact kt _ _ (kp b u hb n1 n2) n2,by rw[ab hdq];exact kt _ _ hd hdq,aa,st2.2 hw⟩
    .rw[ae e];exact⟨_,_,o7,o8,o9,rf,rfl,λb u hb n1 n2=>kt _ _ (kp b u hb n1 n2) n2,kt _ _ hd hdq,qt,st.1 (decide_eq_false e)⟩
   .rintro od σ' H' ⟨o5,o6,o7,o8,o9,rf2,rfl,kp,hd,hq',bi2⟩
    nofun
    have K2:∀b u,H3 b=zS u->b≠q->(upd H' cr (.dK f3)) b=zS u:=λb u e nb=>by
     by_cases eb:b=cr
     .subst eb;rw[up3 CR]at e;rw[aa];exact e
     .rw[ab eb];exact kp b u e eb nb
    have Q2:(upd H' cr (.dK f3)) q=zS (.dK rf2):=by rw[ab (nq CR).symm];exact hq'
    generalize hG2:upd H' cr (.dK f3)=H5 at K2 Q2;have up5:ah H H5:=λb o e=>K2 _ _ (up3 e) (nq e);have P5:H5 p=zS (.lst (iL ((RM n1.length).map λi=>if n1.getD i 0≠0 then n2.getD i 0 else n3.getD i 0))):=K2 _ _ (K1 _ _ (s2 _ _ hp1) hpq) hpq;refine j7 T (up5 _ _ B) (j7 T (up5 _ _ C) ⟨_,_,rfl,gS T (up5 _ _ B) (gS T (up5 _ _ C) ⟨_,_,rfl,?_⟩)⟩);refine rV λH6 x dx s6 nx hx=>?_;have hlr:(yV r1 r2 r3).length=r1.length:=by unfold yV;simp
    have pk:∀j,j<r1.length->∃a b c,r1[j]?=zS a/\r2[j]?=zS b/\r3[j]?=zS c/\(yV r1 r2 r3)[j]?=zS (pick a b c):=λj hj=>by refine⟨r1[j],r2[j]'(by omega),r3[j]'(by omega),RC hj,RC _,RC _,?_⟩;unfold yV;rw[RW,V8 hj,SN];simp[Sx,hj,show j<r2.length by omega,show j<r3.length by omega]
    refine k H6 x (up5.trans s6) (up5.free nx) ⟨x,dx,p,q,_,_,_,rf2,rfl,bz dm (up5.free nx) hx,bz dm hp (s6 _ _ P5),bz dm hqH (s6 _ _ Q2),by rw[hlr];simp;omega,?_,?_,λw hw=>?_,?_,λj v hv=>?_⟩
    .have:=cb.l1;have:=cc.l1;split<;>omega
    .have:=cb.h1;have:=cc.h1;split<;>omega
    .let⟨j,hj,rfl⟩:=Rm.mp hw;have hj':=S7.mp hj;have m2:n2.getD j 0∈n2:=by
      have:j<n2.length:=by omega
      simp[Sx,this]
     have m3:n3.getD j 0∈n3:=by
      have:j<n3.length:=by omega
      simp[Sx,this]
     have g2:=cb.Hh _ m2;have g3:=cc.Hh _ m3;generalize n2.getD j 0=v2 at*;generalize n3.getD j 0=v3 at*;constructor<;>split<;>split<;>omega
    .rw[hlr];refine⟨bi2.nd,bi2.key,λj hj=>?_⟩;let⟨a,b,c,ha,hb,hc,hpk⟩:=pk j hj;rw[bi2.val j hj,bi.val j hj,ca.ref.val j (by omega),R9,R9,hR2.val j hj,hR3.val j hj];unfold kindAt;rw[hpk,ha,hb,hc];simp only[SX]
     cases a with
     |error kd=>simp[kindOf,pick]
     |ok v=>
      have hv:=ca.val j v ha;have hv2:n1.getD j 0=v:=by rw[Sx,hv];rfl
      rw[hv2];by_cases e:v=0
      .simp[kindOf,pick,e]
      .simp[kindOf,pick,e]
    .let⟨a,b,c,ha,hb,hc,hpk⟩:=pk j (by rw[<-hlr];exact(RE.mp hv).1);rw[hpk]at hv;have hv:=RA hv;have hj1:j<n1.length:=by have:=(RE.mp ha).1;omega
     rw[RW,V8 hj1,SN]
     cases a with
     |error kd=>cases hv
     |ok u=>
      have hu:=ca.val j u ha;have hu2:n1.getD j 0=u:=by rw[Sx,hu];rfl
      rw[hu2];unfold pick at hv;by_cases e:u=0
      .simp only[e,if_true]at hv;subst hv;have:=cc.val j v hc;simp[e,Sx,this]
      .simp only[e,if_false]at hv;subst hv;have:=cb.val j v hb;simp[e,Sx,this]
end
variable{f g:Formula}{envs:List UW}{n:Nat}
section
variable{G:Ga}{vs:List V}{H:Hp}{Q:VK}{E:XK}
def zy(envs:List UW)(f:Formula):List Res:=envs.map λe=>RX e f
def cF(envs:List UW)(f:Formula):(zy envs f).length=envs.length:=Rr ..
def eO{j:Nat}(h:j<envs.length):(zy envs f)[j]?=zS (RX envs[j] f):=by unfold zy;rw[RW,RC h];rfl
def aO(G:Ga)(n:Nat):Sp:=λvs H Q _=>∃(ms:List Addr)(tv:V)(dc:Addr)(f:Formula)(ck:List (Key×V))(envs:List UW),vs=[tv,.ref dc,.int envs.length]/\lu ms H/\eJ (cut ms H) f tv/\ak.wS f/\ak.depth f<=n/\0<envs.length/\envs.length<=30000/\Rd H dc (.dK ck)/\
 (∀x∈Ry f,∃v,aI ck (Rk (x:Int))=zS v/\f_ G (cut ms H) v (envs.map λe=>T4 e x))/\∀H' x,ah H H'->f_ G (cut ms H') x (zy envs f)->Q x H'
def gw(G:Ga)(n:Nat):Sp:=λvs H Q _=>∃(ms:List Addr)(tv av:V)(dc:Addr)(c f g:Formula)(ck:List (Key×V))(envs:List UW),vs=[tv,av,.ref dc,.int envs.length]/\lu ms H/\eJ (cut ms H) (.cond c f g) tv/\ak.wS f/\ak.wS g/\ak.depth f<=n/\ak.depth g<=n/\0<envs.length/\envs.length<=30000/\Rd H dc (.dK ck)/\
 f_ G (cut ms H) av (zy envs c)/\(∀x,x∈Ry f\/x∈Ry g->∃v,aI ck (Rk (x:Int))=zS v/\f_ G (cut ms H) v (envs.map λe=>T4 e x))/\∀H' x,ah H H'->f_ G (cut ms H') x (zy envs (.cond c f g))->Q x H'
def f_.congr{I:Hp}{x:V}{r s:List Res}(h:f_ G I x r)(e:r=s):f_ G I x s:=e▸h
theorem K4{c:Formula}:yV (zy envs c) (zy envs f) (zy envs g)=zy envs (.cond c f g):=by
 apply Ui;intro j;unfold yV;rw[RW,cF];by_cases hj:j<envs.length
 .rw[V8 hj,SN,eO hj];simp only[Sx,eO hj,Vs]
  show zS (pick _ _ _)=zS (match RX envs[j] c with
   |Except.error k=>Except.error k
   |Except.ok v=>if v=0 then RX envs[j] g else RX envs[j] f)
  unfold pick;rfl
 .rw[SG (by simp;omega),SG (by rw[cF];omega)];rfl
theorem z7(T:Tc G)(h:gw G n vs H Q E):lW G (ga G) (aO G n) (ends Q) (start rM vs) H:=by
 let⟨ms,tv,av,dc,c,f,g,ck,envs,rfl,dm,⟨t,y,z,u,rfl,ht,tc,tf,tg⟩,of,og,df,dg,h0,hz,hd,hav,hck,k⟩:=h;have hav0:=hav;let⟨a,adx,an,ar,nums,lo,hi,rf,rfl,ha,han,har,ca⟩:=hav;show lW G _ _ (ends Q) [zS (.ref t),zS (.ref a),zS (.ref dc),zS (.int envs.length),zN] H;have A:=(aj ha).1;have AN:=(aj han).1;have AR:=(aj har).1;have HT:=(aj ht).1;have ln:nums.length=envs.length:=by rw[ca.len,cF]
 unfold lW
 nofun
 refine dZ T A (iX AR ?_)
 nofun
 have both:∀σ5:Option V,ke G.K (.ref t) (.int 2) H λx H1=>aO G n [x,.ref dc,.int envs.length] H1 (λx_1 H1=>ke G.K (.ref t) (.int 3) H1 λx_2 H1=>aO G n [x_2,.ref dc,.int envs.length] H1 (λx_3 H1=>ga G [.ref a,x_1,x_3] H1 Q E0) E0) E0:=λ_=>by refine iw 2 rfl HT rfl ⟨ms,z,dc,f,ck,envs,rfl,dm,tf,of,df,h0,hz,hd,λx hx=>hck x (.inl hx),λH1 x1 s1 c1=>?_⟩;refine iw 3 rfl (s1 _ _ HT) rfl ⟨ms,u,dc,g,ck,envs,rfl,dm.mono s1,tg.mono (bo s1),og,dg,h0,hz,Rd.same s1 hd,λx hx=>let⟨v,h1,h2⟩:=hck x (.inr hx);⟨v,h1,h2.mono (bo s1)⟩,λH2 x2 s2 c2=>?_⟩;refine⟨ms,.ref a,x1,x2,_,_,_,rfl,dm.mono (s1.trans s2),hav0.mono (bo (s1.trans s2)),c1.mono (bo s2),c2,by rw[cF,cF],by rw[cF,cF],by rw[cF];exact h0,by rw[cF];exact hz,λH3 x s3 nx cx=>?_⟩;exact k H3 _ ((s1.trans s2).trans s3) (cx.congr K4)
 by_cases hr:rf.length=0
 .rw[ag (by omega)];refine bh T A ⟨f8 AN,G3 AN ?_⟩
  nofun
  have noerr:∀(j:Nat)(hj:j<envs.length),∃v,RX envs[j] c=Except.ok v/\nums[j]?=zS v:=λj hj=>by
   have:=ca.ref.zero hr (j:=j) (by rw[cF];exact hj);unfold kindAt at this;rw[eO hj,SX]at this
   cases e:RX envs[j] c with
   |error kd=>rw[e]at this;cases this
   |ok v=>exact⟨v,rfl,ca.val j v (by rw[eO hj,e])⟩
  by_cases c0:nums.count 0=0
  .rw[ag (by omega)];refine iw 2 rfl HT rfl ⟨ms,z,dc,f,ck,envs,rfl,dm,tf,of,df,h0,hz,hd,λx hx=>hck x (.inl hx),λH1 x1 s1 c1=>k H1 x1 s1 (c1.congr ?_)⟩;apply Ui;intro j;by_cases hj:j<envs.length
   .rw[eO hj,eO hj];let⟨v,e1,e2⟩:=noerr j hj;have:v≠0:=λe=>by rw[e]at e2;exact List.count_eq_zero.mp c0 (Rz e2)
    show zS (RX envs[j] f)=zS (match RX envs[j] c with
     |Except.error k=>Except.error k
     |Except.ok v=>if v=0 then RX envs[j] g else RX envs[j] f)
    rw[e1];simp[this]
   .rw[SG (by rw[cF];omega),SG (by rw[cF];omega)]
  .rw[ae (by omega)];by_cases c1:nums.count 0=envs.length
   .rw[ag (by omega)];refine iw 3 rfl HT rfl ⟨ms,u,dc,g,ck,envs,rfl,dm,tg,og,dg,h0,hz,hd,λx hx=>hck x (.inr hx),λH1 x1 s1 c1'=>k H1 x1 s1 (c1'.congr ?_)⟩;have all0:=List.count_eq_length.mp (c1.trans ln.symm);apply Ui;intro j;by_cases hj:j<envs.length
    .rw[eO hj,eO hj];let⟨v,e1,e2⟩:=noerr j hj;have:v=0:=(all0 v (Rz e2)).symm
     show zS (RX envs[j] g)=zS (match RX envs[j] c with
      |Except.error k=>Except.error k
      |Except.ok v=>if v=0 then RX envs[j] g else RX envs[j] f)
     rw[e1];simp[this]
    .rw[SG (by rw[cF];omega),SG (by rw[cF];omega)]
   .rw[ae (by omega)];exact both zN
 .rw[ae (by omega)];exact both zN
def IK:∀f:Formula,0<ak.depth f
 | .const _=>by simp[ak.depth]
 | .name _=>by simp[ak.depth]
 | .two _ _ _=>by simp[ak.depth]
 | .cond _ _ _=>by simp[ak.depth]
theorem D9{rf:List (Key×V)}(ro:dM rf (zy envs f).length (kindAt (zy envs f)))(hl:rf.length=envs.length)(hg:∀e k,RX e f=Except.error k->RX e g=Except.error k):zy envs f=zy envs g:=by
 apply Ui;intro j;by_cases hj:j<envs.length
 .rw[eO hj,eO hj];let⟨k,hk⟩:=ro.full (by rw[cF];exact hl) (j:=j) (by rw[cF];exact hj);unfold kindAt at hk;rw[eO hj,SX]at hk
  cases e:RX envs[j] f with
  |ok v=>rw[e]at hk;cases hk
  |error kd=>rw[hg _ _ e]
 .rw[SG (by rw[cF];omega),SG (by rw[cF];omega)]
theorem D_(T:Tc G)(h:aO G (n+1) vs H Q E):pR G (aV G) (aO G n) (gw G n) mK (mL G) (cq G) (ends Q) (start pQ vs) H:=by
 let⟨ms,tv,dc,f,ck,envs,rfl,dm,tt,of,df,h0,hz,hd,hck,k⟩:=h;show pR G _ _ _ _ _ _ (ends Q) [zS tv,zS (.ref dc),zS (.int envs.length),zN,zN,zN,zN] H;unfold pR
 nofun
 cases f with
 |const v=>
  let⟨t,rfl,ht⟩:=tt;have HT:=(aj ht).1;refine iw 0 rfl HT rfl ?_
  nofun
  refine iw 1 rfl HT rfl ⟨ms,v,envs.length,rfl,dm,of,hz,λH' x s1 nx cx=>k H' _ s1 (cx.congr ?_)⟩;unfold zy;simp only[RX];exact(List.map_const' ..).symm
 |name x=>
  let⟨t,rfl,ht⟩:=tt;have HT:=(aj ht).1;refine iw 0 rfl HT rfl ?_
  nofun
  rw[ae (by decide)];refine iw 1 rfl HT rfl ?_;let⟨v,h1,h2⟩:=hck x (by simp[Ry]);exact fE hd h1 (k H v (ah.refl H) h2)
 |two o f g=>
  let⟨t,y,z,rfl,ht,tf,tg⟩:=tt;have HT:=(aj ht).1;have on:=ak.i8 o;refine iw 0 rfl HT rfl ?_
  nofun
  rw[ae (by omega),ae (by omega)];have d1:ak.depth f<=n/\ak.depth g<=n:=by have:max (ak.depth f) (ak.depth g)+1<=n+1:=df;omega
  refine iw 1 rfl HT rfl ⟨ms,y,dc,f,ck,envs,rfl,dm,tf,of.1,d1.1,h0,hz,hd,λx hx=>hck x (by simp[Ry,hx]),λH1 x1 s1 c1=>?_⟩
  nofun
  have c10:=c1;let⟨a,adx,an,ar,n1,l1,h1,f1,rfl,ha,han,har,ca⟩:=c1;refine dZ T (aj ha).1 (iX (aj har).1 ?_)
  nofun
  by_cases hfull:f1.length=envs.length
  .rw[ag (by omega)];refine k H1 _ s1 (c10.congr (D9 ca.ref hfull λe kd he=>?_));show(match RX e f with|Except.error k=>Except.error k| .ok v=>_)=_;rw[he]
  .rw[ae (by omega),ae (by omega)];refine iw 2 rfl (s1 _ _ HT) rfl ⟨ms,z,dc,g,ck,envs,rfl,dm.mono s1,tg.mono (bo s1),of.2,d1.2,h0,hz,Rd.same s1 hd,λx hx=>let⟨v,h1,h2⟩:=hck x (by simp[Ry,hx]);⟨v,h1,h2.mono (bo s1)⟩,λH2 x2 s2 c2=>?_⟩
   nofun
   let⟨b,bdx,bn,br,n2,l2,h2,f2,rfl,hb,hbn,hbr,cb⟩:=c2;have ln1:n1.length=envs.length:=by rw[ca.len,cF]
   have ln2:n2.length=envs.length:=by rw[cb.len,cF]
   have cm:=bo (ms:=ms) s2;refine⟨o,.ref a,.ref b,rfl,ms,.ref a,.ref b,n1,n2,l1,h1,l2,h2,rfl,dm.mono (s1.trans s2),⟨a,adx,an,ar,rfl,cm _ _ ha,cm _ _ han,ca.Hh,ca.l1,ca.h1⟩,⟨b,bdx,bn,br,rfl,hb,hbn,cb.Hh,cb.l1,cb.h1⟩,by omega,by omega,by omega,λH3 x3 s3 nx3 c3=>?_⟩
   nofun
   let⟨c,cdx,cn,cr,n3,l3,h3,f3,e3,hc,hcn,hcr,cc⟩:=c3;cases e3;have C:=(aj hc).1;have cm3:=bo (ms:=ms) s3;have lo:(SS (Ur o) n1 n2).length=envs.length:=by simp;omega
   have ha3:=cm3 _ _ (cm _ _ ha);refine bh T C (j7 T C (gS T C (dZ T (aj ha3).1 (dZ T (aj (cm3 _ _ hb)).1 (dZ T C ?_)))));have s03:=(s1.trans s2).trans s3;refine⟨ms,ar,br,cr,f1,f2,f3,envs.length,_,_,_,rfl,dm.mono s03,cm3 _ _ (cm _ _ har),cm3 _ _ hbr,hcr,hz,by rw[<-cF envs f];exact ca.ref,by rw[<-cF envs g];exact cb.ref,by rw[<-lo];exact cc.ref,λH4 r rf s4 hr ro=>?_⟩;refine rV λH5 x dx s5 nx hx=>?_;have cm5:=bo (ms:=ms) (s4.trans s5);have dm3:=dm.mono s03
   have info:∀(j:Nat)(hj:j<envs.length),(zy envs (.two o f g))[j]?=zS (match RX envs[j] f with
     |Except.error k=>Except.error k
     | .ok v=>match RX envs[j] g with
      |Except.error k=>Except.error k
      | .ok w=>Ur o v w):=λj hj=>eO hj
   refine k H5 _ ((s03.trans s4).trans s5) ⟨x,dx,cn,r,n3,l3,h3,rf,rfl,bz (dm3.mono s4) nx hx,cm5 _ _ hcn,bo s5 _ _ hr,by rw[cc.len,lo,cF],cc.l1,cc.h1,cc.Hh,?_,λj v hv=>?_⟩
   .rw[cF];refine ro.congr λj hj=>?_;unfold kindAt;rw[info j hj,eO hj,eO hj];simp only[SX]
    cases e1:RX envs[j] f with
    |error kd=>rfl
    |ok v=>
     cases e2:RX envs[j] g with
     |error kd=>rfl
     |ok w=>
      have hv:=ca.val j v (by rw[eO hj,e1]);have hw:=cb.val j w (by rw[eO hj,e2]);rw[yS hv hw];rfl
   .have hj:j<envs.length:=by rw[<-cF envs (.two o f g)];exact(RE.mp hv).1
    rw[info j hj]at hv;have hv:=RA hv
    cases e1:RX envs[j] f with
    |error kd=>rw[e1]at hv;cases hv
    |ok u=>
     rw[e1]at hv
     cases e2:RX envs[j] g with
     |error kd=>rw[e2]at hv;cases hv
     |ok w=>
      rw[e2]at hv;have hu:=ca.val j u (by rw[eO hj,e1]);have hw:=cb.val j w (by rw[eO hj,e2]);exact cc.val j v (by rw[yS hu hw];exact congrArg zS hv)
 |cond c f g=>
  have tt0:=tt;let⟨t,y,z,u,rfl,ht,tc,tf,tg⟩:=tt;have HT:=(aj ht).1;refine iw 0 rfl HT rfl ?_
  nofun
  rw[ae (by decide),ae (by decide)];have d1:ak.depth c<=n/\ak.depth f<=n/\ak.depth g<=n:=by have:max (ak.depth c) (max (ak.depth f) (ak.depth g))+1<=n+1:=df;omega
  refine iw 1 rfl HT rfl ⟨ms,y,dc,c,ck,envs,rfl,dm,tc,of.1,d1.1,h0,hz,hd,λx hx=>hck x (by simp[Ry,hx]),λH1 x1 s1 c1=>?_⟩
  nofun
  have c10:=c1;let⟨a,adx,an,ar,n1,l1,h1,f1,rfl,ha,han,har,ca⟩:=c1;refine dZ T (aj ha).1 (iX (aj har).1 ?_)
  nofun
  by_cases hfull:f1.length=envs.length
  .rw[ag (by omega)];refine k H1 _ s1 (c10.congr (D9 ca.ref hfull λe kd he=>?_));show(match RX e c with|Except.error k=>Except.error k| .ok v=>_)=_;rw[he]
  .rw[ae (by omega)];refine⟨ms,_,_,dc,c,f,g,ck,envs,rfl,dm.mono s1,tt0.mono (bo s1),of.2.1,of.2.2,d1.2.1,d1.2.2,h0,hz,Rd.same s1 hd,c10,λx hx=>?_,λH2 x2 s2 c2=>k H2 x2 (s1.trans s2) c2⟩;let⟨v,h1,h2⟩:=hck x (by obtain hx|hx:=hx<;>simp[Ry,hx]);exact⟨v,h1,h2.mono (bo s1)⟩
end
variable{k:Key}{i n:Nat}{v:V}
section
variable{α:Type}{nm:α->Nat}{R R':V->α->Prop}{kvs:List (Key×V)}{xs:List α}
def Tb(nm:α->Nat)(R:V->α->Prop)(kvs:List (Key×V))(xs:List α):Prop:=Paired (λ(kv:Key×V) x=>kv.1=(Rk (nm x:Int):Key)/\R kv.2 x) kvs xs
def Tb.keys(h:Tb nm R kvs xs):kvs.map (·.1)=xs.map λx=>(Rk (nm x:Int):Key):=by
 unfold Tb at h
 induction h with
 |nil=>rfl
 |cons a _ ih=>rw[RS,RS,a.1,ih]
def Tb.len(h:Tb nm R kvs xs):kvs.length=xs.length:=Paired.nS h
def Tb.mono(h:Tb nm R kvs xs)(f:∀v x,R v x->R' v x):Tb nm R' kvs xs:=Paired.j9 h λ_ _ z=>⟨z.1,f _ _ z.2⟩
def Tb.at(h:Tb nm R kvs xs)(hk:kvs[i]?=zS (k,v)):∃x,xs[i]?=zS x/\k=Rk (nm x:Int)/\R v x:=
 let⟨x,e,f⟩:=Paired.nU h hk
 ⟨x,e,f⟩
def qe(nm:α->Nat)(xs:List α)(z:Int):Option α:=if z<0 then zN else xs.find? λx=>nm x==z.toNat
theorem Tb.look(h:Tb nm R kvs xs)(z:Int):(aI kvs (Rk z)=zN/\qe nm xs z=zN/\∀x∈xs,(nm x:Int)≠z)\/∃v x,aI kvs (Rk z)=zS v/\qe nm xs z=zS x/\R v x/\x∈xs/\z=nm x:=by
 unfold Tb at h
 induction h with
 |nil=>exact .inl ⟨rfl,by unfold qe;split<;>rfl,λx hx=>by simp at hx⟩
 | @cons kv x kvs xs a _ ih=>
  by_cases e:(nm x:Int)=z
  .refine .inr ⟨kv.2,x,dA (by rw[a.1,e]),?_,a.2,Rv,e.symm⟩;unfold qe;rw[ae (by omega),Us];rw[beq_iff_eq];omega
  .have e1:aI (kv::kvs) (Rk z)=aI kvs (Rk z):=dB (by rw[a.1];intro q;injection q with q;exact e q);have e2:qe nm (x::xs) z=qe nm xs z:=by
    unfold qe;split
    .rfl
    .rw[T5];rw[beq_iff_eq];omega
   rw[e1,e2];obtain⟨i1,i2,i3⟩|⟨v,y,i1,i2,i3,i4,i5⟩:=ih
   .exact .inl ⟨i1,i2,λy hy=>by
     obtain q|q:=Rn.mp hy
     .rw[q];exact e
     .exact i3 y q⟩
   .exact .inr ⟨v,y,i1,i2,i3,Rp _ i4,i5⟩
def Tz{β γ:Type}{F:β->γ->Prop}{l:List β}{m:List γ}(h:Paired F l m){b:β}{c:γ}(f:F b c):Paired F (l++[b]) (m++[c]):=by
 induction h with
 |nil=>exact .cons f .nil
 |cons a _ ih=>exact .cons a ih
def Tb.new{x:α}(h:Tb nm R kvs xs)(hn:aI kvs (Rk (nm x:Int))=zN)(r:R v x):Tb nm R (putK kvs (Rk (nm x:Int)) v) (xs++[x]):=by rw[iK v hn];exact Tz h ⟨rfl,r⟩
theorem Tb.old{w:V}{g:α->α}(h:Tb nm R kvs xs)(hn:aI kvs (Rk (n:Int))=zS w)(r:∀x∈xs,nm x=n->nm (g x)=n/\R v (g x)):Tb nm R (putK kvs (Rk (n:Int)) v) (xs.map λx=>if nm x=n then g x else x):=by
 unfold putK;rw[fw,hn,ag (show(zS w).isSome=true from rfl)];clear hn;unfold Tb at h⊢
 induction h with
 |nil=>exact .nil
 | @cons kv x kvs xs a _ ih=>
  refine .cons ?_ (ih λy hy=>r y (Rp _ hy));by_cases e:nm x=n
  .dsimp only;rw[ag e,ag (by rw[a.1,e])];exact⟨by rw[a.1,e];rw[(r x Rv e).1],(r x Rv e).2⟩
  .dsimp only;rw[ae e,ae (by rw[a.1];intro q;injection q with q;omega)];exact a
theorem Tb.drop(h:Tb nm R kvs xs):Tb nm R (cE kvs (Rk (n:Int))) (xs.filter λx=>nm x !=n):=by
 unfold cE;unfold Tb at h⊢
 induction h with
 |nil=>exact .nil
 | @cons kv x kvs xs a _ ih=>
  by_cases e:nm x=n
  .rw[Xd (by rw[a.1,e];simp),Xd (by simp[e])];exact ih
  .rw[Xe (by rw[a.1];simp;omega),Xe (by simp[e])];exact .cons a ih
def qO(h:aI kvs k=zN):cE kvs k=kvs:=by unfold cE;rw[List.filter_eq_self];intro p hp;rw[decide_eq_true_eq];intro e;exact yb h (Rm.mpr ⟨p,hp,e⟩)
end
structure Lay where
 p:Addr
 dx:Addr
 pi:Addr
 pc:Addr
 pt:Addr
 pp:Addr
 pr:Addr
 pn:Addr
 ki:List (Key×V)
 kc:List (Key×V)
 kt:List (Key×V)
 da:List Addr
def Lay.own(L:Lay):List Addr:=L.p::L.pi::L.pc::L.pt::L.da
def ll(G:Ga)(ms:List Addr)(H:Hp)(v:V)(i:Input):Prop:=∃a dx l,v=.ref a/\H a=zS (.ins G.CD dx (fD (.ref l) (.int (i.place:Int))))/\cut ms H l=zS (.lst (iL i.values))
structure eA(G:Ga)(ms:List Addr)(H:Hp)(s:State)(L:Lay):Prop where
 wf:ak.WF s
 dm:lu ms H
 sub:∀a∈L.own,a∈ms
 nb:H L.p=zS (.ins G.CN L.dx (fN (.ref L.pi) (.ref L.pc) (.ref L.pt) (.ref L.pp) (.ref L.pr) (.ref L.pn)))
 hi:H L.pi=zS (.dK L.ki)
 hc:H L.pc=zS (.dK L.kc)
 ht:Rd H L.pt (.dK L.kt)
 fi:Tb (λi=>i.name) (ll G ms H) L.ki s.inputs
 hZ:Tb (λ(c:Nat×Formula)=>c.1) (λv c=>fP G (cut ms H) v c.2) L.kc s.cells
 i6:Tb (λ(c:Nat×Formula)=>c.1) (λv c=>fP G (cut ms H) v c.2) L.kt s.tests
 dd:L.ki.map (·.2)=L.da.map V.ref
variable{d:Addr}{σ:L2.St}{kvs:List (Key×V)}{B:List Nat}{td:TE}
section
variable{G:Ga}{ms ms':List Addr}{H H':Hp}{s:State}{L:Lay}{vs:List V}{Q:VK}{E:XK}
def eA.move(b:eA G ms H s L)(k:∀a∈L.own,∀o,H a=zS o->H' a=zS o)(c:ah (cut ms H) (cut ms' H'))(sb:∀a∈L.own,a∈ms')(d:lu ms' H'):eA G ms' H' s L where
 wf:=b.wf
 dm:=d
 sub:=sb
 nb:=k _ (by simp[Lay.own]) _ b.nb
 hi:=k _ (by simp[Lay.own]) _ b.hi
 hc:=k _ (by simp[Lay.own]) _ b.hc
 ht:=by
  obtain h|⟨o,h⟩:=b.ht
  .exact .inl (k _ (by simp[Lay.own]) _ h)
  .exact .inr ⟨o,k _ (by simp[Lay.own]) _ h⟩
 fi:=by
  have:Paired (λ(kv:Key×V) i=>(kv.1=(Rk (i.name:Int):Key)/\ll G ms H kv.2 i)/\kv.2∈L.ki.map (·.2)) L.ki s.inputs:=by
   have h:=b.fi;unfold Tb at h;have gen:∀(kvs:List (Key×V))(is:List Input),Paired (λ(kv:Key×V) i=>kv.1=(Rk (i.name:Int):Key)/\ll G ms H kv.2 i) kvs is->(∀kv∈kvs,kv.2∈L.ki.map (·.2))->Paired (λ(kv:Key×V) i=>(kv.1=(Rk (i.name:Int):Key)/\ll G ms H kv.2 i)/\kv.2∈L.ki.map (·.2)) kvs is:=by
    intro kvs is h
    induction h with
    |nil=>intro _;exact .nil
    |cons a _ ih=>intro q;exact .cons ⟨a,q _ Rv⟩ (ih λkv fK=>q kv (Rp _ fK))
   exact gen _ _ h λkv fK=>Rm.mpr ⟨kv,fK,rfl⟩
  refine Paired.j9 this λkv i z=>⟨z.1.1,?_⟩;let⟨⟨_,a,dx,l,e,h1,h2⟩,z2⟩:=z;refine⟨a,dx,l,e,k a ?_ _ h1,c _ _ h2⟩;rw[b.dd,e]at z2;let⟨a',ha',ee⟩:=Rm.mp z2;injection ee with ee;subst ee;simp[Lay.own,ha']
 hZ:=b.hZ.mono λv c' z=>z.mono c
 i6:=b.i6.mono λv c' z=>z.mono c
 dd:=b.dd
def eA.same(b:eA G ms H s L)(k:ah H H'):eA G ms H' s L:=b.move (λa _ o h=>k a o h) (bo k) b.sub (b.dm.mono k)
def eA.input(b:eA G ms H s L)(z:Int):(aI L.ki (Rk z)=zN/\YX s z=zN/\∀i∈s.inputs,(i.name:Int)≠z)\/∃v i,aI L.ki (Rk z)=zS v/\YX s z=zS i/\ll G ms H v i/\i∈s.inputs/\z=i.name:=b.fi.look z
def eA.cell(b:eA G ms H s L)(z:Int):(aI L.kc (Rk z)=zN/\∀c∈s.cells,(c.1:Int)≠z)\/∃v c,aI L.kc (Rk z)=zS v/\fP G (cut ms H) v c.2/\c∈s.cells/\z=c.1:=by
 obtain⟨h1,_,h2⟩|⟨v,c,h1,_,h2,h3,h4⟩:=b.hZ.look z
 .exact .inl ⟨h1,h2⟩
 .exact .inr ⟨v,c,h1,h2,h3,h4⟩
def yW(s:State)(z:Int):UX s z=(qe (λ(c:Nat×Formula)=>c.1) s.tests z).map λc=>c.2:=by
 unfold UX qe;split
 .rfl
 .rfl
def eA.test(b:eA G ms H s L)(z:Int):(aI L.kt (Rk z)=zN/\UX s z=zN/\∀c∈s.tests,(c.1:Int)≠z)\/∃v c,aI L.kt (Rk z)=zS v/\UX s z=zS c.2/\fP G (cut ms H) v c.2/\c∈s.tests/\z=c.1:=by
 obtain⟨h1,h0,h2⟩|⟨v,c,h1,h0,h2,h3,h4⟩:=b.i6.look z
 .exact .inl ⟨h1,by rw[yW,h0];rfl,h2⟩
 .exact .inr ⟨v,c,h1,by rw[yW,h0];rfl,h2,h3,h4⟩
theorem qf(s:State)(z:Int):So s z=true<->(∃i∈s.inputs,(i.name:Int)=z)\/∃c∈s.cells,(c.1:Int)=z:=by
 rw[ak.kL];unfold ak.names;rw[Ru,Rm,Rm];constructor
 .rintro⟨h0,⟨i,hi,e⟩|⟨c,hc,e⟩⟩
  .exact .inl ⟨i,hi,by omega⟩
  .exact .inr ⟨c,hc,by omega⟩
 .rintro(⟨i,hi,e⟩|⟨c,hc,e⟩)
  .exact⟨by omega,.inl ⟨i,hi,by omega⟩⟩
  .exact⟨by omega,.inr ⟨c,hc,by omega⟩⟩
def eA.has(b:eA G ms H s L)(z:Int):((aI L.ki (Rk z)).isSome||(aI L.kc (Rk z)).isSome)=So s z:=by
 rw[S6,qf,UA];obtain⟨h1,_,h2⟩|⟨v,i,h1,_,_,hi,e⟩:=b.input z
 .obtain⟨g1,g2⟩|⟨v,c,g1,_,hc,e⟩:=b.cell z
  .rw[h1,g1];constructor
   .rintro(q|q)<;>cases q
   .rintro(⟨i,hi,e⟩|⟨c,hc,e⟩)
    .exact absurd e (h2 i hi)
    .exact absurd e (g2 c hc)
  .rw[g1];exact⟨λ_=>.inr ⟨c,hc,e.symm⟩,λ_=>.inr rfl⟩
 .rw[h1];exact⟨λ_=>.inl ⟨i,hi,e.symm⟩,λ_=>.inl rfl⟩
def dL(G:Ga):Sp:=λvs H Q _=>∃ms s L z,vs=[.ref L.p,.int z]/\eA G ms H s L/\Q (.bl (So s z)) H
def F0(T:Tc G)(h:dL G vs H Q E):sD G (ends Q) (start yu vs) H:=by
 let⟨ms,s,L,z,rfl,b,q⟩:=h;show sD G (ends Q) [zS (.ref L.p),zS (.int z)] H;unfold sD
 nofun
 rw[<-b.has z]at q;refine bu T b.nb (ow (.inl b.hi) ⟨_,rfl,?_⟩)
 cases e:(aI L.ki (Rk z)).isSome with
 |true=>rw[e]at q;exact q
 |false=>
  rw[e]at q;rw[ae (by decide)];exact ft T b.nb (ow (.inl b.hc) q)
def Tb.listed{α:Type}{nm:α->Nat}{R:V->α->Prop}{xs:List α}(h:Tb nm R kvs xs):(kvs.map λkv=>kV kv.1)=nL (xs.map nm):=by
 have:(kvs.map λkv=>kV kv.1)=(kvs.map (·.1)).map kV:=by rw[RV];rfl
 rw[this,h.keys,RV];simp only[nL,RV];rfl
def ek(G:Ga):Sp:=λvs H Q _=>∃ms s L,vs=[.ref L.p]/\eA G ms H s L/\∀H' x,ah H H'->H x=zN->H' x=zS (.lst (nL (ak.names s)))->Q (.ref x) H'
theorem Ea(T:Tc G)(h:ek G vs H Q E):pL G (ends Q) (start v6 vs) H:=by
 let⟨ms,s,L,rfl,b,k⟩:=h;show pL G (ends Q) [zS (.ref L.p)] H;unfold pL
 nofun
 refine bu T b.nb (w_ (.inl b.hi) λl1 n1=>?_);have s1:=ah.upd (o:=.lst (L.ki.map λkv=>kV kv.1)) n1;have b1:=b.same s1;refine ft T b1.nb (w_ (.inl b1.hc) λl2 n2=>?_);have s2:=ah.upd (o:=.lst (L.kc.map λkv=>kV kv.1)) n2;have hl1:(upd (upd H l1 (.lst (L.ki.map λkv=>kV kv.1))) l2 (.lst (L.kc.map λkv=>kV kv.1))) l1=zS (.lst (L.ki.map λkv=>kV kv.1)):=s2 _ _ aa;refine D1 hl1 aa (fq ?_) λp hp=>k _ p ((s1.trans s2).trans (ah.upd hp)) ((s1.trans s2).free hp) ?_
 .rw[Rr,Rr,b.fi.len,b.hZ.len];have:=b.wf.nI;have:=b.wf.nC;omega
 .rw[aa,b.fi.listed,b.hZ.listed];unfold ak.names nL;rw[Sa]
def fX(G:Ga):Sp:=λvs H Q _=>∃ms s L n,vs=[.ref L.p,.int ((n:Nat):Int)]/\eA G ms H s L/\∀H' x,ah H H'->H x=zN->H' x=zS (.lst (nL (s.inputs.map (·.name)++(s.cells.takeWhile λc=>c.1 !=n).map (·.1))))->Q (.ref x) H'
structure PH(H:Hp)(L:Lay)(s:State)(l:Addr)(n:Nat)(od:Obj)(i:Nat)(σ:L2.St)(H':Hp):Prop where
 ex:∃(o:Option V),σ=[zS (.ref L.p),zS (.int (n:Int)),zS (.ref l),o]/\(∀a u,H a=zS u->a≠L.pc->H' a=zS u)/\H' L.pc=zS (.fg od (.dK L.kc))/\H' l=zS (.lst (nL (s.inputs.map (·.name)++(s.cells.take i).map (·.1))))/\∀c∈s.cells.take i,c.1≠n
def takeWhile_stop{α:Type}{p:α->Bool}{l:List α}{x:α}(h:l[i]?=zS x)(hx:p x=false)(hb:∀c∈l.take i,p c=true):l.takeWhile p=l.take i:=by
 induction i generalizing l with
 |zero=>
  cases l with
  |nil=>rfl
  |cons a r=>simp at h;subst h;rw[List.takeWhile_cons_of_neg (by rw[hx];decide)];rfl
 |succ i ih=>
  cases l with
  |nil=>rfl
  |cons a r=>
   rw[YY]at hb⊢;rw[YZ (hb a Rv)];rw[ih (by simpa using h) λc hc=>hb c (Rp _ hc)]
def takeWhile_all{α:Type}{p:α->Bool}{l:List α}(hb:∀c∈l,p c=true):l.takeWhile p=l:=by
 induction l with
 |nil=>rfl
 |cons a r ih=>rw[YZ (hb a Rv),ih λc hc=>hb c (Rp _ hc)]
theorem yX(T:Tc G)(h:fX G vs H Q E):kY G (ends Q) (start pM vs) H:=by
 let⟨ms,s,L,n,rfl,b,k⟩:=h;show kY G (ends Q) [zS (.ref L.p),zS (.int (n:Int)),zN,zN] H;unfold kY
 nofun
 refine bu T b.nb (w_ (.inl b.hi) λl n1=>?_);have s1:=ah.upd (o:=.lst (L.ki.map λkv=>kV kv.1)) n1;have b1:=b.same s1;have npl:L.p≠L.pc:=aQ b.nb b.hc (by intro z;cases z);have nlc:l≠L.pc:=λe=>by rw[e,b.hc]at n1;cases n1
 nofun
 refine nR b1.hc (λod R r=>?_) (PH H L s l n) (λod=>⟨zN,rfl,λa u e ne=>by rw[ab ne];exact s1 _ _ e,aa,?_,λc hc=>by simp at hc⟩) (λod i σ' H' z=>z.ex.elim λ_ w=>w.2.2.1) (λod i kk v σ' H' hk z=>?_) (λod σ' H' z=>?_)
 .nofun
  exact ft T (by rw[ab npl];exact b1.nb) r
 .rw[ab nlc,aa,b.fi.listed];simp
 .let⟨o,rfl,keep,hpc,hl,hne⟩:=z;let⟨c,hc,rfl,_⟩:=b.hZ.at hk;dsimp only[kV]
  nofun
  by_cases e:c.1=n
  .rw[ag (by omega)];refine⟨hpc,?_⟩
   nofun
   refine k _ l (λa u ea=>?_) n1 ?_
   .by_cases e2:a=L.pc
    .subst e2;rw[aa,<-b.hc,ea]
    .rw[ab e2];exact keep a u ea e2
   .rw[ab nlc,hl,takeWhile_stop hc (by simp[e]) λc' hc'=>by simp[hne c' hc']]
  .rw[ae (by omega)];refine⟨f8 hl,yL hl (eu ?_) ?_⟩
   .rw[jZ,RH,Rr,Rr,Sf];have:=b.wf.nI;have:=b.wf.nC;omega
   .refine⟨_,rfl,λa u ea ne=>?_,?_,?_,λc' hc'=>?_⟩
    .rw[ab (ay ea n1)];exact keep a u ea ne
    .rw[ab nlc.symm];exact hpc
    .rw[aa,Sl,hc];simp[nL]
    .rw[Sl,hc]at hc';obtain q|q:=Ru.mp hc'
     .exact hne c' q
     .simp at q;subst q;exact e
 .let⟨o,rfl,keep,hpc,hl,hne⟩:=z;rw[b.hZ.len,W9 (Ro _)]at hl hne
  nofun
  refine k _ l (λa u ea=>?_) n1 ?_
  .by_cases e2:a=L.pc
   .subst e2;rw[aa,<-b.hc,ea]
   .rw[ab e2];exact keep a u ea e2
  .rw[ab nlc,hl,takeWhile_all λc' hc'=>by simp[hne c' hc']]
def Eb(h:∀R:VK,R (.ref d) H->td σ H R)(hd:Rd H d (.dK kvs))(q:∀v,H v=zN->Q (.ref v) (upd H v (vZ v d))):w6 td σ H Q:=h _ ⟨d,kvs,rfl,hd,q⟩
def G4{v:Addr}(hv:H v=zS (vZ v d))(hd:Rd H d (.dK kvs))(q:∀l,H l=zN->Q (.ref l) (upd H l (.lst (kvs.map (·.2))))):B4 [.ref v] H Q:=⟨v,d,kvs,rfl,hv,hd,q⟩
def lc(G:Ga):Sp:=λvs H Q _=>∃ms s L x,vs=[.ref L.p,.int ((x:Nat):Int)]/\eA G ms H s L/\∀H',ah H H'->Q (.bl (UY s x)) H'
def Tb.vals{α:Type}{nm:α->Nat}{R:V->α->Prop}{xs:List α}(h:Tb nm R kvs xs):Paired R (kvs.map (·.2)) xs:=by
 unfold Tb at h
 induction h with
 |nil=>exact .nil
 |cons a _ ih=>exact .cons a.2 ih
def Paired.QR{β γ:Type}{F:β->γ->Prop}{l l':List β}{m m':List γ}(h:Paired F l m)(h':Paired F l' m'):Paired F (l++l') (m++m'):=by
 induction h with
 |nil=>exact h'
 |cons a _ ih=>exact .cons a ih
def K6{α:Type}{p:α->Bool}{l:List α}{c:α}(h:l[i]?=zS c):(l.take (i+1)).any p=((l.take i).any p||p c):=by rw[Sl,h];simp
structure PJ(H:Hp)(L:Lay)(s:State)(x:Nat)(i:Nat)(σ:L2.St)(H':Hp):Prop where
 ex:∃(o:Option V),σ=[zS (.ref L.p),zS (.int (x:Int)),o]/\ah H H'/\((s.cells++s.tests).take i).any (λc=>(Ry c.2).contains x)=false
theorem IL(T:Tc G)(h:lc G vs H Q E):vp G (ends Q) (start Bg vs) H:=by
 let⟨ms,s,L,x,rfl,b,k⟩:=h;show vp G (ends Q) [zS (.ref L.p),zS (.int (x:Int)),zN] H;unfold vp
 nofun
 refine Eb (d:=L.pc) (λR r=>?_) (.inl b.hc) λv1 n1=>?_
 .nofun;exact ft T b.nb r
 have s1:=ah.upd (o:=vZ v1 L.pc) n1;refine G4 aa (.inl (s1 _ _ b.hc)) λl1 n2=>?_;have s2:=s1.trans (ah.upd (o:=.lst (L.kc.map (·.2))) n2);have b2:=b.same s2;refine Eb (d:=L.pt) (λR r=>?_) b2.ht λv3 n3=>?_
 .nofun;exact dU T b2.nb r
 have s3:=s2.trans (ah.upd (o:=vZ v3 L.pt) n3);have b3:=b.same s3;refine G4 aa b3.ht λl4 n4=>?_;have s4:=s3.trans (ah.upd (o:=.lst (L.kt.map (·.2))) n4);have b4:=b.same s4;refine D1 (((ah.upd n3).trans (ah.upd n4)) _ _ aa) aa (fq ?_) λp hp=>?_
 .rw[Rr,Rr,b.hZ.len,b.i6.len];have:=b.wf.nT;have:=b.wf.nC;omega
 have s5:=s4.trans (ah.upd (o:=.lst (L.kc.map (·.2)++L.kt.map (·.2))) hp);have b5:=b.same s5;have pr:=Paired.QR b5.hZ.vals b5.i6.vals;refine qc aa (PJ _ L s x) ⟨zN,rfl,ah.refl _,by simp⟩ (λi σ H' _ z=>z.ex.elim λ_ w=>w.2.1 _ _ aa) (λi v σ H' hv z=>?_) (λσ H' z=>?_)
 .let⟨o,rfl,s6,ha⟩:=z;let⟨c,hc,fa⟩:=Paired.nU pr hv;let⟨a,dx,p',t,nn,kvs,rfl,h1,_,_,h4,h5⟩:=fa;dsimp only
  nofun
  refine ux T (s6 _ _ (aj h1).1) (ow (.inl (s6 _ _ (aj h4).1)) ⟨_,rfl,?_⟩);rw[h5.has x];by_cases e:x∈Ry c.2
  .rw[ag (by simpa using e)]
   nofun
   have:=k H' (s5.trans s6);have e2:UY s x=true:=by unfold UY;rw[Tg];exact⟨c,Rz hc,by simpa using e⟩
   rw[e2]at this;exact this
  .rw[ae (by simpa using e)];refine⟨_,rfl,s6,?_⟩;rw[K6 hc,ha];simpa using e
 .let⟨o,rfl,s6,ha⟩:=z;have e1:(L.kc.map (·.2)++L.kt.map (·.2)).length=(s.cells++s.tests).length:=Paired.nS pr;rw[e1,R9]at ha;have:=k H' (s5.trans s6);have e2:UY s x=false:=ha;rw[e2]at this
  nofun
  exact this
def cj(G:Ga):Sp:=λvs H Q _=>∃ms s L fv f,vs=[.ref L.p,fv]/\eA G ms H s L/\fP G (cut ms H) fv f/\(∀x∈Ry f,x∈ak.names s)/\∀H' x kvs,ah H H'->H x=zN->H' x=zS (.dK kvs)->fh kvs (ak.ci s.cells (Ry f))->Q (.ref x) H'
def sQ{ks:List Key}(nd:ks.Nodup)(hk:∀k∈ks,∃j:Nat,j<n/\k=Rk (j:Int)):ks.length<=n:=by
 have:∀{ks:List Key},ks.Nodup->(∀k∈ks,∃j:Nat,j<n/\k=Rk (j:Int))->∃l:List Nat,l.Nodup/\(∀x∈l,x<n)/\ks=l.map λ(j:Nat)=>(Rk (j:Int):Key):=by
  intro ks
  induction ks with
  |nil=>intro _ _;exact⟨[],SI,by simp,rfl⟩
  |cons k r ih=>
   intro nd hk;let⟨l,l1,l2,l3⟩:=ih (RK.mp nd).2 λk hk'=>hk k (Rp _ hk');let⟨j,hj,rfl⟩:=hk k Rv;refine⟨j::l,RK.mpr ⟨λhm=>(RK.mp nd).1 ?_,l1⟩,?_,by rw[l3];rfl⟩
   .rw[l3];exact Rm.mpr ⟨j,hm,rfl⟩
   .intro x hx;obtain e|e:=Rn.mp hx
    .subst e;exact hj
    .exact l2 x e
 let⟨l,l1,l2,l3⟩:=this nd hk;rw[l3,Rr];exact lL l1 l2
theorem fh.len(h:fh kvs B)(hb:∀x∈B,x<=31):kvs.length<=32:=by
 have:=sQ (n:=32) h.nd λk hk=>by let⟨x,hx,e⟩:=(h.key k).mp hk;exact⟨x,by have:=hb x hx;omega,e⟩
 simpa using this
def fh.merge{more:List (Key×V)}{C:List Nat}(h:fh kvs B)(g:fh more C):fh (gu kvs more) (B++C):=⟨yU h.nd,λk=>by
 rw[<-mM,sN k g.nd,Y0,UA,mM,mM,h.key,g.key];constructor
 .rintro(⟨x,hx,e⟩|⟨x,hx,e⟩)
  .exact⟨x,SD _ hx,e⟩
  .exact⟨x,Sm _ hx,e⟩
 .rintro⟨x,hx,e⟩;obtain q|q:=Ru.mp hx
  .exact .inr ⟨x,q,e⟩
  .exact .inl ⟨x,q,e⟩⟩
structure PK(H:Hp)(L:Lay)(s:State)(fv:V)(f:Formula)(d l:Addr)(i:Nat)(σ:L2.St)(H':Hp):Prop where
 ex:∃(o:Option V)(kvs:List (Key×V)),σ=[zS (.ref L.p),zS fv,zS (.ref d),o]/\ah H H'/\H' d=zS (.dK kvs)/\fh kvs (ak.ci (s.cells.drop (s.cells.length-i)) (Ry f))/\H' l=zS (.lst (L.kc.map λkv=>kV kv.1))
def qg(w:ak.WF s){x:Nat}(h:x∈ak.names s):x<=31:=by
 unfold ak.names at h;obtain q|q:=Ru.mp h
 .let⟨i,hi,e⟩:=Rm.mp q;rw[<-e];exact(w.fi i hi).name
 .let⟨c,hc,e⟩:=Rm.mp q;rw[<-e];exact w.zw c hc
theorem z8(T:Tc G)(h:cj G vs H Q E):lV G (ends Q) (start rL vs) H:=by
 let⟨ms,s,L,fv,f,rfl,b,fa,rn,k⟩:=h;show lV G (ends Q) [zS (.ref L.p),zS fv,zN,zN] H;have fa0:=fa;let⟨a,dx,p',t,nn,kvs0,rfl,h1,_,_,h4,h5⟩:=fa;unfold lV
 nofun
 refine ux T (aj h1).1 (Cr (.inl (aj h4).1) λd nd=>?_);have s1:=ah.upd (o:=.dK kvs0) nd;have b1:=b.same s1
 nofun
 refine ft T b1.nb (w_ (.inl b1.hc) λl nl=>?_);have s2:=s1.trans (ah.upd (o:=.lst (L.kc.map λkv=>kV kv.1)) nl);have nld:l≠d:=λe=>by rw[e,aa]at nl;cases nl
 have bl:∀(ds:List (Nat×Formula)),(∀c∈ds,c∈s.cells)->∀x∈ak.ci ds (Ry f),x∈ak.names s:=λds hd=>ak.AE (λc hc x hx=>ak.m9 b.wf (hd c hc) x hx) rn;have kl:(L.kc.map λkv=>kV kv.1).length=s.cells.length:=by rw[Rr,b.hZ.len]
 refine DY aa (PK H L s (.ref a) f d l) ⟨zN,kvs0,rfl,s2,?_,?_,aa⟩ (λi σ H' _ z=>z.ex.elim λ_ w=>w.elim λ_ w=>w.2.2.2.2) (λi v σ H' hi hv z=>?_) (λσ H' z=>?_)
 .rw[ab nld.symm,aa]
 .rw[YQ,YR];exact h5
 .let⟨o,kvs,rfl,s3,hd,ko,hl⟩:=z;rw[kl]at hi hv;let⟨c,hc,e1⟩:=D4 (l:=s.cells) rfl hi;have hx:v=.int (c.1:Int):=by rw[b.hZ.listed]at hv;simp[nL,hc]at hv;exact hv.symm
  subst hx;have b3:=b.same s3;dsimp only
  nofun
  refine ow (.inl hd) ⟨_,rfl,?_⟩;rw[ko.has c.1];have e2:ak.ci (s.cells.drop (s.cells.length-(i+1))) (Ry f)=ak.fu (ak.ci (s.cells.drop (s.cells.length-i)) (Ry f)) c:=by rw[e1,ak.jB]
  by_cases e:c.1∈ak.ci (s.cells.drop (s.cells.length-i)) (Ry f)
  .rw[ag (by simpa using e)];obtain⟨_,g2⟩|⟨w,c',g1,fc,hc',ec⟩:=b.cell c.1
   .exact absurd rfl (g2 c (Rz hc))
   have ecc:c'=c:=ak.b7 b.wf.Qa hc' (Rz hc) (by omega);subst ecc;let⟨ca,cdx,cp,ct,cn,ckv,rfl,f1,_,_,f4,f5⟩:=fc;have n1:=ko.len λx hx=>qg b.wf (bl _ (λc hc=>List.mem_of_mem_drop hc) x hx);have n2:=f5.len λx hx=>qg b.wf (ak.m9 b.wf hc' x hx);refine KL (b:=cn) (more:=ckv) hd (λR r=>?_) (.inl (s3 _ _ (aj f4).1)) (λe=>by rw[e,(aj f4).1]at nd;cases nd) (by omega) ?_
   .nofun
    exact ft T b3.nb (fE (.inl b3.hc) g1 (ux T (s3 _ _ (aj f1).1) r))
   .refine⟨_,_,rfl,ah.put s3 nd,aa,?_,by rw[ab nld];exact hl⟩;rw[e2];unfold ak.fu;rw[ag e];exact ko.merge f5
  .rw[ae (by simpa using e)];refine⟨_,kvs,rfl,s3,hd,?_,hl⟩;rw[e2];unfold ak.fu;rw[ae e];exact ko
 .let⟨o,kvs,rfl,s3,hd,ko,hl⟩:=z;rw[kl,YS,Xa]at ko
  nofun
  exact k H' d kvs s3 nd hd ko
def Cy{g:TG}{tt:TT}{te:TE}{vs:List Nat}(h:H d=zS (.dK kvs))(htd:∀od(R:VK),R (.ref d) (upd H d (.fg od (.dK kvs)))->td σ (upd H d (.fg od (.dK kvs))) R)(hz:kvs.length<16000000)(out:Nat->List V)(h0:out 0=[])(hlen:∀i,(out i).length<=i)(hs:∀od i k v H1(R:VK)(R0:Hp->Prop),kvs[i]?=zS (k,v)->ah (upd H d (.fg od (.dK kvs))) H1->(∀y H2,ah H1 H2->out (i+1)=out i++[y]->R y H2)->(∀H2,ah H1 H2->out (i+1)=out i->R0 H2)->sM g tt te vs σ (kV k) H1 R R0)(hd:∀H' p,ah H H'->H p=zN->H' p=zS (.lst (out kvs.length))->Q (.ref p) H'):Fo (vW (vY td) g tt te vs) σ H Q:=by
 refine⟨d,_,h,True.intro,λod=>?_⟩;refine htd od _ ⟨d,od,rfl,.inl ⟨kvs,aa,?_⟩⟩;show Mn (QJ d od kvs) g tt te vs σ (upd H d (.fg od (.dK kvs))) (λv H'=>H' d=zS (HO.fg od (HO.dK kvs))/\Q v (upd H' d (HO.dK kvs)));refine yK (n:=kvs.length) hz out h0 hlen (λi H' hi s1=>⟨s1 _ _ aa,hi⟩) (λH' s1=>⟨s1 _ _ aa,Ro _⟩) (λi x H1 H' R R0 hi s1 y k1 k2=>?_) (λH' p s1 hp e=>⟨s1 _ _ aa,?_⟩)
 .let⟨eH,k,v,hk,ex⟩:=y;subst ex eH;exact hs od i k v _ R R0 hk s1 k1 k2
 .have np:p≠d:=λq=>by rw[q,aa]at hp;cases hp
  refine hd _ p (λb u eb=>?_) (by rw[ab np]at hp;exact hp) (by rw[ab np];exact e);by_cases q:b=d
  .subst q;rw[aa,<-h,eb]
  .rw[ab q];exact s1 _ _ (by rw[ab q];exact eb)
def cV(G:Ga):Sp:=λvs H Q _=>∃ms s L fv f,vs=[.ref L.p,fv]/\eA G ms H s L/\fP G (cut ms H) fv f/\(∀x∈Ry f,x∈ak.names s)/\∀H' x,ah H H'->H x=zN->H' x=zS (.lst (nL (S_ s (Ry f))))->Q (.ref x) H'
theorem Ec(T:Tc G)(h:cV G vs H Q E):pO G (cj G) (ends Q) (start pN vs) H:=by
 let⟨ms,s,L,fv,f,rfl,b,fa,rn,k⟩:=h;show pO G _ (ends Q) [zS (.ref L.p),zS fv,zN,zN] H;unfold pO
 nofun
 refine⟨ms,s,L,fv,f,rfl,b,fa,rn,λH1 d kvs s1 nd hd ko=>?_⟩;have b1:=b.same s1
 nofun
 have npl:L.p≠L.pi:=aQ b.nb b.hi (by intro z;cases z);have ndi:d≠L.pi:=λe=>by rw[e,b.hi]at nd;cases nd
 refine Cy b1.hi (λod R r=>?_) (by rw[b.fi.len];have:=b.wf.nI;omega) (λi=>nL (((s.inputs.take i).map (·.name)).filter λx=>decide (x∈ak.ci s.cells (Ry f)))) rfl (λi=>?_) (λod i kk v H2 R R0 hk s2 k1 k2=>?_) (λH2 p s2 hp e=>?_)
 .nofun
  exact bu T (by rw[ab npl];exact b1.nb) r
 .rw[jZ];refine RO (Th _ _) ?_;rw[Rr,Sf];exact UT _ _
 .let⟨x,hx,rfl,_⟩:=b.fi.at hk;dsimp only[sM,kV]
  nofun
  refine ow (.inl (s2 _ _ (by rw[ab ndi];exact hd))) ⟨_,rfl,?_⟩;rw[ko.has x.name];by_cases e:x.name∈ak.ci s.cells (Ry f)
  .rw[ag (by simpa using e)]
   nofun
   refine k1 _ _ (ah.refl _) ?_;rw[Sl,hx];simp[e,nL]
  .rw[ae (by simpa using e)];refine k2 _ (ah.refl _) ?_;rw[Sl,hx];simp[e,nL]
 .refine k H2 p (s1.trans s2) (s1.free hp) ?_;rw[e,b.fi.len,R9,ak.E2 b.wf rn]
def bp(G:Ga):Sp:=λvs H Q _=>∃(a dx l:Addr)(i:Input),vs=[.ref a]/\H a=zS (.ins G.CD dx (fD (.ref l) (.int (i.place:Int))))/\H l=zS (.lst (iL i.values))/\i.place<i.values.length/\Q (.int (Sy i i.place)) H
def Ed(T:Tc G)(h:bp G vs H Q E):pP G (ends Q) (start v9 vs) H:=by
 let⟨a,dx,l,i,rfl,ha,hl,hp,q⟩:=h;show pP G (ends Q) [zS (.ref a)] H;unfold pP
 nofun
 refine iY T ha (kg T ha (eN i.place rfl hl ?_ q));unfold Sy;simp[iL,hp]
end
variable{dc:Addr}{pss:List (List Nat)}{ns:List Nat}
section
variable{G:Ga}{ms ms':List Addr}{H H':Hp}{s:State}{L:Lay}{vs:List V}{Q:VK}{E:XK}
def gx(G:Ga):Sp:=λvs H Q _=>∃(ms:List Addr)(x:V)(rs:List Res),vs=[x]/\f_ G (cut ms H) x rs/\rs.length<=30000/\∀H' p,ah H H'->H p=zN->H' p=zS (.lst (nL (rs.map Vt)))->Q (.ref p) H'
def bit(x:Int):Int:=if x=0 then 0 else 1
structure QS(H:Hp)(a l r:Addr)(nums:List Int)(rf:List (Key×V))(od:Obj)(i:Nat)(σ:L2.St)(H':Hp):Prop where
 ex:∃(o:Option V)(us:List V),σ=[zS (.ref a),zS (.ref l),o,zN]/\(∀b u,H b=zS u->b≠r->H' b=zS u)/\H' r=zS (.fg od (.dK rf))/\H' l=zS (.lst us)/\us.length=nums.length/\
  ∀(j:Nat)(x:Int),nums[j]?=zS x->us[j]?=zS (if(aI (rf.take i) (Rk (j:Int))).isSome=true then V.int 2 else V.int (bit x))
theorem z9(T:Tc G)(h:gx G vs H Q E):l5 G (ends Q) (start lZ vs) H:=by
 let⟨ms,x,rs,rfl,⟨a,adx,an,ar,nums,lo,hi,rf,rfl,ha,han,har,ca⟩,hz,k⟩:=h;show l5 G (ends Q) [zS (.ref a),zN,zN,zN] H;have A:=(aj ha).1;have AN:=(aj han).1;have AR:=(aj har).1;unfold l5
 nofun
 refine bh T A (Mp (F:=λx=>V.int (bit x)) AN (by rw[ca.len];omega) (λx H' R R0 r=>?_) λH1 l s1 nl hl=>?_)
 .dsimp only[sM]
  nofun
  unfold bit at r;by_cases e:x=0
  .rw[ag e]at r;rw[ae (by simpa using e)];exact r
  .rw[ae e]at r;rw[ag (by simpa using e)];exact r
 nofun
 have Qt:a≠ar:=aQ A AR (by intro z;cases z);have nlr:l≠ar:=λe=>by rw[e,AR]at nl;cases nl
 refine nR (s1 _ _ AR) (λod R r=>?_) (QS H a l ar nums rf) (λod=>⟨zN,nums.map λx=>V.int (bit x),rfl,λb u e ne=>by rw[ab ne];exact s1 _ _ e,aa,by rw[ab nlr];exact hl,by simp,λj x hx=>by simp[hx,kQ]⟩) (λod i σ' H' z=>z.ex.elim λ_ w=>w.elim λ_ w=>w.2.2.1) (λod i kk v σ' H' hk z=>?_) (λod σ' H' z=>?_)
 .nofun
  exact dZ T (by rw[ab Qt];exact s1 _ _ A) r
 .let⟨o,us,rfl,keep,hr,hl1,hu,hv⟩:=z;have hk1:kk∈rf.map (·.1):=Rm.mpr ⟨(kk,v),Rz hk,rfl⟩;let⟨j,hj,rfl⟩:=ca.ref.key kk hk1;dsimp only[kV]
  nofun
  refine KR hl1 (by rw[hu,ca.len];exact hj) ?_;refine⟨_,_,rfl,λb u eb ne=>?_,?_,aa,by simpa using hu,λm y hm=>?_⟩
  .rw[ab (ay eb nl)];exact keep b u eb ne
  .rw[ab nlr.symm];exact hr
  .have ht:aI (rf.take (i+1)) (Rk (m:Int))=(aI (rf.take i) (Rk (m:Int))).or (if(Rk (j:Int):Key)=Rk (m:Int)then zS v else zN):=by rw[Sl,hk,qd];exact congrArg _ D8
   rw[ht,Y0];by_cases e:m=j
   .subst e;rw[ag (by simp)];simp[hu,ca.len,hj]
   .rw[VP (λq=>e q.symm),hv m y hm];rw[ae (c:=(Rk (j:Int):Key)=Rk (m:Int)) (by intro q;injection q with q;omega)];simp
 .let⟨o,us,rfl,keep,hr,hl1,hu,hv⟩:=z
  nofun
  refine k _ l (λb u eb=>?_) nl ?_
  .by_cases e2:b=ar
   .subst e2;rw[aa,<-AR,eb]
   .rw[ab e2];exact keep b u eb e2
  .rw[ab nlr,hl1];congr 2;apply Ui;intro j;by_cases hj:j<rs.length
   .have hn:nums[j]?=zS (nums[j]'(by rw[ca.len];exact hj)):=RC _;rw[hv j _ hn,R9];simp only[nL,RW,RC hj,SN];have hval:=ca.ref.val j hj;unfold kindAt at hval;rw[RC hj,SX]at hval;by_cases hm:(aI rf (Rk (j:Int))).isSome=true
    .rw[ag hm];have:=hm;rw[hval]at this
     cases e:rs[j]with
     |ok v=>rw[e]at this;cases this
     |error kd=>rfl
    .rw[ae hm];have:aI rf (Rk (j:Int))=zN:=by
      cases e:aI rf (Rk (j:Int))with
      |none=>rfl
      |some w=>rw[e]at hm;exact absurd rfl hm
     rw[hval]at this
     cases e:rs[j]with
     |error kd=>rw[e]at this;cases this
     |ok v=>
      have h2:=ca.val j v (by rw[RC hj,e]);rw[hn]at h2;cases h2;unfold bit Vt;dsimp only;split<;>rfl
   .rw[SG (by rw[hu,ca.len];omega),SG (by simp[nL];omega)]
def j2(G:Ga)(I:Hp)(tv:V)(ns:List Nat)(pss:List (List Nat))(dc:Addr):Prop:=∃t dx n st svs,tv=.ref t/\I t=zS (.ins G.CT dx (fT (.ref n) (.ref st) (.ref dc)))/\I n=zS (.lst (nL ns))/\I st=zS (.lst svs)/\Paired (λv ps=>∃a,v=V.ref a/\I a=zS (.tup (nL ps))) svs pss
def j2.mono{I I':Hp}(k:ah I I'){tv:V}(h:j2 G I tv ns pss dc):j2 G I' tv ns pss dc:=
 let⟨t,dx,n,st,svs,e,h1,h2,h3,h4⟩:=h
 ⟨t,dx,n,st,svs,e,k _ _ h1,k _ _ h2,k _ _ h3,Paired.j9 h4 λ_ _ z=>let⟨a,e,h⟩:=z;⟨a,e,k _ _ h⟩⟩
structure j3(s:State)(ns:List Nat)(pss:List (List Nat)):Prop where
 nd:ns.Nodup
 len:∀ps∈pss,ps.length=ns.length
 lt:∀ps∈pss,∀(j:Nat)(i:Input)(p:Nat),i∈s.inputs->ns[j]?=zS i.name->ps[j]?=zS p->p<i.values.length
 pos:0<pss.length
 top:pss.length<=30000
def envsOf(s:State)(ns:List Nat)(pss:List (List Nat)):List UW:=pss.map λps=>ak.r_ s ns ps
def ik(s:State)(ns:List Nat)(pss:List (List Nat)):(envsOf s ns pss).length=pss.length:=Rr ..
def rW(s:State)(ns:List Nat)(pss:List (List Nat))(x:Nat):List Res:=(envsOf s ns pss).map λe=>T4 e x
structure dO(G:Ga)(ms:List Addr)(H:Hp)(s:State)(ns:List Nat)(pss:List (List Nat))(dc:Addr)(ck:List (Key×V)):Prop where
 hd:H dc=zS (.dK ck)
 nd:(ck.map (·.1)).Nodup
 key:∀k v,aI ck k=zS v->∃x∈ak.names s,k=Rk (x:Int)/\f_ G (cut ms H) v (rW s ns pss x)
theorem dO.len{ck:List (Key×V)}(w:ak.WF s)(h:dO G ms H s ns pss dc ck):ck.length<=32:=by
 have:=sQ (n:=32) h.nd λk hk=>by
  have:=mM.mpr hk
  cases e:aI ck k with
  |none=>rw[e]at this;cases this
  |some v=>
   let⟨x,hx,e2,_⟩:=h.key k v e;exact⟨x,by have:=qg w hx;omega,e2⟩
 simpa using this
def eL(G:Ga):Sp:=λvs H Q _=>∃(x dx:Addr)(n st:V),vs=[.ref x,n,st]/\H x=zS (.ins G.CT dx [])/\∀H' d,(∀b o,H b=zS o->b≠x->H' b=zS o)->H d=zN->H' d=zS (.dK [])->H' x=zS (.ins G.CT dx (fT n st (.ref d)))->Q .d7 H'
def Mt(T:Tc G)(h:eL G vs H Q E):B9 G (ends Q) (start G0 vs) H:=by
 let⟨x,dx,n,st,rfl,hx,k⟩:=h;show B9 G (ends Q) [zS (.ref x),zS n,zS st] H;unfold B9
 nofun
 refine eR hx T.OI T.wR (by simp) ?_;refine eR aa T.OI T.m6 (by show 1<1000;decide) ?_;intro d hd;have ndx:d≠x:=λe=>by rw[e,aa]at hd;cases hd
 refine eR (by rw[ab ndx.symm];exact aa) T.OI T.qB (by show 2<1000;decide) ?_;have hd0:H d=zN:=by rw[ab ndx,ab ndx]at hd;exact hd
 exact k _ d (λb o e nb=>by rw[ab nb,ab (ay e hd0),ab nb,ab nb];exact e) hd0 (by rw[ab ndx,aa]) aa
def G5{n st:V}(q:∀H' x dx d,ah H H'->H x=zN->H d=zN->H' d=zS (.dK [])->H' x=zS (.ins G.CT dx (fT n st (.ref d)))->x≠d->Q (.ref x) H'):Bj G.CT (eL G) [n,st] H Q:=by
 intro x dx nx ndx nex;refine⟨x,dx,n,st,rfl,aa,λH' d kp nd hd hx=>⟨rfl,q H' x dx d (ah.made nx ndx kp) nx ?_ hd hx (λe=>by rw[e,hd]at hx;cases hx)⟩⟩;by_cases e:d=x
 .rw[e];exact nx
 .rw[ab e]at nd;by_cases e2:d=dx
  .rw[e2];exact ndx
  .rw[ab e2]at nd;exact nd
def bM(G:Ga):Sp:=λvs H Q _=>vs=[]/\∀H' tv d,ah H H'->H d=zN->H' d=zS (.dK [])->(∀ms,lu ms H->j2 G (cut (d::ms) H') tv [] [[]] d)->Q tv H'
def yY(h:bM G vs H Q E):k4 G (eL G) (ends Q) (start pS vs) H:=by
 let⟨rfl,k⟩:=h;show k4 G _ (ends Q) [] H;unfold k4
 nofun
 refine jN (by simp) λl1 n1=>iy (by simp) λt n2=>jN (by simp) λl2 n3=>?_;have s3:=((ah.upd (o:=.lst []) n1).trans (ah.upd (o:=.tup []) n2)).trans (ah.upd (o:=.lst [V.ref t]) n3);refine G5 λH' x dx d s4 nx nd hd hx nxd=>k H' _ d (s3.trans s4) (s3.free nd) hd λms dm=>?_;have f1:∀{b:Addr}{o:HO},H b=zN->b≠d->H' b=zS o->cut (d::ms) H' b=zS o:=λhb nb e=>cS e λq=>by
  obtain q|q:=Rn.mp q
  .exact nb q
  .exact dm.free hb q
 have e1:=s4 _ _ (((ah.upd (o:=.tup []) n2).trans (ah.upd (o:=.lst [V.ref t]) n3)) _ _ (aa (H:=H) (a:=l1) (o:=.lst [])));have e2:=s4 _ _ ((ah.upd (o:=.lst [V.ref t]) n3) _ _ (aa (a:=t) (o:=.tup [])));have e3:=s4 _ _ (aa (a:=l2) (o:=.lst [V.ref t]));refine⟨x,dx,l1,l2,[.ref t],rfl,f1 (s3.free nx) nxd hx,f1 n1 ?_ e1,f1 (((ah.upd n1).trans (ah.upd n2)).free n3) ?_ e3,.cons ⟨t,rfl,f1 ((ah.upd n1).free n2) ?_ e2⟩ .nil⟩
 .intro e;rw[e,hd]at e1;cases e1
 .intro e;rw[e,hd]at e3;cases e3
 .intro e;rw[e,hd]at e2;cases e2
end
variable{a:Addr}{i:Input}{z:Int}{pss:List (List Nat)}{l:List Int}{ns:List Nat}{j:Nat}
section
variable{G:Ga}{ms ms':List Addr}{H H':Hp}{s:State}{L:Lay}{vs:List V}{Q:VK}{E:XK}
def K7(z:Int)(l:List Int):Ql (.int z) (iL l)=decide (z∈l):=by
 unfold Ql;rw[S6,Tg,decide_eq_true_eq];constructor
 .rintro⟨y,hy,e⟩;let⟨w,hw,rfl⟩:=Rm.mp hy;have:w=z:=by simpa [GM]using e
  rw[<-this];exact hw
 .intro h;exact⟨.int z,Rm.mpr ⟨z,h,rfl⟩,by simp[GM]⟩
def Cz(l:List Int):(iL l).all mC=true:=by rw[Ud];intro x hx;let⟨w,_,rfl⟩:=Rm.mp hx;rfl
def Bl(l:List Nat):nL l=iL (l.map λ(n:Nat)=>(n:Int)):=by simp[nL,iL]
def xb{K:Rl}(h:H a=zS (.lst (iL l)))(q:Q (.bl (!decide (z∈l))) H):LL K true (.int z) (.ref a) H Q:=
 ⟨a,_,rfl,.inl (cD.of h),rfl,Cz l,by rw[ag rfl,K7];exact q⟩
def QT{K:Rl}(h:H a=zS (.lst (iL l)))(q:Q (.bl (decide (z∈l))) H):LL K false (.int z) (.ref a) H Q:=
 ⟨a,_,rfl,.inl (cD.of h),rfl,Cz l,by rw[ae (by decide),K7];exact q⟩
structure xc(l:List Int)(z:Int)(j:Nat):Prop where
 at':l[j]?=zS z
 no:∀m:Nat,m<j->l[m]?≠zS z
theorem yZ(h:z∈l):∃j,xc l z j:=by
 induction l with
 |nil=>simp at h
 |cons a r ih=>
  by_cases e:a=z
  .exact⟨0,by simp[e],λm hm=>by omega⟩
  .obtain q|q:=Rn.mp h
   .exact absurd q.symm e
   .let⟨j,h1,h2⟩:=ih q;refine⟨j+1,by simpa using h1,λm hm=>?_⟩
    cases m with
    |zero=>simpa using e
    |succ m=>simpa using h2 m (by omega)
def uD{K:Rl}(h:H a=zS (.lst (iL l)))(f:xc l z j)(q:Q (.int (j:Int)) H):sq K (.ref a) [.int z] H Q:=by
 refine⟨a,_,.int z,j,.int z,rfl,rfl,cD.of h,rfl,Cz l,by simp[f.at'],by simp[GM],λm z' hm hz=>?_,q⟩;simp only[RW]at hz
 cases e:l[m]? with
 |none=>rw[e]at hz;cases hz
 |some w=>
  rw[e]at hz;cases hz;have:=f.no m hm;rw[e]at this;simp only[GM,beq_eq_false_iff_ne];intro q;exact this (by rw[q])
theorem qh(f:xc l z j):S1 l z=zS j:=by unfold S1;rw[WA];let⟨hj,e⟩:=RE.mp f.at';refine⟨hj,by simp[e],λm hm=>?_⟩;have:=f.no m hm;rw[RC (by omega)]at this;simp only[Bool.not_eq_true,beq_eq_false_iff_ne];intro q;exact this (by rw[q])
def fW(G:Ga):Sp:=λvs H Q _=>∃ms s dv i tv ns pss dc,vs=[dv,.int (i.name:Int),tv]/\ak.WF s/\lu ms H/\ll G ms H dv i/\i∈s.inputs/\j2 G (cut ms H) tv ns pss dc/\j3 s ns pss/\∀H' x,ah H H'->H x=zN->f_ G (cut ms H') (.ref x) (rW s ns pss i.name)->Q (.ref x) H'
def IM(w:ak.WF s)(hi:i∈s.inputs)(h:i.name∉ns):rW s ns pss i.name=Sr pss.length (Except.ok (Sy i i.place)):=by unfold rW envsOf;rw[RV,List.eq_replicate_iff];refine⟨by simp,λr hr=>?_⟩;let⟨ps,_,rfl⟩:=Rm.mp hr;exact ak.Dg w hi h
def y1(w:ak.WF s)(so:j3 s ns pss)(hi:i∈s.inputs)(h:ns[j]?=zS i.name):rW s ns pss i.name=(pss.map λps=>Sy i (ps.getD j 0)).map Except.ok:=by
 unfold rW envsOf;rw[RV,RV];apply SE;intro ps hps;have hl:=so.len ps hps;have hj:j<ps.length:=by rw[hl];exact(RE.mp h).1
 show T4 (ak.r_ s ns ps) i.name=Except.ok (Sy i (ps.getD j 0));have e:ps[j]?=zS (ps.getD j 0):=by rw[Sx,RC hj];rfl
 exact ak.Lp w so.nd hl.symm hi h e
theorem y2(T:Tc G)(h:fW G vs H Q E):k7 G (fH G) (cq G) (bp G) (ends Q) (start k6 vs) H:=by
 let⟨ms,s,dv,i,tv,ns,pss,dc,rfl,w,dm,⟨a,dx,l,rfl,ha,hl⟩,hi,⟨t,tdx,n,st,svs,rfl,ht,hn,hst,pr⟩,so,k⟩:=h;show k7 G _ _ _ (ends Q) [zS (.ref a),zS (.int (i.name:Int)),zS (.ref t),zN,zN] H;have io:=w.fi i hi;have HT:=(aj ht).1;have HN:=(aj hn).1;have HS:=(aj hst).1;have HL:=(aj hl).1;unfold k7
 nofun
 rw[Bl]at HN;refine D2 T HT (xb HN ⟨_,rfl,?_⟩);have hsl:svs.length=pss.length:=Paired.nS pr;by_cases e:i.name∈ns
 .rw[ae (by simp;exact⟨_,e,rfl⟩)];let⟨j,fj⟩:=yZ (l:=ns.map λ(n:Nat)=>(n:Int)) (z:=(i.name:Int)) (Rm.mpr ⟨_,e,rfl⟩);have hj:ns[j]?=zS i.name:=by
   have:=fj.at';rw[RW]at this
   cases e2:ns[j]? with
   |none=>rw[e2]at this;cases this
   |some y=>rw[e2]at this;simp at this;rw[Y1.mp this]
  refine D2 T HT ⟨f8 HN,uD HN fj ?_⟩
  nofun
  refine jm T HT ⟨st,rfl,⟨_,cD.of HS⟩,?_⟩;refine yK (n:=pss.length) (by have:=so.top;omega) (λm=>iL ((pss.take m).map λps=>Sy i (ps.getD j 0))) rfl (λm=>by simp;exact UT _ _) (λm H' hm s1=>⟨_,svs[m]'(by omega),cD.of (s1 _ _ HS),by simp[show m<svs.length by omega]⟩) (λH' s1=>⟨_,cD.of (s1 _ _ HS),by simp[hsl]⟩) (λm x H1 H2 R R0 hm s1 y k1 _=>?_) (λH1 p s1 np hp=>?_)
  .let⟨e2,y⟩:=y;subst e2;have hx:=y _ (cD.of (s1 _ _ HS));let⟨ps,hps,ta,rfl,hta⟩:=Paired.nU pr hx;have hpm:ps∈pss:=Rz hps;have hjl:j<ps.length:=by rw[so.len ps hpm];exact(RE.mp hj).1
   have hlt:=so.lt ps hpm j i ps[j] hi hj (RC hjl);dsimp only[sM]
   nofun
   refine iY T (s1 _ _ ha) ?_;refine iw j rfl (s1 _ _ (aj hta).1) (v:=.int ((ps[j]:Nat):Int)) (by simp[nL,hjl]) ?_;refine eN ps[j] rfl (s1 _ _ HL) (v:=.int i.values[ps[j]]) (by simp[iL,hlt]) (k1 _ _ (ah.refl _) ?_);rw[Sl,hps];simp[iL,Sy,Sx,hjl,hlt]
  .nofun
   intro d nd;rw[R9]at hp;have npd:p≠d:=λe=>by rw[e,nd]at hp;cases hp
   have s2:=s1.trans (ah.upd (o:=.dK []) nd);have hval:∀ps∈pss,Sy i (ps.getD j 0)∈i.values:=λps hpm=>by
    have hjl:j<ps.length:=by rw[so.len ps hpm];exact(RE.mp hj).1
    have hlt:=so.lt ps hpm j i ps[j] hi hj (RC hjl);rw[Sx,RC hjl];exact ak.oY hlt
   refine⟨ms,p,d,pss.map λps=>Sy i (ps.getD j 0),[],rW s ns pss i.name,rfl,dm.mono s2,bz (dm) np (by rw[ab npd];exact hp),bz dm (s1.free nd) aa,by simpa using so.pos,λx hx=>?_,?_,?_,λm v hv=>?_,λH3 x s3 nx cx=>k H3 x (s2.trans s3) (s2.free nx) cx⟩
   .let⟨ps,hpm,rfl⟩:=Rm.mp hx;exact io.Hh _ (hval ps hpm)
   .rw[y1 w so hi hj];simp
   .refine(dM.nil _).congr λm hm=>?_;unfold kindAt;rw[y1 w so hi hj]at hm⊢;rw[RC hm];simp[kindOf]
   .rw[y1 w so hi hj,RW]at hv
    cases e2:(pss.map λps=>Sy i (ps.getD j 0))[m]? with
    |none=>rw[e2]at hv;cases hv
    |some z=>rw[e2]at hv;cases hv;rfl
 .rw[ag (by simp;intro y hy q;exact e (by rw[<-Y1.mp q];exact hy))];refine⟨a,dx,l,i,rfl,ha,HL,io.wr,?_⟩;refine jm T HT (fJ HS ?_)
  nofun
  rw[hsl];exact⟨ms,_,pss.length,rfl,dm,io.Hh _ (ak.oY io.wr),so.top,λH1 x s1 nx cx=>k H1 x s1 nx (by rw[IM w hi e];exact cx)⟩
end
variable{d lk:Addr}{o:HO}{H1:Hp}
section
variable{G:Ga}{ms ms':List Addr}{H H':Hp}{s:State}{L:Lay}{vs:List V}{Q:VK}{E:XK}{ns:List Nat}{pss:List (List Nat)}{dc:Addr}{ck:List (Key×V)}
def lw(d:Addr)(H H':Hp):Prop:=∀a o,H a=zS o->a≠d->H' a=zS o
def lw.of(k:ah H H'):lw d H H':=λa o h _=>k a o h
def lw.trans{H2:Hp}(k:lw d H H1)(l:lw d H1 H2):lw d H H2:=λa o h n=>l a o (k a o h n) n
def lw.cut(k:lw d H H')(hd:d∈ms):ah (Nb.cut ms H) (Nb.cut ms H'):=λa o h=>let⟨h1,h2⟩:=aj h;cS (k a o h1 λe=>h2 (by rw[e];exact hd)) h2
def lw.Mu(k:lw d H H')(hd:H' d=zS o)(dm:lu ms H):lu ms H':=λa m=>by
 by_cases e:a=d
 .rw[e];exact⟨_,hd⟩
 .let⟨u,hu⟩:=dm a m;exact⟨u,k a u hu e⟩
def eA.but(b:eA G ms H s L)(k:lw d H H')(hd:H' d=zS o)(dm:d∈ms)(dn:d∉L.own):eA G ms H' s L:=
 b.move (λa ha o h=>k a o h λe=>dn (by rw[<-e];exact ha)) (k.cut dm) b.sub (k.Mu hd b.dm)
def dO.same(t:dO G ms H s ns pss dc ck)(k:ah H H'):dO G ms H' s ns pss dc ck:=⟨k _ _ t.hd,t.nd,λkk v e=>let⟨x,hx,e2,c⟩:=t.key kk v e;⟨x,hx,e2,c.mono (bo k)⟩⟩
def dO.move(t:dO G ms H s ns pss dc ck)(hd:H' dc=zS (.dK ck))(k:ah (cut ms H) (cut ms H')):dO G ms H' s ns pss dc ck:=⟨hd,t.nd,λkk v e=>let⟨x,hx,e2,c⟩:=t.key kk v e;⟨x,hx,e2,c.mono k⟩⟩
def dO.put{x:Nat}{v:V}(t:dO G ms H s ns pss dc ck)(hm:dc∈ms)(hx:x∈ak.names s)(c:f_ G (cut ms H) v (rW s ns pss x)):dO G ms (upd H dc (.dK (putK ck (Rk (x:Int)) v))) s ns pss dc (putK ck (Rk (x:Int)) v):=by
 refine⟨aa,mN t.nd,λkk w e=>?_⟩;rw[cJ hm];rw[fU]at e;split at e
 .rename_i e2;cases e;exact⟨x,hx,e2,c⟩
 .exact t.key kk w e
def eY(G:Ga):Sp:=λvs H Q _=>∃ms s L tv fv f ns pss dc ck,vs=[.ref L.p,tv,fv]/\eA G ms H s L/\j2 G (cut ms H) tv ns pss dc/\dc∈ms/\dc∉L.own/\dO G ms H s ns pss dc ck/\j3 s ns pss/\fP G (cut ms H) fv f/\ak.Told f/\(∀x∈Ry f,x∈ak.names s)/\
 ∀H' x ck',lw dc H H'->dO G ms H' s ns pss dc ck'->f_ G (cut ms H') x (zy (envsOf s ns pss) f)->Q x H'
structure Mv(G:Ga)(ms:List Addr)(H1:Hp)(s:State)(ns:List Nat)(pss:List (List Nat))(dc lk:Addr)(lkv:List (Key×V))(p tv fv:V)(d:Addr)(B:List Nat)(done:Nat->List Nat)(od:Obj)(i:Nat)(σ:L2.St)(H':Hp):Prop where
 ex:∃(o4 o5 o6:Option V)(ck:List (Key×V)),σ=[zS p,zS tv,zS fv,zS (.ref d),o4,o5,o6]/\(∀a u,H1 a=zS u->a≠dc->a≠lk->H' a=zS u)/\H' lk=zS (.fg od (.dK lkv))/\dO G ms H' s ns pss dc ck/\∀x∈done i,x∈B->∃v,aI ck (Rk (x:Int))=zS v
def y3(keep:∀a u,H1 a=zS u->a≠dc->a≠lk->H' a=zS u)(m1:dc∈ms)(m2:lk∈ms):ah (cut ms H1) (cut ms H'):=λa o h=>let⟨h1,h2⟩:=aj h;cS (keep a o h1 (λe=>h2 (by rw[e];exact m1)) λe=>h2 (by rw[e];exact m2)) h2
def Ee{o':HO}(keep:∀a u,H1 a=zS u->a≠dc->a≠lk->H' a=zS u)(h1:H' dc=zS o)(h2:H' lk=zS o')(dm:lu ms H1):lu ms H':=λa m=>by
 by_cases e:a=dc
 .rw[e];exact⟨_,h1⟩
 .by_cases e2:a=lk
  .rw[e2];exact⟨_,h2⟩
  .let⟨u,hu⟩:=dm a m;exact⟨u,keep a u hu e e2⟩
def F1{c:Nat×Formula}(w:ak.WF s)(hc:c∈s.cells):zy (envsOf s ns pss) c.2=rW s ns pss c.1:=by unfold zy rW envsOf;rw[RV,RV];apply SE;intro ps _;exact(ak.AI w hc).symm
theorem y6{f:Formula}(h:ak.Told f):ak.depth f<=30:=by have:=ak.i_ f;have:=h.2;omega
def qP{kvs:List (Key×V)}{k:Key}(h:(aI kvs k).isSome=true):∃v,aI kvs k=zS v:=VR.mp h
theorem Ef(T:Tc G)(h:eY G vs H Q E):pT G (aO G 30) (fW G) (cj G) (ends Q) (start v_ vs) H:=by
 let⟨ms,s,L,tv,fv,f,ns,pss,dc,ck,rfl,b,ts,dcm,dco,tr,so,fa,tf,rn,k⟩:=h;show pT G _ _ _ (ends Q) [zS (.ref L.p),zS tv,zS fv,zN,zN,zN,zN] H;have w:=b.wf;unfold pT
 nofun
 refine⟨ms,s,L,fv,f,rfl,b,fa,rn,λH1 d kvs s1 nd hd ko=>?_⟩;have b1:=b.same s1;have t1:=tr.same s1;have ts1:=ts.mono (bo (ms:=ms) s1);let⟨t,tdx,n,st,svs,rfl,ht,hn,hst,pr⟩:=ts;have hsl:svs.length=pss.length:=Paired.nS pr;have HT:=s1 _ _ (aj ht).1;have HST:=s1 _ _ (aj hst).1;have ntd:t≠dc:=λe=>(aj ht).2 (by rw[e];exact dcm);have nstd:st≠dc:=λe=>(aj hst).2 (by rw[e];exact dcm);have pim:L.pi∈ms:=b.sub _ (by simp[Lay.own]);have pcm:L.pc∈ms:=b.sub _ (by simp[Lay.own]);have ntpi:t≠L.pi:=λe=>(aj ht).2 (by rw[e];exact pim);have ntpc:t≠L.pc:=λe=>(aj ht).2 (by rw[e];exact pcm);have nstpc:st≠L.pc:=λe=>(aj hst).2 (by rw[e];exact pcm);have dnpi:dc≠L.pi:=λe=>dco (by rw[e];simp[Lay.own]);have dnpc:dc≠L.pc:=λe=>dco (by rw[e];simp[Lay.own]);have ddc:d≠dc:=λe=>by rw[e,tr.hd]at nd;cases nd
 have dpi:d≠L.pi:=λe=>by rw[e,b.hi]at nd;cases nd
 have dpc:d≠L.pc:=λe=>by rw[e,b.hc]at nd;cases nd
 have npi:L.p≠L.pi:=aQ b.nb b.hi (by intro z;cases z);have npc:L.p≠L.pc:=aQ b.nb b.hc (by intro z;cases z);have npd:L.p≠dc:=aQ b.nb tr.hd (by intro z;cases z)
 nofun
 refine fI b1.hi (λod R r=>?_) (Mv G ms H1 s ns pss dc L.pi L.ki (.ref L.p) (.ref t) fv d (ak.ci s.cells (Ry f)) λi=>(s.inputs.take i).map (·.name)) (λod=>⟨zN,zN,zN,ck,rfl,λa u e _ ne=>by rw[ab ne];exact e,aa,t1.move (by rw[ab dnpi];exact t1.hd) (by rw[cJ pim];exact ah.refl _),λx hx=>by simp at hx⟩) (λod i σ' H' z=>z.ex.elim λ_ w=>w.elim λ_ w=>w.elim λ_ w=>w.elim λ_ w=>w.2.2.1) (λod i kk v σ' H' T' hk z nT=>?_) (λod σ' H' z=>?_)
 .nofun
  exact bu T (by rw[ab npi];exact b1.nb) r
 .let⟨o4,o5,o6,ck1,rfl,keep,hpi,tr1,dn⟩:=z;let⟨x,hx,rfl,dl⟩:=b1.fi.at hk;have hxi:x∈s.inputs:=Rz hx;have s2:=ah.upd (o:=.tup [kV (Rk (x.name:Int)),v]) nT;have tr2:=tr1.same s2;have keep2:∀a u,H1 a=zS u->a≠dc->a≠L.pi->(upd H' T' (.tup [kV (Rk (x.name:Int)),v])) a=zS u:=λa u e n1 n2=>s2 _ _ (keep a u e n1 n2);have tdm:(s.inputs.take (i+1)).map (λ(y:Input)=>y.name)=(s.inputs.take i).map (·.name)++[x.name]:=by rw[Sl,hx];simp
  have out:∀(σ':L2.St)(H3:Hp)(o4 o5 o6:Option V)(ck3:List (Key×V)),σ'=[zS (.ref L.p),zS (.ref t),zS fv,zS (.ref d),o4,o5,o6]->(∀a u,H1 a=zS u->a≠dc->a≠L.pi->H3 a=zS u)->H3 L.pi=zS (.fg od (.dK L.ki))->dO G ms H3 s ns pss dc ck3->(∀k,(aI ck1 k).isSome=true->(aI ck3 k).isSome=true)->(x.name∈ak.ci s.cells (Ry f)->(aI ck3 (Rk (x.name:Int))).isSome=true)->
    Mv G ms H1 s ns pss dc L.pi L.ki (.ref L.p) (.ref t) fv d (ak.ci s.cells (Ry f)) (λi=>(s.inputs.take i).map (·.name)) od (i+1) σ' H3:=λσ' H3 o4 o5 o6 ck3 e kp hp3 tr3 g1 g2=>⟨o4,o5,o6,ck3,e,kp,hp3,tr3,λy hy hb=>by
   rw[tdm]at hy;obtain q|q:=Ru.mp hy
   .let⟨v,hv⟩:=dn y q hb;exact qP (g1 _ (by rw[hv];rfl))
   .rw[Sb.mp q]at hb⊢;exact qP (g2 hb)⟩
  dsimp only[kV];refine f9 aa rfl ?_
  nofun
  refine ow (.inl (keep2 _ _ hd ddc dpi)) ⟨_,rfl,?_⟩;rw[ko.has x.name];by_cases e:x.name∈ak.ci s.cells (Ry f)
  .rw[ag (by simpa using e)];refine ku T (keep2 _ _ HT ntd ntpi) (cN (.inl tr2.hd) ⟨_,rfl,?_⟩)
   cases ev:(aI ck1 (Rk (x.name:Int))).isSome with
   |true=>
    rw[ae (by decide)];exact out _ _ _ _ _ ck1 rfl keep2 (s2 _ _ hpi) tr2 (λ_ h=>h) λ_=>ev
   |false=>
    rw[ag (by decide)];let⟨a,dx,l,rfl,ha,hl⟩:=dl;have hao:V.ref a∈L.ki.map (·.2):=Rm.mpr ⟨_,Rz hk,rfl⟩;rw[b.dd]at hao;let⟨a',ha',ea⟩:=Rm.mp hao;injection ea with ea;subst ea;have nad:a'≠dc:=λe=>dco (by rw[<-e];simp[Lay.own,ha']);have nai:a'≠L.pi:=aQ ha b1.hi (by intro z;cases z);refine⟨ms,s,.ref a',x,.ref t,ns,pss,dc,rfl,w,Ee keep2 tr2.hd (s2 _ _ hpi) b1.dm,⟨a',dx,l,rfl,keep2 _ _ ha nad nai,y3 keep2 dcm pim _ _ hl⟩,hxi,ts1.mono (y3 keep2 dcm pim),so,λH3 y s3 ny cy=>?_⟩;have tr3:=tr2.same s3;refine ku T (s3 _ _ (keep2 _ _ HT ntd ntpi)) (mh tr3.hd (eu (by have:=tr3.len w;omega)) ?_);refine out _ _ _ _ _ _ rfl (λa u e n1 n2=>by rw[ab n1];exact s3 _ _ (keep2 a u e n1 n2)) (by rw[ab dnpi.symm];exact s3 _ _ (s2 _ _ hpi)) (tr3.put dcm (by unfold ak.names;exact Sm _ (Rm.mpr ⟨x,hxi,rfl⟩)) cy) (λk hk=>?_) λ_=>?_
    .rw[fU];split
     .rfl
     .exact hk
    .rw[fU,ag rfl];rfl
  .rw[ae (by simpa using e)];exact out _ _ _ _ _ ck1 rfl keep2 (s2 _ _ hpi) tr2 (λ_ h=>h) λq=>absurd q e
 .let⟨o4,o5,o6,ck1,rfl,keep,hpi,tr1,dn⟩:=z;rw[b.fi.len,R9]at dn;have bt:lw dc H1 (upd H' L.pi (.dK L.ki)):=λa u e ne=>by
   by_cases e2:a=L.pi
   .subst e2;rw[aa,<-b1.hi,e]
   .rw[ab e2];exact keep a u e ne e2
  have tr2:dO G ms (upd H' L.pi (.dK L.ki)) s ns pss dc ck1:=tr1.move (by rw[ab dnpi];exact tr1.hd) (by rw[cJ pim];exact ah.refl _);have b2:=b1.but bt tr2.hd dcm dco;have ts2:=ts1.mono (bt.cut dcm);generalize hH2:upd H' L.pi (.dK L.ki)=H2 at bt tr2 b2 ts2⊢;have cnd:(s.inputs.map (·.name)++s.cells.map (·.1)).Nodup:=w.nd
  nofun
  refine fI b2.hc (λod R r=>?_) (Mv G ms H2 s ns pss dc L.pc L.kc (.ref L.p) (.ref t) fv d (ak.ci s.cells (Ry f)) λi=>s.inputs.map (·.name)++(s.cells.take i).map (·.1)) (λod=>⟨_,_,_,ck1,rfl,λa u e _ ne=>by rw[ab ne];exact e,aa,tr2.move (by rw[ab dnpc];exact tr2.hd) (by rw[cJ pcm];exact ah.refl _),λx hx hb=>dn x (by simpa using hx) hb⟩) (λod i σ' H' z=>z.ex.elim λ_ w=>w.elim λ_ w=>w.elim λ_ w=>w.elim λ_ w=>w.2.2.1) (λod i kk v σ' H' T' hk z nT=>?_) (λod σ' H' z=>?_)
  .nofun
   exact ft T (by rw[ab npc];exact b2.nb) r
  .let⟨o4,o5,o6,ck2,rfl,keep,hpc,tr3,dn2⟩:=z;let⟨c,hc,rfl,fc⟩:=b2.hZ.at hk;have hcm:c∈s.cells:=Rz hc;have s2:=ah.upd (o:=.tup [kV (Rk (c.1:Int)),v]) nT;have tr4:=tr3.same s2;have keep2:∀a u,H2 a=zS u->a≠dc->a≠L.pc->(upd H' T' (.tup [kV (Rk (c.1:Int)),v])) a=zS u:=λa u e n1 n2=>s2 _ _ (keep a u e n1 n2);have tdm:s.inputs.map (·.name)++(s.cells.take (i+1)).map (λ(y:Nat×Formula)=>y.1)=(s.inputs.map (·.name)++(s.cells.take i).map (·.1))++[c.1]:=by rw[Sl,hc];simp
   have out:∀(σ':L2.St)(H3:Hp)(o4 o5 o6:Option V)(ck3:List (Key×V)),σ'=[zS (.ref L.p),zS (.ref t),zS fv,zS (.ref d),o4,o5,o6]->(∀a u,H2 a=zS u->a≠dc->a≠L.pc->H3 a=zS u)->H3 L.pc=zS (.fg od (.dK L.kc))->dO G ms H3 s ns pss dc ck3->(∀k,(aI ck2 k).isSome=true->(aI ck3 k).isSome=true)->(c.1∈ak.ci s.cells (Ry f)->(aI ck3 (Rk (c.1:Int))).isSome=true)->
     Mv G ms H2 s ns pss dc L.pc L.kc (.ref L.p) (.ref t) fv d (ak.ci s.cells (Ry f)) (λi=>s.inputs.map (·.name)++(s.cells.take i).map (·.1)) od (i+1) σ' H3:=λσ' H3 o4 o5 o6 ck3 e kp hp3 tr3 g1 g2=>⟨o4,o5,o6,ck3,e,kp,hp3,tr3,λy hy hb=>by
    rw[tdm]at hy;obtain q|q:=Ru.mp hy
    .let⟨v,hv⟩:=dn2 y q hb;exact qP (g1 _ (by rw[hv];rfl))
    .rw[Sb.mp q]at hb⊢;exact qP (g2 hb)⟩
   dsimp only[kV];refine f9 aa rfl ?_
   nofun
   refine ow (.inl (keep2 _ _ (bt _ _ hd ddc) ddc dpc)) ⟨_,rfl,?_⟩;rw[ko.has c.1];by_cases e:c.1∈ak.ci s.cells (Ry f)
   .rw[ag (by simpa using e)];have HT2:=keep2 _ _ (bt _ _ HT ntd) ntd ntpc;refine ku T HT2 (cN (.inl tr4.hd) ⟨_,rfl,?_⟩)
    cases ev:(aI ck2 (Rk (c.1:Int))).isSome with
    |true=>
     rw[ae (by decide)];exact out _ _ _ _ _ ck2 rfl keep2 (s2 _ _ hpc) tr4 (λ_ h=>h) λ_=>ev
    |false=>
     rw[ag (by decide)];let⟨a,dx,p',tt,nn,kvs',rfl,h1,h2,h3,h4,h5⟩:=fc;have cutk:=y3 (ms:=ms) keep2 dcm pcm;refine KP T (aj (cutk _ _ h1)).1 (ku T HT2 (jm T HT2 (fJ (keep2 _ _ (bt _ _ HST nstd) nstd nstpc) ?_)))
     nofun
     rw[hsl];have told:=w.hZ.told c hcm;refine⟨ms,tt,dc,c.2,ck2,envsOf s ns pss,by rw[ik],Ee keep2 tr4.hd (s2 _ _ hpc) b2.dm,h3.mono cutk,told.1,y6 told,by rw[ik];exact so.pos,by rw[ik];exact so.top,.inl tr4.hd,λx hx=>?_,λH3 y s3 cy=>?_⟩
     .have hb:=ak.gU (xs:=Ry f) w.hZ cnd c hcm e x hx;have hin:x∈s.inputs.map (·.name)++(s.cells.take i).map (·.1):=by
       let⟨hi,ee⟩:=RE.mp hc;have e3:s.cells=s.cells.take i++c::s.cells.drop (i+1):=by rw[<-ee,<-UU hi,V6]
       exact ak.m_ w e3 x hx
      let⟨v,hv⟩:=dn2 x hin hb;let⟨y,hy,e4,cc⟩:=tr4.key _ _ hv;have:y=x:=by injection e4 with e4;omega
      subst this;exact⟨v,hv,cc⟩
     .have tr5:=tr4.same s3;refine ku T (s3 _ _ HT2) (mh tr5.hd (eu (by have:=tr5.len w;omega)) ?_);refine out _ _ _ _ _ _ rfl (λa u e n1 n2=>by rw[ab n1];exact s3 _ _ (keep2 a u e n1 n2)) (by rw[ab dnpc.symm];exact s3 _ _ (s2 _ _ hpc)) (tr5.put dcm (by unfold ak.names;exact SD _ (Rm.mpr ⟨c,hcm,rfl⟩)) (cy.congr (F1 w hcm))) (λk hk=>?_) λ_=>?_
      .rw[fU];split
       .rfl
       .exact hk
      .rw[fU,ag rfl];rfl
   .rw[ae (by simpa using e)];exact out _ _ _ _ _ ck2 rfl keep2 (s2 _ _ hpc) tr4 (λ_ h=>h) λq=>absurd q e
  .let⟨o4,o5,o6,ck2,rfl,keep,hpc,tr3,dn2⟩:=z;rw[b.hZ.len,R9]at dn2;have bt3:lw dc H2 (upd H' L.pc (.dK L.kc)):=λa u e ne=>by
    by_cases e2:a=L.pc
    .subst e2;rw[aa,<-b2.hc,e]
    .rw[ab e2];exact keep a u e ne e2
   have tr4:dO G ms (upd H' L.pc (.dK L.kc)) s ns pss dc ck2:=tr3.move (by rw[ab dnpc];exact tr3.hd) (by rw[cJ pcm];exact ah.refl _);have b3:=b2.but bt3 tr4.hd dcm dco;have bt1:lw dc H (upd H' L.pc (.dK L.kc)):=(lw.of s1).trans (bt.trans bt3);have cutk:=bt1.cut dcm;let⟨a,dx,p',tt,nn,kvs',rfl,h1,h2,h3,h4,h5⟩:=fa;have HT2:=bt1 _ _ (aj ht).1 ntd
   nofun
   refine KP T (aj (cutk _ _ h1)).1 (ku T HT2 (jm T HT2 (fJ (bt1 _ _ (aj hst).1 nstd) ?_)))
   nofun
   rw[hsl];refine⟨ms,tt,dc,f,ck2,envsOf s ns pss,by rw[ik],b3.dm,h3.mono cutk,tf.1,y6 tf,by rw[ik];exact so.pos,by rw[ik];exact so.top,.inl tr4.hd,λx hx=>?_,λH3 y s3 cy=>?_⟩
   .let⟨v,hv⟩:=dn2 x (rn x hx) (ak.m7 _ _ x hx);let⟨y,hy,e4,cc⟩:=tr4.key _ _ hv;have:y=x:=by injection e4 with e4;omega
    subst this;exact⟨v,hv,cc⟩
   .exact k H3 y ck2 (bt1.trans (lw.of s3)) (tr4.same s3) cy
end
variable{d:Addr}{o:HO}
section
variable{G:Ga}{ms ms':List Addr}{H H':Hp}{s:State}{L:Lay}{vs:List V}{Q:VK}{E:XK}{ns:List Nat}{pss:List (List Nat)}{dc:Addr}{ck:List (Key×V)}
def M8(s:State)(ns:List Nat)(pss:List (List Nat))(f:Formula):List Nat:=pss.map λps=>Vt (RX (ak.r_ s ns ps) f)
def Oj(s:State)(ns:List Nat)(pss:List (List Nat))(f:Formula):(zy (envsOf s ns pss) f).map Vt=M8 s ns pss f:=by unfold zy envsOf M8;rw[RV,RV];rfl
def lw.free{p:Addr}(k:lw d H H')(hd:H' d=zS o)(h:H' p=zN):H p=zN:=by
 cases e:H p with
 |none=>rfl
 |some u=>
  by_cases q:p=d
  .rw[q,hd]at h;cases h
  .rw[k p u e q]at h;cases h
def aX(G:Ga):Sp:=λvs H Q _=>∃ms s L tv c ns pss dc ck,vs=[.ref L.p,tv,.int ((c.1:Nat):Int)]/\eA G ms H s L/\j2 G (cut ms H) tv ns pss dc/\dc∈ms/\dc∉L.own/\dO G ms H s ns pss dc ck/\j3 s ns pss/\c∈s.tests/\
 ∀H' p ck',lw dc H H'->dO G ms H' s ns pss dc ck'->H p=zN->H' p=zS (.lst (nL (M8 s ns pss c.2)))->Q (.ref p) H'
theorem eA.Ol(b:eA G ms H s L){c:Nat×Formula}(hc:c∈s.tests):∃v,aI L.kt (Rk (c.1:Int))=zS v/\fP G (cut ms H) v c.2:=by
 obtain⟨_,_,g⟩|⟨v,c',h1,_,h2,h3,h4⟩:=b.test c.1
 .exact absurd rfl (g c hc)
 .have:c'=c:=ak.b7 b.wf.wT h3 hc (by omega);subst this;exact⟨v,h1,h2⟩
def z_(T:Tc G)(h:aX G vs H Q E):l6 G (eY G) (gx G) (ends Q) (start rN vs) H:=by
 let⟨ms,s,L,tv,c,ns,pss,dc,ck,rfl,b,ts,dcm,dco,tr,so,hc,k⟩:=h;show l6 G _ _ (ends Q) [zS (.ref L.p),zS tv,zS (.int (c.1:Int))] H;let⟨fv,hv,fa⟩:=b.Ol hc;have tt:=b.wf.i6 c hc;unfold l6
 nofun
 refine dU T b.nb (fE b.ht hv ?_);refine⟨ms,s,L,tv,fv,c.2,ns,pss,dc,ck,rfl,b,ts,dcm,dco,tr,so,fa,tt.1,tt.2,λH1 x ck1 bt tr1 cx=>?_⟩;refine⟨ms,x,_,rfl,cx,by rw[cF,ik];exact so.top,λH2 p s2 np hp=>?_⟩;rw[Oj]at hp;exact k H2 p ck1 (bt.trans (lw.of s2)) (tr1.same s2) (bt.free tr1.hd np) hp
def qQ(k:ah H H')(hd:H d=zN):ah (cut ms H) (cut (d::ms) H'):=λa o h=>let⟨h1,h2⟩:=aj h;cS (k a o h1) λq=>by
 obtain q|q:=Rn.mp q
 .rw[q,hd]at h1;cases h1
 .exact h2 q
def lu.cons(dm:lu ms H)(h:H d=zS o):lu (d::ms) H:=λa m=>by
 obtain q|q:=Rn.mp m
 .rw[q];exact⟨_,h⟩
 .exact dm a q
def eA.fresh(b:eA G ms H s L)(k:ah H H')(hd:H d=zN)(hd':H' d=zS o):eA G (d::ms) H' s L:=
 b.move (λa _ o h=>k a o h) (qQ k hd) (λa ha=>Rp _ (b.sub a ha)) ((b.dm.mono k).cons hd')
def eA.qi(b:eA G ms H s L)(hd:H d=zN):d∉L.own:=λh=>b.dm.free hd (b.sub d h)
def j3.now(s:State):j3 s [] [[]]:=⟨SI,λps h=>by simp at h;simp[h],λps h j i p _ hj=>by simp at hj,by simp,by simp⟩
def dO.start(h:H d=zS (.dK [])):dO G ms H s ns pss d []:=⟨h,SI,λk v e=>by simp[kQ]at e⟩
def lw.same{H1:Hp}(k:ah H H1)(hd:H d=zN)(b:lw d H1 H'):ah H H':=λa o h=>b a o (k a o h) (ay h hd)
def gy(G:Ga):Sp:=λvs H Q _=>∃ms s L c,vs=[.ref L.p,.int ((c.1:Nat):Int)]/\eA G ms H s L/\c∈s.tests/\∀H',ah H H'->Q (.int (Sh s c.2:Nat)) H'
def Aa(T:Tc G)(h:gy G vs H Q E):l7 G (bM G) (aX G) (ends Q) (start rO vs) H:=by
 let⟨ms,s,L,c,rfl,b,hc,k⟩:=h;show l7 G _ _ (ends Q) [zS (.ref L.p),zS (.int (c.1:Int))] H;unfold l7
 nofun
 refine⟨rfl,λH1 tv d s1 nd hd ts=>?_⟩;refine⟨d::ms,s,L,tv,c,[],[[]],d,[],rfl,b.fresh s1 nd hd,ts ms b.dm,Rv,b.qi nd,dO.start hd,j3.now s,hc,λH2 p ck1 bt tr1 np hp=>?_⟩;exact eN 0 rfl hp (v:=.int (Sh s c.2:Nat)) rfl (k H2 (lw.same s1 nd bt))
def eA.PL{od:Obj}(b:eA G ms H s L)(ht:H L.pt=zS (.dK L.kt))(n1:L.pi≠L.pt)(n2:L.pc≠L.pt):eA G ms (upd H L.pt (.fg od (.dK L.kt))) s L where
 wf:=b.wf
 dm:=b.dm.upd
 sub:=b.sub
 nb:=by rw[ab (aQ b.nb ht (by intro z;cases z))];exact b.nb
 hi:=by rw[ab n1];exact b.hi
 hc:=by rw[ab n2];exact b.hc
 ht:=.inr ⟨od,aa⟩
 fi:=b.fi.mono λv i z=>by let⟨a,dx,l,e,h1,h2⟩:=z;refine⟨a,dx,l,e,by rw[ab (aQ h1 ht (by intro z;cases z))];exact h1,?_⟩;rw[cJ (b.sub _ (by simp[Lay.own]))];exact h2
 hZ:=by rw[cJ (b.sub _ (by simp[Lay.own]))];exact b.hZ
 i6:=by rw[cJ (b.sub _ (by simp[Lay.own]))];exact b.i6
 dd:=b.dd
def eC(s:State)(l:List (Nat×Formula)):List (Key×V):=l.map λt=>(Rk (t.1:Int),V.int (Sh s t.2:Nat))
def bN(G:Ga):Sp:=λvs H Q _=>∃ms s L,vs=[.ref L.p]/\eA G ms H s L/\H L.pt=zS (.dK L.kt)/\L.pi≠L.pt/\L.pc≠L.pt/\∀H' d,ah H H'->H d=zN->H' d=zS (.dK (eC s s.tests))->Q (.ref d) H'
structure Om(G:Ga)(ms:List Addr)(H:Hp)(s:State)(L:Lay)(tv:V)(dc d:Addr)(od:Obj)(i:Nat)(σ:L2.St)(H':Hp):Prop where
 ex:∃(o:Option V)(ck:List (Key×V)),σ=[zS (.ref L.p),zS tv,zS (.ref d),o]/\(∀a u,H a=zS u->a≠L.pt->H' a=zS u)/\H' L.pt=zS (.fg od (.dK L.kt))/\eA G (d::dc::ms) H' s L/\j2 G (cut (d::dc::ms) H') tv [] [[]] dc/\dO G (d::dc::ms) H' s [] [[]] dc ck/\H' d=zS (.dK (eC s (s.tests.take i)))
def gF{α β:Type}{f:α->β}:∀{l:List α}{i:Nat}{c:α},(l.map f).Nodup->l[i]?=zS c->∀t∈l.take i,f t≠f c
 |[],i,c,_,h=>by simp at h
 |a::r,0,c,_,h=>λt ht=>by simp at ht
 |a::r,i+1,c,nd,h=>λt ht=>by
  have nd':=RK.mp (show(f a::r.map f).Nodup from nd);have h':r[i]?=zS c:=by simpa using h
  rw[YY]at ht;obtain q|q:=Rn.mp ht
  .subst q;intro e;exact nd'.1 (e▸Rm.mpr ⟨c,Rz h',rfl⟩)
  .exact gF nd'.2 h' t q
theorem CA{l:List (Nat×Formula)}{n:Nat}(h:∀t∈l,t.1≠n):aI (eC s l) (Rk (n:Int))=zN:=by
 cases e:aI (eC s l) (Rk (n:Int))with
 |none=>rfl
 |some v=>
  have:=wY e;simp only[eC,RV,Rm]at this;let⟨t,ht,e2⟩:=this;have e3:(Rk (t.1:Int):Key)=Rk (n:Int):=e2;injection e3 with e3;exact absurd (by omega) (h t ht)
theorem y8(T:Tc G)(h:bN G vs H Q E):k8 G (bM G) (aX G) (ends Q) (start pU vs) H:=by
 let⟨ms,s,L,rfl,b,ht,n1,n2,k⟩:=h;show k8 G _ _ (ends Q) [zS (.ref L.p),zN,zN,zN] H;unfold k8
 nofun
 refine⟨rfl,λH1 tv dc s1 nd hd ts=>?_⟩;have b1:=b.fresh s1 nd hd;have ts1:=ts ms b.dm
 nofun
 intro d nd2;have s2:=ah.upd (o:=.dK []) nd2;have b2:=b1.fresh s2 nd2 aa;have ts2:=ts1.mono (qQ (ms:=dc::ms) s2 nd2);have ddc:d≠dc:=λe=>by rw[e,hd]at nd2;cases nd2
 have ndH:H d=zN:=s1.free nd2;have ht2:=s2 _ _ (s1 _ _ ht);have npt:L.p≠L.pt:=aQ b.nb ht (by intro z;cases z);have dpt:d≠L.pt:=λe=>by rw[e,ht]at ndH;cases ndH
 have cpt:dc≠L.pt:=λe=>by rw[e,ht]at nd;cases nd
 have ptm:L.pt∈d::dc::ms:=b2.sub _ (by simp[Lay.own])
 nofun
 refine nR ht2 (λod R r=>?_) (Om G ms H s L tv dc d) (λod=>⟨zN,[],rfl,λa u e ne=>by rw[ab ne];exact s2 _ _ (s1 _ _ e),aa,b2.PL ht2 n1 n2,by rw[cJ ptm];exact ts2,dO.start (by rw[ab cpt,ab ddc.symm];exact hd),by rw[ab dpt,aa];rfl⟩) (λod i σ' H' z=>z.ex.elim λ_ w=>w.elim λ_ w=>w.2.2.1) (λod i kk v σ' H' hk z=>?_) (λod σ' H' z=>?_)
 .nofun
  exact dU T (by rw[ab npt];exact b2.nb) r
 .let⟨o,ck,rfl,keep,hpt,b3,ts3,tr3,hd3⟩:=z;let⟨c,hc,rfl,_⟩:=b.i6.at hk;have hcm:c∈s.tests:=Rz hc;dsimp only[kV]
  nofun
  refine⟨d::dc::ms,s,L,tv,c,[],[[]],dc,ck,rfl,b3,ts3,by simp,b.qi nd,tr3,j3.now s,hcm,λH4 p ck4 bt tr4 np hp=>?_⟩;refine eN 0 rfl hp (v:=.int (Sh s c.2:Nat)) rfl ?_;have hd4:=bt _ _ hd3 ddc;refine mh hd4 (eu ?_) ?_
  .have:=b.wf.nT;unfold eC;rw[Rr,Sf];omega
  have hn:aI (eC s (s.tests.take i)) (Rk (c.1:Int))=zN:=CA λt htm e=>by exact gF b.wf.wT hc t htm e
  have btd:lw d H4 (upd H4 d (.dK (putK (eC s (s.tests.take i)) (Rk (c.1:Int)) (.int (Sh s c.2:Nat))))):=λa u e ne=>by rw[ab ne];exact e
  have b4:=b3.but bt tr4.hd (by simp) (b.qi nd);refine⟨_,ck4,rfl,λa u e ne=>?_,?_,b4.but btd aa (by simp) (b.qi ndH),?_,tr4.move (by rw[ab ddc.symm];exact tr4.hd) (by rw[cJ (by simp)];exact ah.refl _),?_⟩
  .rw[ab (ay e ndH)];exact bt _ _ (keep a u e ne) (ay e nd)
  .rw[ab dpt.symm];exact bt _ _ hpt cpt.symm
  .rw[cJ (by simp)];exact ts3.mono (bt.cut (by simp))
  .rw[aa,iK _ hn,Sl,hc];simp[eC]
 .let⟨o,ck,rfl,keep,hpt,b3,ts3,tr3,hd3⟩:=z;rw[b.i6.len,R9]at hd3
  nofun
  refine k _ d (λa u e=>?_) ndH (by rw[ab dpt];exact hd3);by_cases e2:a=L.pt
  .subst e2;rw[aa,<-ht,e]
  .rw[ab e2];exact keep a u e e2
end
variable{d:Addr}{D:Ends}{z:Int}{σ:L2.St}{kvs:List (Key×V)}{g:TG}{tb:TS}{ans:T6}
section
variable{G:Ga}{ms ms':List Addr}{H H':Hp}{s:State}{L:Lay}{vs:List V}{Q:VK}{E:XK}
abbrev enc(a:T6):List Int:=Ug a
def F3(s:State):List (Key×V):=s.marked.map λm=>(Rk (m.1:Int),V.int (m.2:Int))
structure wl(G:Ga)(ms:List Addr)(H:Hp)(s:State)(L:Lay):Prop where
 bk:eA G ms H s L
 ht:H L.pt=zS (.dK L.kt)
 hr:H L.pr=zS (.dK (F3 s))
 n1:L.pi≠L.pt
 n2:L.pc≠L.pt
def wl.same(w:wl G ms H s L)(k:ah H H'):wl G ms H' s L:=⟨w.bk.same k,k _ _ w.ht,k _ _ w.hr,w.n1,w.n2⟩
def Tells(G:Ga)(c:Sz)(args:List V):Sp:=λvs H Q _=>∃ms s L,vs=.ref L.p::args/\wl G ms H s L/\∀H' p,ah H H'->H p=zN->H' p=zS (.lst (iL (enc (T7 s c))))->Q (.ref p) H'
def iA(q:∀p,H p=zN->Q (.ref p) (upd H p (.lst [.int z]))):qX [.int z] H Q:=jN (by simp) q
def eD(k:∀H' p,ah H H'->H p=zN->H' p=zS (.lst (iL (enc ans)))->Q (.ref p) H')(e:ans=⟨z,[]⟩):qX [.int z] H Q:=
 iA λp np=>k _ p (ah.upd np) np (by rw[aa,e];rfl)
def xf{y:Int}(k:∀H' p,ah H H'->H p=zN->H' p=zS (.lst (iL (enc ans)))->Q (.ref p) H')(e:ans=⟨z,[y]⟩):qX [.int z,.int y] H Q:=
 jN (by simp) λp np=>k _ p (ah.upd np) np (by rw[aa,e];rfl)
def f7(G:Ga):Sp:=λvs H Q E=>∃z,Tells G (.verdict z) [.int z] vs H Q E
def y9(T:Tc G)(h:f7 G vs H Q E):k9 G (gy G) (ends Q) (start pV vs) H:=by
 let⟨z,ms,s,L,rfl,w,k⟩:=h;show k9 G _ (ends Q) [zS (.ref L.p),zS (.int z)] H;have b:=w.bk;unfold k9
 nofun
 refine dU T b.nb (cN b.ht ⟨_,rfl,?_⟩);obtain⟨h1,h2,_⟩|⟨v,c,h1,h2,fa,hc,rfl⟩:=b.test z
 .rw[h1,ag (by decide)];exact eD k (by show Sq s z _=_;unfold Sq;rw[h2])
 .rw[h1,ae (by simp)];refine⟨ms,s,L,c,rfl,b,hc,λH1 s1=>?_⟩;exact eD (λH' p s2 np=>k H' p (s1.trans s2) (s1.free np)) (by show Sq s c.1 _=_;unfold Sq;rw[h2];rfl)
def dY(G:Ga):Sp:=λvs H Q _=>∃(a:Addr)(l:List Int),vs=[.ref a]/\H a=zS (.lst (iL l))/\l.length<=1000/\∀H' p,ah H H'->H p=zN->H' p=zS (.lst (iL ((l.length:Int)::l)))->Q (.ref p) H'
theorem IN(h:dY G vs H Q E):vt G (ends Q) (start Bh vs) H:=by
 let⟨a,l,rfl,ha,hl,k⟩:=h;show vt G (ends Q) [zS (.ref a)] H;unfold vt
 nofun
 refine fJ ha (iA λp np=>?_);refine D1 aa (ah.upd np _ _ ha) (fq (by rw[dt];simp;omega)) λq nq=>k _ q ((ah.upd np).trans (ah.upd nq)) ((ah.upd np).free nq) ?_;rw[aa];simp[iL]
def y_(l:List Nat):enc (UZ l)=(l.length:Int)::l.map λ(n:Nat)=>(n:Int):=rfl
def Bm{a:Addr}{l:List Nat}(ha:H a=zS (.lst (nL l)))(hl:l.length<=1000)(k:∀H' p,ah H H'->H p=zN->H' p=zS (.lst (iL (enc (UZ l))))->Q (.ref p) H'):dY G [.ref a] H Q E:=
 ⟨a,l.map λ(n:Nat)=>(n:Int),rfl,by rw[<-Bl];exact ha,by simpa using hl,λH' p s1 np hp=>k H' p s1 np (by rw[hp,y_];simp)⟩
def mP(w:ak.WF s)(xs:List Nat):(S_ s xs).length<=8:=by unfold S_ Xf;refine RO (Th _ _) ?_;rw[Rr];exact w.nI
def hU(G:Ga):Sp:=λvs H Q E=>∃z,Tells G (.rests z) [.int z] vs H Q E
theorem CB(T:Tc G)(h:hU G vs H Q E):nG G (dY G) (dL G) (cV G) (ends Q) (start um vs) H:=by
 let⟨z,ms,s,L,rfl,w,k⟩:=h;show nG G _ _ _ (ends Q) [zS (.ref L.p),zS (.int z)] H;have b:=w.bk;unfold nG
 nofun
 refine⟨ms,s,L,z,rfl,b,_,rfl,?_⟩;have et:T7 s (.rests z)=if So s z=true then UZ (S_ s [z.toNat])else⟨-8,[]⟩:=rfl;rw[et]at k
 cases e:So s z with
 |false=>
  rw[e]at k;rw[ag (by decide)];exact eD k rfl
 |true=>
  rw[e,ag rfl]at k;rw[ae (by decide)];refine bu T b.nb (ow (.inl b.hi) ⟨_,rfl,?_⟩);obtain⟨h1,h2,h3⟩|⟨v,i,h1,h2,_,hi,rfl⟩:=b.input z
  .rw[h1,ae (by decide)];obtain⟨g1,g2⟩|⟨v,c,g1,fa,hc,rfl⟩:=b.cell z
   .obtain⟨i,hi,q⟩|⟨c,hc,q⟩:=(qf s z).mp e
    .exact absurd q (h3 i hi)
    .exact absurd q (g2 c hc)
   .refine ft T b.nb (fE (.inl b.hc) g1 ?_);refine⟨ms,s,L,v,c.2,rfl,b,fa,ak.m9 b.wf hc,λH1 x s1 nx hx=>?_⟩;refine Bm hx (by have:=mP b.wf (Ry c.2);omega) λH' p s2 np hp=>k H' p (s1.trans s2) (s1.free np) ?_;rw[Sg,ak.BJ b.wf hc];exact hp
  .rw[h1,ag (by simp)];refine xf k ?_;rw[Sg,ak.zC b.wf (Rm.mpr ⟨i,hi,rfl⟩)];rfl
def eM(G:Ga):Sp:=λvs H Q E=>∃z,Tells G (.testRests z) [.int z] vs H Q E
theorem uE(T:Tc G)(h:eM G vs H Q E):iQ G (dY G) (cV G) (ends Q) (start lJ vs) H:=by
 let⟨z,ms,s,L,rfl,w,k⟩:=h;show iQ G _ _ (ends Q) [zS (.ref L.p),zS (.int z)] H;have b:=w.bk;unfold iQ
 nofun
 refine dU T b.nb (cN b.ht ⟨_,rfl,?_⟩);obtain⟨h1,h2,_⟩|⟨v,c,h1,h2,fa,hc,rfl⟩:=b.test z
 .rw[h1,ag (by decide)];exact eD k (by show Sq s z _=_;unfold Sq;rw[h2])
 .rw[h1,ae (by simp)];refine dU T b.nb (fE b.ht h1 ?_);refine⟨ms,s,L,v,c.2,rfl,b,fa,ak.lC b.wf hc,λH1 x s1 nx hx=>?_⟩;refine Bm hx (by have:=mP b.wf (Ry c.2);omega) λH' p s2 np hp=>k H' p (s1.trans s2) (s1.free np) ?_;show H' p=zS (.lst (iL (enc (Sq s c.1 _))));unfold Sq;rw[h2];exact hp
def za{od:Obj}(Pv:Nat->L2.St->Hp->Prop)(h0:Pv 0 σ H)(hf:∀i σ' H',Pv i σ' H'->H' d=zS (.fg od (.dK kvs)))(hs:∀i k v σ' H' T,kvs[i]?=zS (k,v)->Pv i σ' H'->H' T=zN->g (.ref T) σ' (upd H' T (.tup [kV k,v])) λσ2 H2=>tb {D with nx:=Pv (i+1),ct:=Pv (i+1),bk:=D.nx} σ2 H2)(hd:∀σ' H',Pv kvs.length σ' H'->D.nx σ' H'):Cp (Pc d od kvs) g tb D σ H:=by refine qJ (n:=kvs.length) Pv h0 (λi σ H' hi p=>⟨hf i σ H' p,hi⟩) (λσ H' p=>⟨hf _ σ H' p,Ro _⟩) (λi σ' H' x H2 hi p y=>?_) hd;let⟨T,k,v,hk,ex,hT,eH⟩:=y;subst ex eH;exact hs i k v σ' H' T hk p hT
def PM(x:V)(H:Hp)(R:RI):Prop:=∃d o kvs,x=.ref d/\H d=zS (.fg o (.dK kvs))/\R (Pc d o kvs) H
def Eg{td:TE}{R:RI}:jh td σ H R=td σ H λx H1=>PM x H1 R:=rfl
def PN(x:V)(H:Hp)(Q:VK):Prop:=∃d u,x=.ref d/\H d=zS u/\JC (zS u)/\∀od,Q x (upd H d (.fg od u))
def Bn{t:TE}:w8 t σ H Q=t σ H λx H1=>PN x H1 Q:=rfl
def M9(h:H d=zS (.dK kvs))(q:∀od,Cp (Pc d od kvs) g tb D σ (upd H d (.fg od (.dK kvs)))):PN (.ref d) H λx H1=>PM x H1 λJ H1=>Cp J g tb D σ H1:=
 ⟨d,_,rfl,h,True.intro,λod=>⟨d,od,kvs,rfl,aa,q od⟩⟩
def fB(G:Ga):Sp:=λvs H Q E=>Tells G .verdicts [] vs H Q E
def Eh(s:State)(l:List (Nat×Formula)):List Int:=l.flatMap λt=>[(t.1:Int),(Sh s t.2:Int)]
structure PP(H:Hp)(L:Lay)(s:State)(l d:Addr)(od:Obj)(i:Nat)(σ:L2.St)(H':Hp):Prop where
 ex:∃(o2 o3:Option V),σ=[zS (.ref L.p),zS (.ref l),o2,o3]/\ah H H'/\H' d=zS (.fg od (.dK (eC s s.tests)))/\H' l=zS (.lst (iL ((s.tests.length:Int)::Eh s (s.tests.take i))))
theorem IP(s:State)(l:List (Nat×Formula)):(Eh s l).length=2*l.length:=by
 induction l with
 |nil=>rfl
 |cons a r ih=>unfold Eh at ih⊢;rw[SR,RH,ih];simp;omega
theorem wI(T:Tc G)(h:fB G vs H Q E):jX G (bN G) (ends Q) (start ot vs) H:=by
 let⟨ms,s,L,rfl,w,k⟩:=h;show jX G _ (ends Q) [zS (.ref L.p),zN,zN,zN] H;have b:=w.bk;unfold jX
 nofun
 simp only[Eg,Bn]
 nofun
 refine dU T b.nb (iX w.ht (iA λl nl=>?_));have s1:=ah.upd (o:=.lst [V.int (L.kt.length:Int)]) nl;have w1:=w.same s1;refine⟨ms,s,L,rfl,w1.bk,w1.ht,w.n1,w.n2,λH1 d s2 nd hd=>M9 hd λod=>?_⟩;have ndH:H d=zN:=s1.free nd;have nld:l≠d:=λe=>by rw[<-e,aa]at nd;cases nd
 have hl:=s2 _ _ (aa (H:=H) (a:=l) (o:=.lst [V.int (L.kt.length:Int)]));refine za (PP H L s l d od) ⟨zN,zN,rfl,ah.put (s1.trans s2) ndH,aa,?_⟩ (λi σ' H' z=>z.ex.elim λ_ w=>w.elim λ_ w=>w.2.2.1) (λi kk v σ' H' T' hk z nT=>?_) (λσ' H' z=>?_)
 .rw[ab nld,hl,b.i6.len];simp[Eh]
 .let⟨o2,o3,rfl,s3,hdf,hl3⟩:=z;obtain⟨c,hc,e⟩:∃c,s.tests[i]?=zS c/\(kk,v)=((Rk (c.1:Int):Key),V.int (Sh s c.2:Nat)):=by
   unfold eC at hk;rw[RW]at hk
   cases e:s.tests[i]? with
   |none=>rw[e]at hk;cases hk
   |some c=>rw[e]at hk;exact⟨c,rfl,(RA hk).symm⟩
  injection e with e1 e2;subst e1 e2;dsimp only[kV];have sT:=ah.upd (o:=.tup [V.int (c.1:Int),V.int (Sh s c.2:Nat)]) nT;refine f9 aa rfl ?_
  nofun
  have hl4:=sT _ _ hl3;refine⟨f8 hl4,iy (by simp) λt nt=>?_⟩;have sT2:=sT.trans (ah.upd (o:=.tup [V.int (c.1:Int),V.int (Sh s c.2:Nat)]) nt);have hl5:=sT2 _ _ hl3;have htl:t≠l:=λe=>by rw[e,hl4]at nt;cases nt
  refine vw hl5 aa (fq ?_) ?_
  .rw[dt,RG,IP,Sf];have:=b.wf.nT;simp;omega
  .refine⟨_,_,rfl,ah.put (s3.trans sT2) nl,?_,?_⟩
   .rw[ab nld.symm];exact sT2 _ _ hdf
   .rw[aa,Sl,hc];simp[Eh,iL]
 .let⟨o2,o3,rfl,s3,hdf,hl3⟩:=z
  nofun
  refine k H' l s3 nl ?_;have:(eC s s.tests).length=s.tests.length:=by simp[eC]
  rw[hl3,this,R9];rfl
def gD(G:Ga):Sp:=λvs H Q E=>Tells G .inputs [] vs H Q E
def zb(l:List Input):List Int:=l.flatMap λi=>[(i.name:Int),Sy i i.place,(i.place:Int),(i.values.length:Int)]
theorem F4(l:List Input):(zb l).length=4*l.length:=by
 induction l with
 |nil=>rfl
 |cons a r ih=>unfold zb at ih⊢;rw[SR,RH,ih];simp;omega
structure PQ(H:Hp)(L:Lay)(s:State)(l:Addr)(od:Obj)(i:Nat)(σ:L2.St)(H':Hp):Prop where
 ex:∃(o2 o3:Option V),σ=[zS (.ref L.p),zS (.ref l),o2,o3]/\(∀a u,H a=zS u->a≠L.pi->H' a=zS u)/\H' L.pi=zS (.fg od (.dK L.ki))/\H' l=zS (.lst (iL ((s.inputs.length:Int)::zb (s.inputs.take i))))
theorem Ab(T:Tc G)(h:gD G vs H Q E):l8 G (bp G) (ends Q) (start rP vs) H:=by
 let⟨ms,s,L,rfl,w,k⟩:=h;show l8 G _ (ends Q) [zS (.ref L.p),zN,zN,zN] H;have b:=w.bk;unfold l8
 nofun
 refine bu T b.nb (iX b.hi (iA λl nl=>?_));have s1:=ah.upd (o:=.lst [V.int (L.ki.length:Int)]) nl;have w1:=w.same s1;have npi:L.p≠L.pi:=aQ b.nb b.hi (by intro z;cases z);have nlpi:l≠L.pi:=λe=>by rw[e,b.hi]at nl;cases nl
 nofun
 refine fI w1.bk.hi (λod R r=>?_) (PQ H L s l) (λod=>⟨zN,zN,rfl,λa u e ne=>by rw[ab ne];exact s1 _ _ e,aa,by rw[ab nlpi,aa,b.fi.len];simp[zb]⟩) (λod i σ' H' z=>z.ex.elim λ_ w=>w.elim λ_ w=>w.2.2.1) (λod i kk v σ' H' T' hk z nT=>?_) (λod σ' H' z=>?_)
 .nofun
  exact bu T (by rw[ab npi];exact w1.bk.nb) r
 .let⟨o2,o3,rfl,keep,hpi,hl3⟩:=z;let⟨x,hx,rfl,a,dx,la,rfl,ha,hla⟩:=b.fi.at hk;have io:=b.wf.fi x (Rz hx);have sT:=ah.upd (o:=.tup [V.int (x.name:Int),V.ref a]) nT;have na:a≠L.pi:=aQ ha b.hi (by intro z;cases z);have nla:la≠L.pi:=λe=>(aj hla).2 (by rw[e];exact b.sub _ (by simp[Lay.own]));have A:=sT _ _ (keep _ _ ha na);have LA:=sT _ _ (keep _ _ (aj hla).1 nla);dsimp only[kV];refine f9 aa rfl ?_
  nofun
  have hl4:=sT _ _ hl3;refine⟨f8 hl4,?_⟩;refine⟨a,dx,la,x,rfl,A,LA,io.wr,?_⟩;refine kg T A (iY T A (fJ LA (iy (by simp) λt nt=>?_)));rw[dt];have sT2:=sT.trans (ah.upd (o:=.tup [V.int (x.name:Int),V.int (Sy x x.place),V.int (x.place:Int),V.int (x.values.length:Int)]) nt);have hl5:=sT2 _ _ hl3;refine vw hl5 aa (fq ?_) ?_
  .rw[dt,RG,F4,Sf];have:=b.wf.nI;simp;omega
  .refine⟨_,_,rfl,λb' u e ne=>?_,?_,?_⟩
   .rw[ab (ay e nl)];exact sT2 _ _ (keep b' u e ne)
   .rw[ab nlpi.symm];exact sT2 _ _ hpi
   .rw[aa,Sl,hx];simp[zb,iL]
 .let⟨o2,o3,rfl,keep,hpi,hl3⟩:=z
  nofun
  refine k _ l (λa u e=>?_) nl ?_
  .by_cases e2:a=L.pi
   .subst e2;rw[aa,<-b.hi,e]
   .rw[ab e2];exact keep a u e e2
  .rw[ab nlpi,hl3,b.fi.len,R9];rfl
def gC(G:Ga):Sp:=λvs H Q E=>∃z,Tells G (.inline z) [.int z] vs H Q E
structure PR(H:Hp)(L:Lay)(s:State)(f:Formula)(n:Int)(fv:V)(bd d:Addr)(kb:List (Key×V))(od:Obj)(i:Nat)(σ:L2.St)(H':Hp):Prop where
 ex:∃(o5 o6 o7:Option V)(kv:List (Key×V))(t:ak.wx),σ=[zS (.ref L.p),zS (.int n),zS fv,zS (.ref bd),zS (.ref d),o5,o6,o7]/\(∀a u,H a=zS u->a≠L.pc->H' a=zS u)/\H' L.pc=zS (.fg od (.dK L.kc))/\H' bd=zS (.dK kb)/\H' d=zS (.dK kv)/\Bk H' kv t/\ak.jC s f (s.cells.take i) t/\kv.length<=i
def K8{kvs:List (Key×V)}{k:Key}{v:V}:(putK kvs k v).length<=kvs.length+1:=by
 unfold putK;split
 .simp
 .simp
def Ei{z:Int}{c:Nat×Formula}(h2:UX s z=zS c.2):T7 s (.inline z)=match V9 s c.2 with
  |some g=>⟨RY (Vu g).length,Vu g⟩
  |none=>⟨-19,[]⟩:=by
 show Sq s z _=_;unfold Sq;rw[h2];dsimp only;cases V9 s c.2<;>rfl
theorem Ac(T:Tc G)(h:gC G vs H Q E):l9 G (dY G) (jk G) (cj G) (ends Q) (start rQ vs) H:=by
 let⟨z,ms,s,L,rfl,w,k⟩:=h;show l9 G _ _ _ (ends Q) [zS (.ref L.p),zS (.int z),zN,zN,zN,zN,zN,zN] H;have b:=w.bk;have wf:=b.wf;unfold l9
 nofun
 refine dU T b.nb (cN b.ht ⟨_,rfl,?_⟩);obtain⟨h1,h2,_⟩|⟨v,c,h1,h2,fa,hc,rfl⟩:=b.test z
 .rw[h1,ag (by decide)];exact eD k (by show Sq s z _=_;unfold Sq;rw[h2])
 rw[h1,ae (by simp)];rw[Ei h2]at k;refine dU T b.nb (fE b.ht h1 ?_)
 nofun
 refine⟨ms,s,L,v,c.2,rfl,b,fa,ak.lC wf hc,λH1 bd kb s1 nb hb ko=>?_⟩
 nofun
 intro d nd;have s2:=s1.trans (ah.upd (o:=.dK []) nd);have ndH:H d=zN:=s1.free nd;have b2:=b.same s2;have nbd:bd≠d:=λe=>by rw[<-e,hb]at nd;cases nd
 have npc:L.p≠L.pc:=aQ b.nb b.hc (by intro z;cases z);have bpc:bd≠L.pc:=λe=>by rw[e,b.hc]at nb;cases nb
 have dpc:d≠L.pc:=λe=>by rw[e,b.hc]at ndH;cases ndH
 have pcm:L.pc∈ms:=b.sub _ (by simp[Lay.own]);have toH:∀{H':Hp},(∀a u,H a=zS u->a≠L.pc->H' a=zS u)->ah (cut ms H) H':=λkeep a u e=>keep a u (aj e).1 λq=>(aj e).2 (by rw[q];exact pcm)
 nofun
 refine fI b2.hc (λod R r=>?_) (PR H L s c.2 c.1 v bd d kb) (λod=>⟨zN,zN,zN,[],[],rfl,λa u e ne=>by rw[ab ne];exact s2 _ _ e,aa,by rw[ab bpc,ab nbd];exact hb,by rw[ab dpc,aa],⟨λx l e=>by simp[ak.fS]at e,λx _=>kQ,λx l e=>by simp[ak.fS]at e⟩,by rw[Xb];exact ak.jC.start s c.2,by simp⟩) (λod i σ' H' z=>z.ex.elim λ_ w=>w.elim λ_ w=>w.elim λ_ w=>w.elim λ_ w=>w.elim λ_ w=>w.2.2.1) (λod i kk v' σ' H' T' hk z nT=>?_) (λod σ' H' z=>?_)
 .nofun
  exact ft T (by rw[ab npc];exact b2.nb) r
 .let⟨o5,o6,o7,kv,t,rfl,keep,hpc,hbd,hd,ia,io,hlen⟩:=z;let⟨x,hx,rfl,fx⟩:=b.hZ.at hk;have hxm:x∈s.cells:=Rz hx;let⟨hi,ee⟩:=RE.mp hx;have e3:s.cells=s.cells.take i++x::s.cells.drop (i+1):=by rw[<-ee,<-UU hi,V6]
  have e4:s.cells.take (i+1)=s.cells.take i++[x]:=by rw[Sl,hx];rfl
  have sT:=ah.upd (o:=.tup [kV (Rk (x.1:Int)),v']) nT;have keep2:∀a u,H a=zS u->a≠L.pc->(upd H' T' (.tup [kV (Rk (x.1:Int)),v'])) a=zS u:=λa u e ne=>sT _ _ (keep a u e ne);dsimp only[kV];refine f9 aa rfl ?_
  nofun
  refine ow (.inl (sT _ _ hbd)) ⟨_,rfl,?_⟩;rw[ko.has x.1];by_cases e:x.1∈ak.ci s.cells (Ry c.2)
  .rw[ag (by simpa using e)];have fx0:=fx.mono (toH keep2);let⟨xa,_,_,_,_,_,rfl,_⟩:=fx;have told:=wf.hZ.told x hxm;refine⟨xa,d,x.2,kv,t,rfl,fx0,told,.inl (sT _ _ hd),ia.mono sT,λH3 p s3 np hp=>?_⟩
   nofun
   refine fJ hp ?_
   nofun
   rw[dt];have keep3:∀a u,H a=zS u->a≠L.pc->H3 a=zS u:=λa u e ne=>s3 _ _ (keep2 a u e ne);by_cases hl:200<(ak.inl t x.2).length
   .rw[ag (by omega)];rw[ak.jC.long wf io e3 e hl]at k;refine iA λq nq=>⟨?_,?_⟩
    .exact ah.upd nq _ _ (s3 _ _ (sT _ _ hpc))
    .have hpc3:=s3 _ _ (sT _ _ hpc);have qpc:q≠L.pc:=λe=>by rw[e,hpc3]at nq;cases nq
     refine k _ q (λa u e=>?_) ?_ (by rw[ab qpc,aa];rfl)
     .by_cases e2:a=L.pc
      .subst e2;rw[aa,<-b.hc,e]
      .rw[ab e2];exact ah.upd nq _ _ (keep3 a u e e2)
     .cases eq:H q with
      |none=>rfl
      |some u=>rw[keep3 q u eq qpc]at nq;cases nq
   .rw[ae (by omega)];refine mh (s3 _ _ (sT _ _ hd)) (eu (by have:=wf.nC;omega)) ?_;have nin:x.1∉t.map (·.1):=λq=>by let⟨y,hy,ey⟩:=Rm.mp ((io.key _).mp q).1;exact gF wf.Qa hx y hy ey
    have hpd:p≠d:=(ay (sT _ _ hd) np).symm;refine⟨_,_,_,_,t++[(x.1,ak.inl t x.2)],rfl,λa u e ne=>?_,?_,?_,aa,⟨λy l hy=>?_,λy hy=>?_,λy l hy=>?_⟩,by rw[e4];exact io.next wf e3 e (by omega),RO K8 (by omega)⟩
    .rw[ab (ay e ndH)];exact keep3 a u e ne
    .rw[ab dpc.symm];exact s3 _ _ (sT _ _ hpc)
    .rw[ab nbd];exact s3 _ _ (sT _ _ hbd)
    .rw[ak.qC nin]at hy;rw[fU];split at hy
     .rename_i ey;subst ey;cases hy;refine⟨p,ag rfl,?_⟩;rw[ab hpd];exact hp
     .rename_i ey;let⟨q,q1,q2⟩:=ia.yes y l hy;refine⟨q,by rw[ae (by intro z;injection z with z;omega)];exact q1,?_⟩;rw[ab (λe=>by rw[e,hd]at q2;cases q2)];exact s3 _ _ (sT _ _ q2)
    .rw[ak.qC nin]at hy;rw[fU];split at hy
     .cases hy
     .rename_i ey;rw[ae (by intro z;injection z with z;omega)];exact ia.no y hy
    .rw[ak.qC nin]at hy;split at hy
     .cases hy;omega
     .exact ia.len y l hy
  .rw[ae (by simpa using e)];exact⟨_,_,_,kv,t,rfl,keep2,sT _ _ hpc,sT _ _ hbd,sT _ _ hd,ia.mono sT,by rw[e4];exact io.skip e,by omega⟩
 .let⟨o5,o6,o7,kv,t,rfl,keep,hpc,hbd,hd,ia,io,hlen⟩:=z;rw[b.hZ.len,R9]at io;have s4:ah H (upd H' L.pc (.dK L.kc)):=λa u e=>by
   by_cases e2:a=L.pc
   .subst e2;rw[aa,<-b.hc,e]
   .rw[ab e2];exact keep a u e e2
  have ia2:Bk (upd H' L.pc (.dK L.kc)) kv t:=⟨λx l e=>let⟨q,q1,q2⟩:=ia.yes x l e;⟨q,q1,by rw[ab (λe=>by rw[e,hpc]at q2;cases q2)];exact q2⟩,ia.no,ia.len⟩;have fa0:=fa.mono (λa u e=>s4 a u (aj e).1);let⟨xa,_,_,_,_,_,rfl,_⟩:=fa
  nofun
  refine⟨xa,d,c.2,kv,t,rfl,fa0,(wf.i6 c hc).1,.inl (by rw[ab dpc];exact hd),ia2,λH3 p s3 np hp=>?_⟩
  nofun
  refine fJ hp ?_
  nofun
  rw[dt];let⟨dn1,dn2⟩:=io.done wf (ak.lC wf hc);by_cases hl:200<(ak.inl t c.2).length
  .rw[ag (by omega)];rw[dn1 hl]at k;exact eD (λH' p s5 np=>k H' p ((s4.trans s3).trans s5) ((s4.trans s3).free np)) rfl
  .rw[ae (by omega)];let⟨g,g1,g2⟩:=dn2 (by omega);rw[g1]at k;refine⟨p,ak.inl t c.2,rfl,hp,by omega,λH4 q s5 nq hq=>k H4 q ((s4.trans s3).trans s5) ((s4.trans s3).free nq) ?_⟩;rw[hq,<-g2];rfl
def iW(G:Ga):Sp:=λvs H Q E=>Tells G .news [] vs H Q E
def nV(s:State)(n:Nat):Nat:=((s.marked.find? λy=>y.1==n).map λy=>y.2).getD 3
def wm(s:State)(l:List (Nat×Formula)):List (Nat×Nat×Nat):=l.filterMap λt=>if nV s t.1=Sh s t.2 then zN else zS (t.1,nV s t.1,Sh s t.2)
def vx(s:State):Xg s=wm s s.tests:=rfl
def Ej(l:List (Nat×Nat×Nat)):List Int:=l.flatMap λx=>[(x.1:Int),(x.2.1:Int),(x.2.2:Int)]
theorem Bo(l:List (Nat×Nat×Nat)):(Ej l).length=3*l.length:=by
 induction l with
 |nil=>rfl
 |cons a r ih=>unfold Ej at ih⊢;rw[SR,RH,ih];simp;omega
theorem Mw(s:State)(n:Nat):(aI (F3 s) (Rk (n:Int))).getD (.int 3)=.int (nV s n:Nat):=by
 unfold F3 nV;generalize s.marked=l
 induction l with
 |nil=>rfl
 |cons m r ih=>
  rw[RS];by_cases e:m.1=n
  .rw[dA (by rw[e]),Us (by simpa using e)];rfl
  .rw[dB (by intro q;injection q with q;omega),T5 (by simpa using e)];exact ih
structure PU(H:Hp)(L:Lay)(s:State)(l d:Addr)(od:Obj)(i:Nat)(σ:L2.St)(H':Hp):Prop where
 ex:∃(o3 o4 o5:Option V),σ=[zS (.ref L.p),zS (.ref l),zS (.int ((wm s (s.tests.take i)).length:Int)),o3,o4,o5]/\ah H H'/\H' d=zS (.fg od (.dK (eC s s.tests)))/\H' l=zS (.lst (iL (Ej (wm s (s.tests.take i)))))
def vy(s:State)(l:List (Nat×Formula)):(wm s l).length<=l.length:=List.length_filterMap_le ..
theorem Ek(T:Tc G)(h:iW G vs H Q E):pW G (bN G) (ends Q) (start wb vs) H:=by
 let⟨ms,s,L,rfl,w,k⟩:=h;show pW G _ (ends Q) [zS (.ref L.p),zN,zN,zN,zN,zN] H;have b:=w.bk;unfold pW
 nofun
 simp only[Eg,Bn]
 nofun
 refine jN (by simp) λl nl=>?_;have s1:=ah.upd (o:=.lst []) nl;have w1:=w.same s1;refine⟨ms,s,L,rfl,w1.bk,w1.ht,w.n1,w.n2,λH1 d s2 nd hd=>M9 hd λod=>?_⟩;have ndH:H d=zN:=s1.free nd;have nld:l≠d:=λe=>by rw[<-e,aa]at nd;cases nd
 have hl:=s2 _ _ (aa (H:=H) (a:=l) (o:=.lst []));refine za (PU H L s l d od) ⟨zN,zN,zN,rfl,ah.put (s1.trans s2) ndH,aa,?_⟩ (λi σ' H' z=>z.ex.elim λ_ w=>w.elim λ_ w=>w.elim λ_ w=>w.2.2.1) (λi kk v σ' H' T' hk z nT=>?_) (λσ' H' z=>?_)
 .rw[ab nld,hl];simp[Ej,wm]
 .let⟨o3,o4,o5,rfl,s3,hdf,hl3⟩:=z;obtain⟨c,hc,e⟩:∃c,s.tests[i]?=zS c/\(kk,v)=((Rk (c.1:Int):Key),V.int (Sh s c.2:Nat)):=by
   unfold eC at hk;rw[RW]at hk
   cases e:s.tests[i]? with
   |none=>rw[e]at hk;cases hk
   |some c=>rw[e]at hk;exact⟨c,rfl,(RA hk).symm⟩
  injection e with e1 e2;subst e1 e2;have et:wm s (s.tests.take (i+1))=wm s (s.tests.take i)++(if nV s c.1=Sh s c.2 then []else [(c.1,nV s c.1,Sh s c.2)]):=by rw[Sl,hc];unfold wm;rw[Xc];simp only[Y2,Vh,List.filterMap_nil];split<;>simp_all
  have w3:=w.same s3;dsimp only[kV];have sT:=ah.upd (o:=.tup [V.int (c.1:Int),V.int (Sh s c.2:Nat)]) nT;have w4:=w3.same sT;refine f9 aa rfl ?_
  nofun
  refine uz T w4.bk.nb (N_ (z:=(c.1:Int)) (v:=.int 3) (.inl w4.hr) (λR r=>r) (λR r=>r) ?_);rw[Mw]
  nofun
  have hl4:=sT _ _ hl3;by_cases e:nV s c.1=Sh s c.2
  .rw[ag e,RB]at et;rw[ae (by simp[e])];exact⟨_,_,_,by rw[et],s3.trans sT,sT _ _ hdf,by rw[et];exact hl4⟩
  .rw[ae e]at et;rw[ag (by omega)];refine⟨f8 hl4,iy (by simp) λt nt=>?_⟩;have sT2:=sT.trans (ah.upd (o:=.tup [V.int (c.1:Int),V.int (nV s c.1:Nat),V.int (Sh s c.2:Nat)]) nt);have hl5:=sT2 _ _ hl3;refine vw hl5 aa (fq ?_) ?_
   .rw[dt,Bo];have:=vy s (s.tests.take i);rw[Sf]at this;have:=b.wf.nT;simp;omega
   .refine⟨zS (.int (c.1:Int)),zS (.int (Sh s c.2:Nat)),zS (.int (nV s c.1:Nat)),by rw[et];simp,ah.put (s3.trans sT2) nl,?_,?_⟩
    .rw[ab nld.symm];exact sT2 _ _ hdf
    .rw[aa,et];simp[Ej,iL]
 .let⟨o3,o4,o5,rfl,s3,hdf,hl3⟩:=z;have:(eC s s.tests).length=s.tests.length:=by simp[eC]
  rw[this,R9]at hl3⊢
  nofun
  refine iA λp np=>D1 aa (ah.upd np _ _ hl3) (fq ?_) λq nq=>k _ q (s3.trans ((ah.upd np).trans (ah.upd nq))) ((s3.trans (ah.upd np)).free nq) ?_
  .rw[dt,Bo];have:=vy s s.tests;have:=b.wf.nT;simp;omega
  .rw[aa];show zS (HO.lst ([V.int _]++iL _))=zS (HO.lst (iL (enc ⟨_,_⟩)));rw[vx];rfl
def hC(G:Ga):Sp:=λvs H Q E=>∃z,Tells G (.value z) [.int z] vs H Q E
def CG(T:Tc G)(h:hC G vs H Q E):nN G (eY G) (bM G) (bp G) (ends Q) (start uv vs) H:=by
 let⟨z,ms,s,L,rfl,w,k⟩:=h;show nN G _ _ _ (ends Q) [zS (.ref L.p),zS (.int z),zN] H;have b:=w.bk;have wf:=b.wf;unfold nN
 nofun
 have et:T7 s (.value z)=if So s z=true then V_ (T4 (Wa s (Ut s)) z.toNat)else⟨-8,[]⟩:=rfl;rw[et]at k;refine bu T b.nb (ow (.inl b.hi) ⟨_,rfl,?_⟩);obtain⟨h1,h2,h3⟩|⟨v,i,h1,h2,⟨a,dx,l,rfl,ha,hl⟩,hi,rfl⟩:=b.input z
 .rw[h1,ae (by decide)];refine ft T b.nb (cN (.inl b.hc) ⟨_,rfl,?_⟩);obtain⟨g1,g2⟩|⟨v,c,g1,fa,hc,rfl⟩:=b.cell z
  .rw[g1,ag (by decide)];refine eD k (ae λe=>?_);obtain⟨i,hi,q⟩|⟨c,hc,q⟩:=(qf s z).mp e
   .exact h3 i hi q
   .exact g2 c hc q
  .rw[g1,ae (by simp)];rw[ag ((qf s c.1).mpr (.inr ⟨c,hc,rfl⟩)),Sg]at k;refine⟨rfl,λH1 tv d s1 nd hd ts=>?_⟩;have b1:=b.same s1
   nofun
   refine ft T b1.nb (fE (.inl b1.hc) g1 ?_);refine⟨d::ms,s,L,tv,v,c.2,[],[[]],d,[],rfl,b.fresh s1 nd hd,ts ms b.dm,Rv,b.qi nd,dO.start hd,j3.now s,fa.mono (qQ s1 nd),wf.hZ.told c hc,ak.m9 wf hc,λH2 x ck1 bt tr1 cx=>?_⟩;have s2:ah H H2:=lw.same s1 nd bt;have kk:∀H' p,ah H2 H'->H2 p=zN->H' p=zS (.lst (iL (enc (V_ (RX (ak.r_ s [] []) c.2)))))->Q (.ref p) H':=λH' p s3 np hp=>k H' p (s2.trans s3) (s2.free np) (by have e:T4 (Wa s (Ut s)) c.1=RX (ak.r_ s [] []) c.2:=ak.AI (ns:=[]) (ps:=[]) wf hc;rw[e];exact hp)
   let⟨a,adx,an,ar,nums,lo,hi,rf,rfl,ha,han,har,ca⟩:=cx;have el:(zy (envsOf s [] [[]]) c.2)=[RX (ak.r_ s [] []) c.2]:=rfl;rw[el]at ca;have hv:=ca.ref.val 0 (by simp)
   nofun
   refine dZ T (aj ha).1 (ow (.inl (aj har).1) ⟨_,rfl,?_⟩);have e0:(Rk (0:Int):Key)=Rk ((0:Nat):Int):=rfl;rw[e0,hv]
   cases er:RX (ak.r_ s [] []) c.2 with
   |error kd=>
    rw[er]at hv kk;rw[ag (show(Y3 (λ(k:Nat)=>V.int (k:Int)) (kindAt [Except.error kd] 0)).isSome=true from rfl)];refine dZ T (aj ha).1 (fE (.inl (aj har).1) hv ?_);exact xf kk rfl
   |ok val=>
    rw[er]at hv kk;rw[ae (show¬(Y3 (λ(k:Nat)=>V.int (k:Int)) (kindAt [(Except.ok val:Res)] 0)).isSome=true from λq=>by cases q)];refine bh T (aj ha).1 (eN 0 rfl (aj han).1 (v:=.int val) ?_ ?_)
    .have:=ca.val 0 val (by rw[er];rfl);simp[iL,this]
    .exact xf kk rfl
 .rw[h1,ag (by simp)];rw[ag ((qf s i.name).mpr (.inl ⟨i,hi,rfl⟩)),Sg]at k;refine bu T b.nb (fE (.inl b.hi) h1 ?_);refine⟨a,dx,l,i,rfl,ha,(aj hl).1,(wf.fi i hi).wr,?_⟩;refine xf k ?_;have e:T4 (Wa s (Ut s)) i.name=Except.ok (Sy i i.place):=ak.Dg (ns:=[]) (ps:=[]) wf hi (by simp);rw[e];rfl
end
variable{i:Input}
section
variable{G:Ga}{ms ms':List Addr}{H H':Hp}{s:State}{L:Lay}{vs:List V}{Q:VK}{E:XK}
theorem El{g:TG}{tt:TT}{te:TE}{xs:List Nat}{σ:L2.St}{j:Int}(n:Nat)(ej:j=(n:Int))(hz:n<=30000)(f:Nat->List Nat)(hs:∀(i:Nat) H'(R:VK)(R0:Hp->Prop),i<n->(∀p,H' p=zN->R (.ref p) (upd H' p (.tup (nL (f i)))))->sM g tt te xs σ (.int (i:Int)) H' R R0)(hd:∀H' p svs,ah H H'->H p=zN->H' p=zS (.lst svs)->Paired (λv ps=>∃a,v=V.ref a/\H' a=zS (.tup (nL ps))/\H a=zN) svs ((RM n).map f)->Q (.ref p) H'):KF [.int j] H λJ H1=>Mn J g tt te xs σ H1 Q:=by
 refine⟨j,rfl,by omega,by omega,?_⟩;have en:j.toNat=n:=by omega
 rw[en]
 refine KI (n:=n) (by omega) (λi o H'=>Paired (λv ps=>∃a,v=V.ref a/\H' a=zS (.tup (nL ps))/\H a=zN) o ((RM i).map f)) .nil (λi o H' p=>by have:=Paired.nS p;simp at this;omega) (λi o H1 H2 k p=>Paired.j9 p λ_ _ z=>let⟨a,e,h,h0⟩:=z;⟨a,e,k _ _ h,h0⟩) (λi o H' p l l' hp q=>Paired.j9 q λ_ _ z=>let⟨a,e,h,h0⟩:=z;⟨a,e,by rw[ab (aQ h hp (by intro z;cases z))];exact h,h0⟩)
  (λi H' hi _=>hi) (λH' _=>Ro _) (λi x o H1 H' R R0 hi s1 pv y k1 _=>?_) (λH' p o s1 np pv hp=>hd H' p o s1 np hp pv)
 let⟨e1,e2⟩:=y;subst e1 e2;rw[Int.zero_add];refine hs i _ R R0 hi λp np=>k1 _ _ (ah.upd np) ?_;rw[Uj,Sa];exact Tz (Paired.j9 pv λ_ _ z=>let⟨a,e,h,h0⟩:=z;⟨a,e,ah.upd np _ _ h,h0⟩) ⟨p,rfl,aa,s1.free np⟩
def zc{H1:Hp}{n st x d dx:Addr}{ns:List Nat}{svs:List V}{pss:List (List Nat)}(dm:lu ms H)(hn0:H n=zN)(hn:H1 n=zS (.lst (nL ns)))(hs0:H st=zN)(hs:H1 st=zS (.lst svs))(pr:Paired (λv ps=>∃a,v=V.ref a/\H1 a=zS (.tup (nL ps))/\H a=zN) svs pss)(k:ah H1 H')(x0:H x=zN)(hd:H' d=zS (.dK []))(hx:H' x=zS (.ins G.CT dx (fT (.ref n) (.ref st) (.ref d)))):j2 G (cut (d::ms) H') (.ref x) ns pss d:=by
 have f1:∀{b:Addr}{o:HO},H b=zN->(∀kv,o≠.dK kv)->H' b=zS o->cut (d::ms) H' b=zS o:=λhb no e=>cS e λq=>by
  obtain q|q:=Rn.mp q
  .rw[q,hd]at e;exact no _ (RA e).symm
  .exact dm.free hb q
 refine⟨x,dx,n,st,svs,rfl,f1 x0 (by intro kv z;cases z) hx,f1 hn0 (by intro kv z;cases z) (k _ _ hn),f1 hs0 (by intro kv z;cases z) (k _ _ hs),Paired.j9 pr λv ps z=>?_⟩;let⟨a,e,h,h0⟩:=z;exact⟨a,e,f1 h0 (by intro kv z;cases z) (k _ _ h)⟩
theorem eA.qR(b:eA G ms H s L)(hi:i∈s.inputs):∃a dx l,aI L.ki (Rk (i.name:Int))=zS (.ref a)/\H a=zS (.ins G.CD dx (fD (.ref l) (.int (i.place:Int))))/\cut ms H l=zS (.lst (iL i.values)):=by
 obtain⟨_,_,g⟩|⟨v,i',h1,_,⟨a,dx,l,rfl,h2,h3⟩,h4,h5⟩:=b.input i.name
 .exact absurd rfl (g i hi)
 .have:i'=i:=ak.b7 b.wf.zB h4 hi (by omega);subst this;exact⟨a,dx,l,h1,h2,h3⟩
def jI(G:Ga):Sp:=λvs H Q _=>∃ms s L i c,vs=[.ref L.p,.int ((i.name:Nat):Int),.int ((c.1:Nat):Int)]/\eA G ms H s L/\i∈s.inputs/\c∈s.tests/\∀H' p,ah H H'->H p=zN->H' p=zS (.lst (nL (SK s i c.2)))->Q (.ref p) H'
theorem F5(w:ak.WF s)(hi:i∈s.inputs):j3 s [i.name] ((RM i.values.length).map λp=>[p])where
 nd:=by simp
 len:=λps h=>by let⟨p,_,rfl⟩:=Rm.mp h;rfl
 lt:=λps h j i' p hi' hj hp=>by
  let⟨q,hq,rfl⟩:=Rm.mp h;have hj0:j=0:=by have:=(RE.mp hp).1;simp at this;exact this
  subst hj0;simp at hj hp;have:i'=i:=ak.b7 w.zB hi' hi hj.symm;subst this;rw[<-hp];exact S7.mp hq
 pos:=by have:=(w.fi i hi).wr;simp;omega
 top:=by have:=(w.fi i hi).len;simp;omega
theorem Mx(T:Tc G)(h:jI G vs H Q E):Cn G (eL G) (aX G) (ends Q) (start Cm vs) H:=by
 let⟨ms,s,L,i,c,rfl,b,hi,hc,k⟩:=h;show Cn G _ _ (ends Q) [zS (.ref L.p),zS (.int (i.name:Int)),zS (.int (c.1:Int)),zN,zN] H;have w:=b.wf;let⟨a,dx,l,h1,ha,hl⟩:=b.qR hi;have io:=w.fi i hi;unfold Cn
 nofun
 refine bu T b.nb (fE (.inl b.hi) h1 (iY T ha (fJ (aj hl).1 ?_)));rw[dt];refine El i.values.length rfl (by have:=io.len;omega) (λp=>[p]) (λm H' R R0 hm r=>?_) (λH1 st svs s1 nst hst pr=>?_)
 .dsimp only[sM]
  nofun
  exact iy (by simp) r
 nofun
 refine jN (by simp) λn nn=>?_;have s2:=s1.trans (ah.upd (o:=.lst [V.int (i.name:Int)]) nn);refine G5 λH3 x tdx d s3 nx nd hd hx nxd=>?_
 nofun
 have s4:=s2.trans s3;have ts:=zc (G:=G) (ns:=[i.name]) b.dm (s1.free nn) aa nst (ah.upd nn _ _ hst) (Paired.j9 pr λv ps z=>let⟨a,e,h,h0⟩:=z;⟨a,e,ah.upd nn _ _ h,h0⟩) s3 (s2.free nx) hd hx;refine⟨d::ms,s,L,.ref x,c,[i.name],_,d,[],rfl,b.fresh s4 (s2.free nd) hd,ts,Rv,b.qi (s2.free nd),dO.start hd,F5 w hi,hc,λH5 p ck1 bt tr1 np hp=>?_⟩;refine k H5 p (lw.same s4 (s2.free nd) bt) (s4.free np) ?_;rw[hp,ak.Jy];rfl
def hR(G:Ga):Sp:=λvs H Q E=>∃x n,Tells G (.sweep x n) [.int x,.int n] vs H Q E
theorem CH(T:Tc G)(h:hR G vs H Q E):nO G (jI G) (ends Q) (start uw vs) H:=by
 let⟨x,n,ms,s,L,rfl,w,k⟩:=h;show nO G _ (ends Q) [zS (.ref L.p),zS (.int x),zS (.int n),zN] H;have b:=w.bk;have et:T7 s (.sweep x n)=TC s x λi=>Sq s n λf=>UZ (SK s i f):=rfl;rw[et]at k;unfold nO
 nofun
 refine bu T b.nb (cN (.inl b.hi) ⟨_,rfl,?_⟩);unfold TC Sq at k;obtain⟨h1,h2,h3⟩|⟨v,i,h1,h2,_,hi,rfl⟩:=b.input x
 .rw[h1,ag (by decide)];exact eD k (by rw[h2])
 rw[h1,ae (by simp)];rw[h2]at k;refine dU T b.nb (cN b.ht ⟨_,rfl,?_⟩);obtain⟨g1,g2,_⟩|⟨v,c,g1,g2,fa,hc,rfl⟩:=b.test n
 .rw[g1,ag (by decide)];exact eD k (by rw[g2])
 rw[g1,ae (by simp)];rw[g2]at k;refine⟨ms,s,L,i,c,rfl,b,hi,hc,λH1 p s1 np hp=>?_⟩
 nofun
 have hsl:=ak.kj s i c.2;have hil:=(b.wf.fi i hi).len;refine fJ hp (iA λq nq=>D1 aa (ah.upd nq _ _ hp) (fq (by rw[jZ];simp;omega)) λr nr=>k _ r (s1.trans ((ah.upd nq).trans (ah.upd nr))) ((s1.trans (ah.upd nq)).free nr) ?_);rw[aa,jZ,y_,Bl];rfl
def iV(G:Ga):Sp:=λvs H Q E=>∃x y n,Tells G (.grid x y n) [.int x,.int y,.int n] vs H Q E
theorem IQ{j:Input}(w:ak.WF s)(hi:i∈s.inputs)(hj:j∈s.inputs)(hne:i.name≠j.name)(hm:i.values.length*j.values.length<=1024):j3 s [i.name,j.name] ((RM (i.values.length*j.values.length)).map λk=>[k/j.values.length,k %j.values.length])where
 nd:=by simp[hne]
 len:=λps h=>by let⟨p,_,rfl⟩:=Rm.mp h;rfl
 lt:=λps h m i' p hi' hj' hp=>by
  let⟨q,hq,rfl⟩:=Rm.mp h;have hq:=S7.mp hq;have pj:0<j.values.length:=by have:=(w.fi j hj).wr;omega
  match m,hj',hp with
  |0,hj',hp=>
   simp at hj' hp;have:i'=i:=ak.b7 w.zB hi' hi hj'.symm;subst this;rw[<-hp];exact(Nat.div_lt_iff_lt_mul pj).mpr hq
  |1,hj',hp=>
   simp at hj' hp;have:i'=j:=ak.b7 w.zB hi' hj hj'.symm;subst this;rw[<-hp];exact Nat.mod_lt _ pj
  |m+2,hj',hp=>simp at hj'
 pos:=by have:=(w.fi i hi).wr;have:=(w.fi j hj).wr;simp only[Rr,TM];exact Nat.mul_pos (by omega) (by omega)
 top:=by simp only[Rr,TM];omega
theorem qj(l:List Nat)(v:Nat):((l.map λ(n:Nat)=>(n:Int)).count ((v:Nat):Int))=Y4 v l:=by
 unfold Y4
 induction l with
 |nil=>rfl
 |cons a r ih=>
  rw[RS,List.count_cons,ih,Td];by_cases e:a=v
  .subst e;simp
  .have:¬((a:Int)=(v:Int)):=by omega
   simp[e,this]
theorem Em(T:Tc G)(h:iV G vs H Q E):p8 G (eL G) (aX G) (ends Q) (start p7 vs) H:=by
 let⟨x,y,n,ms,s,L,rfl,w,k⟩:=h;show p8 G _ _ (ends Q) [zS (.ref L.p),zS (.int x),zS (.int y),zS (.int n),zN,zN,zN,zN,zN] H;have b:=w.bk;have wf:=b.wf;have et:T7 s (.grid x y n)=TC s x λi=>Xh s i y n:=rfl;rw[et]at k;unfold p8
 nofun
 refine bu T b.nb (cN (.inl b.hi) ⟨_,rfl,?_⟩);unfold TC at k;obtain⟨h1,h2,h3⟩|⟨v,i,h1,h2,_,hi,rfl⟩:=b.input x
 .rw[h1,ag (by decide)];exact eD k (by rw[h2])
 rw[h1,ae (by simp)];rw[h2]at k;dsimp only at k;unfold Xh TC at k;refine bu T b.nb (cN (.inl b.hi) ⟨_,rfl,?_⟩);obtain⟨h1',h2',h3'⟩|⟨v',j,h1',h2',_,hj,rfl⟩:=b.input y
 .rw[h1',ag (by decide)];exact eD k (by rw[h2'])
 rw[h1',ae (by simp)];rw[h2']at k;dsimp only at k;by_cases e:i.name=j.name
 .rw[ag (by omega)];exact eD k (by rw[ag e])
 rw[ae (by omega)];rw[ae e]at k;unfold Sq at k;refine dU T b.nb (cN b.ht ⟨_,rfl,?_⟩);obtain⟨g1,g2,_⟩|⟨v,c,g1,g2,fa,hc,rfl⟩:=b.test n
 .rw[g1,ag (by decide)];exact eD k (by rw[g2])
 rw[g1,ae (by simp)];rw[g2]at k;dsimp only at k;let⟨a,dx,l,q1,ha,hl⟩:=b.qR hi;let⟨a',dx',l',q1',ha',hl'⟩:=b.qR hj;have io:=wf.fi i hi;have jo:=wf.fi j hj;refine bu T b.nb (fE (.inl b.hi) q1 (iY T ha (fJ (aj hl).1 ?_)))
 nofun
 refine bu T b.nb (fE (.inl b.hi) q1' (iY T ha' (fJ (aj hl').1 ?_)))
 nofun
 rw[dt,dt];have il:=io.len;have jl:=jo.len;have cm:wB (i.values.length:Int) (j.values.length:Int):=.inl ⟨by omega,by omega⟩;have ej:(i.values.length:Int)*(j.values.length:Int)=((i.values.length*j.values.length:Nat):Int):=by simp
 refine⟨cm,?_⟩;by_cases hm:Vanbkj.MOST<i.values.length*j.values.length
 .rw[ag (by rw[ej];have:1024<i.values.length*j.values.length:=hm;omega)];exact eD k (ag hm)
 have hm':i.values.length*j.values.length<=1024:=WD hm;rw[ae (by rw[ej];omega)];rw[ae hm]at k;refine⟨cm,?_⟩;have jp:0<j.values.length:=by have:=jo.wr;omega
 refine El (i.values.length*j.values.length) ej (by omega) (λm=>[m/j.values.length,m %j.values.length]) (λm H' R R0 hm2 r=>?_) (λH1 st svs s1 nst hst pr=>?_)
 .dsimp only[sM];simp only[A8,NY]
  nofun
  refine⟨⟨by omega,by omega⟩,by omega,iy (by simp) λp np=>?_⟩;have e1:(m:Int).fdiv (j.values.length:Int)=((m/j.values.length:Nat):Int):=by rw[Uy _ (by omega)];simp
  have e2:(m:Int).fmod (j.values.length:Int)=((m %j.values.length:Nat):Int):=by rw[Int.fmod_eq_emod_of_nonneg _ (by omega)];simp
  rw[e1,e2];exact r p np
 refine jN (by simp) λnn hnn=>?_;have s2:=s1.trans (ah.upd (o:=.lst [V.int (i.name:Int),V.int (j.name:Int)]) hnn);refine G5 λH3 x tdx d s3 nx nd hd hx nxd=>?_;have s4:=s2.trans s3;have ts:=zc (G:=G) (ns:=[i.name,j.name]) b.dm (s1.free hnn) aa nst (ah.upd hnn _ _ hst) (Paired.j9 pr λv ps z=>let⟨a,e,h,h0⟩:=z;⟨a,e,ah.upd hnn _ _ h,h0⟩) s3 (s2.free nx) hd hx;refine⟨d::ms,s,L,.ref x,c,[i.name,j.name],_,d,[],rfl,b.fresh s4 (s2.free nd) hd,ts,Rv,b.qi (s2.free nd),dO.start hd,IQ wf hi hj e hm',hc,λH5 p ck1 bt tr1 np hp=>?_⟩;have s5:=lw.same s4 (s2.free nd) bt;have eg:M8 s [i.name,j.name] ((RM (i.values.length*j.values.length)).map λm=>[m/j.values.length,m %j.values.length]) c.2=Wb s i j c.2:=(ak.Lq s i j c.2 jp).symm;rw[eg,Bl]at hp;refine⟨f8 hp,G3 hp ⟨f8 hp,G3 hp ⟨f8 hp,G3 hp (jN (by simp) λq nq=>k _ q (s5.trans (ah.upd nq)) (s5.free nq) ?_)⟩⟩⟩;rw[aa];have c1:=qj (Wb s i j c.2) 1;have c0:=qj (Wb s i j c.2) 0;have c2:=qj (Wb s i j c.2) 2;rw[show((1:Nat):Int)=1 from rfl]at c1;rw[show((0:Nat):Int)=0 from rfl]at c0;rw[show((2:Nat):Int)=2 from rfl]at c2;rw[c1,c0,c2];rfl
def iU(G:Ga):Sp:=λvs H Q E=>∃x n z,Tells G (.edge x n z) [.int x,.int n,.int z] vs H Q E
def Pe{a b x y:Prop} [Decidable a] [Decidable b](h:¬(a/\b))(g:y):if a then(if b then x else y)else y:=by
 by_cases ha:a
 .rw[ag ha,ae (λhb=>h ⟨ha,hb⟩)];exact g
 .rw[ae ha];exact g
structure QU(s:State)(i:Input)(f:Formula)(H1:Hp)(p x n dir vl:V)(up:Bool)(σ:L2.St)(H':Hp):Prop where
 ex:∃(k:Nat)(pl:Int),σ=[zS p,zS x,zS n,zS dir,zS vl,zS (.int (i.place:Int)),zS (.int pl)]/\H'=H1/\pl=(if up=true then(i.place:Int)+1+k else(i.place:Int)-1-k)/\k<=64/\
  ∀j,j<k->(if up=true then(SK s i f)[i.place+1+j]? else if j<i.place then(SK s i f)[i.place-1-j]? else zN)=zS (Sh s f)
theorem En(T:Tc G)(h:iU G vs H Q E):p6 G (jI G) (ends Q) (start wg vs) H:=by
 let⟨x,n,z,ms,s,L,rfl,w,k⟩:=h;show p6 G _ (ends Q) [zS (.ref L.p),zS (.int x),zS (.int n),zS (.int z),zN,zN,zN] H;have b:=w.bk;have et:T7 s (.edge x n z)=TC s x λi=>Sq s n λf=>if z=1\/z= -1 then⟨RY (Vanbkj.edge s i f (z==1)),[]⟩else⟨-14,[]⟩:=rfl;rw[et]at k;unfold p6
 nofun
 refine bu T b.nb (cN (.inl b.hi) ⟨_,rfl,?_⟩);unfold TC Sq at k;obtain⟨h1,h2,h3⟩|⟨v,i,h1,h2,_,hi,rfl⟩:=b.input x
 .rw[h1,ag (by decide)];exact eD k (by rw[h2])
 rw[h1,ae (by simp)];rw[h2]at k;refine dU T b.nb (cN b.ht ⟨_,rfl,?_⟩);obtain⟨g1,g2,_⟩|⟨v,c,g1,g2,fa,hc,rfl⟩:=b.test n
 .rw[g1,ag (by decide)];exact eD k (by rw[g2])
 rw[g1,ae (by simp)];rw[g2]at k;dsimp only at k;by_cases hz:z=1\/z= -1
 case neg=>
  rw[ag (by omega),ag (by omega)];exact eD k (ae hz)
 rw[ag hz]at k;obtain⟨up,hup⟩:∃up:Bool,up=(z==1):=⟨_,rfl⟩;have ez:z=if up=true then 1 else-1:=by rw[hup];obtain e|e:=hz<;>rw[e]<;>rfl
 rw[<-hup]at k;refine Pe (by omega) ?_;refine⟨ms,s,L,i,c,rfl,b,hi,hc,λH1 p s1 np hp=>?_⟩;have b1:=b.same s1;let⟨a,dx,l,q1,ha,hl⟩:=b1.qR hi;have io:=b.wf.fi i hi;have il:=io.len;have ip:=io.wr;have hsl:=ak.kj s i c.2;have hnow:=ak.Hn b.wf hi c.2;refine bu T b1.nb (fE (.inl b1.hi) q1 (kg T ha ⟨_,rfl,?_⟩));have hway:∀j,(if up=true then(SK s i c.2).drop (i.place+1)else((SK s i c.2).take i.place).reverse)[j]?=if up=true then(SK s i c.2)[i.place+1+j]? else if j<i.place then(SK s i c.2)[i.place-1-j]? else zN:=λj=>by
  cases up with
  |true=>exact ak.Nj j
  |false=>exact ak.Jz b.wf hi j
 refine xZ (QU s i c.2 H1 (.ref L.p) (.int (i.name:Int)) (.int (c.1:Int)) (.int z) (.ref p) up) (λσ _=>match σ with|[_,_,_,_,_,_,zS (.int pl)]=>(if up=true then((i.values.length:Int)-pl).toNat else(pl+1).toNat)|_=>0) ⟨0,_,rfl,rfl,?_,by omega,λj hj=>by omega⟩ ?_ ?_
 .rw[ez];cases up<;>simp<;>omega
 .rintro σ H2 ⟨m,pl,rfl,rfl,hpl,hm,hb⟩
  nofun
  have none0:(∀j v,(if up=true then(SK s i c.2)[i.place+1+j]? else if j<i.place then(SK s i c.2)[i.place-1-j]? else zN)=zS v->j<m)->qX [V.int 0] H2 Q:=λhj=>by
   refine eD (λH' p s2 np=>k H' p (s1.trans s2) (s1.free np)) ?_;rw[ak.Ho _ hway λj v hv=>by have h3:=hb j (hj j v hv);rw[hv]at h3;exact RA h3]
   rfl
  by_cases c1:0<=pl
  case neg=>
   rw[ae c1];refine none0 λj v hv=>?_
   cases up with
   |true=>rw[ag rfl]at hpl;omega
   |false=>
    rw[ae (by decide)]at hpl hv;by_cases hj:j<i.place
    .omega
    .rw[ae hj]at hv;cases hv
  rw[ag c1];refine fJ hp ⟨_,rfl,?_⟩;rw[jZ,hsl];by_cases c2:pl<(i.values.length:Int)
  case neg=>
   rw[ae c2];refine none0 λj v hv=>?_
   cases up with
   |true=>
    rw[ag rfl]at hpl hv;have:=(RE.mp hv).1;omega
   |false=>rw[ae (by decide)]at hpl;omega
  rw[ag c2];obtain⟨pn,rfl⟩:∃pn:Nat,pl=pn:=⟨pl.toNat,by omega⟩;have hpn:pn<(SK s i c.2).length:=by omega
  have hwm:(if up=true then(SK s i c.2)[i.place+1+m]? else if m<i.place then(SK s i c.2)[i.place-1-m]? else zN)=zS ((SK s i c.2)[pn]):=by
   rw[<-RC hpn]
   cases up with
   |true=>
    rw[ag rfl]at hpl⊢;have:i.place+1+m=pn:=by omega
    rw[this]
   |false=>
    rw[ae (by decide)]at hpl⊢;rw[ag (by omega)];have:i.place-1-m=pn:=by omega
    rw[this]
  refine eN pn rfl hp (v:=.int (((SK s i c.2)[pn]:Nat):Int)) (by simp[nL,hpn]) ?_;refine eN i.place rfl hp (v:=.int ((Sh s c.2:Nat):Int)) (by simp[nL,hnow]) ?_
  nofun
  by_cases ev:(SK s i c.2)[pn]=Sh s c.2
  .rw[ae (by omega)];refine⟨⟨m+1,_,rfl,rfl,?_,?_,λj hj=>?_⟩,?_⟩
   .rw[ez];cases up
    .rw[ae (by decide)]at hpl;simp;omega
    .rw[ag rfl]at hpl;simp;omega
   .cases up
    .rw[ae (by decide)]at hpl;omega
    .rw[ag rfl]at hpl;omega
   .by_cases q:j=m
    .rw[q,hwm,ev]
    .exact hb j (by omega)
   .rw[ez];cases up
    .simp;omega
    .simp;omega
  .rw[ag (by omega)];refine⟨_,rfl,eD (λH' p s2 np=>k H' p (s1.trans s2) (s1.free np)) ?_⟩;rw[ak.E6 _ hway hwm ev hb];have:(if(pn:Int)-i.place<0 then-((pn:Int)-i.place)else(pn:Int)-i.place)=((m+1:Nat):Int):=by
    cases up
    .rw[ae (by decide)]at hpl;rw[ag (by omega)];omega
    .rw[ag rfl]at hpl;rw[ae (by omega)];omega
   rw[this];rfl
 .intro σ H Q Q' f h;let⟨v,hv,h2⟩:=Hx h;let⟨x,e1,h3⟩:=si h2;let⟨y,e2,h4⟩:=si h3;let⟨kk,e3,h5⟩:=wz h4;refine Lw hv (Hy e1 (Hy e2 (Lv e3 ?_)));clear h h2 h3 h4;have h:=h5;clear h5
  cases kk with
  |false=>
   rw[ae (by decide)]at h⊢;let⟨k2,e4,q⟩:=wz h;exact Lv e4 (f _ _ q)
  |true=>
   rw[ag rfl]at h⊢;let⟨u,hu,h5⟩:=Hx h;let⟨vs2,ev,h1,h2,h6⟩:=h5;let⟨i1,q1,h7⟩:=si h6;let⟨j1,q2,h8⟩:=si h7;let⟨k2,q3,q4⟩:=wz h8;exact Lw hu ⟨vs2,ev,h1,h2,Hy q1 (Hy q2 (Lv q3 (f _ _ q4)))⟩
end
structure Xt where
 kp:List (Key×V)
 pa:List Addr
 kn:List ((Int×List Int)×V)
 na:List Addr
def eE(L:Lay):List Addr:=[L.pi,L.pc,L.pt,L.pp,L.pr]
def bA(L:Lay)(X:Xt):List Addr:=L.own++[L.pp,L.pr,L.pn]++X.pa++X.na
def gG(l:List (Nat×Int)):List (Key×V):=l.map λy=>(Rk (y.1:Int),V.int y.2)
def d8(s:State)(n:Nat):Option (List (Nat×Int)):=(s.presets.find? λy=>y.1==n).map λy=>y.2
structure nW(G:Ga)(ms:List Addr)(H:Hp)(s:State)(k:Int×List Int)(v:V)(dc:Addr):Prop where
 ex:∃(d:Nat)(is:List Input)(ck:List (Key×V)),k=((d:Int),is.map λi=>(i.name:Int))/\(∀i∈is,i∈s.inputs)/\(is.map (·.name)).Nodup/\d<=4/\j2 G (cut ms H) v (is.map (·.name)) (SA is d) dc/\dO G ms H s (is.map (·.name)) (SA is d) dc ck
structure Full(G:Ga)(ms:List Addr)(H:Hp)(s:State)(L:Lay)(X:Xt):Prop where
 wh:wl G ms H s L
 sub:∀a∈bA L X,a∈ms
 fx:(eE L).Nodup
 dn:L.da.Nodup
 F6:(X.pa++X.na).Nodup
 uO:∀a∈X.pa++X.na,a∉eE L
 hp:H L.pp=zS (.dK X.kp)
 hn:H L.pn=zS (.dN X.kn)
 pre:∀k v,(k,v)∈X.kp->∃(n:Nat)(a:Addr)(l:List (Nat×Int)),k=Rk (n:Int)/\v=.ref a/\H a=zS (.dK (gG l))/\d8 s n=zS l
 Jj:∀n l,d8 s n=zS l->(aI X.kp (Rk (n:Int))).isSome=true
 oU:(X.kp.map (·.1)).Nodup
 Eo:X.kp.map (·.2)=X.pa.map V.ref
 near:Paired (λkv dc=>nW G ms H s kv.1 kv.2 dc) X.kn X.na
 K9:True
variable{a dc:Addr}{r:State×T6}
section
variable{G:Ga}{ms ms':List Addr}{H H':Hp}{s s':State}{L L':Lay}{X X':Xt}{vs:List V}{Q:VK}{E:XK}
def Paired.mapR{α β:Type}{F F':α->β->Prop}{l:List α}{m:List β}(h:Paired F l m):(∀a b,a∈l->b∈m->F a b->F' a b)->Paired F' l m:=by
 induction h with
 |nil=>intro _;exact .nil
 |cons a _ ih=>intro f;exact .cons (f _ _ Rv Rv a) (ih λx y hx hy=>f x y (Rp _ hx) (Rp _ hy))
def dO.go{ns:List Nat}{pss:List (List Nat)}{ck:List (Key×V)}(t:dO G ms H s ns pss dc ck)(hd:H' dc=zS (.dK ck))(k:ah (cut ms H) (cut ms' H')):dO G ms' H' s ns pss dc ck:=⟨hd,t.nd,λkk v e=>let⟨x,hx,e2,c⟩:=t.key kk v e;⟨x,hx,e2,c.mono k⟩⟩
def nW.go{k:Int×List Int}{v:V}(n:nW G ms H s k v dc)(hd:∀o,H dc=zS o->H' dc=zS o)(c:ah (cut ms H) (cut ms' H')):nW G ms' H' s k v dc:=by let⟨d,is,ck,e,h1,h2,h3,h4,h5⟩:=n.ex;exact⟨d,is,ck,e,h1,h2,h3,h4.mono c,h5.go (hd _ h5.hd) c⟩
def wl.move(w:wl G ms H s L)(k:∀a∈L.own,∀o,H a=zS o->H' a=zS o)(kr:∀o,H L.pr=zS o->H' L.pr=zS o)(c:ah (cut ms H) (cut ms' H'))(sb:∀a∈L.own,a∈ms')(d:lu ms' H'):wl G ms' H' s L:=
 ⟨w.bk.move k c sb d,k _ (by simp[Lay.own]) _ w.ht,kr _ w.hr,w.n1,w.n2⟩
def CI(h:a∈L.own):a∈bA L X:=by simp[bA,h]
def Full.oy{k:Key}(f:Full G ms H s L X)(h:(k,V.ref a)∈X.kp):a∈X.pa:=by have:V.ref a∈X.kp.map (·.2):=Rm.mpr ⟨_,h,rfl⟩;rw[f.Eo]at this;let⟨b,hb,e⟩:=Rm.mp this;injection e with e;rw[<-e];exact hb
def Full.move(f:Full G ms H s L X)(k:∀a∈bA L X,∀o,H a=zS o->H' a=zS o)(c:ah (cut ms H) (cut ms' H'))(sb:∀a∈bA L X,a∈ms')(d:lu ms' H'):Full G ms' H' s L X where
 wh:=f.wh.move (λa ha=>k a (CI ha)) (k _ (by simp[bA])) c (λa ha=>sb a (CI ha)) d
 sub:=sb
 fx:=f.fx
 dn:=f.dn
 F6:=f.F6
 uO:=f.uO
 hp:=k _ (by simp[bA]) _ f.hp
 hn:=k _ (by simp[bA]) _ f.hn
 pre:=λkk v hk=>by let⟨n,a,l,e1,e2,e3,e4⟩:=f.pre kk v hk;subst e2;exact⟨n,a,l,e1,rfl,k a (by simp[bA,f.oy hk]) _ e3,e4⟩
 Jj:=f.Jj
 oU:=f.oU
 Eo:=f.Eo
 near:=Paired.mapR f.near λkv dc _ hd z=>z.go (k dc (by simp[bA,hd])) c
 K9:=f.K9
def Full.same(f:Full G ms H s L X)(k:ah H H'):Full G ms H' s L X:=f.move (λa _ o h=>k a o h) (bo k) f.sub (f.wh.bk.dm.mono k)
def Full.put{t:Addr}{o:HO}(f:Full G ms H s L X)(hm:t∈ms)(hn:t∉bA L X):Full G ms (upd H t o) s L X:=
 f.move (λa ha u h=>by rw[ab (λe=>hn (by rw[<-e];exact ha))];exact h) (by rw[cJ hm];exact ah.refl _) f.sub f.wh.bk.dm.upd
def QV(own:List Addr)(H H':Hp):Prop:=∀a o,H a=zS o->a∉own->H' a=zS o
structure uF(G:Ga)(ms:List Addr)(H:Hp)(L:Lay)(X:Xt)(s':State)(ms':List Addr)(H':Hp)(L':Lay)(X':Xt):Prop where
 full:Full G ms' H' s' L' X'
 keep:QV (bA L X) H H'
 p:L'.p=L.p
 up:∀a∈ms,a∈ms'
 new:∀a∈ms',a∈ms\/H a=zN
 own:∀a∈bA L' X',a∈bA L X\/H a=zN
 sz:X'.kn.length<=X.kn.length+5
def After(G:Ga)(ms:List Addr)(H:Hp)(L:Lay)(X:Xt)(r:State×T6)(Q:VK):Prop:=∀H' p ms' L' X',uF G ms H L X r.1 ms' H' L' X'->H p=zN->H' p=zS (.lst (iL (enc r.2)))->Q (.ref p) H'
def uF.refl(f:Full G ms H s L X)(k:ah H H'):uF G ms H L X s ms H' L X:=⟨f.same k,λa o h _=>k a o h,rfl,λ_ h=>h,λ_ h=>.inl h,λ_ h=>.inl h,Su _ _⟩
def IR(G:Ga)(c:Sz)(args:List V):Sp:=λvs H Q _=>∃ms s L X,vs=.ref L.p::args/\Full G ms H s L X/\X.kn=[]/\X.na=[]/\After G ms H L X (RP s c) Q
def After.i7{z:Int}(f:Full G ms H s L X)(k:After G ms H L X r Q)(e:r=(s,⟨z,[]⟩)):qX [.int z] H Q:=
 iA λp np=>k _ p ms L X (by rw[e];exact uF.refl f (ah.upd np)) np (by rw[aa,e];rfl)
def After.from{H1:Hp}(k:After G ms H L X r Q)(s1:ah H H1):After G ms H1 L X r Q:=λH' p ms' L' X' st np hp=>k H' p ms' L' X' ⟨st.full,λa o h n=>st.keep a o (s1 _ _ h) n,st.p,st.up,λa ha=>(st.new a ha).imp id λh=>s1.free h,λa ha=>(st.own a ha).imp id λh=>s1.free h,st.sz⟩ (s1.free np) hp
def eA.sR(b:eA G ms H s L)(h:a∈L.da):∃dx l i,H a=zS (.ins G.CD dx (fD (.ref l) (.int ((i.place:Nat):Int))))/\i∈s.inputs/\cut ms H l=zS (.lst (iL i.values)):=by
 have:V.ref a∈L.ki.map (·.2):=by rw[b.dd];exact Rm.mpr ⟨a,h,rfl⟩
 let⟨j,hj⟩:=TJ.mp this;rw[RW]at hj
 cases e:L.ki[j]? with
 |none=>rw[e]at hj;cases hj
 |some kv=>
  rw[e]at hj;let⟨i,hi,_,a',dx,l,e1,e2,e3⟩:=b.fi.at (k:=kv.1) (v:=kv.2) e;have e4:kv.2=.ref a:=RA hj;rw[e4]at e1;injection e1 with e1;subst e1;exact⟨dx,l,i,e2,Rz hi,e3⟩
def Full.fi{ki':List (Key×V)}{da':List Addr}{is':List Input}(f:Full G ms H s L X)(hk:X.kn=[])(hna:X.na=[])(keep:∀b o,H b=zS o->b≠L.pi->b∉L.da->H' b=zS o)(hi:H' L.pi=zS (.dK ki'))(c:ah (cut ms H) (cut ms' H'))(up:∀a∈ms,a∈ms')(d:lu ms' H')(wf:ak.WF {s with inputs:=is'})(tb:Tb (λi=>i.name) (ll G ms' H') ki' is')(dd:ki'.map (·.2)=da'.map V.ref)(dn:da'.Nodup)(dm:∀a∈da',a∈ms'):Full G ms' H' {s with inputs:=is'} {L with ki:=ki',da:=da'} X:=by
 have b:=f.wh.bk;have fx:=f.fx;simp only[eE,RK,Rn,Sj,or_false,not_or]at fx;have nda:∀{a:Addr}{o:HO},H a=zS o->(∀dx l i,o≠.ins G.CD dx (fD l i))->a∉L.da:=λh ho m=>by let⟨dx,l,i,h2,_⟩:=b.sR m;rw[h]at h2;exact ho _ _ _ (RA h2)
 have np:L.p≠L.pi:=aQ b.nb b.hi (by intro z;cases z);have hc:=keep _ _ b.hc (λe=>fx.1.1 e.symm) (nda b.hc (by intro _ _ _ z;cases z));have ht:=keep _ _ f.wh.ht (λe=>fx.1.2.1 e.symm) (nda f.wh.ht (by intro _ _ _ z;cases z));have hp:=keep _ _ f.hp (λe=>fx.1.2.2.1 e.symm) (nda f.hp (by intro _ _ _ z;cases z));have hr:=keep _ _ f.wh.hr (λe=>fx.1.2.2.2 e.symm) (nda f.wh.hr (by intro _ _ _ z;cases z));have hn:=keep _ _ f.hn (aQ f.hn b.hi (by intro z;cases z)) (nda f.hn (by intro _ _ _ z;cases z));have nb:=keep _ _ b.nb np (nda b.nb (by intro _ _ _ z;injection z with z1 z2 z3;cases z3));refine⟨⟨⟨wf,d,λa ha=>?_,nb,hi,hc,.inl ht,tb,b.hZ.mono λv c' z=>z.mono c,b.i6.mono λv c' z=>z.mono c,dd⟩,ht,hr,f.wh.n1,f.wh.n2⟩,λa ha=>?_,f.fx,dn,f.F6,f.uO,hp,hn,λkk v fK=>?_,f.Jj,f.oU,f.Eo,by rw[hk,hna];exact .nil,f.K9⟩
 .simp only[Lay.own,Rn]at ha;obtain e|e|e|e|e:=ha
  .rw[e];exact up _ (f.sub _ (by simp[bA,Lay.own]))
  .rw[e];exact up _ (f.sub _ (by simp[bA,Lay.own]))
  .rw[e];exact up _ (f.sub _ (by simp[bA,Lay.own]))
  .rw[e];exact up _ (f.sub _ (by simp[bA,Lay.own]))
  .exact dm a e
 .simp only[bA,Lay.own,Ru,Rn,Rx,Sj,or_false]at ha;by_cases e:a∈da'
  .exact dm a e
  .refine up a (f.sub a ?_);simp only[bA,Lay.own,Ru,Rn,Rx,Sj,or_false];obtain h|h|h|h|((h|h)|h)|h:=ha
   all_goals first|exact absurd h e|simp[h]
 .let⟨n,a,l,e1,e2,e3,e4⟩:=f.pre kk v fK;subst e2;have hpa:=f.oy fK;refine⟨n,a,l,e1,rfl,keep a _ e3 (λe=>f.uO a (by simp[hpa]) (by simp[eE,e])) (nda e3 (by intro _ _ _ z;cases z)),e4⟩
def Full.cells{kc':List (Key×V)}{cs':List (Nat×Formula)}(f:Full G ms H s L X)(hk:X.kn=[])(hna:X.na=[])(keep:lw L.pc H H')(hc:H' L.pc=zS (.dK kc'))(wf:ak.WF {s with cells:=cs'})(tb:Tb (λ(c:Nat×Formula)=>c.1) (λv c=>fP G (cut ms H') v c.2) kc' cs'):Full G ms H' {s with cells:=cs'} {L with kc:=kc'} X:=by
 have b:=f.wh.bk;have fx:=f.fx;simp only[eE,RK,Rn,Sj,or_false,not_or]at fx;have pcm:L.pc∈ms:=b.sub _ (by simp[Lay.own]);have c:=keep.cut pcm;have hi:=keep _ _ b.hi fx.1.1;have ht:=keep _ _ f.wh.ht (λe=>fx.2.1.1 e.symm);have hp:=keep _ _ f.hp (λe=>fx.2.1.2.1 e.symm);have hr:=keep _ _ f.wh.hr (λe=>fx.2.1.2.2 e.symm);have hn:=keep _ _ f.hn (aQ f.hn b.hc (by intro z;cases z));have nb:=keep _ _ b.nb (aQ b.nb b.hc (by intro z;cases z));refine⟨⟨⟨wf,keep.Mu hc b.dm,b.sub,nb,hi,hc,.inl ht,b.fi.mono λv i z=>?_,tb,b.i6.mono λv c' z=>z.mono c,b.dd⟩,ht,hr,f.wh.n1,f.wh.n2⟩,f.sub,f.fx,f.dn,f.F6,f.uO,hp,hn,λkk v fK=>?_,f.Jj,f.oU,f.Eo,by rw[hk,hna];exact .nil,f.K9⟩
 .let⟨a,dx,l,e,h1,h2⟩:=z;exact⟨a,dx,l,e,keep _ _ h1 (aQ h1 b.hc (by intro z;cases z)),c _ _ h2⟩
 .let⟨n,a,l,e1,e2,e3,e4⟩:=f.pre kk v fK;subst e2;have hpa:=f.oy fK;exact⟨n,a,l,e1,rfl,keep a _ e3 (λe=>f.uO a (by simp[hpa]) (by simp[eE,e])),e4⟩
def Full.tests{kt':List (Key×V)}{ts':List (Nat×Formula)}(f:Full G ms H s L X)(hk:X.kn=[])(hna:X.na=[])(keep:lw L.pt H H')(ht:H' L.pt=zS (.dK kt'))(wf:ak.WF {s with tests:=ts'})(tb:Tb (λ(c:Nat×Formula)=>c.1) (λv c=>fP G (cut ms H') v c.2) kt' ts'):Full G ms H' {s with tests:=ts'} {L with kt:=kt'} X:=by
 have b:=f.wh.bk;have fx:=f.fx;simp only[eE,RK,Rn,Sj,or_false,not_or]at fx;have ptm:L.pt∈ms:=b.sub _ (by simp[Lay.own]);have c:=keep.cut ptm;have hi:=keep _ _ b.hi fx.1.2.1;have hc:=keep _ _ b.hc fx.2.1.1;have hp:=keep _ _ f.hp (λe=>fx.2.2.1.1 e.symm);have hr:=keep _ _ f.wh.hr (λe=>fx.2.2.1.2 e.symm);have hn:=keep _ _ f.hn (aQ f.hn f.wh.ht (by intro z;cases z));have nb:=keep _ _ b.nb (aQ b.nb f.wh.ht (by intro z;cases z));refine⟨⟨⟨wf,keep.Mu ht b.dm,b.sub,nb,hi,hc,.inl ht,b.fi.mono λv i z=>?_,b.hZ.mono λv c' z=>z.mono c,tb,b.dd⟩,ht,hr,f.wh.n1,f.wh.n2⟩,f.sub,f.fx,f.dn,f.F6,f.uO,hp,hn,λkk v fK=>?_,f.Jj,f.oU,f.Eo,by rw[hk,hna];exact .nil,f.K9⟩
 .let⟨a,dx,l,e,h1,h2⟩:=z;exact⟨a,dx,l,e,keep _ _ h1 (aQ h1 f.wh.ht (by intro z;cases z)),c _ _ h2⟩
 .let⟨n,a,l,e1,e2,e3,e4⟩:=f.pre kk v fK;subst e2;have hpa:=f.oy fK;exact⟨n,a,l,e1,rfl,keep a _ e3 (λe=>f.uO a (by simp[hpa]) (by simp[eE,e])),e4⟩
end
variable{l:Addr}{c:Bool}{H1:Hp}{i:Input}{a n z:Int}{r:List (Bool×Int)}{t:State}
section
variable{G:Ga}{ms ms':List Addr}{H H':Hp}{s s':State}{L L':Lay}{X X':Xt}{vs:List V}{Q:VK}{E:XK}
def jv(G:Ga):Sp:=λvs H Q _=>∃(x dx:Addr)(l k:V),vs=[.ref x,l,k]/\H x=zS (.ins G.CD dx [])/\∀H',(∀b o,H b=zS o->b≠x->H' b=zS o)->H' x=zS (.ins G.CD dx (fD l k))->Q .d7 H'
def On(T:Tc G)(h:jv G vs H Q E):FG G (ends Q) (start Ky vs) H:=by
 let⟨x,dx,l,k,rfl,hx,kk⟩:=h;show FG G (ends Q) [zS (.ref x),zS l,zS k] H;unfold FG
 nofun
 refine eR hx T.Od T.wO (by simp) ?_;refine eR aa T.Od T.mZ (by show 1<1000;decide) ?_;exact kk _ (λb o e nb=>by rw[ab nb,ab nb];exact e) aa
def PV{l k:V}(q:∀H' x dx,ah H H'->H x=zN->H' x=zS (.ins G.CD dx (fD l k))->Q (.ref x) H'):Bj G.CD (jv G) [l,k] H Q:=by intro x dx nx ndx nex;refine⟨x,dx,l,k,rfl,aa,λH' kp hx=>⟨rfl,q H' x dx (ah.made nx ndx kp) nx hx⟩⟩
def refusal(s:State)(z:Int)(n most:Nat):Int:=if Ta z=true then-1 else if So s z=true then-2 else if most<=n then-3 else 0
def bc(G:Ga):Sp:=λvs H Q _=>∃ms s L z d kvs most,vs=[.ref L.p,.int z,.ref d,.int ((most:Nat):Int)]/\eA G ms H s L/\H d=zS (.dK kvs)/\Q (.int (refusal s z kvs.length most)) H
def qk(z:Int):Ta z= !decide (0<=z/\z<=31):=by unfold Ta Tn;by_cases h1:0<=z<;>by_cases h2:z<=31<;>simp[h1,h2]
theorem sS(h:bc G vs H Q E):ij G (dL G) eK (ends Q) (start k_ vs) H:=by
 let⟨ms,s,L,z,d,kvs,most,rfl,b,hd,q⟩:=h;show ij G _ _ (ends Q) [zS (.ref L.p),zS (.int z),zS (.ref d),zS (.int (most:Int))] H;unfold ij
 nofun
 unfold refusal at q;rw[qk]at q;refine⟨z,rfl,_,rfl,?_⟩;by_cases h1:0<=z/\z<=31
 .rw[ae (by simp[h1])]at q⊢;refine⟨ms,s,L,z,rfl,b,_,rfl,?_⟩;by_cases h2:So s z=true
  .rw[ag h2]at q⊢;exact q
  .rw[ae h2]at q⊢;refine iX hd ?_
   nofun
   by_cases h3:most<=kvs.length
   .rw[ag h3]at q;rw[ag (by omega)];exact q
   .rw[ae h3]at q;rw[ae (by omega)];exact q
 .rw[ag (by simp[h1])]at q⊢;exact q
def aS(h:c=false):Se ((c,n)::r)=Se r:=by rw[h];rfl
def bF(h:c=true):Se ((c,n)::r)=zS n:=by rw[h];rfl
def cv{own:List (Bool×Int)}(h:Se own=zS z):U0 s own t a=(s,⟨z,[]⟩):=by unfold U0;rw[h];rfl
def gH{own:List (Bool×Int)}(h:Se own=zN):U0 s own t a=(t,⟨a,[]⟩):=by unfold U0;rw[h]
theorem mi{n most:Nat}:(refusal s z n most≠0->Se ((Ta z,-1)::(So s z,-2)::(decide (most<=n),-3)::r)=zS (refusal s z n most))/\(refusal s z n most=0->(Se ((Ta z,-1)::(So s z,-2)::(decide (most<=n),-3)::r)=Se r)/\(0<=z/\z<=31)/\So s z=false/\n<most):=by
 unfold refusal;by_cases h1:Ta z=true
 .rw[ag h1,bF h1];exact⟨λ_=>rfl,λq=>by omega⟩
 .have h1':Ta z=false:=by simpa using h1
  rw[ae h1,aS h1'];by_cases h2:So s z=true
  .rw[ag h2,bF h2];exact⟨λ_=>rfl,λq=>by omega⟩
  .have h2':So s z=false:=by simpa using h2
   rw[ae h2,aS h2'];by_cases h3:most<=n
   .rw[ag h3,bF (by simpa using h3)];exact⟨λ_=>rfl,λq=>by omega⟩
   .rw[ae h3,aS (by simpa using h3)];exact⟨λq=>absurd rfl q,λ_=>⟨rfl,ak.jA.mp h1',h2',by omega⟩⟩
def Full.tT{H2:Hp}{x dx:Addr}(f:Full G ms H s L X)(hk:X.kn=[])(hna:X.na=[])(s1:ah H H1)(nx:H x=zN)(hx:H1 x=zS (.ins G.CD dx (fD (.ref l) (.int (i.place:Int)))))(hl:H1 l=zS (.lst (iL i.values)))(lm:l∉ms)(nn:aI L.ki (Rk (i.name:Int))=zN)(wf:ak.WF {s with inputs:=s.inputs++[i]})(e2:H2=upd H1 L.pi (.dK (putK L.ki (Rk (i.name:Int)) (.ref x))))(k2:ah H2 H'):uF G ms H L X {s with inputs:=s.inputs++[i]} (x::ms) H' {L with ki:=putK L.ki (Rk (i.name:Int)) (.ref x),da:=L.da++[x]} X:=by
 have b:=f.wh.bk;have xpi:x≠L.pi:=λe=>by rw[e,b.hi]at nx;cases nx
 have pim:L.pi∈ms:=b.sub _ (by simp[Lay.own]);have bt1:lw L.pi H1 H':=λa o h n=>k2 _ _ (by rw[e2,ab n];exact h);have bt:lw L.pi H H':=(lw.of s1).trans bt1;have hi':H' L.pi=zS (.dK (putK L.ki (Rk (i.name:Int)) (.ref x))):=k2 _ _ (by rw[e2,aa]);have xda:x∉L.da:=λm=>b.qi nx (by simp[Lay.own,m]);have c:ah (cut ms H) (cut (x::ms) H'):=λa o h=>by
  let⟨h1,h2⟩:=aj h;refine cS (bt a o h1 λe=>h2 (by rw[e];exact pim)) λq=>?_;obtain q|q:=Rn.mp q
  .rw[q,nx]at h1;cases h1
  .exact h2 q
 have hx':=bt1 _ _ hx xpi;have lx:l≠x:=aQ hl hx (by intro z;cases z);have hl':cut (x::ms) H' l=zS (.lst (iL i.values)):=cS (bt1 _ _ hl λe=>lm (by rw[e];exact pim)) λq=>by
  obtain q|q:=Rn.mp q
  .exact lx q
  .exact lm q
 have old:Tb (λi=>i.name) (ll G (x::ms) H') L.ki s.inputs:=b.fi.mono λv i' z=>by let⟨a,dx,l,e,h1,h2⟩:=z;exact⟨a,dx,l,e,bt _ _ h1 (aQ h1 b.hi (by intro z;cases z)),c _ _ h2⟩
 refine⟨f.fi hk hna (λb' o h n _=>bt b' o h n) hi' c (λa ha=>Rp _ ha) ((bt.Mu hi' b.dm).cons hx') wf (old.new nn ⟨x,dx,l,rfl,hx',hl'⟩) ?_ ?_ (λa ha=>?_),λa o h n=>bt a o h λe=>n (by rw[e];simp[bA,Lay.own]),rfl,λa ha=>Rp _ ha,λa ha=>?_,λa ha=>?_,Su _ _⟩
 .rw[iK _ nn,Sa,b.dd,Sa];rfl
 .exact ak.ja f.dn xda
 .obtain q|q:=Ru.mp ha
  .exact Rp _ (b.sub a (by simp[Lay.own,q]))
  .rw[Sb.mp q];exact Rv
 .obtain q|q:=Rn.mp ha
  .exact .inr (by rw[q];exact nx)
  .exact .inl q
 .by_cases e:a=x
  .exact .inr (by rw[e];exact nx)
  .refine .inl ?_;simp only[bA,Lay.own,Ru,Rn,Rx,Sj,or_false]at ha⊢;obtain h|h|h|h|((((h|h)|h)|h)|h):=ha
   all_goals first|exact absurd h e|simp[h]
def eA.free(b:eA G ms H s L)(h:So s z=false):aI L.ki (Rk z)=zN/\aI L.kc (Rk z)=zN:=by rw[<-b.has z,U_]at h;exact⟨Xi.mp (by rw[h.1];decide),Xi.mp (by rw[h.2];decide)⟩
theorem zd(T:Tc G)(f:Full G ms H s L X)(hk:X.kn=[])(hna:X.na=[])(s1:ah H H1)(hl:H1 l=zS (.lst (iL i.values)))(lm:l∉ms)(tk:So s i.name=false)(wf:ak.WF {s with inputs:=s.inputs++[i]})(k:After G ms H L X ({s with inputs:=s.inputs++[i]},⟨0,[]⟩) Q):Bj G.CD (jv G) [.ref l,.int (i.place:Int)] H1 λv H1=>lv G.K (.ref L.p) "inputs" H1 λx H2=>KC x (.int (i.name:Int)) v H2 λH4=>qX [.int 0] H4 Q:=by
 refine PV λH2 x dx s2 nx hx=>?_;have s3:=s1.trans s2;have b2:=(f.same s3).wh.bk;refine bu T b2.nb (mh b2.hi (eu ?_) (iA λp np=>?_))
 .rw[b2.fi.len];have:=b2.wf.nI;omega
 have npH:H p=zN:=by
  cases e:H p with
  |none=>rfl
  |some o=>
   by_cases q:p=L.pi
   .rw[q,aa]at np;cases np
   .rw[ab q,s3 _ _ e]at np;cases np
 exact k _ p _ _ _ (f.tT hk hna s3 (s1.free nx) hx (s2 _ _ hl) lm (f.wh.bk.free tk).1 wf rfl (ah.upd np)) npH (by rw[aa];rfl)
theorem Bp(val:Nat->Int):∀i,(firstMet val i).length=i<->((RM i).map val).Nodup
 |0=>by simp[firstMet_zero]
 |i+1=>by
  rw[firstMet_succ,Uj,Sa,RS,Vo];have ih:=Bp val i;have le:=firstMet_length_le val i;have an:=firstMet_any val i (val i);unfold step_dedup;rw[Ss];by_cases h:((firstMet val i).any λx=>x==val i)=true
  .rw[ag h];rw[an,Tg]at h;let⟨y,hy,e⟩:=h;have e:=beq_iff_eq.mp e;constructor
   .intro q;omega
   .rintro⟨_,_,q⟩;exact absurd e (q y hy (val i) (by simp))
  .rw[ae h];rw[an,Tg]at h;rw[RH];constructor
   .intro q;refine⟨ih.mp (by simpa using q),by simp,λy hy z hz e=>h ⟨y,hy,?_⟩⟩;rw[Sb.mp hz]at e;simp[e]
   .rintro⟨q,_,_⟩;rw[ih.mpr q];rfl
theorem range_getD(ns:List Int):(RM ns.length).map (λi=>ns.getD i 0)=ns:=by
 apply Ui;intro j;by_cases h:j<ns.length
 .rw[RW,V8 h,RC h];simp[Sx,h]
 .rw[SG (by simp;omega),SG (by omega)]
theorem ql(ns:List Int):(distinct ns<ns.length)<->T8 ns=true:=by
 have h1:=Bp (λi=>ns.getD i 0) ns.length;have h2:=firstMet_length_le (λi=>ns.getD i 0) ns.length;rw[range_getD]at h1;unfold distinct
 cases e:T8 ns with
 |true=>
  have:¬ns.Nodup:=λq=>by rw[ak.oX q]at e;cases e
  have h3:¬_:=λq=>this (h1.mp q);exact⟨λ_=>rfl,λ_=>by omega⟩
 |false=>
  have:=h1.mpr (ak.oW e);exact⟨λq=>by omega,λq=>by cases q⟩
def g9(G:Ga):Sp:=λvs H Q _=>∃z p r ms s L X ra,vs=[.ref L.p,.int z,.int p,.ref ra]/\Full G ms H s L X/\X.kn=[]/\X.na=[]/\cut ms H ra=zS (.lst (iL r))/\r.length<=400/\After G ms H L X (RP s (.choice z p r)) Q
structure PX(H:Hp)(σ0:L2.St)(r:List Int)(i:Nat)(σ:L2.St)(H':Hp):Prop where
 ex:∃(o:Option V),σ=σ0++[o]/\ah H H'/\(r.take i).all RD=true
theorem CJ(T:Tc G)(h:g9 G vs H Q E):nJ G (jv G) bJ (bc G) (ends Q) (start ur vs) H:=by
 let⟨z,p,r,ms,s,L,X,ra,rfl,f,hk,hna,hra,hrl,k⟩:=h;show nJ G _ _ _ (ends Q) [zS (.ref L.p),zS (.int z),zS (.int p),zS (.ref ra),zN,zN] H;have b:=f.wh.bk;have HR:=(aj hra).1;unfold nJ
 nofun
 refine bu T b.nb ?_;refine⟨ms,s,L,z,L.pi,L.ki,8,rfl,b,b.hi,?_⟩;rw[b.fi.len]
 nofun
 have es:RP s (.choice z p r)=Wc s z p r:=rfl;have wf:=ak.WF.choice b.wf z p r;rw[es]at k;unfold Wc at k wf;have rf:=mi (s:=s) (z:=z) (n:=s.inputs.length) (most:=8) (r:=[((r.isEmpty||decide (SU<r.length)||T8 r),-5),(!r.all RD,-4),(!Vanbkj.within p 0 (RY r.length-1),-6)]);by_cases h0:refusal s z s.inputs.length 8=0
 case neg=>
  rw[ag (by simpa using h0)];exact k.i7 f (cv (rf.1 h0))
 let⟨rf1,rf2,rf3,rf4⟩:=rf.2 h0;rw[ae (by simp[h0])];have no:∀{H1:Hp}{n:Int},ah H H1->Se [((r.isEmpty||decide (SU<r.length)||T8 r),-5),(!r.all RD,-4),(!Vanbkj.within p 0 (RY r.length-1),-6)]=zS n->qX [.int n] H1 Q:=λs1 e=>(k.from s1).i7 (f.same s1) (cv (rf1.trans e));refine fJ HR ⟨_,rfl,?_⟩;rw[dt];by_cases c1:r.length<1
 .rw[ag (by omega)];refine no (ah.refl _) (bF ?_);have:r=[]:=V7.mp (by omega);rw[this];rfl
 rw[ae (by omega)];have re:r.isEmpty=false:=by cases r with|nil=>simp at c1|cons _ _=>rfl
 refine fJ HR ⟨_,rfl,?_⟩;rw[dt];by_cases c2:64<r.length
 .rw[ag (by omega)];refine no (ah.refl _) (bF ?_);rw[re,decide_eq_true (show SU<r.length from c2)];rfl
 rw[ae (by omega)];have r2:decide (SU<r.length)=false:=decide_eq_false c2;refine⟨ra,r,rfl,cD.of HR,by omega,λsp S nsp=>⟨sp,S,_,rfl,aa,?_⟩⟩;have s1:=ah.upd (o:=.set S (distinct r)) nsp;refine fJ (s1 _ _ HR) ⟨_,rfl,_,rfl,?_⟩;rw[dt];by_cases c3:distinct r<r.length
 .rw[ag (by omega)];refine no s1 (bF ?_);rw[(ql r).mp c3];simp
 rw[ae (by omega)];have r3:T8 r=false:=by
  cases e:T8 r with
  |false=>rfl
  |true=>exact absurd ((ql r).mpr e) c3
 have f5:∀rest,Se (((r.isEmpty||decide (SU<r.length)||T8 r),-5)::rest)=Se rest:=λrest=>aS (by rw[re,r2,r3];rfl);refine qc (s1 _ _ HR) (PX (upd H sp (.set S (distinct r))) [zS (V.ref L.p),zS (V.int z),zS (V.int p),zS (V.ref ra),zS (V.int (refusal s z s.inputs.length 8))] r) ⟨zN,rfl,ah.refl _,by simp⟩ (λi σ H' _ q=>q.ex.elim λ_ w=>w.2.1 _ _ (s1 _ _ HR)) (λi v σ H' hv q=>?_) (λσ H' q=>?_)
 .let⟨o,rfl,s2,ha⟩:=q;obtain⟨y,hy,rfl⟩:∃y,r[i]?=zS y/\v=.int y:=by
   simp only[iL,RW]at hv
   cases e:r[i]? with
   |none=>rw[e]at hv;cases hv
   |some y=>rw[e]at hv;exact⟨y,rfl,(RA hv).symm⟩
  dsimp only[Rx,RR]
  nofun
  refine⟨y,rfl,_,rfl,?_⟩
  cases e:RD y with
  |true=>
   rw[ae (by decide)];refine⟨_,rfl,s2,?_⟩;rw[Sl,hy];simp only[Y2,List.all_append,ha,WZ,e,List.all_nil];rfl
  |false=>
   rw[ag (by decide)];refine no (s1.trans s2) ((f5 _).trans (bF ?_));rw[RQ,List.all_eq_false];exact⟨y,Rz hy,by rw[e];decide⟩
 let⟨o,rfl,s2,ha⟩:=q;rw[dt,R9]at ha;have f4:∀rest,Se ((!r.all RD,-4)::rest)=Se rest:=λrest=>aS (by rw[ha];rfl);have s3:=s1.trans s2;dsimp only[Rx,RR]
 nofun
 have wi:Tn p 0 (RY r.length-1)=true<->0<=p/\p<(r.length:Int):=by unfold Tn;rw[SH,decide_eq_true_eq,decide_eq_true_eq];show 0<=p/\p<=(r.length:Int)-1<->_;omega
 by_cases c6:0<=p/\p<(r.length:Int)
 case neg=>
  have hit:∀{H1:Hp},ah H H1->qX [.int (-6)] H1 Q:=λs4=>no s4 ((f5 _).trans ((f4 _).trans (bF (by rw[RQ];cases e:Tn p 0 (RY r.length-1)with|false=>rfl|true=>exact absurd (wi.mp e) c6))));by_cases c7:0<=p
  .rw[ag c7];refine fJ (s3 _ _ HR) ⟨_,rfl,?_⟩;rw[dt,ag (by omega)];exact hit s3
  .rw[ae c7];exact hit s3
 rw[ag c6.1];refine fJ (s3 _ _ HR) ⟨_,rfl,?_⟩;rw[dt,ae (by omega)]
 have all:Se [(Ta z,-1),(So s z,-2),(decide (Y5<=s.inputs.length),-3),((r.isEmpty||decide (SU<r.length)||T8 r),-5),(!r.all RD,-4),(!Vanbkj.within p 0 (RY r.length-1),-6)]=zN:=
  rf1.trans ((f5 _).trans ((f4 _).trans (aS (by rw[wi.mpr c6];rfl))))
 rw[gH all]at k wf;obtain⟨zn,rfl⟩:∃n:Nat,z=n:=⟨z.toNat,by omega⟩;obtain⟨pn,rfl⟩:∃n:Nat,p=n:=⟨p.toNat,by omega⟩;simp only[Sg]at k wf;exact zd (i:=⟨zn,r,pn⟩) T f hk hna s3 (s3 _ _ HR) (aj hra).2 rf3 wf k
def g_(G:Ga):Sp:=λvs H Q _=>∃z low high stride v ms s L X,vs=[.ref L.p,.int z,.int low,.int high,.int stride,.int v]/\Full G ms H s L X/\X.kn=[]/\X.na=[]/\ -1000000000000000000<=stride/\stride<=1000000000000000000/\After G ms H L X (RP s (.slider z low high stride v)) Q
def mj{l:List Int}{v:Int}:S1 l v=zN/\v∉l\/∃j,xc l v j/\S1 l v=zS j/\v∈l:=by
 by_cases h:v∈l
 .let⟨j,f⟩:=yZ h;exact .inr ⟨j,f,qh f,h⟩
 .exact .inl ⟨ak.BE.mpr h,h⟩
theorem CK(T:Tc G)(h:g_ G vs H Q E):nH G (jv G) bJ (bc G) (ends Q) (start uq vs) H:=by
 let⟨z,low,high,stride,v,ms,s,L,X,rfl,f,hk,hna,hs1,hs2,k⟩:=h;show nH G _ _ _ (ends Q) [zS (.ref L.p),zS (.int z),zS (.int low),zS (.int high),zS (.int stride),zS (.int v),zN,zN] H;have b:=f.wh.bk;unfold nH;simp only[A8]
 nofun
 refine bu T b.nb ?_;refine⟨ms,s,L,z,L.pi,L.ki,8,rfl,b,b.hi,?_⟩;rw[b.fi.len]
 nofun
 have es:RP s (.slider z low high stride v)=Wd s z low high stride v:=rfl;have wf:=ak.WF.slider b.wf z low high stride v;rw[es]at k;unfold Wd at k wf;dsimp only at k wf;generalize hvs:Y6 low high stride=sv at k wf;have rf:=mi (s:=s) (z:=z) (n:=s.inputs.length) (most:=8) (r:=[(!(RD low&&RD high&&RD v),-4),(decide (stride<1)||decide (high<low)||decide ((SU:Int)<SM low high stride),-5),((S1 sv v).isNone,-6)]);by_cases h0:refusal s z s.inputs.length 8=0
 case neg=>
  rw[ag (by simpa using h0)];exact k.i7 f (cv (rf.1 h0))
 let⟨rf1,rf2,rf3,rf4⟩:=rf.2 h0;rw[ae (by simp[h0])];have no:∀{H1:Hp}{n:Int},ah H H1->Se [(!(RD low&&RD high&&RD v),-4),(decide (stride<1)||decide (high<low)||decide ((SU:Int)<SM low high stride),-5),((S1 sv v).isNone,-6)]=zS n->qX [.int n] H1 Q:=λs1 e=>(k.from s1).i7 (f.same s1) (cv (rf1.trans e));by_cases c4:(RD low&&RD high&&RD v)=true
 case neg=>
  have hit:qX [.int (-4)] H Q:=no (ah.refl _) (bF (by rw[RQ];exact eq_false_of_ne_true c4));refine⟨low,rfl,_,rfl,?_⟩;by_cases q1:RD low=true
  .rw[ag q1];refine⟨high,rfl,_,rfl,?_⟩;by_cases q2:RD high=true
   .rw[ag q2];refine⟨v,rfl,_,rfl,?_⟩;rw[ag (by simpa [q1,q2]using c4)];exact hit
   .rw[ae q2];exact hit
  .rw[ae q1];exact hit
 have f4:∀rest,Se ((!(RD low&&RD high&&RD v),-4)::rest)=Se rest:=λrest=>aS (by rw[c4];rfl);obtain⟨⟨q1,q2⟩,q3⟩:(RD low=true/\RD high=true)/\RD v=true:=by simpa using c4
 refine⟨low,rfl,_,rfl,?_⟩;rw[ag q1];refine⟨high,rfl,_,rfl,?_⟩;rw[ag q2];refine⟨v,rfl,_,rfl,?_⟩;rw[ae (by simp[q3])];have r1:=inR.mp q1;have r2:=inR.mp q2;have hit:(decide (stride<1)||decide (high<low)||decide ((SU:Int)<SM low high stride))=true->qX [.int (-5)] H Q:=λe=>no (ah.refl _) ((f4 _).trans (bF e));by_cases d1:stride<1
 .rw[ag d1];exact hit (by simp[d1])
 rw[ae d1];by_cases d2:high<low
 .rw[ag d2];exact hit (by simp[d2])
 rw[ae d2];refine⟨⟨by omega,by omega⟩,?_⟩;have ef:(high-low).fdiv stride+1=SM low high stride:=by unfold SM;rw[Uy _ (by omega)]
 rw[ef];by_cases d3:(64:Int)<SM low high stride
 .rw[ag d3];exact hit (by rw[decide_eq_true (show(SU:Int)<_ from d3)];simp)
 rw[ae d3];have f5:∀rest,Se ((decide (stride<1)||decide (high<low)||decide ((SU:Int)<SM low high stride),-5)::rest)=Se rest:=λrest=>aS (by rw[decide_eq_false d1,decide_eq_false d2,decide_eq_false (show¬(SU:Int)<_ from d3)];rfl);have cpos:1<=SM low high stride:=by unfold SM;have:0<=(high-low)/stride:=Int.ediv_nonneg (by omega) (by omega);omega
 obtain⟨cn,hcn⟩:∃cn:Nat,SM low high stride=cn:=⟨(SM low high stride).toNat,by omega⟩;have rsz:VQ low (high+1) stride=SM low high stride:=by
  unfold VQ SM;rw[ag (by omega),ag (by omega)];have:high+1-low-1=high-low:=by omega
  rw[this]
 have fits:∀{i:Int},-2000000000000000000<=i->i<=2000000000000000000->Y7 i=true:=λh1 h2=>by unfold Y7;rw[SH,decide_eq_true_eq,decide_eq_true_eq];omega
 have sm:W7 low (high+1) stride=true:=by
  unfold W7
  rewrite [rsz,hcn,fits (i:=low) (by omega) (by omega),fits (i:=high+1) (by omega) (by omega),fits (i:=stride) (by omega) (by omega),fits (i:=(cn:Int)) (by omega) (by omega),ag (by omega),fits (i:=high+1+(stride-1)) (by omega) (by omega)]
  simp
 refine⟨low,high+1,stride,rfl,by omega,by omega,λra nra=>?_⟩;have s1:=ah.upd (o:=yg ra low (high+1) stride) nra;refine⟨ra,low,high+1,stride,cn,rfl,aa,sm,by rw[rsz,hcn],by omega,λl nl=>?_⟩;have s2:=s1.trans (ah.upd (o:=.lst ((RM cn).map λ(k:Nat)=>V.int (low+(k:Int)*stride))) nl);have esv:(RM cn).map (λ(k:Nat)=>V.int (low+(k:Int)*stride))=iL sv:=by
  rw[<-hvs];unfold Y6;have:min SU (SM low high stride).toNat=cn:=by
   have:(SM low high stride).toNat=cn:=by omega
   rw[this];show min 64 cn=cn;omega
  rw[this];simp only[iL,RV];apply SE;intro m _;show V.int _=V.int (low+stride*(m:Int));rw[TH]
 rw[esv]at s2⊢;refine xb aa ⟨_,rfl,?_⟩;obtain⟨e1,e2⟩|⟨j,fj,e1,e2⟩:=mj (l:=sv) (v:=v)
 .rw[ag (by simp[e2])];exact no s2 ((f4 _).trans ((f5 _).trans (bF (by rw[e1];rfl))))
 rw[ae (by simp[e2])]
 have all:Se [(Ta z,-1),(So s z,-2),(decide (Y5<=s.inputs.length),-3),(!(RD low&&RD high&&RD v),-4),(decide (stride<1)||decide (high<low)||decide ((SU:Int)<SM low high stride),-5),((S1 sv v).isNone,-6)]=zN:=
  rf1.trans ((f4 _).trans ((f5 _).trans (aS (by rw[e1];rfl))))
 rw[gH all]at k wf;obtain⟨zn,rfl⟩:∃n:Nat,z=n:=⟨z.toNat,by omega⟩;rw[e1]at k wf;simp only[Sg,Vs]at k wf;refine⟨f8 aa,uD aa fj ?_⟩;exact zd (i:=⟨zn,sv,j⟩) T f hk hna s2 aa (f.wh.bk.dm.free (s1.free nl)) rf3 wf k
def bO(G:Ga):Sp:=λvs H Q _=>∃(ms:List Addr)(d ra al:Addr)(z ans:Int)(r:List Int)(names:List Nat)(kvs:List (Key×V)),vs=[.ref d,.int z,.ref ra,.ref al,.int ans]/\lu ms H/\H d=zS (.dK kvs)/\kvs.length<=1000/\H ra=zS (.lst (iL r))/\H al=zS (.lst (nL names))/\
 (S9 r=zN->∀H' p,ah H H'->H p=zN->H' p=zS (.lst [.int (-10)])->Q (.ref p) H')/\
 ∀f,S9 r=zS f->(¬(∀x∈Ry f,x∈names)->∀H' p,ah H H'->H p=zN->H' p=zS (.lst [.int (-11)])->Q (.ref p) H')/\
  ((∀x∈Ry f,x∈names)->∀H1 H' fv p,ah H H1->fP G (cut ms H1) fv f->ah (upd H1 d (.dK (putK kvs (Rk z) fv))) H'->(upd H1 d (.dK (putK kvs (Rk z) fv))) p=zN->H' p=zS (.lst [.int ans])->Q (.ref p) H')
structure PY(H:Hp)(σ0:L2.St)(n:Addr)(kn:List (Key×V))(names:List Nat)(od:Obj)(i:Nat)(σ:L2.St)(H':Hp):Prop where
 ex:∃(o:Option V),σ=σ0++[o]/\(∀a u,H a=zS u->a≠n->H' a=zS u)/\H' n=zS (.fg od (.dK kn))/\∀k∈(kn.take i).map (·.1),∃x∈names,k=Rk (x:Int)
theorem Ad(T:Tc G)(h:bO G vs H Q E):ma G (g7 G) (ends Q) (start rS vs) H:=by
 let⟨ms,d,ra,al,z,ans,r,names,kvs,rfl,dm,hd,hkl,hra,hal,q0,q1⟩:=h;show ma G _ (ends Q) [zS (.ref d),zS (.int z),zS (.ref ra),zS (.ref al),zS (.int ans),zN,zN] H;unfold ma
 nofun
 refine⟨ms,ra,r,rfl,hra,dm,λe H1 s1=>?_,λf e H1 x s1 nx fa=>?_⟩
 .dsimp only;rw[ag rfl];refine iA λp np=>q0 e _ p (s1.trans (ah.upd np)) (s1.free np) aa
 .let⟨q2,q3⟩:=q1 f e;have fa0:=fa;let⟨a,dx,p',t,nn,kn,ex,h1,h2,h3,h4,h5⟩:=fa;injection ex with ex;subst ex
  try dsimp only
  rw[ae (by intro z;cases z)];have HN:=(aj h4).1;have HX:=(aj h1).1;have nxn:x≠nn:=aQ HX HN (by intro z;cases z);have alnn:al≠nn:=aQ (s1 _ _ hal) HN (by intro z;cases z)
  nofun
  refine nR HN (λod R r=>?_) (PY H1 [zS (V.ref d),zS (V.int z),zS (V.ref ra),zS (V.ref al),zS (V.int ans),zS (V.ref x)] nn kn names) (λod=>⟨zN,rfl,λa u e ne=>by rw[ab ne];exact e,aa,λk hk=>by simp at hk⟩) (λod i σ' H' z=>z.ex.elim λ_ w=>w.2.2.1) (λod i kk v σ' H' hk zz=>?_) (λod σ' H' zz=>?_)
  .nofun
   exact ux T (by rw[ab nxn];exact HX) r
  .let⟨o,rfl,keep,hn,hall⟩:=zz;have hkm:kk∈kn.map (·.1):=Rm.mpr ⟨_,Rz hk,rfl⟩;let⟨y,hy,rfl⟩:=(h5.key kk).mp hkm;dsimp only[Rx,RR,kV]
   nofun
   have hal2:=keep _ _ (s1 _ _ hal) alnn;rw[Bl]at hal2;refine xb hal2 ⟨_,rfl,?_⟩;have em:((y:Int)∈names.map λ(n:Nat)=>(n:Int))<->y∈names:=by
    rw[Rm];constructor
    .rintro⟨w,hw,e⟩;have:w=y:=by omega
     rw[<-this];exact hw
    .intro h;exact⟨y,h,rfl⟩
   by_cases c:y∈names
   .rw[ae (by simpa [em]using c)];refine⟨_,rfl,keep,hn,λk hk'=>?_⟩;rw[Sl,hk,Sa]at hk';obtain q|q:=Ru.mp hk'
    .exact hall k q
    .exact⟨y,c,by simpa using q⟩
   .rw[ag (by simpa [em]using c)];refine iA λp np=>⟨ah.upd np _ _ hn,?_⟩;have hpn:p≠nn:=λe=>by rw[e,hn]at np;cases np
    refine q2 (λhh=>c (hh y hy)) _ p (λa u e=>?_) ?_ (by rw[ab hpn,aa])
    .by_cases e2:a=nn
     .subst e2;rw[aa,<-HN,s1 _ _ e]
     .rw[ab e2];exact ah.upd np _ _ (keep a u (s1 _ _ e) e2)
    .cases e:H p with
     |none=>rfl
     |some u=>rw[keep p u (s1 _ _ e) hpn]at np;cases np
  .let⟨o,rfl,keep,hn,hall⟩:=zz;rw[R9]at hall;dsimp only[Rx,RR];have s2:ah H1 (upd H' nn (.dK kn)):=λa u e=>by
    by_cases e2:a=nn
    .subst e2;rw[aa,<-HN,e]
    .rw[ab e2];exact keep a u e e2
   have all:∀y∈Ry f,y∈names:=λy hy=>by
    let⟨w,hw,e⟩:=hall _ ((h5.key _).mpr ⟨y,hy,rfl⟩);have:y=w:=by injection e with e;omega
    rw[this];exact hw
   nofun
   refine mh (s2 _ _ (s1 _ _ hd)) (eu (by omega)) (iA λp np=>?_);exact q3 all _ _ (.ref x) p (s1.trans s2) (fa0.mono (bo s2)) (ah.upd np) np aa
end
variable{a p:Addr}{f:Formula}{o:HO}{H1:Hp}{cs:List (Nat×Formula)}
section
variable{G:Ga}{ms ms':List Addr}{H H':Hp}{s s':State}{L L':Lay}{X X':Xt}{vs:List V}{Q:VK}{E:XK}
def Full.PZ{kc':List (Key×V)}{cs':List (Nat×Formula)}(f:Full G ms H s L X)(hk:X.kn=[])(hna:X.na=[])(s1:ah H H1)(k2:ah (upd H1 L.pc (.dK kc')) H')(wf:ak.WF {s with cells:=cs'})(tb:Tb (λ(c:Nat×Formula)=>c.1) (λv c=>fP G (cut ms H1) v c.2) kc' cs'):uF G ms H L X {s with cells:=cs'} ms H' {L with kc:=kc'} X:=by
 have pcm:L.pc∈ms:=f.wh.bk.sub _ (by simp[Lay.own]);have c:ah (cut ms H1) (cut ms H'):=by have:=bo (ms:=ms) k2;rw[cJ pcm]at this;exact this
 have bt:lw L.pc H H':=λa o h n=>k2 _ _ (by rw[ab n];exact s1 _ _ h);exact⟨f.cells hk hna bt (k2 _ _ aa) wf (tb.mono λv c' z=>z.mono c),λa o h n=>bt a o h λe=>n (by rw[e];simp[bA,Lay.own]),rfl,λ_ h=>h,λ_ h=>.inl h,λ_ h=>.inl h,Su _ _⟩
def Full.QW{kt':List (Key×V)}{ts':List (Nat×Formula)}(f:Full G ms H s L X)(hk:X.kn=[])(hna:X.na=[])(s1:ah H H1)(k2:ah (upd H1 L.pt (.dK kt')) H')(wf:ak.WF {s with tests:=ts'})(tb:Tb (λ(c:Nat×Formula)=>c.1) (λv c=>fP G (cut ms H1) v c.2) kt' ts'):uF G ms H L X {s with tests:=ts'} ms H' {L with kt:=kt'} X:=by
 have ptm:L.pt∈ms:=f.wh.bk.sub _ (by simp[Lay.own]);have c:ah (cut ms H1) (cut ms H'):=by have:=bo (ms:=ms) k2;rw[cJ ptm]at this;exact this
 have bt:lw L.pt H H':=λa o h n=>k2 _ _ (by rw[ab n];exact s1 _ _ h);exact⟨f.tests hk hna bt (k2 _ _ aa) wf (tb.mono λv c' z=>z.mono c),λa o h n=>bt a o h λe=>n (by rw[e];simp[bA,Lay.own]),rfl,λ_ h=>h,λ_ h=>.inl h,λ_ h=>.inl h,Su _ _⟩
def After.list1{r:State×T6}{z:Int}(f:Full G ms H s L X)(k:After G ms H L X r Q)(e:r=(s,⟨z,[]⟩))(s1:ah H H1)(np:H p=zN)(hp:H1 p=zS (.lst [.int z])):Q (.ref p) H1:=
 k _ p ms L X (by rw[e];exact uF.refl f s1) np (by rw[hp,e];rfl)
def jO{o':HO}(s1:ah H H1)(ha:H a=zS o)(h:(upd H1 a o') p=zN):H p=zN:=by
 cases e:H p with
 |none=>rfl
 |some u=>
  by_cases q:p=a
  .rw[q,aa]at h;cases h
  .rw[ab q,s1 _ _ e]at h;cases h
def sV(h:∀x∈Ry f,x∈s.inputs.map (·.name)++cs.map (·.1)):U1 s cs f=false:=ak.jz.mpr h
def qm(h:¬∀x∈Ry f,x∈s.inputs.map (·.name)++cs.map (·.1)):U1 s cs f=true:=by
 cases e:U1 s cs f with
 |true=>rfl
 |false=>exact absurd (ak.jz.mp e) h
def jJ(G:Ga):Sp:=λvs H Q _=>∃z r ms s L X ra,vs=[.ref L.p,.int z,.ref ra]/\Full G ms H s L X/\X.kn=[]/\X.na=[]/\H ra=zS (.lst (iL r))/\After G ms H L X (RP s (.cell z r)) Q
theorem F7(T:Tc G)(h:jJ G vs H Q E):sH G (ek G) (bc G) (bO G) (ends Q) (start yG vs) H:=by
 let⟨z,r,ms,s,L,X,ra,rfl,f,hk,hna,hra,k⟩:=h;show sH G _ _ _ (ends Q) [zS (.ref L.p),zS (.int z),zS (.ref ra),zN] H;have b:=f.wh.bk;unfold sH
 nofun
 refine ft T b.nb ?_;refine⟨ms,s,L,z,L.pc,L.kc,12,rfl,b,b.hc,?_⟩;rw[b.hZ.len]
 nofun
 have es:RP s (.cell z r)=We s z r:=rfl;have wf:=ak.WF.cell b.wf z r;rw[es]at k;unfold We at k wf;dsimp only at k wf;have rf:=mi (s:=s) (z:=z) (n:=s.cells.length) (most:=12) (r:=[((S9 r).isNone,-10),(U1 s s.cells ((S9 r).getD (.const 0)),-11)]);by_cases h0:refusal s z s.cells.length 12=0
 case neg=>
  rw[ag (by simpa using h0)];exact k.i7 f (cv (rf.1 h0))
 let⟨rf1,rf2,rf3,rf4⟩:=rf.2 h0;rw[ae (by simp[h0])];refine ft T b.nb ?_;refine⟨ms,s,L,rfl,b,λH1 al s1 nal hal=>?_⟩;have f1:=f.same s1;have b1:=f1.wh.bk;refine⟨ms,L.pc,ra,al,z,0,r,ak.names s,L.kc,rfl,b1.dm,b1.hc,by rw[b.hZ.len];have:=b.wf.nC;omega,s1 _ _ hra,hal,λe H2 p s2 np hp=>?_,λfm e=>⟨λhn H2 p s2 np hp=>?_,λhall H2 H3 fv p s2 fa s3 np hp=>?_⟩⟩
 .exact(k.from s1).list1 f1 (cv (rf1.trans (bF (by rw[e];rfl)))) s2 np hp
 .refine(k.from s1).list1 f1 (cv (rf1.trans ((aS (by rw[e];rfl)).trans (bF ?_)))) s2 np hp;rw[e];exact qm hn
 .have all:Se [(Ta z,-1),(So s z,-2),(decide (Vanbkj.CELLS<=s.cells.length),-3),((S9 r).isNone,-10),(U1 s s.cells ((S9 r).getD (.const 0)),-11)]=zN:=
   rf1.trans ((aS (by rw[e];rfl)).trans (aS (by rw[e];exact sV hall)))
  rw[gH all]at k wf;obtain⟨zn,rfl⟩:∃n:Nat,z=n:=⟨z.toNat,by omega⟩;rw[e]at k wf;simp only[Sg,Vs]at k wf;have s12:=s1.trans s2;have b2:=(f.same s12).wh.bk;refine k H3 p _ _ _ (f.PZ hk hna s12 s3 wf (b2.hZ.new (x:=(zn,fm)) (b.free rf3).2 fa)) (jO s12 b.hc np) ?_;rw[hp];rfl
def gA(G:Ga):Sp:=λvs H Q _=>∃z r ms s L X ra,vs=[.ref L.p,.int z,.ref ra]/\Full G ms H s L X/\X.kn=[]/\X.na=[]/\H ra=zS (.lst (iL r))/\After G ms H L X (RP s (.change z r)) Q
theorem Ae(T:Tc G)(h:gA G vs H Q E):l_ G (fX G) (bO G) (ends Q) (start rR vs) H:=by
 let⟨z,r,ms,s,L,X,ra,rfl,f,hk,hna,hra,k⟩:=h;show l_ G _ _ (ends Q) [zS (.ref L.p),zS (.int z),zS (.ref ra)] H;have b:=f.wh.bk;unfold l_
 nofun
 have es:RP s (.change z r)=Wf s z r:=rfl;have wf:=ak.WF.change b.wf z r;rw[es]at k;unfold Wf at k wf;dsimp only at k wf;refine ft T b.nb (cN (.inl b.hc) ⟨_,rfl,?_⟩);obtain⟨h1,h2⟩|⟨v,c,h1,fc,hc,rfl⟩:=b.cell z
 .rw[h1,ag (by decide)];refine k.i7 f (cv (bF ?_));rw[RQ,Bool.and_eq_false_iff];by_cases q:0<=z
  .refine .inr ?_
   cases e:(Y8 s z.toNat).isSome with
   |false=>rfl
   |true=>
    let⟨c,hc,e2⟩:=Rm.mp (ak.jS.mp e);exact absurd (by omega) (h2 c hc)
  .exact .inl (decide_eq_false q)
 rw[h1,ae (by simp)];have here:(decide (0<=(c.1:Int))&&(Y8 s (c.1:Int).toNat).isSome)=true:=by rw[Sg,ak.jS.mpr (Rm.mpr ⟨c,hc,rfl⟩)];simp
 rw[here]at k wf;simp only[Sg]at k wf;refine ft T b.nb ?_;refine⟨ms,s,L,c.1,rfl,b,λH1 al s1 nal hal=>?_⟩;have f1:=f.same s1;have b1:=f1.wh.bk;refine⟨ms,L.pc,ra,al,c.1,0,r,_,L.kc,rfl,b1.dm,b1.hc,by rw[b.hZ.len];have:=b.wf.nC;omega,s1 _ _ hra,hal,λe H2 p s2 np hp=>?_,λfm e=>⟨λhn H2 p s2 np hp=>?_,λhall H2 H3 fv p s2 fa s3 np hp=>?_⟩⟩
 .exact(k.from s1).list1 f1 (cv ((aS rfl).trans (bF (by rw[e];rfl)))) s2 np hp
 .refine(k.from s1).list1 f1 (cv ((aS rfl).trans ((aS (by rw[e];rfl)).trans (bF ?_)))) s2 np hp;rw[e];exact qm hn
 .have all:Se [(!true,-8),((S9 r).isNone,-10),(U1 s (s.cells.takeWhile λc'=>c'.1 !=c.1) ((S9 r).getD (.const 0)),-11)]=zN:=
   (aS rfl).trans ((aS (by rw[e];rfl)).trans (aS (by rw[e];exact sV hall)))
  rw[gH all]at k wf;rw[e]at k wf;simp only[Vs]at k wf;have s12:=s1.trans s2;have b2:=(f.same s12).wh.bk;refine k H3 p _ _ _ (f.PZ hk hna s12 s3 wf (b2.hZ.old (g:=λc=>(c.1,fm)) h1 λx _ e3=>⟨e3,fa⟩)) (jO s12 b.hc np) ?_;rw[hp];rfl
def jK(G:Ga):Sp:=λvs H Q _=>∃z r ms s L X ra,vs=[.ref L.p,.int z,.ref ra]/\Full G ms H s L X/\X.kn=[]/\X.na=[]/\H ra=zS (.lst (iL r))/\After G ms H L X (RP s (.test z r)) Q
theorem qo(s:State)(n:Nat):T9 s n=(qe (λ(c:Nat×Formula)=>c.1) s.tests n).map λc=>c.2:=by unfold T9 qe;rw[ae (by omega),Sg]
theorem F8(T:Tc G)(h:jK G vs H Q E):sI G (ek G) eK (bO G) (ends Q) (start yH vs) H:=by
 let⟨z,r,ms,s,L,X,ra,rfl,f,hk,hna,hra,k⟩:=h;show sI G _ _ _ (ends Q) [zS (.ref L.p),zS (.int z),zS (.ref ra),zN] H;have b:=f.wh.bk;unfold sI
 nofun
 have es:RP s (.test z r)=Wg s z r:=rfl;have wf:=ak.WF.test b.wf z r;rw[es]at k;unfold Wg at k wf;dsimp only at k wf;refine⟨z,rfl,_,rfl,?_⟩;by_cases h1:0<=z/\z<=31
 case neg=>
  rw[ag (by simp[h1])];exact k.i7 f (cv (bF (by rw[qk];simp[h1])))
 rw[ae (by simp[h1])];have bn:Ta z=false:=by rw[qk];simp[h1]
 obtain⟨zn,rfl⟩:∃n:Nat,z=n:=⟨z.toNat,by omega⟩;simp only[Sg]at k wf;refine dU T b.nb (cN b.ht ?_)
 nofun
 have fin:∀(new:Bool),(T9 s zn).isNone=new->(new=true->s.tests.length<8)->lv G.K (.ref L.p) "tests" H λx H1=>ek G [.ref L.p] H1 (λx_1 H1=>bO G [x,.int (zn:Int),.ref ra,x_1,.int (if new=true then 1 else 0)] H1 Q E0) E0:=λnew hnew hlt=>by
  refine dU T b.nb ?_;subst hnew;have sk:∀rest,Se ((Ta (zn:Int),-1)::((T9 s zn).isNone&&decide (Y9<=s.tests.length),-3)::rest)=Se rest:=λrest=>(aS bn).trans (aS (by
   cases e:(T9 s zn).isNone with
   |false=>rfl
   |true=>
    have:=hlt e;rw[Bool.true_and,decide_eq_false];show¬8<=_;omega))
  refine⟨ms,s,L,rfl,b,λH1 al s1 nal hal=>?_⟩;have f1:=f.same s1;have b1:=f1.wh.bk;refine⟨ms,L.pt,ra,al,zn,_,r,ak.names s,L.kt,rfl,b1.dm,f1.wh.ht,by rw[b.i6.len];have:=b.wf.nT;omega,s1 _ _ hra,hal,λe H2 p s2 np hp=>?_,λfm e=>⟨λhn H2 p s2 np hp=>?_,λhall H2 H3 fv p s2 fa s3 np hp=>?_⟩⟩
  .exact(k.from s1).list1 f1 (cv ((sk _).trans (bF (by rw[e];rfl)))) s2 np hp
  .refine(k.from s1).list1 f1 (cv ((sk _).trans ((aS (by rw[e];rfl)).trans (bF ?_)))) s2 np hp;rw[e];exact qm hn
  .rw[gH ((sk _).trans ((aS (by rw[e];rfl)).trans (aS (by rw[e];exact sV hall))))]at k wf;rw[e]at k wf;simp only[Vs]at k wf;have s12:=s1.trans s2;have b2:=(f.same s12).wh.bk;have hn2:=qo s zn;have tb:Tb (λ(c:Nat×Formula)=>c.1) (λv c=>fP G (cut ms H2) v c.2) (putK L.kt (Rk (zn:Int)) fv) (if(T9 s zn).isNone=true then s.tests++[(zn,fm)]else s.tests.map λt=>if t.1=zn then(t.1,fm)else t):=by
    obtain⟨g1,g2,g3⟩|⟨w,c,g1,g2,g3,g4,g5⟩:=b2.i6.look zn
    .rw[g2]at hn2;rw[ag (by rw[hn2];rfl)];exact b2.i6.new (x:=(zn,fm)) g1 fa
    .rw[g2]at hn2;rw[ae (by rw[hn2];intro q;cases q)];exact b2.i6.old (g:=λc=>(c.1,fm)) g1 λx _ e3=>⟨e3,fa⟩
   refine k H3 p _ _ _ (f.QW hk hna s12 s3 wf tb) (jO s12 f.wh.ht np) ?_;rw[hp];rfl
 obtain⟨g1,g2,g3⟩|⟨v,c,g1,g2,fa,hc,e⟩:=b.test zn
 .rw[g1];have hn2:T9 s zn=zN:=by
   rw[qo];obtain⟨_,q,_⟩|⟨w,c,_,_,_,q4,q5⟩:=b.i6.look zn
   .rw[q];rfl
   .exact absurd q5.symm (g3 c q4)
  simp only[Option.isSome_none,if_true];refine dU T b.nb (iX f.wh.ht ⟨_,rfl,?_⟩);rw[b.i6.len];by_cases c8:8<=s.tests.length
  .rw[ag (by omega)];refine k.i7 f (cv ((aS bn).trans (bF ?_)));rw[hn2,decide_eq_true (show Y9<=s.tests.length from c8)];rfl
  .rw[ae (by omega)];have:=fin true (by rw[hn2];rfl) (λ_=>by omega);simpa only[if_true]using this
 .rw[g1];have hn2:(T9 s zn).isNone=false:=by
   rw[qo];obtain⟨_,_,q⟩|⟨w,c',_,q,_⟩:=b.i6.look zn
   .exact absurd e.symm (q c hc)
   .rw[q];rfl
  simp only[W2,Bool.true_eq_false,if_false];have:=fin false hn2 (λq=>by cases q);simpa only[RJ,if_false]using this
def iS(G:Ga):Sp:=λvs H Q E=>∃z,IR G (.dropTest z) [.int z] vs H Q E
theorem K_(s:State)(n:Nat):cE (F3 s) (Rk (n:Int))=F3 {s with marked:=s.marked.filter λt=>t.1 !=n}:=by
 unfold F3 cE;dsimp only;rw[VG];congr 1;apply Ts;intro m _;show decide ((Rk (m.1:Int):Key)≠Rk (n:Int))=(m.1 !=n);by_cases e:m.1=n
 .rw[e];simp
 .have:(Rk (m.1:Int):Key)≠Rk (n:Int):=λq=>by injection q with q;omega
  simp[e,this]
def uG(h:H a=zS o):upd H a o=H:=by
 funext b;by_cases e:b=a
 .rw[e,aa,h]
 .rw[ab e]
def Ep(T:Tc G)(h:iS G vs H Q E):pY G (ends Q) (start wd vs) H:=by
 let⟨z,ms,s,L,X,rfl,f,hk,hna,k⟩:=h;show pY G (ends Q) [zS (.ref L.p),zS (.int z)] H;have b:=f.wh.bk;unfold pY
 nofun
 refine dU T b.nb (cN b.ht ⟨_,rfl,?_⟩)
 have es:RP s (.dropTest z)=match UX s z with
  |none=>Y_ s (-9)
  |some _=>({s with tests:=s.tests.filter λt=>t.1 !=z.toNat,marked:=s.marked.filter λt=>t.1 !=z.toNat},⟨0,[]⟩):=rfl
 rw[es]at k;obtain⟨h1,h2,_⟩|⟨v,c,h1,h2,fa,hc,rfl⟩:=b.test z
 .rw[h1,ag (by decide)];rw[h2]at k;exact k.i7 f rfl
 rw[h1,ae (by simp)];rw[h2]at k;simp only[Sg]at k;have fx:=f.fx;simp only[eE,RK,Rn,Sj,or_false,not_or]at fx;have tr:L.pt≠L.pr:=fx.2.2.1.2;have npt:L.p≠L.pt:=aQ b.nb f.wh.ht (by intro z;cases z);refine dU T b.nb (Oa (z:=(c.1:Int)) f.wh.ht (λR r=>r) h1 ?_);have ptm:L.pt∈ms:=f.sub _ (by simp[bA,Lay.own]);have prm:L.pr∈ms:=f.sub _ (by simp[bA]);have hr1:(upd H L.pt (.dK (cE L.kt (Rk (c.1:Int))))) L.pr=zS (.dK (F3 s)):=by rw[ab tr.symm];exact f.wh.hr
 have fin:qX [.int 0] (upd (upd H L.pt (.dK (cE L.kt (Rk (c.1:Int))))) L.pr (.dK (cE (F3 s) (Rk (c.1:Int))))) Q:=iA λp np=>by
  have keep:∀a o,H a=zS o->a≠L.pt->a≠L.pr->(upd (upd (upd H L.pt (.dK (cE L.kt (Rk (c.1:Int))))) L.pr (.dK (cE (F3 s) (Rk (c.1:Int))))) p (.lst [.int 0])) a=zS o:=λa o h n1 n2=>ah.upd np _ _ (by rw[ab n2,ab n1];exact h);have ht2:(upd (upd (upd H L.pt (.dK (cE L.kt (Rk (c.1:Int))))) L.pr (.dK (cE (F3 s) (Rk (c.1:Int))))) p (.lst [.int 0])) L.pt=zS (.dK (cE L.kt (Rk (c.1:Int)))):=ah.upd np _ _ (by rw[ab tr,aa]);have hr2:(upd (upd (upd H L.pt (.dK (cE L.kt (Rk (c.1:Int))))) L.pr (.dK (cE (F3 s) (Rk (c.1:Int))))) p (.lst [.int 0])) L.pr=zS (.dK (cE (F3 s) (Rk (c.1:Int)))):=ah.upd np _ _ aa;have hp2:=aa (H:=upd (upd H L.pt (.dK (cE L.kt (Rk (c.1:Int))))) L.pr (.dK (cE (F3 s) (Rk (c.1:Int))))) (a:=p) (o:=.lst [V.int 0]);have npH:H p=zN:=by
   cases e:H p with
   |none=>rfl
   |some u=>
    by_cases q1:p=L.pt
    .rw[q1,ab tr,aa]at np;cases np
    .by_cases q2:p=L.pr
     .rw[q2,aa]at np;cases np
     .rw[ab q2,ab q1,e]at np;cases np
  generalize(upd (upd (upd H L.pt (.dK (cE L.kt (Rk (c.1:Int))))) L.pr (.dK (cE (F3 s) (Rk (c.1:Int))))) p (.lst [.int 0]))=H2 at keep ht2 hr2 hp2⊢;have cc:ah (cut ms H) (cut ms H2):=λa o h=>let⟨h1,h2⟩:=aj h;cS (keep a o h1 (λe=>h2 (by rw[e];exact ptm)) λe=>h2 (by rw[e];exact prm)) h2;have dm:lu ms H2:=λa m=>by
   by_cases q1:a=L.pt
   .rw[q1];exact⟨_,ht2⟩
   .by_cases q2:a=L.pr
    .rw[q2];exact⟨_,hr2⟩
    .let⟨o,ho⟩:=b.dm a m;exact⟨o,keep a o ho q1 q2⟩
  refine k H2 p ms {L with kt:=cE L.kt (Rk (c.1:Int))} X ⟨⟨⟨⟨ak.WF.dropTest b.wf c.1,dm,b.sub,keep _ _ b.nb npt (aQ b.nb f.wh.hr (by intro z;cases z)),keep _ _ b.hi fx.1.2.1 fx.1.2.2.2,keep _ _ b.hc fx.2.1.1 fx.2.1.2.2,.inl ht2,b.fi.mono λv i z=>?_,b.hZ.mono λv c' z=>z.mono cc,(b.i6.drop (n:=c.1)).mono λv c' z=>z.mono cc,b.dd⟩,ht2,hr2.trans (congrArg (λl=>zS (HO.dK l)) (K_ s c.1)),f.wh.n1,f.wh.n2⟩,f.sub,f.fx,f.dn,f.F6,f.uO,keep _ _ f.hp (λe=>fx.2.2.1.1 e.symm) fx.2.2.2.1,keep _ _ f.hn (aQ f.hn f.wh.ht (by intro z;cases z)) (aQ f.hn f.wh.hr (by intro z;cases z)),λkk v fK=>?_,f.Jj,f.oU,f.Eo,by rw[hk,hna];exact .nil,f.K9⟩,λa o h n=>keep a o h (λe=>n (by rw[e];simp[bA,Lay.own])) λe=>n (by rw[e];simp[bA]),rfl,λ_ h=>h,λ_ h=>.inl h,λ_ h=>.inl h,Su _ _⟩ npH hp2
  .let⟨a,dx,l,e,h1,h2⟩:=z;exact⟨a,dx,l,e,keep _ _ h1 (aQ h1 f.wh.ht (by intro z;cases z)) (aQ h1 f.wh.hr (by intro z;cases z)),cc _ _ h2⟩
  .let⟨n,a,l,e1,e2,e3,e4⟩:=f.pre kk v fK;subst e2;have hpa:=f.oy fK;exact⟨n,a,l,e1,rfl,keep a _ e3 (λe=>f.uO a (by simp[hpa]) (by simp[eE,e])) (λe=>f.uO a (by simp[hpa]) (by simp[eE,e])),e4⟩
 refine uz T (by rw[ab npt];exact b.nb) (Cq (z:=(c.1:Int)) (v:=.d7) hr1 (λR r=>r) (λR r=>r) (λw hw=>fin) λhn=>?_);rw[qO hn,uG hr1]at fin;exact fin
end
variable{a dx l:Addr}{i:Input}{kvs:List (Key×V)}{p:Nat}
section
variable{G:Ga}{ms ms':List Addr}{H H':Hp}{s s':State}{L L':Lay}{X X':Xt}{vs:List V}{Q:VK}{E:XK}
def Paired.M_{α β γ:Type}{F:α->β->Prop}{F':α->γ->Prop}{g:β->γ}{l:List α}{m:List β}(h:Paired F l m):(∀a b,a∈l->b∈m->F a b->F' a (g b))->Paired F' l (m.map g):=by
 induction h with
 |nil=>intro _;exact .nil
 |cons a _ ih=>intro f;exact .cons (f _ _ Rv Rv a) (ih λx y hx hy=>f x y (Rp _ hx) (Rp _ hy))
def jP{k:Key}{v:V}(h:aI kvs k=zS v):(k,v)∈kvs:=by
 unfold aI at h
 cases e:kvs.find? λkv=>decide (kv.1=k)with
 |none=>rw[e]at h;cases h
 |some kv=>
  rw[e]at h;have h1:=Uz e;have h2:=Ub e;have e1:kv.1=k:=of_decide_eq_true h1;have e2:kv.2=v:=RA h;rw[<-e1,<-e2];exact h2
def ze{α β:Type}{f:α->β}{l:List α}(hf:∀a b,f a=f b->a=b)(nd:l.Nodup):(l.map f).Nodup:=Xs.mpr (Xu (λh q=>h (hf _ _ q)) nd)
def sW{da:List Addr}(h:kvs.map (·.2)=da.map V.ref)(nd:da.Nodup):(kvs.map (·.2)).Nodup:=by rw[h];exact ze (λa b q=>by injection q) nd
theorem Tb.Rc{α:Type}{nm:α->Nat}{R:V->α->Prop}{xs:List α}(h:Tb nm R kvs xs)(nd:(xs.map nm).Nodup):(kvs.map (·.1)).Nodup:=by
 rw[h.keys];have:(xs.map λx=>(Rk (nm x:Int):Key))=(xs.map nm).map λ(n:Nat)=>(Rk (n:Int):Key):=by rw[RV];rfl
 rw[this];exact ze (λa b q=>by injection q with q;omega) nd
theorem eA.turned(b:eA G ms H s L)(dn:L.da.Nodup)(hi:i∈s.inputs)(h1:aI L.ki (Rk (i.name:Int))=zS (.ref a))(hl:cut ms H l=zS (.lst (iL i.values)))(k1:lw a H H')(ha:H' a=zS (.ins G.CD dx (fD (.ref l) (.int (p:Int)))))(am:a∈ms):Tb (λi=>i.name) (ll G ms H') L.ki (s.inputs.map λj=>if j.name=i.name then{j with place:=p}else j):=by
 have nd1:=b.fi.Rc b.wf.zB;have nd2:=sW b.dd dn;refine Paired.M_ b.fi λkv j fK hj z=>?_;by_cases e:j.name=i.name
 .rw[ag e];have ej:j=i:=ak.b7 b.wf.zB hj hi e;subst ej;have ekv:kv=(Rk (j.name:Int),V.ref a):=ak.b7 nd1 fK (jP h1) z.1;refine⟨z.1,a,dx,l,by rw[ekv],ha,k1.cut am _ _ hl⟩
 .rw[ae e];let⟨z1,a',dx',l',e1,e2,e3⟩:=z;have na:a'≠a:=λq=>e (by have:kv=(Rk (i.name:Int),V.ref a):=ak.b7 nd2 fK (jP h1) (by rw[e1,q]);rw[this]at z1;injection z1 with z1;dsimp only at z1;omega)
  exact⟨z1,a',dx',l',e1,k1 _ _ e2 na,k1.cut am _ _ e3⟩
def Full.stood(f:Full G ms H s L X)(hk:X.kn=[])(hna:X.na=[])(hi:i∈s.inputs)(h1:aI L.ki (Rk (i.name:Int))=zS (.ref a))(ha:H a=zS (.ins G.CD dx (fD (.ref l) (.int (i.place:Int)))))(hl:cut ms H l=zS (.lst (iL i.values)))(hp:p<i.values.length)(k2:ah (upd H a (.ins G.CD dx (fD (.ref l) (.int (p:Int))))) H'):uF G ms H L X (Xw s i.name p) ms H' L X:=by have b:=f.wh.bk;have aki:V.ref a∈L.ki.map (·.2):=Rm.mpr ⟨_,jP h1,rfl⟩;rw[b.dd]at aki;let⟨a',ada,e⟩:=Rm.mp aki;injection e with e;subst e;have am:a'∈ms:=b.sub _ (by simp[Lay.own,ada]);have bt:lw a' H H':=λc o h n=>k2 _ _ (by rw[ab n];exact h);have ha':=k2 _ _ aa;have hpi:H' L.pi=zS (.dK L.ki):=bt _ _ b.hi (aQ b.hi ha (by intro z;cases z));have wf:=ak.WF.stand b.wf hi hp;have ff:=f.fi (ki':=L.ki) (da':=L.da) hk hna (λc o h _ n=>bt c o h λe=>n (by rw[e];exact ada)) hpi (bt.cut am) (λ_ h=>h) (bt.Mu ha' b.dm) wf (b.turned f.dn hi h1 hl bt ha' am) b.dd f.dn (λc hc=>b.sub _ (by simp[Lay.own,hc]));exact⟨ff,λc o h n=>bt c o h λe=>n (by rw[e];simp[bA,Lay.own,ada]),rfl,λ_ h=>h,λ_ h=>.inl h,λ_ h=>.inl h,Su _ _⟩
def hJ(G:Ga):Sp:=λvs H Q E=>∃z k,IR G (.turn z k) [.int z,.int k] vs H Q E
theorem CL(T:Tc G)(h:hJ G vs H Q E):nM G (ends Q) (start uu vs) H:=by
 let⟨z,st,ms,s,L,X,rfl,f,hk,hna,k⟩:=h;show nM G (ends Q) [zS (.ref L.p),zS (.int z),zS (.int st),zN] H;have b:=f.wh.bk;unfold nM
 nofun
 have es:RP s (.turn z st)=Wh s z st:=rfl;rw[es]at k;unfold Wh at k;refine bu T b.nb (cN (.inl b.hi) ⟨_,rfl,?_⟩);obtain⟨h1,h2,h3⟩|⟨v,i,h1,h2,⟨a,dx,l,rfl,ha,hl⟩,hi,rfl⟩:=b.input z
 .rw[h1,ag (by decide)];rw[h2]at k;exact k.i7 f rfl
 rw[h1,ae (by simp)];rw[h2]at k;dsimp only at k;have io:=b.wf.fi i hi;have hp:=io.wr;refine bu T b.nb (fE (.inl b.hi) h1 ?_)
 nofun
 refine kg T ha ⟨_,rfl,iY T ha (fJ (aj hl).1 ⟨_,rfl,?_⟩)⟩;rw[dt];refine⟨_,_,rfl,_,_,rfl,?_⟩;generalize hq:(max 0 (min (RY i.place+st) (RY i.values.length-1))).toNat=q at k;have hq2:(max 0 (min ((i.place:Int)+st) ((i.values.length:Int)-1)))=(q:Int):=by rw[<-hq];show _=(((max 0 (min ((i.place:Int)+st) ((i.values.length:Int)-1))).toNat:Nat):Int);omega
 clear hq;have hq3:q<i.values.length:=by omega
 have e1:(if(if(i.values.length:Int)-1<(i.place:Int)+st then(i.values.length:Int)-1 else(i.place:Int)+st)>0 then(if(i.values.length:Int)-1<(i.place:Int)+st then(i.values.length:Int)-1 else(i.place:Int)+st)else 0)=(q:Int):=by rw[<-hq2];clear hq2 hq3;split<;>split<;>omega
 rw[e1];refine eR ha T.Od T.mZ (by show 2<1000;decide) ?_;rw[FF];refine kg T aa (iA λp np=>?_);refine k _ p ms L X (f.stood hk hna hi h1 ha hl hq3 (ah.upd np)) (jO (ah.refl H) ha np) ?_;rw[aa];rfl
def iT(G:Ga):Sp:=λvs H Q E=>∃z k,IR G (.set z k) [.int z,.int k] vs H Q E
def Er(T:Tc G)(h:iT G vs H Q E):pZ G (ends Q) (start we vs) H:=by
 let⟨z,st,ms,s,L,X,rfl,f,hk,hna,k⟩:=h;show pZ G (ends Q) [zS (.ref L.p),zS (.int z),zS (.int st),zN] H;have b:=f.wh.bk;unfold pZ
 nofun
 have es:RP s (.set z st)=Wi s z st:=rfl;rw[es]at k;unfold Wi at k;refine bu T b.nb (cN (.inl b.hi) ⟨_,rfl,?_⟩);obtain⟨h1,h2,h3⟩|⟨v,i,h1,h2,⟨a,dx,l,rfl,ha,hl⟩,hi,rfl⟩:=b.input z
 .rw[h1,ag (by decide)];rw[h2]at k;exact k.i7 f rfl
 rw[h1,ae (by simp)];rw[h2]at k;dsimp only at k;have HL:=(aj hl).1;refine bu T b.nb (fE (.inl b.hi) h1 ?_)
 nofun
 refine iY T ha (xb HL ⟨_,rfl,?_⟩);obtain⟨e1,e2⟩|⟨j,fj,e1,e2⟩:=mj (l:=i.values) (v:=st)
 .rw[ag (by simp[e2])];rw[e1]at k;exact k.i7 f rfl
 rw[ae (by simp[e2])];rw[e1]at k;dsimp only at k;have hj:j<i.values.length:=(RE.mp fj.at').1;refine iY T ha ⟨f8 HL,uD HL fj ?_⟩;refine eR ha T.Od T.mZ (by show 2<1000;decide) ?_;rw[FF];refine kg T aa (iA λp np=>?_);refine k _ p ms L X (f.stood hk hna hi h1 ha hl hj (ah.upd np)) (jO (ah.refl H) ha np) ?_;rw[aa];rfl
end
variable{k:Key}{kvs:List (Key×V)}{l:List (Nat×Int)}{n:Nat}
section
variable{G:Ga}{ms ms':List Addr}{H H':Hp}{s s':State}{L L':Lay}{X X':Xt}{vs:List V}{Q:VK}{E:XK}
def Bq{α:Type}{f:α->α}{l:List α}(h:∀x∈l,f x=x):l.map f=l:=by
 induction l with
 |nil=>rfl
 |cons a r ih=>rw[RS,h a Rv,ih λx hx=>h x (Rp _ hx)]
def G6{k:Key}{d:Addr}:∀{kvs:List (Key×V)}{pa:List Addr},kvs.map (·.2)=pa.map V.ref->(kvs.map (·.1)).Nodup->pa.Nodup->d∉pa->∃pa':List Addr,((kvs.map λkv=>if kv.1=k then(kv.1,V.ref d)else kv).map (·.2))=pa'.map V.ref/\pa'.Nodup/\∀a∈pa',a=d\/a∈pa
 |[],[],_,_,_,_=>⟨[],rfl,SI,λa h=>by simp at h⟩
 |[],_::_,h,_,_,_=>by simp at h
 |_::_,[],h,_,_,_=>by simp at h
 |kv::kvs,a::pa,h,nd,np,nd2=>by
  rw[RS,RS]at h;injection h with h1 h2;have nd':=RK.mp (show(kv.1::kvs.map (·.1)).Nodup from nd);have np':=RK.mp np;have dn:d≠a/\d∉pa:=⟨λe=>nd2 (by rw[e];exact Rv),λe=>nd2 (Rp _ e)⟩;by_cases e:kv.1=k
  .refine⟨d::pa,?_,RK.mpr ⟨dn.2,np'.2⟩,λb hb=>?_⟩
   .rw[RS,RS,ag e,Bq (l:=kvs) λx hx=>ae λq=>nd'.1 (by rw[e,<-q];exact Rm.mpr ⟨x,hx,rfl⟩),h2];rfl
   .obtain q|q:=Rn.mp hb
    .exact .inl q
    .exact .inr (Rp _ q)
  .let⟨pa',g1,g2,g3⟩:=G6 (k:=k) (d:=d) h2 nd'.2 np'.2 dn.2;refine⟨a::pa',?_,RK.mpr ⟨λq=>?_,g2⟩,λb hb=>?_⟩
   .rw[RS,RS,ae e,g1,h1];rfl
   .obtain q|q:=g3 a q
    .exact dn.1 q.symm
    .exact np'.1 q
   .obtain q|q:=Rn.mp hb
    .exact .inr (by rw[q];exact Rv)
    .obtain q|q:=g3 b q
     .exact .inl q
     .exact .inr (Rp _ q)
def Oo{d:Addr}{pa:List Addr}(h:kvs.map (·.2)=pa.map V.ref)(nd:(kvs.map (·.1)).Nodup)(np:pa.Nodup)(dn:d∉pa):∃pa':List Addr,(putK kvs k (.ref d)).map (·.2)=pa'.map V.ref/\pa'.Nodup/\∀a∈pa',a=d\/a∈pa:=by
 cases e:aI kvs k with
 |none=>
  rw[iK _ e];refine⟨pa++[d],by rw[Sa,Sa,h];rfl,ak.ja np dn,λa ha=>?_⟩;obtain q|q:=Ru.mp ha
  .exact .inr q
  .exact .inl (Sb.mp q)
 |some v=>
  unfold putK;rw[fw,e,ag (show(zS v).isSome=true from rfl)];exact G6 h nd np dn
def La{k':Key}{v v':V}(h:(k',v')∈putK kvs k v):(k'=k/\v'=v)\/(k'≠k/\(k',v')∈kvs):=by
 cases e:aI kvs k with
 |none=>
  rw[iK _ e]at h;obtain q|q:=Ru.mp h
  .exact .inr ⟨λe2=>yb e (Rm.mpr ⟨_,q,e2⟩),q⟩
  .have:=Sb.mp q;injection this with e1 e2;exact .inl ⟨e1,e2⟩
 |some w=>
  unfold putK at h;rw[fw,e,ag (show(zS w).isSome=true from rfl)]at h;let⟨kv,fK,e1⟩:=Rm.mp h;by_cases q:kv.1=k
  .rw[ag q]at e1;injection e1 with e2 e3;exact .inl ⟨by rw[<-e2,q],e3.symm⟩
  .rw[ae q]at e1;exact .inr ⟨by rw[e1]at q;exact q,by rw[<-e1];exact fK⟩
theorem lp{α:Type}{nm:α->Nat}{m:Nat}(h:m≠n):∀(l:List α),(l.filter λy=>nm y !=n).find? (λy=>nm y==m)=l.find? λy=>nm y==m
 |[]=>rfl
 |a::r=>by
  by_cases e:nm a=n
  .rw[Xd (by simp[e]),lp h r,T5 (by simp[e];omega)]
  .rw[Xe (by simp[e])];by_cases e2:nm a=m
   .rw[Us (by simp[e2]),Us (by simp[e2])]
   .rw[T5 (by simp[e2]),T5 (by simp[e2]),lp h r]
def ml(m:Nat):d8 {s with presets:=(s.presets.filter λy=>y.1 !=n)++[(n,l)]} m=if m=n then zS l else d8 s m:=by
 unfold d8;dsimp only;rw[Tp];by_cases e:m=n
 .subst e;rw[ag rfl];have:(s.presets.filter λy=>y.1 !=m).find? (λy=>y.1==m)=zN:=by rw[S5];intro y hy q;have:=(Sn.mp hy).2;simp at this q;exact this q
  rw[this];simp
 .rw[ae e,lp (nm:=λ(y:Nat×List (Nat×Int))=>y.1) e s.presets]
  cases s.presets.find? λy=>y.1==m with
  |some y=>rfl
  |none=>simp[SY e]
def gB(G:Ga):Sp:=λvs H Q E=>∃z,IR G (.keep z) [.int z] vs H Q E
def uH(l:List Input):List (Nat×Int):=l.map λi=>(i.name,Sy i i.place)
structure P0(H:Hp)(L:Lay)(s:State)(z:Int)(d:Addr)(od:Obj)(i:Nat)(σ:L2.St)(H':Hp):Prop where
 ex:∃(o3 o4:Option V),σ=[zS (.ref L.p),zS (.int z),zS (.ref d),o3,o4]/\(∀a u,H a=zS u->a≠L.pi->H' a=zS u)/\H' L.pi=zS (.fg od (.dK L.ki))/\H' d=zS (.dK (gG (uH (s.inputs.take i))))
theorem IS(h:∀y∈l,y.1≠n):aI (gG l) (Rk (n:Int))=zN:=by
 cases e:aI (gG l) (Rk (n:Int))with
 |none=>rfl
 |some v=>
  have:=wY e;simp only[gG,RV,Rm]at this;let⟨t,ht,e2⟩:=this;have e3:(Rk (t.1:Int):Key)=Rk (n:Int):=e2;injection e3 with e3;exact absurd (by omega) (h t ht)
theorem Af(T:Tc G)(h:gB G vs H Q E):md G (bp G) (ends Q) (start rT vs) H:=by
 let⟨z,ms,s,L,X,rfl,f,hk,hna,k⟩:=h;show md G _ (ends Q) [zS (.ref L.p),zS (.int z),zN,zN,zN] H;have b:=f.wh.bk;unfold md
 nofun
 have es:RP s (.keep z)=Wj s z:=rfl;have wf:=ak.WF.keep b.wf z;rw[es]at k;unfold Wj at k wf;have wi:Tn z 0 9=true<->0<=z/\z<=9:=by unfold Tn;rw[SH,decide_eq_true_eq,decide_eq_true_eq]
 by_cases c1:0<=z/\z<=9
 case neg=>
  have hit:qX [.int (-13)] H Q:=k.i7 f (cv (bF (by rw[RQ];cases e:Tn z 0 9 with|false=>rfl|true=>exact absurd (wi.mp e) c1)));by_cases c2:0<=z
  .rw[ag c2,ag (by omega)];exact hit
  .rw[ae c2];exact hit
 rw[ag c1.1,ae (by omega)];rw[gH (aS (by rw[wi.mpr c1];rfl))]at k wf;obtain⟨zn,rfl⟩:∃n:Nat,z=n:=⟨z.toNat,by omega⟩;simp only[Sg]at k wf;intro d nd;have s1:=ah.upd (o:=.dK []) nd;have f1:=f.same s1;have b1:=f1.wh.bk;have npi:L.p≠L.pi:=aQ b.nb b.hi (by intro z;cases z);have dpi:d≠L.pi:=λe=>by rw[e,b.hi]at nd;cases nd
 have pim:L.pi∈ms:=b.sub _ (by simp[Lay.own])
 nofun
 refine fI b1.hi (λod R r=>?_) (P0 H L s zn d) (λod=>⟨zN,zN,rfl,λa u e ne=>by rw[ab ne];exact s1 _ _ e,aa,by rw[ab dpi,aa];rfl⟩) (λod i σ' H' z=>z.ex.elim λ_ w=>w.elim λ_ w=>w.2.2.1) (λod i kk v σ' H' T' fK z nT=>?_) (λod σ' H' z=>?_)
 .nofun
  exact bu T (by rw[ab npi];exact b1.nb) r
 .let⟨o2,o3,rfl,keep,hpi,hd3⟩:=z;let⟨x,hx,rfl,a,dx,la,rfl,ha,hla⟩:=b.fi.at fK;have io:=b.wf.fi x (Rz hx);have sT:=ah.upd (o:=.tup [V.int (x.name:Int),V.ref a]) nT;have na:a≠L.pi:=aQ ha b.hi (by intro z;cases z);have nla:la≠L.pi:=λe=>(aj hla).2 (by rw[e];exact pim);dsimp only[kV];refine f9 aa rfl ?_
  nofun
  refine⟨a,dx,la,x,rfl,sT _ _ (keep _ _ ha na),sT _ _ (keep _ _ (aj hla).1 nla),io.wr,?_⟩;have hn:aI (gG (uH (s.inputs.take i))) (Rk (x.name:Int))=zN:=IS λy hy e=>by let⟨j,hj,rfl⟩:=Rm.mp hy;exact gF b.wf.zB hx j hj e
  refine mh (sT _ _ hd3) (eu ?_) ?_
  .have:=b.wf.nI;simp only[gG,uH,Rr,Sf];omega
  .refine⟨_,_,rfl,λb' u e ne=>?_,?_,?_⟩
   .rw[ab (ay e nd)];exact sT _ _ (keep b' u e ne)
   .rw[ab dpi.symm];exact sT _ _ hpi
   .rw[aa,iK _ hn,Sl,hx];simp[gG,uH]
 .let⟨o2,o3,rfl,keep,hpi,hd3⟩:=z;rw[b.fi.len,R9]at hd3;have s2:ah H (upd H' L.pi (.dK L.ki)):=λa u e=>by
   by_cases e2:a=L.pi
   .subst e2;rw[aa,<-b.hi,e]
   .rw[ab e2];exact keep a u e e2
  have hd4:(upd H' L.pi (.dK L.ki)) d=zS (.dK (gG (uH s.inputs))):=by rw[ab dpi];exact hd3
  generalize upd H' L.pi (.dK L.ki)=H2 at s2 hd4⊢;have f2:=f.same s2;have b2:=f2.wh.bk
  nofun
  refine qM T b2.nb (mh f2.hp (eu ?_) ?_)
  .have h1:X.kp.length=X.pa.length:=by have:=congrArg UI f.Eo;simpa using this
   have:=sQ (n:=10) f.oU λkk hkk=>by
    let⟨kv,fK,e⟩:=Rm.mp hkk;let⟨n,a,l,e1,e2,e3,e4⟩:=f.pre kv.1 kv.2 fK;refine⟨n,?_,by rw[<-e,e1]⟩;unfold d8 at e4
    cases e5:s.presets.find? λy=>y.1==n with
    |none=>rw[e5]at e4;cases e4
    |some y=>
     have h1:=Uz e5;have h2:=b.wf.zx y (Ub e5);have:y.1=n:=by simpa using h1
     omega
   simp at this;omega
  have ppm:L.pp∈ms:=f.sub _ (by simp[bA]);have fx:=f.fx;simp only[eE,RK,Rn,Sj,or_false,not_or]at fx;have dpp:d≠L.pp:=λe=>by rw[e,f.hp]at nd;cases nd
  refine iX (kvs:=gG (uH s.inputs)) (by rw[ab dpp];exact hd4) (iA λp np=>?_);have dpa:d∉X.pa:=λh=>b.dm.free nd (f.sub _ (by simp[bA,h]));let⟨pa',g1,g2,g3⟩:=Oo (k:=Rk (zn:Int)) (d:=d) f.Eo f.oU (Ss.mp f.F6).1 dpa;have npH:=jO s2 f.hp np;have bt:lw L.pp H (upd (upd H2 L.pp (.dK (putK X.kp (Rk (zn:Int)) (.ref d)))) p (.lst [.int ((gG (uH s.inputs)).length:Int)])):=λa o h n=>ah.upd np _ _ (by rw[ab n];exact s2 _ _ h);have hp2:(upd (upd H2 L.pp (.dK (putK X.kp (Rk (zn:Int)) (.ref d)))) p (.lst [.int ((gG (uH s.inputs)).length:Int)])) L.pp=zS (.dK (putK X.kp (Rk (zn:Int)) (.ref d))):=ah.upd np _ _ aa;have hd5:(upd (upd H2 L.pp (.dK (putK X.kp (Rk (zn:Int)) (.ref d)))) p (.lst [.int ((gG (uH s.inputs)).length:Int)])) d=zS (.dK (gG (uH s.inputs))):=ah.upd np _ _ (by rw[ab dpp];exact hd4);have hpp:=aa (H:=upd H2 L.pp (.dK (putK X.kp (Rk (zn:Int)) (.ref d)))) (a:=p) (o:=.lst [.int ((gG (uH s.inputs)).length:Int)]);generalize(upd (upd H2 L.pp (.dK (putK X.kp (Rk (zn:Int)) (.ref d)))) p (.lst [.int ((gG (uH s.inputs)).length:Int)]))=H3 at bt hp2 hd5 hpp⊢;have cc:ah (cut ms H) (cut (d::ms) H3):=λa o h=>by
   let⟨h1,h2⟩:=aj h;refine cS (bt a o h1 λe=>h2 (by rw[e];exact ppm)) λq=>?_;obtain q|q:=Rn.mp q
   .rw[q,nd]at h1;cases h1
   .exact h2 q
  have dsub:∀a∈bA L {kp:=putK X.kp (Rk (zn:Int)) (.ref d),pa:=pa',kn:=X.kn,na:=X.na},a∈bA L X\/a=d:=λa ha=>by
   simp only[bA,Ru]at ha⊢;obtain((h|h)|h)|h:=ha
   .exact .inl (.inl (.inl (.inl h)))
   .exact .inl (.inl (.inl (.inr h)))
   .obtain q|q:=g3 a h
    .exact .inr q
    .exact .inl (.inl (.inr q))
   .exact .inl (.inr h)
  refine k H3 p (d::ms) L {kp:=putK X.kp (Rk (zn:Int)) (.ref d),pa:=pa',kn:=X.kn,na:=X.na} ⟨⟨⟨⟨wf,(bt.Mu hp2 b.dm).cons hd5,λa ha=>Rp _ (b.sub a ha),bt _ _ b.nb (aQ b.nb f.hp (by intro z;cases z)),bt _ _ b.hi fx.1.2.2.1,bt _ _ b.hc fx.2.1.2.1,.inl (bt _ _ f.wh.ht fx.2.2.1.1),b.fi.mono λv i z=>?_,b.hZ.mono λv c' z=>z.mono cc,b.i6.mono λv c' z=>z.mono cc,b.dd⟩,bt _ _ f.wh.ht fx.2.2.1.1,bt _ _ f.wh.hr (λe=>fx.2.2.2.1 e.symm),f.wh.n1,f.wh.n2⟩,λa ha=>?_,f.fx,f.dn,?_,λa ha=>?_,hp2,bt _ _ f.hn (aQ f.hn f.hp (by intro z;cases z)),λkk v fK=>?_,λn l hn=>?_,mN f.oU,g1,by rw[hk,hna];exact .nil,f.K9⟩,λa o h n=>bt a o h λe=>n (by rw[e];simp[bA]),rfl,λ_ h=>Rp _ h,λa ha=>?_,λa ha=>?_,Su _ _⟩ npH ?_
  .let⟨a,dx,l,e,h1,h2⟩:=z;exact⟨a,dx,l,e,bt _ _ h1 (aQ h1 f.hp (by intro z;cases z)),cc _ _ h2⟩
  .obtain q|q:=dsub a ha
   .exact Rp _ (f.sub a q)
   .rw[q];exact Rv
  .dsimp only;rw[hna,RB];exact g2
  .dsimp only at ha;rw[hna,RB]at ha;obtain q|q:=g3 a ha
   .rw[q];intro hm;exact b.dm.free nd (f.sub d (by simp only[eE]at hm;simp only[bA,Lay.own,Ru,Rn]at hm⊢;obtain h|h|h|h|h|h:=hm<;>simp_all))
   .exact f.uO a (Sm _ q)
  .dsimp only at fK;obtain⟨q1,q2⟩|⟨q1,q2⟩:=La fK
   .refine⟨zn,d,uH s.inputs,q1,q2,hd5,?_⟩;exact(ml zn).trans (ag rfl)
   .let⟨n,a,l,e1,e2,e3,e4⟩:=f.pre kk v q2;subst e2;have hpa:=f.oy q2;refine⟨n,a,l,e1,rfl,bt a _ e3 (λe=>f.uO a (by simp[hpa]) (by simp[eE,e])),?_⟩;refine(ml n).trans ((ae λe=>q1 ?_).trans e4);rw[e1,e]
  .dsimp only;rw[fU];split
   .rfl
   .rename_i q;refine f.Jj n l ?_;rw[<-hn];exact((ml n).trans (ae λe=>q (by rw[e]))).symm
  .obtain q|q:=Rn.mp ha
   .exact .inr (by rw[q];exact nd)
   .exact .inl q
  .obtain q|q:=dsub a ha
   .exact .inl q
   .exact .inr (by rw[q];exact nd)
  .rw[hpp];simp[gG,uH,iL,enc,Ug,RY]
end
variable{i:Input}{g g':Input->Input}{l:List (Nat×Int)}{is:List Input}
section
variable{G:Ga}{ms ms':List Addr}{H H':Hp}{s s':State}{L L':Lay}{X X':Xt}{vs:List V}{Q:VK}{E:XK}
def gT(l:List (Nat×Int))(i:Input):Input:=match l.find? λy=>y.1==i.name with
 |some y=>{i with place:=(S1 i.values y.2).getD i.place}
 |none=>i
def Es(s:State)(l:List (Nat×Int)):Za s l={s with inputs:=s.inputs.map (gT l)}:=rfl
def vz(l:List (Nat×Int))(i:Input):(gT l i).name=i.name/\(gT l i).values=i.values:=by unfold gT;split<;>exact⟨rfl,rfl⟩
def IT{y:Nat×Int}:gT (l++[y]) i=if(l.find? λz=>z.1==i.name).isSome=true then gT l i else if y.1=i.name then{i with place:=(S1 i.values y.2).getD i.place}else i:=by
 unfold gT;rw[Tp]
 cases e:l.find? λz=>z.1==i.name with
 |some z=>simp
 |none=>
  by_cases q:y.1=i.name
  .simp[q]
  .simp[q]
def CM{n:Nat}(h:∀y∈l,y.1≠n):(l.find? λz=>z.1==n)=zN:=by rw[S5];intro y hy q;exact h y hy (by simpa using q)
def h_(is:List Input)(g:Input->Input):Nat:=(is.filter λi=>i.place !=(g i).place).length
def Lb(s:State)(l:List (Nat×Int)):((Ut s).zip (Ut (Za s l))|>.filter λy=>y.1 !=y.2).length=h_ s.inputs (gT l):=by
 rw[Es];unfold Ut h_;dsimp only;generalize s.inputs=is
 induction is with
 |nil=>rfl
 |cons i r ih=>
  simp only[RS,Zb,Td];split
  .rw[RG,RG];exact congrArg (· +1) ih
  .exact ih
theorem CO(nd:(is.map (·.name)).Nodup)(hi:i∈is)(same:∀j∈is,j.name≠i.name->(g' j).place=(g j).place)(g0:(g i).place=i.place):h_ is g'=h_ is g+if i.place=(g' i).place then 0 else 1:=by
 unfold h_
 induction is with
 |nil=>simp at hi
 |cons j r ih=>
  have nd':=RK.mp (show(j.name::r.map (·.name)).Nodup from nd);rw[Td,Td];obtain q|q:=Rn.mp hi
  .subst q;have er:r.filter (λj=>j.place !=(g' j).place)=r.filter λj=>j.place !=(g j).place:=by apply Ts;intro j hj;rw[same j (Rp _ hj) λe=>nd'.1 (by rw[<-e];exact Rm.mpr ⟨j,hj,rfl⟩)]
   rw[er,g0];by_cases e:i.place=(g' i).place
   .rw[ae (by simp[<-e]),ae (by simp),ag e];rfl
   .rw[ag (by simpa using e),ae (by simp),ae e];rfl
  .have hne:j.name≠i.name:=λe=>nd'.1 (by rw[e];exact Rm.mpr ⟨i,q,rfl⟩);have ih':=ih nd'.2 q λm hm=>same m (Rp _ hm);rw[same j Rv hne];split
   .rw[RG,RG,ih'];omega
   .exact ih'
def Ag(h:∀j∈is,(g' j).place=(g j).place):h_ is g'=h_ is g:=by unfold h_;congr 1;apply Ts;intro j hj;rw[h j hj]
def Et{l:List Int}(nd:l.Nodup){j:Nat}{v:Int}(h:l[j]?=zS v):S1 l v=zS j:=by refine qh ⟨h,λm hm e=>?_⟩;exact gF (f:=λx=>x) (by simpa using nd) h v (Rz (i:=m) (by rw[VJ,ag hm];exact e)) rfl
theorem F9(s:State)(n:Nat):Wk s n=d8 s n:=by unfold Wk d8;rw[ae (by omega),Sg]
def fA(G:Ga):Sp:=λvs H Q E=>∃z,IR G (.recall z) [.int z] vs H Q E
structure QX(G:Ga)(ms:List Addr)(H:Hp)(L:Lay)(s:State)(z:Int)(l:List (Nat×Int))(pd:Addr)(od:Obj)(j:Nat)(σ:L2.St)(H':Hp):Prop where
 ex:∃(o3 o4 o5:Option V),σ=[zS (.ref L.p),zS (.int z),zS (.int (h_ s.inputs (gT (l.take j)):Nat)),o3,o4,o5]/\(∀a u,H a=zS u->a≠pd->a∉L.da->H' a=zS u)/\H' pd=zS (.fg od (.dK (gG l)))/\Tb (λi=>i.name) (ll G ms H') L.ki (s.inputs.map (gT (l.take j)))/\lu ms H'
theorem wJ(T:Tc G)(h:fA G vs H Q E):jY G (bp G) (ends Q) (start ou vs) H:=by
 let⟨z,ms,s,L,X,rfl,f,hk,hna,k⟩:=h;show jY G _ (ends Q) [zS (.ref L.p),zS (.int z),zN,zN,zN,zN] H;have b:=f.wh.bk;unfold jY
 nofun
 have es:RP s (.recall z)=Wl s z:=rfl;have wf:=ak.WF.recall b.wf z;rw[es]at k;unfold Wl at k wf;refine qM T b.nb (cN (.inl f.hp) ⟨_,rfl,?_⟩)
 cases hv:aI X.kp (Rk z)with
 |none=>
  rw[ag (by decide)];have:Wk s z=zN:=by
   unfold Wk;by_cases q:z<0
   .rw[ag q]
   .rw[ae q]
    cases e:d8 s z.toNat with
    |none=>exact e
    |some l=>
     have:=f.Jj _ l e;rw[show((z.toNat:Nat):Int)=z by omega,hv]at this;cases this
  rw[this]at k;exact k.i7 f rfl
 |some v=>
 rw[ae (by simp)];let⟨n,pd,l,e1,e2,hpd,e4⟩:=f.pre _ _ (jP hv);have ez:z=(n:Int):=by injection e1
 subst ez e2;rw[F9,e4]at k wf;dsimp only at k wf;rw[Lb]at k;have hpa:=f.oy (jP hv);have pdm:pd∈ms:=f.sub _ (by simp[bA,hpa]);have pd5:pd∉eE L:=f.uO _ (Sm _ hpa);have npp:L.p≠pd:=aQ b.nb hpd (by intro z;cases z);have pipd:L.pi≠pd:=λe=>pd5 (by rw[<-e];simp[eE]);have pppd:L.pp≠pd:=λe=>pd5 (by rw[<-e];simp[eE]);have wpre:(l.map (·.1)).Nodup/\∀y∈l,∃i∈s.inputs,i.name=y.1/\y.2∈i.values:=by
  unfold d8 at e4
  cases e5:s.presets.find? λy=>y.1==n with
  |none=>rw[e5]at e4;cases e4
  |some y=>
   rw[e5]at e4;have:=b.wf.pre y (Ub e5);have e6:y.2=l:=RA e4;rw[e6]at this;exact this
 have nda:∀{a:Addr}{o:HO},H a=zS o->(∀dx l i,o≠.ins G.CD dx (fD l i))->a∉L.da:=λh ho m=>by let⟨dx,l,i,h2,_⟩:=b.sR m;rw[h]at h2;exact ho _ _ _ (RA h2)
 have dam:∀a∈L.da,a∈ms:=λa ha=>b.sub _ (by simp[Lay.own,ha])
 nofun
 refine fI hpd (λod R r=>?_) (QX G ms H L s n l pd) (λod=>⟨zN,zN,zN,?_,λa u e ne _=>by rw[ab ne];exact e,aa,?_,b.dm.upd⟩) (λod i σ' H' z=>z.ex.elim λ_ w=>w.elim λ_ w=>w.elim λ_ w=>w.2.2.1) (λod j kk v σ' H' T' fK z nT=>?_) (λod σ' H' z=>?_)
 .nofun
  exact qM T (by rw[ab npp];exact b.nb) (fE (.inl (by rw[ab pppd];exact f.hp)) hv r)
 .have:h_ s.inputs (gT (l.take 0))=0:=by unfold h_;rw[V7,XC];intro i _;simp[gT]
  rw[this];rfl
 .have:s.inputs.map (gT (l.take 0))=s.inputs:=Bq λi _=>rfl;rw[this];exact b.fi.mono λv i z=>by let⟨a,dx,la,e,h1,h2⟩:=z;refine⟨a,dx,la,e,by rw[ab (aQ h1 hpd (by intro z;cases z))];exact h1,by rw[cJ pdm];exact h2⟩
 .let⟨o3,o4,o5,rfl,keep,hpd1,tb,dm1⟩:=z;obtain⟨y,hy,ey⟩:∃y,l[j]?=zS y/\(kk,v)=((Rk (y.1:Int):Key),V.int y.2):=by
   unfold gG at fK;rw[RW]at fK
   cases e:l[j]? with
   |none=>rw[e]at fK;cases fK
   |some y=>rw[e]at fK;exact⟨y,rfl,(RA fK).symm⟩
  injection ey with ey1 ey2;subst ey1 ey2;let⟨i,hi,hin,hiv⟩:=wpre.2 y (Rz hy);have io:=b.wf.fi i hi;have nol:∀y'∈l.take j,y'.1≠i.name:=λy' hy' e=>gF wpre.1 hy y' hy' (by rw[e,hin]);have fn:((l.take j).find? λz=>z.1==i.name)=zN:=CM nol;have ri:gT (l.take j) i=i:=by unfold gT;rw[fn]
  have sT:=ah.upd (o:=.tup [V.int (y.1:Int),V.int y.2]) nT;have hval:aI L.ki (Rk (i.name:Int))≠zN:=λe=>by
   obtain⟨_,_,g⟩|⟨v,i',h1,_⟩:=b.input i.name
   .exact g i hi rfl
   .rw[e]at h1;cases h1
  obtain⟨q1,_,_⟩|⟨dv,i',q1,_,⟨a,dx,la,rfl,ha,hla⟩,q4,q5⟩:=tb.look i.name
  .exact absurd q1 hval
  let⟨i0,hi0,e0⟩:=Rm.mp q4;have ei0:i0=i:=ak.b7 b.wf.zB hi0 hi (by have:=(vz (l.take j) i0).1;rw[e0]at this;omega);subst ei0;rw[ri]at e0;subst e0;have hpi1:=keep _ _ b.hi pipd (nda b.hi (by intro _ _ _ z;cases z));have nb1:=keep _ _ b.nb npp (nda b.nb (by intro _ _ _ z;injection z with z1 z2 z3;cases z3));dsimp only[kV];refine f9 aa rfl ?_
  nofun
  refine bu T (sT _ _ nb1) (fE (.inl (sT _ _ hpi1)) (by rw[<-hin];exact q1) ?_)
  nofun
  have A:=sT _ _ ha;have LA:=sT _ _ (aj hla).1;refine⟨a,dx,la,i0,rfl,A,LA,io.wr,?_⟩
  nofun
  have et:l.take (j+1)=l.take j++[y]:=by rw[Sl,hy];rfl
  have hplace:i0.values[i0.place]?=zS (Sy i0 i0.place):=by unfold Sy;rw[RC io.wr];rfl
  have rsn:∀j'∈s.inputs,gT (l.take (j+1)) j'=if j'.name=i0.name then{gT (l.take j) j' with place:=(S1 i0.values y.2).getD i0.place}else gT (l.take j) j':=λj' hj'=>by
   rw[et,IT];by_cases e:j'.name=i0.name
   .have:j'=i0:=ak.b7 b.wf.zB hj' hi e;subst this;rw[fn,ae (by intro q;cases q),ag hin.symm,ag rfl,ri]
   .rw[ae e,ae (c:=y.1=j'.name) (λq=>e (by rw[<-q,hin]))];split
    .rfl
    .rename_i q;have:((l.take j).find? λz=>z.1==j'.name)=zN:=Xi.mp q;unfold gT;rw[this]
  by_cases ev:Sy i0 i0.place=y.2
  .rw[ae (by simpa using ev)];have eidx:S1 i0.values y.2=zS i0.place:=Et io.nd (by rw[<-ev];exact hplace);have same:∀j'∈s.inputs,gT (l.take (j+1)) j'=gT (l.take j) j':=λj' hj'=>by
    rw[rsn j' hj'];by_cases e:j'.name=i0.name
    .have:j'=i0:=ak.b7 b.wf.zB hj' hi e;subst this;rw[ag rfl,ri,eidx];rfl
    .rw[ae e]
   refine⟨zS (.int (y.1:Int)),zS (.int y.2),zS (.ref a),?_,λa u e n1 n2=>sT _ _ (keep a u e n1 n2),sT _ _ hpd1,?_,dm1.mono sT⟩
   .rw[Ag (g:=gT (l.take j)) (g':=gT (l.take (j+1))) λj' hj'=>by rw[same j' hj']]
   .rw[SE same];exact tb.mono λv i z=>by let⟨a,dx,l,e,h1,h2⟩:=z;exact⟨a,dx,l,e,sT _ _ h1,bo sT _ _ h2⟩
  .rw[ag (by simpa using ev)];let⟨m,fm⟩:=yZ hiv;have eidx:=qh fm;have hmp:m≠i0.place:=λe=>ev (by have h5:=fm.at';rw[e,hplace]at h5;exact RA h5)
   refine iY T A ⟨f8 LA,uD LA fm ?_⟩;refine eR A T.Od T.mZ (by show 2<1000;decide) ?_;rw[FF];have ada:a∈L.da:=by have aki:V.ref a∈L.ki.map (·.2):=Rm.mpr ⟨_,jP q1,rfl⟩;rw[b.dd]at aki;let⟨a',h,e⟩:=Rm.mp aki;injection e with e;rw[<-e];exact h
   have am:=dam a ada;have apd:a≠pd:=aQ (sT _ _ ha) (sT _ _ hpd1) (by intro z;cases z)
   nofun
   refine⟨zS (.int (y.1:Int)),zS (.int y.2),zS (.ref a),?_,λc u e n1 n2=>?_,?_,?_,(dm1.mono sT).upd⟩
   .rw[CO (g:=gT (l.take j)) (g':=gT (l.take (j+1))) b.wf.zB hi (λj' hj' hne=>by rw[rsn j' hj',ae hne]) (by rw[ri]),rsn i0 hi,ag rfl,eidx,ae (by simpa using hmp.symm)];simp
   .rw[ab (λe2=>n2 (by rw[e2];exact ada))];exact sT _ _ (keep c u e n1 n2)
   .rw[ab apd.symm];exact sT _ _ hpd1
   .rw[SE rsn];have:(s.inputs.map λj'=>if j'.name=i0.name then{gT (l.take j) j' with place:=(S1 i0.values y.2).getD i0.place}else gT (l.take j) j')=(s.inputs.map (gT (l.take j))).map λj'=>if j'.name=i0.name then{j' with place:=m}else j':=by rw[RV];apply SE;intro j' _;show _=if(gT (l.take j) j').name=i0.name then{gT (l.take j) j' with place:=m}else gT (l.take j) j';rw[(vz _ j').1,eidx];rfl
    rw[this];have nd1:=b.fi.Rc b.wf.zB;have nd2:=sW b.dd f.dn;refine Paired.M_ tb λkv j' hkv' hj' z=>?_;by_cases e:j'.name=i0.name
    .rw[ag e];have ekv:kv=(Rk (i0.name:Int),V.ref a):=ak.b7 nd1 hkv' (jP q1) (by rw[z.1];dsimp only;rw[e]);let⟨j0,hj0,e6⟩:=Rm.mp hj';have:j0=i0:=ak.b7 b.wf.zB hj0 hi (by rw[<-(vz (l.take j) j0).1,e6,e]);subst this;rw[ri]at e6;subst e6;exact⟨z.1,a,dx,la,by rw[ekv],aa,by rw[cJ am];exact bo sT _ _ hla⟩
    .rw[ae e];let⟨z1,a',dx',l',e1,e2,e3⟩:=z;have na:a'≠a:=λq=>e (by have:kv=(Rk (i0.name:Int),V.ref a):=ak.b7 nd2 hkv' (jP q1) (by rw[e1,q]);rw[this]at z1;injection z1 with z1;dsimp only at z1;omega)
     exact⟨z1,a',dx',l',e1,by rw[ab na];exact sT _ _ e2,by rw[cJ am];exact bo sT _ _ e3⟩
 .let⟨o3,o4,o5,rfl,keep,hpd1,tb,dm1⟩:=z;have hln:(gG l).length=l.length:=by simp[gG]
  rw[hln,R9]at tb⊢;have bt:∀a o,H a=zS o->a∉L.da->(upd H' pd (.dK (gG l))) a=zS o:=λa o h n=>by
   by_cases e:a=pd
   .subst e;rw[aa,<-hpd,h]
   .rw[ab e];exact keep a o h e n
  have tb2:Tb (λi=>i.name) (ll G ms (upd H' pd (.dK (gG l)))) L.ki (s.inputs.map (gT l)):=tb.mono λv i z=>by let⟨a,dx,la,e,h1,h2⟩:=z;refine⟨a,dx,la,e,by rw[ab (aQ h1 hpd1 (by intro z;cases z))];exact h1,by rw[cJ pdm];exact h2⟩
  have dm2:lu ms (upd H' pd (.dK (gG l))):=dm1.upd;generalize upd H' pd (.dK (gG l))=H2 at bt tb2 dm2⊢
  nofun
  refine iA λp np=>?_;have sP:=ah.upd (o:=.lst [V.int (h_ s.inputs (gT l):Nat)]) np;have cc:ah (cut ms H) (cut ms H2):=λa o h=>let⟨h1,h2⟩:=aj h;cS (bt a o h1 λm=>h2 (dam a m)) h2;have npH:H p=zN:=by
   cases e:H p with
   |none=>rfl
   |some u=>
    by_cases q:p∈L.da
    .let⟨u',hu'⟩:=dm2 p (dam p q);rw[hu']at np;cases np
    .rw[bt p u e q]at np;cases np
  have ff:=f.fi (ki':=L.ki) (da':=L.da) hk hna (λc o h _ n=>bt c o h n) (bt _ _ b.hi (nda b.hi (by intro _ _ _ z;cases z))) cc (λ_ h=>h) dm2 wf tb2 b.dd f.dn dam;exact k _ p ms L X ⟨ff.same sP,λc o h n=>sP _ _ (bt c o h λe=>n (by simp[bA,Lay.own,e])),rfl,λ_ h=>h,λ_ h=>.inl h,λ_ h=>.inl h,Su _ _⟩ npH (by rw[aa];rfl)
theorem IU(l:List (Nat×Int))(n:Nat):cE (gG l) (Rk (n:Int))=gG (l.filter λy=>y.1 !=n):=by
 unfold gG cE;rw[VG];congr 1;apply Ts;intro m _;show decide ((Rk (m.1:Int):Key)≠Rk (n:Int))=(m.1 !=n);by_cases e:m.1=n
 .rw[e];simp
 .have:(Rk (m.1:Int):Key)≠Rk (n:Int):=λq=>by injection q with q;omega
  simp[e,this]
def rX(s:State)(n m:Nat)(is:List Input)(cs:List (Nat×Formula)):d8 {s with inputs:=is,cells:=cs,presets:=s.presets.map λp=>(p.1,p.2.filter λy=>y.1 !=n)} m=(d8 s m).map λl=>l.filter λy=>y.1 !=n:=by
 unfold d8;dsimp only;generalize s.presets=ps
 induction ps with
 |nil=>rfl
 |cons p r ih=>
  rw[RS];by_cases e:p.1=m
  .rw[Us (by simpa using e),Us (by simpa using e)];rfl
  .rw[T5 (by simpa using e),T5 (by simpa using e)];exact ih
def iR(G:Ga):Sp:=λvs H Q E=>∃z,IR G (.drop z) [.int z] vs H Q E
structure Na(H:Hp)(L:Lay)(X:Xt)(n:Nat)(od:Obj)(i:Nat)(σ:L2.St)(H':Hp):Prop where
 ex:∃(o:Option V),σ=[zS (.ref L.p),zS (.int (n:Int)),o]/\(∀a u,H a=zS u->a≠L.pp->a∉X.pa->H' a=zS u)/\H' L.pp=zS (.fg od (.dK X.kp))/\∀(j:Nat)(k:Key)(a:Addr)(l:List (Nat×Int)),X.kp[j]?=zS (k,.ref a)->H a=zS (.dK (gG l))->H' a=zS (.dK (if j<i then cE (gG l) (Rk (n:Int))else gG l))
theorem Eu(T:Tc G)(h:iR G vs H Q E):pX G (dL G) (lc G) (ends Q) (start wc vs) H:=by
 let⟨z,ms,s,L,X,rfl,f,hk,hna,k⟩:=h;show pX G _ _ (ends Q) [zS (.ref L.p),zS (.int z),zN] H;have b:=f.wh.bk;unfold pX
 nofun
 have es:RP s (.drop z)=Wm s z:=rfl;have wf:=ak.WF.drop b.wf z;rw[es]at k;unfold Wm at k wf;dsimp only at k wf;refine⟨ms,s,L,z,rfl,b,_,rfl,?_⟩
 cases e:So s z with
 |false=>
  rw[ag rfl];exact k.i7 f (cv (bF (by rw[e];rfl)))
 |true=>
 rw[ae (by decide)];rw[e]at k wf;obtain⟨n,rfl⟩:∃n:Nat,z=n:=⟨z.toNat,by have:=(ak.kL.mp e).1;omega⟩;simp only[Sg]at k wf;refine⟨ms,s,L,n,rfl,b,λH1 s1=>⟨_,rfl,?_⟩⟩
 cases er:UY s n with
 |true=>
  rw[ag rfl];exact(k.from s1).i7 (f.same s1) (cv ((aS rfl).trans (bF er)))
 |false=>
 rw[ae (by decide)];have all:Se [(!true,-7),(UY s n,-12)]=zN:=(aS rfl).trans (aS er);rw[gH all]at k wf;have f1:=f.same s1;have b1:=f1.wh.bk;have fx:=f.fx;simp only[eE,RK,Rn,Sj,or_false,not_or]at fx;have npi:L.p≠L.pi:=aQ b.nb b.hi (by intro z;cases z);have npc:L.p≠L.pc:=aQ b.nb b.hc (by intro z;cases z);have npp:L.p≠L.pp:=aQ b.nb f.hp (by intro z;cases z);have pim:L.pi∈ms:=b.sub _ (by simp[Lay.own]);have pcm:L.pc∈ms:=b.sub _ (by simp[Lay.own]);have ppm:L.pp∈ms:=f.sub _ (by simp[bA]);have pam:∀a∈X.pa,a∈ms:=λa ha=>f.sub _ (by simp[bA,ha])
 suffices fin:∀H3,H3=upd (upd H1 L.pi (.dK (cE L.ki (Rk (n:Int))))) L.pc (.dK (cE L.kc (Rk (n:Int))))->iN (gi (DD (aC G.K (eG 0) "presets")) (ao 2) (bx (pI (eG 2) (eG 1) (tC .d7)))) {nx:=aA (bG (a_ (tC (.int 0)) cP)) (ends Q),rt:=Q} [zS (.ref L.p),zS (.int (n:Int)),zN] H3 by
  have st2:∀H2,H2=upd H1 L.pi (.dK (cE L.ki (Rk (n:Int))))->lv G.K (.ref L.p) "cells" H2 λx H1=>KD x (λH2 R=>R (.int (n:Int)) H2) (λH2 R=>R .d7 H2) H1 λx H1=>iN (gi (DD (aC G.K (eG 0) "presets")) (ao 2) (bx (pI (eG 2) (eG 1) (tC .d7)))) {nx:=aA (bG (a_ (tC (.int 0)) cP)) (ends Q),rt:=Q} [zS (.ref L.p),zS (.int (n:Int)),zN] H1:=λH2 e2=>by
   have hc2:H2 L.pc=zS (.dK L.kc):=by rw[e2,ab (λe=>fx.1.1 e.symm)];exact b1.hc
   refine ft T (by rw[e2,ab npi];exact b1.nb) (Cq (z:=(n:Int)) (v:=.d7) hc2 (λR r=>r) (λR r=>r) (λw hw=>?_) λhn=>?_)
   .exact fin _ (by rw[e2])
   .refine fin _ ?_;rw[qO hn,<-e2,uG hc2]
  refine bu T b1.nb (Cq (z:=(n:Int)) (v:=.d7) b1.hi (λR r=>r) (λR r=>r) (λw hw=>?_) λhn=>?_)
  .exact st2 _ rfl
  .refine st2 _ ?_;rw[qO hn,uG b1.hi]
 intro H3 e3;have keep3:∀a u,H a=zS u->a≠L.pi->a≠L.pc->H3 a=zS u:=λa u h n1 n2=>by rw[e3,ab n2,ab n1];exact s1 _ _ h
 have hi3:H3 L.pi=zS (.dK (cE L.ki (Rk (n:Int)))):=by rw[e3,ab fx.1.1,aa]
 have hc3:H3 L.pc=zS (.dK (cE L.kc (Rk (n:Int)))):=by rw[e3,aa]
 have np3:∀{p:Addr},H3 p=zN->H p=zN:=λ{p} h=>by
  cases e:H p with
  |none=>rfl
  |some u=>
   by_cases q1:p=L.pi
   .rw[q1,hi3]at h;cases h
   .by_cases q2:p=L.pc
    .rw[q2,hc3]at h;cases h
    .rw[keep3 p u e q1 q2]at h;cases h
 have hp3:=keep3 _ _ f.hp (λe=>fx.1.2.2.1 e.symm) (λe=>fx.2.1.2.1 e.symm);have pa3:∀{a:Addr}{u:HO},a∈X.pa->H a=zS u->H3 a=zS u:=λha h=>keep3 _ _ h (λe=>f.uO _ (Sm _ ha) (by simp[eE,e])) λe=>f.uO _ (Sm _ ha) (by simp[eE,e]);have pap:∀a∈X.pa,a≠L.pp:=λa ha e=>f.uO _ (Sm _ ha) (by simp[eE,e]);clear e3;refine FU hp3 (λod R r=>?_) (Na H3 L X n) (λod=>⟨zN,rfl,λa u e ne _=>by rw[ab ne];exact e,aa,λj kk a l h1 h2=>?_⟩) (λod i σ' H' z=>z.ex.elim λ_ w=>w.2.2.1) (λod i kk v σ' H' fK z=>?_) (λod σ' H' z=>?_)
 .nofun
  exact qM T (by rw[ab npp];exact keep3 _ _ b.nb npi npc) r
 .rw[ae (by omega),ab (pap a (f.oy (Rz h1)))];exact h2
 .let⟨o,rfl,keep,hpp,hall⟩:=z;let⟨m,a,l,e1,e2,e3',e4⟩:=f.pre kk v (Rz fK);subst e2;have hpa:=f.oy (Rz fK);have ha:=hall i kk a l fK (pa3 hpa e3');rw[ae (by omega)]at ha;have nxt:∀H4,H4=upd H' a (.dK (cE (gG l) (Rk (n:Int))))->Na H3 L X n od (i+1) [zS (.ref L.p),zS (.int (n:Int)),zS (.ref a)] H4:=λH4 e4=>by
   refine⟨_,rfl,λc u e n1 n2=>by rw[e4,ab (λq=>n2 (by rw[q];exact hpa))];exact keep c u e n1 n2,by rw[e4,ab (pap a hpa).symm];exact hpp,λj k' a' l' h1 h2=>?_⟩;have nd2:=sW f.Eo (Ss.mp f.F6).1;by_cases q:j=i
   .subst q;rw[fK]at h1;injection h1 with h1;injection h1 with h1 h3;injection h3 with h3;subst h3;rw[pa3 hpa e3']at h2;injection h2 with h2;injection h2 with h2;rw[e4,aa,ag (by omega),<-h2]
   .have na:a'≠a:=λe=>q (by
     let⟨hj,ej⟩:=RE.mp h1;let⟨hi',ei⟩:=RE.mp fK;obtain hlt|hge:=Nat.lt_or_ge j i
     .exact absurd (by rw[e]) (gF nd2 fK (k',.ref a') (Rz (i:=j) (by rw[VJ,ag hlt];exact h1)))
     .have hlt:i<j:=by omega
      exact absurd (by rw[e]) (gF nd2 h1 (kk,.ref a) (Rz (i:=i) (by rw[VJ,ag hlt];exact fK))))
    rw[e4,ab na,hall j k' a' l' h1 h2];by_cases q2:j<i
    .rw[ag q2,ag (by omega)]
    .rw[ae q2,ae (by omega)]
  nofun
  refine Cq (z:=(n:Int)) (v:=.d7) ha (λR r=>r) (λR r=>r) (λw hw=>?_) λhn=>?_
  .exact nxt _ rfl
  .refine nxt _ ?_;rw[qO hn,uG ha]
 .let⟨o,rfl,keep,hpp,hall⟩:=z;have keep4:∀a u,H3 a=zS u->a∉X.pa->(upd H' L.pp (.dK X.kp)) a=zS u:=λa u h n=>by
   by_cases e:a=L.pp
   .subst e;rw[aa,<-hp3,h]
   .rw[ab e];exact keep a u h e n
  have hall4:∀(j:Nat)(k:Key)(a:Addr)(l:List (Nat×Int)),X.kp[j]?=zS (k,.ref a)->H3 a=zS (.dK (gG l))->(upd H' L.pp (.dK X.kp)) a=zS (.dK (gG (l.filter λy=>y.1 !=n))):=λj k a l h1 h2=>by have:=hall j k a l h1 h2;rw[ag (RE.mp h1).1,IU]at this;rw[ab (pap a (f.oy (Rz h1)))];exact this
  generalize upd H' L.pp (.dK X.kp)=H5 at keep4 hall4⊢
  nofun
  refine iA λp np=>?_;have sP:=ah.upd (o:=.lst [V.int 0]) np;have hpp5:=aa (H:=H5) (a:=p) (o:=.lst [V.int 0]);have ndp:∀{a:Addr}{u:HO},H a=zS u->(∀kv,u≠.dK kv)->a∉X.pa:=λh hu m=>by have:V.ref _∈X.pa.map V.ref:=Rm.mpr ⟨_,m,rfl⟩;rw[<-f.Eo]at this;let⟨kv,fK,e⟩:=Rm.mp this;let⟨m',a',l,e1,e2,e3,e4⟩:=f.pre kv.1 kv.2 fK;rw[e2]at e;injection e with e;rw[e,h]at e3;exact hu _ (RA e3)
  have fpa:∀{a:Addr},a∈eE L->a∉X.pa:=λh m=>f.uO _ (Sm _ m) h;have k5:∀a u,H a=zS u->a≠L.pi->a≠L.pc->a∉X.pa->(upd H5 p (.lst [V.int 0])) a=zS u:=λa u h n1 n2 n3=>sP _ _ (keep4 a u (keep3 a u h n1 n2) n3);have hi5:=sP _ _ (keep4 _ _ hi3 (fpa (by simp[eE])));have hc5:=sP _ _ (keep4 _ _ hc3 (fpa (by simp[eE])));have pre5:∀kk v,(kk,v)∈X.kp->∃(m:Nat)(a:Addr)(l:List (Nat×Int)),kk=Rk (m:Int)/\v=.ref a/\a∈X.pa/\(upd H5 p (.lst [V.int 0])) a=zS (.dK (gG (l.filter λy=>y.1 !=n)))/\d8 s m=zS l:=λkk v fK=>by let⟨m,a,l,e1,e2,e3,e4⟩:=f.pre kk v fK;subst e2;have hpa:=f.oy fK;let⟨j,hj⟩:=TJ.mp fK;exact⟨m,a,l,e1,rfl,hpa,sP _ _ (hall4 j kk a l hj (pa3 hpa e3)),e4⟩
  have dm5:lu ms (upd H5 p (.lst [V.int 0])):=λa m=>by
   by_cases q1:a=L.pi
   .rw[q1];exact⟨_,hi5⟩
   .by_cases q2:a=L.pc
    .rw[q2];exact⟨_,hc5⟩
    .by_cases q3:a∈X.pa
     .have:V.ref a∈X.pa.map V.ref:=Rm.mpr ⟨_,q3,rfl⟩;rw[<-f.Eo]at this;let⟨kv,fK,e⟩:=Rm.mp this;let⟨m',a',l,e1,e2,_,e3,e4⟩:=pre5 kv.1 kv.2 fK;rw[e2]at e;injection e with e;rw[<-e];exact⟨_,e3⟩
     .let⟨u,hu⟩:=b.dm a m;exact⟨u,k5 a u hu q1 q2 q3⟩
  have npH:H p=zN:=by
   cases e:H p with
   |none=>rfl
   |some u=>
    by_cases q1:p=L.pi
    .rw[q1,keep4 _ _ hi3 (fpa (by simp[eE]))]at np;cases np
    .by_cases q2:p=L.pc
     .rw[q2,keep4 _ _ hc3 (fpa (by simp[eE]))]at np;cases np
     .by_cases q3:p∈X.pa
      .have:V.ref p∈X.pa.map V.ref:=Rm.mpr ⟨_,q3,rfl⟩;rw[<-f.Eo]at this;let⟨kv,fK,e'⟩:=Rm.mp this;let⟨m',a',l,e1,e2,e3,e4⟩:=f.pre kv.1 kv.2 fK;rw[e2]at e';injection e' with e';subst e';let⟨j,hj⟩:=TJ.mp fK;rw[show kv=(kv.1,V.ref a') by rw[<-e2]]at hj;rw[hall4 j kv.1 a' l hj (pa3 q3 e3)]at np;cases np
      .rw[keep4 p u (keep3 p u e q1 q2) q3]at np;cases np
  generalize upd H5 p (.lst [V.int 0])=H6 at k5 hi5 hc5 pre5 dm5 hpp5⊢;have cc:ah (cut ms H) (cut ms H6):=λa o h=>let⟨h1,h2⟩:=aj h;cS (k5 a o h1 (λe=>h2 (by rw[e];exact pim)) (λe=>h2 (by rw[e];exact pcm)) λm=>h2 (pam a m)) h2;have sl:((cE L.ki (Rk (n:Int))).map (·.2)).Sublist (L.da.map V.ref):=by rw[<-b.dd];exact(UB).map _
  let⟨da',sl1,sl2⟩:=List.sublist_map_iff.mp sl;refine k H6 p ms {L with ki:=cE L.ki (Rk (n:Int)),kc:=cE L.kc (Rk (n:Int)),da:=da'} X ⟨⟨⟨⟨wf,dm5,λa ha=>?_,k5 _ _ b.nb npi npc (ndp b.nb (by intro kv z;cases z)),hi5,hc5,.inl (k5 _ _ f.wh.ht (λe=>fx.1.2.1 e.symm) (λe=>fx.2.1.1 e.symm) (fpa (by simp[eE]))),(b.fi.drop (n:=n)).mono λv i z=>?_,(b.hZ.drop (n:=n)).mono λv c' z=>z.mono cc,b.i6.mono λv c' z=>z.mono cc,sl2⟩,k5 _ _ f.wh.ht (λe=>fx.1.2.1 e.symm) (λe=>fx.2.1.1 e.symm) (fpa (by simp[eE])),k5 _ _ f.wh.hr (λe=>fx.1.2.2.2 e.symm) (λe=>fx.2.1.2.2 e.symm) (fpa (by simp[eE])),f.wh.n1,f.wh.n2⟩,λa ha=>?_,f.fx,f.dn.sublist sl1,f.F6,f.uO,k5 _ _ f.hp (λe=>fx.1.2.2.1 e.symm) (λe=>fx.2.1.2.1 e.symm) (fpa (by simp[eE])),k5 _ _ f.hn (aQ f.hn b.hi (by intro z;cases z)) (aQ f.hn b.hc (by intro z;cases z)) (ndp f.hn (by intro kv z;cases z)),λkk v fK=>?_,λm l hm=>?_,f.oU,f.Eo,by rw[hk,hna];exact .nil,f.K9⟩,λa o h nn=>k5 a o h (λe=>nn (by rw[e];simp[bA,Lay.own])) (λe=>nn (by rw[e];simp[bA,Lay.own])) λm=>nn (by simp[bA,m]),rfl,λ_ h=>h,λ_ h=>.inl h,λa ha=>?_,Su _ _⟩ npH hpp5
  .simp only[Lay.own,Rn]at ha;obtain h|h|h|h|h:=ha
   .rw[h];exact b.sub _ (by simp[Lay.own])
   .rw[h];exact b.sub _ (by simp[Lay.own])
   .rw[h];exact b.sub _ (by simp[Lay.own])
   .rw[h];exact b.sub _ (by simp[Lay.own])
   .exact b.sub _ (by simp[Lay.own,sl1.subset h])
  .let⟨a,dx,l,e,h1,h2⟩:=z;exact⟨a,dx,l,e,k5 _ _ h1 (aQ h1 b.hi (by intro z;cases z)) (aQ h1 b.hc (by intro z;cases z)) (ndp h1 (by intro kv z;cases z)),cc _ _ h2⟩
  .refine f.sub a ?_;simp only[bA,Lay.own,Ru,Rn,Rx,Sj,or_false]at ha⊢;obtain h|h|h|h|(((h|h)|h)|h):=ha
   all_goals first|simp[h]|skip
   all_goals simp[sl1.subset h]
  .let⟨m,a,l,e1,e2,_,e3,e4⟩:=pre5 kk v fK;exact⟨m,a,_,e1,e2,e3,by rw[rX,e4];rfl⟩
  .rw[rX]at hm
   cases e5:d8 s m with
   |none=>rw[e5]at hm;cases hm
   |some l'=>exact f.Jj m l' e5
  .refine .inl ?_;simp only[bA,Lay.own,Ru,Rn,Rx,Sj,or_false]at ha⊢;obtain h|h|h|h|(((h|h)|h)|h):=ha
   all_goals first|simp[h]|skip
   all_goals simp[sl1.subset h]
def jM(G:Ga):Sp:=λvs H Q _=>∃ms s L X,vs=[.ref L.p]/\Full G ms H s L X/\After G ms H L X (RP s .mark) Q
def F_(T:Tc G)(h:jM G vs H Q E):sF G (bN G) (ends Q) (start yF vs) H:=by
 let⟨ms,s,L,X,rfl,f,k⟩:=h;show sF G _ (ends Q) [zS (.ref L.p)] H;have b:=f.wh.bk;unfold sF
 nofun
 have es:RP s .mark=({s with marked:=s.tests.map λt=>(t.1,Sh s t.2)},⟨RY s.tests.length,[]⟩):=rfl;rw[es]at k;refine⟨ms,s,L,rfl,b,f.wh.ht,f.wh.n1,f.wh.n2,λH1 d s1 nd hd=>?_⟩;have f1:=f.same s1;have b1:=f1.wh.bk;refine eR b1.nb T.IB T.iC (by show 6<1000;decide) ?_;have npt:L.p≠L.pt:=aQ b.nb f.wh.ht (by intro z;cases z);have dp:d≠L.p:=λe=>by rw[e,b.nb]at nd;cases nd
 have pm:L.p∈ms:=b.sub _ (by simp[Lay.own]);have e1:kP "remembered" (.ref d) (fN (.ref L.pi) (.ref L.pc) (.ref L.pt) (.ref L.pp) (.ref L.pr) (.ref L.pn))=fN (.ref L.pi) (.ref L.pc) (.ref L.pt) (.ref L.pp) (.ref d) (.ref L.pn):=by rfl
 rw[e1];refine dU T aa (iX (by rw[ab npt.symm];exact f1.wh.ht) (iA λp np=>?_));have npH:=jO s1 b.nb np;have bt:lw L.p H (upd (upd H1 L.p (.ins G.CN L.dx (fN (.ref L.pi) (.ref L.pc) (.ref L.pt) (.ref L.pp) (.ref d) (.ref L.pn)))) p (.lst [.int (L.kt.length:Int)])):=λa o h n=>ah.upd np _ _ (by rw[ab n];exact s1 _ _ h);have hb2:(upd (upd H1 L.p (.ins G.CN L.dx (fN (.ref L.pi) (.ref L.pc) (.ref L.pt) (.ref L.pp) (.ref d) (.ref L.pn)))) p (.lst [.int (L.kt.length:Int)])) L.p=zS (.ins G.CN L.dx (fN (.ref L.pi) (.ref L.pc) (.ref L.pt) (.ref L.pp) (.ref d) (.ref L.pn))):=ah.upd np _ _ aa;have hd2:(upd (upd H1 L.p (.ins G.CN L.dx (fN (.ref L.pi) (.ref L.pc) (.ref L.pt) (.ref L.pp) (.ref d) (.ref L.pn)))) p (.lst [.int (L.kt.length:Int)])) d=zS (.dK (eC s s.tests)):=ah.upd np _ _ (by rw[ab dp];exact hd);have hpp:=aa (H:=upd H1 L.p (.ins G.CN L.dx (fN (.ref L.pi) (.ref L.pc) (.ref L.pt) (.ref L.pp) (.ref d) (.ref L.pn)))) (a:=p) (o:=.lst [.int (L.kt.length:Int)]);generalize(upd (upd H1 L.p (.ins G.CN L.dx (fN (.ref L.pi) (.ref L.pc) (.ref L.pt) (.ref L.pp) (.ref d) (.ref L.pn)))) p (.lst [.int (L.kt.length:Int)]))=H2 at bt hb2 hd2 hpp⊢;have cc:ah (cut ms H) (cut (d::ms) H2):=λa o h=>by
  let⟨h1,h2⟩:=aj h;refine cS (bt a o h1 λe=>h2 (by rw[e];exact pm)) λq=>?_;obtain q|q:=Rn.mp q
  .rw[q,nd]at h1;cases h1
  .exact h2 q
 have dno:d∉bA L X:=λh=>b.dm.free nd (f.sub d h);have fx:=f.fx;simp only[eE,RK,Rn,Sj,or_false,not_or]at fx;have pd:∀{a:Addr}{kv:List (Key×V)},H a=zS (.dK kv)->a≠L.p:=λh=>aQ h b.nb (by intro z;cases z);have dsub:∀a∈bA {L with pr:=d} X,a∈bA L X\/a=d:=λa ha=>by
  simp only[bA,Lay.own,Ru,Rn,Rx,Sj,or_false]at ha⊢;obtain h|h|h|h|((h|h|h|h)|h)|h:=ha
  all_goals first|exact .inr h|(refine .inl ?_;simp[h])
 refine k H2 p (d::ms) {L with pr:=d} X ⟨⟨⟨⟨ak.WF.mark b.wf,(bt.Mu hb2 b.dm).cons hd2,λa ha=>Rp _ (b.sub a ha),hb2,bt _ _ b.hi (pd b.hi),bt _ _ b.hc (pd b.hc),.inl (bt _ _ f.wh.ht (pd f.wh.ht)),b.fi.mono λv i z=>?_,b.hZ.mono λv c' z=>z.mono cc,b.i6.mono λv c' z=>z.mono cc,b.dd⟩,bt _ _ f.wh.ht (pd f.wh.ht),hd2.trans ?_,f.wh.n1,f.wh.n2⟩,λa ha=>?_,?_,f.dn,f.F6,λa ha=>?_,bt _ _ f.hp (pd f.hp),bt _ _ f.hn (aQ f.hn b.nb (by intro z;cases z)),λkk v fK=>?_,f.Jj,f.oU,f.Eo,?_,f.K9⟩,λa o h n=>bt a o h λe=>n (by rw[e];simp[bA,Lay.own]),rfl,λ_ h=>Rp _ h,λa ha=>?_,λa ha=>?_,Su _ _⟩ npH ?_
 .let⟨a,dx,l,e,h1,h2⟩:=z;have na:a≠L.p:=λe=>by rw[e,b.nb]at h1;injection h1 with h1;injection h1 with z1 z2 z3;cases z3
  exact⟨a,dx,l,e,bt _ _ h1 na,cc _ _ h2⟩
 .simp[eC,F3]
 .obtain q|q:=dsub a ha
  .exact Rp _ (f.sub a q)
  .rw[q];exact Rv
 .have q:∀x∈[L.pi,L.pc,L.pt,L.pp],x≠d:=λx hx e=>dno (by rw[<-e];simp only[Rn,Sj,or_false]at hx;obtain h|h|h|h:=hx<;>simp[bA,Lay.own,h]);simp only[eE,RK,Rn,Sj,or_false,not_or];exact⟨⟨fx.1.1,fx.1.2.1,fx.1.2.2.1,q _ (by simp)⟩,⟨fx.2.1.1,fx.2.1.2.1,q _ (by simp)⟩,⟨fx.2.2.1.1,q _ (by simp)⟩,q _ (by simp),λh=>h,SI⟩
 .intro hm;simp only[eE,Rn,Sj,or_false]at hm;obtain h|h|h|h|h:=hm
  .exact f.uO a ha (by simp[eE,h])
  .exact f.uO a ha (by simp[eE,h])
  .exact f.uO a ha (by simp[eE,h])
  .exact f.uO a ha (by simp[eE,h])
  .refine dno ?_;rw[<-h];obtain q|q:=Ru.mp ha<;>simp[bA,q]
 .let⟨n,a,l,e1,e2,e3,e4⟩:=f.pre kk v fK;subst e2;exact⟨n,a,l,e1,rfl,bt a _ e3 (pd e3),e4⟩
 .refine Paired.mapR f.near λkv dc _ hdc z=>?_;let⟨dd,is,ck,q1,q2,q3,q4,q5,q6⟩:=z.ex;have q7:=q6.go (bt _ _ q6.hd (pd q6.hd)) cc;exact⟨dd,is,ck,q1,q2,q3,q4,q5.mono cc,⟨q7.hd,q7.nd,q7.key⟩⟩
 .obtain q|q:=Rn.mp ha
  .exact .inr (by rw[q];exact nd)
  .exact .inl q
 .obtain q|q:=dsub a ha
  .exact .inl q
  .exact .inr (by rw[q];exact nd)
 .rw[hpp,b.i6.len];rfl
end
variable{a:Addr}{H0:Hp}{i:Input}{b:List (List Nat×Nat)}{x:List Nat×Nat}{v:V}
section
variable{G:Ga}{ms ms':List Addr}{H H':Hp}{s s':State}{L L':Lay}{X X':Xt}{vs:List V}{Q:VK}{E:XK}
def qp(H0 H':Hp)(v:V)(x:List Nat×Nat):Prop:=∃t p,v=.ref t/\H' t=zS (.tup [.ref p,.int (x.2:Int)])/\H' p=zS (.tup (nL x.1))/\H0 p=zN
def qp.mono(k:ah H H')(h:qp H0 H v x):qp H0 H' v x:=let⟨t,p,e,h1,h2,h3⟩:=h;⟨t,p,e,k _ _ h1,k _ _ h2,h3⟩
def qp.lst{l l':List V}(ha:H a=zS (.lst l))(h:qp H0 H v x):qp H0 (upd H a (.lst l')) v x:=
 let⟨t,p,e,h1,h2,h3⟩:=h
 ⟨t,p,e,by rw[ab (aQ h1 ha (by intro z;cases z))];exact h1,by rw[ab (aQ h2 ha (by intro z;cases z))];exact h2,h3⟩
def Lc(G:Ga)(H:Hp)(v:V)(i:Input):Prop:=∃a dx l,v=.ref a/\H a=zS (.ins G.CD dx (fD (.ref l) (.int (i.place:Int))))/\H l=zS (.lst (iL i.values))
def gz(G:Ga):Sp:=λvs H Q _=>∃(dl:Addr)(d:Nat)(dvs:List V)(is:List Input),vs=[.ref dl,.int (d:Int)]/\H dl=zS (.lst dvs)/\Paired (Lc G H) dvs is/\(∀i∈is,ak.Js i)/\is.length<=8/\d<=4/\
 ∀H' st svs,ah H H'->H st=zN->H' st=zS (.lst svs)->Paired (λv ps=>∃a,v=V.ref a/\H' a=zS (.tup (nL ps))/\H a=zN) svs (SA is d)->Q (.ref st) H'
structure QY(H:Hp)(dl:Addr)(d:Nat)(is:List Input)(i:Nat)(σ:L2.St)(H':Hp):Prop where
 ex:∃(bg:Addr)(bvs:List V)(o3 o4 o5 o6 o7 o8 o9:Option V),σ=[zS (.ref dl),zS (.int (d:Int)),zS (.ref bg),o3,o4,o5,o6,o7,o8,o9]/\ah H H'/\H' bg=zS (.lst bvs)/\Paired (qp H H') bvs ((is.take i).foldl ak.longer [([],d)])
structure QZ(H H1:Hp)(dl:Addr)(d:Nat)(bg da lg:Addr)(i:Input)(b:List (List Nat×Nat))(j:Nat)(σ:L2.St)(H':Hp):Prop where
 ex:∃(lvs:List V)(o5 o6 o7 o8 o9:Option V),σ=[zS (.ref dl),zS (.int (d:Int)),zS (.ref bg),zS (.ref da),zS (.ref lg),o5,o6,o7,o8,o9]/\ah H1 H'/\H' lg=zS (.lst lvs)/\Paired (qp H H') lvs (ak.longer (b.take j) i)
structure Q0(H H1:Hp)(dl:Addr)(d:Nat)(bg da lg p:Addr)(i:Input)(b:List (List Nat×Nat))(x:List Nat×Nat)(v7 v8:V)(m:Nat)(σ:L2.St)(H':Hp):Prop where
 ex:∃(lvs:List V)(o9:Option V),σ=[zS (.ref dl),zS (.int (d:Int)),zS (.ref bg),zS (.ref da),zS (.ref lg),zS (.ref p),zS (.int (x.2:Int)),zS v7,zS v8,o9]/\ah H1 H'/\H' lg=zS (.lst lvs)/\Paired (qp H H') lvs (ak.longer b i++(RM m).map λk=>(x.1++[i.place-x.2+k],x.2-U3 (i.place-x.2+k) i.place))
theorem IV{l:Nat}(h:i.place<i.values.length)(hl:l<=4):(ak.reachOf i l).length<=9:=by rw[ak.sd h,List.length_range'];omega (splitDisjunctions:=true)
theorem zf(h:i.place<i.values.length):∀{b:List (List Nat×Nat)},(∀x∈b,x.2<=4)->(ak.longer b i).length<=9*b.length
 |[],_=>by simp[ak.longer]
 |x::r,hb=>by
  have ih:=zf h (b:=r) λy hy=>hb y (Rp _ hy);have e:ak.longer (x::r) i=((ak.reachOf i x.2).map λp=>(x.1++[p],x.2-U3 p i.place))++ak.longer r i:=by unfold ak.longer;rw[SR]
  have:=IV h (hb x Rv);rw[e,RH,Rr,RG];omega (splitDisjunctions:=true)
def Ev(h:i.place<i.values.length):ak.longer (b++[x]) i=ak.longer b i++(RM (min (i.values.length-1) (i.place+x.2)+1-(i.place-x.2))).map λk=>(x.1++[i.place-x.2+k],x.2-U3 (i.place-x.2+k) i.place):=by unfold ak.longer;rw[TK,SR,XH,RB,ak.sd h,XQ,RV];rfl
def G7{d:Nat}(hd:d<=4):∀(is:List Input)(b:List (List Nat×Nat)),(∀x∈b,x.2<=4)->∀x∈is.foldl ak.longer b,x.2<=4
 |[],b,hb=>hb
 |i::r,b,hb=>G7 hd r _ (ak.AQ hb)
theorem Oq{K:Rl}{b:Addr}{xs:List V}{y:V}(ha:H a=zS (.tup xs))(hb:H b=zS (.tup [y]))(hz:xs.length<=1000)(q:∀H' p,ah H H'->H' p=zS (.tup (xs++[y]))->(p=b\/H p=zN)->Q (.ref p) H'):Kx K (.ref a) (.ref b) H Q:=by refine⟨a,b,xs,[y],rfl,rfl,km.of ha,km.of hb,fq (by simp;omega),λe=>?_,λ_ e=>by simp at e,λ_ _ p np=>q _ p (ah.upd np) aa (.inr np)⟩;subst e;exact q H b (ah.refl H) hb (.inl rfl)
def Ew{n:Nat}(hb:∀x∈b,x.1.length=n):∀x∈ak.longer b i,x.1.length=n+1:=λx hx=>by unfold ak.longer at hx;let⟨y,hy,hx⟩:=Tr.mp hx;let⟨p,_,rfl⟩:=Rm.mp hx;show(y.1++[p]).length=n+1;rw[RH,hb y hy];rfl
theorem Br{d:Nat}:∀(is:List Input)(n:Nat)(b:List (List Nat×Nat)),(∀x∈b,x.1.length=n)->∀x∈is.foldl ak.longer b,x.1.length=n+is.length
 |[],n,b,hb=>hb
 |i::r,n,b,hb=>λx hx=>by have:=Br (d:=d) r (n+1) _ (Ew (i:=i) hb) x hx;rw[this,RG];omega
theorem Ah(T:Tc G)(h:gz G vs H Q E):mf G (ends Q) (start me vs) H:=by
 let⟨dl,d,dvs,is,rfl,hdl,pr,cA,hn,hd,k⟩:=h;show mf G (ends Q) [zS (.ref dl),zS (.int (d:Int)),zN,zN,zN,zN,zN,zN,zN,zN] H;unfold mf
 nofun
 have hl:dvs.length=is.length:=Paired.nS pr;refine iy (by simp) λt0 n0=>iy (by simp) λt1 n1=>jN (by simp) λbg nb=>?_;have sA:=ah.upd (o:=.tup []) n0;have sB:=sA.trans (ah.upd (o:=.tup [V.ref t0,V.int (d:Int)]) n1);have sC:=sB.trans (ah.upd (o:=.lst [V.ref t1]) nb);have wr:∀i∈is,i.place<i.values.length:=λi hi=>(cA i hi).wr
 have beg0:qp H (upd (upd (upd H t0 (.tup [])) t1 (.tup [V.ref t0,V.int (d:Int)])) bg (.lst [V.ref t1])) (.ref t1) ([],d):=
  ⟨t1,t0,rfl,ah.upd nb _ _ aa,((ah.upd n1).trans (ah.upd nb)) _ _ aa,n0⟩
 refine qc (sC _ _ hdl) (QY H dl d is) ⟨bg,[.ref t1],zN,zN,zN,zN,zN,zN,zN,rfl,sC,aa,.cons beg0 .nil⟩ (λi σ H' _ z=>?_) (λi v σ H1 hv z=>?_) (λσ H1 z=>?_)
 .let⟨bg,bvs,o3,o4,o5,o6,o7,o8,o9,rfl,s1,hb,pb⟩:=z;exact s1 _ _ hdl
 .let⟨bg,bvs,o3,o4,o5,o6,o7,o8,o9,rfl,s1,hb,pb⟩:=z;let⟨x,hx,da,ddx,la,rfl,hda,hla⟩:=Paired.nU pr hv;have io:=cA x (Rz hx);have ip:=io.wr;have il:=io.len;have hbl:((is.take i).foldl ak.longer [([],d)]).length<=20736:=ak.uY (by rw[Sf];omega) hd λj hj=>wr j (Zc hj);have hb4:∀y∈(is.take i).foldl ak.longer [([],d)],y.2<=4:=G7 hd _ _ λy hy=>by rw[Sb.mp hy];exact hd
  have hbn:∀y∈(is.take i).foldl ak.longer [([],d)],y.1.length<=8:=λy hy=>by have:=Br (d:=d) (is.take i) 0 [([],d)] (λy hy=>by rw[Sb.mp hy];rfl) y hy;rw[this,Sf];omega
  have estep:(is.take (i+1)).foldl ak.longer [([],d)]=ak.longer ((is.take i).foldl ak.longer [([],d)]) x:=by rw[Sl,hx,Vd];rfl
  generalize hB:(is.take i).foldl ak.longer [([],d)]=B at pb hbl hb4 hbn estep;dsimp only
  nofun
  refine jN (by simp) λlg nlg=>?_;have sL:=ah.upd (o:=.lst []) nlg;have nlgH:H lg=zN:=s1.free nlg;have hpl:bvs.length=B.length:=Paired.nS pb
  nofun
  refine qc (sL _ _ hb) (QZ H H1 dl d bg da lg x B) ⟨[],o5,o6,o7,o8,o9,rfl,sL,aa,by rw[Xb];exact .nil⟩ (λj σ H' _ z=>?_) (λj v σ H2 hv2 z=>?_) (λσ H2 z=>?_)
  .let⟨lvs,o5,o6,o7,o8,o9,rfl,s2,hlg,pl⟩:=z;exact s2 _ _ hb
  .let⟨lvs,o5,o6,o7,o8,o9,rfl,s2,hlg,pl⟩:=z;let⟨y,hy,bt⟩:=Paired.nU pb hv2;have hym:y∈B:=Rz hy;have y4:=hb4 y hym;have ybt:B.take (j+1)=B.take j++[y]:=by rw[Sl,hy];rfl
   let⟨t,p,rfl,ht,hp,hp0⟩:=bt.mono s2;have s12:=s1.trans s2;dsimp only;refine f9 ht rfl ?_
   nofun
   have DA:=s12 _ _ hda;have LA:=s12 _ _ hla;refine kg T DA ⟨_,rfl,?_⟩;refine⟨_,_,rfl,?_⟩
   nofun
   refine iY T DA (fJ LA ⟨_,rfl,kg T DA ⟨_,rfl,?_⟩⟩);rw[dt];refine⟨_,_,rfl,?_⟩
   nofun
   have e7:(if(x.place:Int)-(y.2:Int)>0 then(x.place:Int)-(y.2:Int)else 0)=((x.place-y.2:Nat):Int):=by split<;>omega
   have e8:(if(x.place:Int)+(y.2:Int)<(x.values.length:Int)-1 then(x.place:Int)+(y.2:Int)else(x.values.length:Int)-1)=((min (x.values.length-1) (x.place+y.2):Nat):Int):=by split<;>omega
   rw[e7,e8];clear e7 e8;refine Mo (x.place-y.2) (min (x.values.length-1) (x.place+y.2)+1-(x.place-y.2)) rfl (by omega) (by omega) (Q0 H H1 dl d bg da lg p x (B.take j) y _ _) ⟨lvs,o9,rfl,s2,hlg,by rw[List.range_zero,Vo,RB];exact pl⟩ (λm σ H3 hm z=>?_) (λσ H3 z=>?_)
   .let⟨lvs,o9,rfl,s3,hlg3,pl3⟩:=z;have s13:=s1.trans s3;have hlen:lvs.length<=9*20736+9:=by have h1:=Paired.nS pl3;have h2:=zf ip (b:=B.take j) λz hz=>hb4 z (Zc hz);rw[Sf]at h2;rw[h1,RH,Rr,TM];omega
    dsimp only
    nofun
    have hp3:H3 p=zS (.tup (nL y.1)):=by
     let⟨t',p',e',q1,q2,q3⟩:=bt.mono s3;injection e' with e';subst e';have:p'=p:=by
      have q4:=(bt.mono s3);let⟨_,_,_,_⟩:=q4;have a1:H2 t=zS (.tup [.ref p',.int (y.2:Int)]):=by let⟨t2,p2,e2,r1,r2,r3⟩:=bt;injection e2 with e2;subst e2;have r5:=s3 _ _ r1;rw[q1]at r5;injection r5 with r5;injection r5 with r5;injection r5 with r5 _;injection r5 with r5;subst r5;exact s2 _ _ r1
      rw[ht]at a1;injection a1 with a1;injection a1 with a1;injection a1 with a1 _;injection a1 with a1;exact a1.symm
     subst this;exact q2
    refine⟨f8 hlg3,iy (by simp) λu1 nu1=>?_⟩;have sU:=ah.upd (o:=.tup [V.int ((x.place-y.2+m:Nat):Int)]) nu1;refine Oq (sU _ _ hp3) aa (by rw[jZ];have:=hbn y hym;omega) λH4 u2 s4 hu2 u2n=>?_;have sU4:=sU.trans s4;refine kg T (sU4 _ _ (s13 _ _ hda)) ⟨_,rfl,?_⟩;refine⟨_,rfl,?_⟩
    nofun
    have eap:(y.2:Int)-(if((x.place-y.2+m:Nat):Int)-(x.place:Int)<0 then-(((x.place-y.2+m:Nat):Int)-(x.place:Int))else((x.place-y.2+m:Nat):Int)-(x.place:Int))=((y.2-U3 (x.place-y.2+m) x.place:Nat):Int):=by unfold U3;split<;>omega
    rw[eap];refine iy (by simp) λu3 nu3=>?_;have sU5:=sU4.trans (ah.upd (o:=.tup [V.ref u2,V.int ((y.2-U3 (x.place-y.2+m) x.place:Nat):Int)]) nu3);have hlg5:=sU5 _ _ hlg3;refine yL hlg5 (eu (by omega)) ?_;have u2H:H u2=zN:=by
     obtain e|e:=u2n
     .rw[e];exact s13.free nu1
     .exact s13.free (sU.free e)
    refine⟨lvs++[.ref u3],_,rfl,λc o hc=>?_,aa,?_⟩
    .rw[ab (ay hc nlg)];exact sU5 _ _ (s3 _ _ hc)
    .rw[Uj,Sa,<-Sk];refine Tz (Paired.j9 pl3 λv z hz=>(hz.mono sU5).lst hlg5) ?_;have nB:nL (y.1++[x.place-y.2+m])=nL y.1++[V.int ((x.place-y.2+m:Nat):Int)]:=by simp[nL]
     refine qp.lst hlg5 ⟨u3,u2,rfl,aa,?_,u2H⟩;rw[nB];exact ah.upd nu3 _ _ hu2
   .let⟨lvs,o9,rfl,s3,hlg3,pl3⟩:=z;refine⟨lvs,_,_,_,_,_,rfl,s3,hlg3,?_⟩;rw[ybt,Ev ip];exact pl3
  .let⟨lvs,o5,o6,o7,o8,o9,rfl,s2,hlg,pl⟩:=z;rw[hpl,R9]at pl
   nofun
   refine⟨lg,lvs,_,_,_,_,_,_,_,rfl,s1.trans s2,hlg,?_⟩;rw[estep];exact pl
 .let⟨bg,bvs,o3,o4,o5,o6,o7,o8,o9,rfl,s1,hb,pb⟩:=z;rw[hl,R9]at pb;have hbl:(is.foldl ak.longer [([],d)]).length<=20736:=ak.uY hn hd wr;have hpl:bvs.length=(is.foldl ak.longer [([],d)]).length:=Paired.nS pb;rw[ak.AJ]at k;generalize is.foldl ak.longer [([],d)]=B at pb hbl hpl k
  nofun
  refine⟨bg,rfl,⟨_,cD.of hb⟩,?_⟩
  refine KI (n:=bvs.length) (by omega) (λm o H'=>Paired (λv ps=>∃a,v=V.ref a/\H' a=zS (.tup (nL ps))/\H a=zN) o (ak.ended (B.take m))/\o.length<=m) ⟨.nil,by simp⟩ (λm o H' z=>z.2) (λm o H1 H2 kk z=>⟨Paired.j9 z.1 λ_ _ z=>let⟨a,e,h,h0⟩:=z;⟨a,e,kk _ _ h,h0⟩,z.2⟩) (λm o H' p l l' hp z=>⟨Paired.j9 z.1 λ_ _ z=>let⟨a,e,h,h0⟩:=z;⟨a,e,by rw[ab (aQ h hp (by intro z;cases z))];exact h,h0⟩,z.2⟩)
   (λm H' hm s2=>⟨_,bvs[m],cD.of (s2 _ _ hb),by simp[hm]⟩) (λH' s2=>⟨_,cD.of (s2 _ _ hb),by simp⟩) (λm x o H2 H3 R R0 hm s2 pv y k1 k2=>?_) (λH2 p o s2 np pv hp=>?_)
  .let⟨e,y⟩:=y;subst e;have hx:=y _ (cD.of (s2 _ _ hb));let⟨z,hz,bt⟩:=Paired.nU pb hx;let⟨t,p,rfl,ht,hp,hp0⟩:=bt;have ezt:B.take (m+1)=B.take m++[z]:=by rw[Sl,hz];rfl
   have een:ak.ended (B.take (m+1))=ak.ended (B.take m)++if z.2=0 then [z.1]else []:=by unfold ak.ended;rw[ezt,Ua,Sa];by_cases e:z.2=0<;>simp[e]
   dsimp only[sM];refine f9 (s2 _ _ ht) rfl ?_
   nofun
   by_cases e:z.2=0
   .rw[ag (by omega)];rw[ag e]at een;refine k1 _ _ (ah.refl _) ⟨?_,by rw[RH];have:=pv.2;simp;omega⟩;rw[een];exact Tz pv.1 ⟨p,rfl,s2 _ _ hp,hp0⟩
   .rw[ae (by omega)];rw[ae e,RB]at een;refine k2 _ (ah.refl _) ⟨?_,by have:=pv.2;omega⟩;rw[een];exact pv.1
  .refine k H2 p o (s1.trans s2) (s1.free np) hp ?_;have:=pv.1;rw[hpl,R9]at this;exact this
end
variable{D:Ends}{σ:L2.St}{td ty:TE}
section
variable{G:Ga}{ms ms':List Addr}{H H':Hp}{s s':State}{L L':Lay}{X X':Xt}{vs:List V}{Q:VK}{E:XK}
theorem My{K:Rl}{g:TG}{tb:TS}{a b:Addr}{xs ys:List V}(ha:H a=zS (.lst xs))(hb:H b=zS (.tup ys))(hl:xs.length=ys.length)(Pv:Nat->L2.St->Hp->Prop)(h0:Pv 0 σ H)(hf:∀i σ' H',Pv i σ' H'->H' a=zS (.lst xs)/\H' b=zS (.tup ys))(hs:∀i x y σ' H' T,xs[i]?=zS x->ys[i]?=zS y->Pv i σ' H'->H' T=zN->g (.ref T) σ' (upd H' T (.tup [x,y])) λσ2 H2=>tb {D with nx:=Pv (i+1),ct:=Pv (i+1),bk:=D.nx} σ2 H2)(hd:∀σ' H',Pv xs.length σ' H'->D.nx σ' H'):M0 K [.ref a,.ref b] H λJ H1=>Cp J g tb D σ H1:=by
 refine⟨a,b,xs,ys,rfl,cD.of ha,km.of hb,qJ (n:=xs.length) Pv h0 (λi σ H' hi p=>?_) (λσ H' p=>?_) (λi σ' H' x H2 hi p y=>?_) hd⟩
 .let⟨h1,h2⟩:=hf i σ H' p;exact⟨xs,ys,xs[i],ys[i]'(by omega),cD.of h1,km.of h2,RC hi,RC (by omega)⟩
 .let⟨h1,h2⟩:=hf _ σ H' p;exact⟨xs,ys,cD.of h1,km.of h2,.inl (Ro _)⟩
 .let⟨T,x',y',ex,hT,eH,hx,hy⟩:=y;subst ex eH;let⟨h1,h2⟩:=hf i σ' H' p;exact hs i x' y' σ' H' T (hx _ (cD.of h1)) (hy _ (km.of h2)) p hT
def Ai(ns ps:List Nat):List Int:=(ns.zip ps).flatMap λy=>[(y.1:Int),(y.2:Int)]
def fY(G:Ga):Sp:=λvs H Q _=>∃(d:Nat)(nl pl:Addr)(ns ps:List Nat),vs=[.int (d:Int),.ref nl,.ref pl]/\H nl=zS (.lst (nL ns))/\H pl=zS (.tup (nL ps))/\ns.length=ps.length/\ns.length<=8/\∀H' p,ah H H'->H p=zN->H' p=zS (.lst (iL ((d:Int)::(ns.length:Int)::Ai ns ps)))->Q (.ref p) H'
structure P1(H:Hp)(d:Nat)(nl pl l:Addr)(ns ps:List Nat)(i:Nat)(σ:L2.St)(H':Hp):Prop where
 ex:∃(o4 o5:Option V),σ=[zS (.int (d:Int)),zS (.ref nl),zS (.ref pl),zS (.ref l),o4,o5]/\ah H H'/\H' l=zS (.lst (iL ((d:Int)::(ns.length:Int)::Ai (ns.take i) (ps.take i))))
theorem Ld(ns ps:List Nat)(h:ns.length=ps.length):(Ai ns ps).length=2*ns.length:=by
 unfold Ai
 induction ns generalizing ps with
 |nil=>simp
 |cons a r ih=>
  cases ps with
  |nil=>simp at h
  |cons b q=>
   rw[Zb,SR,RH,ih q (by simpa using h)];simp;omega
theorem IW{ns ps:List Nat}{i a b:Nat}(ha:ns[i]?=zS a)(hb:ps[i]?=zS b):Ai (ns.take (i+1)) (ps.take (i+1))=Ai (ns.take i) (ps.take i)++[(a:Int),(b:Int)]:=by have h1:=(RE.mp ha).1;have h2:=(RE.mp hb).1;rw[Sl,Sl,ha,hb];unfold Ai;rw[List.zip_append (by rw[Sf,Sf];omega),TK];rfl
theorem zg(h:fY G vs H Q E):lh G (ends Q) (start p_ vs) H:=by
 let⟨d,nl,pl,ns,ps,rfl,hnl,hpl,hl,h8,k⟩:=h;show lh G (ends Q) [zS (.int (d:Int)),zS (.ref nl),zS (.ref pl),zN,zN,zN] H;unfold lh
 nofun
 refine fJ hnl ?_;rw[jZ];refine jN (by simp) λl nl'=>?_;have s1:=ah.upd (o:=.lst [V.int (d:Int),V.int (ns.length:Int)]) nl';refine My (s1 _ _ hnl) (s1 _ _ hpl) (by rw[jZ,jZ];exact hl) (P1 H d nl pl l ns ps) ⟨zN,zN,rfl,s1,by rw[aa];simp[Ai]⟩ (λi σ' H' z=>?_) (λi x y σ' H' T' hx hy z nT=>?_) (λσ' H' z=>?_)
 .let⟨o4,o5,rfl,s2,hl2⟩:=z;exact⟨s2 _ _ hnl,s2 _ _ hpl⟩
 .let⟨o4,o5,rfl,s2,hl2⟩:=z;obtain⟨a,ha,rfl⟩:∃a,ns[i]?=zS a/\x=.int (a:Int):=by
   simp only[nL,RW]at hx
   cases e:ns[i]? with
   |none=>rw[e]at hx;cases hx
   |some a=>rw[e]at hx;exact⟨a,rfl,(RA hx).symm⟩
  obtain⟨b,hb,rfl⟩:∃b,ps[i]?=zS b/\y=.int (b:Int):=by
   simp only[nL,RW]at hy
   cases e:ps[i]? with
   |none=>rw[e]at hy;cases hy
   |some a=>rw[e]at hy;exact⟨a,rfl,(RA hy).symm⟩
  have hi:=(RE.mp ha).1;have sT:=ah.upd (o:=.tup [V.int (a:Int),V.int (b:Int)]) nT;refine f9 aa rfl ?_
  nofun
  refine⟨f8 (sT _ _ hl2),iy (by simp) λt nt=>?_⟩;have sT2:=sT.trans (ah.upd (o:=.tup [V.int (a:Int),V.int (b:Int)]) nt);refine vw (sT2 _ _ hl2) aa (fq ?_) ?_
  .rw[dt,RG,RG,Ld _ _ (by rw[Sf,Sf,hl]),Sf];simp;omega
  .refine⟨_,_,rfl,ah.put (s2.trans sT2) nl',?_⟩;rw[aa,IW ha hb];simp[iL]
 .let⟨o4,o5,rfl,s2,hl2⟩:=z;rw[jZ,R9,hl,R9]at hl2
  nofun
  refine k H' l s2 nl' ?_;rw[hl2,hl]
def Full.near'{kn':List ((Int×List Int)×V)}{na':List Addr}(f:Full G ms H s L X)(bt:lw L.pn H H')(hn:H' L.pn=zS (.dN kn'))(c:ah (cut ms H) (cut ms' H'))(up:∀a∈ms,a∈ms')(d:lu ms' H')(nr:Paired (λkv dc=>nW G ms' H' s kv.1 kv.2 dc) kn' na')(nd:(X.pa++na').Nodup)(ds:∀a∈na',a∉eE L)(nm:∀a∈na',a∈ms'):Full G ms' H' s L {X with kn:=kn',na:=na'}:=by
 have b:=f.wh.bk;have pd:∀{a:Addr}{kv:List (Key×V)},H a=zS (.dK kv)->a≠L.pn:=λh=>aQ h f.hn (by intro z;cases z);refine⟨⟨⟨b.wf,d,λa ha=>up a (b.sub a ha),bt _ _ b.nb (aQ b.nb f.hn (by intro z;cases z)),bt _ _ b.hi (pd b.hi),bt _ _ b.hc (pd b.hc),.inl (bt _ _ f.wh.ht (pd f.wh.ht)),b.fi.mono λv i z=>?_,b.hZ.mono λv c' z=>z.mono c,b.i6.mono λv c' z=>z.mono c,b.dd⟩,bt _ _ f.wh.ht (pd f.wh.ht),bt _ _ f.wh.hr (pd f.wh.hr),f.wh.n1,f.wh.n2⟩,λa ha=>?_,f.fx,f.dn,nd,λa ha=>?_,bt _ _ f.hp (pd f.hp),hn,λkk v fK=>?_,f.Jj,f.oU,f.Eo,nr,f.K9⟩
 .let⟨a,dx,l,e,h1,h2⟩:=z;exact⟨a,dx,l,e,bt _ _ h1 (aQ h1 f.hn (by intro z;cases z)),c _ _ h2⟩
 .simp only[bA,Ru]at ha;obtain((h|h)|h)|h:=ha
  .exact up a (f.sub a (by simp[bA,h]))
  .exact up a (f.sub a (by simp only[bA,Ru];exact .inl (.inl (.inr h))))
  .exact up a (f.sub a (by simp only[bA,Ru];exact .inl (.inr h)))
  .exact nm a h
 .obtain q|q:=Ru.mp ha
  .exact f.uO a (Sm _ q)
  .exact ds a q
 .let⟨n,a,l,e1,e2,e3,e4⟩:=f.pre kk v fK;exact⟨n,a,l,e1,e2,bt _ _ e3 (pd e3),e4⟩
def Mz(y x:V)(H:Hp)(Q:VK):Prop:=∃a kvs c k,x=.ref a/\y=.ref c/\H a=zS (.dN kvs)/\oo H c k/\Q (.bl (!(aI kvs k).isSome)) H
def Gb:yi ty td σ H Q=ty σ H λy H1=>td σ H1 λx H2=>Mz y x H2 Q:=rfl
def P2(x y:V)(H:Hp)(Q:VK):Prop:=∃a kvs c k v,x=.ref a/\y=.ref c/\H a=zS (.dN kvs)/\oo H c k/\aI kvs k=zS v/\Q v H
def Ex:Fy td ty σ H Q=td σ H λx H1=>ty σ H1 λy H2=>P2 x y H2 Q:=rfl
def P3(x y v:V)(H:Hp)(R:Hp->Prop):Prop:=∃a kvs c k,x=.ref a/\y=.ref c/\H a=zS (.dN kvs)/\oo H c k/\kvs.length<aac/\R (upd H a (.dN (putK kvs k v)))
def Le{tv:TE}:Fz td ty tv D σ H=tv σ H λv H1=>td σ H1 λx H2=>ty σ H2 λy H3=>P3 x y v H3 λH4=>D.nx σ H4:=rfl
def sX{c:Addr}{k:Int×List Int}(s1:ah H H')(h:oo H c k):oo H' c k:=let⟨b,h1,h2⟩:=h;⟨b,s1 _ _ h1,s1 _ _ h2⟩
abbrev keyOf(d:Nat)(is:List Input):Int×List Int:=((d:Int),is.map λi=>(i.name:Int))
def g8(G:Ga):Sp:=λvs H Q _=>∃ms s L X is d nl,vs=[.ref L.p,.ref nl,.int ((d:Nat):Int)]/\Full G ms H s L X/\cut ms H nl=zS (.lst (nL (is.map (·.name))))/\(∀i∈is,i∈s.inputs)/\(is.map (·.name)).Nodup/\is.length<=8/\d<=4/\X.kn.length<=1000000/\
 ∀H' ms' X' tv dc ck(m:Nat),uF G ms H L X s ms' H' L X'->X'.kn.length<=X.kn.length+1->X'.kn[m]?=zS (keyOf d is,tv)->X'.na[m]?=zS dc->j2 G (cut ms' H') tv (is.map (·.name)) (SA is d) dc->dO G ms' H' s (is.map (·.name)) (SA is d) dc ck->Q tv H'
theorem Bs(w:ak.WF s):∀{is js:List Input},(∀i∈is,i∈s.inputs)->(∀i∈js,i∈s.inputs)->is.map (λi=>(i.name:Int))=js.map (λi=>(i.name:Int))->is=js
 |[],[],_,_,_=>rfl
 |[],_::_,_,_,h=>by simp at h
 |_::_,[],_,_,h=>by simp at h
 |i::is,j::js,hi,hj,h=>by rw[RS,RS]at h;injection h with h1 h2;have e:i=j:=ak.b7 w.zB (hi i Rv) (hj j Rv) (by omega);rw[e,Bs w (λx hx=>hi x (Rp _ hx)) (λx hx=>hj x (Rp _ hx)) h2]
def IX{κ:Type} [DecidableEq κ]{kvs:List (κ×V)}{k:κ}{v:V}(h:aI kvs k=zS v):∃m:Nat,kvs[m]?=zS (k,v):=by
 unfold aI at h
 cases e:kvs.find? λkv=>decide (kv.1=k)with
 |none=>rw[e]at h;cases h
 |some kv=>
  rw[e]at h;have h1:=Uz e;have h2:=Ub e;have e1:kv.1=k:=of_decide_eq_true h1;have e2:kv.2=v:=RA h;let⟨m,hm⟩:=TJ.mp h2;exact⟨m,by rw[hm,<-e1,<-e2]⟩
theorem CP(T:Tc G)(h:g8 G vs H Q E):nQ G (eL G) (gz G) (ends Q) (start nP vs) H:=by
 let⟨ms,s,L,X,is,d,nl,rfl,f,hnl,hin,hnd,h8,h4,hsz,k⟩:=h;show nQ G _ _ (ends Q) [zS (.ref L.p),zS (.ref nl),zS (.int (d:Int)),zN,zN,zN] H;have b:=f.wh.bk;have HNL:=(aj hnl).1;unfold nQ
 nofun
 simp only[Gb,Ex,Le]
 nofun
 refine⟨nl,_,rfl,.inl ⟨cD.of HNL,λl nl1=>iy (by simp) λc nc=>?_⟩⟩;have s1:=ah.upd (o:=.tup (nL (is.map (·.name)))) nl1;have s2:=s1.trans (ah.upd (o:=.tup [V.int (d:Int),V.ref l]) nc);have ka:oo (upd (upd H l (.tup (nL (is.map (·.name))))) c (.tup [V.int (d:Int),V.ref l])) c (keyOf d is):=⟨l,aa,ah.upd nc _ _ (by rw[aa];simp[nL])⟩;generalize(upd (upd H l (.tup (nL (is.map (·.name))))) c (.tup [V.int (d:Int),V.ref l]))=H2 at s2 ka⊢;have f2:=f.same s2;have b2:=f2.wh.bk;refine yM T b2.nb ⟨L.pn,X.kn,c,keyOf d is,rfl,rfl,f2.hn,ka,_,rfl,?_⟩
 cases ev:aI X.kn (keyOf d is)with
 |some tv=>
  rw[ae (by simp)];refine yM T b2.nb ⟨L.pn,X.kn,c,keyOf d is,tv,rfl,rfl,f2.hn,ka,ev,?_⟩;let⟨m,hm⟩:=IX ev;let⟨dc,hdc,nr⟩:=Paired.nU f2.near hm;let⟨d',is',ck,q1,q2,q3,q4,q5,q6⟩:=nr.ex;injection q1 with q1 q7;have e1:d'=d:=by have:(d:Int)=d':=q1;omega
  have e2:is'=is:=Bs b.wf q2 hin q7.symm;subst e1 e2;exact k H2 ms X tv dc ck m (uF.refl f s2) (by omega) hm hdc q5 q6
 |none=>
 rw[ag (by rfl)]
 nofun
 have hsl:(nL (is.map (·.name))).length=is.length:=by simp[nL]
 refine⟨nl,rfl,⟨_,cD.of (s2 _ _ HNL)⟩,?_⟩;refine yK (n:=is.length) (by omega) (λi=>(is.take i).map λj=>(aI L.ki (Rk (j.name:Int))).getD .d7) rfl (λi=>by simp;exact UT _ _) (λi H' hi s3=>⟨_,V.int (is[i].name:Int),cD.of (s3 _ _ (s2 _ _ HNL)),by simp[nL,hi]⟩) (λH' s3=>⟨_,cD.of (s3 _ _ (s2 _ _ HNL)),by simp[nL]⟩) (λi x H1 H' R R0 hi s3 y k1 _=>?_) (λH3 dl s3 ndl hdl=>?_)
 .let⟨e,y⟩:=y;subst e;have hx:=y _ (cD.of (s3 _ _ (s2 _ _ HNL)));have hx2:x=V.int (is[i].name:Int):=by simpa [nL,hi]using hx.symm
  subst hx2;have b3:=b2.same s3;let⟨a,dx,la,q1,q2,q3⟩:=b3.qR (hin is[i] (Va _));dsimp only[sM]
  nofun
  refine bu T b3.nb (fE (.inl b3.hi) q1 (k1 _ _ (ah.refl _) ?_));rw[T1 hi,Sa];simp[q1]
 rw[R9]at hdl;have s23:=s2.trans s3;have f3:=f.same s23;have b3:=f3.wh.bk;have prd:Paired (Lc G H3) (is.map λj=>(aI L.ki (Rk (j.name:Int))).getD .d7) is:=by
  have gen:∀(l:List Input),(∀i∈l,i∈s.inputs)->Paired (Lc G H3) (l.map λj=>(aI L.ki (Rk (j.name:Int))).getD .d7) l:=by
   intro l
   induction l with
   |nil=>intro _;exact .nil
   |cons i r ih=>
    intro hl;let⟨a,dx,la,q1,q2,q3⟩:=b3.qR (hl i Rv);refine .cons ?_ (ih λj hj=>hl j (Rp _ hj));dsimp only;rw[q1];exact⟨a,dx,la,rfl,q2,(aj q3).1⟩
  exact gen is hin
 refine⟨dl,d,_,is,rfl,hdl,prd,λi hi=>b.wf.fi i (hin i hi),h8,h4,λH4 st svs s4 nst hst prs=>?_⟩;have s24:=s23.trans s4;refine G5 λH5 x tdx dc s5 nx ndc hdc hx nxd=>?_;have s25:=s24.trans s5;have f5:=f.same s25;have b5:=f5.wh.bk;have ka5:=sX s5 (sX s4 (sX s3 ka));have dcH:H dc=zN:=s24.free ndc;have xH:H x=zN:=s24.free nx;refine yM T b5.nb ⟨L.pn,X.kn,c,keyOf d is,rfl,rfl,f5.hn,ka5,eu (by omega),?_⟩;rw[iK _ ev];have dcpn:dc≠L.pn:=λe=>by rw[e,f.hn]at dcH;cases dcH
 have xpn:x≠L.pn:=λe=>by rw[e,f.hn]at xH;cases xH
 have bt5:lw L.pn H5 (upd H5 L.pn (.dN (X.kn++[(keyOf d is,V.ref x)]))):=λa o h n=>by rw[ab n];exact h
 have hn6:(upd H5 L.pn (.dN (X.kn++[(keyOf d is,V.ref x)]))) L.pn=zS (.dN (X.kn++[(keyOf d is,V.ref x)])):=aa;have ka6:oo (upd H5 L.pn (.dN (X.kn++[(keyOf d is,V.ref x)]))) c (keyOf d is):=by let⟨bb,h1,h2⟩:=ka5;exact⟨bb,bt5 _ _ h1 (aQ h1 f5.hn (by intro z;cases z)),bt5 _ _ h2 (aQ h2 f5.hn (by intro z;cases z))⟩
 generalize upd H5 L.pn (.dN (X.kn++[(keyOf d is,V.ref x)]))=H6 at bt5 hn6 ka6⊢;have bt:lw L.pn H H6:=(lw.of s25).trans bt5;have pnm:L.pn∈ms:=f.sub _ (by simp[bA]);have cc:ah (cut ms H) (cut (dc::ms) H6):=λa o h=>by
  let⟨h1,h2⟩:=aj h;refine cS (bt a o h1 λe=>h2 (by rw[e];exact pnm)) λq=>?_;obtain q|q:=Rn.mp q
  .rw[q,dcH]at h1;cases h1
  .exact h2 q
 have hdc6:=bt5 _ _ hdc dcpn;have f1:∀{b':Addr}{o:HO},H b'=zN->(∀kv,o≠.dK kv)->H5 b'=zS o->cut (dc::ms) H6 b'=zS o:=λhb no e=>cS (bt5 _ _ e λq=>by rw[q,f.hn]at hb;cases hb) λq=>by
  obtain q|q:=Rn.mp q
  .rw[q,hdc]at e;exact no _ (RA e).symm
  .exact b.dm.free hb q
 have ts:j2 G (cut (dc::ms) H6) (.ref x) (is.map (·.name)) (SA is d) dc:=by refine⟨x,tdx,nl,st,svs,rfl,f1 xH (by intro kv z;cases z) hx,cc _ _ hnl,f1 (s23.free nst) (by intro kv z;cases z) (s5 _ _ hst),Paired.j9 prs λv ps z=>?_⟩;let⟨a,e,h,h0⟩:=z;exact⟨a,e,f1 (s23.free h0) (by intro kv z;cases z) (s5 _ _ h)⟩
 have dm6:lu (dc::ms) H6:=(bt.Mu hn6 b.dm).cons hdc6;have dno:dc∉bA L X:=λh=>b.dm.free dcH (f.sub _ h);have nr:Paired (λkv dc'=>nW G (dc::ms) H6 s kv.1 kv.2 dc') (X.kn++[(keyOf d is,V.ref x)]) (X.na++[dc]):=by refine Tz (Paired.mapR f.near λkv dc' _ hd z=>z.go (λo h=>?_) cc) ⟨d,is,[],rfl,hin,hnd,h4,ts,dO.start hdc6⟩;let⟨_,_,ck',_,_,_,_,_,q6⟩:=z.ex;exact bt _ _ h (aQ q6.hd f.hn (by intro z;cases z))
 have ff:=f.near' bt hn6 cc (λa h=>Rp _ h) dm6 nr (by
   rw[<-Sk];exact ak.ja f.F6 λh=>dno (by obtain q|q:=Ru.mp h<;>simp[bA,q])) (λa ha=>by
   obtain q|q:=Ru.mp ha
   .exact f.uO a (SD _ q)
   .rw[Sb.mp q];intro hm;exact dno (by simp only[eE,Rn,Sj,or_false]at hm;obtain h|h|h|h|h:=hm<;>simp[bA,Lay.own,h])) (λa ha=>by
   obtain q|q:=Ru.mp ha
   .exact Rp _ (f.sub _ (by simp[bA,q]))
   .rw[Sb.mp q];exact Rv)
 have stp:uF G ms H L X s (dc::ms) H6 L {X with kn:=X.kn++[(keyOf d is,V.ref x)],na:=X.na++[dc]}:=by
  refine⟨ff,λa o h n=>bt a o h λe=>n (by rw[e];simp[bA]),rfl,λa h=>Rp _ h,λa ha=>?_,λa ha=>?_,by simp⟩
  .obtain q|q:=Rn.mp ha
   .exact .inr (by rw[q];exact dcH)
   .exact .inl q
  .simp only[bA,Ru,Sb]at ha⊢;obtain((h|h)|h)|(h|h):=ha
   .exact .inl (.inl (.inl (.inl h)))
   .exact .inl (.inl (.inl (.inr h)))
   .exact .inl (.inl (.inr h))
   .exact .inl (.inr h)
   .exact .inr (by rw[h];exact dcH)
 have hkl:X.kn.length=X.na.length:=Paired.nS f.near;simp only[Ex]
 nofun
 refine yM T ff.wh.bk.nb ⟨L.pn,_,c,keyOf d is,.ref x,rfl,rfl,hn6,ka6,?_,?_⟩
 .rw[<-iK (V.ref x) ev,fU,ag rfl]
 .exact k H6 (dc::ms) _ (.ref x) dc [] X.kn.length stp (by simp) (by simp) (by rw[hkl];simp) ts (dO.start hdc6)
end
variable{f:Formula}{is:List Input}{d v:Nat}
section
variable{G:Ga}{ms ms1 ms2 ms':List Addr}{H H1 H2 H':Hp}{s s1 s2 s':State}{L L1 M2 L':Lay}{X X1 X2 X':Xt}{vs:List V}{Q:VK}{E:XK}
def uF.trans(f:Full G ms H s L X)(a:uF G ms H L X s1 ms1 H1 L1 X1)(b:uF G ms1 H1 L1 X1 s2 ms2 H2 M2 X2)(sz:X2.kn.length<=X.kn.length+5):uF G ms H L X s2 ms2 H2 M2 X2 where
 full:=b.full
 keep:=λc o h n=>b.keep c o (a.keep c o h n) λm=>by
  obtain q|q:=a.own c m
  .exact n q
  .rw[h]at q;cases q
 p:=by rw[b.p,a.p]
 up:=λc h=>b.up c (a.up c h)
 new:=λc h=>by
  obtain q|q:=b.new c h
  .exact a.new c q
  .cases e:H c with
   |none=>exact .inr rfl
   |some o=>
    by_cases m:c∈bA L X
    .exact .inl (f.sub c m)
    .rw[a.keep c o e m]at q;cases q
 own:=λc h=>by
  obtain q|q:=b.own c h
  .exact a.own c q
  .cases e:H c with
   |none=>exact .inr rfl
   |some o=>
    by_cases m:c∈bA L X
    .exact .inl m
    .rw[a.keep c o e m]at q;cases q
 sz:=sz
def Full.P4{m:Nat}{k:Int×List Int}{v:V}{dc:Addr}{o:HO}(f:Full G ms H s L X)(hk:X.kn[m]?=zS (k,v))(hd:X.na[m]?=zS dc)(bt:lw dc H H')(ho:H' dc=zS o)(nr:nW G ms H' s k v dc):uF G ms H L X s ms H' L X:=by
 have b:=f.wh.bk;have hdm:dc∈X.na:=Rz hd;have dcm:dc∈ms:=f.sub _ (by simp[bA,hdm]);let⟨dd,is,ck,q1,q2,q3,q4,q5,q6⟩:=(Paired.Fw f.near hk hd).ex;have hdk:=q6.hd;have c:=bt.cut dcm;have n5:∀a∈eE L,a≠dc:=λa ha e=>f.uO dc (SD _ hdm) (by rw[<-e];exact ha);have npa:dc∉X.pa:=λh=>(Ss.mp f.F6).2.2 dc h dc hdm rfl;have ht:=bt _ _ f.wh.ht (n5 _ (by simp[eE]));have nd:=(Ss.mp f.F6).2.1;refine⟨⟨⟨⟨b.wf,bt.Mu ho b.dm,b.sub,bt _ _ b.nb (aQ b.nb hdk (by intro z;cases z)),bt _ _ b.hi (n5 _ (by simp[eE])),bt _ _ b.hc (n5 _ (by simp[eE])),.inl ht,b.fi.mono λv i z=>?_,b.hZ.mono λv c' z=>z.mono c,b.i6.mono λv c' z=>z.mono c,b.dd⟩,ht,bt _ _ f.wh.hr (n5 _ (by simp[eE])),f.wh.n1,f.wh.n2⟩,f.sub,f.fx,f.dn,f.F6,f.uO,bt _ _ f.hp (n5 _ (by simp[eE])),bt _ _ f.hn (aQ f.hn hdk (by intro z;cases z)),λkk v fK=>?_,f.Jj,f.oU,f.Eo,?_,f.K9⟩,λa o h n=>bt a o h λe=>n (by rw[e];simp[bA,hdm]),rfl,λ_ h=>h,λ_ h=>.inl h,λ_ h=>.inl h,Su _ _⟩
 .let⟨a,dx,l,e,h1,h2⟩:=z;exact⟨a,dx,l,e,bt _ _ h1 (aQ h1 hdk (by intro z;cases z)),c _ _ h2⟩
 .let⟨n,a,l,e1,e2,e3,e4⟩:=f.pre kk v fK;subst e2;exact⟨n,a,l,e1,rfl,bt _ _ e3 λe=>npa (by rw[<-e];exact f.oy fK),e4⟩
 .have gen:∀{kn:List ((Int×List Int)×V)}{na:List Addr}{m:Nat},Paired (λkv dc=>nW G ms H s kv.1 kv.2 dc) kn na->na.Nodup->kn[m]?=zS (k,v)->na[m]?=zS dc->Paired (λkv dc=>nW G ms H' s kv.1 kv.2 dc) kn na:=by
   intro kn na m pr
   induction pr generalizing m with
   |nil=>intro _ h _;simp at h
   | @cons kv d' kn na z prest ih=>
    intro nd h1 h2;have nd':=RK.mp nd
    cases m with
    |zero=>
     simp at h1 h2;subst h1 h2;refine .cons nr (Paired.mapR prest λkv dc' _ hd' z'=>z'.go (λo h=>bt _ _ h λe=>nd'.1 (by rw[<-e];exact hd')) c)
    |succ m=>
     simp at h1 h2;have hne:d'≠dc:=λe=>nd'.1 (by rw[e];exact Rz h2);exact .cons (z.go (λo h=>bt _ _ h hne) c) (ih nd'.2 h1 h2)
  exact gen f.near nd hk hd
def fZ(G:Ga):Sp:=λvs H Q _=>∃n v ms s L X,vs=[.ref L.p,.int n,.int v]/\Full G ms H s L X/\X.kn.length<=100000/\After G ms H L X (RP s (.nearest n v)) Q
structure P6(G:Ga)(ms:List Addr)(H:Hp)(s:State)(L:Lay)(X:Xt)(n v:Int)(is:List Input)(f:Formula)(nl:Addr)(d:Nat)(σ:L2.St)(H':Hp):Prop where
 ex:∃(ms1:List Addr)(X1:Xt)(o4 o5 o6:Option V),σ=[zS (.ref L.p),zS (.int n),zS (.int v),zS (.ref nl),o4,o5,o6]/\uF G ms H L X s ms1 H' L X1/\X1.kn.length<=X.kn.length+d/\cut ms1 H' nl=zS (.lst (nL (is.map (·.name))))/\∀d'<d,TF s is f v.toNat d'=zN
theorem uI(w:ak.WF s)(xs:List Nat):∃is:List Input,(S_ s xs).filterMap (λx=>Xj s x)=is/\is.map (·.name)=S_ s xs/\(∀i∈is,i∈s.inputs)/\(is.map (·.name)).Nodup/\is.length<=8:=by
 have hn:(S_ s xs).Nodup:=by unfold S_ Xf;exact w.zB.sublist UB
 have hsub:∀x∈S_ s xs,x∈s.inputs.map (·.name):=λx hx=>by unfold S_ Xf at hx;exact(Sn.mp hx).1
 have hl:=mP w xs;generalize S_ s xs=l at hn hsub hl;have gen:∀(l:List Nat),(∀x∈l,x∈s.inputs.map (·.name))->(l.filterMap λx=>Xj s x).map (·.name)=l/\∀i∈l.filterMap (λx=>Xj s x),i∈s.inputs:=by
  intro l
  induction l with
  |nil=>intro _;exact⟨rfl,λi h=>by simp at h⟩
  |cons x r ih=>
   intro h;let⟨i1,i2⟩:=ih λy hy=>h y (Rp _ hy);have:=ak.gK.mpr (h x Rv);let⟨i,e⟩:=VR.mp this;let⟨h1,h2⟩:=ak.oV e;rw[Vh,e];refine⟨by rw[RS,i1,h2],λj hj=>?_⟩;obtain q|q:=Rn.mp hj
   .rw[q];exact h1
   .exact i2 j q
 let⟨g1,g2⟩:=gen l hsub;refine⟨_,rfl,g1,g2,by rw[g1];exact hn,?_⟩;have:=congrArg UI g1;rw[Rr]at this;omega
def G8(s:State)(is:List Input)(f:Formula)(v d:Nat):TF s is f v d=(SA is d).find? λps=>Vt (RX (ak.r_ s (is.map (·.name)) ps) f)==v:=by unfold TF Vanbkj.verdictAt;congr 1;funext ps;rw[ak.zD];rfl
theorem zh{α:Type}{p:α->Bool}:∀{l:List α}{j:Nat}{x:α},l[j]?=zS x->p x=true->(∀m,m<j->∀y,l[m]?=zS y->p y=false)->l.find? p=zS x
 |[],j,x,h,_,_=>by simp at h
 |a::r,0,x,h,hp,_=>by simp at h;subst h;exact Us hp
 |a::r,j+1,x,h,hp,hb=>by have:=hb 0 (by omega) a rfl;rw[T5 (by rw[this];decide)];exact zh (by simpa using h) hp λm hm y hy=>hb (m+1) (by omega) y (by simpa using hy)
theorem IY(w:ak.WF s)(hin:∀i∈is,i∈s.inputs)(hnd:(is.map (·.name)).Nodup)(h8:is.length<=8)(h4:d<=4)(hp:0<(SA is d).length):j3 s (is.map (·.name)) (SA is d)where
 nd:=hnd
 len:=λps h=>by rw[ak.sh is d ps h,Rr]
 lt:=λps h j i p hi hj hp=>by
  rw[RW]at hj
  cases e:is[j]? with
  |none=>rw[e]at hj;cases hj
  |some i'=>
   rw[e]at hj;have e2:i'.name=i.name:=RA hj;have:i'=i:=ak.b7 w.zB (hin i' (Rz e)) hi e2;subst this;exact ak.AK is d ps h j i' p e hp
 pos:=hp
 top:=by have:=ak.E9 h8 h4 λi hi=>(w.fi i (hin i hi)).wr;omega
def CQ{ps:List Nat}(hd:d<=4)(h:TF s is f v d=zS ps)(hb:∀d'<d,TF s is f v d'=zN):Wn s is f v=zS (d,ps):=by
 unfold Wn;have e:RM (Vanbkj.REACH+1)=RM d++(d::(Tt (d+1) (4-d))):=by
  show RM 5=_
  match d,hd with
  |0,_=>rfl
  |1,_=>rfl
  |2,_=>rfl
  |3,_=>rfl
  |4,_=>rfl
 rw[e,List.findSome?_append,List.findSome?_cons,h];have:(RM d).findSome? (λd=>(TF s is f v d).map λps=>(d,ps))=zN:=by rw[Zd];intro x hx;rw[hb x (S7.mp hx)];rfl
 rw[this];rfl
def CS(hb:∀d'<5,TF s is f v d'=zN):Wn s is f v=zN:=by unfold Wn;rw[Zd];intro x hx;rw[hb x (S7.mp hx)];rfl
theorem zi(T:Tc G)(h:fZ G vs H Q E):lf G (g8 G) (cV G) (fY G) (aX G) (ends Q) (start p9 vs) H:=by
 let⟨n,v,ms,s,L,X,rfl,f,hsz,k⟩:=h;show lf G _ _ _ _ (ends Q) [zS (.ref L.p),zS (.int n),zS (.int v),zN,zN,zN,zN] H;have b:=f.wh.bk;have es:RP s (.nearest n v)=(s,Sq s n λf=>Xk s f v):=rfl;rw[es]at k;unfold Sq at k;unfold lf
 nofun
 refine dU T b.nb (cN b.ht ⟨_,rfl,?_⟩);obtain⟨g1,g2,_⟩|⟨fv,c,g1,g2,fa,hc,rfl⟩:=b.test n
 .rw[g1,ag (by decide)];exact k.i7 f (by rw[g2])
 rw[g1,ae (by simp)];rw[g2]at k;dsimp only at k;unfold Xk at k;have wi:Tn v 0 2=true<->0<=v/\v<=2:=by unfold Tn;rw[SH,decide_eq_true_eq,decide_eq_true_eq]
 by_cases c1:0<=v/\v<=2
 case neg=>
  have hit:qX [.int (-17)] H Q:=k.i7 f (by rw[ag (by cases e:Tn v 0 2 with|false=>rfl|true=>exact absurd (wi.mp e) c1)]);by_cases c2:0<=v
  .rw[ag c2,ag (by omega)];exact hit
  .rw[ae c2];exact hit
 rw[ag c1.1,ae (by omega)];rw[ae (by rw[wi.mpr c1];decide)]at k;dsimp only at k;let⟨is,ei,en,hin,hnd,h8⟩:=uI b.wf (Ry c.2);rw[ei]at k;refine dU T b.nb (fE b.ht g1 ?_);refine⟨ms,s,L,fv,c.2,rfl,b,fa,ak.lC b.wf hc,λH1 nl s1 nnl hnl=>?_⟩;rw[<-en]at hnl;have f1:=f.same s1;obtain⟨vn,rfl⟩:∃vn:Nat,v=vn:=⟨v.toNat,by omega⟩;rw[Sg]at k
 nofun
 have k1:=k.from s1
 clear k;refine G2 5 rfl (by omega) (P6 G ms H1 s L X c.1 vn is c.2 nl) ⟨ms,X,zN,zN,zN,rfl,uF.refl f1 (ah.refl _),by omega,cS hnl (b.dm.free nnl),λd' h=>by omega⟩ (λd σ H2 hd z=>?_) (λσ H2 z=>?_)
 .let⟨ms1,X1,o4,o5,o6,rfl,st,hsz1,hnl1,hno⟩:=z;rw[Sg]at hno;dsimp only
  nofun
  refine⟨ms1,s,L,X1,is,d,nl,rfl,st.full,hnl1,hin,hnd,h8,by omega,by omega,λH3 ms2 X2 tv dc ck m st2 hsz2 hkn hna ts tr=>?_⟩;have st12:=uF.trans f1 st st2 (by omega);have hnl2:cut ms2 H3 nl=zS (.lst (nL (is.map (·.name)))):=by
   let⟨q1,q2⟩:=aj hnl1;refine cS (st2.keep _ _ q1 λh=>q2 (st.full.sub _ h)) λh=>?_;obtain q|q:=st2.new _ h
   .exact q2 q
   .rw[q1]at q;cases q
  have f3:=st2.full
  nofun
  have ts0:=ts;let⟨t,tdx,n',sl,svs,rfl,ht,hn',hst,pr⟩:=ts;refine jm T (aj ht).1 (fJ (aj hst).1 ⟨_,rfl,?_⟩);have hsl:svs.length=(SA is d).length:=Paired.nS pr;by_cases hp:0<(SA is d).length
  .rw[ag (by omega)];have so:=IY (d:=d) b.wf hin hnd h8 (by omega) hp;have hdm:dc∈X2.na:=Rz hna;have dcm:dc∈ms2:=f3.sub _ (by simp[bA,hdm]);have dco:dc∉L.own:=λh=>by
    have h5:dc∉eE L:=f3.uO dc (SD _ hdm);simp only[Lay.own,Rn]at h;obtain e|e|e|e|e:=h
    .have:=tr.hd;rw[e,f3.wh.bk.nb]at this;cases this
    .exact h5 (by simp[eE,e])
    .exact h5 (by simp[eE,e])
    .exact h5 (by simp[eE,e])
    .let⟨dx,l,i,h2,_⟩:=f3.wh.bk.sR e;rw[tr.hd]at h2;cases h2
   refine⟨ms2,s,L,.ref t,c,is.map (·.name),SA is d,dc,ck,rfl,f3.wh.bk,ts0,dcm,dco,tr,so,hc,λH4 p ck4 bt tr4 np hp4=>?_⟩;have ts4:=ts0.mono (bt.cut dcm);have st3:uF G ms2 H3 L X2 s ms2 H4 L X2:=f3.P4 hkn hna bt tr4.hd ⟨d,is,ck4,rfl,hin,hnd,by omega,ts4,tr4⟩;have st13:=uF.trans f1 st12 st3 (by omega);have hnl3:cut ms2 H4 nl=zS (.lst (nL (is.map (·.name)))):=bt.cut dcm _ _ hnl2;rw[Bl]at hp4
   nofun
   refine QT hp4 ⟨_,rfl,?_⟩;obtain⟨e1,e2⟩|⟨j,fj,e1,e2⟩:=mj (l:=(M8 s (is.map (·.name)) (SA is d) c.2).map λ(n:Nat)=>(n:Int)) (v:=(vn:Int))
   .rw[ae (by simpa using e2)];refine⟨ms2,X2,_,_,_,rfl,st13,by omega,hnl3,λd' hd'=>?_⟩;rw[Sg];by_cases q:d'=d
    .subst q;rw[G8,S5];intro ps hps q;refine e2 (Rm.mpr ⟨vn,Rm.mpr ⟨ps,hps,by simpa using q⟩,rfl⟩)
    .exact hno d' (by omega)
   .rw[ag (by simpa using e2)];have hj:j<(SA is d).length:=by have:=(RE.mp fj.at').1;simpa [M8]using this
    have hps:(SA is d)[j]?=zS (SA is d)[j]:=RC hj;generalize hpsd:(SA is d)[j]=ps at hps;have fnd:TF s is c.2 vn d=zS ps:=by
     rw[G8];refine zh hps ?_ λm' hm' y hy=>?_
     .have:=fj.at';simp only[M8,RV,RW,hps,SN]at this;have e3:=RA this;simp only[Function.comp]at e3;simp only[beq_iff_eq];omega
     .have:=fj.no m' hm';simp only[M8,RV,RW,hy,SN]at this;rw[beq_eq_false_iff_ne];intro q;refine this ?_;simp only[Function.comp];rw[q]
    let⟨t4,tdx4,n4,sl4,svs4,et4,ht4,hn4,hst4,pr4⟩:=ts4;injection et4 with et4;subst et4;have hsl4:svs4.length=(SA is d).length:=Paired.nS pr4;refine jm T (aj ht4).1 ⟨f8 hp4,uD hp4 fj ?_⟩;have hsv:svs4[j]?=zS (svs4[j]'(by omega)):=RC (by omega);let⟨pa,epa,hpa⟩:=Paired.Fw pr4 hsv hps;rw[epa]at hsv;refine eN j rfl (aj hst4).1 hsv ?_;refine⟨d,nl,pa,is.map (·.name),ps,rfl,(aj hnl3).1,(aj hpa).1,by rw[ak.sh is d ps (Rz hps),Rr],by rw[Rr];exact h8,λH5 q s5 nq hq=>?_⟩;have st14:=uF.trans f1 st13 (uF.refl st3.full s5) (by omega);have nqH:H1 q=zN:=by
     cases e:H1 q with
     |none=>rfl
     |some o=>
      by_cases mm:q∈bA L X
      .let⟨o',ho'⟩:=st3.full.wh.bk.dm q (st12.up _ (f1.sub _ mm));rw[ho']at nq;cases nq
      .rw[st13.keep q o e mm]at nq;cases nq
    refine k1 H5 q ms2 L X2 st14 nqH ?_;rw[hq];dsimp only;rw[CQ (by omega) fnd hno];have ez:Ai (is.map (·.name)) ps=(is.zip ps).flatMap λy=>[RY y.1.name,RY y.2]:=by unfold Ai;rw[XE,XJ];rfl
    rw[ez,Rr];rfl
  .rw[ae (by omega)];refine⟨ms2,X2,_,_,_,rfl,st12,by omega,hnl2,λd' hd'=>?_⟩;rw[Sg];by_cases q:d'=d
   .subst q;unfold TF;have e0:SA is d'=[]:=V7.mp (by omega);rw[e0];rfl
   .exact hno d' (by omega)
 .let⟨ms1,X1,o4,o5,o6,rfl,st,hsz1,hnl1,hno⟩:=z;rw[Sg]at hno
  nofun
  refine iA λq nq=>?_;have st2:=uF.trans f1 st (uF.refl st.full (ah.upd (o:=.lst [V.int (-18)]) nq)) (by omega);have nqH:H1 q=zN:=by
   cases e:H1 q with
   |none=>rfl
   |some o=>
    by_cases mm:q∈bA L X
    .let⟨o',ho'⟩:=st.full.wh.bk.dm q (st.up _ (f1.sub _ mm));rw[ho']at nq;cases nq
    .rw[st.keep q o e mm]at nq;cases nq
  refine k1 _ q ms1 L X1 st2 nqH ?_;rw[aa,CS hno];rfl
end
section
variable{G:Ga}{ms ms':List Addr}{H H':Hp}{s s':State}{L L':Lay}{X X':Xt}{vs:List V}{Q:VK}{E:XK}
structure uJ(G:Ga)(c:Sz)(ms:List Addr)(H:Hp)(s:State)(L:Lay)(X:Xt)(wa ra:Addr):Prop where
 full:Full G ms H s L X
 ask:ak.AD c
 wh:H wa=zS (.lst (iL (ak.dI c)))
 ro:∀r,ak.row c=zS r->cut ms H ra=zS (.lst (iL r))
 sz:X.kn.length<=100000
 nr:ak.num c<=10->X.kn=[]/\X.na=[]
def tells_of{c:Sz}{args:List V}(f:Full G ms H s L X)(e:RP s c=(s,T7 s c))(k:After G ms H L X (RP s c) Q):Tells G c args (.ref L.p::args) H Q E:=
 ⟨ms,s,L,rfl,f.wh,λH' p s1 np hp=>k H' p ms L X (by rw[e];exact uF.refl f s1) np (by rw[e];exact hp)⟩
def dk(G:Ga):Sp:=λvs H Q _=>∃c ms s L X wa ra,vs=[.ref L.p,.int (ak.num c),.ref wa,.ref ra]/\uJ G c ms H s L X wa ra/\(ak.num c<=6)/\After G ms H L X (RP s c) Q
def sY(h:dk G vs H Q E):aM G (jJ G) (g9 G) (g_ G) (gA G) (iR G) (iS G) (jK G) (ends Q) (start li vs) H:=by
 let⟨c,ms,s,L,X,wa,ra,rfl,⟨f,ask,wh,ro,sz,nr⟩,hc,k⟩:=h
 cases c with
 |slider x l h d v=>
  show aM G _ _ _ _ _ _ _ (ends Q) [zS (.ref L.p),zS (.int 0),zS (.ref wa),zS (.ref ra)] H;unfold aM
  nofun
  refine eN 0 rfl wh (v:=.int x) rfl ?_;refine eN 1 rfl wh (v:=.int l) rfl ?_;refine eN 2 rfl wh (v:=.int h) rfl ?_;refine eN 3 rfl wh (v:=.int d) rfl ?_;refine eN 4 rfl wh (v:=.int v) rfl ?_;have h1:=ask.wh d (by simp[ak.dI]);exact⟨x,l,h,d,v,ms,s,L,X,rfl,f,(nr (by simp[ak.num])).1,(nr (by simp[ak.num])).2,h1.1,h1.2,k⟩
 |choice x p r=>
  show aM G _ _ _ _ _ _ _ (ends Q) [zS (.ref L.p),zS (.int 1),zS (.ref wa),zS (.ref ra)] H;unfold aM
  nofun
  rw[ae (by decide)];refine eN 0 rfl wh (v:=.int x) rfl ?_;refine eN 1 rfl wh (v:=.int p) rfl ?_;exact⟨x,p,r,ms,s,L,X,ra,rfl,f,(nr (by simp[ak.num])).1,(nr (by simp[ak.num])).2,ro r rfl,(ask.ro r rfl).1,k⟩
 |cell x r=>
  show aM G _ _ _ _ _ _ _ (ends Q) [zS (.ref L.p),zS (.int 2),zS (.ref wa),zS (.ref ra)] H;unfold aM
  nofun
  rw[ae (by decide),ae (by decide)];refine eN 0 rfl wh (v:=.int x) rfl ?_;exact⟨x,r,ms,s,L,X,ra,rfl,f,(nr (by simp[ak.num])).1,(nr (by simp[ak.num])).2,(aj (ro r rfl)).1,k⟩
 |change x r=>
  show aM G _ _ _ _ _ _ _ (ends Q) [zS (.ref L.p),zS (.int 3),zS (.ref wa),zS (.ref ra)] H;unfold aM
  nofun
  rw[ae (by decide),ae (by decide),ae (by decide)];refine eN 0 rfl wh (v:=.int x) rfl ?_;exact⟨x,r,ms,s,L,X,ra,rfl,f,(nr (by simp[ak.num])).1,(nr (by simp[ak.num])).2,(aj (ro r rfl)).1,k⟩
 |test n r=>
  show aM G _ _ _ _ _ _ _ (ends Q) [zS (.ref L.p),zS (.int 4),zS (.ref wa),zS (.ref ra)] H;unfold aM
  nofun
  rw[ae (by decide),ae (by decide),ae (by decide),ae (by decide)];refine eN 0 rfl wh (v:=.int n) rfl ?_;exact⟨n,r,ms,s,L,X,ra,rfl,f,(nr (by simp[ak.num])).1,(nr (by simp[ak.num])).2,(aj (ro r rfl)).1,k⟩
 |drop x=>
  show aM G _ _ _ _ _ _ _ (ends Q) [zS (.ref L.p),zS (.int 5),zS (.ref wa),zS (.ref ra)] H;unfold aM
  nofun
  rw[ae (by decide),ae (by decide),ae (by decide),ae (by decide),ae (by decide)];refine eN 0 rfl wh (v:=.int x) rfl ?_;exact⟨x,ms,s,L,X,rfl,f,(nr (by simp[ak.num])).1,(nr (by simp[ak.num])).2,k⟩
 |dropTest n=>
  show aM G _ _ _ _ _ _ _ (ends Q) [zS (.ref L.p),zS (.int 6),zS (.ref wa),zS (.ref ra)] H;unfold aM
  nofun
  rw[ae (by decide),ae (by decide),ae (by decide),ae (by decide),ae (by decide),ae (by decide)];refine eN 0 rfl wh (v:=.int n) rfl ?_;exact⟨n,ms,s,L,X,rfl,f,(nr (by simp[ak.num])).1,(nr (by simp[ak.num])).2,k⟩
 |turn _ _=>simp[ak.num]at hc
 |set _ _=>simp[ak.num]at hc
 |keep _=>simp[ak.num]at hc
 |recall _=>simp[ak.num]at hc
 |value _=>simp[ak.num]at hc
 |verdict _=>simp[ak.num]at hc
 |verdicts=>simp[ak.num]at hc
 |rests _=>simp[ak.num]at hc
 |testRests _=>simp[ak.num]at hc
 |inputs=>simp[ak.num]at hc
 |sweep _ _=>simp[ak.num]at hc
 |edge _ _ _=>simp[ak.num]at hc
 |grid _ _ _=>simp[ak.num]at hc
 |nearest _ _=>simp[ak.num]at hc
 |inline _=>simp[ak.num]at hc
 |mark=>simp[ak.num]at hc
 |news=>simp[ak.num]at hc
def cG(G:Ga):Sp:=λvs H Q _=>∃c ms s L X wa ra,vs=[.ref L.p,.int (ak.num c),.ref wa]/\uJ G c ms H s L X wa ra/\(7<=ak.num c/\ak.num c<=11)/\After G ms H L X (RP s c) Q
def qr(h:cG G vs H Q E):aY G (gB G) (fA G) (iT G) (hC G) (hJ G) (ends Q) (start jL vs) H:=by
 let⟨c,ms,s,L,X,wa,ra,rfl,⟨f,ask,wh,ro,sz,nr⟩,hc,k⟩:=h
 cases c with
 |turn x t=>
  show aY G _ _ _ _ _ (ends Q) [zS (.ref L.p),zS (.int 7),zS (.ref wa)] H;unfold aY
  nofun
  refine eN 0 rfl wh (v:=.int x) rfl ?_;refine eN 1 rfl wh (v:=.int t) rfl ?_;exact⟨x,t,ms,s,L,X,rfl,f,(nr (by simp[ak.num])).1,(nr (by simp[ak.num])).2,k⟩
 |set x t=>
  show aY G _ _ _ _ _ (ends Q) [zS (.ref L.p),zS (.int 8),zS (.ref wa)] H;unfold aY
  nofun
  rw[ae (by decide)];refine eN 0 rfl wh (v:=.int x) rfl ?_;refine eN 1 rfl wh (v:=.int t) rfl ?_;exact⟨x,t,ms,s,L,X,rfl,f,(nr (by simp[ak.num])).1,(nr (by simp[ak.num])).2,k⟩
 |keep p=>
  show aY G _ _ _ _ _ (ends Q) [zS (.ref L.p),zS (.int 9),zS (.ref wa)] H;unfold aY
  nofun
  rw[ae (by decide),ae (by decide)];refine eN 0 rfl wh (v:=.int p) rfl ?_;exact⟨p,ms,s,L,X,rfl,f,(nr (by simp[ak.num])).1,(nr (by simp[ak.num])).2,k⟩
 |recall p=>
  show aY G _ _ _ _ _ (ends Q) [zS (.ref L.p),zS (.int 10),zS (.ref wa)] H;unfold aY
  nofun
  rw[ae (by decide),ae (by decide),ae (by decide)];refine eN 0 rfl wh (v:=.int p) rfl ?_;exact⟨p,ms,s,L,X,rfl,f,(nr (by simp[ak.num])).1,(nr (by simp[ak.num])).2,k⟩
 |value x=>
  show aY G _ _ _ _ _ (ends Q) [zS (.ref L.p),zS (.int 11),zS (.ref wa)] H;unfold aY
  nofun
  rw[ae (by decide),ae (by decide),ae (by decide),ae (by decide)];refine eN 0 rfl wh (v:=.int x) rfl ?_;exact⟨x,tells_of f rfl k⟩
 |slider _ _ _ _ _=>simp[ak.num]at hc
 |choice _ _ _=>simp[ak.num]at hc
 |cell _ _=>simp[ak.num]at hc
 |change _ _=>simp[ak.num]at hc
 |test _ _=>simp[ak.num]at hc
 |drop _=>simp[ak.num]at hc
 |dropTest _=>simp[ak.num]at hc
 |verdict _=>simp[ak.num]at hc
 |verdicts=>simp[ak.num]at hc
 |rests _=>simp[ak.num]at hc
 |testRests _=>simp[ak.num]at hc
 |inputs=>simp[ak.num]at hc
 |sweep _ _=>simp[ak.num]at hc
 |edge _ _ _=>simp[ak.num]at hc
 |grid _ _ _=>simp[ak.num]at hc
 |nearest _ _=>simp[ak.num]at hc
 |inline _=>simp[ak.num]at hc
 |mark=>simp[ak.num]at hc
 |news=>simp[ak.num]at hc
def dq(G:Ga):Sp:=λvs H Q _=>∃c ms s L X wa ra,vs=[.ref L.p,.int (ak.num c),.ref wa]/\uJ G c ms H s L X wa ra/\(17<=ak.num c/\ak.num c<=20)/\After G ms H L X (RP s c) Q
def sZ(h:dq G vs H Q E):bK G (iU G) (iV G) (fZ G) (hR G) (ends Q) (start lj vs) H:=by
 let⟨c,ms,s,L,X,wa,ra,rfl,⟨f,ask,wh,ro,sz,nr⟩,hc,k⟩:=h
 cases c with
 |sweep x n=>
  show bK G _ _ _ _ (ends Q) [zS (.ref L.p),zS (.int 17),zS (.ref wa)] H;unfold bK
  nofun
  refine eN 0 rfl wh (v:=.int x) rfl ?_;refine eN 1 rfl wh (v:=.int n) rfl ?_;exact⟨x,n,tells_of f rfl k⟩
 |edge x n t=>
  show bK G _ _ _ _ (ends Q) [zS (.ref L.p),zS (.int 18),zS (.ref wa)] H;unfold bK
  nofun
  rw[ae (by decide)];refine eN 0 rfl wh (v:=.int x) rfl ?_;refine eN 1 rfl wh (v:=.int n) rfl ?_;refine eN 2 rfl wh (v:=.int t) rfl ?_;exact⟨x,n,t,tells_of f rfl k⟩
 |grid x y n=>
  show bK G _ _ _ _ (ends Q) [zS (.ref L.p),zS (.int 19),zS (.ref wa)] H;unfold bK
  nofun
  rw[ae (by decide),ae (by decide)];refine eN 0 rfl wh (v:=.int x) rfl ?_;refine eN 1 rfl wh (v:=.int y) rfl ?_;refine eN 2 rfl wh (v:=.int n) rfl ?_;exact⟨x,y,n,tells_of f rfl k⟩
 |nearest n t=>
  show bK G _ _ _ _ (ends Q) [zS (.ref L.p),zS (.int 20),zS (.ref wa)] H;unfold bK
  nofun
  rw[ae (by decide),ae (by decide),ae (by decide)];refine eN 0 rfl wh (v:=.int n) rfl ?_;refine eN 1 rfl wh (v:=.int t) rfl ?_;exact⟨n,t,ms,s,L,X,rfl,f,sz,k⟩
 |slider _ _ _ _ _=>simp[ak.num]at hc
 |choice _ _ _=>simp[ak.num]at hc
 |cell _ _=>simp[ak.num]at hc
 |change _ _=>simp[ak.num]at hc
 |test _ _=>simp[ak.num]at hc
 |drop _=>simp[ak.num]at hc
 |dropTest _=>simp[ak.num]at hc
 |turn _ _=>simp[ak.num]at hc
 |set _ _=>simp[ak.num]at hc
 |keep _=>simp[ak.num]at hc
 |recall _=>simp[ak.num]at hc
 |value _=>simp[ak.num]at hc
 |verdict _=>simp[ak.num]at hc
 |verdicts=>simp[ak.num]at hc
 |rests _=>simp[ak.num]at hc
 |testRests _=>simp[ak.num]at hc
 |inputs=>simp[ak.num]at hc
 |inline _=>simp[ak.num]at hc
 |mark=>simp[ak.num]at hc
 |news=>simp[ak.num]at hc
def cu(G:Ga):Sp:=λvs H Q _=>∃c ms s L X wa ra,vs=[.ref L.p,.int (ak.num c),.ref wa]/\uJ G c ms H s L X wa ra/\((12<=ak.num c/\ak.num c<=16)\/21<=ak.num c)/\After G ms H L X (RP s c) Q
def qY(h:cu G vs H Q E):aH G (jM G) (gC G) (gD G) (iW G) (hU G) (eM G) (f7 G) (fB G) (ends Q) (start j6 vs) H:=by
 let⟨c,ms,s,L,X,wa,ra,rfl,⟨f,ask,wh,ro,sz,nr⟩,hc,k⟩:=h
 cases c with
 |verdict n=>
  show aH G _ _ _ _ _ _ _ _ (ends Q) [zS (.ref L.p),zS (.int 12),zS (.ref wa)] H;unfold aH
  nofun
  refine eN 0 rfl wh (v:=.int n) rfl ?_;exact⟨n,tells_of f rfl k⟩
 |verdicts=>
  show aH G _ _ _ _ _ _ _ _ (ends Q) [zS (.ref L.p),zS (.int 13),zS (.ref wa)] H;unfold aH
  nofun
  rw[ae (by decide)];exact tells_of f rfl k
 |rests x=>
  show aH G _ _ _ _ _ _ _ _ (ends Q) [zS (.ref L.p),zS (.int 14),zS (.ref wa)] H;unfold aH
  nofun
  rw[ae (by decide),ae (by decide)];refine eN 0 rfl wh (v:=.int x) rfl ?_;exact⟨x,tells_of f rfl k⟩
 |testRests n=>
  show aH G _ _ _ _ _ _ _ _ (ends Q) [zS (.ref L.p),zS (.int 15),zS (.ref wa)] H;unfold aH
  nofun
  rw[ae (by decide),ae (by decide),ae (by decide)];refine eN 0 rfl wh (v:=.int n) rfl ?_;exact⟨n,tells_of f rfl k⟩
 |inputs=>
  show aH G _ _ _ _ _ _ _ _ (ends Q) [zS (.ref L.p),zS (.int 16),zS (.ref wa)] H;unfold aH
  nofun
  rw[ae (by decide),ae (by decide),ae (by decide),ae (by decide)];exact tells_of f rfl k
 |inline n=>
  show aH G _ _ _ _ _ _ _ _ (ends Q) [zS (.ref L.p),zS (.int 21),zS (.ref wa)] H;unfold aH
  nofun
  rw[ae (by decide),ae (by decide),ae (by decide),ae (by decide),ae (by decide)];refine eN 0 rfl wh (v:=.int n) rfl ?_;exact⟨n,tells_of f rfl k⟩
 |mark=>
  show aH G _ _ _ _ _ _ _ _ (ends Q) [zS (.ref L.p),zS (.int 22),zS (.ref wa)] H;unfold aH
  nofun
  rw[ae (by decide),ae (by decide),ae (by decide),ae (by decide),ae (by decide),ae (by decide)];exact⟨ms,s,L,X,rfl,f,k⟩
 |news=>
  show aH G _ _ _ _ _ _ _ _ (ends Q) [zS (.ref L.p),zS (.int 23),zS (.ref wa)] H;unfold aH
  nofun
  rw[ae (by decide),ae (by decide),ae (by decide),ae (by decide),ae (by decide),ae (by decide),ae (by decide)];exact tells_of f rfl k
 |slider _ _ _ _ _=>simp[ak.num]at hc
 |choice _ _ _=>simp[ak.num]at hc
 |cell _ _=>simp[ak.num]at hc
 |change _ _=>simp[ak.num]at hc
 |test _ _=>simp[ak.num]at hc
 |drop _=>simp[ak.num]at hc
 |dropTest _=>simp[ak.num]at hc
 |turn _ _=>simp[ak.num]at hc
 |set _ _=>simp[ak.num]at hc
 |keep _=>simp[ak.num]at hc
 |recall _=>simp[ak.num]at hc
 |value _=>simp[ak.num]at hc
 |sweep _ _=>simp[ak.num]at hc
 |edge _ _ _=>simp[ak.num]at hc
 |grid _ _ _=>simp[ak.num]at hc
 |nearest _ _=>simp[ak.num]at hc
def Bt(c:Sz):0<=ak.num c/\ak.num c<=23:=by cases c<;>simp[ak.num]
def gN(G:Ga):Sp:=λvs H Q _=>∃c ms s L X wa ra,vs=[.ref L.p,.int (ak.num c),.ref wa,.ref ra]/\Full G ms H s L X/\ak.AD c/\H wa=zS (.lst (iL (ak.dI c)))/\(∀r,ak.row c=zS r->cut ms H ra=zS (.lst (iL r)))/\X.kn.length<=100000/\After G ms H L X (RP s c) Q
def Full.clear(f:Full G ms H s L X):uF G ms H L X s ms (upd H L.pn (.dN [])) L {X with kn:=[],na:=[]}:=by
 have pnm:L.pn∈ms:=f.sub _ (by simp[bA]);have bt:lw L.pn H (upd H L.pn (.dN [])):=λa o h n=>by rw[ab n];exact h
 refine⟨f.near' bt aa (by rw[cJ pnm];exact ah.refl _) (λ_ h=>h) f.wh.bk.dm.upd .nil ?_ (λa h=>by simp at h) (λa h=>by simp at h),λa o h n=>bt a o h λe=>n (by rw[e];simp[bA]),rfl,λ_ h=>h,λ_ h=>.inl h,λa ha=>?_,by simp⟩
 .rw[RB];exact(Ss.mp f.F6).1
 .refine .inl ?_;simp only[bA,Ru]at ha⊢;obtain h|h:=ha
  .exact .inl h
  .simp at h
def Lf{td:TE}{σ:L2.St}:FA td σ H Q=td σ H λx H1=>∃a kvs,x=.ref a/\H1 a=zS (.dN kvs)/\Q .d7 (upd H1 a (.dN [])):=rfl
theorem Ey(T:Tc G)(h:gN G vs H Q E):qa G (cu G) (dk G) (cG G) (dq G) (ends Q) (start wj vs) H:=by
 let⟨c,ms,s,L,X,wa,ra,rfl,f,ask,wh,ro,sz,k⟩:=h;have nr:=Bt c;have wal:∀{kv:List ((Int×List Int)×V)},wa≠L.pn:=λ{kv}=>aQ wh f.hn (by intro z;cases z);show qa G _ _ _ _ (ends Q) [zS (.ref L.p),zS (.int (ak.num c)),zS (.ref wa),zS (.ref ra)] H;unfold qa
 nofun
 simp only[Lf]
 nofun
 have uZ:∀{X1:Xt}{H1:Hp},uJ G c ms H1 s L X1 wa ra->After G ms H1 L X1 (RP s c) Q->(if ak.num c<=6 then dk G [.ref L.p,.int (ak.num c),.ref wa,.ref ra] H1 Q E0 else if ak.num c<=11 then cG G [.ref L.p,.int (ak.num c),.ref wa] H1 Q E0 else if 17<=ak.num c then(if ak.num c<=20 then dq G [.ref L.p,.int (ak.num c),.ref wa] H1 Q E0 else cu G [.ref L.p,.int (ak.num c),.ref wa] H1 Q E0)else cu G [.ref L.p,.int (ak.num c),.ref wa] H1 Q E0):=λ{X1 H1} ca k1=>by
  by_cases c1:ak.num c<=6
  .rw[ag c1];exact⟨c,ms,s,L,X1,wa,ra,rfl,ca,c1,k1⟩
  .rw[ae c1];by_cases c2:ak.num c<=11
   .rw[ag c2];exact⟨c,ms,s,L,X1,wa,ra,rfl,ca,⟨by omega,c2⟩,k1⟩
   .rw[ae c2];by_cases c3:17<=ak.num c
    .rw[ag c3];by_cases c4:ak.num c<=20
     .rw[ag c4];exact⟨c,ms,s,L,X1,wa,ra,rfl,ca,⟨c3,c4⟩,k1⟩
     .rw[ae c4];exact⟨c,ms,s,L,X1,wa,ra,rfl,ca,.inr (by omega),k1⟩
    .rw[ae c3];exact⟨c,ms,s,L,X1,wa,ra,rfl,ca,.inl ⟨by omega,by omega⟩,k1⟩
 by_cases c10:ak.num c<=10
 .rw[ag c10];have st:=f.clear;refine yM T f.wh.bk.nb ⟨L.pn,rfl,⟨X.kn,f.hn⟩,?_⟩;have pnm:L.pn∈ms:=f.sub _ (by simp[bA]);refine uZ (X1:={X with kn:=[],na:=[]}) ⟨st.full,ask,by rw[ab (aQ wh f.hn (by intro z;cases z))];exact wh,λr hr=>by rw[cJ pnm];exact ro r hr,by simp,λ_=>⟨rfl,rfl⟩⟩ λH' p ms' L' X' st2 np hp=>?_;refine k H' p ms' L' X' (uF.trans f st st2 ?_) (jO (ah.refl H) f.hn np) hp;have:=st2.sz;simp at this;omega
 .rw[ae c10];exact uZ ⟨f,ask,wh,ro,sz,λh=>absurd h c10⟩ k
end
variable{a:Addr}{x:Int}{xs:List V}
section
variable{G:Ga}{ms ms':List Addr}{H H':Hp}{s s':State}{L L':Lay}{X X':Xt}{vs:List V}{Q:VK}{E:XK}
def iu(G:Ga):Sp:=λvs H Q _=>∃(x dx:Addr),vs=[.ref x]/\H x=zS (.ins G.CN dx [])/\∀H' pi pc pt pp pr pn,(∀b o,H b=zS o->b≠x->H' b=zS o)->H' x=zS (.ins G.CN dx (fN (.ref pi) (.ref pc) (.ref pt) (.ref pp) (.ref pr) (.ref pn)))->
 H pi=zN->H pc=zN->H pt=zN->H pp=zN->H pr=zN->H pn=zN->H' pi=zS (.dK [])->H' pc=zS (.dK [])->H' pt=zS (.dK [])->H' pp=zS (.dK [])->H' pr=zS (.dK [])->H' pn=zS (.dN [])->[pi,pc,pt,pp,pr].Nodup->Q .d7 H'
def Gc(T:Tc G)(h:iu G vs H Q E):su G (ends Q) (start yo vs) H:=by
 let⟨x,dx,rfl,hx,k⟩:=h;show su G (ends Q) [zS (.ref x)] H;unfold su
 nofun
 intro pi n1;have a1:pi≠x:=(ay hx n1).symm;refine eR (by rw[ab a1.symm];exact hx) T.IB T.tQ (by simp) ?_;intro pc n2;have a2:pc≠x:=λe=>by rw[e,aa]at n2;cases n2
 have b2:pc≠pi:=λe=>by rw[e,ab a1,aa]at n2;cases n2
 refine eR (by rw[ab a2.symm];exact aa) T.IB T.wP (by show 1<1000;decide) ?_;intro pt n3;have a3:pt≠x:=λe=>by rw[e,aa]at n3;cases n3
 have b3:pt≠pc:=λe=>by rw[e,ab a2,aa]at n3;cases n3
 have c3:pt≠pi:=λe=>by rw[e,ab a1,ab b2.symm,ab a1,aa]at n3;cases n3
 refine eR (by rw[ab a3.symm];exact aa) T.IB T.wQ (by show 2<1000;decide) ?_;intro pp n4;have a4:pp≠x:=λe=>by rw[e,aa]at n4;cases n4
 have b4:pp≠pt:=λe=>by rw[e,ab a3,aa]at n4;cases n4
 have c4:pp≠pc:=λe=>by rw[e,ab a2,ab b3.symm,ab a2,aa]at n4;cases n4
 have d4:pp≠pi:=λe=>by rw[e,ab a1,ab c3.symm,ab a1,ab b2.symm,ab a1,aa]at n4;cases n4
 refine eR (by rw[ab a4.symm];exact aa) T.IB T.qz (by show 3<1000;decide) ?_;intro pr n5;have a5:pr≠x:=λe=>by rw[e,aa]at n5;cases n5
 have b5:pr≠pp:=λe=>by rw[e,ab a4,aa]at n5;cases n5
 have c5:pr≠pt:=λe=>by rw[e,ab a3,ab b4.symm,ab a3,aa]at n5;cases n5
 have d5:pr≠pc:=λe=>by rw[e,ab a2,ab c4.symm,ab a2,ab b3.symm,ab a2,aa]at n5;cases n5
 have e5:pr≠pi:=λe=>by rw[e,ab a1,ab d4.symm,ab a1,ab c3.symm,ab a1,ab b2.symm,ab a1,aa]at n5;cases n5
 refine eR (by rw[ab a5.symm];exact aa) T.IB T.iC (by show 4<1000;decide) ?_;intro pn n6;have a6:pn≠x:=λe=>by rw[e,aa]at n6;cases n6
 have b6:pn≠pr:=λe=>by rw[e,ab a5,aa]at n6;cases n6
 have c6:pn≠pp:=λe=>by rw[e,ab a4,ab b5.symm,ab a4,aa]at n6;cases n6
 have d6:pn≠pt:=λe=>by rw[e,ab a3,ab c5.symm,ab a3,ab b4.symm,ab a3,aa]at n6;cases n6
 have e6:pn≠pc:=λe=>by rw[e,ab a2,ab d5.symm,ab a2,ab c4.symm,ab a2,ab b3.symm,ab a2,aa]at n6;cases n6
 have f6:pn≠pi:=λe=>by rw[e,ab a1,ab e5.symm,ab a1,ab d4.symm,ab a1,ab c3.symm,ab a1,ab b2.symm,ab a1,aa]at n6;cases n6
 refine eR (by rw[ab a6.symm];exact aa) T.IB T.jr (by show 5<1000;decide) ?_;have h2:H pc=zN:=by rw[ab a2,ab b2]at n2;exact n2
 have h3:H pt=zN:=by rw[ab a3,ab b3,ab a3,ab c3]at n3;exact n3
 have h4:H pp=zN:=by rw[ab a4,ab b4,ab a4,ab c4,ab a4,ab d4]at n4;exact n4
 have h5:H pr=zN:=by rw[ab a5,ab b5,ab a5,ab c5,ab a5,ab d5,ab a5,ab e5]at n5;exact n5
 have h6:H pn=zN:=by rw[ab a6,ab b6,ab a6,ab c6,ab a6,ab d6,ab a6,ab e6,ab a6,ab f6]at n6;exact n6
 refine k _ pi pc pt pp pr pn (λb o e nb=>?_) aa n1 h2 h3 h4 h5 h6 ?_ ?_ ?_ ?_ ?_ ?_ ?_
 .rw[ab nb,ab (ay e h6),ab nb,ab (ay e h5),ab nb,ab (ay e h4),ab nb,ab (ay e h3),ab nb,ab (ay e h2),ab nb,ab (ay e n1)];exact e
 .rw[ab a1,ab f6.symm,ab a1,ab e5.symm,ab a1,ab d4.symm,ab a1,ab c3.symm,ab a1,ab b2.symm,ab a1,aa]
 .rw[ab a2,ab e6.symm,ab a2,ab d5.symm,ab a2,ab c4.symm,ab a2,ab b3.symm,ab a2,aa]
 .rw[ab a3,ab d6.symm,ab a3,ab c5.symm,ab a3,ab b4.symm,ab a3,aa]
 .rw[ab a4,ab c6.symm,ab a4,ab b5.symm,ab a4,aa]
 .rw[ab a5,ab b6.symm,ab a5,aa]
 .rw[ab a6,aa]
 .simp only[RK,Rn,Sj,or_false,not_or];exact⟨⟨b2.symm,c3.symm,d4.symm,e5.symm⟩,⟨b3.symm,c4.symm,d5.symm⟩,⟨b4.symm,c5.symm⟩,b5.symm,λh=>h,SI⟩
def P7(q:∀H' L,ah H H'->(∀a∈bA L ⟨[],[],[],[]⟩,H a=zN)->Full G (bA L ⟨[],[],[],[]⟩) H' SF L ⟨[],[],[],[]⟩->Q (.ref L.p) H'):Bj G.CN (iu G) [] H Q:=by
 intro x dx nx ndx nex;refine⟨x,dx,rfl,aa,λH' pi pc pt pp pr pn kp hx h1 h2 h3 h4 h5 h6 g1 g2 g3 g4 g5 g6 nd=>⟨rfl,?_⟩⟩;have fr:∀{a:Addr},(upd (upd H dx (.own x)) x (.ins G.CN dx [])) a=zN->H a=zN:=λ{a} h=>by
  by_cases e:a=x
  .rw[e,aa]at h;cases h
  .rw[ab e]at h;by_cases e2:a=dx
   .rw[e2,aa]at h;cases h
   .rw[ab e2]at h;exact h
 refine q H' ⟨x,dx,pi,pc,pt,pp,pr,pn,[],[],[],[]⟩ (ah.made nx ndx kp) (λa ha=>?_) ?_
 .simp only[bA,Lay.own,Ru,Rn,Rx,RR,RB,Sj,or_false]at ha;obtain h|h|h|h|h|h|h:=ha
  .rw[h];exact nx
  .rw[h];exact fr h1
  .rw[h];exact fr h2
  .rw[h];exact fr h3
  .rw[h];exact fr h4
  .rw[h];exact fr h5
  .rw[h];exact fr h6
 .have nd':=nd;simp only[RK,Rn,Sj,or_false,not_or]at nd';have dm:lu (bA ⟨x,dx,pi,pc,pt,pp,pr,pn,[],[],[],[]⟩ ⟨[],[],[],[]⟩) H':=λa ha=>by
   simp only[bA,Lay.own,Ru,Rn,Rx,RR,RB,Sj,or_false]at ha;obtain h|h|h|h|h|h|h:=ha
   .rw[h];exact⟨_,hx⟩
   .rw[h];exact⟨_,g1⟩
   .rw[h];exact⟨_,g2⟩
   .rw[h];exact⟨_,g3⟩
   .rw[h];exact⟨_,g4⟩
   .rw[h];exact⟨_,g5⟩
   .rw[h];exact⟨_,g6⟩
  exact⟨⟨⟨ak.WF.start,dm,λa ha=>CI ha,hx,g1,g2,.inl g3,.nil,.nil,.nil,rfl⟩,g3,g5,nd'.1.2.1,nd'.2.1.1⟩,λa ha=>ha,nd,SI,SI,λa ha=>by simp at ha,g4,g6,λk v h=>by simp at h,λn l h=>by simp[d8,SF]at h,SI,rfl,.nil,True.intro⟩
def after(s:State)(ks:List Sz):State:=ks.foldl (λs k=>(RP s k).1) s
def qu:∀(ks:List Sz)(s:State)(k:Sz),ak.played s (ks++[k])=ak.played s ks++[enc (RP (after s ks) k).2]
 |[],s,k=>rfl
 |c::r,s,k=>by show _::ak.played _ (r++[k])=_;rw[qu r];rfl
def Gd(s:State)(ks:List Sz)(k:Sz):after s (ks++[k])=(RP (after s ks) k).1:=by unfold after;rw[Vd];rfl
def zj(l:List (List Int))(a:List Int):Tq (l++[a])=Tq l++((a.length:Int)::a):=by unfold Tq;rw[TK];simp
def nX(K:Rl):Sp:=λvs H Q _=>∃(ca:Addr)(ks:List Sz),vs=[.ref ca]/\cD K H ca (iL (ak.aT ks))/\(∀k∈ks,ak.AD k)/\ks.length<=400/\∀H' p,ah H H'->H p=zN->H' p=zS (.lst (iL (Tq (ak.played SF ks))))->Q (.ref p) H'
structure P8(G:Ga)(H:Hp)(ca tl:Addr)(ks:List Sz)(σ:L2.St)(H':Hp):Prop where
 ex:∃(dn rs:List Sz)(ms:List Addr)(L:Lay)(X:Xt)(o4 o5 o6 o7 o8:Option V),ks=dn++rs/\σ=[zS (.ref ca),zS (.ref L.p),zS (.ref tl),zS (.int ((ak.aT dn).length:Int)),o4,o5,o6,o7,o8]/\Full G ms H' (after SF dn) L X/\tl∈ms/\tl∉bA L X/\H' tl=zS (.lst (iL (Tq (ak.played SF dn))))/\ah H H'/\(∀a∈bA L X,H a=zN)/\X.kn.length<=5*dn.length/\(Tq (ak.played SF dn)).length<=1001*dn.length
def fR{t:State}{own:List (Bool×Int)}{a:Int}:(U0 s own t a).2.more=[]:=by unfold U0 Y_;split<;>rfl
def dj{a:T6}(h:a.more=[]):(enc a).length<=1000:=by unfold enc Ug;rw[h];simp
theorem uK{α β:Type}{f:α->List β}{n:Nat}(h:∀x,(f x).length<=n):∀l:List α,(l.flatMap f).length<=n*l.length
 |[]=>by simp
 |a::r=>by rw[SR,RH,RG];have:=h a;have:=uK h r;have:n*(r.length+1)=n*r.length+n:=Nat.mul_succ ..;omega
def MA{f g:Formula}(h:V9 s f=zS g):(Vu g).length<=200:=by
 unfold V9 Vanbkj.short at h
 cases e:Vanbkj.replaced (Vanbkj.inlinedCells s) f with
 |none=>rw[e]at h;cases h
 |some x=>
  rw[e]at h;have h:(if Vanbkj.INLINED<(Vu x).length then zN else zS x)=zS g:=h;split at h
  .cases h
  .rename_i q;cases h;exact WD q
def nY{f:Input->T6}(h:∀i∈s.inputs,(enc (f i)).length<=1000):(enc (TC s x f)).length<=1000:=by
 unfold TC;split
 .rename_i i e;exact h i (ak.Db e).2.1
 .exact dj rfl
def jn{f:Formula->T6}(h:∀t,(enc (f t)).length<=1000):(enc (Sq s x f)).length<=1000:=by
 unfold Sq;split
 .exact h _
 .exact dj rfl
theorem CU{l:List Nat}(h:l.length<=900):(enc (UZ l)).length<=1000:=by rw[y_];simp;omega
theorem MB(w:ak.WF s)(c:Sz):(enc (RP s c).2).length<=1000:=by
 have h1:=w.nI;have h2:=w.nT
 cases c with
 |slider x l h d v=>exact dj (by show(Wd s x l h d v).2.more=[];unfold Wd;exact fR)
 |choice x p r=>exact dj (by show(Wc s x p r).2.more=[];unfold Wc;exact fR)
 |cell x r=>exact dj (by show(We s x r).2.more=[];unfold We;exact fR)
 |change x r=>exact dj (by show(Wf s x r).2.more=[];unfold Wf;exact fR)
 |test n r=>exact dj (by show(Wg s n r).2.more=[];unfold Wg;exact fR)
 |drop x=>exact dj (by show(Wm s x).2.more=[];unfold Wm;exact fR)
 |dropTest n=>exact dj (by show(Ze s (.dropTest n)).2.more=[];unfold Ze;dsimp only;split<;>rfl)
 |turn x k=>exact dj (by show(Wh s x k).2.more=[];unfold Wh;split<;>rfl)
 |set x v=>exact dj (by show(Wi s x v).2.more=[];unfold Wi;split;rfl;split<;>rfl)
 |keep p=>exact dj (by show(Wj s p).2.more=[];unfold Wj;exact fR)
 |recall p=>exact dj (by show(Wl s p).2.more=[];unfold Wl;split<;>rfl)
 |value x=>
  show(enc (if So s x=true then V_ (T4 (Wa s (Ut s)) x.toNat)else⟨-8,[]⟩)).length<=1000;split
  .unfold V_;split<;>simp[enc,Ug]
  .exact dj rfl
 |verdict n=>exact jn λt=>dj rfl
 |verdicts=>
  show(_::(s.tests.flatMap λt=>[RY t.1,RY (Sh s t.2)])).length<=1000;have:=uK (f:=λ(t:Nat×Formula)=>[RY t.1,RY (Sh s t.2)]) (n:=2) (λx=>by simp) s.tests;rw[RG];omega
 |rests x=>
  show(enc (if So s x=true then UZ (S_ s [x.toNat])else⟨-8,[]⟩)).length<=1000;split
  .exact CU (by have:=mP w [x.toNat];omega)
  .exact dj rfl
 |testRests n=>exact jn λt=>CU (by have:=mP w (Ry t);omega)
 |inputs=>
  show(_::(s.inputs.flatMap λi=>[RY i.name,Sy i i.place,RY i.place,RY i.values.length])).length<=1000;have:=uK (f:=λ(i:Input)=>[RY i.name,Sy i i.place,RY i.place,RY i.values.length]) (n:=4) (λx=>by simp) s.inputs;rw[RG];omega
 |sweep x n=>exact nY λi hi=>jn λt=>CU (by rw[ak.kj];have:=(w.fi i hi).len;omega)
 |edge x n d=>
  refine nY λi hi=>jn λt=>?_;split<;>exact dj rfl
 |grid x y n=>
  refine nY λi hi=>?_;unfold Xh;refine nY λj hj=>?_;split
  .exact dj rfl
  .refine jn λt=>?_;split
   .exact dj rfl
   .simp[enc,Ug]
 |nearest n v=>
  refine jn λt=>?_;unfold Xk;split
  .exact dj rfl
  .dsimp only;let⟨is,ei,en,hin,hnd,h8⟩:=uI w (Ry t);rw[ei];split
   .exact dj rfl
   .rename_i d ps _;show(_::_::((is.zip ps).flatMap λy=>[RY y.1.name,RY y.2])).length<=1000;have:=uK (f:=λ(y:Input×Nat)=>[RY y.1.name,RY y.2]) (n:=2) (λx=>by simp) (is.zip ps);rw[XD]at this;rw[RG,RG];omega
 |inline n=>
  refine jn λt=>?_;split
  .rename_i g e;have:=MA e;show(_::Vu g).length<=1000;rw[RG];omega
  .exact dj rfl
 |mark=>exact dj rfl
 |news=>
  show(_::((Xg s).flatMap λx=>[RY x.1,RY x.2.1,RY x.2.2])).length<=1000;have:=uK (f:=λ(x:Nat×Nat×Nat)=>[RY x.1,RY x.2.1,RY x.2.2]) (n:=3) (λx=>by simp) (Xg s);rw[vx]at this;have:=vy s s.tests;rw[RG,vx];omega
def iZ(c:Sz):List Int:=match ak.row c with
 |none=>[]
 |some r=>(r.length:Int)::r
def nZ(dn rs:List Sz)(c:Sz):ak.aT (dn++c::rs)=ak.aT dn++(ak.num c::(ak.dI c++(iZ c++ak.aT rs))):=by unfold ak.aT;rw[TK,SR];unfold ak.Dd iZ;cases ak.row c<;>simp
def Lg(c:Sz):(iL [5,2,1,1,1,1,1,2,2,1,1,1,1,0,1,1,0,2,3,3,2,1,0,0])[(ak.num c).toNat]?=zS (.int ((ak.dI c).length:Int)):=by cases c<;>rfl
def MC(c:Sz):(iL [0,1,1,1,1,0,0,0,0,0,0,0,0,0,0,0,0,0,0,0,0,0,0,0])[(ak.num c).toNat]?=zS (.int (if(ak.row c).isSome=true then 1 else 0)):=by cases c<;>rfl
def Os{K:Rl}(h:cD K H a xs)(q:Q (.int xs.length) H):eQ K [.ref a] H Q:=⟨a,xs,rfl,.inl h,q⟩
def Nc{K:Rl}{v:V}{i:Int}(j:Nat)(e:i=(j:Int))(h:cD K H a xs)(hj:xs[j]?=zS v)(q:Q v H):dQ K (.ref a) (.int i) H Q:=⟨a,xs,i,v,rfl,rfl,h,at_of e hj,q⟩
theorem G9{K:Rl}{l m n:List Int}{lo hi:Int}(h:cD K H a (iL (l++(m++n))))(e1:lo=(l.length:Int))(e2:hi=(l.length:Int)+(m.length:Int))(q:∀p,H p=zN->Q (.ref p) (upd H p (.lst (iL m)))):LK K (.ref a) (zS lo) (zS hi) H Q:=by
 refine⟨a,_,rfl,h,λp np=>?_⟩;have:HM (iL (l++(m++n))) (zS lo) (zS hi)=iL m:=by
  have e3:hi=((l.length+m.length:Nat):Int):=by omega
  unfold HM;rw[e1,e3,HT.GF,HT.GF,dt,RH,RH];have a1:min l.length (l.length+(m.length+n.length))=l.length:=by omega
  have a2:min (l.length+m.length) (l.length+(m.length+n.length))=l.length+m.length:=by omega
  rw[a1,a2,iL,<-List.map_drop,<-List.map_take,List.drop_left']
  .have a3:l.length+m.length-l.length=m.length:=by omega
   rw[a3,List.take_left'];rfl
  .rfl
 rw[this];exact q p np
theorem IZ(T:Tc G)(h:nX G.K vs H Q E):vv G (iu G) (gN G) (ends Q) (start Bi vs) H:=by
 let⟨ca,ks,rfl,hca,ask,hlen,k⟩:=h;show vv G _ _ (ends Q) [zS (.ref ca),zN,zN,zN,zN,zN,zN,zN,zN] H;unfold vv
 nofun
 refine P7 λH1 L s1 fr f=>?_
 nofun
 refine jN (by simp) λtl ntl=>?_;have s2:=s1.trans (ah.upd (o:=.lst []) ntl);have f2:Full G (tl::bA L ⟨[],[],[],[]⟩) (upd H1 tl (.lst [])) SF L ⟨[],[],[],[]⟩:=f.move (λa _ o h=>ah.upd ntl _ _ h) (qQ (ah.upd ntl) ntl) (λa h=>Rp _ h) ((f.wh.bk.dm.mono (ah.upd ntl)).cons aa);have tln:tl∉bA L ⟨[],[],[],[]⟩:=λh=>f.wh.bk.dm.free ntl h;have tlH:H tl=zN:=s1.free ntl
 nofun
 refine xZ (P8 G H ca tl ks) (λσ _=>match σ with|[_,_,_,zS (.int at'),_,_,_,_,_]=>((ak.aT ks).length:Int).toNat-at'.toNat|_=>0) ⟨[],ks,_,L,_,zN,zN,zN,zN,zN,rfl,rfl,f2,Rv,tln,aa,s2,fr,by simp,by simp[ak.played,Tq]⟩ ?_ ?_
 .rintro σ H2 ⟨dn,rs,ms,L,X,o4,o5,o6,o7,o8,rfl,rfl,f,tlm,tlo,htl,s3,fro,hsz,hln⟩
  nofun
  refine Os (s3.seq hca) ⟨_,rfl,?_⟩;rw[dt]
  cases rs with
  |nil=>
   rw[RB,ae (by omega)];rw[RB]at k;exact k H2 tl s3 tlH htl
  |cons c rs=>
  have hca2:=s3.seq hca;rw[nZ]at hca2;have hlt:(ak.aT dn).length<(ak.aT (dn++c::rs)).length:=by rw[nZ,RH,RG];omega
  rw[ag (by omega)];have nr:=Bt c;have wfs:=f.wh.bk.wf;have hal:=MB wfs c;have hdl:dn.length<400:=by rw[RH,RG]at hlen;omega
  have hfl:(ak.aT (dn++[c])).length=(ak.aT dn).length+1+(ak.dI c).length+(iZ c).length:=by have:=nZ dn [] c;rw[this];simp[ak.aT];omega
  have fin:∀(H3:Hp)(wa ra:Addr)(o4 o5 o6 o7:Option V)(at':Int),ah H2 H3->H3 wa=zS (.lst (iL (ak.dI c)))->(∀r,ak.row c=zS r->cut ms H3 ra=zS (.lst (iL r)))->at'=((ak.aT (dn++[c])).length:Int)->gN G [.ref L.p,.int (ak.num c),.ref wa,.ref ra] H3 (λx_7 H1=>OA G.K "list" (.ref tl) H1/\eQ G.K [x_7] H1 λx_8 H1=>jt (.ref tl) [x_8] H1 λx_9 H1=>OA G.K "list" (.ref tl) H1/\t9 (.ref tl) [x_7] H1 λx_10 H1=>P8 G H ca tl (dn++c::rs) [zS (.ref ca),zS (.ref L.p),zS (.ref tl),zS (.int at'),o4,o5,o6,o7,zS x_7] H1/\((ak.aT (dn++c::rs)).length:Int).toNat-at'.toNat<((ak.aT (dn++c::rs)).length:Int).toNat-((ak.aT dn).length:Int).toNat) E0:=λH3 wa ra o4 o5 o6 o7 at' s4 hwa hra hat=>by
   refine⟨c,ms,_,L,X,wa,ra,rfl,f.same s4,ask c (by simp),hwa,hra,by omega,λH4 p ms' L' X' st np hp=>?_⟩;have htl4:=st.keep _ _ (s4 _ _ htl) tlo;have ptl:p≠tl:=λe=>by rw[e,s4 _ _ htl]at np;cases np
   refine⟨f8 htl4,fJ hp (yL htl4 (eu (by rw[dt];omega)) ⟨f8 aa,M3 aa (by rw[ab ptl];exact hp) (fq ?_) ?_⟩)⟩
   .rw[RH,dt,dt];simp;omega
   have tlm':=st.up _ tlm;have tlo':tl∉bA L' X':=λh=>by
    obtain q|q:=st.own _ h
    .exact tlo q
    .rw[s4 _ _ htl]at q;cases q
   refine⟨⟨dn++[c],rs,ms',L',X',o4,o5,o6,o7,zS (.ref p),by simp,by rw[st.p,hat],?_,tlm',tlo',?_,λa o h=>?_,λa ha=>?_,?_,?_⟩,?_⟩
   .rw[Gd];exact(st.full.put tlm' tlo').put tlm' tlo'
   .rw[aa,qu,zj,dt];simp[iL]
   .have nt:a≠tl:=ay h tlH;rw[ab nt,ab nt];exact st.keep _ _ (s4 _ _ (s3 _ _ h)) λq=>by rw[fro a q]at h;cases h
   .obtain q|q:=st.own a ha
    .exact fro a q
    .exact s3.free (s4.free q)
   .have:=st.sz;rw[RH];simp;omega
   .rw[qu,zj,RH,RG,RH];simp at hal⊢;omega
   .rw[hat,hfl];have:(ak.aT (dn++c::rs)).length=(ak.aT dn).length+(1+((ak.dI c).length+((iZ c).length+(ak.aT rs).length))):=by rw[nZ];simp;omega
    omega
  refine Nc (ak.aT dn).length rfl hca2 (v:=.int (ak.num c)) (by simp[iL]) ?_;refine D0 (ak.num c).toNat (by omega) (T.HW _) (Lg c) ⟨_,rfl,?_⟩;have OD:ak.aT dn++(ak.num c::(ak.dI c++(iZ c++ak.aT rs)))=(ak.aT dn++[ak.num c])++(ak.dI c++(iZ c++ak.aT rs)):=by simp
  simp only[Qi,A3]
  nofun
  refine G9 (l:=ak.aT dn++[ak.num c]) (m:=ak.dI c) (n:=iZ c++ak.aT rs) (by rw[<-OD];exact hca2) (by simp) (by simp) λwa nwa=>?_;have s5:=ah.upd (o:=.lst (iL (ak.dI c))) nwa;refine jN (by simp) λra nra=>?_;have s6:=s5.trans (ah.upd (o:=.lst []) nra);refine D0 (ak.num c).toNat (by omega) (T.HR _) (MC c) ⟨_,rfl,?_⟩
  cases er:ak.row c with
  |none=>
   rw[ae (by simp)];have rp:iZ c=[]:=by unfold iZ;rw[er]
   rw[rp]at hfl;exact fin _ wa ra _ _ _ _ _ s6 (ah.upd nra _ _ aa) (λr hr=>by rw[er]at hr;cases hr) (by rw[hfl];simp)
  |some r=>
   rw[ag (by simp)];have rp:iZ c=(r.length:Int)::r:=by unfold iZ;rw[er]
   rw[rp]at hfl;rw[rp]at hca2 OD;have hca3:=s6.seq hca2;refine Nc ((ak.aT dn).length+1+(ak.dI c).length) (by omega) hca3 (v:=.int (r.length:Int)) ?_ ⟨_,rfl,?_⟩
   .simp only[iL,RW];have:(ak.aT dn++(ak.num c::(ak.dI c++((r.length:Int)::r++ak.aT rs))))[(ak.aT dn).length+1+(ak.dI c).length]?=zS (r.length:Int):=by
     have e:ak.aT dn++(ak.num c::(ak.dI c++((r.length:Int)::r++ak.aT rs)))=(ak.aT dn++[ak.num c]++ak.dI c)++((r.length:Int)::(r++ak.aT rs)):=by simp
     rw[e,X9 (by simp;omega)];have:(ak.aT dn).length+1+(ak.dI c).length-(ak.aT dn++[ak.num c]++ak.dI c).length=0:=by simp;omega
     rw[this];rfl
    rw[this];rfl
   have spl2:ak.aT dn++(ak.num c::(ak.dI c++((r.length:Int)::r++ak.aT rs)))=(ak.aT dn++[ak.num c]++ak.dI c++[(r.length:Int)])++(r++ak.aT rs):=by simp
   refine G9 (l:=ak.aT dn++[ak.num c]++ak.dI c++[(r.length:Int)]) (m:=r) (n:=ak.aT rs) (by rw[<-spl2];exact hca3) (by simp;omega) (by simp;omega) λrb nrb=>?_;have s7:=s6.trans (ah.upd (o:=.lst (iL r)) nrb);refine fin _ wa rb _ _ _ _ _ s7 (((ah.upd nra).trans (ah.upd nrb)) _ _ aa) (λr' hr=>?_) (by rw[hfl];simp;omega);rw[er]at hr;cases hr;exact cS aa (f.wh.bk.dm.free (s6.free nrb))
 .intro σ H Q Q' f h;let⟨v,hv,h2⟩:=Hx h;let⟨u,hu,h3⟩:=Hx h2;let⟨vs2,ev,h1,h4,h5⟩:=h3;let⟨i,e1,h6⟩:=si h5;let⟨j,e2,h7⟩:=si h6;let⟨kk,e3,q⟩:=wz h7;exact Lw hv (Lw hu ⟨vs2,ev,h1,h4,Hy e1 (Hy e2 (Lv e3 (f _ _ q)))⟩)
end
end Nb
end
section
variable{XP:(Str->Option Value)->Heap->Prop}{a b:Addr}{CX:Lm}{d:DefRec}{u:HO}{h:Heap}{H:Hp}{A B:List Addr}{loose ps:List Str}{xs:List V}{us vs:List Value}{ds:List WData}{k:Nat}{r:OpenSpec}{P:Params}{q:ZV}{v:Value}{YP:World->Heap->Prop}
namespace L2
open PySem PySem.Spec PyProof.Rows
open PySem.W (WData Codec OpenSpec Well WellAll ReadsW ReadsAllW)
mutual inductive Dw (K:Rl) (H:Hp):V->WData->Prop
 |d7:Dw K H .d7 .none
 |bl (b:Bool):Dw K H (.bl b) (.bool b)
 |int (i:Int):Dw K H (.int i) (.int i)
 |str (x:Str):Dw K H (.str x) (.str x)
 |EL (b:Array UInt8):Dw K H (.EL b) (.bytes b.toList)
 |lst {a:Addr} {xs:List V} {ds:List WData}:cD K H a xs->oz K H xs ds->Dw K H (.ref a) (.list ds)
 |tup {a:Addr} {xs:List V} {ds:List WData}:km K H a xs->oz K H xs ds->Dw K H (.ref a) (.tuple ds)
inductive oz (K:Rl) (H:Hp):List V->List WData->Prop
 |nil:oz K H [] []
 |cons {v:V} {vs:List V} {d:WData} {ds:List WData}:Dw K H v d->oz K H vs ds->oz K H (v::vs) (d::ds)
end
def G_{K:Rl}:∀ns:List Int,oz K H (ns.map V.int) (ns.map Zf)
 |[]=>.nil
 |n::r=>.cons (.int n) (G_ r)
def Hd{K:Rl}:∀(ns:List Int)(xs:List V),oz K H xs (ns.map Zf)->xs=ns.map V.int
 |[],xs,h=>by cases h;rfl
 |n::r,xs,h=>by
  cases h with
  |cons h1 h2=>
   cases h1;rw[Hd r _ h2]<;>rfl
section
variable{P:ZV}{w:World}{K:Rl}{H:Hp}{h:Heap}{R:Zg}{cl:Str->Option Addr}
def Ot(cA:oC P w H h)(KX:K.In h)(q:cD K H a xs):∃(aR:List Value)(o:Obj)(n:Nat),Vals xs aR/\h.get? a=zS o/\o.cls=.type "list"/\o.data=.seq aR.toArray n:=by
 obtain q|⟨o,aR,n,e,hc,_,hd,_,hv⟩:=q
 .let⟨_,aR,n,hv,e⟩:=(show dz P w H h a (.lst xs)from q.ok cA);exact⟨aR,_,n,hv,e,rfl,rfl⟩
 .exact⟨aR.toList,o,n,hv,KX _ _ e,hc,by simp[hd]⟩
def Ou(cA:oC P w H h)(KX:K.In h)(q:km K H a xs):∃(aR:List Value)(o:Obj)(n:Nat),Vals xs aR/\h.get? a=zS o/\o.cls=.type "tuple"/\o.data=.seq aR.toArray n:=by
 obtain q|⟨o,aR,n,e,hc,hd,_,hv⟩:=q
 .let⟨_,aR,hv,o,e,hc,n,hd⟩:=(show dz P w H h a (.tup xs)from q.ok cA);exact⟨aR,o,n,hv,e,hc,hd⟩
 .exact⟨aR.toList,o,n,hv,KX _ _ e,hc,by simp[hd]⟩
mutual theorem Dw.reads (cA:oC P w H h) (KX:K.In h):∀(d:WData)(v:V)(u:Value),Dw K H v d->RelV v u->∃as,ReadsW R cl h u d as
 | .none,_,_,x,r=>by cases x;cases r;exact⟨_,ReadsW.none⟩
 | .bool b,_,_,x,r=>by cases x;cases r;exact⟨_,ReadsW.bool b⟩
 | .int i,_,_,x,r=>by cases x;let⟨t,rfl⟩:=r;exact⟨_,ReadsW.int i t⟩
 | .str s,_,_,x,r=>by cases x;let⟨t,rfl⟩:=r;exact⟨_,ReadsW.str s t⟩
 | .bytes b,_,_,x,r=>by cases x;let⟨t,rfl⟩:=r;exact⟨_,ReadsW.bytes _ t⟩
 | .list ds,_,_,x,r=>by
  cases x with
  |lst hs ha=>
   cases r;let⟨aR,o,n,rv,ho,hc,hd⟩:=Ot cA KX hs;let⟨as,hr⟩:=Dw.readsAll cA KX ds _ aR ha rv;exact⟨_,ReadsW.list ho hc hd hr⟩
 | .tuple ds,_,_,x,r=>by
  cases x with
  |tup hs ha=>
   cases r;let⟨aR,o,n,rv,ho,hc,hd⟩:=Ou cA KX hs;let⟨as,hr⟩:=Dw.readsAll cA KX ds _ aR ha rv;exact⟨_,ReadsW.tuple ho hc hd hr⟩
 | .float _,_,_,x,_=>by cases x
 | .dict _,_,_,x,_=>by cases x
 | .bytearray _,_,_,x,_=>by cases x
 | .set _,_,_,x,_=>by cases x
 | .frozenset _,_,_,x,_=>by cases x
 | .obj _ _,_,_,x,_=>by cases x
theorem Dw.readsAll (cA:oC P w H h) (KX:K.In h):∀(ds:List WData)(vs:List V)(us:List Value),oz K H vs ds->Vals vs us->∃as,ReadsAllW R cl h us ds as
 |[],_,_,x,r=>by cases x;cases r;exact⟨_,ReadsAllW.nil⟩
 |d::ds,_,_,x,r=>by
  cases x with
  |cons h1 h2=>
   cases r with
   |cons r1 r2=>
    let⟨as,q1⟩:=Dw.reads cA KX d _ _ h1 r1;let⟨bs,q2⟩:=Dw.readsAll cA KX ds _ _ h2 r2;exact⟨_,ReadsAllW.cons q1 q2⟩
end
end
mutual def He:WData->Bool
 | .none=>true
 | .bool _=>true
 | .int _=>true
 | .str _=>true
 | .bytes _=>true
 | .list xs=>wK xs
 | .tuple xs=>wK xs
 |_=>false
def wK:List WData->Bool
 |[]=>true
 |x::r=>He x&&wK r
end
def Ez{α:Type}{f:α->WData}(h:∀a,He (f a)=true):∀l:List α,wK (l.map f)=true
 |[]=>rfl
 |x::r=>by show(He (f x)&&wK (r.map f))=true;rw[h x,Ez h r]<;>rfl
def qv:∀(c:Codec)(a:c.denote),He (c.enc a)=true
 | .unit,_=>rfl
 | .bool,_=>rfl
 | .int _ _,_=>rfl
 | .nat _ _,_=>rfl
 | .u8,_=>rfl
 | .bytes _ _,_=>rfl
 | .text _ _ _ _,_=>rfl
 | .list _ _ c,a=>Ez (λx=>qv c x) a
 | .pair c d,a=>by show(He (c.enc a.1)&&(He (d.enc a.2)&&true))=true;rw[qv c a.1,qv d a.2]<;>rfl
 | .triple c d e,a=>by show(He (c.enc a.1)&&(He (d.enc a.2.1)&&(He (e.enc a.2.2)&&true)))=true;rw[qv c a.1,qv d a.2.1,qv e a.2.2]<;>rfl
 | .option c,zN=>rfl
 | .option c,zS x=>qv c x
def Bu:∀(cs:List Codec)(a:Wo cs),wK (U4 cs a)=true
 |[],_=>rfl
 |c::cs,a=>by show(He (c.enc a.1)&&wK (U4 cs a.2))=true;rw[qv c a.1,Bu cs a.2]<;>rfl
def s_:∀{xs:List WData}{d:WData},d∈xs->d.weight<=Wq xs
 |[],d,h=>absurd h (by simp)
 |x::r,d,h=>by
  show d.weight<=x.weight+1+Wq r;obtain e|m:=Rn.mp h
  .rw[e];omega
  .have z:=s_ m;omega
def toV:Value->V
 | .none=>.d7
 | .bool b=>.bl b
 | .int i _=>.int i
 | .str x _=>.str x
 | .bytes b _=>.EL b
 | .ref a=>.ref a
 |_=>.d7
def I0(A:List Addr):Value->Prop
 | .none=>True
 | .bool _=>True
 | .int _ _=>True
 | .str _ _=>True
 | .bytes _ _=>True
 | .ref a=>a∈A
 |_=>False
def I0.mono(h:∀a∈A,a∈B):∀{u:Value},I0 A u->I0 B u:=λ{u} x=>by
 cases u with
 |ref a=>exact h a x
 |none=>trivial
 |bool b=>trivial
 |int i t=>trivial
 |str s t=>trivial
 |bytes b t=>trivial
 |_=>exact False.elim x
def Lh{u:Value}(x:I0 A u):RelV (toV u) u:=by
 cases u with
 |ref a=>rfl
 |none=>rfl
 |bool b=>rfl
 |int i t=>exact⟨t,rfl⟩
 |str s t=>exact⟨t,rfl⟩
 |bytes b t=>exact⟨t,rfl⟩
 |_=>exact False.elim x
def mQ:∀{vs:List Value},(∀u∈vs,I0 A u)->Vals (vs.map toV) vs
 |[],_=>.nil
 |u::r,h=>.cons (Lh (h u (Rv ..))) (mQ λx hx=>h x (Rp _ hx))
def oA(h:Heap)(A:List Addr)(a:Addr):Prop:=∃vs:List Value,vs.length<=aac/\(∀u∈vs,I0 A u)/\
 (h.get? a=zS {cls:=.type "list",data:=.seq vs.toArray}\/h.get? a=zS {cls:=.type "tuple",data:=.seq vs.toArray})
def oA.mono(k:∀a∈A,a∈B)(x:oA h A a):oA h B a:=by let⟨vs,h1,h2,h3⟩:=x;exact⟨vs,h1,λu hu=>(h2 u hu).mono k,h3⟩
def lM:∀{vs:List Value}{ds:List WData},WellAll P h vs ds->vs.length=ds.length
 |_,_,.nil=>rfl
 |_,_,.cons _ b=>by show _+1=_+1;rw[lM b]
def Bv(x:Well P h v (.list ds)):∃(a:Addr)(vs:List Value),v=.ref a/\h.get? a=zS {cls:=.type "list",data:=.seq vs.toArray}/\WellAll P h vs ds:=by
 cases x with
 |list ho hall=>exact⟨_,_,rfl,ho,hall⟩
def zk(x:Well P h v (.tuple ds)):∃(a:Addr)(vs:List Value),v=.ref a/\h.get? a=zS {cls:=.type "tuple",data:=.seq vs.toArray}/\WellAll P h vs ds:=by
 cases x with
 |tuple ho hall=>exact⟨_,_,rfl,ho,hall⟩
def Bw{d:WData}(x:WellAll P h us (d::ds)):∃(v:Value)(vs:List Value),us=v::vs/\Well P h v d/\WellAll P h vs ds:=by
 cases x with
 |cons a b=>exact⟨_,_,rfl,a,b⟩
def wU{n:Nat}(h:n<=1048576):n<=aac:=RO h (by decide)
section
variable{P:Params}{h:Heap}
mutual theorem Li:∀(d:WData)(v:Value),Well P h v d->He d=true->d.weight<=1048576->∃A:List Addr,I0 A v/\∀a∈A,oA h A a
 | .none,_,x,_,_=>by cases x;exact⟨[],trivial,λa m=>absurd m (by simp)⟩
 | .bool b,_,x,_,_=>by cases x;exact⟨[],trivial,λa m=>absurd m (by simp)⟩
 | .int i,_,x,_,_=>by cases x;exact⟨[],trivial,λa m=>absurd m (by simp)⟩
 | .str s,_,x,_,_=>by cases x;exact⟨[],trivial,λa m=>absurd m (by simp)⟩
 | .bytes b,_,x,_,_=>by cases x;exact⟨[],trivial,λa m=>absurd m (by simp)⟩
 | .list ds,_,x,p,z=>by
  let⟨a,vs,rfl,ho,hall⟩:=Bv x;have z2:Wq ds<=1048576:=z;let⟨A,h1,h2⟩:=uL ds _ hall p λd hd=>RO (s_ hd) z2;have k:∀b∈A,b∈a::A:=λb hb=>Rp _ hb;refine⟨a::A,Rv ..,λb hb=>?_⟩;obtain e|m:=Rn.mp hb
  .rw[e];exact⟨vs,wU (by rw[lM hall];exact RO (Zh ds) z2),λu hu=>(h1 u hu).mono k,.inl ho⟩
  .exact(h2 b m).mono k
 | .tuple ds,_,x,p,z=>by
  let⟨a,vs,rfl,ho,hall⟩:=zk x;have z2:Wq ds<=1048576:=z;let⟨A,h1,h2⟩:=uL ds _ hall p λd hd=>RO (s_ hd) z2;have k:∀b∈A,b∈a::A:=λb hb=>Rp _ hb;refine⟨a::A,Rv ..,λb hb=>?_⟩;obtain e|m:=Rn.mp hb
  .rw[e];exact⟨vs,wU (by rw[lM hall];exact RO (Zh ds) z2),λu hu=>(h1 u hu).mono k,.inr ho⟩
  .exact(h2 b m).mono k
 | .float _,_,_,p,_=>S2 (show false=true from p)
 | .dict _,_,_,p,_=>S2 (show false=true from p)
 | .bytearray _,_,_,p,_=>S2 (show false=true from p)
 | .set _,_,_,p,_=>S2 (show false=true from p)
 | .frozenset _,_,_,p,_=>S2 (show false=true from p)
 | .obj _ _,_,_,p,_=>S2 (show false=true from p)
theorem uL:∀(ds:List WData)(vs:List Value),WellAll P h vs ds->wK ds=true->(∀d∈ds,d.weight<=1048576)->∃A:List Addr,(∀u∈vs,I0 A u)/\∀a∈A,oA h A a
 |[],_,x,_,_=>by cases x;exact⟨[],λu m=>absurd m (by simp),λa m=>absurd m (by simp)⟩
 |d::ds,_,x,p,z=>by
  let⟨v,vs,rfl,x1,x2⟩:=Bw x;have q:He d=true/\wK ds=true:=Uh.mp p;let⟨A,a1,a2⟩:=Li d v x1 q.1 (z d (Rv ..));let⟨B,b1,b2⟩:=uL ds vs x2 q.2 λe he=>z e (Rp _ he);have kA:∀b∈A,b∈A++B:=λb hb=>Ru.mpr (.inl hb);have kB:∀b∈B,b∈A++B:=λb hb=>Ru.mpr (.inr hb);refine⟨A++B,λu hu=>?_,λb hb=>?_⟩
  .obtain e|m:=Rn.mp hu
   .rw[e];exact a1.mono kA
   .exact(b1 u m).mono kB
  .obtain m|m:=Ru.mp hb
   .exact(a2 b m).mono kA
   .exact(b2 b m).mono kB
end
end
def MD(o:Obj):Option HO:=match o.data with
 | .seq vs _=>if(o.cls==Ul "list")=true then zS (.fg o (.lst (vs.toList.map toV)))else zS (.fg o (.tup (vs.toList.map toV)))
 |_=>zN
def n8(K:Rl)(h:Heap)(A:List Addr):Hp:=λb=>if b∈A then(if(K.lookup b).isNone=true then(h.get? b).bind MD else zN)else zN
def EA(H:Hp):Prop:=∀b,H b=zN\/∃o u,H b=zS (.fg o u)
def EB(vs:List Value):MD {cls:=.type "list",data:=.seq vs.toArray}=zS (.fg {cls:=.type "list",data:=.seq vs.toArray} (.lst (vs.map toV))):=by show(if(Ul "list"==Ul "list")=true then zS (HO.fg {cls:=.type "list",data:=.seq vs.toArray} (.lst (vs.toArray.toList.map toV)))else zS (HO.fg {cls:=.type "list",data:=.seq vs.toArray} (.tup (vs.toArray.toList.map toV))))=_;rw[ag (beq_self_eq_true _)]
def EC(vs:List Value):MD {cls:=.type "tuple",data:=.seq vs.toArray}=zS (.fg {cls:=.type "tuple",data:=.seq vs.toArray} (.tup (vs.map toV))):=by show(if(Ul "tuple"==Ul "list")=true then zS (HO.fg {cls:=.type "tuple",data:=.seq vs.toArray} (.lst (vs.toArray.toList.map toV)))else zS (HO.fg {cls:=.type "tuple",data:=.seq vs.toArray} (.tup (vs.toArray.toList.map toV))))=_;rw[ae (by decide)]
section
variable{P:ZV}{w:World}{K:Rl}{h:Heap}{A:List Addr}
def xg{o:Obj}(hb:b∈A)(hk:K.lookup b=zN)(e:h.get? b=zS o):n8 K h A b=MD o:=by unfold n8;rw[ag hb,hk,ag (show(zN:Option Obj).isNone=true from rfl),e]<;>rfl
def ME(q:n8 K h A b=zS u):b∈A/\K.lookup b=zN:=by
 unfold n8 at q;by_cases hb:b∈A
 .rw[ag hb]at q
  cases hk:K.lookup b with
  |none=>exact⟨hb,rfl⟩
  |some o=>
   rw[hk,ae (by simp)]at q;cases q
 .rw[ae hb]at q;cases q
def xh(ar:∀a∈A,oA h A a)(q:n8 K h A b=zS u):K.lookup b=zN/\∃vs:List Value,vs.length<=aac/\(∀u∈vs,I0 A u)/\((h.get? b=zS {cls:=.type "list",data:=.seq vs.toArray}/\u=.fg {cls:=.type "list",data:=.seq vs.toArray} (.lst (vs.map toV)))\/(h.get? b=zS {cls:=.type "tuple",data:=.seq vs.toArray}/\u=.fg {cls:=.type "tuple",data:=.seq vs.toArray} (.tup (vs.map toV)))):=by
 let⟨hb,hk⟩:=ME q;let⟨vs,h1,h2,h3⟩:=ar b hb;refine⟨hk,vs,h1,h2,?_⟩;obtain e|e:=h3
 .rw[xg hb hk e,EB]at q;exact .inl ⟨e,(RA q).symm⟩
 .rw[xg hb hk e,EC]at q;exact .inr ⟨e,(RA q).symm⟩
def I_(ar:∀a∈A,oA h A a):EA (n8 K h A):=λb=>by
 cases q:n8 K h A b with
 |none=>exact .inl rfl
 |some u=>
  obtain⟨_,vs,_,_,⟨_,e⟩|⟨_,e⟩⟩:=xh ar q
  .exact .inr ⟨_,_,by rw[e]⟩
  .exact .inr ⟨_,_,by rw[e]⟩
def MF(ar:∀a∈A,oA h A a):oC P w (n8 K h A) h:=λb u q=>by
 obtain⟨_,vs,h1,h2,⟨e,rfl⟩|⟨e,rfl⟩⟩:=xh ar q
 .exact⟨e,by rw[Rr];exact h1,vs,_,mQ h2,e⟩
 .exact⟨e,by rw[Rr];exact h1,vs,mQ h2,_,e,rfl,_,rfl⟩
def xi{c c':Value}(e:(zS {cls:=c,data:=.seq vs.toArray}:Option Obj)=zS {cls:=c',data:=.seq us.toArray}):c=c'/\vs=us:=by have e1:=RA e;have e2:c=c':=congrArg Obj.cls e1;have e3:Wr vs.toArray=Wr us.toArray:=congrArg Obj.data e1;injection e3 with e4;refine⟨e2,?_⟩;have e5:=congrArg WN e4;simpa using e5
def Q3(KX:K.In h)(ar:∀a∈A,oA h A a)(ha:a∈A)(e:h.get? a=zS {cls:=.type "list",data:=.seq vs.toArray}):(∀u∈vs,I0 A u)/\cD K (n8 K h A) a (vs.map toV):=by
 let⟨us,h1,h2,h3⟩:=ar a ha;have hu:us=vs:=by
  obtain q|q:=h3
  .rw[e]at q;exact(xi q).2.symm
  .rw[e]at q;exact absurd (Zi (xi q).1) (by decide)
 subst hu;refine⟨h2,?_⟩
 cases hk:K.lookup a with
 |none=>exact .inl (.inr ⟨_,by rw[xg ha hk e,EB]⟩)
 |some o=>
  have e2:=KX a o hk;rw[e]at e2;obtain rfl:=RA e2;exact .inr ⟨_,us.toArray,_,hk,rfl,rfl,rfl,by rw[RT];exact h1,by simpa using mQ h2⟩
def Q4(KX:K.In h)(ar:∀a∈A,oA h A a)(ha:a∈A)(e:h.get? a=zS {cls:=.type "tuple",data:=.seq vs.toArray}):(∀u∈vs,I0 A u)/\km K (n8 K h A) a (vs.map toV):=by
 let⟨us,h1,h2,h3⟩:=ar a ha;have hu:us=vs:=by
  obtain q|q:=h3
  .rw[e]at q;exact absurd (Zi (xi q).1) (by decide)
  .rw[e]at q;exact(xi q).2.symm
 subst hu;refine⟨h2,?_⟩
 cases hk:K.lookup a with
 |none=>exact .inl (.inr ⟨_,by rw[xg ha hk e,EC]⟩)
 |some o=>
  have e2:=KX a o hk;rw[e]at e2;obtain rfl:=RA e2;exact .inr ⟨_,us.toArray,_,hk,rfl,rfl,by rw[RT];exact h1,by simpa using mQ h2⟩
mutual theorem Ov {Pm:Params} (KX:K.In h) (ar:∀a∈A,oA h A a):∀(d:WData)(v:Value),Well Pm h v d->He d=true->I0 A v->Dw K (n8 K h A) (toV v) d
 | .none,_,x,_,_=>by cases x;exact .d7
 | .bool b,_,x,_,_=>by cases x;exact .bl b
 | .int i,_,x,_,_=>by cases x;exact .int i
 | .str s,_,x,_,_=>by cases x;exact .str s
 | .bytes b,_,x,_,_=>by cases x;have z:=Dw.EL (K:=K) (H:=n8 K h A) b.toArray;exact z
 | .list ds,_,x,p,hu=>by let⟨a,vs,rfl,ho,hall⟩:=Bv x;let⟨h2,hs⟩:=Q3 KX ar hu ho;exact .lst hs (CV KX ar ds _ hall p h2)
 | .tuple ds,_,x,p,hu=>by let⟨a,vs,rfl,ho,hall⟩:=zk x;let⟨h2,hs⟩:=Q4 KX ar hu ho;exact .tup hs (CV KX ar ds _ hall p h2)
 | .float _,_,_,p,_=>S2 (show false=true from p)
 | .dict _,_,_,p,_=>S2 (show false=true from p)
 | .bytearray _,_,_,p,_=>S2 (show false=true from p)
 | .set _,_,_,p,_=>S2 (show false=true from p)
 | .frozenset _,_,_,p,_=>S2 (show false=true from p)
 | .obj _ _,_,_,p,_=>S2 (show false=true from p)
theorem CV {Pm:Params} (KX:K.In h) (ar:∀a∈A,oA h A a):∀(ds:List WData)(vs:List Value),WellAll Pm h vs ds->wK ds=true->(∀u∈vs,I0 A u)->oz K (n8 K h A) (vs.map toV) ds
 |[],_,x,_,_=>by cases x;exact .nil
 |d::ds,_,x,p,hu=>by let⟨v,vs,rfl,x1,x2⟩:=Bw x;have q:He d=true/\wK ds=true:=Uh.mp p;exact .cons (Ov KX ar d v x1 q.1 (hu _ (Rv ..))) (CV KX ar ds vs x2 q.2 λu m=>hu u (Rp _ m))
end
end
def Ja{P:ZV}{w:World}{K:Rl}{mg mb:Str->Option Value}{fa:Addr}{fd:aav}{sp:Sp}{s₁:ZW}{vals:List Value}{R:Zg}{cl:Str->Option Addr}{d0:WData}(KX:K.In s₁.heap)(hns:s₁.heap.Ns ZU mg)(hb:s₁.heap.Ns builtinsNs mb)(hbb:∀x:Str,x≠"__name__"->mb x=aae x)(hlim:s₁.heap.NoLimit)(hg:s₁.gens= #[])(hwl:WellAll w.params s₁.heap vals ds)(hpl:wK ds=true)(hwt:∀d∈ds,d.weight<=1048576)(hr:gP k callerA)(F:∀base:Heap,K.In base->base.Ns ZU mg->ni P w K mg base CX k fa fd ps sp)(hbind:∀(s:ZW)(us:List Value),us.length=ps.length->BindsTo s fd ⟨us,[]⟩ (ps.zip us))(hlen:ds.length=ps.length)(hsp:∀(H:Hp)(xs:List V),EA H->oz K H xs ds->sp xs H (λv H'=>Dw K H' v d0) λ_ _ _=>False)(hCX:∀H e s',CX [] H s₁ (λ_ _ _=>False) e s'->False):codeAny (model P w) callerA (.call (.ref fa) ⟨vals,[]⟩) (λr s'=>∃u as,r=.ok (.ret u)/\ReadsW R cl s'.heap u d0 as/\OldK s₁.heap s'.heap/\s'.os=s₁.os/\AllBare s'.gens) s₁:=by
 let⟨A,ho,ar⟩:=uL ds vals hwl hpl hwt;have hO:EA (n8 K s₁.heap A):=I_ ar;have cA:oC P w (n8 K s₁.heap A) s₁.heap:=MF ar;have hS:=CV KX ar ds vals hwl hpl ho;have hV:=mQ ho;have hK:∀b u,n8 K s₁.heap A b=zS u->K.lookup b=zN:=λb u q=>(xh ar q).1;have noA:∀{b:Addr}{o:Obj}{es:Array aaL}{ep:Nat},s₁.heap.get? b=zS o->o.data=.dict es ep->n8 K s₁.heap A b=zN:=λ{b o es ep} e d=>by
  cases q:n8 K s₁.heap A b with
  |none=>rfl
  |some u=>
   obtain⟨_,vs,_,_,⟨e2,_⟩|⟨e2,_⟩⟩:=xh ar q
   .rw[e2]at e;cases e;have d':Wr vs.toArray _=Data.dict es ep:=d;cases d'
   .rw[e2]at e;cases e;have d':Wr vs.toArray _=Data.dict es ep:=d;cases d'
 generalize n8 K s₁.heap A=H at hO cA hS hK noA;have base_of:∀{b:Addr}{o:Obj},s₁.heap.get? b=zS o->H b=zN->(BQ s₁.heap H).get? b=zS o:=λe n=>JD e n;have nsK:∀{b:Addr}{m:Str->Option Value},s₁.heap.Ns b m->(BQ s₁.heap H).Ns b m:=λ{b m}⟨o,es,ep,e,d,r⟩=>⟨o,es,ep,base_of e (noA e d),d,r⟩;have nK:∀b o,K.lookup b=zS o->H b=zN:=λb o e=>by
  cases q:H b with
  |none=>rfl
  |some u=>
   rw[hK b u q]at e;cases e
 have hKb:K.In (BQ s₁.heap H):=λb o e=>base_of (KX b o e) (nK b o e);have hM:Mod K mg (BQ s₁.heap H):=⟨hKb,nsK hns,⟨mb,nsK hb,hbb⟩,let⟨mc,h1,h2⟩:=hlim;⟨mc,nsK h1,h2⟩⟩;have e0:Fh P w K mg (BQ s₁.heap H) callerA [] s₁ H:=⟨rfl,hM,λb o e=>Lr e,Vg (Hv _ _),trivial,λb hb=>absurd (show b∈([]:List Addr)from hb) (by simp),cA,.of_eq hg⟩;have hl:vals.length=ps.length:=by rw[lM hwl];exact hlen
 refine codeAny_mono ((F _ hKb (nsK hns)).run callerA [] s₁ H ⟨vals,[]⟩ vals (vals.map toV) _ _ hr e0 (hbind s₁ vals hl) hV (hsp H _ hO hS)) λr s' x=>?_
 cases r with
 |error e=>exact(hCX H e s' x).elim
 |ok fl=>
  cases fl with
  |next=>exact False.elim x
  |brk=>exact False.elim x
  |cont=>exact False.elim x
  |ret u=>
   let⟨v,H',os,bare,un,hok',r',q⟩:=x;have kept:∀b o,s₁.heap.get? b=zS o->s'.heap.get? b=zS o:=λb o e=>by
    cases q2:H b with
    |none=>exact un.keep b o e q2 (by intro z;exact absurd (show b∈([]:List Addr)from z) (by simp)) (by simp)
    |some u2=>
     obtain z|⟨ob,u3,z⟩:=hO b
     .rw[q2]at z;cases z
     .have z2:=un.xS b ob _ z;let⟨e1,_⟩:=cA b _ z;let⟨e2,_⟩:=hok' b _ z2;rw[e]at e1;cases e1;exact e2
   have KX':K.In s'.heap:=λb o e=>kept b o (KX b o e);let⟨as,hrd⟩:=Dw.reads (R:=R) (cl:=cl) hok' KX' d0 v u q r';exact⟨u,as,rfl,hrd,OldK.of_keep kept,os,bare⟩
def zl(h:WData.layableAll ds=true):∀d∈ds,d.weight<=1048576:=λd hd=>
 (PySem.W.layableW_iff.mp (Ud.mp h d hd)).2.2
def zm:∀(cs:List Codec)(a:Wo cs),(U4 cs a).length=cs.length
 |[],_=>rfl
 |c::cs,a=>by show(U4 cs a.2).length+1=cs.length+1;rw[zm cs a.2]
def Jb{K:Params->Rl}{CX:World->Lm}{sp:World->Sp}(hwell:r.wellSaid=true)(hdf:d.params.defaults=[])(hlen:r.args.length=ps.length)(hr:gP k callerA)(hY:∀(w:World)(h:Heap),YP w h->(K w.params).In h)(F:∀(w:World)(mg:Str->Option Value)(fa:Addr)(h:Heap),YP w h->(K w.params).In h->h.Ns ZU mg->mg d.name=zS (.ref fa)->∃fd:aav,(∀(s:ZW)(us:List Value),us.length=ps.length->BindsTo s fd ⟨us,[]⟩ (ps.zip us))/\∀base:Heap,(K w.params).In base->base.Ns ZU mg->ni r.prog w (K w.params) mg base (CX w) k fa fd ps (sp w))(hsp:∀(w:World)(H:Hp)(xs:List V)(a:Wo r.args),EA H->Zj r.args a=true->Vv r.args r.asked a=true->oz (K w.params) H xs (U4 r.args a)->sp w xs H (λv H'=>Dw (K w.params) H' v (r.ret.enc (Vv r.args r.f a))) λ_ _ _=>False)(hCX:∀(w:World)(H:Hp)(s:ZW)(e:Value)(s':ZW),CX w [] H s (λ_ _ _=>False) e s'->False):Zk q loose XP YP r d [] (λf vs=>Wx f vs):=by
 intro w AS s₁ mg mb G Y fa o pm cd doc dV kV ho hd hcd hD hmg hg args vals as hpre hlay hrd hwl hlo;let⟨a,e1,e2⟩:=PySem.W.os_pre_some hpre;let⟨e3,hwi⟩:=Codec.encAll_of_decAll r.args args a e1;subst e3;have KX:=hY w _ Y;let⟨fd,hb,hF⟩:=F w mg fa _ Y KX G.T.g hmg
 refine PySem.W.enter_call (codeAny_mono (Ja (R:=[]) (cl:=classAt AS.heap) (d0:=r.ret.enc (Vv r.args r.f a)) KX G.T.g G.T.b G.T.builtins G.T.nolimit hg hwl (Bu _ _) (zl hlay) hr hF hb (by rw[zm];exact hlen)
  (λH xs hO hS=>hsp w H xs a hO hwi e2 hS) λH e s'=>hCX w H s₁ e s') λr' s' hq=>?_)
 let⟨u,as',rfl,h1,h2,h3,h4⟩:=hq;exact⟨.inl ⟨u,_,as',rfl,λ_=>rfl,h1,(OpenSpec.post_iff hwell hwi _ _).mpr rfl,λz=>S2 (show false=true from z)⟩,h2,h3,h4⟩
def Ge{K:Params->Rl}{sp:Rl->Sp}(hwell:r.wellSaid=true)(hdf:d.params.defaults=[])(hlen:r.args.length=ps.length)(hr:gP k callerA)(hY:∀(w:World)(h:Heap),YP w h->(K w.params).In h)(F:∀(w:World)(mg:Str->Option Value)(fa:Addr)(h:Heap),YP w h->(K w.params).In h->h.Ns ZU mg->mg d.name=zS (.ref fa)->∃fd:aav,(∀(s:ZW)(us:List Value),us.length=ps.length->BindsTo s fd ⟨us,[]⟩ (ps.zip us))/\∀base:Heap,(K w.params).In base->base.Ns ZU mg->ni r.prog w (K w.params) mg base CX k fa fd ps (sp (K w.params)))(hsp:∀(K:Rl)(H:Hp)(xs:List V)(a:Wo r.args),EA H->Zj r.args a=true->Vv r.args r.asked a=true->oz K H xs (U4 r.args a)->sp K xs H (λv H'=>Dw K H' v (r.ret.enc (Vv r.args r.f a))) λ_ _ _=>False)(hCX:∀(H:Hp)(s:ZW)(e:Value)(s':ZW),CX [] H s (λ_ _ _=>False) e s'->False):Zk q loose XP YP r d [] (λf vs=>Wx f vs):=
 Jb (K:=K) (CX:=λ_=>CX) (sp:=λw=>sp (K w.params)) hwell hdf hlen hr hY F (λw H xs a h1 h2 h3 h4=>hsp (K w.params) H xs a h1 h2 h3 h4) λ_ H s e s'=>hCX H s e s'
end L2
end
end
namespace Nb
open PySem PySem.Spec PyProof.Rows L2
local macro_rules | `(tactic| walk_at "b") => `(tactic| first | exact (fun _ _ _ _ _ _ => Zz.l1 fun _ => rfl) | exact (fun _ _ _ _ _ _ => Zz.l2 fun _ _ => rfl) | exact (fun _ _ _ _ _ _ => Zz.l3 fun _ _ _ => rfl) | exact (fun _ _ _ _ _ _ => Zz.l4 fun _ _ _ _ => rfl) | exact (fun _ _ _ _ _ _ => Zz.l5 fun _ _ _ _ _ => rfl) | exact (fun _ _ _ _ _ _ => Zz.l6 fun _ _ _ _ _ _ => rfl) | exact (fun _ _ _ _ _ _ => Zz.l7 fun _ _ _ _ _ _ _ => rfl) | exact (fun _ _ _ _ _ _ => Zz.l0 rfl))
local macro_rules | `(tactic| walk_at "l") => do
  let mut c := #[]
  for n in [1:25] do c := c.push (← `(tactic| exact $(Lean.mkIdent (.str `Zz s!"n{n}")) h fun $(.replicate n (← `(_)))* => rfl))
  `(tactic| (rename_i h; first | exact h.1 ▸ rfl $[| $c:tactic]*))
variable{elt it tg:Expr}{ifs:List Expr}{sc:Scope}{g:TG}{wi:TI}{tt:TT}
section
variable{X:Cx}{x f:Str}{pos pos':Pos}{e a b c d i j:Expr}{te ta tb tc td ti tj:TE}{op:CmpOp}{r:R2}{es:List Expr}{t:TA}
def gn(i:Nat)(nd:X.N.Nodup)(hi:X.N[i]?=zS x:=by rfl)(hx:Loc X.env.scope x:=by first|exact UR rfl|exact Uq rfl)(hf:X.fn x=true\/X.env.scope.names.lookup x=zS .local:=by first|exact .inl rfl|exact .inr rfl|assumption):PG X (.Name x pos) (ao i):=Lx nd hi hx hf
def se(i:Nat)(nd:X.N.Nodup)(he:PE X e te)(hi:X.N[i]?=zS x:=by rfl)(hx:Loc X.env.scope x:=by first|exact UR rfl|exact Uq rfl)(hs:aal e (zS (.Name x pos')) pos.line X.env=pure false:=by rfl)(hf:X.fn x=true\/X.env.scope.names.lookup x=zS .local:=by first|exact .inl rfl|exact .inr rfl|assumption):PS X (.Assign [.Name x pos'] e pos) (aL te (ao i)):=Ny nd hi hx he hs hf
def au{o:Operator}{tp:O0}(i:Nat)(nd:X.N.Nodup)(he:PE X e te)(ho:QD X o tp)(hi:X.N[i]?=zS x:=by rfl)(hx:Loc X.env.scope x:=by first|exact UR rfl|exact Uq rfl)(hf:X.fn x=true\/X.env.scope.names.lookup x=zS .local:=by first|exact .inl rfl|exact .inr rfl|assumption):PS X (.AugAssign (.Name x pos') o e pos) (gh i te tp):=NA nd hi hx he ho hf
def cr(ho:rH X (aai op) r)(ha:PE X a ta)(hb:PE X b tb)(h:op≠.In:=by decide)(h2:op≠.NotIn:=by decide):PT X (.Compare a [op] [b] pos) (aB (aP r ta tb)):=qE ho ha hb (JR b h h2)
def ce(ho:rH X (aai op) r)(ha:PE X a ta)(hb:PE X b tb)(h:op≠.In:=by decide)(h2:op≠.NotIn:=by decide):PE X (.Compare a [op] [b] pos) (aP r ta tb):=LC ho ha hb (JR b h h2)
def pf(he:PE X e te)(hb:aau e f X.env (eval e X.env)=eval e X.env:=by rfl):PE X (.Attribute e f pos) (aC X.K te f):=NE he hb
def sf(ha:PE X a ta)(hv:PE X b tb)(hs:aal b (zS (.Attribute a f pos')) pos.line X.env=pure false:=by rfl):PS X (.Assign [.Attribute a f pos'] b pos) (jV X.K ta tb f):=NF ha hv hs
def px(hr:Qj X r)(ha:PE X a ta)(hb:PE X b tb)(hs:GJ b:=by exact λ_ _=>rfl):PE X (.Subscript a b pos) (aP r ta tb):=O6 hr ha hb hs
def cb{id:String}{r:List V->Hp->VK->Prop}(hc:eP X (.builtin id) r)(hm:X.mg x=zN)(hv:aae x=zS (.builtin id))(ha:PA X (e::es) t)(hg:Gl X x:=by rfl)(hn:x≠"__name__":=by decide)(hdb:(x==("__debug__":Str))=false:=by decide)(he:aag (e::es) X.env=(false,eval e X.env)::aag es X.env:=by rfl)(hpl:(aaf pos (aag es X.env)).any (·.1)=false:=by rfl):PE X (.Call (.Name x pos') (e::es) [] pos) (dP r t):=JX hc hg hm hv ha hn hdb he hpl
def cy{T:String}{r:List V->Hp->VK->Prop}(hc:eP X (.type T) r)(hm:X.mg x=zN)(hv:aae x=zS (.type T))(ha:PA X (e::es) t)(hg:Gl X x:=by rfl)(hn:x≠"__name__":=by decide)(hdb:(x==("__debug__":Str))=false:=by decide)(he:aag (e::es) X.env=(false,eval e X.env)::aag es X.env:=by rfl)(hpl:(aaf pos (aag es X.env)).any (·.1)=false:=by rfl):PE X (.Call (.Name x pos') (e::es) [] pos) (dP r t):=HK hc hg hm hv ha hn hdb he hpl
def a1(h:PE X a ta)(h1:aag [a] X.env=(false,eval a X.env)::aag [] X.env:=by rfl):PA X [a] (a_ ta cP):=dF h gQ h1
def a2(p0:PE X a ta)(p1:PE X b tb)(h0:aag [a,b] X.env=(false,eval a X.env)::aag [b] X.env:=by rfl)(h1:aag [b] X.env=(false,eval b X.env)::aag [] X.env:=by rfl):PA X [a,b] (a_ ta (a_ tb cP)):=(dF p0 (dF p1 gQ h1) h0)
def a3(p0:PE X a ta)(p1:PE X b tb)(p2:PE X c tc)(h0:aag [a,b,c] X.env=(false,eval a X.env)::aag [b,c] X.env:=by rfl)(h1:aag [b,c] X.env=(false,eval b X.env)::aag [c] X.env:=by rfl)(h2:aag [c] X.env=(false,eval c X.env)::aag [] X.env:=by rfl):PA X [a,b,c] (a_ ta (a_ tb (a_ tc cP))):=(dF p0 (dF p1 (dF p2 gQ h2) h1) h0)
def a4(p0:PE X a ta)(p1:PE X b tb)(p2:PE X c tc)(p3:PE X d td)(h0:aag [a,b,c,d] X.env=(false,eval a X.env)::aag [b,c,d] X.env:=by rfl)(h1:aag [b,c,d] X.env=(false,eval b X.env)::aag [c,d] X.env:=by rfl)(h2:aag [c,d] X.env=(false,eval c X.env)::aag [d] X.env:=by rfl)(h3:aag [d] X.env=(false,eval d X.env)::aag [] X.env:=by rfl):PA X [a,b,c,d] (a_ ta (a_ tb (a_ tc (a_ td cP)))):=(dF p0 (dF p1 (dF p2 (dF p3 gQ h3) h2) h1) h0)
def a5(p0:PE X a ta)(p1:PE X b tb)(p2:PE X c tc)(p3:PE X d td)(p4:PE X i ti)(h0:aag [a,b,c,d,i] X.env=(false,eval a X.env)::aag [b,c,d,i] X.env:=by rfl)(h1:aag [b,c,d,i] X.env=(false,eval b X.env)::aag [c,d,i] X.env:=by rfl)(h2:aag [c,d,i] X.env=(false,eval c X.env)::aag [d,i] X.env:=by rfl)(h3:aag [d,i] X.env=(false,eval d X.env)::aag [i] X.env:=by rfl)(h4:aag [i] X.env=(false,eval i X.env)::aag [] X.env:=by rfl):PA X [a,b,c,d,i] (a_ ta (a_ tb (a_ tc (a_ td (a_ ti cP))))):=(dF p0 (dF p1 (dF p2 (dF p3 (dF p4 gQ h4) h3) h2) h1) h0)
def a6(p0:PE X a ta)(p1:PE X b tb)(p2:PE X c tc)(p3:PE X d td)(p4:PE X i ti)(p5:PE X j tj)(h0:aag [a,b,c,d,i,j] X.env=(false,eval a X.env)::aag [b,c,d,i,j] X.env:=by rfl)(h1:aag [b,c,d,i,j] X.env=(false,eval b X.env)::aag [c,d,i,j] X.env:=by rfl)(h2:aag [c,d,i,j] X.env=(false,eval c X.env)::aag [d,i,j] X.env:=by rfl)(h3:aag [d,i,j] X.env=(false,eval d X.env)::aag [i,j] X.env:=by rfl)(h4:aag [i,j] X.env=(false,eval i X.env)::aag [j] X.env:=by rfl)(h5:aag [j] X.env=(false,eval j X.env)::aag [] X.env:=by rfl):PA X [a,b,c,d,i,j] (a_ ta (a_ tb (a_ tc (a_ td (a_ ti (a_ tj cP)))))):=(dF p0 (dF p1 (dF p2 (dF p3 (dF p4 (dF p5 gQ h5) h4) h3) h2) h1) h0)
def sl{i:Nat}{spos:Pos}(nd:X.N.Nodup)(N0:List Str)(st:Stmt)(own:List (Str×Nat))(hi:PI X tg it wi)(hg:∀{s:ZW}{H:Hp}{C:Addr}{cl:List (Str×Addr)}{fp:List Addr},PG (X.wC s H sc (aaG sc cl C X.env) fp) tg g)(ht:∀{s:ZW}{H:Hp}{C:Addr}{cl:List (Str×Addr)}{fp:List Addr},NS (X.wC s H sc (aaG sc cl C X.env) fp) ifs tt)(he:∀{s:ZW}{H:Hp}{C:Addr}{cl:List (Str×Addr)}{fp:List Addr},PE (X.wC s H sc (aaG sc cl C X.env) fp) elt te)(ok:LU N0 (bm st) sc own=true:=by decide+kernel)(e1:X.N=N0:=by rfl)(e2:X.env.scope=bm st:=by rfl)(hc:X.calm=true:=by rfl)(hy:X.N[i]?=zS x:=by rfl)(hyl:X.env.scope.names.lookup x=zS .local:=by rfl)(h1:X.env.scope.kind=.function:=by rfl)(h3:(pos'.line==pos.line)=true:=by rfl)(h4:(sc.names.any λ(n,k)=>n==x&&(k== .local||k== .cell))=false:=by rfl)(hs:∀y,aas it X.env y=pure y:=by intro _;rfl):PS X (.Assign [.Name x pos'] (.ListComp elt [⟨tg,it,ifs,0⟩] sc pos) spos) (aL (vW wi g tt te (own.map (·.2))) (ao i)):=J1 hc nd hy hyl (LS h1 hyl h3 h4) hi (Dv (by rw[e1,e2];exact ok)) (λ_ _ _ _ _=>hg) (λ_ _ _ _ _=>ht) (λ_ _ _ _ _=>he) hs
def pl(nd:X.N.Nodup)(N0:List Str)(st:Stmt)(own:List (Str×Nat))(hi:PI X tg it wi)(hg:∀{s:ZW}{H:Hp}{C:Addr}{cl:List (Str×Addr)}{fp:List Addr},PG (X.wC s H sc (aaG sc cl C X.env) fp) tg g)(ht:∀{s:ZW}{H:Hp}{C:Addr}{cl:List (Str×Addr)}{fp:List Addr},NS (X.wC s H sc (aaG sc cl C X.env) fp) ifs tt)(he:∀{s:ZW}{H:Hp}{C:Addr}{cl:List (Str×Addr)}{fp:List Addr},PE (X.wC s H sc (aaG sc cl C X.env) fp) elt te)(ok:LU N0 (bm st) sc own=true:=by decide+kernel)(e1:X.N=N0:=by rfl)(e2:X.env.scope=bm st:=by rfl)(hc:X.calm=true:=by rfl)(hs:∀y,aas it X.env y=pure y:=by intro _;rfl):PE X (.ListComp elt [⟨tg,it,ifs,0⟩] sc pos) (vW wi g tt te (own.map (·.2))):=O9 hc nd hi (Dv (by rw[e1,e2];exact ok)) (λ_ _ _ _ _=>hg) (λ_ _ _ _ _=>ht) (λ_ _ _ _ _=>he) hs
end
structure MG(K:Rl)(x:Str)(st:Stmt):Prop where
 ex:∃f fd,SV K ZU x=zS (zS (.ref f))/\LY K x x st f fd
structure MH(K:Rl)(x qual:Str)(st:Stmt)(C:Addr):Prop where
 ns:SV K ZU x=zS (zS (.ref C))
 ex:∃f fd,Mk K C f/\LY K "__init__" qual st f fd
 cl:Fc K C
structure Nd(P:ZV)(w:World)(mg:Str->Option Value)(base:Heap)(G:Ga):Prop where
 N:∃h:Heap,G.K.In h/\h.Ns ZU mg
 T:Tx mg G
 C:Tc G
 F:∀r∈R,MG G.K r.1 r.2
 K5:AllP (MH G.K) G.CF G.CD G.CN G.CC G.CT
variable{x:Str}
def Nd.fn{P:ZV}{w:World}{mg:Str->Option Value}{base:Heap}{G:Ga}(S:Nd P w mg base G)(i:Nat)(st:Stmt)(e:R[i]?=zS (x,st):=by rfl):MG G.K x st:=S.F (x,st) (Rz e)
variable{f:Addr}{fd:aav}{ps:List Str}{j n:Nat}{sp:Sp}{qual:Str}
section
variable{P:ZV}{w:World}{mg:Str->Option Value}{base:Heap}{G:Ga}(S:Nd P w mg base G){k:Nat}
abbrev O(_:Nd P w mg base G)(k:Nat)(x:Str)(ps:List Str)(sp:Sp):Prop:=Ok P w G.K mg base k x ps sp
abbrev OC(_:Nd P w mg base G)(k:Nat)(x:Str)(C:Addr)(ps:List Str)(sp:Sp):Prop:=OG P w G.K mg base k x C ps sp
def Q5(S:Nd P w mg base G){st:Stmt}(N:List Str)(F:LY G.K x qual st f fd)(hb:∀{cdv:Value}{A:ZZ}{outer:List Env}{s:ZW}{H:Hp}{vs:List V}{Q:VK}{E:XK},sp vs H Q E->gP k (A.deeper (envOfC qual (bm st) s.heap.objs.size f cdv))->N.Nodup->(A.deeper (envOfC qual (bm st) s.heap.objs.size f cdv)).units+1<cLine->Tx mg G->∃t:TS,t {nx:=λ_ H'=>Q .d7 H',rt:=Q} (start N vs) H/\EM (BV Ji P w G.K mg base N qual (bm st) f cdv A outer s H E).Nv (gf st) t)(len:∀vs H Q E,sp vs H Q E->vs.length=ps.length:=by intro _ _ _ _ _;walk_at "l")(sc:qF N ps (bm st):=by exact⟨rfl,rfl,rfl,by decide+kernel,rfl,by decide+kernel,by decide+kernel⟩):ni P w G.K mg base Ji (k+1) f fd ps sp:=
 F.ok sc len λcdv A outer s H vs Q E hr hq=>let⟨t,a,b⟩:=hb hq hr sc.nd (Pd hr) S.T
 ⟨t,b,a⟩
def Re(S:Nd P w mg base G){v:Value}(e:SV G.K ZU x=zS (zS v)):mg x=zS v:=let⟨_,X,N⟩:=S.N
 Ws X N e
def ge{st:Stmt}(N:List Str)(F:MG G.K x st)(hk:j+1<=k)(hb:∀{f:Addr}{cdv:Value}{A:ZZ}{outer:List Env}{s:ZW}{H:Hp}{vs:List V}{Q:VK}{E:XK},sp vs H Q E->gP j (A.deeper (envOfC x (bm st) s.heap.objs.size f cdv))->N.Nodup->(A.deeper (envOfC x (bm st) s.heap.objs.size f cdv)).units+1<cLine->Tx mg G->∃t:TS,t {nx:=λ_ H'=>Q .d7 H',rt:=Q} (start N vs) H/\EM (BV Ji P w G.K mg base N x (bm st) f cdv A outer s H E).Nv (gf st) t)(b:∀(kV doc pm:Value)(an:Option Addr)(cdv ct:Value)(us:List Value),us.length=ps.length->bindArgs (S3 x x (jq st) (gf st) (bm st) .none kV doc pm an cdv ct) ⟨us,[]⟩=pure (ps.zip us):=by walk_at "b")(len:∀vs H Q E,sp vs H Q E->vs.length=ps.length:=by intro _ _ _ _ _;walk_at "l")(sc:qF N ps (bm st):=by exact⟨rfl,rfl,rfl,by decide+kernel,rfl,by decide+kernel,by decide+kernel⟩):O S k x ps sp:=by obtain⟨f,fd,e,F2⟩:=F.ex;exact Ok.mono ⟨f,fd,Re S e,F2.kp,F2.binds b,Q5 S N F2 hb len sc⟩ hk
def P9{st:Stmt}{C:Addr}(N:List Str)(F:MH G.K x qual st C)(hk:j+2<=k)(hb:∀{f:Addr}{cdv:Value}{A:ZZ}{outer:List Env}{s:ZW}{H:Hp}{vs:List V}{Q:VK}{E:XK},sp vs H Q E->gP j (A.deeper (envOfC qual (bm st) s.heap.objs.size f cdv))->N.Nodup->(A.deeper (envOfC qual (bm st) s.heap.objs.size f cdv)).units+1<cLine->Tx mg G->∃t:TS,t {nx:=λ_ H'=>Q .d7 H',rt:=Q} (start N vs) H/\EM (BV Ji P w G.K mg base N qual (bm st) f cdv A outer s H E).Nv (gf st) t)(b:∀(kV doc pm:Value)(an:Option Addr)(cdv ct:Value)(us:List Value),us.length=ps.length->bindArgs (S3 "__init__" qual (jq st) (gf st) (bm st) .none kV doc pm an cdv ct) ⟨us,[]⟩=pure (ps.zip us):=by walk_at "b")(len:∀vs H Q E,sp vs H Q E->vs.length=ps.length:=by intro _ _ _ _ _;walk_at "l")(sc:qF N ps (bm st):=by exact⟨rfl,rfl,rfl,by decide+kernel,rfl,by decide+kernel,by decide+kernel⟩):OC S k x C ps sp:=by obtain⟨f,fd,M,F2⟩:=F.ex;exact⟨f,fd,j+1,hk,M,Re S F.ns,F2.binds b,Q5 S N F2 hb len sc⟩
def hW(h:2<=k:=by omega):OC S k "Column" G.CC Kz (aV G):=P9 S DK S.K5.EW h λhq hr _ _ _=>⟨_,KS S.C hq,ac (sf (pv 0) (pv 1)) (ac (sf (pv 0) (pv 2)) (ac (sf (pv 0) (pv 3)) (af (sf (pv 0) (pv 4)))))⟩
def im(h:1<=k:=by omega):O S k "is_value" FI bJ:=ge S yq (S.fn 1 xk) h λhq hr _ _ T=>⟨_,FV (G:=G) hq,af (ai (Dm iJ iJ (aD T.oQ) (pv 0) (aD T.kF)))⟩
def zo(h:3<=k:=by omega):O S k "measured" FM (fH G):=ge S yx (S.fn 16 xp) h λhq hr _ _ T=>⟨_,FZ hq,af (ai (gv (hW S) hr (a4 (pv 0) (cb (Ie rfl) T.min nu (a1 (pv 0))) (cb (Ic rfl) T.max lH (a1 (pv 0))) (pv 1))))⟩
def lN(h:3<=k:=by omega):O S k "same_everywhere" uj (cq G):=ge S lI (S.fn 17 ly) h λhq hr _ _ _=>⟨_,uB hq,af (ai (gv (hW S) hr (a4 (b8 NO (aF (a1 (pv 0))) (pv 1)) (pv 0) (pv 0) dC)))⟩
def Lj(h:1<=k:=by omega):O S k "joined" KA mK:=ge S DP (S.fn 19 C8) h λhq hr nd _ T=>⟨_,KZ (G:=G) hq,ac (aE (lT (cr bP (cb eS T.len be (a1 (pv 1))) aw) (j_ (cr bP (cb eS T.len be (a1 (pv 2))) aw))).pt (af (ai (pv 0))) aq) (ac (aE (lT (cr bP (cb eS T.len be (a1 (pv 0))) aw) (j_ (cr bP (cb eS T.len be (a1 (pv 2))) aw))).pt (af (ai (pv 1))) aq) (ac (se 3 nd (cy sr T.dict ye (a1 (pv 2)))) (ac (cH (B5 (pv 3) (pv 1) ⟨rfl,rfl,rfl,rfl⟩)) (ac (cH (B5 (pv 3) (pv 0) ⟨rfl,rfl,rfl,rfl⟩)) (af (ai (pv 3)))))))⟩
def uM(h:1<=k:=by omega):O S k "refused_at" Cd eF:=ge S ul (S.fn 27 tE) h λhq hr nd hu _=>⟨_,Cu (G:=G) hq,ac (se 2 nd dC) (ac (cR R1 rfl (h9 (pv 0)) (gn 3 nd) (af (iM hu (pv 2) (pv 3) (pv 1) rfl))) (af (ai (pv 2))))⟩
def Jc(h:3<=k:=by omega):O S k "divided" Iy (fQ G .div):=ge S qL (S.fn 28 qy) h λhq hr nd _ T=>⟨_,IJ S.C hq,ac (sl nd qL qy [("a",5),("b",6)] (pJ (by rfl) T.zip (a2 (pf (pv 0)) (pf (pv 1)))) (dX rfl (aG (gn 5 nd) (aG (gn 6 nd) cI))) gg (gp (cr om (pv 6) aw) (b8 yc (pv 5) (pv 6)) aw)) (ac (sl nd qL qy [("k",7),("number",8)] (GR (by rfl) T.enumerate (a1 (pf (pv 1)))) (dX rfl (aG (gn 7 nd) (aG (gn 8 nd) cI))) (wX (cr bP (pv 8) aw)) (pv 7)) (ac (se 4 nd (cb (ji rfl) T.max lH (a2 (cb qH T.abs wZ (a1 (pf (pv 0)))) (cb qH T.abs wZ (a1 (pf (pv 0))))))) (af (ai (gv (hW S) hr (a4 (pv 2) (MM JP (pv 4)) (pv 4) (ax (uM S) hr (a2 (pv 3) (aD T.kI)))))))))⟩
def Aj(h:3<=k:=by omega):O S k "greater_one" zP (fQ G .most):=ge S lX (S.fn 29 lO) h λhq hr nd _ T=>⟨_,zZ S.C hq,ac (sl nd lX lO [("a",3),("b",4)] (pJ (by rfl) T.zip (a2 (pf (pv 0)) (pf (pv 1)))) (dX rfl (aG (gn 3 nd) (aG (gn 4 nd) cI))) gg (gp (cr pC (pv 3) (pv 4)) (pv 3) (pv 4))) (af (ai (gv (hW S) hr (a4 (pv 2) (cb (ji rfl) T.max lH (a2 (pf (pv 0)) (pf (pv 1)))) (cb (ji rfl) T.max lH (a2 (pf (pv 0)) (pf (pv 1)))) dC))))⟩
def lq(h:4<=k:=by omega):O S k "within_range" yA (bL G):=ge S kZ (S.fn 26 kx) h λhq hr nd _ T=>⟨_,yP hq,ac (aE (lT (fL (ax (im S) hr (a1 (pv 1)))) (j_ (fL (ax (im S) hr (a1 (pv 2)))))).pt (af (ai (gv (hW S) hr (a4 (pv 0) (pv 1) (pv 2) dC)))) aq) (ac (sl nd kZ kx [("k",5),("number",6)] (GR (by rfl) T.enumerate (a1 (pv 0))) (dX rfl (aG (gn 5 nd) (aG (gn 6 nd) cI))) (wX (jU (kO iJ iJ (aD T.oQ) (pv 6) (aD T.kF)))) (pv 5)) (ac (se 4 nd (cy Fv T.list jE (a1 (pv 0)))) (ac (cR R1 rfl (h9 (pv 3)) (gn 5 nd) (af (JM aw (JL (pv 4) (pv 5) set_list)))) (af (ai (ax (zo S) hr (a2 (pv 4) (ax (uM S) hr (a2 (pv 3) (aD T.tO))))))))))⟩
def Ow(h:5<=k:=by omega):O S k "less" N8 (fQ G .sub):=ge S FP (S.fn 24 ES) h λhq hr nd _ T=>⟨_,Oh S.C hq,ac (sl nd FP ES [("a",3),("b",4)] (pJ (by rfl) T.zip (a2 (pf (pv 0)) (pf (pv 1)))) (dX rfl (aG (gn 3 nd) (aG (gn 4 nd) cI))) gg (b8 kN (pv 3) (pv 4))) (af (ai (ax (lq S) hr (a3 (pv 2) (b8 kN (pf (pv 0)) (pf (pv 1))) (b8 kN (pf (pv 0)) (pf (pv 1)))))))⟩
def CW(h:3<=k:=by omega):O S k "lesser_one" Ce (fQ G .least):=ge S nE (S.fn 30 mV) h λhq hr nd _ T=>⟨_,Cv S.C hq,ac (sl nd nE mV [("a",3),("b",4)] (pJ (by rfl) T.zip (a2 (pf (pv 0)) (pf (pv 1)))) (dX rfl (aG (gn 3 nd) (aG (gn 4 nd) cI))) gg (gp (cr t7 (pv 3) (pv 4)) (pv 3) (pv 4))) (af (ai (gv (hW S) hr (a4 (pv 2) (cb (kR rfl) T.min nu (a2 (pf (pv 0)) (pf (pv 1)))) (cb (kR rfl) T.min nu (a2 (pf (pv 0)) (pf (pv 1)))) dC))))⟩
def Ox(h:5<=k:=by omega):O S k "plus" N7 (fQ G .add):=ge S FN (S.fn 23 ER) h λhq hr nd _ T=>⟨_,Og S.C hq,ac (sl nd FN ER [("a",3),("b",4)] (pJ (by rfl) T.zip (a2 (pf (pv 0)) (pf (pv 1)))) (dX rfl (aG (gn 3 nd) (aG (gn 4 nd) cI))) gg (b8 gb (pv 3) (pv 4))) (af (ai (ax (lq S) hr (a3 (pv 2) (b8 gb (pf (pv 0)) (pf (pv 1))) (b8 gb (pf (pv 0)) (pf (pv 1)))))))⟩
def MI(h:5<=k:=by omega):O S k "times" Mj (fQ G .mul):=ge S Cb (S.fn 25 BA) h λhq hr nd _ T=>⟨_,Ms S.C hq,ac (sl nd Cb BA [("a",4),("b",5)] (pJ (by rfl) T.zip (a2 (pf (pv 0)) (pf (pv 1)))) (dX rfl (aG (gn 4 nd) (aG (gn 5 nd) cI))) gg (b8 sn (pv 4) (pv 5))) (ac (se 3 nd (gc (a4 (b8 sn (pf (pv 0)) (pf (pv 1))) (b8 sn (pf (pv 0)) (pf (pv 1))) (b8 sn (pf (pv 0)) (pf (pv 1))) (b8 sn (pf (pv 0)) (pf (pv 1)))))) (af (ai (ax (lq S) hr (a3 (pv 2) (cb (Ik rfl) T.min nu (a1 (pv 3))) (cb (Ij rfl) T.max lH (a1 (pv 3))))))))⟩
def Lk(h:6<=k:=by omega):O S k "of_two" KB (mL G):=ge S uk (S.fn 22 tD) h λhq hr nd _ T=>⟨_,KY S.C hq,ac (aE (cr bP (pv 0) (aD T.OK)) (af (ai (ax (Ox S) hr (a2 (pv 1) (pv 2))))) aq) (ac (aE (cr bP (pv 0) (aD T.OL)) (af (ai (ax (Ow S) hr (a2 (pv 1) (pv 2))))) aq) (ac (aE (cr bP (pv 0) (aD T.MJ)) (af (ai (ax (MI S) hr (a2 (pv 1) (pv 2))))) aq) (ac (aE (cr bP (pv 0) (aD T.Gn)) (af (ai (ax (Jc S) hr (a2 (pv 1) (pv 2))))) aq) (ac (aE (cr bP (pv 0) (aD T.vM)) (af (ai (ax (Aj S) hr (a2 (pv 1) (pv 2))))) aq) (ac (aE (cr bP (pv 0) (aD T.xw)) (af (ai (ax (CW S) hr (a2 (pv 1) (pv 2))))) aq) (ac (aE (cr bP (pv 0) (aD T.Go)) (af (ai (gv (hW S) hr (a4 (pl nd uk tD [("a",3),("b",4)] (pJ (by rfl) T.zip (a2 (pf (pv 1)) (pf (pv 2)))) (dX rfl (aG (gn 3 nd) (aG (gn 4 nd) cI))) gg (gp (cr t7 (pv 3) (pv 4)) aw aw)) aw aw dC)))) aq) (af (ai (gv (hW S) hr (a4 (pl nd uk tD [("a",3),("b",4)] (pJ (by rfl) T.zip (a2 (pf (pv 1)) (pf (pv 2)))) (dX rfl (aG (gn 3 nd) (aG (gn 4 nd) cI))) gg (gp (cr bP (pv 3) (pv 4)) aw aw)) aw aw dC))))))))))⟩
def CY(h:3<=k:=by omega):O S k "both_parts" Ca (ga G):=ge S nz (S.fn 21 mU) h λhq hr nd hu T=>⟨_,Cw S.C hq,ac (sl nd nz mU [("a",7),("b",8),("c",9)] (Mf (by rfl) T.zip (a3 (pf (pv 0)) (pf (pv 1)) (pf (pv 2)))) (dX rfl (aG (gn 7 nd) (aG (gn 8 nd) (aG (gn 9 nd) cI)))) gg (gp (cr om (pv 7) aw) (pv 8) (pv 9))) (ac (se 4 nd (cy sr T.dict ye (a1 (pf (pv 0))))) (ac (gL (cR R1 rfl (gY (pf (pv 1))) (dX rfl (aG (gn 5 nd) (aG (gn 6 nd) cI))) (af (aE (cr om (px aN (pf (pv 0)) (pv 5)) aw) (af (cH (DH hu (pv 4) (pv 5) (pv 6) ⟨rfl,rfl,rfl,rfl⟩))) aq)))) (ac (gL (cR R1 rfl (gY (pf (pv 2))) (dX rfl (aG (gn 5 nd) (aG (gn 6 nd) cI))) (af (aE (cr bP (px aN (pf (pv 0)) (pv 5)) aw) (af (cH (DH hu (pv 4) (pv 5) (pv 6) ⟨rfl,rfl,rfl,rfl⟩))) aq)))) (af (ai (gv (hW S) hr (a4 (pv 3) (cb (kR rfl) T.min nu (a2 (pf (pv 1)) (pf (pv 2)))) (cb (ji rfl) T.max lH (a2 (pf (pv 1)) (pf (pv 2)))) (pv 4))))))))⟩
def Ak(ih:∀k,7+2*n<=k->O S k "column_of" ir (aO G n))(h:8+2*n<=k:=by omega):O S k "either_part" zO (gw G n):=ge S rM (j:=7+2*n) (S.fn 20 rg) (by omega) λhq hr nd _ T=>⟨_,z7 S.C hq,ac (aE (cr bP (cb eS T.len be (a1 (pf (pv 1)))) aw) (ac (se 4 nd (gr Si Wt Wu qI (pf (pv 1)) (a1 aw))) (ac (aE (cr bP (pv 4) aw) (af (ai (ax (ih _ (by omega)) hr (a3 (px fO (pv 0) aw) (pv 2) (pv 3))))) aq) (af (aE (cr bP (pv 4) (pv 3)) (af (ai (ax (ih _ (by omega)) hr (a3 (px fO (pv 0) aw) (pv 2) (pv 3))))) aq)))) aq) (af (ai (ax (CY S) hr (a3 (pv 1) (ax (ih _ (by omega)) hr (a3 (px fO (pv 0) aw) (pv 2) (pv 3))) (ax (ih _ (by omega)) hr (a3 (px fO (pv 0) aw) (pv 2) (pv 3)))))))⟩
def Jd(ih:∀k,7+2*n<=k->O S k "column_of" ir (aO G n))(h:9+2*n<=k:=by omega):O S k "column_of" ir (aO G (n+1)):=ge S pQ (j:=8+2*n) (S.fn 18 oI) (by omega) λhq hr nd hu T=>⟨_,D_ S.C hq,ac (se 3 nd (px fO (pv 0) aw)) (ac (aE (cr bP (pv 3) (aD T.gj)) (af (ai (ax (lN S) hr (a2 (px fO (pv 0) aw) (pv 2))))) aq) (ac (aE (cr bP (pv 3) (aD T.Jl)) (af (ai (dS hu (pv 1) (px fO (pv 0) aw) (λ_ _=>rfl)))) aq) (ac (se 4 nd (ax (ih _ (by omega)) hr (a3 (px fO (pv 0) aw) (pv 1) (pv 2)))) (ac (aE (cr bP (cb eS T.len be (a1 (pf (pv 4)))) (pv 2)) (af (ai (pv 4))) aq) (ac (aE (cr bP (pv 3) (aD T.ET)) (af (ai (ax (Ak S ih) hr (a4 (pv 0) (pv 4) (pv 1) (pv 2))))) aq) (ac (se 5 nd (ax (ih _ (by omega)) hr (a3 (px fO (pv 0) aw) (pv 1) (pv 2)))) (ac (se 6 nd (ax (Lk S) hr (a3 (pv 3) (pv 4) (pv 5)))) (af (ai (gv (hW S) hr (a4 (pf (pv 6)) (pf (pv 6)) (pf (pv 6)) (ax (Lj S) hr (a3 (pf (pv 4)) (pf (pv 5)) (pf (pv 6)))))))))))))))⟩
def Je(h:7<=k):O S k "column_of" ir (aO G 0):=by
 have no:∀{vs:List V}{H:Hp}{Q:VK}{E:XK},aO G 0 vs H Q E->False:=λ{vs H Q E} hq=>by obtain⟨ms,tv,dc,f,ck,envs,_,_,_,_,df,_⟩:=hq;have:=IK f;omega
 exact ge S pQ (j:=0) (S.fn 18 oI) (by omega) λhq=>(no hq).elim
def Bx:∀n k,7+2*n<=k->O S k "column_of" ir (aO G n)
 |0,k,h=>Je S h
 |n+1,k,h=>Jd S (Bx n)
def wn(h:67<=k:=by omega):O S k "column_of" ir (aO G 30):=Bx S 30 k h
def Gf(h:1<=k:=by omega):O S k "names_in" FK jG:=ge S yt (S.fn 7 xn) h λhq hr nd hu T=>⟨_,FX (G:=G) hq,ac (se 1 nd dC) (ac (cR R1 rfl (h9 (pv 0)) (gn 2 nd) (af (aE (cr bP (px fO (pv 2) aw) (aD T.Jl)) (af (iM hu (pv 1) (px fO (pv 2) aw) JH rfl)) aq))) (af (ai (pv 1))))⟩
def qS(h:1<=k:=by omega):O S k "is_leaf" Iu cU:=ge S Bd (S.fn 5 At) h λhq hr _ _ T=>⟨_,ID (G:=G) hq,af (ai (ML (ce bP (pv 0) (aD T.gj)) (JI (ce bP (pv 0) (aD T.Jl)))))⟩
def Jf(h:2<=k:=by omega):O S k "tree_of" Iv kW:=ge S Be (S.fn 6 Au) h λhq hr nd _ T=>⟨_,IF S.C hq,ac (se 1 nd (aF gQ)) (ac (cR R1 rfl (vX (by rfl) T.reversed (a1 (pv 0))) (gn 2 nd) (ac (se 3 nd (px fO (pv 2) aw)) (af (aE (fL (ax (qS S) hr (a1 (pv 3)))) (af (cH (gr Si Uu Uv jf (pv 1) (a1 (pv 2))))) (ac (se 4 nd (gc (a1 (pv 3)))) (ac (cR R1 rfl (qD (by rfl) T.range (a1 (px fO (GZ T.cQ) (pv 3)))) (gn 5 nd) (af (se 4 nd (b8 GG (pv 4) (gc (a1 (NL Si PySem.F.slot_list_pop PySem.F.type_list_pop NN (pv 1)))))))) (af (cH (gr Si Uu Uv jf (pv 1) (a1 (pv 4))))))))))) (af (ai (px aN (pv 1) aw))))⟩
def Jg(h:4<=k:=by omega):OC S k "Formula" G.CF Iq (kX G):=P9 S Bb S.K5.Formula h λhq hr _ _ _=>⟨_,IG S.C hq,ac (sf (pv 0) (pv 1)) (ac (sf (pv 0) (ax (Jf S) hr (a1 (pv 1)))) (af (sf (pv 0) (ax (Gf S) hr (a1 (pv 1))))))⟩
def Ll(h:2<=k:=by omega):OC S k "Dial" G.CD N6 (jv G):=P9 S Ky S.K5.Ni h λhq hr _ _ _=>⟨_,On S.C hq,ac (sf (pv 0) (pv 1)) (af (sf (pv 0) (pv 2)))⟩
def Gg(h:2<=k:=by omega):OC S k "Notebook" G.CN FH (iu G):=P9 S yo S.K5.xD h λhq hr _ _ _=>⟨_,Gc S.C hq,ac (sf (pv 0) dC) (ac (sf (pv 0) dC) (ac (sf (pv 0) dC) (ac (sf (pv 0) dC) (ac (sf (pv 0) dC) (af (sf (pv 0) Ki))))))⟩
def xj(h:2<=k:=by omega):OC S k "Trial" G.CT Mi (eL G):=P9 S G0 S.K5.Jr h λhq hr _ _ _=>⟨_,Mt S.C hq,ac (sf (pv 0) (pv 1)) (ac (sf (pv 0) (pv 2)) (af (sf (pv 0) dC)))⟩
def vA(h:1<=k:=by omega):O S k "is_name" Ir eK:=ge S Bc (S.fn 0 As) h λhq hr _ _ T=>⟨_,IC (G:=G) hq,af (ai (Dm iJ iJ aw (pv 0) (aD T.Ay)))⟩
def Gh(h:2<=k:=by omega):O S k "piece_at" FJ jH:=ge S yr (S.fn 4 xl) h λhq hr nd _ T=>⟨_,FW (G:=G) hq,ac (aE (AU (cr GD (pv 1) (cb bf T.len be (a1 (pv 0)))) (BS (jU (kO iJ iJ (aD T.gj) (px aN (pv 0) (pv 1)) (aD T.ET))))).pt (af (ai iH)) aq) (ac (se 2 nd (px aN (pv 0) (pv 1))) (ac (aE (jU (fL (ax (qS S) hr (a1 (pv 2))))) (af (ai (gc (a2 (pv 2) aw)))) aq) (ac (aE (cr GD (b8 gb (pv 1) aw) (cb bf T.len be (a1 (pv 0)))) (af (ai iH)) aq) (ac (se 3 nd (px aN (pv 0) (b8 gb (pv 1) aw))) (ac (se 4 nd (gp (cr bP (pv 2) (aD T.gj)) (ax (im S) hr (a1 (pv 3))) (ax (vA S) hr (a1 (pv 3))))) (af (ai (gp (fL (pv 4)) (gc (a2 (pv 2) (pv 3))) iH))))))))⟩
def ED(h:3<=k:=by omega):O S k "pieces_of" DL iO:=ge S v5 (S.fn 3 vC) h λhq hr nd _ T=>⟨_,D3 S.C hq,ac (aE (cr pC (cb bf T.len be (a1 (pv 0))) (aD T.tM)) (af (ai iH)) aq) (ac (se 1 nd (aF gQ)) (ac (se 2 nd aw) (ac (se 3 nd aw) (ac (xX R1 (cr pC (pv 3) aw) (ac (se 4 nd (ax (Gh S) hr (a2 (pv 0) (pv 2)))) (ac (aE (cr B3 (pv 4) iH) (af (ai iH)) aq) (ac (cH (gr Si Uu Uv jf (pv 1) (a1 (pv 4)))) (ac (au 2 nd (gp (fL (ax (qS S) hr (a1 (px fO (pv 4) aw)))) aw aw) xV) (af (au 3 nd (b8 kN (px fO (GZ T.cQ) (px fO (pv 4) aw)) aw) xV))))))) (ac (aE (cr t7 (pv 2) (cb bf T.len be (a1 (pv 0)))) (af (ai iH)) aq) (af (ai (pv 1))))))))⟩
def CZ(h:5<=k:=by omega):O S k "formula_of" B_ (g7 G):=ge S ui (S.fn 2 tz) h λhq hr nd _ _=>⟨_,Ct hq,ac (se 1 nd (ax (ED S) hr (a1 (pv 0)))) (ac (aE (cr B3 (pv 1) iH) (af (ai iH)) aq) (af (ai (gv (Jg S) hr (a1 (pv 1))))))⟩
def By(h:2<=k:=by omega):O S k "inlined" Iw (jk G):=ge S Bf (S.fn 8 Av) h λhq hr nd hu T=>⟨_,IH S.C hq,ac (se 2 nd (aF gQ)) (ac (cR R1 rfl (h9 (pf (pv 0))) (dX rfl (aG (gn 3 nd) (aG (gn 4 nd) cI))) (af (aE (lT (cr bP (pv 3) (aD T.Jl)) (j_ (cO (jW hu (pv 4) (pv 1))))).pt (af (cH (gr Si Uw Ux A4 (pv 2) (a1 (dS hu (pv 1) (pv 4) (λ_ _=>rfl)))))) (af (aE (fL (ax (qS S) hr (a1 (pv 3)))) (af (cH (gr Si Uw Ux kT (pv 2) (a1 (gc (a2 (pv 3) (pv 4))))))) (af (cH (gr Si Uu Uv jf (pv 2) (a1 (pv 3)))))))))) (af (ai (pv 2))))⟩
def tq(h:1<=k:=by omega):O S k "has_name" FL (dL G):=ge S yu (S.fn 9 xo) h λhq hr _ hu _=>⟨_,F0 S.C hq,af (ai (ML (Fa (jW hu (pv 1) (pf (pv 0)))) (JI (Fa (jW hu (pv 1) (pf (pv 0)))))))⟩
def wo(h:1<=k:=by omega):O S k "all_names" DM (ek G):=ge S v6 (S.fn 10 vD) h λhq hr _ _ T=>⟨_,Ea S.C hq,af (ai (b8 x5 (cy (nv rfl) T.list jE (a1 (pf (pv 0)))) (cy (nv rfl) T.list jE (a1 (pf (pv 0))))))⟩
def zp(h:1<=k:=by omega):O S k "names_before" yw (fX G):=ge S pM (S.fn 11 oG) h λhq hr nd _ T=>⟨_,yX S.C hq,ac (se 2 nd (cy (nv rfl) T.list jE (a1 (pf (pv 0))))) (ac (gL (cR R1 rfl (ue (pf (pv 0))) (gn 3 nd) (ac (aE (cr bP (pv 3) (pv 1)) (af JJ) aq) (af (cH (gr Si Uu Uv jf (pv 2) (a1 (pv 3)))))))) (af (ai (pv 2))))⟩
def Jh(h:1<=k:=by omega):O S k "is_read" Ix (lc G):=ge S Bg (S.fn 12 Aw) h λhq hr nd hu T=>⟨_,IL S.C hq,ac (cR R1 rfl (h9 (b8 x5 (cy (yf rfl) T.list jE (a1 (A_ (pf (pv 0))))) (cy (yf rfl) T.list jE (a1 (A_ (pf (pv 0))))))) (gn 2 nd) (af (aE (cO (jW hu (pv 1) (pf (pv 2)))) (af (ai JH)) aq))) (af (ai JH))⟩
def mn(h:1<=k:=by omega):O S k "names_below" Rs (cj G):=ge S rL (S.fn 13 q_) h λhq hr nd hu T=>⟨_,z8 S.C hq,ac (se 2 nd (cy sr T.dict ye (a1 (pf (pv 1))))) (ac (cR R1 rfl (vX (by rfl) T.reversed (a1 (cy (nv rfl) T.list jE (a1 (pf (pv 0)))))) (gn 3 nd) (af (aE (cO (jW hu (pv 3) (pv 2))) (af (cH (B5 (pv 2) (pf (dS hu (pf (pv 0)) (pv 3) (λ_ _=>rfl))) ⟨rfl,rfl,rfl,rfl⟩))) aq))) (af (ai (pv 2))))⟩
def qw(h:2<=k:=by omega):O S k "rested_on" DN (cV G):=ge S pN (S.fn 14 oH) h λhq hr nd hu _=>⟨_,Ec S.C hq,ac (se 2 nd (ax (mn S) hr (a2 (pv 0) (pv 1)))) (af (ai (LW (pl nd pN oH [("name",3)] (ue (pf (pv 0))) (gn 3 nd) (wX (cO (jW hu (pv 3) (pv 2)))) (pv 3)))))⟩
def jQ(h:1<=k:=by omega):O S k "value_now" DO (bp G):=ge S v9 (S.fn 15 vE) h λhq hr _ _ _=>⟨_,Ed S.C hq,af (ai (px aN (pf (pv 0)) (pf (pv 0))))⟩
def Al(h:1<=k:=by omega):O S k "verdicts_of" zQ (gx G):=ge S lZ (S.fn 31 lP) h λhq hr nd _ T=>⟨_,z9 S.C hq,ac (sl nd lZ lP [("number",3)] (h9 (pf (pv 0))) (gn 3 nd) gg (gp (cr om (pv 3) aw) (aD T.EU) (aD T.Gq))) (ac (gL (cR R1 rfl (ue (pf (pv 0))) (gn 2 nd) (af (JM (aD T.mX) (JL (pv 1) (pv 2) set_list))))) (af (ai (pv 1))))⟩
def lr(h:3<=k:=by omega):O S k "trial_of_now" yB (bM G):=ge S pS (S.fn 32 oJ) h λhq hr _ _ _=>⟨_,yY hq,af (ai (gv (xj S) hr (a2 (aF gQ) (aF (a1 (gc gQ))))))⟩
def zq(h:4<=k:=by omega):O S k "input_column" yC (fW G):=ge S k6 (S.fn 34 kz) h λhq hr nd _ T=>⟨_,y2 S.C hq,ac (aE (qE kf (pv 1) (pf (pv 2)) (by with_unfolding_all rfl)) (af (ai (ax (lN S) hr (a2 (ax (jQ S) hr (a1 (pv 0))) (cb bf T.len be (a1 (pf (pv 2)))))))) aq) (ac (se 3 nd (gr Si UL Vw pD (pf (pv 2)) (a1 (pv 1)))) (af (ai (ax (zo S) hr (a2 (pl nd k6 kz [("places",4)] (h9 (pf (pv 2))) (gn 4 nd) gg (px aN (pf (pv 0)) (px fO (pv 4) (pv 3)))) dC)))))⟩
def wq(h:68<=k:=by omega):O S k "column_in" DQ (eY G):=ge S v_ (S.fn 33 vF) h λhq hr nd hu T=>⟨_,Ef S.C hq,ac (se 3 nd (ax (mn S) hr (a2 (pv 0) (pv 2)))) (ac (gL (cR R1 rfl (gY (pf (pv 0))) (dX rfl (aG (gn 4 nd) (aG (gn 5 nd) cI))) (af (aE (lT (cO (jW hu (pv 4) (pv 3))) (j_ (cO (b9 hu (pv 4) (pf (pv 1)))))).pt (af (iM hu (pf (pv 1)) (pv 4) (ax (zq S) hr (a3 (pv 5) (pv 4) (pv 1))) rfl)) aq)))) (ac (gL (cR R1 rfl (gY (pf (pv 0))) (dX rfl (aG (gn 4 nd) (aG (gn 6 nd) cI))) (af (aE (lT (cO (jW hu (pv 4) (pv 3))) (j_ (cO (b9 hu (pv 4) (pf (pv 1)))))).pt (af (iM hu (pf (pv 1)) (pv 4) (ax (wn S) hr (a3 (pf (pv 6)) (pf (pv 1)) (cb bf T.len be (a1 (pf (pv 1)))))) rfl)) aq)))) (af (ai (ax (wn S) hr (a3 (pf (pv 2)) (pf (pv 1)) (cb bf T.len be (a1 (pf (pv 1))))))))))⟩
def hX(h:69<=k:=by omega):O S k "verdicts_in" zR (aX G):=ge S rN (S.fn 35 rh) h λhq hr _ hu _=>⟨_,z_ S.C hq,af (ai (ax (Al S) hr (a1 (ax (wq S) hr (a3 (pv 0) (pv 1) (dS hu (pf (pv 0)) (pv 2) (λ_ _=>rfl)))))))⟩
def Am(h:70<=k:=by omega):O S k "verdict_now" Sc (gy G):=ge S rO (S.fn 36 rj) h λhq hr _ _ _=>⟨_,Aa S.C hq,af (ai (px aN (ax (hX S) hr (a3 (pv 0) (B8 (lr S) hr) (pv 1))) aw))⟩
def ls(h:70<=k:=by omega):O S k "verdicts_now" yD (bN G):=ge S pU (S.fn 37 oK) h λhq hr nd hu _=>⟨_,y8 S.C hq,ac (se 1 nd (B8 (lr S) hr)) (ac (se 2 nd dC) (ac (gL (cR R1 rfl (ue (pf (pv 0))) (gn 3 nd) (af (iM hu (pv 2) (pv 3) (px aN (ax (hX S) hr (a3 (pv 0) (pv 1) (pv 3))) aw) rfl)))) (af (ai (pv 2)))))⟩
def zr(h:71<=k:=by omega):O S k "tell_verdict" yE (f7 G):=ge S pV (S.fn 38 oM) h λhq hr _ hu T=>⟨_,y9 S.C hq,ac (aE (cO (b9 hu (pv 1) (pf (pv 0)))) (af (ai (aF (a1 (aD T.d_))))) aq) (af (ai (aF (a1 (ax (Am S) hr (a2 (pv 0) (pv 1)))))))⟩
def wL(h:71<=k:=by omega):O S k "tell_verdicts" wG (fB G):=ge S ot (S.fn 39 n9) h λhq hr nd _ T=>⟨_,wI S.C hq,ac (se 1 nd (aF (a1 (cb eS T.len be (a1 (pf (pv 0))))))) (ac (cR R1 rfl (gY (Ba (ax (ls S) hr (a1 (pv 0))))) (dX rfl (aG (gn 2 nd) (aG (gn 3 nd) cI))) (af (cH (gr Si Uw Ux kT (pv 1) (a1 (gc (a2 (pv 2) (pv 3)))))))) (af (ai (pv 1))))⟩
def vB(h:1<=k:=by omega):O S k "counted" Iz (dY G):=ge S Bh (S.fn 42 Ax) h λhq hr _ _ T=>⟨_,IN hq,af (ai (b8 x5 (aF (a1 (cb bf T.len be (a1 (pv 0))))) (pv 0)))⟩
def C0(h:3<=k:=by omega):O S k "tell_rests" Cf (hU G):=ge S um (S.fn 40 tF) h λhq hr _ hu T=>⟨_,CB S.C hq,ac (aE (jU (fL (ax (tq S) hr (a2 (pv 0) (pv 1))))) (af (ai (aF (a1 (aD T.j8))))) aq) (ac (aE (cO (jW hu (pv 1) (pf (pv 0)))) (af (ai (aF (a2 aw (pv 1))))) aq) (af (ai (ax (vB S) hr (a1 (ax (qw S) hr (a2 (pv 0) (dS hu (pf (pv 0)) (pv 1) (λ_ _=>rfl)))))))))⟩
def uN(h:3<=k:=by omega):O S k "tell_test_rests" uo (eM G):=ge S lJ (S.fn 41 lz) h λhq hr _ hu T=>⟨_,uE S.C hq,ac (aE (cO (b9 hu (pv 1) (pf (pv 0)))) (af (ai (aF (a1 (aD T.d_))))) aq) (af (ai (ax (vB S) hr (a1 (ax (qw S) hr (a2 (pv 0) (dS hu (pf (pv 0)) (pv 1) (λ_ _=>rfl))))))))⟩
def An(h:2<=k:=by omega):O S k "tell_inputs" zT (gD G):=ge S rP (S.fn 43 rk) h λhq hr nd _ T=>⟨_,Ab S.C hq,ac (se 1 nd (aF (a1 (cb eS T.len be (a1 (pf (pv 0))))))) (ac (gL (cR R1 rfl (gY (pf (pv 0))) (dX rfl (aG (gn 2 nd) (aG (gn 3 nd) cI))) (af (cH (gr Si Uw Ux kT (pv 1) (a1 (gc (a4 (pv 2) (ax (jQ S) hr (a1 (pv 3))) (pf (pv 3)) (cb bf T.len be (a1 (pf (pv 3)))))))))))) (af (ai (pv 1))))⟩
def Ao(h:3<=k:=by omega):O S k "tell_inline" zU (gC G):=ge S rQ (S.fn 44 rl) h λhq hr nd hu T=>⟨_,Ac S.C hq,ac (aE (cO (b9 hu (pv 1) (pf (pv 0)))) (af (ai (aF (a1 (aD T.d_))))) aq) (ac (se 2 nd (dS hu (pf (pv 0)) (pv 1) (λ_ _=>rfl))) (ac (se 3 nd (ax (mn S) hr (a2 (pv 0) (pv 2)))) (ac (se 4 nd dC) (ac (gL (cR R1 rfl (gY (pf (pv 0))) (dX rfl (aG (gn 6 nd) (aG (gn 7 nd) cI))) (af (aE (cO (jW hu (pv 6) (pv 3))) (ac (se 5 nd (ax (By S) hr (a2 (pv 7) (pv 4)))) (ac (aE (cr pC (cb bf T.len be (a1 (pv 5))) (aD T.mY)) (af (ai (aF (a1 (aD T.xy))))) aq) (af (iM hu (pv 4) (pv 6) (pv 5) rfl)))) aq)))) (ac (se 5 nd (ax (By S) hr (a2 (pv 2) (pv 4)))) (ac (aE (cr pC (cb bf T.len be (a1 (pv 5))) (aD T.mY)) (af (ai (aF (a1 (aD T.xy))))) aq) (af (ai (ax (vB S) hr (a1 (pv 5)))))))))))⟩
def Gi(h:71<=k:=by omega):O S k "set_mark" FR (jM G):=ge S yF (S.fn 45 xq) h λhq hr _ _ T=>⟨_,F_ S.C hq,ac (sf (pv 0) (ax (ls S) hr (a1 (pv 0)))) (af (ai (aF (a1 (cb eS T.len be (a1 (pf (pv 0))))))))⟩
def EE(h:71<=k:=by omega):O S k "tell_news" DR (iW G):=ge S wb (S.fn 46 vG) h λhq hr nd hu T=>⟨_,Ek S.C hq,ac (se 1 nd (aF gQ)) (ac (se 2 nd aw) (ac (cR R1 rfl (gY (Ba (ax (ls S) hr (a1 (pv 0))))) (dX rfl (aG (gn 3 nd) (aG (gn 4 nd) cI))) (ac (se 5 nd (J7 hu (pf (pv 0)) (pv 3) (aD T.oj) ⟨rfl,rfl,rfl,rfl⟩)) (af (aE (cr om (pv 4) (pv 5)) (ac (au 2 nd aw xV) (af (cH (gr Si Uw Ux kT (pv 1) (a1 (gc (a3 (pv 3) (pv 5) (pv 4)))))))) aq)))) (af (ai (b8 x5 (aF (a1 (pv 2))) (pv 1))))))⟩
def iq(h:2<=k:=by omega):O S k "new_name_refusal" sG (bc G):=ge S k_ (S.fn 49 kC) h λhq hr _ _ T=>⟨_,sS hq,ac (aE (jU (fL (ax (vA S) hr (a1 (pv 1))))) (af (ai (aD T.lR))) aq) (ac (aE (fL (ax (tq S) hr (a2 (pv 0) (pv 1)))) (af (ai (aD T.rB))) aq) (ac (aE (cr GD (cb eS T.len be (a1 (pv 2))) (pv 3)) (af (ai (aD T.xx))) aq) (af (ai (aD T.jx)))))⟩
def C1(h:3<=k:=by omega):O S k "add_slider" Cg (g_ G):=ge S uq (S.fn 47 tG) h λhq hr nd hu T=>⟨_,CK S.C hq,ac (se 6 nd (ax (iq S) hr (a4 (pv 0) (pv 1) (pf (pv 0)) (aD T.oS)))) (ac (aE (cr om (pv 6) (aD T.jx)) (af (ai (aF (a1 (pv 6))))) aq) (ac (aE (jU (lT (fL (ax (im S) hr (a1 (pv 2)))) (lT (fL (ax (im S) hr (a1 (pv 3)))) (j_ (fL (ax (im S) hr (a1 (pv 5))))))).pt) (af (ai (aF (a1 (aD T.kG))))) aq) (ac (aE (AU (cr t7 (pv 4) aw) (AU (cr pC (pv 2) (pv 3)) (BS (cr pC (b8 gb (b8 yc (b8 kN (pv 3) (pv 2)) (pv 4)) aw) (aD T.rY))))).pt (af (ai (aF (a1 (aD T.jR))))) aq) (ac (se 7 nd (cy (Fx rfl) T.list jE (a1 (cy DF T.range Ih (a3 (pv 2) (b8 gb (pv 3) aw) (pv 4)))))) (ac (aE (qE kf (pv 5) (pv 7) (by with_unfolding_all rfl)) (af (ai (aF (a1 (aD T.gI))))) aq) (ac (iM hu (pf (pv 0)) (pv 1) (gv (Ll S) hr (a2 (pv 7) (gr Si UL Vw pD (pv 7) (a1 (pv 5))))) rfl) (af (ai (aF (a1 aw))))))))))⟩
def C2(h:3<=k:=by omega):O S k "add_choice" Ch (g9 G):=ge S ur (S.fn 48 tH) h λhq hr nd hu T=>⟨_,CJ S.C hq,ac (se 4 nd (ax (iq S) hr (a4 (pv 0) (pv 1) (pf (pv 0)) (aD T.oS)))) (ac (aE (cr om (pv 4) (aD T.jx)) (af (ai (aF (a1 (pv 4))))) aq) (ac (aE (AU (cr t7 (cb bf T.len be (a1 (pv 3))) aw) (AU (cr pC (cb bf T.len be (a1 (pv 3))) (aD T.rY)) (BS (cr t7 (cb Ii T.len be (a1 (cy (FC rfl) T.set L4 (a1 (pv 3))))) (cb bf T.len be (a1 (pv 3))))))).pt (af (ai (aF (a1 (aD T.jR))))) aq) (ac (cR R1 rfl (h9 (pv 3)) (gn 5 nd) (af (aE (jU (fL (ax (im S) hr (a1 (pv 5))))) (af (ai (aF (a1 (aD T.kG))))) aq))) (ac (aE (jU (kO iJ t7 aw (pv 2) (cb bf T.len be (a1 (pv 3))))) (af (ai (aF (a1 (aD T.gI))))) aq) (ac (iM hu (pf (pv 0)) (pv 1) (gv (Ll S) hr (a2 (pv 3) (pv 2))) rfl) (af (ai (aF (a1 aw)))))))))⟩
def mo(h:6<=k:=by omega):O S k "put_formula" zW (bO G):=ge S rS (S.fn 53 rq) h λhq hr nd hu T=>⟨_,Ad S.C hq,ac (se 5 nd (ax (CZ S) hr (a1 (pv 2)))) (ac (aE (cr B3 (pv 5) iH) (af (ai (aF (a1 (aD T.rC))))) aq) (ac (gL (cR R1 rfl (ue (pf (pv 5))) (gn 6 nd) (af (aE (qE kf (pv 6) (pv 3) (by with_unfolding_all rfl)) (af (ai (aF (a1 (aD T.tN))))) aq)))) (ac (iM hu (pv 0) (pv 1) (pv 5) rfl) (af (ai (aF (a1 (pv 4))))))))⟩
def Gj(h:7<=k:=by omega):O S k "add_cell" FS (jJ G):=ge S yG (S.fn 50 xr) h λhq hr nd _ T=>⟨_,F7 S.C hq,ac (se 3 nd (ax (iq S) hr (a4 (pv 0) (pv 1) (pf (pv 0)) (aD T.xz)))) (ac (aE (cr om (pv 3) (aD T.jx)) (af (ai (aF (a1 (pv 3))))) aq) (af (ai (ax (mo S) hr (a5 (pf (pv 0)) (pv 1) (pv 2) (ax (wo S) hr (a1 (pv 0))) aw)))))⟩
def Ap(h:7<=k:=by omega):O S k "change_cell" zV (gA G):=ge S rR (S.fn 51 rm) h λhq hr _ hu T=>⟨_,Ae S.C hq,ac (aE (cO (b9 hu (pv 1) (pf (pv 0)))) (af (ai (aF (a1 (aD T.j8))))) aq) (af (ai (ax (mo S) hr (a5 (pf (pv 0)) (pv 1) (pv 2) (ax (zp S) hr (a2 (pv 0) (pv 1))) aw))))⟩
def Gk(h:7<=k:=by omega):O S k "put_test" FT (jK G):=ge S yH (S.fn 52 xt) h λhq hr nd hu T=>⟨_,F8 S.C hq,ac (aE (jU (fL (ax (vA S) hr (a1 (pv 1))))) (af (ai (aF (a1 (aD T.lR))))) aq) (ac (se 3 nd (Fa (b9 hu (pv 1) (pf (pv 0))))) (ac (aE (lT (fL (pv 3)) (j_ (cr GD (cb eS T.len be (a1 (pf (pv 0)))) (aD T.xA)))).pt (af (ai (aF (a1 (aD T.xx))))) aq) (af (ai (ax (mo S) hr (a5 (pf (pv 0)) (pv 1) (pv 2) (ax (wo S) hr (a1 (pv 0))) (gp (fL (pv 3)) aw aw)))))))⟩
def EF(h:2<=k:=by omega):O S k "drop_name" DS (iR G):=ge S wc (S.fn 54 vH) h λhq hr nd _ T=>⟨_,Eu S.C hq,ac (aE (jU (fL (ax (tq S) hr (a2 (pv 0) (pv 1))))) (af (ai (aF (a1 (aD T.e9))))) aq) (ac (aE (fL (ax (Jh S) hr (a2 (pv 0) (pv 1)))) (af (ai (aF (a1 (aD T.Gp))))) aq) (ac (cH (uc (pf (pv 0)) (pv 1) iH ⟨rfl,rfl,rfl,rfl⟩)) (ac (cH (uc (pf (pv 0)) (pv 1) iH ⟨rfl,rfl,rfl,rfl⟩)) (ac (gL (cR R1 rfl (Ia (pf (pv 0))) (gn 2 nd) (af (cH (uc (pv 2) (pv 1) iH ⟨rfl,rfl,rfl,rfl⟩))))) (af (ai (aF (a1 aw))))))))⟩
def EG(h:1<=k:=by omega):O S k "drop_test" DT (iS G):=ge S wd (S.fn 55 vI) h λhq hr _ hu T=>⟨_,Ep S.C hq,ac (aE (cO (b9 hu (pv 1) (pf (pv 0)))) (af (ai (aF (a1 (aD T.d_))))) aq) (ac (cH (J8 (pf (pv 0)) (pv 1) ⟨rfl,rfl,rfl,rfl⟩)) (ac (cH (uc (pf (pv 0)) (pv 1) iH ⟨rfl,rfl,rfl,rfl⟩)) (af (ai (aF (a1 aw))))))⟩
def C3(h:1<=k:=by omega):O S k "turn_input" Ci (hJ G):=ge S uu (S.fn 56 tI) h λhq hr nd hu T=>⟨_,CL S.C hq,ac (aE (cO (b9 hu (pv 1) (pf (pv 0)))) (af (ai (aF (a1 (aD T.e9))))) aq) (ac (se 3 nd (dS hu (pf (pv 0)) (pv 1) (λ_ _=>rfl))) (ac (sf (pv 3) (cb (ji rfl) T.max lH (a2 aw (cb (kR rfl) T.min nu (a2 (b8 gb (pf (pv 3)) (pv 2)) (b8 kN (cb bf T.len be (a1 (pf (pv 3)))) aw)))))) (af (ai (aF (a1 (pf (pv 3))))))))⟩
def EH(h:1<=k:=by omega):O S k "set_input" DU (iT G):=ge S we (S.fn 57 vJ) h λhq hr nd hu T=>⟨_,Er S.C hq,ac (aE (cO (b9 hu (pv 1) (pf (pv 0)))) (af (ai (aF (a1 (aD T.e9))))) aq) (ac (se 3 nd (dS hu (pf (pv 0)) (pv 1) (λ_ _=>rfl))) (ac (aE (qE kf (pv 2) (pf (pv 3)) (by with_unfolding_all rfl)) (af (ai (aF (a1 (aD T.gI))))) aq) (ac (sf (pv 3) (gr Si UL Vw pD (pf (pv 3)) (a1 (pv 2)))) (af (ai (aF (a1 (pf (pv 3)))))))))⟩
def Aq(h:2<=k:=by omega):O S k "keep_preset" zX (gB G):=ge S rT (S.fn 58 rA) h λhq hr nd hu T=>⟨_,Af S.C hq,ac (aE (jU (kO iJ iJ aw (pv 1) (aD T.vN))) (af (ai (aF (a1 (aD T.kH))))) aq) (ac (se 2 nd dC) (ac (gL (cR R1 rfl (gY (pf (pv 0))) (dX rfl (aG (gn 3 nd) (aG (gn 4 nd) cI))) (af (iM hu (pv 2) (pv 3) (ax (jQ S) hr (a1 (pv 4))) rfl)))) (ac (iM hu (pf (pv 0)) (pv 1) (pv 2) rfl) (af (ai (aF (a1 (cb eS T.len be (a1 (pv 2))))))))))⟩
def wM(h:2<=k:=by omega):O S k "recall_preset" wH (fA G):=ge S ou (S.fn 59 n_) h λhq hr nd hu T=>⟨_,wJ S.C hq,ac (aE (cO (b9 hu (pv 1) (pf (pv 0)))) (af (ai (aF (a1 (aD T.kH))))) aq) (ac (se 2 nd aw) (ac (gL (cR R1 rfl (gY (dS hu (pf (pv 0)) (pv 1) (λ_ _=>rfl))) (dX rfl (aG (gn 3 nd) (aG (gn 4 nd) cI))) (ac (se 5 nd (dS hu (pf (pv 0)) (pv 3) (λ_ _=>rfl))) (af (aE (cr om (ax (jQ S) hr (a1 (pv 5))) (pv 4)) (ac (sf (pv 5) (gr Si UL Vw pD (pf (pv 5)) (a1 (pv 4)))) (af (au 2 nd aw xV))) aq))))) (af (ai (aF (a1 (pv 2)))))))⟩
def C4(h:69<=k:=by omega):O S k "tell_value" Cj (hC G):=ge S uv (S.fn 60 tJ) h λhq hr nd hu T=>⟨_,CG S.C hq,ac (aE (cO (jW hu (pv 1) (pf (pv 0)))) (af (ai (aF (a2 aw (ax (jQ S) hr (a1 (dS hu (pf (pv 0)) (pv 1) (λ_ _=>rfl)))))))) aq) (ac (aE (cO (b9 hu (pv 1) (pf (pv 0)))) (af (ai (aF (a1 (aD T.j8))))) aq) (ac (se 2 nd (ax (wq S) hr (a3 (pv 0) (B8 (lr S) hr) (dS hu (pf (pv 0)) (pv 1) (λ_ _=>rfl))))) (ac (aE (cO (jW hu aw (pf (pv 2)))) (af (ai (aF (a2 aw (dS hu (pf (pv 2)) aw (λ_ _=>rfl)))))) aq) (af (ai (aF (a2 aw (px aN (pf (pv 2)) aw))))))))⟩
def Hf(h:70<=k:=by omega):O S k "swept" Ml (jI G):=ge S Cm (S.fn 62 BB) h λhq hr nd hu T=>⟨_,Mx S.C hq,ac (sl nd Cm BB [("place",4)] (qD (by rfl) T.range (a1 (cb bf T.len be (a1 (pf (dS hu (pf (pv 0)) (pv 1) (λ_ _=>rfl))))))) (gn 4 nd) gg (gc (a1 (pv 4)))) (af (ai (ax (hX S) hr (a3 (pv 0) (gv (xj S) hr (a2 (aF (a1 (pv 1))) (pv 3))) (pv 2)))))⟩
def C6(h:71<=k:=by omega):O S k "tell_sweep" Ck (hR G):=ge S uw (S.fn 61 tL) h λhq hr nd hu T=>⟨_,CH S.C hq,ac (aE (cO (b9 hu (pv 1) (pf (pv 0)))) (af (ai (aF (a1 (aD T.e9))))) aq) (ac (aE (cO (b9 hu (pv 2) (pf (pv 0)))) (af (ai (aF (a1 (aD T.d_))))) aq) (ac (se 3 nd (ax (Hf S) hr (a3 (pv 0) (pv 1) (pv 2)))) (af (ai (b8 x5 (aF (a1 (cb bf T.len be (a1 (pv 3))))) (pv 3))))))⟩
def EI(h:71<=k:=by omega):O S k "tell_edge" DV (iU G):=ge S wg (S.fn 63 vK) h λhq hr nd hu T=>⟨_,En S.C hq,ac (aE (cO (b9 hu (pv 1) (pf (pv 0)))) (af (ai (aF (a1 (aD T.e9))))) aq) (ac (aE (cO (b9 hu (pv 2) (pf (pv 0)))) (af (ai (aF (a1 (aD T.d_))))) aq) (ac (aE (lT (cr om (pv 3) aw) (j_ (cr om (pv 3) (MM JP aw)))).pt (af (ai (aF (a1 (aD T.oh))))) aq) (ac (se 4 nd (ax (Hf S) hr (a3 (pv 0) (pv 1) (pv 2)))) (ac (se 5 nd (pf (dS hu (pf (pv 0)) (pv 1) (λ_ _=>rfl)))) (ac (se 6 nd (b8 gb (pv 5) (pv 3))) (ac (xX R1 (kO iJ t7 aw (pv 6) (cb bf T.len be (a1 (pv 4)))) (ac (aE (cr om (px aN (pv 4) (pv 6)) (px aN (pv 4) (pv 5))) (af (ai (aF (a1 (cb qH T.abs wZ (a1 (b8 kN (pv 6) (pv 5)))))))) aq) (af (au 6 nd (pv 3) xV)))) (af (ai (aF (a1 aw))))))))))⟩
def EJ(h:70<=k:=by omega):O S k "tell_grid" DW (iV G):=ge S p7 (S.fn 64 oN) h λhq hr nd hu T=>⟨_,Em S.C hq,ac (aE (AU (cO (b9 hu (pv 1) (pf (pv 0)))) (BS (cO (b9 hu (pv 2) (pf (pv 0)))))).pt (af (ai (aF (a1 (aD T.e9))))) aq) (ac (aE (cr bP (pv 1) (pv 2)) (af (ai (aF (a1 (aD T.oR))))) aq) (ac (aE (cO (b9 hu (pv 3) (pf (pv 0)))) (af (ai (aF (a1 (aD T.d_))))) aq) (ac (se 4 nd (cb bf T.len be (a1 (pf (dS hu (pf (pv 0)) (pv 1) (λ_ _=>rfl)))))) (ac (se 5 nd (cb bf T.len be (a1 (pf (dS hu (pf (pv 0)) (pv 2) (λ_ _=>rfl)))))) (ac (aE (cr pC (b8 sn (pv 4) (pv 5)) (aD T.rD)) (af (ai (aF (a1 (aD T.lA))))) aq) (ac (sl nd p7 oN [("k",8)] (qD (by rfl) T.range (a1 (b8 sn (pv 4) (pv 5)))) (gn 8 nd) gg (gc (a2 (b8 yc (pv 8) (pv 5)) (b8 L0 (pv 8) (pv 5))))) (ac (se 7 nd (ax (hX S) hr (a3 (pv 0) (gv (xj S) hr (a2 (aF (a2 (pv 1) (pv 2))) (pv 6))) (pv 3)))) (af (ai (aF (a3 (gr Si Wt Wu qI (pv 7) (a1 (aD T.EU))) (gr Si Wt Wu qI (pv 7) (a1 (aD T.Gq))) (gr Si Wt Wu qI (pv 7) (a1 (aD T.mX))))))))))))))⟩
def Ar(h:1<=k:=by omega):O S k "settings_at" zY (gz G):=ge S me (S.fn 67 lQ) h λhq hr nd _ T=>⟨_,Ah S.C hq,ac (se 2 nd (aF (a1 (gc (a2 (gc gQ) (pv 1)))))) (ac (cR R1 rfl (h9 (pv 0)) (gn 3 nd) (ac (se 4 nd (aF gQ)) (ac (cR R1 rfl (h9 (pv 2)) (dX rfl (aG (gn 5 nd) (aG (gn 6 nd) cI))) (ac (se 7 nd (cb (ji rfl) T.max lH (a2 aw (b8 kN (pf (pv 3)) (pv 6))))) (ac (se 8 nd (cb (kR rfl) T.min nu (a2 (b8 kN (cb bf T.len be (a1 (pf (pv 3)))) aw) (b8 gb (pf (pv 3)) (pv 6))))) (af (cR R1 rfl (HC (by rfl) T.range (a2 (pv 7) (b8 gb (pv 8) aw))) (gn 9 nd) (af (cH (gr Si Uu Uv jf (pv 4) (a1 (gc (a2 (b8 Mg (pv 5) (gc (a1 (pv 9)))) (b8 kN (pv 6) (cb qH T.abs wZ (a1 (b8 kN (pv 9) (pf (pv 3))))))))))))))))) (af (se 2 nd (pv 4)))))) (af (ai (pl nd me lQ [("places",5),("left",6)] (h9 (pv 2)) (dX rfl (aG (gn 5 nd) (aG (gn 6 nd) cI))) (wX (cr bP (pv 6) aw)) (pv 5)))))⟩
def C7(h:3<=k:=by omega):O S k "near_trial" Co (g8 G):=ge S nP (S.fn 66 mW) h λhq hr nd hu T=>have huN:=hr.units;⟨_,CP S.C hq,ac (se 3 nd (gc (a2 (pv 2) (cy DE T.tuple Ig (a1 (pv 1)))))) (ac (aE (cO (FB huN (pv 3) (pf (pv 0)))) (ac (sl nd nP mW [("name",5)] (h9 (pv 1)) (gn 5 nd) gg (dS hu (pf (pv 0)) (pv 5) (λ_ _=>rfl))) (af (Kg huN (pf (pv 0)) (pv 3) (gv (xj S) hr (a2 (pv 1) (ax (Ar S) hr (a2 (pv 4) (pv 2))))) rfl))) aq) (af (ai (Kf huN (pf (pv 0)) (pv 3) (λ_ _=>rfl)))))⟩
def zt(h:1<=k:=by omega):O S k "told_setting" yJ (fY G):=ge S p_ (S.fn 68 oP) h λhq hr nd _ T=>⟨_,zg hq,ac (se 3 nd (aF (a2 (pv 0) (cb bf T.len be (a1 (pv 1)))))) (ac (cR R1 rfl (Me (by rfl) T.zip (a2 (pv 1) (pv 2))) (dX rfl (aG (gn 4 nd) (aG (gn 5 nd) cI))) (af (cH (gr Si Uw Ux kT (pv 3) (a1 (gc (a2 (pv 4) (pv 5)))))))) (af (ai (pv 3))))⟩
def zu(h:70<=k:=by omega):O S k "tell_nearest" yI (fZ G):=ge S p9 (S.fn 65 oO) h λhq hr nd hu T=>⟨_,zi S.C hq,ac (aE (cO (b9 hu (pv 1) (pf (pv 0)))) (af (ai (aF (a1 (aD T.d_))))) aq) (ac (aE (jU (kO iJ iJ (aD T.Gq) (pv 2) (aD T.mX))) (af (ai (aF (a1 (aD T.mv))))) aq) (ac (se 3 nd (ax (qw S) hr (a2 (pv 0) (dS hu (pf (pv 0)) (pv 1) (λ_ _=>rfl))))) (ac (cR R1 rfl (qD (by rfl) T.range (a1 (b8 gb (aD T.xB) aw))) (gn 4 nd) (ac (se 5 nd (ax (C7 S) hr (a3 (pv 0) (pv 3) (pv 4)))) (af (aE (cr pC (cb bf T.len be (a1 (pf (pv 5)))) aw) (ac (se 6 nd (ax (hX S) hr (a3 (pv 0) (pv 5) (pv 1)))) (af (aE (qE HQ (pv 2) (pv 6) (by with_unfolding_all rfl)) (af (ai (ax (zt S) hr (a3 (pv 4) (pv 3) (px aN (pf (pv 5)) (gr Si UL Vw pD (pv 6) (a1 (pv 2)))))))) aq))) aq)))) (af (ai (aF (a1 (aD T.Az))))))))⟩
def qZ(h:72<=k:=by omega):O S k "answer_of_looking" qW (cu G):=ge S j6 (S.fn 74 j4) h λhq hr _ _ T=>⟨_,qY hq,ac (aE (cr bP (pv 1) (aD T.Gr)) (af (ai (ax (zr S) hr (a2 (pv 0) (px aN (pv 2) aw))))) aq) (ac (aE (cr bP (pv 1) (aD T.C9)) (af (ai (ax (wL S) hr (a1 (pv 0))))) aq) (ac (aE (cr bP (pv 1) (aD T.MK)) (af (ai (ax (C0 S) hr (a2 (pv 0) (px aN (pv 2) aw))))) aq) (ac (aE (cr bP (pv 1) (aD T.xC)) (af (ai (ax (uN S) hr (a2 (pv 0) (px aN (pv 2) aw))))) aq) (ac (aE (cr bP (pv 1) (aD T.INPUTS)) (af (ai (ax (An S) hr (a1 (pv 0))))) aq) (ac (aE (cr bP (pv 1) (aD T.Jq)) (af (ai (ax (Ao S) hr (a2 (pv 0) (px aN (pv 2) aw))))) aq) (ac (aE (cr bP (pv 1) (aD T.MARK)) (af (ai (ax (Gi S) hr (a1 (pv 0))))) aq) (af (ai (ax (EE S) hr (a1 (pv 0)))))))))))⟩
def tu(h:8<=k:=by omega):O S k "answer_of_making" sJ (dk G):=ge S li (S.fn 71 kD) h λhq hr _ _ T=>⟨_,sY hq,ac (aE (cr bP (pv 1) (aD T.Jm)) (af (ai (ax (C1 S) hr (a6 (pv 0) (px aN (pv 2) aw) (px aN (pv 2) aw) (px aN (pv 2) aw) (px aN (pv 2) aw) (px aN (pv 2) aw))))) aq) (ac (aE (cr bP (pv 1) (aD T.Jn)) (af (ai (ax (C2 S) hr (a4 (pv 0) (px aN (pv 2) aw) (px aN (pv 2) aw) (pv 3))))) aq) (ac (aE (cr bP (pv 1) (aD T.OM)) (af (ai (ax (Gj S) hr (a3 (pv 0) (px aN (pv 2) aw) (pv 3))))) aq) (ac (aE (cr bP (pv 1) (aD T.Jo)) (af (ai (ax (Ap S) hr (a3 (pv 0) (px aN (pv 2) aw) (pv 3))))) aq) (ac (aE (cr bP (pv 1) (aD T.ON)) (af (ai (ax (Gk S) hr (a3 (pv 0) (px aN (pv 2) aw) (pv 3))))) aq) (ac (aE (cr bP (pv 1) (aD T.OO)) (af (ai (ax (EF S) hr (a2 (pv 0) (px aN (pv 2) aw))))) aq) (af (ai (ax (EG S) hr (a2 (pv 0) (px aN (pv 2) aw))))))))))⟩
def qx(h:70<=k:=by omega):O S k "answer_of_standing" qb (cG G):=ge S jL (S.fn 72 jw) h λhq hr _ _ T=>⟨_,qr hq,ac (aE (cr bP (pv 1) (aD T.OP)) (af (ai (ax (C3 S) hr (a3 (pv 0) (px aN (pv 2) aw) (px aN (pv 2) aw))))) aq) (ac (aE (cr bP (pv 1) (aD T.Q6)) (af (ai (ax (EH S) hr (a3 (pv 0) (px aN (pv 2) aw) (px aN (pv 2) aw))))) aq) (ac (aE (cr bP (pv 1) (aD T.OQ)) (af (ai (ax (Aq S) hr (a2 (pv 0) (px aN (pv 2) aw))))) aq) (ac (aE (cr bP (pv 1) (aD T.EV)) (af (ai (ax (wM S) hr (a2 (pv 0) (px aN (pv 2) aw))))) aq) (af (ai (ax (C4 S) hr (a2 (pv 0) (px aN (pv 2) aw))))))))⟩
def tw(h:72<=k:=by omega):O S k "answer_of_trying" sK (dq G):=ge S lj (S.fn 73 kE) h λhq hr _ _ T=>⟨_,sZ hq,ac (aE (cr bP (pv 1) (aD T.Jp)) (af (ai (ax (C6 S) hr (a3 (pv 0) (px aN (pv 2) aw) (px aN (pv 2) aw))))) aq) (ac (aE (cr bP (pv 1) (aD T.OR)) (af (ai (ax (EI S) hr (a4 (pv 0) (px aN (pv 2) aw) (px aN (pv 2) aw) (px aN (pv 2) aw))))) aq) (ac (aE (cr bP (pv 1) (aD T.OS)) (af (ai (ax (EJ S) hr (a4 (pv 0) (px aN (pv 2) aw) (px aN (pv 2) aw) (px aN (pv 2) aw))))) aq) (af (ai (ax (zu S) hr (a3 (pv 0) (px aN (pv 2) aw) (px aN (pv 2) aw)))))))⟩
def EK(h:73<=k:=by omega):O S k "answer_of" DX (gN G):=ge S wj (S.fn 70 vL) h λhq hr _ _ T=>⟨_,Ey S.C hq,ac (aE (cr iJ (pv 1) (aD T.EV)) (af (cH (Kh (pf (pv 0))))) aq) (ac (aE (cr iJ (pv 1) (aD T.AA)) (af (ai (ax (tu S) hr (a4 (pv 0) (pv 1) (pv 2) (pv 3))))) aq) (ac (aE (cr iJ (pv 1) (aD T.oT)) (af (ai (ax (qx S) hr (a3 (pv 0) (pv 1) (pv 2))))) aq) (ac (aE (kO iJ iJ (aD T.Jp) (pv 1) (aD T.Gs)) (af (ai (ax (tw S) hr (a3 (pv 0) (pv 1) (pv 2))))) aq) (af (ai (ax (qZ S) hr (a3 (pv 0) (pv 1) (pv 2))))))))⟩
def Gm(S:Nd P w mg base G)(F:LY G.K "answers" "answers" uP f fd):ni P w G.K mg base Ji 74 f fd IA (nX G.K):=Q5 S Bi F (k:=73) λhq hr nd _ T=>⟨_,IZ S.C hq,ac (se 1 nd (Mh (Gg S) hr)) (ac (se 2 nd (aF gQ)) (ac (se 3 nd aw) (ac (xX R1 (cr t7 (pv 3) (cb bf T.len be (a1 (pv 0)))) (ac (se 4 nd (px aN (pv 0) (pv 3))) (ac (se 5 nd (b8 gb (b8 gb (pv 3) aw) (px fO (GZ T.dW) (pv 4)))) (ac (se 6 nd (Dp GL (pv 0) (wV (b8 gb (pv 3) aw)) (wV (pv 5)))) (ac (se 7 nd (aF gQ)) (ac (se 3 nd (pv 5)) (ac (aE (cr pC (px fO (GZ T.e_) (pv 4)) aw) (ac (se 3 nd (b8 gb (b8 gb (pv 5) aw) (px aN (pv 0) (pv 5)))) (af (se 7 nd (Dp GL (pv 0) (wV (b8 gb (pv 5) aw)) (wV (pv 3)))))) aq) (ac (se 8 nd (ax (EK S) hr (a4 (pv 1) (pv 4) (pv 6) (pv 7)))) (ac (cH (gr Si Uu Uv jf (pv 2) (a1 (cb bf T.len be (a1 (pv 8)))))) (af (cH (gr Si Uw Ux A4 (pv 2) (a1 (pv 8)))))))))))))) (af (ai (pv 2))))))⟩
end
def Bz:∀{l:List Int}{vs:List Value},xu l vs=true->Vals (iL l) vs
 |[],[],_=>.nil
 |i::l,.int j t::vs,h=>by have h':(i==j&&xu l vs)=true:=h;rw[SH,beq_iff_eq]at h';rw[h'.1];exact .cons ⟨t,rfl⟩ (Bz h'.2)
def Ng.map{I I2:Str->Int->Prop}{U U2:Str->Addr->List Int->Prop}{Z Z2:Str->Prop}{HP HW HR:Addr}(f:∀{x i},I x i->I2 x i)(g:∀{x a l},U x a l->U2 x a l)(z:∀{x},Z x->Z2 x)(r:Ng I U Z HP HW HR):Ng I2 U2 Z2 HP HW HR:=
 ⟨f r.Ay,f r.oQ,f r.kF,f r.gj,f r.Jl,f r.OK,f r.OL,f r.MJ,f r.Gn,f r.vM,f r.xw,f r.Go,f r.ET,g r.cQ,f r.tM,f r.jx,f r.lR,f r.rB,f r.xx,f r.kG,f r.jR,f r.gI,f r.e9,f r.j8,f r.d_,f r.rC,f r.tN,f r.Gp,f r.kH,f r.oh,f r.oR,f r.lA,f r.mv,f r.Az,f r.xy,f r.kI,f r.tO,f r.Gq,f r.EU,f r.mX,f r.mY,f r.oj,f r.oS,f r.rY,f r.xz,f r.xA,f r.vN,f r.rD,f r.xB,f r.Jm,f r.Jn,f r.OM,f r.Jo,f r.ON,f r.OO,f r.AA,f r.OP,f r.Q6,f r.OQ,f r.EV,f r.oT,f r.Gr,f r.C9,f r.MK,f r.xC,f r.INPUTS,f r.Jp,f r.OR,f r.OS,f r.Gs,f r.Jq,f r.MARK,g r.dW,g r.e_,z r.len,z r.max,z r.min,z r.abs,z r.range,z r.list,z r.set,z r.dict,z r.tuple,z r.zip,z r.enumerate,z r.reversed⟩
def fin{P:ZV}{w:World}{K:Rl}{mg:Str->Option Value}{h:Heap}{fa:Addr}(X:K.In h)(N:h.Ns ZU mg)(hfa:mg "answers"=zS (.ref fa))(A0:∀r∈R,Qn K r.1 r.2)(r:Raw K):∃fd:aav,(∀(s:ZW)(us:List Value),us.length=(["calls"]:List Str).length->BindsTo s fd ⟨us,[]⟩ ((["calls"]:List Str).zip us))/\∀base:Heap,K.In base->base.Ns ZU mg->ni P w K mg base Ji 74 fa fd ["calls"] (nX K):=by obtain⟨CF,CD,CN,CC,CT,HP,HW,HR,A,T,B⟩:=r;have cl:∀{x q st c},P_ K x q st c->MH K x q st c:=λ⟨f,_,_,_,_,_,_,_,_,_,ns,a,i,l,c,k,pg,hd,po,sa,mk,kc⟩=>⟨ns,⟨f,_,⟨mk,a,i,kc⟩,Kb l c k⟩,⟨pg,hd,po,sa⟩⟩;have F:∀r∈R,MG K r.1 r.2:=λr hr=>let⟨f,_,_,_,_,_,_,_,_,_,a,l,c,k⟩:=A0 r hr;⟨f,_,a,Kb l c k⟩;have C5:AllP (MH K) CF CD CN CC CT:=⟨cl A.Formula,cl A.Ni,cl A.xD,cl A.EW,cl A.Jr⟩;have T2:Tx mg ⟨K,CF,CD,CN,CC,CT,HP,HW,HR⟩:=T.map (λ⟨t,e⟩=>⟨t,Ws X N e⟩) (λ⟨_,aR,n,_,e,k,z,v⟩=>⟨Ws X N e,λH=>.inr ⟨_,aR,n,k,rfl,rfl,RO z (by decide),Bz v⟩⟩) (λe=>PySem.W.mg_none_of X N e);obtain⟨f,fd,e,F2⟩:=(F ("answers",uP) (Rz (i:=69) rfl)).ex;cases hfa.symm.trans (Ws X N e);refine⟨fd,?_,λbase _ _=>Gm (P:=P) (w:=w) (base:=base) (G:=⟨K,CF,CD,CN,CC,CT,HP,HW,HR⟩) ⟨⟨_,X,N⟩,T2,⟨C5.Formula.cl,B.tP,B.BC,B.wN,C5.Ni.cl,B.wO,B.mZ,C5.xD.cl,B.tQ,B.wP,B.wQ,B.qz,B.iC,B.jr,C5.EW.cl,B.qA,B.Gu,B.BD,B.m5,C5.Jr.cl,B.wR,B.m6,B.qB,T2.cQ.2,T2.dW.2,T2.e_.2⟩,F,C5⟩ F2⟩;obtain⟨oc,od,kV,doc,pm,an,cdv,ct,osl,rfl,lk,hcd⟩:=F2.ex;exact λs us hu=>match us,hu with|[_],_=>.of_eq rfl
end Nb
open PySem PySem.W PyProof.Rows
theorem PySem.Challenge.cw_notebooktests_s01_answers_holds : PySem.Challenge.rw_notebooktests_s01_answers.Holds := by
  refine Nh.Qw fun h1 h2 h3 h4 h5 => ?_
  refine L2.Ge (k := 74) (CX := L2.Ji) (ps := ["calls"]) (sp := Nb.nX) Nh.ws h1 rfl ⟨rfl, by decide, by decide⟩ h3 ?F ?S (fun _ _ _ _ z => z)
  case F => exact fun w mg fa h Y X N hm => Nb.fin X N (by rw [h2] at hm; exact hm) (h4 w.params) (h5 w.params)
  case S =>
    intro K H xs a hO hwi hask hx
    cases hx with
    | cons h1 h2 =>
      cases h2
      cases h1 with
      | lst hs ha =>
        have e := L2.Hd a.1 _ ha
        subst e
        obtain ⟨ks, e1, e2, e3, e4⟩ := ak.wU (l := a.1) hask
        rw [e1] at hs
        refine ⟨_, ks, rfl, hs, e2, e3, fun H' p _ _ hp => ?_⟩
        refine (congrArg (fun z => L2.Dw K H' (.ref p) (Codec.enc _ z)) e4).mpr ?_
        exact .lst (L2.cD.of hp) (L2.G_ _)

import PyProof.Rows.All
import Wide.All
import OpenK.AllK
import Wide.FinOn
import Lean
import PyProof.EqAt
import PyProof.EqKinds
import PyProof.TupleCall
import PyProof.NeData
import PyProof.P3In
import PyProof.DictItems
import KE.KPairComp
import KE.KTryMore
import PyProof.DictCompW
import PyProof.Rows.ZipGen
import PyProof.ListNew
import Open.Pieces
import KE.KRevSl
import PyProof.Draws
import PyProof.EnumMake
import KE.KItemsList
import PyProof.Rows.Chain
import PyProof.ReprRoads
import PyProof.AttrMissHeap
import PyProof.DictUpdate
import PySem.Challenge.RW_shapestring_k64_whole_there_and_back
set_option Elab.async false
set_option linter.all false
set_option maxRecDepth 100000
set_option maxHeartbeats 0
local macro_rules | `(()) => `(by lia)
local macro_rules | `(∅) => `(by simp)
local macro_rules | `(⋯) => `(by decide +kernel)
local macro_rules | `(tactic| show $e:term) => `(tactic| refine $e)
local macro_rules | `(↥$x) => `(($x).heap.objs.size)
local macro_rules | `(⇑$x) => `(PySem.model ($x).prog ($x).w)
local macro_rules | `(‹$e›) => `(by simpa using $e)
open Array renaming getElem?_eq_some_iff->gg,getElem?_setIfInBounds_ne->qy,length_toList->qz,toList_map->uA,forIn_toList->Lp,getElem?_eq_getElem->Lq,getElem?_eq_none->Lr,getElem_setIfInBounds->Ls,size_push->Lu
open Array.Perm renaming refl->NN
open Bool renaming false_ne_true->bB,eq_iff_iff->fm,and_eq_true->gH,false_eq_true->iM,and_eq_true_iff->uB,or_true->uC,not_eq_true'->Lv
open Classical renaming byContradiction->qA
open Iff renaming rfl->uD
open Int renaming toNat_of_nonneg->iN,toNat_natCast->kG,emod_lt_of_pos->qC,emod_nonneg->qD,le_trans->uE,natCast_mul->LC
open List renaming mem_map->ar,length_map->ay,mem_cons->aG,getElem?_eq_some_iff->aI,map_append->aL,mem_singleton->aQ,length_append->aU,getElem?_eq_getElem->aX,map_cons->aY,mem_of_getElem?->aZ,mem_append->a_,getElem?_map->bf,length_take->bu,size_toArray->bx,map_map->bC,take_add_one->bG,mem_cons_of_mem->bJ,nodup_append->bV,length_singleton->bY,length_cons->cE,length_drop->cF,nodup_cons->cJ,take_length->cX,mem_append_left->dD,mem_filter->dG,filter_cons->dR,not_mem_nil->dS,getElem?_append_left->ef,length_filter_le->eg,append_nil->eG,getElem?_of_mem->eI,mem_append_right->eY,filter_append->fq,perm_append_comm->ft,getLast?_eq_getElem?->gi,mem_cons_self->gq,mem_flatMap->gI,length_pos_iff->ib,mem_range->ic,pairwise_map->ie,take_append_drop->ig,getElem?_append_right->iO,lookup_cons->iP,map_congr_left->iQ,take_of_length_le->iR,eraseIdx_sublist->jn,filter_nil->jo,nodup_nil->jq,all_eq_true->kH,length_nil->kI,mem_iff_getElem?->kJ,find?_cons->mE,flatMap_append->mF,forIn_cons->mG,getElem_mem->mH,map_id->mI,map_take->mJ,any_cons->qF,any_eq_true->qG,contains_cons->qH,getElem?_drop->qI,getElem?_take_of_lt->qJ,getElem?_zip_eq_some->qK,length_range->qL,any_map->uG,getElem?_eq_none->uH,getElem?_set_ne->uI,getElem?_set_self->uJ,length_eraseIdx_of_lt->uK,map_drop->uL,mem_filterMap->uM,of_mem_zip->uN,all_cons->Al,append_assoc->Am,drop_eq_getElem_cons->An,drop_of_length_le->Ao,exists_cons_of_length_eq_add_one->Ap,ext_getElem->Aq,ext_getElem?->Ar,filterMap_cons->As,filter_eq_self->Au,forIn_nil->Av,head?_eq_getElem?->Aw,map_eq_nil_iff->Ax,map_nil->Ay,mem_erase_of_ne->Az,nil_append->AA,pairwise_cons->AB,perm_cons_erase->AC,take_zero->AD,all_map->LJ,any_eq_false->LK,drop_length->LL,drop_sublist->LM,drop_zero->LN,exists_mem_of_ne_nil->LO,filter_eq_nil_iff->LP,foldl_append->LQ,foldl_cons->LR,foldl_nil->LS,getElem?_cons_succ->LU,getElem?_eq_none_iff->LV,getElem?_range->LW,getElem?_replicate->LX,getLast?_append->LY,length_erase_of_mem->LZ,length_pos_of_mem->L5,length_zip->L6,map_snd_zip->L7,mem_of_mem_drop->L8,nodup_range->L9,pairwise_iff_getElem->L_,pairwise_singleton->Ma,perm_ext_iff_of_nodup->Mb,perm_middle->Mc,reverse_cons->Md,zip_cons_cons->Me
open List.Pairwise renaming imp_of_mem->LD
open List.Perm renaming of_eq->mB,refl->LF
open List.Sublist renaming map->LG,refl->LH,append->NP
open Nat renaming le_refl->aq,ne_of_lt->bo,zero_le->bE,lt_of_lt_of_le->b_,lt_irrefl->c7,le_trans->dn,ne_of_gt->jr,mod_lt->kK,lt_succ_of_lt->mL,le_of_lt->qM,le_succ->qO,lt_succ_self->qP,lt_trans->qQ,sub_zero->uO,zero_add->uP,add_le_add_left->AE,le_add_right->AF,le_of_eq->AG,log2_lt->AH,lt_of_le_of_lt->AI,mod_eq_of_lt->AJ,pow_le_pow_right->AK,add_comm->Mf,add_lt_add_left->Mg,add_mod_right->Mh,add_zero->Mi,min_eq_left->Mj,min_le_right->Ml,min_self->Mm,mod_add_mod->Mn,mul_le_mul->Mo,mul_pos->Mp,sub_self->Mq
open Nat.succ renaming inj->AL
open Ne renaming symm->ax
open Option renaming map_eq_some_iff->cw,map_some->mO,getD_some->AM,isSome_iff_exists->AN,isSome_map->AO,getD_none->Mr
open Option.some renaming inj->dz,injEq->NQ
open Prod renaming ext->kL
open Prod.mk renaming inj->jv,injEq->qR
open PyProof.Rows renaming wpS_bind->bR,wpS_pure->dq,boot_int->gJ,boot_tuple->jw,slot_tuple_getitem->jx,boot_isinstance->mQ,wpS_forRange->ni,wpS_get->nj,wpS_modify->nq,callWith_type1->qT,wpS_mono->q5,boot_list->uS,boot_max->uT,Subscript_->uW,reverseSlice'_eq->uX,slicePart_none->uY,args_tuple_getitem->A1,entry_tuple_getitem->A4,tupleItemsOf_->A_,args_list_sort->M8,entry_list_sort->Na,slot_list_sort->Nj,slot_tuple_getitem->Nk,subscriptTail_builtinR->Nl,boot_bool->NR,boot_dict->NT,boot_range->NU,boot_str->NV,callWith_builtin1->NW,floordiv_int->NY,lt_int->NZ
open PyProof.Rows.IsTup renaming new->uF
open PySem renaming wpAny_bind->aa,wpAny_pure->af,wpAny_mono->bF,wpAny_field->bQ,sizeLine_eq->cK,wpAny_holding->cL,wpAny_newObj_type->dW,wpAny_call_entry->fu,wpAny_loadPart_at->fB,wpAny_setField->fC,wpAny_callSpecial?_slot->iS,wpAny_truthy_bool->iT,wpAny_attempt->jz,wpAny_fieldsOf->jA,call_meetsIn->kN,codeAny_builtin->kO,wpAny_isSubtype_exc->kP,wpAny_passesOwn->kQ,wpAny_seqItems->kT,wpAny_standAt->kU,wpAny_updateSeq->kW,mem_of_lookup->mU,codeAny_mono->mY,plainId_quiet->m4,tupleKind_room_in1->m5,wpAny_Call_Name_kw->m6,wpAny_call->m7,wpAny_dictEntries->m8,wpAny_dictEpoch->m9,wpAny_execs_nil->m_,wpAny_letGo->ng,wpAny_setField_rec->nh,wpAny_of_eq->qY,wpAny_typeOf->qZ,wpAny_isOneOf_itemiter->uZ,wpAny_loadPart->u4,wpAny_throw->u5,wpAny_tryCatch->u6,wpAny_typeNameOfWhole_itemiter->u7,wpAny_typeNameOfWhole_keyiter->u9,wpAny_typeNameOf_itemiter->u_,wpAny_typeNameOf_keyiter->vd,call_meets->A0,codeAny_call_builtin->A2,codeAny_handlers_test->A3,evalPart_none->A5,isSubtype_stop->A6,join_length_add->A7,seqIndex_neg->A8,seqIndex_of->A9,wpAny_Call_method->Ba,wpAny_Name->Bb,wpAny_comprehension_free->Bc,wpAny_handleBy_cons->Bd,wpAny_handled->Be,wpAny_isInstance->Bf,wpAny_isOneOf_keyiter->Bh,wpAny_loadPart'->Bi,wpAny_newTuple->Bj,wpAny_pyIter_list->Bl,wpAny_rule->Bm,wpAny_sequenceKey->Bn,wpAny_specialOf->Bo,boot_len->MZ,builtinLookup_eq_fast->M9,codeAny_call_function->M_,fitsIndex_both->Nb,noFill_tuple_add->Nc,pastItsLine_dict->Nf,plainObj_wpAny_Assign_Attribute->Ng,pyReprObj_of_reads->Nh,slot_list_getitem->Ni,typeLookup_type->Nn,wpAny_Call_method_late->Np,wpAny_Compare1->Nq,wpAny_Dict_empty->Nt,wpAny_Try_except->Nu,wpAny_Tuple_spliced->Nv,wpAny_assign_Name->Nw,wpAny_entryPlaceOf->Nx,wpAny_eqBool_int->Ny,wpAny_execs_cons->Nz,wpAny_forIn_list->NA,wpAny_frameOf_fun->NB,wpAny_isTrue_Compare1->NC,wpAny_lookBehind->ND,wpAny_newFunctionEnv->NF,wpAny_newFunctionEnv_cells->NG,wpAny_nextOf_list_item->NH,wpAny_notOrdered_dict->NI,wpAny_pyIter_enum->NJ,wpAny_pyIter_keyiter->NK,wpAny_pyIter_slot->NL,wpAny_pyIter_tuple->NM
open PySem.Around renaming under_plainId->my
open PySem.AutoSeq1 renaming list_insert_list_int_val_1->N0,wpAny_loadPart'->N4
open PySem.Calls renaming callWith_builtin->kD,evalArgs_plain->kE,spliced_cons->kF,spliced_nil->mz,Name_function_global->Lw
open PySem.CmpOf renaming ints_lt->Lx
open PySem.Code renaming quiet_builtin->Ly
open PySem.EqMixed renaming eq_bool_str->N5,eq_int_str->N6,eq_str_bool->N7,eq_str_int->N8,ne_bool_str->N9,ne_int_str->N_,ne_str_bool->Oa,ne_str_int->Ob
open PySem.EqNone renaming eq_bool_none->Oc,eq_int_none->Od,eq_none_bool->Oe,eq_none_int->Of,eq_none_none->Og,eq_none_str->Oh,eq_str_none->Oi,ne_bool_none->Oj,ne_int_none->Ol,ne_none_bool->Om,ne_none_int->On,ne_none_none->Oo,ne_none_str->Oq,ne_str_none->Os
open PySem.F renaming plainAttrs_list->eJ,slot_list_append->gK,type_list_append->gL,plain_min_loop->kM,slot_dict_get->mT,excBase_ValueError->qU,plainAttrs_dict->qV,slot_dict_itemiterator_next->qW,slot_dict_keyiterator_next->qX,entry_dict_get->uU,entry_min_loop->AQ,slot_list_insert->AR,slot_tuple_index->AS,args_dict_get_2->Mu,args_dict_get_3->Mv,args_dict_itemiterator_next_1->Mw,args_dict_keyiterator_next_1->Mx,args_tuple_add_2->My,entry_dict_itemiterator_next->Mz,entry_dict_keyiterator_next->MA,entry_tuple_add->MB,plainAttrs_tuple->MC,slot_dict_items->MD,slot_dict_items_iter->ME,slot_dict_iter->MG,slot_dict_pop->MH,slot_dict_setdefault->MI,slot_dict_values->MJ,slot_list_pop->ML,slot_tuple_add->MM,type_dict_get->MN,type_list_insert->MO,type_list_pop->MP,type_tuple_index->MQ
open PySem.Heap renaming get?_push_of_some->aE,lt_size->aF,get?_push_size->br,get?_update_other->di,get?_update_self->d_,get?_none_of_le->jl,size_push->jm,get?_update_ne->qB,get?_push_at->LB
open PySem.Heap.DictOf renaming new->NO
open PySem.Heap.IsSliceOf renaming new->Lz
open PySem.Heap.Ns1 renaming of_empty->LA
open PySem.Heap.SameBut renaming update->Ak
open PySem.Obj renaming data_mapFields->jt,isFreed_of_fields->ju,cls_mapFields->uQ
open PySem.Paired renaming length->mP,snoc->Ms
open PySem.PassesOwn renaming never->cY,leaving->uR
open PySem.PyData renaming noDict_hsm->Mt
open PySem.SeqAt renaming in_tupleAt->M6,compareEq_reads->Ou,compareNe_reads->Ov,eqAt_reads->Ow,in_list_reads->Ox,in_tuple_reads->Oy,notIn_list_reads->Oz,notIn_tuple_reads->OA
open PySem.SeqAt.EqAt renaming int_int->M0,int_str->M4,str_int->M5,bool_bool->OE,bool_int->OF,bool_none->OG,bool_str->OH,int_bool->OI,int_none->OJ,none_bool->OL,none_int->OM,none_str->ON,same->OO,str_bool->OP,str_none->OQ,str_str->OR
open PySem.SeqAt.ReadsAll renaming length->Ot
open PySem.Str renaming length_append->jy
open PySem.W renaming mg_none_of->dU,mg_of->gr,kia_one->gO,exm_cls->uV,any_some->AU,callWith_K->AV,cellsFrom_some->AW,looks_clsIn->AX,looks_findIn->AY,plainGet_of->AZ,bind_fn->MR,codeRec_of->MS,kitx_dict->MU,kitx_list->MV,methodCall_KW->MW,set_plain->MY
open PySem.W.KIN renaming signs_num->OB
open PySem.W.Looks renaming here->OC
open PySem.Walks renaming list->M7
open PySem.Within renaming cons->OD
open Std.Legacy.Range renaming forIn_eq_forIn_range'->OS
open Sum.inl renaming inj->mV
theorem OT.{u}{c : Prop}{h : Decidable c}(a : ¬c){α : Sort u}{t e : α} : (if c then t else e)=e := if_neg a
theorem OU.{u}{c : Prop}{h : Decidable c}(a : c){α : Sort u}{t e : α} : (if c then t else e)=t := if_pos a
theorem OV{p : Prop}[h : Decidable p](a : p) : decide p=true := decide_eq_true a
theorem OW{p : Prop}[h : Decidable p](a : ¬p) : decide p=false := decide_eq_false a
theorem OX{p : Prop}[h : Decidable p](a : decide p=true) : p := of_decide_eq_true a
variable {OY:List (PySem.Addr×PySem.Obj)}{s:PySem.Shared}{P:PySem.Program}{w:PySem.World}{A:PySem.Around}{mg:PySem.Str->Option PySem.Value}{base:PySem.Heap}{us:List PySem.Value}{E:PySem.Value->PySem.Shared->Prop}{fd:PySem.FuncData}{K:PySem.W.Frag}{scope:PySem.Scope}
section
namespace L2
open PySem
def dY(s:Stmt):Arguments:=match s with
 |.FunctionDef _ a _ _ _ _ _ _ _ _=>a
 |_=>{posonlyargs:=[],args:=[],vararg:=none,kwonlyargs:=[],kw_defaults:=[],kwarg:=none,defaults:=[]}
def df(s:Stmt):List Stmt:=match s with
 |.FunctionDef _ _ b _ _ _ _ _ _ _=>b
 |_=>[]
def ao(s:Stmt):Scope:=match s with
 |.FunctionDef _ _ _ _ _ _ sc _ _ _=>sc
 |_=>{kind:=.function,names:=[],isGenerator:=false,isCoroutine:=false}
end L2
namespace K51
open PySem L2
def K6:Nat:=51
def aw(i:Nat):Stmt:=PySem.Challenge.pw_shapestring_k64_whole_there_and_back.main.body.getD i (.Pass ⟨0,0,0,0⟩)
def top(i:Nat):Stmt:=aw (K6+i)
def lP(c j:Nat):Stmt:=match aw c with
 |.ClassDef _ _ _ body _ _ _ _ _ _ _=>body.getD j (.Pass ⟨0,0,0,0⟩)
 |_=>.Pass ⟨0,0,0,0⟩
abbrev lI:Stmt:=lP 7 0
abbrev lh:Stmt:=lP 8 0
abbrev ph:Stmt:=aw 10
abbrev nW:Stmt:=aw 11
abbrev pD:Stmt:=aw 13
abbrev oH:Stmt:=aw 14
abbrev nC:Stmt:=aw 15
abbrev nQ:Stmt:=aw 17
abbrev nv:Stmt:=aw 19
abbrev oK:Stmt:=aw 20
abbrev nU:Stmt:=aw 23
abbrev lD:Stmt:=aw 24
abbrev oM:Stmt:=aw 25
abbrev pj:Stmt:=aw 26
abbrev qc:Stmt:=aw 27
abbrev pz:Stmt:=aw 28
abbrev pG:Stmt:=aw 29
abbrev jg:Stmt:=lP 30 0
abbrev lp:Stmt:=lP 30 1
abbrev lW:Stmt:=lP 30 3
abbrev jO:Stmt:=aw 35
abbrev nB:Stmt:=aw 36
abbrev kY:Stmt:=aw 37
abbrev nr:Stmt:=aw 38
abbrev kX:Stmt:=aw 39
abbrev jB:Stmt:=aw 40
abbrev jD:Stmt:=aw 41
abbrev lH:Stmt:=aw 42
abbrev jY:Stmt:=aw 43
abbrev lX:Stmt:=aw 44
abbrev lJ:Stmt:=aw 45
abbrev k_:Stmt:=aw 46
abbrev ir:Stmt:=aw 47
abbrev og:Stmt:=aw 49
abbrev sAt:Stmt:=top 0
abbrev qu:Stmt:=top 1
abbrev pF:Stmt:=top 2
abbrev pq:Stmt:=top 3
abbrev oI:Stmt:=top 4
abbrev qd:Stmt:=top 5
abbrev oi:Stmt:=top 6
abbrev qe:Stmt:=top 7
abbrev pk:Stmt:=top 8
abbrev pE:Stmt:=top 9
abbrev nJ:Stmt:=top 10
abbrev oJ:Stmt:=top 11
abbrev pB:Stmt:=top 12
abbrev oh:Stmt:=top 13
abbrev pA:Stmt:=top 14
abbrev px:Stmt:=top 15
abbrev p_:Stmt:=top 17
abbrev nR:Stmt:=top 18
abbrev jH:Stmt:=top 19
abbrev jN:Stmt:=top 20
abbrev iY:Stmt:=top 21
abbrev iK:Stmt:=top 22
end K51
end
section
namespace K15
open PySem L2 PySem.W K51
noncomputable def cO'(x y:Str)(t l n a b:Nat):Obj:=⟨.type "code",none,.fields #[.str x t,.str y (t+1),.str "/claim/cut.py" (t+2),.int l 0,.int n 0,.int 0 0,.int 0 0,.int 3 0,.ref a,.bool true,.int 181 0,.ref (a+1),.none,.ref (a+2),.ref (a+3),.ref (a+4),.int b 0,.int l 0,.str "/claim/cut.py" (b+1)],#[]⟩
noncomputable def cN'(x y:Str)(t l n a b:Nat):Obj:=⟨.type "code",none,.fields #[.str x t,.str y (t+1),.str "/claim/cut.py" (t+2),.int l 0,.int n 0,.int 0 0,.int 0 0,.int 3 0,.ref a,.bool true,.int 181 0,.ref (a+1),.none,.none,.none,.ref (a+2),.int b 0,.int l 0,.str "/claim/cut.py" (b+1)],#[]⟩
noncomputable def fO'(x y:Str)(s:Stmt)(m:Str)(t c:Nat):Obj:=⟨.type "function",none,.func (fnOf x y (dY s) (df s) (ao s) .none .none .none (.str m t) none (.ref c) .none),#[]⟩
noncomputable def dE(P:Params)(x:Str)(t:Nat)(v:Value):DictEntry:=PySem.DictEntry.mk (PySem.PyData.keyHash P x) (.str x t) v
noncomputable def cO(x:Str):=cO' x x
noncomputable def cN(x:Str):=cN' x x
noncomputable def fO(x:Str):=fO' x x
noncomputable def fL(x:Str)(s:Stmt):=fO x s "law_shapestring_k64_whole_there_and_back" 676
noncomputable def eC(x:Str)(b a r k:Nat):Obj:=⟨.type "type",none,.cls (PySem.ClassData.mk x [.ref b] [.ref a,.ref b,.type "ValueError",.type "Exception",.type "BaseException",.type "object"] (a-1) x true [] [] false none false),#[some (.ref r),none,some (.str x k),some (.str x (k+8)),some (.builtin "ValueError.__new__"),some (.bool true)]⟩
noncomputable def eD(P:Params)(m:Str)(c k l a:Nat):Obj:=⟨.type "dict",none,.dict #[dE P "__module__" k (.str m c),dE P "__firstlineno__" (k+4) (.int l (k+3)),dE P "__static_attributes__" (k+5) (.ref (a-1)),dE P "__doc__" (k+6) .none] 2,#[]⟩
noncomputable def kf:Params->Frag:=λP=>
 (nat_lit 2,⟨.none,none,(.dict #[] 0),#[]⟩) ::
 (nat_lit 3,⟨(.type "dict"),none,(.dict #[(dE P "__name__" 165 (.str "law_shapestring_k64_whole_there_and_back" 676)),(dE P "__doc__" 166 .none),(dE P "__package__" 167 .none),(dE P "__loader__" 168 (.builtin "__main__.__loader__#opaque")),(dE P "__spec__" 169 .none),(dE P "__annotations__" 170 (.ref 6)),(dE P "__builtins__" 171 (.ref 4)),(dE P "__file__" 173 (.str "/claim/cut.py" 172)),(dE P "__cached__" 174 .none),(dE P "ShapeError" 206 (.ref 24)),(dE P "TooMany" 222 (.ref 37)),(dE P "NoCorner" 238 (.ref 49)),(dE P "NoSide" 254 (.ref 61)),(dE P "NoDeed" 270 (.ref 73)),(dE P "Taken" 286 (.ref 85)),(dE P "NoSkin" 311 (.ref 104)),(dE P "Spoilt" 336 (.ref 123)),(dE P "is_whole" 345 (.ref 132)),(dE P "is_corner" 352 (.ref 139)),(dE P "first_of" 360 (.ref 144)),(dE P "walked" 369 (.ref 151)),(dE P "pairs_about" 376 (.ref 158)),(dE P "rim_steps" 384 (.ref 163)),(dE P "checked_corner" 394 (.ref 170)),(dE P "is_pair" 403 (.ref 177)),(dE P "MOST_TRIPLES" 407 (.int 200 406)),(dE P "is_triple" 417 (.ref 184)),(dE P "checked_triples" 430 (.ref 191)),(dE P "thirds_by_side" 444 (.ref 198)),(dE P "steps_by_corner" 456 (.ref 205)),(dE P "hang_together" 465 (.ref 212)),(dE P "look_rounds_through" 473 (.ref 219)),(dE P "begun_least" 483 (.ref 226)),(dE P "Skin" 536 (.ref 262)),(dE P "AT_A_SIDE" 542 (.ref 267)),(dE P "WITH_A_CORNER" 546 (.ref 268)),(dE P "AT_A_RIM" 549 (.ref 269)),(dE P "is_deed" 556 (.ref 276)),(dE P "checked_deed" 565 (.ref 283)),(dE P "look_side_through" 576 (.ref 290)),(dE P "look_corner_through" 584 (.ref 297)),(dE P "triangles_without" 590 (.ref 302)),(dE P "turned_over" 601 (.ref 309)),(dE P "taken_out" 610 (.ref 316)),(dE P "drawn" 616 (.ref 321)),(dE P "put_in" 627 (.ref 328)),(dE P "put_on" 637 (.ref 335)),(dE P "closed" 643 (.ref 340)),(dE P "triples_behind" 653 (.ref 347)),(dE P "changed" 664 (.ref 354)),(dE P "round_of" 675 (.ref 361)),(dE P "_law_at" 685 (.ref 368)),(dE P "_law_pot" 696 (.ref 375)),(dE P "_law_digit" 705 (.ref 382)),(dE P "_law_sides" 715 (.ref 389)),(dE P "_law_thirds" 726 (.ref 396)),(dE P "_law_free" 732 (.ref 401)),(dE P "_law_corners" 742 (.ref 408)),(dE P "_law_fans" 748 (.ref 413)),(dE P "_law_split" 754 (.ref 418)),(dE P "_law_drawn" 760 (.ref 423)),(dE P "_law_rim_sides" 766 (.ref 428)),(dE P "_law_grown" 772 (.ref 433)),(dE P "_law_ring" 778 (.ref 438)),(dE P "_law_beside" 784 (.ref 443)),(dE P "_law_skin" 793 (.ref 450)),(dE P "_law_named" 799 (.ref 455)),(dE P "_law_handed" 812 (.ref 462)),(dE P "_law_told" 822 (.ref 469)),(dE P "_law_changed" 831 (.ref 476)),(dE P "_law_turned" 842 (.ref 483)),(dE P "_law_put_in" 854 (.ref 490)),(dE P "_law_closed" 867 (.ref 497)),(dE P "law" 882 (.ref 504))] 74),#[]⟩) ::
 (nat_lit 23,⟨(.type "dict"),none,(.dict #[(dE P "__module__" 196 (.str "shapestring.errors" 187)),(dE P "__firstlineno__" 200 (.int 2 199)),(dE P "__static_attributes__" 201 (.ref 22)),(dE P "__weakref__" 203 (.ref 25)),(dE P "__doc__" 204 .none)] 3),#[]⟩) ::
 (nat_lit 24,⟨(.type "type"),none,(.cls (PySem.ClassData.mk "ShapeError" [(.type "ValueError")] [(.ref 24),(.type "ValueError"),(.type "Exception"),(.type "BaseException"),(.type "object")] 23 "ShapeError" Bool.true [] [(.ref 37),(.ref 49),(.ref 61),(.ref 73),(.ref 85),(.ref 104),(.ref 123)] Bool.false none Bool.false)),#[(Option.some (.ref 15)),none,(Option.some (.str "ShapeError" 189)),(Option.some (.str "ShapeError" 197)),(Option.some (.builtin "ValueError.__new__")),(Option.some (.bool Bool.true))]⟩) ::
 (nat_lit 25,⟨(.type "getset_descriptor"),none,(.fields #[(.str "__weakref__" 202),(.ref 24),(.builtin "ExceptionGroup.__weakref__"),.none]),#[]⟩) ::
 (nat_lit 36,eD P "shapestring.errors" 187 214 4 36) ::
 (nat_lit 37,eC "TooMany" 24 37 28 207) ::
 (nat_lit 48,eD P "shapestring.errors" 187 230 6 48) ::
 (nat_lit 49,eC "NoCorner" 24 49 40 223) ::
 (nat_lit 60,eD P "shapestring.errors" 187 246 8 60) ::
 (nat_lit 61,eC "NoSide" 24 61 52 239) ::
 (nat_lit 72,eD P "shapestring.errors" 187 262 10 72) ::
 (nat_lit 73,eC "NoDeed" 24 73 64 255) ::
 (nat_lit 84,eD P "shapestring.errors" 187 278 12 84) ::
 (nat_lit 85,eC "Taken" 24 85 76 271) ::
 (nat_lit 100,cO' "__init__" "NoSkin.__init__" 299 16 2 95 304) ::
 (nat_lit 101,fO' "__init__" "NoSkin.__init__" lI "shapestring.errors" 187 100) ::
 (nat_lit 103,⟨(.type "dict"),none,(.dict #[(dE P "__module__" 294 (.str "shapestring.errors" 187)),(dE P "__firstlineno__" 298 (.int 14 297)),(dE P "__init__" 306 (.ref 101)),(dE P "__static_attributes__" 308 (.ref 102)),(dE P "__doc__" 309 .none)] 2),#[]⟩) ::
 (nat_lit 104,eC "NoSkin" 24 104 88 287) ::
 (nat_lit 119,cO' "__init__" "Spoilt.__init__" 324 21 2 114 329) ::
 (nat_lit 120,fO' "__init__" "Spoilt.__init__" lh "shapestring.errors" 187 119) ::
 (nat_lit 122,⟨(.type "dict"),none,(.dict #[(dE P "__module__" 319 (.str "shapestring.errors" 187)),(dE P "__firstlineno__" 323 (.int 19 322)),(dE P "__init__" 331 (.ref 120)),(dE P "__static_attributes__" 333 (.ref 121)),(dE P "__doc__" 334 .none)] 2),#[]⟩) ::
 (nat_lit 123,eC "Spoilt" 24 123 107 312) ::
 (nat_lit 131,cO "is_whole" 339 25 1 126 343) ::
 (nat_lit 132,fO "is_whole" ph "shapestring.kinds" 337 131) ::
 (nat_lit 138,cO "is_corner" 346 27 1 133 350) ::
 (nat_lit 139,fO "is_corner" nW "shapestring.kinds" 337 138) ::
 (nat_lit 143,cN "first_of" 355 30 1 140 358) ::
 (nat_lit 144,fO "first_of" pD "shapestring.rings" 353 143) ::
 (nat_lit 150,cO "walked" 361 34 2 145 367) ::
 (nat_lit 151,fO "walked" oH "shapestring.rings" 353 150) ::
 (nat_lit 157,cO "pairs_about" 370 39 1 152 374) ::
 (nat_lit 158,fO "pairs_about" nC "shapestring.rings" 353 157) ::
 (nat_lit 162,cN "rim_steps" 379 42 1 159 382) ::
 (nat_lit 163,fO "rim_steps" nQ "shapestring.rims" 377 162) ::
 (nat_lit 169,cO "checked_corner" 387 45 2 164 392) ::
 (nat_lit 170,fO "checked_corner" nv "shapestring.sides" 385 169) ::
 (nat_lit 176,cO "is_pair" 395 49 1 171 401) ::
 (nat_lit 177,fO "is_pair" oK "shapestring.sides" 385 176) ::
 (nat_lit 183,cO "is_triple" 408 56 1 178 415) ::
 (nat_lit 184,fO "is_triple" nU "shapestring.skins" 404 183) ::
 (nat_lit 190,cO "checked_triples" 418 63 1 185 428) ::
 (nat_lit 191,fO "checked_triples" lD "shapestring.skins" 404 190) ::
 (nat_lit 197,cO "thirds_by_side" 431 71 1 192 442) ::
 (nat_lit 198,fO "thirds_by_side" oM "shapestring.skins" 404 197) ::
 (nat_lit 204,cO "steps_by_corner" 445 79 1 199 454) ::
 (nat_lit 205,fO "steps_by_corner" pj "shapestring.skins" 404 204) ::
 (nat_lit 211,cO "hang_together" 457 85 1 206 463) ::
 (nat_lit 212,fO "hang_together" qc "shapestring.skins" 404 211) ::
 (nat_lit 218,cO "look_rounds_through" 466 91 1 213 471) ::
 (nat_lit 219,fO "look_rounds_through" pz "shapestring.skins" 404 218) ::
 (nat_lit 225,cO "begun_least" 474 95 1 220 481) ::
 (nat_lit 226,fO "begun_least" pG "shapestring.skins" 404 225) ::
 (nat_lit 237,cN' "__init__" "Skin.__init__" 496 100 2 234 499) ::
 (nat_lit 238,fO' "__init__" "Skin.__init__" jg "shapestring.skins" 404 237) ::
 (nat_lit 244,cO' "triangles" "Skin.triangles" 502 112 1 239 506) ::
 (nat_lit 245,fO' "triangles" "Skin.triangles" lp "shapestring.skins" 404 244) ::
 (nat_lit 258,cO' "third" "Skin.third" 516 118 3 253 522) ::
 (nat_lit 259,fO' "third" "Skin.third" lW "shapestring.skins" 404 258) ::
 (nat_lit 261,⟨(.type "dict"),none,(.dict #[(dE P "__module__" 491 (.str "shapestring.skins" 404)),(dE P "__firstlineno__" 495 (.int 98 494)),(dE P "__init__" 501 (.ref 238)),(dE P "triangles" 508 (.ref 245)),(dE P "corners" 515 (.ref 252)),(dE P "third" 524 (.ref 259)),(dE P "__static_attributes__" 529 (.ref 260)),(dE P "__dict__" 531 (.ref 263)),(dE P "__weakref__" 533 (.ref 264)),(dE P "__doc__" 534 .none)] 4),#[]⟩) ::
 (nat_lit 262,⟨(.type "type"),none,(.cls (PySem.ClassData.mk "Skin" [(.type "object")] [(.ref 262),(.type "object")] 261 "Skin" Bool.true [] [] Bool.false none Bool.false)),#[none,none,(Option.some (.str "Skin" 484)),(Option.some (.str "Skin" 492)),(Option.some (.builtin "object.__new__")),(Option.some (.bool Bool.true))]⟩) ::
 (nat_lit 263,⟨(.type "getset_descriptor"),none,(.fields #[(.str "__dict__" 530),(.ref 262),(.builtin "function.__dict__"),(.builtin "function.__dict__#set")]),#[]⟩) ::
 (nat_lit 264,⟨(.type "getset_descriptor"),none,(.fields #[(.str "__weakref__" 532),(.ref 262),(.builtin "ExceptionGroup.__weakref__"),.none]),#[]⟩) ::
 (nat_lit 267,⟨(.type "tuple"),none,(.seq #[(.str "turn" 539),(.str "out" 540),(.str "draw" 541)] 0),#[]⟩) ::
 (nat_lit 268,⟨(.type "tuple"),none,(.seq #[(.str "in" 543),(.str "on" 544),(.str "close" 545)] 0),#[]⟩) ::
 (nat_lit 269,⟨(.type "tuple"),none,(.seq #[(.str "on" 547),(.str "close" 548)] 0),#[]⟩) ::
 (nat_lit 275,cO "is_deed" 550 124 1 270 554) ::
 (nat_lit 276,fO "is_deed" jO "shapestring.changes" 537 275) ::
 (nat_lit 282,cO "checked_deed" 557 132 1 277 563) ::
 (nat_lit 283,fO "checked_deed" nB "shapestring.changes" 537 282) ::
 (nat_lit 289,cO "look_side_through" 566 139 2 284 574) ::
 (nat_lit 290,fO "look_side_through" kY "shapestring.changes" 537 289) ::
 (nat_lit 296,cO "look_corner_through" 577 148 2 291 582) ::
 (nat_lit 297,fO "look_corner_through" nr "shapestring.changes" 537 296) ::
 (nat_lit 301,cN "triangles_without" 585 151 2 298 588) ::
 (nat_lit 302,fO "triangles_without" kX "shapestring.changes" 537 301) ::
 (nat_lit 308,cO "turned_over" 591 154 3 303 599) ::
 (nat_lit 309,fO "turned_over" jB "shapestring.changes" 537 308) ::
 (nat_lit 315,cO "taken_out" 602 158 3 310 608) ::
 (nat_lit 316,fO "taken_out" jD "shapestring.changes" 537 315) ::
 (nat_lit 320,cN "drawn" 611 160 3 317 614) ::
 (nat_lit 321,fO "drawn" lH "shapestring.changes" 537 320) ::
 (nat_lit 327,cO "put_in" 617 163 4 322 625) ::
 (nat_lit 328,fO "put_in" jY "shapestring.changes" 537 327) ::
 (nat_lit 334,cO "put_on" 628 166 4 329 635) ::
 (nat_lit 335,fO "put_on" lX "shapestring.changes" 537 334) ::
 (nat_lit 339,cN "closed" 638 168 3 336 641) ::
 (nat_lit 340,fO "closed" lJ "shapestring.changes" 537 339) ::
 (nat_lit 346,cO "triples_behind" 644 171 2 341 651) ::
 (nat_lit 347,fO "triples_behind" k_ "shapestring.changes" 537 346) ::
 (nat_lit 353,cO "changed" 654 184 2 348 662) ::
 (nat_lit 354,fO "changed" ir "shapestring.changes" 537 353) ::
 (nat_lit 360,cO "round_of" 667 196 2 355 673) ::
 (nat_lit 361,fO "round_of" og "shapestring.rounds" 665 360) ::
 (nat_lit 367,cO "_law_at" 678 200 2 362 683) ::
 (nat_lit 368,fL "_law_at" sAt 367) ::
 (nat_lit 374,cO "_law_pot" 686 204 2 369 694) ::
 (nat_lit 375,fL "_law_pot" qu 374) ::
 (nat_lit 381,cO "_law_digit" 697 212 2 376 703) ::
 (nat_lit 382,fL "_law_digit" pF 381) ::
 (nat_lit 388,cO "_law_sides" 706 219 1 383 713) ::
 (nat_lit 389,fL "_law_sides" pq 388) ::
 (nat_lit 395,cO "_law_thirds" 716 222 1 390 724) ::
 (nat_lit 396,fL "_law_thirds" oI 395) ::
 (nat_lit 400,cN "_law_free" 727 229 2 397 730) ::
 (nat_lit 401,fL "_law_free" qd 400) ::
 (nat_lit 407,cO "_law_corners" 733 231 1 402 740) ::
 (nat_lit 408,fL "_law_corners" oi 407) ::
 (nat_lit 412,cN "_law_fans" 743 237 2 409 746) ::
 (nat_lit 413,fL "_law_fans" qe 412) ::
 (nat_lit 417,cN "_law_split" 749 250 1 414 752) ::
 (nat_lit 418,fL "_law_split" pk 417) ::
 (nat_lit 422,cN "_law_drawn" 755 264 2 419 758) ::
 (nat_lit 423,fL "_law_drawn" pE 422) ::
 (nat_lit 427,cN "_law_rim_sides" 761 274 1 424 764) ::
 (nat_lit 428,fL "_law_rim_sides" nJ 427) ::
 (nat_lit 432,cN "_law_grown" 767 277 2 429 770) ::
 (nat_lit 433,fL "_law_grown" oJ 432) ::
 (nat_lit 437,cN "_law_ring" 773 292 1 434 776) ::
 (nat_lit 438,fL "_law_ring" pB 437) ::
 (nat_lit 442,cN "_law_beside" 779 304 2 439 782) ::
 (nat_lit 443,fL "_law_beside" oh 442) ::
 (nat_lit 449,cO "_law_skin" 785 307 2 444 791) ::
 (nat_lit 450,fL "_law_skin" pA 449) ::
 (nat_lit 454,cN "_law_named" 794 316 2 451 797) ::
 (nat_lit 455,fL "_law_named" px 454) ::
 (nat_lit 468,cO "_law_told" 813 332 1 463 820) ::
 (nat_lit 469,fL "_law_told" p_ 468) ::
 (nat_lit 475,cO "_law_changed" 823 338 2 470 829) ::
 (nat_lit 476,fL "_law_changed" nR 475) ::
 (nat_lit 482,cO "_law_turned" 832 345 2 477 840) ::
 (nat_lit 483,fL "_law_turned" jH 482) ::
 (nat_lit 489,cO "_law_put_in" 843 350 3 484 852) ::
 (nat_lit 490,fL "_law_put_in" jN 489) ::
 (nat_lit 496,cO "_law_closed" 855 357 4 491 865) ::
 (nat_lit 497,fL "_law_closed" iY 496) ::
 (nat_lit 503,cO "law" 868 366 1 498 880) ::
 (nat_lit 504,fL "law" iK 503)::[]
end K15
end
section
namespace L2
open PySem PySem.W PySem.Calls PyProof.Rows
def lG(tb:String->Option Builtin)(p:Program)(w:World)(n₀:Nat)(ann:Option Value):Nat->SharedT->Thread->Option SharedT
 |0,_,_=>none
 |n+1,s,t=>match through t with
  |true=>some s
  |false=>match stepOk n₀ ann t with
   |false=>none
   |true=>match stepT (denote tb) p w s t with
    |some (s',t')=>lG tb p w n₀ ann n s' t'
    |none=>none
theorem vE{tb:String->Option Builtin}{p:Program}{n₀:Nat}{ann:Option Value}:∀{n:Nat}{s s':SharedT}{t:Thread},lG tb p w n₀ ann n s t=some s'->topRun tb p w n₀ ann n s.abs t=some s'.abs
 |0,_,_,_,h=>by cases h
 |n+1,s,s',t,h=>by
  unfold lG at h;unfold topRun;cases b:through t with
  |true=>rw[b] at h;cases h;rfl
  |false=>
   rw[b] at h;cases c:stepOk n₀ ann t with
   |false=>rw[c] at h;cases h
   |true=>
    rw[c] at h;cases a:stepT (denote tb) p w s t with
    |none=>rw[a] at h;cases h
    |some r=>obtain⟨s₂,t₂⟩:=r;rw[a] at h;rw[stepT_spec a];show vE h
def zb:List Obj->Nat->BT->BT
 | [],_,t=>t
 |o::os,n,t=>zb os (n+1) (t.ins n o)
noncomputable def st0(w:World)(os:OsState):SharedT:=⟨zb (boot_heap w.params).objs.toList 0 .nil,(boot_heap w.params).objs.size,(boot_heap w.params).life,Array.mk [],boot_drawn,boot_toks,os⟩
theorem FM(w:World)(os:OsState):(st0 w os).abs=⟨boot_heap w.params,Array.mk [],boot_drawn,boot_toks,os⟩:=by kernel_rfl
theorem HL(w:World):((boot_heap w.params).isNs mainGlobals&&(Array.mk []:Array GenState).size==0)=true:=by kernel_rfl
theorem JR(w:World):(boot_heap w.params).objs.size=11:=by kernel_rfl
theorem Fv(w:World):(boot_heap w.params).nsMap mainGlobals "__annotations__" = some (.ref 6):=by kernel_rfl
noncomputable def sv(p:Program)(w:World)(s:Shared):Bool:=staticsOk (importedModules p.main.body) (boot_heap w.params) s.heap&&namesBound p s.heap&&gensDone s&&laidKept (boot_heap w.params) s.heap
theorem Hq{p q:Program}{loose:List Str}{Xt:Shared->Bool}{α:Type}{Yf:Shared->α}{Ya:World->α}{N:Nat}{g:Bool}{run:World->OsState->Option SharedT}(l:∀w os,run w os=lG treeTable p w 11 (some (.ref 6)) N (st0 w os) (topStub p))(m:Nat.ble 600 N=true)
  (e:opening p=plainProg p.main.scope.names) (f:∀s,fenceModules? p s=some s)
  (a:∀(w:World)(os:OsState),(run w os).map (λs=>(openSeen q loose (importedModules p.main.body) Xt g s.abs).1)=some (openGood q loose).1)
  (c:∀(w:World)(os:OsState),(run w os).map (λs=>((openSeen q loose (importedModules p.main.body) Xt g s.abs).2.1,(openSeen q loose (importedModules p.main.body) Xt g s.abs).2.2.1))=some ((openGood q loose).2.1,(openGood q loose).2.2.1))
  (i:∀(w:World)(os:OsState),(run w os).map (λs=>(openSeen q loose (importedModules p.main.body) Xt g s.abs).2.2.2)=some (openGood q loose).2.2.2)
  (b:∀(w:World)(os:OsState),(run w os).map (λs=>(sv p w s.abs,Yf s.abs))=some (true,Ya w)):LeftO p q loose Xt Yf Ya N g:=λw=>by
 obtain⟨⟨h,n,d,k,os⟩,o,u⟩:=cw.mp (boot_open e m f w);obtain⟨rfl,rfl,rfl,rfl⟩:h=boot_heap w.params/\n=Array.mk []/\d=boot_drawn/\k=boot_toks:=‹u›
 obtain⟨s1,j,v⟩:=cw.mp (a w os);have c:=c w os;have i:=i w os;have b:=b w os;rw[j,mO] at c i b;have c:=jv (dz c);have i:=dz i;obtain⟨l1,x⟩:=jv (dz b);have l2:openSeen q loose (importedModules p.main.body) Xt g s1.abs=openGood q loose:=kL v (kL c.1 (kL c.2 i));rw[l] at j;have r:=vE j;rw[FM] at r;have t:topFrom treeTable p w N ⟨boot_heap w.params,Array.mk [],boot_drawn,boot_toks,os⟩=some s1.abs:=by unfold topFrom;dsimp only;rw[HL,JR,Fv,r];unfold sv at l1;change (match staticsOk (importedModules p.main.body) (boot_heap w.params) s1.abs.heap&&namesBound p s1.abs.heap&&gensDone s1.abs&&laidKept (boot_heap w.params) s1.abs.heap with|true=>_|false=>_)=_;rw[l1]
 unfold openEnds;rw[o];change (topFrom treeTable p w N _).map _=_;rw[t];show congrArg some (kL l2 x)
end L2
end
section
namespace K15
open PySem L2 PySem.W K51
def ads:List Addr:=[2,3,23,24,25,36,37,48,49,60,61,72,73,84,85,100,101,103,104,119,120,122,123,131,132,138,139,143,144,150,151,157,158,162,163,169,170,176,177,183,184,190,191,197,198,204,205,211,212,218,219,225,226,237,238,244,245,258,259,261,262,263,264,267,268,269,275,276,282,283,289,290,296,297,301,302,308,309,315,316,320,321,327,328,334,335,339,340,346,347,353,354,360,361,367,368,374,375,381,382,388,389,395,396,400,401,407,408,412,413,417,418,422,423,427,428,432,433,437,438,442,443,449,450,454,455,468,469,475,476,482,483,489,490,496,497,503,504]
noncomputable def view:Program:={PySem.Challenge.pw_shapestring_k64_whole_there_and_back with main:={(PySem.Challenge.pw_shapestring_k64_whole_there_and_back).main with body:=[aw 1,aw 2,aw 3,aw 4,aw 5,aw 6,aw 7,aw 8,aw 10,aw 11,aw 13,aw 14,aw 15,aw 17,aw 19,aw 20,aw 22,aw 23,aw 24,aw 25,aw 26,aw 27,aw 28,aw 29,aw 30,aw 32,aw 33,aw 34,aw 35,aw 36,aw 37,aw 38,aw 39,aw 40,aw 41,aw 42,aw 43,aw 44,aw 45,aw 46,aw 47,aw 49,aw 51,aw 52,aw 53,aw 54,aw 55,aw 56,aw 57,aw 58,aw 59,aw 60,aw 61,aw 62,aw 63,aw 64,aw 65,aw 66,aw 67,aw 68,aw 69,aw 70,aw 71,aw 72,aw 73]}}
noncomputable abbrev run(w:World)(os:OsState):Option SharedT:=lG treeTable PySem.Challenge.pw_shapestring_k64_whole_there_and_back w 11 (some (.ref 6)) 7656 (st0 w os) (topStub PySem.Challenge.pw_shapestring_k64_whole_there_and_back)
noncomputable abbrev seenAt(s:SharedT):=openSeen view [] (importedModules (PySem.Challenge.pw_shapestring_k64_whole_there_and_back).main.body) (λs=>xlAt view [] s&&recOk [] s) true s.abs
theorem leftA(w:World)(os:OsState):(run w os).map (λs=>(seenAt s).1)=some (openGood view []).1:=by kernel_rfl
theorem leftA2(w:World)(os:OsState):(run w os).map (λs=>((seenAt s).2.1,(seenAt s).2.2.1))=some ((openGood view []).2.1,(openGood view []).2.2.1):=by kernel_rfl
theorem leftA3(w:World)(os:OsState):(run w os).map (λs=>(seenAt s).2.2.2)=some (openGood view []).2.2.2:=by kernel_rfl
theorem leftB(w:World)(os:OsState):(run w os).map (λs=>(sv PySem.Challenge.pw_shapestring_k64_whole_there_and_back w s.abs,Hook.obs (kHook K15.kf K15.ads (λ_=>by kernel_rfl)) s.abs))=some (true,Hook.val (kHook K15.kf K15.ads (λ_=>by kernel_rfl)) w):=by kernel_rfl
theorem left:LeftO PySem.Challenge.pw_shapestring_k64_whole_there_and_back view [] (λs=>xlAt view [] s&&recOk [] s) (Hook.obs (kHook K15.kf K15.ads (λ_=>by kernel_rfl))) (Hook.val (kHook K15.kf K15.ads (λ_=>by kernel_rfl))) 7656:=
 Hq (run:=run) (λ_ _=>rfl) ⋯ (by kernel_rfl) (λs=>by kernel_rfl) leftA leftA2 leftA3 leftB
end K15
end
section
namespace K15
abbrev Tri:=Nat×Nat×Nat
abbrev Ent:=(Nat×Nat)×Nat
def ents(ts:List Tri):List Ent:=ts.flatMap λt=>[((t.1,t.2.1),t.2.2),((t.2.1,t.2.2),t.1),((t.2.2,t.1),t.2.1)]
theorem cG{ts:List Tri}{a b c:Nat}:((a,b),c)∈ents ts↔(a,b,c)∈ts\/(c,a,b)∈ts\/(b,c,a)∈ts:=by
 unfold ents;rw[gI];constructor
 .rintro⟨⟨x,y,z⟩,d,h⟩;simp only[aG,dS,or_false,qR] at h;rcases h with ⟨⟨rfl,rfl⟩,rfl⟩|⟨⟨rfl,rfl⟩,rfl⟩|⟨⟨rfl,rfl⟩,rfl⟩
  .exact .inl d
  .exact .inr (.inl d)
  show .inr (.inr d)
 rintro (h|h|h)
 .exact⟨_,h,∅⟩
 .exact⟨_,h,∅⟩
 show⟨_,h,∅⟩
structure Sk(E:Nat->Nat->Nat->Prop):Prop where
 rot:∀{a b c},E a b c->E b c a
 one:∀{a b c d},E a b c->E a b d->c=d
 ne:∀{a b c},E a b c->a≠b
def En(ts:List Tri)(a b c:Nat):Prop:=((a,b),c)∈ents ts
structure Good(ts:List Tri):Prop where
 ne:∀t∈ts,t.1≠t.2.1/\t.2.1≠t.2.2/\t.2.2≠t.1
 nd:((ents ts).map (·.1)).Nodup
theorem v8{α β:Type}{l:List (α×β)}(h:(l.map (·.1)).Nodup){a:α}{b c:β}(g:(a,b)∈l)(i:(a,c)∈l):b=c:=by
 induction l with
 |nil=>cases g
 |cons x l m=>
  rw[aY,cJ] at h;rcases aG.mp g with e|j
  .rcases aG.mp i with d | f
   .rw[<-e] at d;show (jv d).2.symm
   show (h.1 (ar.mpr ⟨_,f,by rw[<-e]⟩)).elim
  rcases aG.mp i with d | f
  .exact (h.1 (ar.mpr ⟨_,j,by rw[<-d]⟩)).elim
  show m h.2 j f
theorem gQ{l:List Nat}(h:l.Nodup):∀{i j x:Nat},l[i]?=some x->l[j]?=some x->i=j:=by
 induction l with
 |nil=>intro i j x h1;simp at h1
 |cons a l b=>
  intro i j x h1 h2;rw[cJ] at h;cases i with
  |zero=>
   cases j with
   |zero=>rfl
   |succ j=>
    simp at h1 h2;subst h1;show (h.1 (aZ h2)).elim
  |succ i=>
   cases j with
   |zero=>
    simp at h1 h2;subst h2;show (h.1 (aZ h1)).elim
   |succ j=>
    simp at h1 h2;rw[b h.2 h1 h2]
theorem Good.sk{ts:List Tri}(g:Good ts):Sk (En ts):=by
 show⟨λ{a b c} h=>?_,λ{a b c d} h1 h2=>v8 g.nd h1 h2,λ{a b c} h=>?_⟩
 .unfold En at *;rw[cG] at *;rcases h with h|h|h
  .exact .inr (.inl h)
  .exact .inr (.inr h)
  show .inl h
 unfold En at h;rw[cG] at h;rcases h with h|h|h
 .exact (g.ne _ h).1
 .exact (g.ne _ h).2.1
 show (g.ne _ h).2.2
section
variable {E:Nat->Nat->Nat->Prop}
theorem Sk.inj(k:Sk E){v p a q:Nat}(h:E v p q)(h':E v a q):p=a:=k.one (k.rot (k.rot h)) (k.rot (k.rot h'))
structure Fan(E:Nat->Nat->Nat->Prop)(v:Nat)(F:List Nat):Prop where
 ne:F≠[]
 nd:F.Nodup
 ch:∀i p q,F[i]?=some p->F[i+1]?=some q->E v p q
 key:∀p∈F,∃q,E v p q
 clF:∀p∈F,∀q,E v p q->(∃r,E v q r)->q∈F
 clB:∀p∈F,∀o,E v o p->o∈F
def One(E:Nat->Nat->Nat->Prop)(v:Nat):Prop:=∃F,Fan E v F/\∀p,(∃q,E v p q)->p∈F
theorem Fan.same(k:Sk E){v:Nat}{F G:List Nat}(hF:Fan E v F)(f:Fan E v G){x:Nat}(x1:x∈F)(x2:x∈G):∀y∈F,y∈G:=by
 obtain⟨j,b⟩:=eI x1;have g:∀m,∀y,F[j+m]?=some y->y∈G:=by
  intro m;induction m with
  |zero=>intro y a;rw[Mi,b] at a;cases a;show x2
  |succ m c=>
   intro y a;have d:j+m<F.length:=by have:=(aI.mp a).1;lia
   have h1:F[j+m]?=some F[j+m]:=aX d;have:=c _ h1;show f.clF _ this y (hF.ch (j+m) _ _ h1 a) (hF.key y (aZ a))
 have l:∀m,m<=j->∀y,F[j-m]?=some y->y∈G:=by
  intro m;induction m with
  |zero=>intro _ y a;rw[uO,b] at a;cases a;show x2
  |succ m c=>
   intro hm y a;have d:j-m<F.length:=by have:=(aI.mp b).1;lia
   have h1:F[j-m]?=some F[j-m]:=aX d;have hz:=c () _ h1;have e:j-(m+1)+1=j-m:=();show f.clB _ hz y (hF.ch (j-(m+1)) _ _ a (by rw[e];show h1))
 intro y a;obtain⟨i,hi⟩:=eI a;by_cases h:j<=i
 .exact g (i-j) y (by rw[show j+(i-j)=i by lia];show hi)
 show l (j-i) () y (by rw[show j-(j-i)=i by lia];show hi)
theorem E7(k:Sk E){v:Nat}{L:List Nat}{at_:Nat}(B:L≠[])(nd:L.Nodup)(u:∀p∈L,∃q,E v p q)(ch:∀i p q,L[i]?=some p->L[i+1]?=some q->E v p q)
  (C:∀p,L.getLast?=some p->E v p at_) (D:(∃q,E v at_ q)->at_∈L) {s:Nat} (w:L.head?=some s) (H:(∀o,¬E v o s)\/∀p,(∃q,E v p q)->∃o,E v o p) :
  (∀p,(∃q,E v p q)->p∈L)↔One E v:=by
 constructor
 .intro c;show⟨L,⟨B,nd,ch,u,λp _ q _ I=>c q I,λp _ o f=>c o ⟨p,f⟩⟩,c⟩
 rintro⟨F,hF,c⟩;have n:s∈L:=by cases L with|nil=>cases w|cons a l=>cases w;simp
 have clo:∀x∈L,∀y,E v x y->(∃r,E v y r)->y∈L:=by
  intro x hx y b z;obtain⟨i,hi⟩:=eI hx;have J:=(aI.mp hi).1;by_cases h:i+1<L.length
  .have h1:L[i+1]?=some L[i+1]:=aX h;have:=k.one b (ch i _ _ hi h1);rw[this];show aZ h1
  have e:L.getLast?=some x:=by rw[gi,show L.length-1=i by lia];show hi
  have:=k.one b (C x e);rw[this] at z |-;show D z
 have K:s∈F:=c s (u s n);obtain⟨j,g⟩:=eI K;have A:∀d:Nat,(∀y,F[d]?=some y->y∈L)->∀(m:Nat)(y:Nat),F[d+m]?=some y->y∈L:=by
  intro d M m;induction m with
  |zero=>intro y b;show M y b
  |succ m N=>
   intro y b;have O:d+m<F.length:=by have:=(aI.mp b).1;lia
   have h1:F[d+m]?=some F[d+m]:=aX O;show clo _ (N _ h1) y (hF.ch _ _ _ h1 b) (hF.key y (aZ b))
 have P:=A j (λy b=>by rw[g] at b;cases b;show n);have zero:∀y,F[0]?=some y->y∈L:=by
  intro y b;by_cases Q:j=0
  .subst Q;rw[g] at b;cases b;show n
  have X:=(aI.mp g).1;have h1:F[j-1]?=some F[j-1]:=aX ();have R:=hF.ch (j-1) _ _ h1 (by rw[show j-1+1=j by lia];show g);rcases H with h|h
  .exact (h _ R).elim
  obtain⟨o,f⟩:=h y (hF.key y (aZ b));have S:=hF.clB y (aZ b) o f;obtain⟨i,hi⟩:=eI S;have J:=(aI.mp hi).1;by_cases T:i+1<F.length
  .have h2:F[i+1]?=some F[i+1]:=aX T;have e:=k.one (hF.ch i _ _ hi h2) f;rw[e] at h2;have:=gQ hF.nd h2 b;lia
  have:o∈L:=P (i-j) o (by rw[show j+(i-j)=i by lia];show hi);show clo o this y f (hF.key y (aZ b))
 intro p U;obtain⟨i,hi⟩:=eI (c p U);show A 0 zero i p (by rw[uP];show hi)
theorem Ft{v:Nat}{F G:List Nat}(ch:∀i p q,F[i]?=some p->F[i+1]?=some q->E v p q)(key:∀p∈F,∃q,E v p q)(f:Fan E v G){x:Nat}(x1:x∈F)(x2:x∈G):∀y∈F,y∈G:=by
 obtain⟨j,b⟩:=eI x1;have g:∀(m:Nat)(y:Nat),F[j+m]?=some y->y∈G:=by
  intro m;induction m with
  |zero=>intro y a;rw[Mi,b] at a;cases a;show x2
  |succ m c=>
   intro y a;have d:j+m<F.length:=by have:=(aI.mp a).1;lia
   have h1:F[j+m]?=some F[j+m]:=aX d;show f.clF _ (c _ h1) y (ch (j+m) _ _ h1 a) (key y (aZ a))
 have l:∀m:Nat,m<=j->∀y:Nat,F[j-m]?=some y->y∈G:=by
  intro m;induction m with
  |zero=>intro _ y a;rw[uO,b] at a;cases a;show x2
  |succ m c=>
   intro hm y a;have d:j-m<F.length:=by have:=(aI.mp b).1;lia
   have h1:F[j-m]?=some F[j-m]:=aX d;have e:j-(m+1)+1=j-m:=();show f.clB _ (c () _ h1) y (ch (j-(m+1)) _ _ a (by rw[e];show h1))
 intro y a;obtain⟨i,hi⟩:=eI a;by_cases h:j<=i
 .exact g (i-j) y (by rw[show j+(i-j)=i by lia];show hi)
 show l (j-i) () y (by rw[show j-(j-i)=i by lia];show hi)
theorem Fe(k:Sk E){v:Nat}{fs:List (List Nat)}{left F:List Nat}{x0:Nat}(d:∀G∈fs,Fan E v G)(g:∀p,(∃q,E v p q)->p∈left\/∃G∈fs,p∈G)(j:∀p∈left,∀G∈fs,p∉G)
  (nd:F.Nodup) (key:∀p∈F,∃q,E v p q) (ch:∀i p q,F[i]?=some p->F[i+1]?=some q->E v p q) (x1:x0∈F) (x2:x0∈left)
  (l:∀p,F.getLast?=some p->∀q,E v p q->q∈left->q∈F) (m:∀p,F.head?=some p->∀o,E v o p->o∈F):Fan E v F/\∀p∈F,∀G∈fs,p∉G:=by
 have dis:∀p∈F,∀G∈fs,p∉G:=λp a G b n=>j x0 x2 G b (Ft ch key (d G b) a n x0 x1);show⟨⟨λz=>(by rw[z] at x1;cases x1),nd,ch,key,λp a q c r=>?_,λp a o f=>?_⟩,dis⟩
 .obtain⟨i,hi⟩:=eI a;have s:=(aI.mp hi).1;by_cases h:i+1<F.length
  .have h1:F[i+1]?=some F[i+1]:=aX h;rw[k.one c (ch i _ _ hi h1)];show aZ h1
  have e:F.getLast?=some p:=by rw[gi,show F.length-1=i by lia];show hi
  rcases g q r with z|⟨G,b,u⟩
  .exact l p e q c z
  show (dis p a G b ((d G b).clB q u p c)).elim
 obtain⟨i,hi⟩:=eI a;cases i with
 |zero=>show m p (by rw[Aw];show hi) o f
 |succ i=>
  have s:=(aI.mp hi).1;have h1:F[i]?=some F[i]:=aX ();rw[k.inj f (ch i _ _ h1 hi)];show aZ h1
structure Fans(E:Nat->Nat->Nat->Prop)(v:Nat)(fs:List (List Nat)):Prop where
 fan:∀F∈fs,Fan E v F
 all:∀p,(∃q,E v p q)->∃F∈fs,p∈F
 dis:fs.Pairwise λF G=>∀p∈F,p∉G
def rn(v n:Nat)(F:List Nat)(a b:Nat):Nat:=if a=v/\b∈F then n else a
def ren(v n:Nat)(F:List Nat)(t:Tri):Tri:=(rn v n F t.1 t.2.1,rn v n F t.2.1 t.2.2,rn v n F t.2.2 t.1)
def Rn(E:Nat->Nat->Nat->Prop)(v n:Nat)(F:List Nat)(x y z:Nat):Prop:=∃a b c,E a b c/\x=rn v n F a b/\y=rn v n F b c/\z=rn v n F c a
theorem JG{ts:List Tri}{v n:Nat}{F:List Nat}{x y z:Nat}:En (ts.map (ren v n F)) x y z↔Rn (En ts) v n F x y z:=by
 unfold En Rn;rw[cG];constructor
 .intro h;have key:∀p q r,(p,q,r)∈ts.map (ren v n F)->∃a b c,(a,b,c)∈ts/\p=rn v n F a b/\q=rn v n F b c/\r=rn v n F c a:=by
   intro p q r j;obtain⟨⟨a,b,c⟩,d,e⟩:=ar.mp j;unfold ren at e;simp only[qR] at e;show⟨a,b,c,d,e.1.symm,e.2.1.symm,e.2.2.symm⟩
  rcases h with h|h|h
  .obtain⟨a,b,c,d,f,g,i⟩:=key _ _ _ h;show⟨a,b,c,cG.mpr (.inl d),f,g,i⟩
  .obtain⟨a,b,c,d,f,g,i⟩:=key _ _ _ h;show⟨b,c,a,cG.mpr (.inr (.inl d)),g,i,f⟩
  obtain⟨a,b,c,d,f,g,i⟩:=key _ _ _ h;show⟨c,a,b,cG.mpr (.inr (.inr d)),i,f,g⟩
 rintro⟨a,b,c,h,rfl,rfl,rfl⟩;rcases cG.mp h with h|h|h
 .exact .inl (ar.mpr ⟨_,h,rfl⟩)
 .exact .inr (.inl (ar.mpr ⟨_,h,rfl⟩))
 show .inr (.inr (ar.mpr ⟨_,h,rfl⟩))
theorem fG{v n:Nat}{F:List Nat}{a b:Nat}(h:a≠v):rn v n F a b=a:=by unfold rn;rw[OT λz=>h z.1]
theorem qf{v n:Nat}{F:List Nat}{b:Nat}(h:b∈F):rn v n F v b=n:=by unfold rn;rw[OU ⟨rfl,h⟩]
theorem tN{v n:Nat}{F:List Nat}{b:Nat}(h:b∉F):rn v n F v b=v:=by unfold rn;rw[OT λz=>h z.2]
section
variable {v n:Nat}{F:List Nat}
theorem hX{a b:Nat}(ha:a≠n)(h:rn v n F a b=n):a=v/\b∈F:=by
 unfold rn at h
 split at h
 .assumption
 show (ha h).elim
theorem fN{a b:Nat}(h:rn v n F a b≠n):rn v n F a b=a:=by
 unfold rn at h |-
 split
 .rename_i z;rw[OU z] at h;show (h rfl).elim
 rfl
variable (k:Sk E)(fr:∀a b c,E a b c->a≠n)(hF:Fan E v F)
include k fr
theorem lM{p q:Nat}:Rn E v n F n p q↔E v p q/\p∈F:=by
 constructor
 .rintro⟨a,b,c,h,d,rfl,rfl⟩;obtain⟨rfl,e⟩:=hX (fr _ _ _ h) d.symm;rw[fG (ax (k.ne h)),fG (k.ne (k.rot (k.rot h)))];show⟨h,e⟩
 rintro⟨h,f⟩;show⟨v,p,q,h,(qf f).symm,(fG (ax (k.ne h))).symm,(fG (k.ne (k.rot (k.rot h)))).symm⟩
theorem jP(e:v≠n){p q:Nat}:Rn E v n F v p q↔E v p q/\p∉F:=by
 constructor
 .rintro⟨a,b,c,h,d,rfl,rfl⟩;have:a=v:=by
   have f:=fN (v:=v) (n:=n) (F:=F) (a:=a) (b:=b) (by rw[<-d];show e);rw[d,f]
  subst this;have g:b∉F:=λz=>by rw[qf z] at d;show e d
  rw[fG (ax (k.ne h)),fG (k.ne (k.rot (k.rot h)))];show⟨h,g⟩
 rintro⟨h,i⟩;show⟨v,p,q,h,(tN i).symm,(fG (ax (k.ne h))).symm,(fG (k.ne (k.rot (k.rot h)))).symm⟩
theorem KF:Sk (Rn E v n F):=by
 show⟨?_,?_,?_⟩
 .rintro x y z ⟨a,b,c,h,d,f,j⟩;show⟨b,c,a,k.rot h,f,j,d⟩
 .rintro x y z D ⟨a,b,c,h,d,f,j⟩ ⟨l,g,s,h',m,o,u⟩;have p:a≠n:=fr _ _ _ h;have w:l≠n:=fr _ _ _ h';have q:b≠n:=fr _ _ _ (k.rot h);have A:g≠n:=fr _ _ _ (k.rot h');have B:a=l:=by
   by_cases hx:x=n
   .rw[(hX p (d.symm.trans hx)).1,(hX w (m.symm.trans hx)).1]
   rw[<-fN (v:=v) (n:=n) (F:=F) (a:=a) (b:=b) (by rw[<-d];show hx),<-fN (v:=v) (n:=n) (F:=F) (a:=l) (b:=g) (by rw[<-m];show hx),<-d,<-m]
  have C:b=g:=by
   by_cases i:y=n
   .rw[(hX q (f.symm.trans i)).1,(hX A (o.symm.trans i)).1]
   rw[<-fN (v:=v) (n:=n) (F:=F) (a:=b) (b:=c) (by rw[<-f];show i),<-fN (v:=v) (n:=n) (F:=F) (a:=g) (b:=s) (by rw[<-o];show i),<-f,<-o]
  subst B C;rw[j,u,k.one h h']
 rintro x y z ⟨a,b,c,h,rfl,rfl,_⟩;have p:a≠n:=fr _ _ _ h;have q:b≠n:=fr _ _ _ (k.rot h);have r:=k.ne h;intro e;by_cases hx:rn v n F a b=n
 .have h1:=(hX p hx).1;have h2:=(hX q (e.symm.trans hx)).1;show r (h1.trans h2.symm)
 have h1:=fN hx;have h2:=fN (v:=v) (n:=n) (F:=F) (a:=b) (b:=c) (by rw[<-e];show hx);show r (by rw[<-h1,e,h2])
include hF
theorem Eu:One (Rn E v n F) n:=by
 show⟨F,⟨hF.ne,hF.nd,λi p q a b=>(lM k fr).mpr ⟨hF.ch i p q a b,aZ a⟩,λp a=>?_,λp a q b c=>?_,λp a o d=>((lM k fr).mp d).2⟩,λp ⟨q,b⟩=>((lM k fr).mp b).2⟩
 .obtain⟨q,b⟩:=hF.key p a;show⟨q,(lM k fr).mpr ⟨b,a⟩⟩
 obtain⟨r,c⟩:=c;show ((lM k fr).mp c).2
omit hF in
theorem Fc(c:v≠n){G:List Nat}(b:Fan E v G)(hd:∀p∈F,p∉G):Fan (Rn E v n F) v G:=by
 have out:∀p∈G,p∉F:=λp a z=>hd p z a;show⟨b.ne,b.nd,λi p q a d=>(jP k fr c).mpr ⟨b.ch i p q a d,out p (aZ a)⟩,λp a=>?_,λp a q d e=>?_,λp a o f=>b.clB p a o ((jP k fr c).mp f).1⟩
 .obtain⟨q,d⟩:=b.key p a;show⟨q,(jP k fr c).mpr ⟨d,out p a⟩⟩
 obtain⟨r,e⟩:=e;show b.clF p a q ((jP k fr c).mp d).1 ⟨r,((jP k fr c).mp e).1⟩
theorem C0(T:v≠n){u:Nat}(N:u≠v)(O:u≠n)(h:One E u):One (Rn E v n F) u:=by
 obtain⟨G,m,P⟩:=h
 let cond:Prop:=(∃q∈F,E u v q)\/((∃p,E u p v)/\u∈F)
 have dec:=Classical.propDecidable cond
 let ρ:Nat->Nat:=λx=>if x=v then (if cond then n else v) else x
 have ρo:∀x,x≠v->ρ x=x:=λx hx=>OT hx;have ρv:ρ v=if cond then n else v:=OU rfl
 have K:∀p q,E u p q->rn v n F p q=ρ p:=by
  intro p q h;by_cases s:p=v
  .subst s;by_cases d:q∈F
   .rw[qf d,ρv,OU (.inl ⟨q,d,h⟩)]
   rw[tN d,ρv,OT];rintro (⟨A,B,h'⟩|⟨⟨f,j⟩,H⟩)
   .exact d (by rw[k.one h h'];show B)
   show d (hF.clB u H q (k.rot h))
  rw[fG s,ρo p s]
 have L:∀p q,E u p q->rn v n F q u=ρ q:=by
  intro p q h;by_cases d:q=v
  .subst d;by_cases C:u∈F
   .rw[qf C,ρv,OU (.inr ⟨⟨p,h⟩,C⟩)]
   rw[tN C,ρv,OT];rintro (⟨A,B,h'⟩|⟨_,H⟩)
   .exact C (hF.clF A B u (k.rot h') ⟨p,k.rot (k.rot h)⟩)
   show C H
  rw[fG d,ρo q d]
 have Q:∀b,rn v n F u b=u:=λb=>fG N;have to:∀p q,E u p q->Rn E v n F u (ρ p) (ρ q):=λp q h=>⟨u,p,q,h,(Q p).symm,(K p q h).symm,(L p q h).symm⟩;have back:∀x y,Rn E v n F u x y->∃p q,E u p q/\x=ρ p/\y=ρ q:=by
  rintro x y ⟨a,b,c,h,w,I,R⟩;have ha:a=u:=by
   by_cases hx:rn v n F a b=n
   .exact (O (w.trans hx)).elim
   rw[w,fN hx]
  subst ha;show⟨b,c,h,I.trans (K b c h),R.trans (L b c h)⟩
 have fresh:∀p q,E u p q->p≠n/\q≠n:=λp q h=>⟨fr _ _ _ (k.rot h),fr _ _ _ (k.rot (k.rot h))⟩;have inj:∀x y,x≠n->y≠n->ρ x=ρ y->x=y:=by
  intro x y hx g e;by_cases h1:x=v
  .by_cases h2:y=v
   .rw[h1,h2]
   rw[h1,ρo y h2,ρv] at e
   split at e
   .exact (g e.symm).elim
   show (h2 e.symm).elim
  by_cases h2:y=v
  .rw[h2,ρo x h1,ρv] at e
   split at e
   .exact (hx e).elim
   show (h1 e).elim
  rw[ρo x h1,ρo y h2] at e;show e
 have D:∀x∈G,x≠n:=λx hx=>by
  obtain⟨q,d⟩:=m.key x hx;show (fresh x q d).1
 have U:∀x,x≠n->ρ x∈G.map ρ->x∈G:=λx hx h=>by
  obtain⟨y,g,e⟩:=ar.mp h;rw[<-inj y x (D y g) hx e];show g
 have get:∀(i:Nat)(x:Nat),(G.map ρ)[i]?=some x->∃p,G[i]?=some p/\x=ρ p:=λi x h=>by
  rw[bf] at h;cases e:G[i]? with
  |none=>rw[e] at h;cases h
  |some p=>rw[e] at h;cases h;show⟨p,rfl,rfl⟩
 show⟨G.map ρ,⟨‹m.ne›,?_,λi p q s d=>?_,λp s=>?_,λx hx y g J=>?_,λx hx y g=>?_⟩,?_⟩
 .have:∀l:List Nat,(∀x∈l,x≠n)->l.Nodup->(l.map ρ).Nodup:=by
   intro l;induction l with
   |nil=>intro _ _;show jq
   |cons a l S=>
    intro h1 h2;rw[cJ] at h2;rw[aY,cJ];show⟨λz=>?_,S (λx hx=>h1 x (bJ _ hx)) h2.2⟩;obtain⟨y,g,e⟩:=ar.mp z;have:=inj y a (h1 y (bJ _ g)) (h1 a ∅) e;show h2.1 (this ▸ g)
  show this G D m.nd
 .obtain⟨f,j,rfl⟩:=get i p s;obtain⟨A,B,rfl⟩:=get (i+1) q d;show to f A (m.ch i f A j B)
 .obtain⟨f,j,rfl⟩:=ar.mp s;obtain⟨q,d⟩:=m.key f j;show⟨_,to f q d⟩
 .obtain⟨f,j,rfl⟩:=ar.mp hx;obtain⟨p,q,h1,w,rfl⟩:=back _ _ g;have ep:=inj f p (D f j) (fresh p q h1).1 w;subst ep;obtain⟨r,J⟩:=J;obtain⟨p2,M,h2,I,_⟩:=back _ _ J;have eq:=inj q p2 (fresh f q h1).2 (fresh p2 M h2).1 I;subst eq;show ar.mpr ⟨q,m.clF f j q h1 ⟨M,h2⟩,rfl⟩
 .obtain⟨f,j,rfl⟩:=ar.mp hx;obtain⟨p,q,h1,rfl,w⟩:=back _ _ g;have eq:=inj f q (D f j) (fresh p q h1).2 w;subst eq;show ar.mpr ⟨p,m.clB f j p h1,rfl⟩
 rintro x ⟨y,g⟩;obtain⟨p,q,h1,rfl,_⟩:=back _ _ g;show ar.mpr ⟨p,P p ⟨q,h1⟩,rfl⟩
end
end
end K15
end
section
namespace K15
def reE(v n:Nat)(F:List Nat)(e:Ent):Ent:=((rn v n F e.1.1 e.1.2,rn v n F e.1.2 e.2),rn v n F e.2 e.1.1)
theorem Fm{ts:List Tri}{v n:Nat}{F:List Nat}:ents (ts.map (ren v n F))=(ents ts).map (reE v n F):=by
 induction ts with
 |nil=>rfl
 |cons t ts a=>
  have h1:ents ((t::ts).map (ren v n F))=ents [ren v n F t]++ents (ts.map (ren v n F)):=by simp[ents]
  have h2:ents (t::ts)=ents [t]++ents ts:=by simp[ents]
  rw[h1,h2,aL,a];rfl
def Co(ts:List Tri)(u:Nat):Prop:=∃p q,En ts u p q
theorem E8{ts:List Tri}{v n:Nat}{F:List Nat}(g:Good ts)(fr:∀a b c,En ts a b c->a≠n):Good (ts.map (ren v n F)):=by
 have k:=g.sk;have ks:=KF (v:=v) (F:=F) k fr;show⟨λt u=>?_,?_⟩
 .obtain⟨⟨a,b,c⟩,h,rfl⟩:=ar.mp u;have l:En ts a b c:=cG.mpr (.inl h);have m:=k.rot l;have w:=k.rot m;show⟨ks.ne (c:=rn v n F c a) ⟨a,b,c,l,rfl,rfl,rfl⟩,ks.ne (c:=rn v n F a b) ⟨b,c,a,m,rfl,rfl,rfl⟩,ks.ne (c:=rn v n F b c) ⟨c,a,b,w,rfl,rfl,rfl⟩⟩
 rw[Fm,bC];have nd:=g.nd;have mem:∀e∈ents ts,En ts e.1.1 e.1.2 e.2:=λe he=>he;rw[List.Nodup,ie] at nd |-;show nd.imp_of_mem λ{x y} hx A h z=>h ?_;have z:=jv z;obtain⟨⟨a,b⟩,c⟩:=x;obtain⟨⟨i,d⟩,o⟩:=y;have e:En ts a b c:=mem _ hx;have r:En ts i d o:=mem _ A;have B:rn v n F a b=rn v n F i d:=z.1;have C:rn v n F b c=rn v n F d o:=z.2;have key:∀{p q f s},p≠n->f≠n->rn v n F p q=rn v n F f s->p=f:=by
  intro p q f s h1 h2 j;by_cases hx:rn v n F p q=n
  .rw[(hX h1 hx).1,(hX h2 (j ▸ hx)).1]
  rw[<-fN hx,j,fN (j ▸ hx)]
 change (a,b)=(i,d);rw[key (fr _ _ _ e) (fr _ _ _ r) B,key (fr _ _ _ (k.rot e)) (fr _ _ _ (k.rot r)) C]
structure Mid(ts:List Tri)(v:Nat)(F0:List Nat)(fs:List (List Nat))(rest:List Nat):Prop where
 good:Good ts
 fans:Fans (En ts) v (F0::fs)
 oth:∀u,Co ts u->u=v\/u∈rest\/One (En ts) u
theorem Gx{E E':Nat->Nat->Nat->Prop}(h:∀a b c,E a b c↔E' a b c):E=E':=by funext a b c;show propext (h a b c)
theorem EU{ts:List Tri}{v n:Nat}{g F:List Nat}{fs:List (List Nat)}{rest:List Nat}(m:Mid ts v g (F::fs) rest)(fr:∀u,Co ts u->u≠n):Mid (ts.map (ren v n F)) v g fs rest:=by
 have f:∀a b c,En ts a b c->a≠n:=λa b c h=>fr a ⟨b,c,h⟩;have k:=m.good.sk;have o:En (ts.map (ren v n F))=Rn (En ts) v n F:=Gx λ_ _ _=>JG;have hF:=m.fans.fan F ∅;have i:v≠n:=by obtain⟨p,d⟩:=LO _ hF.ne;obtain⟨q,j⟩:=hF.key p d;show f _ _ _ j
 have dis:=m.fans.dis;rw[AB,AB] at dis;obtain⟨r,y,z⟩:=dis;have A:∀G∈g::fs,∀p∈F,p∉G:=by
  intro G e p d s;rcases aG.mp e with rfl|h
  .exact r F ∅ p s d
  show y G h p d s
 show⟨E8 m.good f,?_,?_⟩
 .rw[o];show⟨λG e=>?_,λp ⟨q,j⟩=>?_,?_⟩
  .refine Fc k f i (m.fans.fan G ?_) (A G e);rcases aG.mp e with rfl|h
   .simp
   show bJ _ (bJ _ h)
  .obtain⟨h1,h2⟩:=(jP k f i).mp j;obtain⟨G,e,d⟩:=m.fans.all p ⟨q,h1⟩;rcases aG.mp e with rfl|h
   .exact⟨G,∅,d⟩
   rcases aG.mp h with rfl|h
   .exact (h2 d).elim
   show⟨G,bJ _ h,d⟩
  rw[AB];show⟨λG e=>r G (bJ _ e),z⟩
 rintro u ⟨p,q,h⟩;rw[o] at h |-;by_cases l:u=n
 .subst l;show .inr (.inr (Eu k f hF))
 obtain⟨a,b,c,h,w,_,_⟩:=h;have B:u=a:=by rw[w];show fN (by rw[<-w];show l)
 subst B;rcases m.oth u ⟨b,c,h⟩ with h1|h1|h1
 .exact .inl h1
 .exact .inr (.inl h1)
 by_cases x:u=v
 .exact .inl x
 show .inr (.inr (C0 k f hF i x l h1))
theorem G9{ts:List Tri}{v:Nat}{a:List Nat}{rest:List Nat}(m:Mid ts v a [] rest)(u:Nat)(b:Co ts u):u∈rest\/One (En ts) u:=by
 rcases m.oth u b with rfl|h
 .refine .inr ⟨a,m.fans.fan a ∅,λp c=>?_⟩;obtain⟨G,d,h⟩:=m.fans.all p c;rw[aQ.mp d] at h;show h
 show h
theorem Dc{ts:List Tri}{v:Nat}{a:List Nat}{fs:List (List Nat)}{rest:List Nat}(g:Good ts)(h:Fans (En ts) v (a::fs))(o:∀u,Co ts u->u∈v::rest\/One (En ts) u):Mid ts v a fs rest:=
 ⟨g,h,λu b=>(o u b).elim (λz=>(aG.mp z).elim .inl λz=>.inr (.inl z)) λz=>.inr (.inr z)⟩
theorem EV{ts:List Tri}{v:Nat}{rest:List Nat}(h:Fans (En ts) v [])(o:∀u,Co ts u->u∈v::rest\/One (En ts) u)(u:Nat)(a:Co ts u):u∈rest\/One (En ts) u:=by
 rcases o u a with z|z
 .rcases aG.mp z with rfl|z
  .obtain⟨p,q,b⟩:=a;obtain⟨G,c,_⟩:=h.all p ⟨q,b⟩;cases c
  show .inl z
 show .inr z
theorem ck{ts:List Tri}{u:Nat}:Co ts u↔∃t∈ts,u=t.1\/u=t.2.1\/u=t.2.2:=by
 constructor
 .rintro⟨p,q,h⟩;rcases cG.mp h with h|h|h
  .exact⟨_,h,.inl rfl⟩
  .exact⟨_,h,.inr (.inl rfl)⟩
  show⟨_,h,.inr (.inr rfl)⟩
 rintro⟨⟨a,b,c⟩,h,rfl|rfl|rfl⟩
 .exact⟨b,c,cG.mpr (.inl h)⟩
 .exact⟨c,a,cG.mpr (.inr (.inl h))⟩
 show⟨a,b,cG.mpr (.inr (.inr h))⟩
end K15
end
section
namespace K15
def nam(f:Nat->Nat)(t:Tri):Tri:=(f t.1,f t.2.1,f t.2.2)
def naE(f:Nat->Nat)(e:Ent):Ent:=((f e.1.1,f e.1.2),f e.2)
theorem rY{f:Nat->Nat}{ts:List Tri}:ents (ts.map (nam f))=(ents ts).map (naE f):=by
 induction ts with
 |nil=>rfl
 |cons t ts a=>
  have h1:ents ((t::ts).map (nam f))=ents [nam f t]++ents (ts.map (nam f)):=by simp[ents]
  have h2:ents (t::ts)=ents [t]++ents ts:=by simp[ents]
  rw[h1,h2,aL,a];rfl
theorem xi{f:Nat->Nat}{ts:List Tri}(g:Good ts)(inj:∀a b,Co ts a->Co ts b->f a=f b->a=b):Good (ts.map (nam f)):=by
 have k:=g.sk;show⟨λt o=>?_,?_⟩
 .obtain⟨⟨a,b,c⟩,h,rfl⟩:=ar.mp o;have ca:Co ts a:=ck.mpr ⟨_,h,.inl rfl⟩;have l:Co ts b:=ck.mpr ⟨_,h,.inr (.inl rfl)⟩;have m:Co ts c:=ck.mpr ⟨_,h,.inr (.inr rfl)⟩;obtain⟨p,q,r⟩:a≠b/\b≠c/\c≠a:=g.ne _ h;show⟨λz=>p (inj _ _ ca l z),λz=>q (inj _ _ l m z),λz=>r (inj _ _ m ca z)⟩
 rw[rY,bC];have nd:=g.nd;rw[List.Nodup,ie] at nd |-;show nd.imp_of_mem λ{x y} hx s h z=>h ?_;obtain⟨⟨a,b⟩,c⟩:=x;obtain⟨⟨d,i⟩,j⟩:=y;have z:=jv z;have e:En ts a b c:=hx;have n:En ts d i j:=s;have u:f a=f d:=z.1;have v:f b=f i:=z.2;change (a,b)=(d,i);rw[inj a d ⟨b,c,e⟩ ⟨i,j,n⟩ u,inj b i ⟨c,a,k.rot e⟩ ⟨j,d,k.rot n⟩ v]
theorem zK{f:Nat->Nat}{ts:List Tri}{u:Nat}(h:Co (ts.map (nam f)) u):∃a,Co ts a/\u=f a:=by
 obtain⟨t,d,e⟩:=ck.mp h;obtain⟨⟨a,b,c⟩,hm,rfl⟩:=ar.mp d;rcases e with rfl|rfl|rfl
 .exact⟨a,ck.mpr ⟨_,hm,.inl rfl⟩,rfl⟩
 .exact⟨b,ck.mpr ⟨_,hm,.inr (.inl rfl)⟩,rfl⟩
 show⟨c,ck.mpr ⟨_,hm,.inr (.inr rfl)⟩,rfl⟩
def Win(w j x:Nat):Prop:=w=0/\x=j\/w=1/\7*j<=x/\x<7*j+7\/w=2/\x+(j+1)*10 ^ 9+1<=10 ^ 60/\10 ^ 60<x+(j+2)*10 ^ 9+1
theorem FD{w i j x:Nat}(h:Win w i x)(h':Win w j x):i=j:=by
 rcases h with ⟨rfl,h⟩|⟨rfl,h1,h2⟩|⟨rfl,h1,h2⟩
 .rcases h' with ⟨_,h'⟩|⟨z,_⟩|⟨z,_⟩
  .lia
  .cases z
  cases z
 .rcases h' with ⟨z,_⟩|⟨_,a,b⟩|⟨z,_⟩
  .cases z
  .lia
  cases z
 rcases h' with ⟨z,_⟩|⟨z,_⟩|⟨_,a,b⟩
 .cases z
 .cases z
 lia
theorem HW{w j x:Nat}(a:j<=1000)(h:Win w j x):x<10 ^ 60:=by
 rcases h with ⟨_,h⟩|⟨_,_,h⟩|⟨_,h,_⟩
 .lia
 .lia
 lia
end K15
end
section
namespace K15
theorem zE{f:Nat->Nat}{ts:List Tri}(g:Good ts)(inj:∀a b,Co ts a->Co ts b->f a=f b->a=b){a b c:Nat}(h:En (ts.map (nam f)) a b c):∃d e i,En ts d e i/\a=f d/\b=f e/\c=f i:=by unfold En at h;rw[rY] at h;obtain⟨⟨⟨d,e⟩,i⟩,h1,h2⟩:=ar.mp h;have h2:=jv h2;have j:=jv h2.1;show⟨d,e,i,h1,j.1.symm,j.2.symm,h2.2.symm⟩
theorem zt{f:Nat->Nat}{ts:List Tri}{a b c:Nat}(h:En ts a b c):En (ts.map (nam f)) (f a) (f b) (f c):=by unfold En;rw[rY];show ar.mpr ⟨_,h,rfl⟩
theorem Gw{f:Nat->Nat}{ts:List Tri}(g:Good ts)(inj:∀a b,Co ts a->Co ts b->f a=f b->a=b){v:Nat}(H:Co ts v)(h:One (En ts) v):One (En (ts.map (nam f))) (f v):=by
 obtain⟨F,hF,I⟩:=h;have k:=g.sk;have key:∀p∈F,Co ts p:=λp d=>by
  obtain⟨q,j⟩:=hF.key p d;show⟨q,v,k.rot j⟩
 have nx:∀{x y z:Nat},En ts x y z->Co ts y:=λ{x y z} e=>⟨z,x,k.rot e⟩;have u:∀{x y z:Nat},En ts x y z->Co ts z:=λ{x y z} e=>⟨x,y,k.rot (k.rot e)⟩;have back:∀{p q:Nat},En (ts.map (nam f)) (f v) p q->∃c m,En ts v c m/\p=f c/\q=f m:=λ{p q} e=>by
  obtain⟨w,A,B,h1,h2,n,J⟩:=zE g inj e;have:v=w:=inj v w H ⟨A,B,h1⟩ h2;subst this;show⟨A,B,h1,n,J⟩
 show⟨F.map f,⟨λz=>hF.ne (Ax.mp z),?_,λi p q d j=>?_,λp d=>?_,λp d q j s=>?_,λp d o K=>?_⟩,λp ⟨q,j⟩=>?_⟩
 .have:=hF.nd;rw[List.Nodup] at this |-;rw[ie];show this.imp_of_mem λ{x y} hx L M z=>M (inj x y (key x hx) (key y L) z)
 .rw[bf] at d j;obtain⟨c,h1,rfl⟩:=cw.mp d;obtain⟨m,h2,rfl⟩:=cw.mp j;show zt (hF.ch i c m h1 h2)
 .obtain⟨c,h1,rfl⟩:=ar.mp d;obtain⟨q,j⟩:=hF.key c h1;show⟨f q,zt j⟩
 .obtain⟨c,h1,rfl⟩:=ar.mp d;obtain⟨p2,l,e,h2,rfl⟩:=back j;have:c=p2:=inj c p2 (key c h1) (nx e) h2;subst this;obtain⟨r,s⟩:=s;obtain⟨C,N,D,n,_⟩:=back s;have:l=C:=inj l C (u e) (nx D) n;subst this;show ar.mpr ⟨l,hF.clF c h1 l e ⟨N,D⟩,rfl⟩
 .obtain⟨c,h1,rfl⟩:=ar.mp d;obtain⟨E,p2,e,rfl,h2⟩:=back K;have:c=p2:=inj c p2 (key c h1) (u e) h2;subst this;show ar.mpr ⟨E,hF.clB c h1 E e,rfl⟩
 obtain⟨p2,l,e,rfl,rfl⟩:=back j;show ar.mpr ⟨p2,I p2 ⟨l,e⟩,rfl⟩
theorem C1{E E':Nat->Nat->Nat->Prop}(h:∀a b c,E a b c↔E' a b c)(v:Nat):One E v↔One E' v:=by
 have:E=E':=by funext a b c;show propext (h a b c)
 rw[this]
theorem il(a:Tri)(l:List Tri):ents (a::l)=ents [a]++ents l:=by simp[ents]
theorem Fk{ts c:List Tri}(h:c.Sublist ts):(ents c).Sublist (ents ts):=by
 induction h with
 |slnil=>show LH _
 |cons a _ b=>rw[il a];show b.trans (List.sublist_append_right _ _)
 |cons_cons a _ b=>rw[il a,il a];show NP (LH _) b
theorem rW{ts a:List Tri}(g:Good ts)(h:a.Sublist ts):Good a:=by show⟨λt b=>g.ne t (h.subset b),g.nd.sublist (LG _ ?_)⟩;show Fk h
theorem E9{as bs:List Tri}(g:Good as)(g':Good bs)(h:∀a,Co as a->¬Co bs a):Good (as++bs):=by
 have e:ents (as++bs)=ents as++ents bs:=by simp[ents]
 show⟨λt j=>(a_.mp j).elim (g.ne t) (g'.ne t),?_⟩;rw[e,aL,bV];show⟨g.nd,g'.nd,λs l s' m z=>?_⟩;obtain⟨⟨⟨a,b⟩,c⟩,h1,h2⟩:=ar.mp l;obtain⟨⟨⟨f,i⟩,n⟩,o,d⟩:=ar.mp m;have h2:(a,b)=s:=h2;have d:(f,i)=s':=d;have:(a,b)=(f,i):=by rw[h2,d,z]
 cases this;show h a ⟨b,c,h1⟩ ⟨b,n,o⟩
theorem wm{l:List Tri}{a b c n:Nat}(g:Good (l++[(a,b,c)]))(f:¬Co (l++[(a,b,c)]) n):Good (l++[(a,b,n),(b,c,n),(c,a,n)]):=by
 have e:∀m,ents (l++m)=ents l++ents m:=λm=>by simp[ents]
 have gl:Good l:=rW g ∅;have nd:=g.nd;rw[e,aL,bV] at nd;obtain⟨j,o,r⟩:a≠b/\b≠c/\c≠a:=g.ne (a,b,c) ∅;have co:∀x,x=a\/x=b\/x=c->Co (l++[(a,b,c)]) x:=λx hx=>ck.mpr ⟨(a,b,c),∅,hx⟩;have na:n≠a:=λz=>f (co n (.inl z));have nb:n≠b:=λz=>f (co n (.inr (.inl z)));have i:n≠c:=λz=>f (co n (.inr (.inr z)));have nl:∀s∈(ents l).map (·.1),s.1≠n/\s.2≠n:=λs d=>by
  obtain⟨⟨⟨x,y⟩,z⟩,h1,rfl⟩:=ar.mp d;have h1:En l x y z:=h1;have cx:∀u,Co l u->Co (l++[(a,b,c)]) u:=λu ⟨p,q,A⟩=>⟨p,q,by unfold En at *;rw[e];show dD _ A⟩;show⟨λw=>f (w ▸ cx x ⟨y,z,h1⟩),λw=>f (w ▸ cx y ⟨z,x,gl.sk.rot h1⟩)⟩
 have B:∀s∈(ents l).map (·.1),s≠(a,b)/\s≠(b,c)/\s≠(c,a):=λs d=>by
  have h:=nd.2.2 s d;show⟨h (a,b) (by simp[ents]),h (b,c) (by simp[ents]),h (c,a) (by simp[ents])⟩
 show⟨λt C=>?_,?_⟩
 .rcases a_.mp C with h|h
  .exact gl.ne t h
  simp only[aG,dS,or_false] at h;rcases h with rfl|rfl|rfl
  .exact⟨j,ax nb,na⟩
  .exact⟨o,ax i,nb⟩
  show⟨r,ax na,i⟩
 rw[e,aL,bV];show⟨gl.nd,?_,λs d s' v z=>?_⟩
 .simp[ents,j,o,r,na,nb,i,ax j,ax o,ax r,ax na,ax nb,ax i]
 subst z;obtain⟨D,E⟩:=nl s d;obtain⟨H,I,J⟩:=B s d;simp[ents] at v;rcases v with rfl|rfl|rfl|rfl|rfl|rfl|rfl|rfl|rfl
 all_goals first|show H rfl|show I rfl|show J rfl|show D rfl|show E rfl
end K15
end
section
namespace K15
variable {E:Nat->Nat->Nat->Prop}
def bc(E:Nat->Nat->Nat->Prop)(a b:Nat):Prop:=(∃q,E a b q)/\¬∃r,E b a r
theorem sS(k:Sk E){a b:Nat}{F:List Nat}(hF:Fan E a F)(all:∀p,(∃q,E a p q)->p∈F)(h:bc E a b):F[0]?=some b:=by
 obtain⟨i,hi⟩:=kJ.mp (all b h.1);cases i with
 |zero=>show hi
 |succ i=>
  obtain⟨d,_⟩:=aI.mp hi;have c:F[i]?=some (F[i]'()):=aX _;show (h.2 ⟨_,k.rot (k.rot (hF.ch i _ _ c hi))⟩).elim
theorem sT(k:Sk E){a b c:Nat}(o:One E a)(h:bc E a b)(h':bc E a c):b=c:=by obtain⟨F,hF,all⟩:=o;show dz ((sS k hF all h).symm.trans (sS k hF all h'))
theorem oj(k:Sk E){a z:Nat}{F:List Nat}(hF:Fan E a F)(all:∀p,(∃q,E a p q)->p∈F)(h:bc E z a):∃l,F[F.length-1]?=some l/\E a l z:=by
 obtain⟨⟨q,b⟩,no⟩:=h;have b:=k.rot b;obtain⟨i,hi⟩:=kJ.mp (all q ⟨z,b⟩);obtain⟨f,_⟩:=aI.mp hi;by_cases c:i+1<F.length
 .have d:F[i+1]?=some (F[i+1]):=aX c;have e:z=F[i+1]:=k.one b (hF.ch i _ _ hi d);show (no (by rw[e];show hF.key _ (mH c))).elim
 show⟨q,by rw[show F.length-1=i by lia];show hi,b⟩
theorem sU(k:Sk E){a z b:Nat}(o:One E a)(h:bc E z a)(h':bc E b a):z=b:=by obtain⟨F,hF,all⟩:=o;obtain⟨l,h1,h2⟩:=oj k hF all h;obtain⟨e,c,d⟩:=oj k hF all h';cases h1.symm.trans c;show k.one h2 d
theorem Ed(k:Sk E){a z:Nat}(o:One E a)(h:bc E z a):∃b,bc E a b:=by
 obtain⟨F,hF,all⟩:=o;obtain⟨l,h1,h2⟩:=oj k hF all h;have j:0<F.length:=by
  cases m:F with
  |nil=>show absurd m hF.ne
  |cons x xs=>simp
 have f:F[0]?=some (F[0]'j):=aX _;generalize F[0]'j=b at f;show⟨b,hF.key b (aZ f),λ⟨r,d⟩=>?_⟩;have d:=k.rot d;obtain⟨i,hi⟩:=kJ.mp (all r ⟨b,d⟩);obtain⟨n,_⟩:=aI.mp hi;by_cases c:i+1<F.length
 .have g:F[i+1]?=some (F[i+1]):=aX c;have e:=k.one d (hF.ch i _ _ hi g);rw[<-e] at g;have:=gQ hF.nd g f;lia
 rw[show F.length-1=i by lia] at h1;cases hi.symm.trans h1;have e:=k.one d h2;show h.2 (by rw[<-e];show hF.key b (aZ f))
section
variable {R:Nat->Nat->Prop}
structure Path(R:Nat->Nat->Prop)(l:List Nat):Prop where
 ne:l≠[]
 nd:l.Nodup
 ch:∀i p q,l[i]?=some p->l[i+1]?=some q->R p q
theorem Path.begin{l:List Nat}(h:Path R l):∃x,l[0]?=some x/\x∈l:=by have a:0<l.length:=ib.mpr h.ne;show⟨l[0],aX _,mH _⟩
end
end K15
end
section
namespace K15
abbrev Ne3(t:Tri):Prop:=t.1≠t.2.1/\t.2.1≠t.2.2/\t.2.2≠t.1
def bg(t:Tri):Tri:=if t.1<=t.2.1/\t.1<=t.2.2 then t else if t.2.1<=t.2.2/\t.2.1<=t.1 then (t.2.1,t.2.2,t.1) else (t.2.2,t.1,t.2.1)
theorem jj(t:Tri):bg t=t\/bg t=(t.2.1,t.2.2,t.1)\/bg t=(t.2.2,t.1,t.2.1):=by
 unfold bg
 split
 .exact .inl rfl
 split
 .exact .inr (.inl rfl)
 show .inr (.inr rfl)
theorem Ln(t:Tri):(bg t).1<=(bg t).2.1/\(bg t).1<=(bg t).2.2:=by
 unfold bg
 split
 .assumption
 split
 .assumption
 show⟨?_,?_⟩
 .change t.2.2<=t.1;lia
 change t.2.2<=t.2.1;lia
theorem ql{t:Tri}(h:t.1<=t.2.1/\t.1<=t.2.2):bg t=t:=OU h
theorem Lo(t:Tri):bg (bg t)=bg t:=ql (Ln t)
theorem eR{a b c:Nat}(h:Ne3 (a,b,c)):bg (b,c,a)=bg (a,b,c):=by
 obtain⟨h1,h2,d⟩:a≠b/\b≠c/\c≠a:=h;unfold bg;dsimp only;by_cases c1:a<=b/\a<=c
 .rw[OU c1,OT (),OT ()]
 rw[OT c1];by_cases c2:b<=c/\b<=a
 .rw[OU c2,OU c2]
 rw[OT c2,OT c2,OU ()]
theorem xj(t:Tri):(ents [bg t]).Perm (ents [t]):=by
 obtain⟨a,b,c⟩:=t;have e:ents [(a,b,c)]=[((a,b),c),((b,c),a),((c,a),b)]:=rfl;rcases jj (a,b,c) with h|h|h<;>rw[h]
 .change ([((b,c),a),((c,a),b)]++[((a,b),c)]).Perm ([((a,b),c)]++[((b,c),a),((c,a),b)]);show ft
 change ([((c,a),b)]++[((a,b),c),((b,c),a)]).Perm ([((a,b),c),((b,c),a)]++[((c,a),b)]);show ft
theorem yJ:∀ts:List Tri,(ents (ts.map bg)).Perm (ents ts)
 | []=>.refl _
 |t::ts=>by rw[aY,il,il t];show (xj t).append (yJ ts)
theorem yI{as bs:List Tri}(h:as.Perm bs):(ents as).Perm (ents bs):=h.flatMap_right _
def Alike(us ts:List Tri):Prop:=us.Perm (ts.map bg)
theorem Alike.ents{us ts:List Tri}(h:Alike us ts):(ents us).Perm (ents ts):=(yI h).trans (yJ ts)
theorem Alike.en{us ts:List Tri}(h:Alike us ts)(a b c:Nat):En us a b c↔En ts a b c:=h.ents.mem_iff
structure Skn(ts:List Tri):Prop where
 g:Good ts
 o:∀c,Co ts c->One (En ts) c
theorem Skn.pm{ts d:List Tri}(s:Skn ts)(h:(ents d).Perm (ents ts)):Skn d:=by
 show⟨⟨λt f=>?_,(h.map _).nodup_iff.mpr s.g.nd⟩,λc i=>?_⟩
 .have k:=s.g.sk;obtain⟨a,b,c⟩:=t;have e:En ts a b c:=h.mem_iff.mp (cG.mpr (.inl f));show⟨k.ne e,k.ne (k.rot e),k.ne (k.rot (k.rot e))⟩
 obtain⟨p,q,e⟩:=i;show (C1 (λa b c=>(h.mem_iff:((a,b),c)∈_↔_)) c).mpr (s.o c ⟨p,q,h.mem_iff.mp e⟩)
theorem lK{us ts:List Tri}(g:Good ts)(h:Alike us ts):us.Nodup:=by
 have g':((ents us).map (·.1)).Nodup:=(h.ents.map _).nodup_iff.mpr g.nd;clear h g;induction us with
 |nil=>show .nil
 |cons t us a=>
  rw[il,aL,bV] at g';show cJ.mpr ⟨λhm=>?_,a g'.2.1⟩;show g'.2.2 (t.1,t.2.1) (by simp[ents]) (t.1,t.2.1) ?_ rfl;show ar.mpr ⟨((t.1,t.2.1),t.2.2),cG.mpr (.inl hm),rfl⟩
theorem oN{us ts:List Tri}(h:Alike us ts){t:Tri}(a:t∈us):bg t=t:=by obtain⟨u,_,rfl⟩:=ar.mp (h.mem_iff.mp a);show Lo u
theorem rR{us ts:List Tri}(g:Good ts)(h:Alike us ts){a b c:Nat}:bg (a,b,c)∈us/\Ne3 (a,b,c)↔En ts a b c:=by
 constructor
 .rintro⟨hm,d⟩;rw[<-h.en];rcases jj (a,b,c) with e|e|e<;>rw[e] at hm
  .exact cG.mpr (.inl hm)
  .exact cG.mpr (.inr (.inr hm))
  show cG.mpr (.inr (.inl hm))
 intro e;have k:=g.sk;have d:Ne3 (a,b,c):=⟨k.ne e,k.ne (k.rot e),k.ne (k.rot (k.rot e))⟩;show⟨?_,d⟩;have f:=eR d;have i:bg (c,a,b)=bg (a,b,c):=(eR (a:=c) (b:=a) (c:=b) ⟨d.2.2,d.1,d.2.1⟩).symm;rcases cG.mp e with m|m|m
 .exact h.mem_iff.mpr (ar.mpr ⟨_,m,rfl⟩)
 .exact h.mem_iff.mpr (ar.mpr ⟨_,m,i⟩)
 show h.mem_iff.mpr (ar.mpr ⟨_,m,f⟩)
end K15
end
section
namespace K15
def Lk(R:Nat->Nat->Prop):List Nat->Prop
 |p::q::l=>R p q/\Lk R (q::l)
 |_=>True
theorem j4{R:Nat->Nat->Prop}:∀{l:List Nat},Lk R l↔∀i p q,l[i]?=some p->l[i+1]?=some q->R p q
 | []=>⟨λ_ i p q h=>by simp at h,λ_=>trivial⟩
 | [a]=>⟨λ_ i p q _ h=>by simp at h,λ_=>trivial⟩
 |a::b::l=>by
  change R a b/\Lk R (b::l)↔_;rw[j4];constructor
  .rintro⟨h1,h2⟩ i p q c d;cases i with
   |zero=>cases c;cases d;show h1
   |succ i=>show h2 i p q c d
  show λh=>⟨h 0 a b rfl rfl,λi p q c d=>h (i+1) p q c d⟩
theorem i8{R S:Nat->Nat->Prop}:∀{l:List Nat},(∀p q,p∈l->R p q->S p q)->Lk R l->Lk S l
 | [],_,_=>trivial
 | [a],_,_=>trivial
 |a::b::l,k,⟨h1,h2⟩=>⟨k a b ∅ h1,i8 (λp q c=>k p q (bJ _ c)) h2⟩
theorem j5{R:Nat->Nat->Prop}:∀{l m:List Nat},Lk R (l++m)↔Lk R l/\Lk R m/\∀x y,l.getLast?=some x->m[0]?=some y->R x y
 | [],m=>⟨λh=>⟨trivial,h,λx y z=>by simp at z⟩,λh=>h.2.1⟩
 | [a],[]=>⟨λh=>⟨trivial,trivial,λx y _ z=>by simp at z⟩,λ_=>trivial⟩
 | [a],b::m=>⟨λh=>⟨trivial,h.2,λx y e f=>by cases e;cases f;show h.1⟩,λh=>⟨h.2.2 a b rfl rfl,h.2.1⟩⟩
 |a::b::l,m=>by
  change R a b/\Lk R (b::l++m)↔(R a b/\Lk R (b::l))/\_;rw[j5 (l:=b::l),List.getLast?_cons_cons];show⟨λ⟨h1,h2,c,d⟩=>⟨⟨h1,h2⟩,c,d⟩,λ⟨⟨h1,h2⟩,c,d⟩=>⟨h1,h2,c,d⟩⟩
section
variable {E E':Nat->Nat->Nat->Prop}{v:Nat}
theorem j2{F:List Nat}(ne:F≠[])(nd:F.Nodup)(ch:Lk (E v) F)(key:∀p,p∈F↔∃q,E v p q):One E v:=
 ⟨F,⟨ne,nd,j4.mp ch,λp a=>(key p).mp a,λp _ q _ b=>(key q).mpr b,λp _ o c=>(key o).mpr ⟨p,c⟩⟩,λp a=>(key p).mpr a⟩
theorem zr(o:One E v):∃F,F≠[]/\F.Nodup/\Lk (E v) F/\∀p,p∈F↔∃q,E v p q:=by obtain⟨F,hF,all⟩:=o;show⟨F,hF.ne,hF.nd,j4.mpr hF.ch,λp=>⟨hF.key p,all p⟩⟩
theorem Gv{b c x:Nat}(k:Sk E)(o:One E v)(f:E v b c)(hx:∀p q,E v p q->p≠x)(h:∀p q,E' v p q↔(E v p q/\p≠b)\/(p=b/\q=x)\/(p=x/\q=c)):One E' v:=by
 obtain⟨F,ne,nd,ch,key⟩:=zr o;obtain⟨l,m,rfl⟩:=List.append_of_mem ((key b).mpr ⟨c,f⟩);have s:x≠b:=λz=>hx b c f z.symm;have g:x∉l++b::m:=λhm=>by
  obtain⟨q,a⟩:=(key x).mp hm;show hx x q a rfl
 obtain⟨u,w,i⟩:=bV.mp nd;obtain⟨j,y⟩:=cJ.mp w;have n:b∉l:=λz=>i b z b ∅ rfl;obtain⟨c1,c2,A⟩:=j5.mp ch;rw[a_,aG,not_or,not_or] at g;show j2 (F:=l++b::x::m) ∅ ?_ (j5.mpr ⟨i8 (λp q e r=>(h p q).mpr (.inl ⟨r,λz=>n (z ▸ e)⟩)) c1,⟨(h b x).mpr (.inr (.inl ⟨rfl,rfl⟩)),?_⟩,λp q e a=>?_⟩) λp=>?_
 .refine bV.mpr ⟨u,cJ.mpr ⟨?_,cJ.mpr ⟨g.2.2,y⟩⟩,λp e q a=>?_⟩
  .rw[aG,not_or];show⟨ax s,j⟩
  rcases aG.mp a with rfl|a
  .exact i p e q ∅
  rcases aG.mp a with rfl|a
  .exact λz=>g.1 (z ▸ e)
  show i p e q (bJ _ a)
 .cases m with
  |nil=>trivial
  |cons d m=>
   have B:d=c:=k.one c2.1 f;subst B;show⟨(h x d).mpr (.inr (.inr ⟨rfl,rfl⟩)),i8 (λp q e r=>(h p q).mpr (.inl ⟨r,λz=>j (z ▸ e)⟩)) c2.2⟩
 .cases a;have:=A p b e rfl;show (h p b).mpr (.inl ⟨this,λz=>n (z ▸ List.mem_of_getLast? e)⟩)
 have kp:=key p;rw[a_,aG] at kp |-;rw[aG];constructor
 .rintro (e|rfl|rfl|e)
  .obtain⟨q,a⟩:=kp.mp (.inl e);show⟨q,(h p q).mpr (.inl ⟨a,λz=>n (z ▸ e)⟩)⟩
  .exact⟨x,(h p x).mpr (.inr (.inl ⟨rfl,rfl⟩))⟩
  .exact⟨c,(h p c).mpr (.inr (.inr ⟨rfl,rfl⟩))⟩
  obtain⟨q,a⟩:=kp.mp (.inr (.inr e));show⟨q,(h p q).mpr (.inl ⟨a,λz=>j (z ▸ e)⟩)⟩
 rintro⟨q,a⟩;rcases (h p q).mp a with ⟨a,_⟩|⟨rfl,_⟩|⟨rfl,_⟩
 .rcases kp.mpr ⟨q,a⟩ with z|z|z
  .exact .inl z
  .exact .inr (.inl z)
  show .inr (.inr (.inr z))
 .exact .inr (.inl rfl)
 show .inr (.inr (.inl rfl))
theorem Gy{x:Nat}{A:Nat->Nat->Prop}(k:Sk E)(o:One E v)(f:∀p q,A p q->bc E p q)(hx:∀p q,E v p q->p≠x/\q≠x)(h:∀p q,E' v p q↔E v p q\/(A p v/\q=x)\/(p=x/\A v q)):One E' v:=by
 obtain⟨d,hF,all⟩:=id o;obtain⟨b0,i⟩:∃b,d[0]?=some b:=by
  cases d with
  |nil=>show absurd rfl hF.ne
  |cons b l=>show⟨b,rfl⟩
 have key:∀p,p∈d↔∃q,E v p q:=λp=>⟨hF.key p,all p⟩;have ch:Lk (E v) d:=j4.mpr hF.ch;have up:∀{l},Lk (E v) l->Lk (E' v) l:=λj=>i8 (λp q _ r=>(h p q).mpr (.inl r)) j;have J:x∉d:=λz=>by
  obtain⟨q,c⟩:=(key x).mp z;show (hx x q c).1 rfl
 obtain⟨l2,s,K,u,w⟩:∃l2:List Nat,(∀z,z∈l2↔A z v)/\l2.Nodup/\(∀z∈l2,z∉d/\z≠x)/\Lk (E' v) (d++l2):=by
  by_cases ha:∃z,A z v
  .obtain⟨z,hz⟩:=ha;obtain⟨l,j,B⟩:=oj k hF all (f z v hz);show⟨[z],λy=>⟨λg=>by rw[aQ.mp g];show hz,λg=>by rw[aQ];show sU k o (f y v g) (f z v hz)⟩,∅,λy g=>?_,j5.mpr ⟨up ch,trivial,λp q e c=>?_⟩⟩
   .rw[aQ.mp g];show⟨λm=>(f z v hz).2 ((key z).mp m),(hx l z B).2⟩
   cases c;rw[gi,j] at e;cases e;show (h _ _).mpr (.inl B)
  show⟨[],λz=>⟨λhz=>by simp at hz,λhz=>(ha ⟨z,hz⟩).elim⟩,.nil,λz hz=>by simp at hz,by rw[eG];show up ch⟩
 have hd:(d++l2)[0]?=some b0:=by rw[ef (by have:=(aI.mp i).1;show this)];show i
 have C:(d++l2).Nodup:=bV.mpr ⟨hF.nd,K,λp e q c z=>(u q c).1 (z ▸ e)⟩;have x2:x∉d++l2:=λz=>(a_.mp z).elim J λz=>(u x z).2 rfl;by_cases D:∃q,A v q
 .obtain⟨H,n⟩:=D;have L:b0=H:=dz (i.symm.trans (sS k hF all (f v H n)));subst L;show j2 (F:=x::(d++l2)) ∅ (cJ.mpr ⟨x2,C⟩) ?_ λp=>?_
  .rw[<-List.singleton_append,j5];show⟨trivial,w,λa b ha I=>?_⟩;cases ha;rw[hd] at I;cases I;show (h x b0).mpr (.inr (.inr ⟨rfl,n⟩))
  rw[aG,a_,key,s];constructor
  .rintro (rfl|⟨q,c⟩|e)
   .exact⟨b0,(h p b0).mpr (.inr (.inr ⟨rfl,n⟩))⟩
   .exact⟨q,(h p q).mpr (.inl c)⟩
   show⟨x,(h p x).mpr (.inr (.inl ⟨e,rfl⟩))⟩
  rintro⟨q,c⟩;rcases (h p q).mp c with c|⟨c,_⟩|⟨rfl,_⟩
  .exact .inr (.inl ⟨q,c⟩)
  .exact .inr (.inr c)
  show .inl rfl
 show j2 (F:=d++l2) (λz=>hF.ne (List.append_eq_nil_iff.mp z).1) C w λp=>?_;rw[a_,key,s];constructor
 .rintro (⟨q,c⟩|e)
  .exact⟨q,(h p q).mpr (.inl c)⟩
  show⟨x,(h p x).mpr (.inr (.inl ⟨e,rfl⟩))⟩
 rintro⟨q,c⟩;rcases (h p q).mp c with c|⟨c,_⟩|⟨rfl,c⟩
 .exact .inl ⟨q,c⟩
 .exact .inr c
 show (D ⟨q,c⟩).elim
end
end K15
end
section
namespace K15
def R3(a b c p q r:Nat):Prop:=(p=a/\q=b/\r=c)\/(p=b/\q=c/\r=a)\/(p=c/\q=a/\r=b)
theorem eQ{l m:List Tri}{p q r:Nat}:En (l++m) p q r↔En l p q r\/En m p q r:=by unfold En ents;rw[mF,a_]
theorem dC{a b c:Nat}{m:List Tri}{p q r:Nat}:En ((a,b,c)::m) p q r↔R3 a b c p q r\/En m p q r:=by unfold En;rw[il,a_];show or_congr ?_ uD;change _∈[((a,b),c),((b,c),a),((c,a),b)]↔_;simp only[aG,dS,or_false,qR,and_assoc,R3]
theorem tX{p q r:Nat}:¬En [] p q r:=λh=>by cases h
theorem IH{l:List Tri}{a b c x:Nat}(s:Skn (l++[(a,b,c)]))(hx:¬Co (l++[(a,b,c)]) x):Skn (l++[(a,b,x),(b,c,x),(c,a,x)]):=by
 have k:=s.g.sk;have e:En (l++[(a,b,c)]) a b c:=eQ.mpr (.inr (dC.mpr (.inl (.inl ⟨rfl,rfl,rfl⟩))));have u:=k.ne e;have w:=k.ne (k.rot e);have A:=k.ne (k.rot (k.rot e));have nx:∀{p q r},En (l++[(a,b,c)]) p q r->p≠x/\q≠x/\r≠x:=λ{p q r} h=>⟨λz=>hx ⟨q,r,z ▸ h⟩,λz=>hx ⟨r,p,z ▸ k.rot h⟩,λz=>hx ⟨p,q,z ▸ k.rot (k.rot h)⟩⟩;have xs:=nx e;have B:∀{p q r},En l p q r↔En (l++[(a,b,c)]) p q r/\¬R3 a b c p q r:=λ{p q r}=>by
  rw[eQ,dC];constructor
  .intro h;show⟨.inl h,λz=>?_⟩;have nd:=s.g.nd;unfold ents at nd;rw[mF,aL,bV] at nd;show nd.2.2 (p,q) (ar.mpr ⟨((p,q),r),h,rfl⟩) (p,q) (ar.mpr ⟨((p,q),r),dC.mpr (.inl z),rfl⟩) rfl
  rintro⟨h|h|h,C⟩
  .exact h
  .exact (C h).elim
  show (tX h).elim
 show⟨wm s.g hx,λv j=>?_⟩;have m:∀v p q,En (l++[(a,b,x),(b,c,x),(c,a,x)]) v p q↔(En (l++[(a,b,c)]) v p q/\¬R3 a b c v p q)\/R3 a b x v p q\/R3 b c x v p q\/R3 c a x v p q:=λv p q=>by
  rw[eQ,dC,dC,dC,B];simp only[tX,or_false]
 have sub:∀{v f i},En (l++[(a,b,c)]) v f i->v≠x->(∀p q,R3 a b c v p q↔p=f/\q=i)->(∀p q,R3 a b x v p q\/R3 b c x v p q\/R3 c a x v p q↔(p=f/\q=x)\/(p=x/\q=i))->One (En (l++[(a,b,x),(b,c,x),(c,a,x)])) v:=λ{v f i} h _ h1 h2=>by
  show Gv k (s.o v ⟨_,_,h⟩) h (λp q z=>(nx z).2.1) λp q=>?_;rw[m,h1,h2];show or_congr ⟨λ⟨z,n⟩=>⟨z,λy=>n ⟨y,k.one (y ▸ z) h⟩⟩,λ⟨z,n⟩=>⟨z,λy=>n y.1⟩⟩ uD
 by_cases D:v=a
 .subst D;show sub e xs.1 (λp q=>by unfold R3;lia) λp q=>by unfold R3;lia
 by_cases E:v=b
 .subst E;show sub (k.rot e) xs.2.1 (λp q=>by unfold R3;lia) λp q=>by unfold R3;lia
 by_cases H:v=c
 .subst H;show sub (k.rot (k.rot e)) xs.2.2 (λp q=>by unfold R3;lia) λp q=>by unfold R3;lia
 by_cases vx:v=x
 .subst vx;have d:∀p q,En (l++[(a,b,v),(b,c,v),(c,a,v)]) v p q↔(p=a/\q=b)\/(p=b/\q=c)\/(p=c/\q=a):=λp q=>by
   rw[m];constructor
   .rintro (⟨h,_⟩|h)
    .exact ((nx h).1 rfl).elim
    unfold R3 at h;lia
   intro h;right;unfold R3;lia
  show j2 (F:=[a,b,c]) ∅ (by simp[u,w,ax A]) ⟨(d _ _).mpr (.inl ⟨rfl,rfl⟩),(d _ _).mpr (.inr (.inl ⟨rfl,rfl⟩)),trivial⟩ λp=>?_;simp only[aG,dS,or_false,d];show⟨λh=>h.elim (λh=>⟨b,.inl ⟨h,rfl⟩⟩) λh=>h.elim (λh=>⟨c,.inr (.inl ⟨h,rfl⟩)⟩) λh=>⟨a,.inr (.inr ⟨h,rfl⟩)⟩,λ⟨q,h⟩=>()⟩
 have d:∀p q,En (l++[(a,b,x),(b,c,x),(c,a,x)]) v p q↔En (l++[(a,b,c)]) v p q:=λp q=>by
  rw[m];show⟨λh=>h.elim (λz=>z.1) λz=>by unfold R3 at z;lia,λh=>.inl ⟨h,by unfold R3;lia⟩⟩
 obtain⟨p,q,j⟩:=j;obtain⟨F,I,J,K,L⟩:=zr (s.o v ⟨p,q,(d p q).mp j⟩);show j2 I J (i8 (λp q _ r=>(d p q).mpr r) K) λp=>(L p).trans ⟨λ⟨q,z⟩=>⟨q,(d p q).mpr z⟩,λ⟨q,z⟩=>⟨q,(d p q).mp z⟩⟩
def caps(x:Nat)(ps:List (Nat×Nat)):List Tri:=ps.map λs=>(x,s.1,s.2)
theorem i_{x:Nat}{p q r:Nat}:∀{ps:List (Nat×Nat)},En (caps x ps) p q r↔∃s∈ps,R3 x s.1 s.2 p q r
 | []=>⟨λh=>(tX h).elim,λ⟨s,h,_⟩=>by simp at h⟩
 |(a,b)::ps=>by
  change En ((x,a,b)::caps x ps) p q r↔_;rw[dC,i_];constructor
  .rintro (h|⟨s,h1,h2⟩)
   .exact⟨_,gq,h⟩
   show⟨s,bJ _ h1,h2⟩
  rintro⟨s,h1,h2⟩;rcases aG.mp h1 with rfl|h1
  .exact .inl h2
  show .inr ⟨s,h1,h2⟩
theorem rM{us:List Tri}{ps:List (Nat×Nat)}{x:Nat}{F:List Nat}(s:Skn us)(hx:¬Co us x)(nd:ps.Nodup)(c:∀q p,(q,p)∈ps->bc (En us) p q)(hF:F.Nodup)(C:∀q,q∈F↔∃p,(q,p)∈ps)(I:Lk (λq p=>(q,p)∈ps) F):Skn (us++caps x ps):=by
 have k:=s.g.sk;have nx:∀{p q r},En us p q r->p≠x/\q≠x/\r≠x:=λ{p q r} h=>⟨λz=>hx ⟨q,r,z ▸ h⟩,λz=>hx ⟨r,p,z ▸ k.rot h⟩,λz=>hx ⟨p,q,z ▸ k.rot (k.rot h)⟩⟩;have ab:∀q p,(q,p)∈ps->p≠q/\p≠x/\q≠x:=λq p h=>by
  obtain⟨⟨r,e⟩,_⟩:=c q p h;show⟨k.ne e,(nx e).1,(nx e).2.1⟩
 have cp:∀q p,(q,p)∈ps->Co us p/\Co us q:=λq p h=>by
  obtain⟨⟨r,e⟩,_⟩:=c q p h;show⟨⟨q,r,e⟩,⟨r,p,k.rot e⟩⟩
 have n:∀v p q,En (us++caps x ps) v p q↔En us v p q\/(v=x/\(p,q)∈ps)\/((v,p)∈ps/\q=x)\/(p=x/\(q,v)∈ps):=λv p q=>by
  rw[eQ,i_];show or_congr uD ⟨?_,?_⟩
  .rintro⟨⟨a,b⟩,h1,h|h|h⟩
   .obtain⟨rfl,rfl,rfl⟩:=h;show .inl ⟨rfl,h1⟩
   .obtain⟨rfl,rfl,rfl⟩:=h;show .inr (.inl ⟨h1,rfl⟩)
   obtain⟨rfl,rfl,rfl⟩:=h;show .inr (.inr ⟨rfl,h1⟩)
  rintro (⟨rfl,h⟩|⟨h,rfl⟩|⟨rfl,h⟩)
  .exact⟨_,h,.inl ⟨rfl,rfl,rfl⟩⟩
  .exact⟨_,h,.inr (.inl ⟨rfl,rfl,rfl⟩)⟩
  show⟨_,h,.inr (.inr ⟨rfl,rfl,rfl⟩)⟩
 show⟨⟨λt K=>?_,?_⟩,λv d=>?_⟩
 .rcases a_.mp K with h|h
  .exact s.g.ne t h
  obtain⟨⟨q,p⟩,h1,rfl⟩:=ar.mp h;obtain⟨D,u,w⟩:=ab q p h1;show⟨ax w,ax D,u⟩
 .unfold ents;rw[mF,aL,bV];show⟨s.g.nd,?_,?_⟩
  .change ((ents (caps x ps)).map (·.1)).Nodup;have one:∀{q p f},(q,p)∈ps->(q,f)∈ps->p=f:=λ{q p f} h1 h2=>sU k (s.o q (cp q p h1).2) (c _ _ h1) (c _ _ h2);have inj:∀{q i p},(q,p)∈ps->(i,p)∈ps->q=i:=λ{q i p} h1 h2=>sT k (s.o p (cp q p h1).1) (c _ _ h1) (c _ _ h2);clear n C I
   suffices ∀l:List (Nat×Nat),l.Nodup->(∀s∈l,s∈ps)->((ents (caps x l)).map (·.1)).Nodup from this ps nd λ_ h=>h
   intro l;induction l with
   |nil=>show λ_ _=>.nil
   |cons s l L=>
    intro nl j;obtain⟨q,p⟩:=s;obtain⟨M,N⟩:=cJ.mp nl;have E:=j _ gq;obtain⟨D,u,w⟩:=ab q p E;change ((ents ((x,q,p)::caps x l)).map (·.1)).Nodup;rw[il,aL,bV];show⟨?_,L N λs h=>j s (bJ _ h),λO h1 P h2 z=>?_⟩
    .change [(x,q),(q,p),(p,x)].Nodup;simp[u,w,ax D,ax u,ax w]
    subst z;obtain⟨⟨⟨a,b⟩,r⟩,Q,rfl⟩:=ar.mp h2;obtain⟨⟨i,f⟩,m,y⟩:=i_.mp (show En (caps x l) a b r from Q);have H:=j _ (bJ _ m);obtain⟨T,U,X⟩:=ab i f H;have h1:(a,b)∈[(x,q),(q,p),(p,x)]:=h1;simp only[aG,dS,or_false,qR] at h1;have eq:q=i\/p=f:=by unfold R3 at y;dsimp only at y;lia
    show M ?_;rcases eq with rfl|rfl
    .rw[one E H];show m
    rw[inj E H];show m
  intro O h1 P h2 z;subst z;obtain⟨⟨⟨a,b⟩,r⟩,m,rfl⟩:=ar.mp h1;obtain⟨⟨⟨Y,Z⟩,R⟩,y,e⟩:=ar.mp h2;cases e;have h1:En us a b r:=m;have h2:En (caps x ps) a b R:=y;obtain⟨⟨q,p⟩,j,h|h|h⟩:=i_.mp h2
  .exact (nx h1).1 h.1
  .obtain⟨rfl,rfl,_⟩:=h;show (c _ _ j).2 ⟨r,h1⟩
  show (nx h1).2.1 h.2.1
 by_cases vx:v=x
 .subst vx;have B:∀p q,En (us++caps v ps) v p q↔(p,q)∈ps:=λp q=>by
   rw[n];constructor
   .rintro (h|⟨_,h⟩|⟨h,_⟩|⟨_,h⟩)
    .exact ((nx h).1 rfl).elim
    .exact h
    .exact ((ab _ _ h).2.2 rfl).elim
    show ((ab _ _ h).2.1 rfl).elim
   show λh=>.inr (.inl ⟨rfl,h⟩)
  obtain⟨p,q,d⟩:=d;have J:=(C p).mpr ⟨q,(B p q).mp d⟩;show j2 (λz=>by rw[z] at J;cases J) hF (i8 (λp q _ r=>(B p q).mpr r) I) λp=>(C p).trans ⟨λ⟨q,h⟩=>⟨q,(B p q).mpr h⟩,λ⟨q,h⟩=>⟨q,(B p q).mp h⟩⟩
 have S:Co us v:=by
  obtain⟨p,q,d⟩:=d;rcases (n v p q).mp d with h|⟨h,_⟩|⟨h,_⟩|⟨_,h⟩
  .exact⟨p,q,h⟩
  .exact (vx h).elim
  .exact (cp _ _ h).2
  show (cp _ _ h).1
 show Gy (A:=λp q=>(q,p)∈ps) k (s.o v S) (λp q h=>c q p h) (λp q h=>(nx h).2) λp q=>?_;rw[n];show or_congr uD ⟨λh=>h.elim (λz=>(vx z.1).elim) id,.inr⟩
end K15
end
section
namespace K15
def wo(us gone:List Tri):List Tri:=us.filter λt=>!decide (t∈gone.map bg)
theorem mh{us gone m:List Tri}(nd:us.Nodup)(h:us.Perm (gone.map bg++m)):(wo us gone).Perm m:=by show (h.filter _).trans (mB ?_);rw[fq,LP.mpr (λt a=>‹a›),AA,Au];intro t a;have b:=h.nodup_iff.mp nd;have:=(bV.mp b).2.2;simpa using λz hz e=>this _ (ar.mpr ⟨z,hz,e⟩) t a rfl
section
variable {us ts:List Tri}{a b c d x:Nat}
theorem mi(h:Alike us ts)(gone:List Tri):(wo us gone).map bg=wo us gone:=by show (iQ λt a=>?_).trans (mI _);show oN h (dG.mp a).1
theorem y0(g:Good ts)(h:Alike us ts)(e:En ts a b c):us.Perm (bg (a,b,c)::wo us [(a,b,c)]):=by have hm:=((rR g h).mpr e).1;have p:=AC hm;show p.trans ((mh (gone:=[(a,b,c)]) (lK g h) p).symm.cons _)
theorem ne3(g:Good ts)(e:En ts a b c):Ne3 (a,b,c):=⟨g.sk.ne e,g.sk.ne (g.sk.rot e),g.sk.ne (g.sk.rot (g.sk.rot e))⟩
theorem HV(g:Good ts)(h:Alike us ts)(e:En ts a b c)(i:En ts b a d):us.Perm (bg (a,b,c)::bg (b,a,d)::wo us [(a,b,c),(b,a,d)]):=by
 have hm:=((rR g h).mpr e).1;have j:=((rR g h).mpr i).1;have n:=ne3 g e;have l:=ne3 g i;have ne:bg (b,a,d)≠bg (a,b,c):=λz=>by
  obtain⟨m,o,q⟩:a≠b/\b≠c/\c≠a:=n;obtain⟨r,s,u⟩:b≠a/\a≠d/\d≠b:=l;rcases jj (a,b,c) with y|y|y<;>rcases jj (b,a,d) with f | f | f<;>rw[y,f] at z<;>simp only[qR] at z<;>lia
 have p:=(AC hm).trans ((AC ((Az ne).mpr j)).cons _);show p.trans (((mh (gone:=[(a,b,c),(b,a,d)]) (lK g h) p).symm.cons _).cons _)
def turned(us:List Tri)(a b c d:Nat):List Tri:=wo us [(a,b,c),(b,a,d)]++[(a,d,c),(d,b,c)]
theorem CD{f:List Tri}(g:Good ts)(h:Alike us ts)(e:En ts a b c)(m:En ts b a d)(i:Good (turned us a b c d))(h1:Alike f (turned us a b c d)) :
  En (turned us a b c d) d c a/\En (turned us a b c d) c d b/\Alike us (turned f d c a b):=by
 have n:=ne3 g e;have j:=ne3 g m;have o:En (turned us a b c d) a d c:=eQ.mpr (.inr (dC.mpr (.inl (.inl ⟨rfl,rfl,rfl⟩))));have p:En (turned us a b c d) d b c:=eQ.mpr (.inr (dC.mpr (.inr (dC.mpr (.inl (.inl ⟨rfl,rfl,rfl⟩))))));have k:=i.sk;show⟨k.rot o,k.rot (k.rot p),?_⟩;have q:=ne3 i o;have r:=ne3 i (k.rot (k.rot p));have s:f.Perm (wo us [(a,b,c),(b,a,d)]++[bg (a,d,c),bg (d,b,c)]):=by have h1:f.Perm ((wo us _++_).map bg):=h1;rw[aL,mi h] at h1;show h1
 have w:(wo f [(d,c,a),(c,d,b)]).Perm (wo us [(a,b,c),(b,a,d)]):=mh (lK i h1) (by
  show s.trans (ft.trans ?_);rw[<-eR q,eR (a:=c) (b:=d) (c:=b) r];show .refl _)
 change us.Perm ((wo f _++_).map bg);rw[aL,mi h1];show (HV g h e m).trans (.trans ?_ ((w.symm.append (.refl _))));have u:bg (d,b,a)=bg (b,a,d):=(eR (a:=d) (b:=b) (c:=a) ⟨j.2.2,j.1,j.2.1⟩).symm;have v:bg (b,c,a)=bg (a,b,c):=eR n;change (bg (a,b,c)::bg (b,a,d)::wo us _).Perm (wo us _++[bg (d,b,a),bg (b,c,a)]);rw[u,v];show (List.Perm.swap _ _ _).trans (ft (l₁:=[bg (b,a,d),bg (a,b,c)]))
def inn(us:List Tri)(a b c x:Nat):List Tri:=wo us [(a,b,c)]++[(a,b,x),(b,c,x),(c,a,x)]
theorem yH(s:Skn ts)(h:Alike us ts)(e:En ts a b c)(hx:¬Co ts x):Skn (inn us a b c x):=by
 have p:(ents ts).Perm (ents (wo us [(a,b,c)]++[(a,b,c)])):=by show h.ents.symm.trans ((yI ((y0 s.g h e).trans (ft (l₁:=[bg (a,b,c)])))).trans ?_);unfold ents;rw[mF,mF];show (LF _).append (xj (a,b,c))
 show IH (s.pm p.symm) λ⟨d,f,z⟩=>hx ⟨d,f,p.mem_iff.mpr z⟩
def onto(k x c:Nat):Nat:=if c=x then k else c
theorem sR{k:Nat}(t:Tri):k∈[(bg t).1,(bg t).2.1,(bg t).2.2]↔k∈[t.1,t.2.1,t.2.2]:=by rcases jj t with z|z|z<;>rw[z]<;>simp only[aG,dS,or_false]<;>lia
def rep(k x:Nat)(t:Tri):Tri:=(onto k x t.1,onto k x t.2.1,onto k x t.2.2)
theorem t_{k x:Nat}{t:Tri}(h:Ne3 (rep k x t)):bg (rep k x (bg t))=bg (rep k x t):=by
 obtain⟨a,b,c⟩:=t;have h:Ne3 (onto k x a,onto k x b,onto k x c):=h;rcases jj (a,b,c) with z|z|z<;>rw[z]
 .exact eR h
 show (eR (a:=onto k x c) (b:=onto k x a) (c:=onto k x b) ⟨h.2.2,h.1,h.2.1⟩).symm
def both(k x:Nat)(t:Tri):Bool:=!decide (k∈[t.1,t.2.1,t.2.2])||!decide (x∈[t.1,t.2.1,t.2.2])
theorem HK{k x:Nat}(t:Tri):both k x (bg t)=both k x t:=by unfold both;rw[decide_eq_decide.mpr (sR t),decide_eq_decide.mpr (sR t)]
def dwn(us:List Tri)(k x:Nat):List Tri:=(us.filter (both k x)).map (rep k x)
theorem E5{y:List Tri}{k:Nat}(s:Skn ts)(h:Alike us ts)(e:En ts a b c)(hx:¬Co ts x)(h1:Alike y (inn us a b c x))(B:k=a\/k=b\/k=c) :
  (∃r,En (inn us a b c x) k x r)/\Alike us (dwn y k x):=by
 have I:=(yH s h e hx).g;have k1:=I.sk;have n:=ne3 s.g e;obtain⟨i,j,m⟩:a≠b/\b≠c/\c≠a:=n;have kk:=s.g.sk;have C:a≠x:=λz=>hx ⟨b,c,z ▸ e⟩;have D:b≠x:=λz=>hx ⟨c,a,z ▸ kk.rot e⟩;have E:c≠x:=λz=>hx ⟨a,b,z ▸ kk.rot (kk.rot e)⟩;have J:En (inn us a b c x) a b x:=eQ.mpr (.inr (dC.mpr (.inl (.inl ⟨rfl,rfl,rfl⟩))));have K:En (inn us a b c x) b c x:=eQ.mpr (.inr (dC.mpr (.inr (dC.mpr (.inl (.inl ⟨rfl,rfl,rfl⟩))))));have L:En (inn us a b c x) c a x:=eQ.mpr (.inr (dC.mpr (.inr (dC.mpr (.inr (dC.mpr (.inl (.inl ⟨rfl,rfl,rfl⟩))))))));show⟨by rcases B with rfl|rfl|rfl<;>first|show⟨_,k1.rot L⟩|show⟨_,k1.rot J⟩|show⟨_,k1.rot K⟩,?_⟩;have H:∀t∈wo us [(a,b,c)],x∉[t.1,t.2.1,t.2.2]:=λt f hm=>hx (ck.mpr (by
  obtain⟨u,M,rfl⟩:=ar.mp (h.mem_iff.mp (dG.mp f).1);show⟨u,M,‹(sR u).mp hm›⟩))
 have N:(wo us [(a,b,c)]).filter (both k x)=wo us [(a,b,c)]:=Au.mpr λt f=>by
  unfold both;rw[OW (H t f)];simp
 have O:((wo us [(a,b,c)]).map (rep k x)).map bg=wo us [(a,b,c)]:=by
  rw[bC];show (iQ λt f=>?_).trans (mI _);have A:=H t f;simp only[aG,dS,or_false,not_or] at A;change bg (rep k x t)=t;have e:rep k x t=t:=by unfold rep onto;rw[OT (ax A.1),OT (ax A.2.1),OT (ax A.2.2)]
  rw[e];show oN h (dG.mp f).1
 have P:y.Perm (wo us [(a,b,c)]++[bg (a,b,x),bg (b,c,x),bg (c,a,x)]):=by have h1:y.Perm ((wo us _++_).map bg):=h1;rw[aL,mi h] at h1;show h1
 have h2:=((P.filter (both k x)).map (rep k x)).map bg;rw[fq,N,aL,aL,O] at h2;show .trans ((y0 s.g h e).trans (ft (l₁:=[bg (a,b,c)]))) (.trans (.of_eq ?_) h2.symm);show congrArg _ ?_;simp only[dR,HK,jo];have d:∀{p q r},both k x (p,q,r)=(!decide (k=p\/k=q\/k=r)||!decide (x=p\/x=q\/x=r)):=λ{p q r}=>by simp[both]
 rcases B with rfl|rfl|rfl
 .have o:both k x (k,b,x)=false:=by rw[d];simp
  have v:both k x (b,c,x)=true:=by rw[d];simp;lia
  have w:both k x (c,k,x)=false:=by rw[d];simp
  rw[o,v,w];have r:rep k x (b,c,x)=(b,c,k):=by unfold rep onto;dsimp only;rw[OT D,OT E,OU rfl]
  change [bg (k,b,c)]=[bg (rep k x (bg (b,c,x)))];rw[t_ (by rw[r];show⟨j,m,i⟩),r,eR ⟨i,j,m⟩]
 .have o:both k x (a,k,x)=false:=by rw[d];simp
  have v:both k x (k,c,x)=false:=by rw[d];simp
  have w:both k x (c,a,x)=true:=by rw[d];simp;lia
  rw[o,v,w];have r:rep k x (c,a,x)=(c,a,k):=by unfold rep onto;dsimp only;rw[OT E,OT C,OU rfl]
  change [bg (a,k,c)]=[bg (rep k x (bg (c,a,x)))];rw[t_ (by rw[r];show⟨m,i,j⟩),r,<-eR (a:=c) (b:=a) (c:=k) ⟨m,i,j⟩]
 have o:both k x (a,b,x)=true:=by rw[d];simp;lia
 have v:both k x (b,k,x)=false:=by rw[d];simp
 have w:both k x (k,a,x)=false:=by rw[d];simp
 rw[o,v,w];have r:rep k x (a,b,x)=(a,b,k):=by unfold rep onto;dsimp only;rw[OT C,OT D,OU rfl]
 change [bg (a,b,k)]=[bg (rep k x (bg (a,b,x)))];rw[t_ (by rw[r];show⟨i,j,m⟩),r]
theorem HJ{a:List Tri}{q p:Nat}{ps:List (Nat×Nat)}(b:Good (us++caps x ((q,p)::ps)))(h1:Alike a (us++caps x ((q,p)::ps))):Alike (wo a [(x,q,p)]) (us++caps x ps):=by show mh (lK b h1) (.trans h1 ?_);change ((us++(x,q,p)::caps x ps).map bg).Perm (bg (x,q,p)::(us++caps x ps).map bg);rw[aL,aL,aY];show Mc
end
end K15
end
section
namespace K15
def prs(l:List Nat):List (Nat×Nat):=l.zip (l.drop 1++l.take 1)
theorem gz(l:List Nat):(prs l).length=l.length:=by unfold prs;rw[L6,aU,cF,bu];lia
theorem iz(l:List Nat):(prs l).map (·.1)=l:=by unfold prs;show List.map_fst_zip ?_;rw[aU,cF,bu];lia
theorem Gn{l:List Nat}:(prs l).map (·.2)=l.drop 1++l.take 1:=by unfold prs;show L7 ?_;rw[aU,cF,bu];lia
theorem rF{α β:Type}(f:α->β){l:List α}(h:(l.map f).Nodup):l.Nodup:=by rw[List.Nodup,ie] at h;show h.imp λh z=>h (congrArg f z)
theorem tQ{l:List Nat}(h:l.Nodup):(prs l).Nodup:=rF (·.1) (by rw[iz];show h)
theorem lN{l:List Nat}{i p q:Nat}(h1:l[i]?=some p)(h2:l[i+1]?=some q):(prs l)[i]?=some (p,q):=by have a:=(aI.mp h2).1;unfold prs;rw[qK];show⟨h1,?_⟩;rw[ef (by rw[cF];lia),qI,Mf];show h2
theorem Em{l:List Nat}{p q:Nat}(h1:l.getLast?=some p)(h2:l[0]?=some q):(p,q)∈prs l:=by have a:=(aI.mp h2).1;show aZ (i:=l.length-1) ?_;unfold prs;rw[qK];show⟨by rw[<-gi];show h1,?_⟩;rw[iO (by rw[cF];lia),cF,show l.length-1-(l.length-1)=0 by lia,qJ ()];show h2
theorem tP{l:List Nat}{p q:Nat}(h:(p,q)∈prs l):(∃i,l[i]?=some p/\l[i+1]?=some q)\/(l.getLast?=some p/\l[0]?=some q):=by
 obtain⟨i,hi⟩:=kJ.mp h;unfold prs at hi;rw[qK] at hi;obtain⟨h1,h2⟩:=hi;have a:=(aI.mp h1).1;by_cases c:i+1<l.length
 .rw[ef (by rw[cF];lia),qI,Mf] at h2;show .inl ⟨i,h1,h2⟩
 rw[iO (by rw[cF];lia),cF,show i-(l.length-1)=0 by lia,qJ ()] at h2;show .inr ⟨?_,h2⟩;rw[gi,show l.length-1=i by lia];show h1
structure Cy(R:Nat->Nat->Prop)(l:List Nat):Prop where
 nd:l.Nodup
 st:∀p q,(p,q)∈prs l->R p q
theorem Ag{R:Nat->Nat->Prop}{l:List Nat}(h:Path R l)(a:∀z s,l[l.length-1]?=some z->l[0]?=some s->R z s):Cy R l:=by
 show⟨h.nd,λp q b=>?_⟩;rcases tP b with ⟨i,h1,h2⟩|⟨h1,h2⟩
 .exact h.ch i p q h1 h2
 rw[gi] at h1;show a p q h1 h2
theorem oQ{l:List Nat}{p:Nat}(h:p∈l):∃q,(p,q)∈prs l:=by rw[<-iz l] at h;obtain⟨⟨a,b⟩,h1,rfl⟩:=ar.mp h;show⟨b,h1⟩
theorem lY{l:List Nat}{q:Nat}:q∈l↔∃p,(p,q)∈prs l:=by
 have e:q∈l↔q∈(prs l).map (·.2):=by rw[Gn,a_,or_comm,<-a_,ig]
 rw[e];constructor
 .intro h;obtain⟨⟨a,b⟩,h1,rfl⟩:=ar.mp h;show⟨a,h1⟩
 rintro⟨p,h⟩;show ar.mpr ⟨_,h,rfl⟩
theorem yt{l:List Nat}(k:Nat){p q:Nat}(h:(p,q)∈prs (l.drop k++l.take k)):(p,q)∈prs l:=by
 by_cases d:l.length<=k
 .rw[List.drop_eq_nil_of_le d,iR d] at h;show h
 have gl:∀{i x},(l.drop k++l.take k)[i]?=some x->i<l.length/\l[(k+i)%l.length]?=some x:=λ{i x} hi=>by
  have e:=(aI.mp hi).1;rw[aU,cF,bu] at e;show⟨(),?_⟩;by_cases c:i<l.length-k
  .rw[ef (by rw[cF];show c),qI] at hi;rw[AJ ()];show hi
  rw[iO (by rw[cF];lia),cF,qJ ()] at hi;rw[show (k+i)%l.length=i-(l.length-k) by rw[show k+i=(i-(l.length-k))+l.length by lia,Mh,AJ ()]];show hi
 have fin:∀{i p q},i<l.length->l[i]?=some p->l[(i+1)%l.length]?=some q->(p,q)∈prs l:=λ{i p q} hi h1 h2=>by
  by_cases c:i+1<l.length
  .rw[AJ c] at h2;show aZ (lN h1 h2)
  rw[show i+1=l.length by lia,Nat.mod_self] at h2;show Em (by rw[gi,show l.length-1=i by lia];show h1) h2
 have len:(l.drop k++l.take k).length=l.length:=by rw[aU,cF,bu];lia
 rcases tP h with ⟨i,h1,h2⟩|⟨h1,h2⟩
 .obtain⟨f,a⟩:=gl h1;obtain⟨g,b⟩:=gl h2;show fin (kK _ ()) a ?_;rw[Mn];show b
 rw[gi,len] at h1;obtain⟨f,a⟩:=gl h1;obtain⟨g,b⟩:=gl h2;show fin (kK _ ()) a ?_;rw[Mn,show k+(l.length-1)+1=k+0+l.length by lia,Mh];show b
section
variable {us:List Tri}{x:Nat}
theorem HR{d:List Nat}(s:Skn us)(hx:¬Co us x)(nd:d.Nodup)(c:∀q p,(q,p)∈prs d->bc (En us) p q)(k:Nat):Skn (us++caps x ((prs d).drop k)):=by
 show rM (F:=d.drop k) s hx ((LM _ _).nodup (tQ nd)) (λq p h=>c q p (L8 h)) ((LM _ _).nodup nd) (λq=>?_) (j4.mpr λi p q h1 h2=>?_)
 .have e:d.drop k=((prs d).drop k).map (·.1):=by rw[uL,iz]
  rw[e,ar];show⟨λ⟨⟨a,b⟩,h1,h2⟩=>⟨b,by cases h2;show h1⟩,λ⟨p,h⟩=>⟨_,h,rfl⟩⟩
 rw[qI] at h1 h2;show aZ (i:=i) ?_;rw[qI];show lN h1 h2
theorem zw{R:Nat->Nat->Prop}:∀{l:List Nat},Lk R l->Lk (λp q=>R q p) l.reverse
 | [],_=>trivial
 | [a],_=>trivial
 |a::b::l,⟨h1,h2⟩=>by
  rw[Md];show j5.mpr ⟨zw h2,trivial,λx y hx c=>?_⟩;cases c;rw[Md,LY] at hx;cases hx;show h1
def swp(s:Nat×Nat):Nat×Nat:=(s.2,s.1)
theorem fK{ps:List (Nat×Nat)}{q p:Nat}:(q,p)∈ps.map swp↔(p,q)∈ps:=by rw[ar];show⟨λ⟨⟨a,b⟩,h1,h2⟩=>by cases h2;show h1,λh=>⟨_,h,rfl⟩⟩
theorem yi{rim:List Nat}(s:Skn us)(hx:¬Co us x)(c:Cy (bc (En us)) rim):Skn (us++caps x ((prs rim).map swp)):=by
 show rM (F:=rim.reverse) s hx ?_ (λq p h=>c.st p q (fK.mp h)) (by rw[List.Nodup,List.pairwise_reverse];show c.nd.imp ax) (λq=>?_) ?_
 .refine rF (·.2) ?_;rw[bC];change ((prs rim).map (·.1)).Nodup;rw[iz];show c.nd
 .rw[List.mem_reverse,lY];show⟨λ⟨p,h⟩=>⟨p,fK.mpr h⟩,λ⟨p,h⟩=>⟨p,fK.mp h⟩⟩
 show i8 (λp q _ h=>fK.mpr h) (zw (j4.mpr λi p q h1 h2=>(aZ (lN h1 h2):(p,q)∈prs rim)))
theorem CS{rim cs:List Nat}(s:Skn us)(hx:¬Co us x)(c:Cy (bc (En us)) rim)(H:rim≠[])(e:Path (En (us++caps x ((prs rim).map swp)) x) cs)(he:∀z,cs[cs.length-1]?=some z->∀b,cs[0]?=some b->(∀q,¬En (us++caps x ((prs rim).map swp)) x z q)\/En (us++caps x ((prs rim).map swp)) x z b)(l:∀b,cs[0]?=some b->∃q,En (us++caps x ((prs rim).map swp)) x b q)(k:Nat) :
  ((prs rim).map swp).Perm (prs (cs.drop k++cs.take k)):=by
 have sk:=(yi s hx c);have kk:=sk.g.sk;have u:=s.g.sk;have ex:∀q p,En (us++caps x ((prs rim).map swp)) x q p↔(p,q)∈prs rim:=λq p=>by
  rw[eQ,i_];constructor
  .rintro (h|⟨⟨a,b⟩,h1,h|h|h⟩)
   .exact (hx ⟨q,p,h⟩).elim
   .obtain⟨_,rfl,rfl⟩:=h;show fK.mp h1
   .obtain⟨rfl,rfl,rfl⟩:=h;obtain⟨r,j⟩:=(c.st _ _ (fK.mp h1)).1;show (hx ⟨r,_,u.rot j⟩).elim
   obtain⟨rfl,rfl,rfl⟩:=h;obtain⟨r,j⟩:=(c.st _ _ (fK.mp h1)).1;show (hx ⟨_,r,j⟩).elim
  show λh=>.inr ⟨(q,p),fK.mpr h,.inl ⟨rfl,rfl,rfl⟩⟩
 have i:Cy (En (us++caps x ((prs rim).map swp)) x) cs:=Ag e λz b h1 h2=>(he z h1 b h2).resolve_left λv=>by
  have I:0<cs.length:=ib.mpr e.ne;have w:z∈rim:=by
   by_cases c1:cs.length=1
   .obtain⟨q,f⟩:=l z (by rw[c1] at h1;show h1);show lY.mpr ⟨q,(ex z q).mp f⟩
   have y:cs[cs.length-2]?=some (cs[cs.length-2]'()):=aX _;have:=e.ch (cs.length-2) _ z y (by rw[show cs.length-2+1=cs.length-1 by lia];show h1);have:=(ex _ _).mp this;rw[<-iz rim];show ar.mpr ⟨_,this,rfl⟩
  obtain⟨p,d⟩:=lY.mp w;show v p ((ex z p).mpr d)
 obtain⟨b,A,B⟩:=e.begin;have out:∀{p},p∈cs->∃q,(p,q)∈prs cs/\En (us++caps x ((prs rim).map swp)) x p q:=λ{p} d=>by
  obtain⟨q,f⟩:=oQ d;show⟨q,f,i.st _ _ f⟩
 have fan:Fan (En (us++caps x ((prs rim).map swp))) x cs:=⟨e.ne,e.nd,e.ch,λp d=>(out d).imp λ_ h=>h.2,λp d q f _=>by
  obtain⟨J,h1,h2⟩:=out d;rw[kk.one f h2];show lY.mpr ⟨p,h1⟩,λp d o C=>by
  obtain⟨o',h1⟩:=lY.mp d;rw[kk.inj C (i.st _ _ h1),<-iz cs];show ar.mpr ⟨_,h1,rfl⟩⟩
 obtain⟨m,n⟩:=l b A;obtain⟨F,hF,all⟩:=sk.o x ⟨b,m,n⟩;have D:∀{q p},(p,q)∈prs rim->q∈cs:=λ{q p} h=>hF.same kk fan (all b ⟨m,n⟩) B q (all q ⟨p,(ex q p).mpr h⟩);have dp:(cs.drop k++cs.take k).Perm cs:=ft.trans (.of_eq (ig k cs));have E:((prs rim).map swp).Nodup:=by show rF (·.2) ?_;rw[bC];change ((prs rim).map (·.1)).Nodup;rw[iz];show c.nd
 show (Mb E (tQ (dp.nodup_iff.mpr e.nd))).mpr λ⟨q,p⟩=>?_;rw[fK];constructor
 .intro h;obtain⟨K,h1⟩:=oQ (dp.mem_iff.mpr (D h));have h2:=i.st _ _ (yt k h1);rw[kk.one ((ex q p).mpr h) h2];show h1
 show λh=>(ex q p).mp (i.st _ _ (yt k h))
end
end K15
end
section
namespace L2
open PySem PySem.Spec PyProof.Rows
abbrev Key:=Sum Int Str
def kg:Key->Value->Bool
 |.inl k,v=>Value.isInt k v
 |.inr x,v=>Value.isStrOf x v
def keyH(w:World):Key->Int
 |.inl k=>hashInt k
 |.inr x=>hashStr w x
theorem fD:∀{k:Key}{v:Value},kg k v=true->(∃i t,k=Sum.inl i/\v=Value.int i t)\/(∃x t,k=Sum.inr x/\v=Value.str x t)
 |.inl i,v,h=>by
  obtain⟨t,e⟩:=Value.isInt_shape (k:=i) (v:=v) h;show .inl ⟨i,t,rfl,e⟩
 |.inr x,v,h=>by
  obtain⟨t,e⟩:=Value.isStrOf_shape (x:=x) (v:=v) h;show .inr ⟨x,t,rfl,e⟩
theorem Df(i:Int)(t:Tok):kg (.inl i) (.int i t)=true:=by simp[kg,Value.isInt]
theorem De(x:Str)(t:Tok):kg (.inr x) (.str x t)=true:=by simp[kg,Value.isStrOf]
theorem Jr(a b:Int):decide ((Sum.inl a:Key)=Sum.inl b)=(a==b):=by
 by_cases e:a=b
 .subst e;simp
 have h:¬(Sum.inl a:Key)=Sum.inl b:=λq=>e (mV q);rw[OW h];show (beq_eq_false_iff_ne.mpr e).symm
theorem Jo(a b:Str):decide ((Sum.inr a:Key)=Sum.inr b)=decide (a=b):=by
 by_cases e:a=b
 .subst e;simp
 have h:¬(Sum.inr a:Key)=Sum.inr b:=λq=>e (Sum.inr.inj q);rw[OW h,OW e]
theorem Jq(a:Int)(b:Str):decide ((Sum.inl a:Key)=Sum.inr b)=false:=OW (λq=>nomatch q)
theorem Jp(a:Str)(b:Int):decide ((Sum.inr a:Key)=Sum.inl b)=false:=OW (λq=>nomatch q)
def cA(prog:Program)(w:World):PySem.KeyKind prog w Key where
 is:=kg
 hash:=keyH w
 inj:=λv a b ha f=>by
  rcases fD ha with ⟨i,t,rfl,rfl⟩|⟨x,t,rfl,rfl⟩
  .rcases fD f with ⟨j,u,rfl,e⟩|⟨y,u,rfl,e⟩
   .injection e with c _;rw[c]
   show nomatch e
  rcases fD f with ⟨j,u,rfl,e⟩|⟨y,u,rfl,e⟩
  .exact nomatch e
  injection e with c _;rw[c]
 byValue:=λk v h=>by
  rcases fD h with ⟨i,t,rfl,rfl⟩|⟨x,t,rfl,rfl⟩<;>rfl
 pyHash:=λd h=>by
  rcases fD d with ⟨i,t,rfl,rfl⟩|⟨x,t,rfl,rfl⟩
  .exact wpAny_pyHash_int h
  show wpAny_pyHash_str h
 eqBool:=λg d h=>by
  rcases fD g with ⟨i,t,rfl,rfl⟩|⟨x,t,rfl,rfl⟩
  .rcases fD d with ⟨j,u,rfl,rfl⟩|⟨y,u,rfl,rfl⟩
   .rw[Jr] at h;show Ny h
   rw[Jq] at h;show M4 i t y u _ _ _ _ h
  rcases fD d with ⟨j,u,rfl,rfl⟩|⟨y,u,rfl,rfl⟩
  .rw[Jp] at h;show M5 x t j u _ _ _ _ h
  rw[Jo] at h;show wpAny_eqBool_str h
 «strs»:=λk x t v h=>by
  rcases fD h with ⟨i,u,rfl,e⟩|⟨y,u,rfl,e⟩
  .exact nomatch e
  injection e with c _;subst c;cases v<;>rfl
theorem BW(prog:Program)(w:World)(i:Int)(t:Tok):(cA prog w).is (.inl i) (.int i t)=true:=Df i t
theorem BV(prog:Program)(w:World)(x:Str)(t:Tok):(cA prog w).is (.inr x) (.str x t)=true:=De x t
end L2
namespace L2
open PySem PySem.Spec PyProof.Rows
inductive V where
 |non|bl (b:Bool)|int (i:Int)|str (x:Str)|byt (b:Array UInt8)|flt (b:UInt64)|ref (a:Addr)|ty (n:String)
 deriving DecidableEq
def az:V->Value->Prop
 |.non,u=>u=Value.none
 |.bl b,u=>u=Value.bool b
 |.int i,u=>∃t,u=Value.int i t
 |.str x,u=>∃t,u=Value.str x t
 |.byt b,u=>∃t,u=Value.bytes b t
 |.flt b,u=>∃t,u=Value.float b t
 |.ref a,u=>u=Value.ref a
 |.ty n,u=>u=Value.type n
abbrev Vals:List V->List Value->Prop:=Paired az
theorem Vals.length{xs:List V}(r:Vals xs us):xs.length=us.length:=mP r
theorem Vals.get:∀{xs:List V}{us:List Value}{i:Nat}{x:V},Vals xs us->xs[i]?=some x->∃u,us[i]?=some u/\az x u
 |_,_,_,_,.nil,e=>by simp at e
 |_,_,0,_,.cons r _,e=>by simp at e;subst e;show⟨_,rfl,r⟩
 |_,_,i+1,x,.cons _ t,e=>by
  obtain⟨u,h1,h2⟩:=Vals.get (i:=i) (x:=x) t ‹e›;show⟨u,‹h1›,h2⟩
theorem Vals.set{x:V}{u:Value}(r:az x u):∀{xs:List V}{us:List Value}(i:Nat),Vals xs us->Vals (xs.set i x) (us.set i u)
 |_,_,_,.nil=>.nil
 |_,_,0,.cons _ t=>.cons r t
 |_,_,i+1,.cons q t=>.cons q (Vals.set r i t)
theorem Vals.append{xs ys:List V}{us ws:List Value}(h:Vals xs us)(s:Vals ys ws):Vals (xs++ys) (us++ws):=by
 induction h with
 |nil=>show s
 |cons r t a=>show .cons r a
theorem Vals.take:∀{xs:List V}{us:List Value}(n:Nat),Vals xs us->Vals (xs.take n) (us.take n)
 |_,_,0,_=>.nil
 |_,_,_+1,.nil=>.nil
 |_,_,n+1,.cons r t=>.cons r (Vals.take n t)
theorem Vals.drop:∀{xs:List V}{us:List Value}(n:Nat),Vals xs us->Vals (xs.drop n) (us.drop n)
 |_,_,0,r=>r
 |_,_,_+1,.nil=>.nil
 |_,_,n+1,.cons _ t=>Vals.drop n t
def c6:Option V->Option Value->Prop
 |some v,some u=>az v u
 |none,none=>True
 |_,_=>False
def KV{κ:Type}:List (κ×V)->List (κ×Value)->Prop:=Paired λ(p:κ×V)(q:κ×Value)=>p.1=q.1/\az p.2 q.2
def kV:Key->V
 |.inl i=>.int i
 |.inr x=>.str x
inductive HO where
 |lst (xs:List V)
 |tup (xs:List V)
 |dK (kvs:List (Key×V))|dT (kvs:List (List Key×V))
 |set (S:Int->Bool) (n:Nat)
 |ins (C dx:Addr) (fs:List (Str×V))
 |own (x:Addr)
 |xd (fs:List (Str×V))
 |met (f x:Addr)
 |rng (lo hi:Int)
 |frz (o:Obj) (u:HO)
 |tbl (ps:Array Value)
 |ext (φ:Heap->Prop)
abbrev Hp:=Addr->Option HO
def upd(H:Hp)(a:Addr)(o:HO):Hp:=λb=>if b=a then some o else H b
theorem aN{H:Hp}{a:Addr}{o:HO}:upd H a o a=some o:=by unfold upd;rw[OU rfl]
theorem av{H:Hp}{a b:Addr}{o:HO}(h:b≠a):upd H a o b=H b:=by unfold upd;rw[OT h]
theorem xx{H:Hp}{a:Addr}{o u:HO}:upd (upd H a o) a u=upd H a u:=by funext b;unfold upd;split<;>rfl
theorem bZ{H:Hp}{a b:Addr}{o u:HO}(h:H a=some o)(h':H b=some u)(d:o≠u):a≠b:=by intro e;subst e;rw[h] at h';show d (dz h')
theorem au{H:Hp}{a b:Addr}{o:HO}(h:H a=some o)(h':H b=none):a≠b:=by intro e;subst e;rw[h] at h';cases h'
section
variable (P:Program)(w:World)
def aV(H:Hp)(h:Heap)(a:Addr):HO->Prop
 |.lst xs=>xs.length<=sizeLine/\∃(b:List Value)(n:Nat),Vals xs b/\h.get? a=some {cls:=.type "list",data:=.seq b.toArray n}
 |.tup xs=>(xs.length<=sizeLine/\∃o,h.get? a=some o/\o.dict=none)/\∃b:List Value,Vals xs b/\IsTup h a b.toArray
 |.dK kvs=>kvs.length<=sizeLine/\(a==sysModules)=false/\∃vs,KV kvs vs/\h.DictOf (cA P w) a vs
 |.dT kvs=>kvs.length<=sizeLine/\(a==sysModules)=false/\∃xs:List (List Key×Addr×Value),
   Paired (λ(p:List Key×V)(q:List Key×Addr×Value)=>p.1=q.1/\H q.2.1=some (.tup (p.1.map kV))/\az p.2 q.2.2) kvs xs/\
   ∃o es ep,h.get? a=some o/\o.ExactDict/\o.data=.dict es ep/\es.toList=xs.map (entryOfKey (tupleKind (cA P w)))/\(xs.map (·.1)).Nodup
 |.set S n=>h.SetOf (intKind P w) a S n
 |.ins C dx fs=>H dx=some (.own a)/\fs.length<=1000/\dx≠a/\h.get? a=some (W.instObj C dx)/\
   ∃mA,h.Ns1 dx mA/\(∀f,c6 (fs.lookup f) (mA f))/\PySem.Within mA (fs.map (·.1))
 |.own _=>∃o,h.get? a=some o
 |.xd fs=>∃mA,h.Ns1 a mA/\∀f,c6 (fs.lookup f) (mA f)
 |.rng lo hi=>∃t u v,h.get? a=some {cls:=.type "range",data:=.fields #[.int lo t,.int hi u,.int 1 v]}
 |.frz o u=>h.get? a=some o/\aV H h a u
 |.tbl ps=>h.get? a=some {cls:=.none,data:=.fields ps}
 |.met f x=>h.get? a=some (W.methodObj (.ref f) (.ref x))
 |.ext φ=>φ h/\(∃o,h.get? a=some o)/\∀h1 h2:Heap,φ h1->(∀o,h1.get? a=some o->h2.get? a=some o)->φ h2
def HOk(H:Hp)(h:Heap):Prop:=∀a o,H a=some o->aV P w H h a o
end
section
variable {H H':Hp}{h h':Heap}{a:Addr}{o:HO}
theorem aV.lt(x:aV P w H h a o):a<h.objs.size:=by
 cases o with
 |lst xs=>obtain⟨_,_,_,_,e⟩:=x;show aF e
 |tup xs=>obtain⟨_,_,_,p⟩:=x;show p.lt
 |dK kvs=>obtain⟨_,_,_,_,o,_,_,e,_⟩:=x;show aF e
 |dT kvs=>obtain⟨_,_,_,_,o,_,_,e,_⟩:=x;show aF e
 |set S n=>obtain⟨o,_,_,_,e,_⟩:=x;show aF e
 |ins C dx fs=>obtain⟨_,_,_,e,_⟩:=x;show aF e
 |own y=>obtain⟨_,e⟩:=x;show aF e
 |xd fs=>obtain⟨_,⟨_,_,_,e,_⟩,_⟩:=x;show aF e
 |rng lo hi=>obtain⟨_,_,_,e⟩:=x;show aF e
 |frz ob u=>obtain⟨e,_⟩:=x;show aF e
 |tbl ps=>show aF (show h.get? a=some _ from x)
 |met f y=>show aF (show h.get? a=some _ from x)
 |ext φ=>obtain⟨_,⟨_,e⟩,_⟩:=x;show aF e
theorem Paired.mapP{α β:Type}{F G:α->β->Prop}:∀{l₁:List α}{l₂:List β},Paired F l₁ l₂->(∀a b,F a b->G a b)->Paired G l₁ l₂
 |_,_,.nil,_=>.nil
 |_,_,.cons r t,f=>.cons (f _ _ r) (Paired.mapP t f)
theorem Paired.imp'{α β:Type}{F G:α->β->Prop}(f:∀a b,F a b->G a b){l₁:List α}{l₂:List β}(r:Paired F l₁ l₂):Paired G l₁ l₂:=Paired.mapP r f
theorem aV.stay(x:aV P w H h a o)(k:∀b u,(b=a\/H b=some (.own a))->h.get? b=some u->h'.get? b=some u)
  (i:∀b,H b=some (.own a)->H' b=some (.own a)) (j:∀b xs,H b=some (.tup xs)->H' b=some (.tup xs)):aV P w H' h' a o:=by
 induction o with
 |lst xs=>obtain⟨z,g,n,r,e⟩:=x;show⟨z,g,n,r,k _ _ (.inl rfl) e⟩
 |tup xs=>obtain⟨⟨z,o',l,d'⟩,g,r,ob,e,c⟩:=x;show⟨⟨z,o',k _ _ (.inl rfl) l,d'⟩,g,r,ob,k _ _ (.inl rfl) e,c⟩
 |dK kvs=>obtain⟨z,y,vs,r,ob,es,ep,e,c⟩:=x;show⟨z,y,vs,r,ob,es,ep,k _ _ (.inl rfl) e,c⟩
 |dT kvs=>
  obtain⟨z,y,xs,r,ob,es,ep,e,c⟩:=x;show⟨z,y,xs,Paired.mapP r λp q z=>⟨z.1,j _ _ z.2.1,z.2.2⟩,ob,es,ep,k _ _ (.inl rfl) e,c⟩
 |set S n=>obtain⟨ob,es,ep,t,e,c⟩:=x;show⟨ob,es,ep,t,k _ _ (.inl rfl) e,c⟩
 |ins C dx fs=>
  obtain⟨d,z,ne,e,mA,⟨od,es,ep,m,c⟩,r⟩:=x;show⟨i _ d,z,ne,k _ _ (.inl rfl) e,mA,⟨od,es,ep,k _ _ (.inr d) m,c⟩,r⟩
 |own y=>obtain⟨ob,e⟩:=x;show⟨ob,k _ _ (.inl rfl) e⟩
 |xd fs=>obtain⟨mA,⟨od,es,ep,e,c⟩,r⟩:=x;show⟨mA,⟨od,es,ep,k _ _ (.inl rfl) e,c⟩,r⟩
 |rng lo hi=>obtain⟨t,u,v,e⟩:=x;show⟨t,u,v,k _ _ (.inl rfl) e⟩
 |frz ob u s=>obtain⟨e,q⟩:=x;show⟨k _ _ (.inl rfl) e,s q⟩
 |tbl ps=>
  have e:h.get? a=some {cls:=.none,data:=.fields ps}:=x;change h'.get? a=some {cls:=.none,data:=.fields ps};show k a _ (.inl rfl) e
 |met f y=>
  have e:h.get? a=some (W.methodObj (.ref f) (.ref y)):=x;change h'.get? a=some (W.methodObj (.ref f) (.ref y));show k a _ (.inl rfl) e
 |ext φ=>obtain⟨p,⟨o,e⟩,st⟩:=x;show⟨st _ _ p λo q=>k _ _ (.inl rfl) q,⟨o,k _ _ (.inl rfl) e⟩,st⟩
theorem HOk.lt(x:HOk P w H h)(e:H a=some o):a<h.objs.size:=(x a o e).lt
theorem HOk.fresh(x:HOk P w H h)(e:h.objs.size<=a):H a=none:=by
 cases q:H a with
 |none=>rfl
 |some u=>show absurd (b_ (x.lt q) e) (c7 _)
theorem HOk.kept(x:HOk P w H h)(k:∀b u,h.get? b=some u->h'.get? b=some u):HOk P w H h':=λa o e=>
 (x a o e).stay (λb u _ q=>k b u q) (λ_ q=>q) λ_ _ q=>q
theorem HOk.laid(x:HOk P w H h)(k:∀b u,h.get? b=some u->h'.get? b=some u)(g:h.objs.size<=a)(new:aV P w (upd H a o) h' a o):HOk P w (upd H a o) h':=λb u e=>by
 have d:=x.fresh g;by_cases f:b=a
 .subst f;rw[aN] at e;cases e;show new
 rw[av f] at e;show (x b u e).stay (λc v _ q=>k c v q) (λc q=>by rw[av (au q d)];show q) λc xs q=>by rw[av (au q d)];show q
end
def Rd(H:Hp)(a:Addr)(u:HO):Prop:=H a=some u\/∃o,H a=some (.frz o u)
theorem Rd.ok{H:Hp}{h:Heap}{a:Addr}{u:HO}(r:Rd H a u)(x:HOk P w H h):aV P w H h a u:=by
 rcases r with r|⟨o,r⟩
 .exact x a u r
 obtain⟨_,q⟩:=x a _ r;show q
def Mut:Option HO->Prop
 |some (.lst _)=>True
 |some (.dK _)=>True
 |some (.dT _)=>True
 |some (.set _ _)=>True
 |some (.ins _ _ _)=>True
 |some (.ext _)=>True
 |_=>False
section
variable {H:Hp}{h h':Heap}{x e:Addr}{o':HO}
theorem HOk.write(ok:HOk P w H h)(a:Mut (H x))(he:e=x\/H e=some (.own x))(k:∀b u,b≠e->h.get? b=some u->h'.get? b=some u)(l:∃u,h'.get? e=some u)
  (new:aV P w (upd H x o') h' x o'):HOk P w (upd H x o') h':=λb u q=>by
 have i:∀c y,H c=some (.own y)->c≠x:=λc y r z=>by subst z;rw[r] at a;show a
 have m:∀c xs,H c=some (.tup xs)->c≠x:=λc xs r z=>by subst z;rw[r] at a;show a
 by_cases d:b=x
 .subst d;rw[aN] at q;cases q;show new
 rw[av d] at q;by_cases f:b=e
 .have j:H b=some (.own x):=by
   rcases he with z|z
   .exact absurd (f.trans z) d
   rw[f];show z
  rw[q] at j;cases j;obtain⟨v,n⟩:=l;show⟨v,by rw[f];show n⟩
 show (ok b u q).stay (λc v g r=>k c v ?_ r) (λc r=>by rw[av (i c b r)];show r) λc xs r=>by rw[av (m c xs r)];show r
 rcases g with rfl|g
 .exact f
 rintro rfl;rcases he with z|z
 .exact i c b g z
 rw[g] at z;cases z;show d rfl
end
structure Un(fs ex:List Addr)(H H':Hp)(h h':Heap):Prop where
 keep:∀b o,h.get? b=some o->H b=none->b∉fs->b∉ex->h'.get? b=some o
 slot:∀b o,h.get? b=some o->H b=none->b∈fs->b∉ex->∃sl,h'.get? b=some {o with slots:=sl}
 free:∀b o,h.get? b=some o->H b=none->b∉ex->H' b=none
 there:∀b o,h.get? b=some o->b∉ex->∃o',h'.get? b=some o'
 tups:∀b xs,H b=some (.tup xs)->H' b=some (.tup xs)
 frzs:∀b o u,H b=some (.frz o u)->H' b=some (.frz o u)
 tbls:∀b ps,H b=some (.tbl ps)->∃more,H' b=some (.tbl (ps++more))
section
variable {fs fs' ex ex':List Addr}{H H1 H2:Hp}{h h1 h2 h':Heap}{a x e:Addr}{o:HO}
theorem Un.any(u:Un fs ex H H1 h h1){b:Addr}{ob:Obj}(q:h.get? b=some ob)(n:H b=none)(hx:b∉ex):∃sl,h1.get? b=some {ob with slots:=sl}:=by
 by_cases a:b∈fs
 .exact u.slot b ob q n a hx
 show⟨ob.slots,u.keep b ob q n a hx⟩
theorem Un.kept(k:∀b u,h.get? b=some u->h'.get? b=some u):Un fs ex H H h h':=
 ⟨λb ob q _ _ _=>k b ob q,λb ob q _ _ _=>⟨ob.slots,k b ob q⟩,λ_ _ _ n _=>n,λb ob q _=>⟨ob,k b ob q⟩,λ_ _ q=>q,λ_ _ _ q=>q,λ_ ps q=>⟨#[],by rw[q];simp⟩⟩
theorem Un.refl:Un fs ex H H h h:=Un.kept λ_ _ q=>q
theorem Un.laid(k:∀b u,h.get? b=some u->h'.get? b=some u)(d:h.objs.size<=a)(c:H a=none):Un fs ex H (upd H a o) h h' where
 keep:=λb u q _ _ _=>k b u q
 slot:=λb u q _ _ _=>⟨u.slots,k b u q⟩
 free:=λb u q n _=>by rw[av (bo (b_ (aF q) d))];show n
 there:=λb u q _=>⟨u,k b u q⟩
 tups:=λb xs q=>by rw[av (au q c)];show q
 frzs:=λb u xs q=>by rw[av (au q c)];show q
 tbls:=λb ps q=>⟨#[],by rw[av (au q c),q];simp⟩
theorem Un.write(a:Mut (H x))(he:e=x\/H e=some (.own x))(k:∀b u,b≠e->h.get? b=some u->h'.get? b=some u)(f:∃u,h'.get? e=some u):Un fs ex H (upd H x o) h h':=by
 have hx:∀b,H b=none->b≠x:=λb n z=>by subst z;rw[n] at a;show a
 have c:∀b,H b=none->b≠e:=λb n z=>by
  subst z;rcases he with r|r
  .exact hx b n r
  rw[n] at r;cases r
 have hm:∀b u,H b=some u->¬Mut (some u)->b≠x:=λb u q nm z=>by subst z;rw[q] at a;show nm a
 show⟨λb u q n _ _=>k b u (c b n) q,λb u q n _ _=>⟨u.slots,k b u (c b n) q⟩,λb u q n _=>by rw[av (hx b n)];show n,λb u q _=>?_,
  λb xs q=>by rw[av (hm b _ q λz=>z)];show q,λb u xs q=>by rw[av (hm b _ q λz=>z)];show q,λb ps q=>⟨#[],by rw[av (hm b _ q λz=>z),q];simp⟩⟩
 by_cases d:b=e
 .subst d;show f
 show⟨u,k b u d q⟩
end
def trk(h:Heap)(H:Hp):List Addr:=(List.range h.objs.size).filter λa=>(H a).isSome
def h_(h:Heap)(H:Hp):Heap:=W.hideAll h (trk h H)
theorem Dh(h:Heap)(H:Hp):(h_ h H).objs.size=h.objs.size:=W.hideAll_size _ _
theorem E6{h:Heap}{H:Hp}{b:Addr}{o:Obj}(e:h.get? b=some o)(n:H b=none):(h_ h H).get? b=some o:=
 W.hideAll_get _ e λhm=>by
  have q:(H b).isSome=true:=(dG.mp hm).2;rw[n] at q;simp at q
theorem G0{h:Heap}{H:Hp}{b:Addr}{o:Obj}(e:(h_ h H).get? b=some o):h.get? b=some o/\H b=none:=by
 have a:h.get? b=some o:=W.of_hideAll (trk h H) e;show⟨a,?_⟩;cases q:H b with
 |none=>rfl
 |some x=>
  have hm:b∈trk h H:=dG.mpr ⟨ic.mpr (aF a),by simp[q]⟩;have z:(h_ h H).get? b=none:=W.hideAll_none (trk h H) hm;rw[z] at e;cases e
def oY(g h:Heap)(L:Addr):List (Addr×Obj):=(List.range h.objs.size).filterMap λa=>if a=L\/(g.get? a).isSome=true then none else (h.get? a).map λo=>(a,o)
theorem rf{g h:Heap}{L a:Addr}{o:Obj}(h1:a≠L)(h2:g.get? a=none)(b:h.get? a=some o):(a,o)∈oY g h L:=
 uM.mpr ⟨a,ic.mpr (aF b),by simp[h1,h2,b]⟩
theorem Bu{g h:Heap}{L:Addr}{p:Addr×Obj}(c:p∈oY g h L):p.1≠L/\g.get? p.1=none/\h.get? p.1=some p.2:=by
 obtain⟨b,_,e⟩:=uM.mp c
 split at e
 .cases e
 rename_i a;cases q:h.get? b with
 |none=>rw[q] at e;simp at e
 |some u=>
  rw[q] at e;simp only[mO,NQ] at e;subst e;show⟨λz=>a (.inl z),?_,q⟩;change g.get? b=none;cases r:g.get? b with
  |none=>rfl
  |some v=>show (a (.inr (by simp[r]))).elim
theorem rT{g h:Heap}{L:Addr}:News g L h (oY g h L):=λp d=>let ⟨a,b,c⟩:=Bu d;⟨c,a,b⟩
end L2
namespace L2
open PySem PySem.Spec PyProof.Rows
structure Mod(K:W.Frag)(mg:Str->Option Value)(base:Heap):Prop where
 kin:K.In base
 glob:base.Ns mainGlobals mg
 blt:∃mb,base.Ns builtinsNs mb/\∀x:Str,x≠"__name__"->mb x=bootBuiltins x
 nolimit:base.NoLimit
structure Cx where
 prog:Program
 w:World
 K:W.Frag
 mg:Str->Option Value
 base:Heap
 A:Around
 N:List Str
 s₀:Shared
 H₀:Hp
 env:Env
 outer:List Env
 stack:List Env
 ex:List Addr
 fn:Str->Bool
 calm:Bool
 pn:List (Addr×Obj)
 xe:Value->Shared->Prop
def frs(l:List Env):List Addr:=l.filterMap (·.frame)
abbrev Cx.fs(X:Cx):List Addr:=frs X.outer
def Vis(sc:Scope)(x:Str):Prop:=sc.names.lookup x=some .local\/sc.names.lookup x=some .cell\/sc.names.lookup x=some .free
def Loc(sc:Scope)(x:Str):Prop:=sc.names.lookup x=some .local\/sc.names.lookup x=some .cell
def Look(env:Env)(h:Heap)(m:Str->Option Value)(x:Str)(u:Value):Prop:=
 (env.kindOf x=some .local/\m x=some u)\/((env.kindOf x=some .cell\/env.kindOf x=some .free)/\∃c,env.cells.lookup x=some c/\h.IsCell c (some u))
structure Cx.Ok(X:Cx):Prop where
 mod:Mod X.K X.mg X.base
 kind:X.env.scope.kind=.function
 glob:X.env.globals=mainGlobals
 blt:X.env.builtins=builtinsNs
 above:X.s₀.heap.objs.size<=X.env.locals
 inj:∀x y c,X.env.cells.lookup x=some c->X.env.cells.lookup y=some c->x=y
 has:∀x,(X.env.kindOf x=some .cell\/X.env.kindOf x=some .free)->∃c,X.env.cells.lookup x=some c
 cab:∀x c,X.fn x=true->X.env.cells.lookup x=some c->X.s₀.heap.objs.size<=c
 hd:X.calm=true->X.A.handled=none
 frames:X.A.frames=some X.stack
 stk:X.stack=X.outer\/(X.stack=X.env::X.outer/\X.env.frame=some X.env.locals)
 exf:∀b∈X.ex,b≠X.env.locals/\∀x c,X.env.cells.lookup x=some c->c≠b
 bs:∀b o,X.base.get? b=some o->X.s₀.heap.get? b=some o/\X.H₀ b=none
 bsz:X.base.objs.size<=X.s₀.heap.objs.size
 noex:∀b o,X.base.get? b=some o->b∉X.ex
 exfs:∀b∈X.ex,b∉X.fs
 funs:X.s₀.heap.FunFrames X.base X.outer
 frf:∀b∈X.fs,X.H₀ b=none
structure Inv(X:Cx)(OY:List (Addr×Obj))(Z:List (Option V))(H:Hp)(s:Shared):Prop where
 ok:X.Ok
 os:s.os=X.s₀.os
 bare:AllBare s.gens
 base:Un X.fs X.ex X.H₀ H X.s₀.heap s.heap
 loc:∃m,s.heap.Ns X.env.locals m/\∀(i:Nat)(x:Str)(v:V),X.N[i]?=some x->Z[i]?=some (some v)->Vis X.env.scope x->∃u,az v u/\Look X.env s.heap m x u
 cell:∀x c,X.env.cells.lookup x=some c->∃v,s.heap.IsCell c v
 free:H X.env.locals=none
 freeC:∀x c,X.env.cells.lookup x=some c->H c=none
 pin:∀p∈X.pn++OY,s.heap.get? p.1=some p.2/\H p.1=none/\p.1≠X.env.locals/\p.1∉X.fs/\∀v,p.2.data≠.cell v
 hok:HOk X.prog X.w H s.heap
 len:Z.length=X.N.length
section
variable {X:Cx}{Z:List (Option V)}{H H':Hp}{h':Heap}
theorem Cx.Ok.nofr(ok:X.Ok){b:Addr}{o:Obj}(e:X.base.get? b=some o):b∉X.fs:=λa=>by
 have:=(ok.funs.mem a).1;rw[e] at this;cases this
theorem Inv.bs(I:Inv X OY Z H s):∀b o,X.base.get? b=some o->s.heap.get? b=some o/\H b=none:=λb o e=>
 ⟨I.base.keep b o (I.ok.bs b o e).1 (I.ok.bs b o e).2 (I.ok.nofr e) (I.ok.noex b o e),I.base.free b o (I.ok.bs b o e).1 (I.ok.bs b o e).2 (I.ok.noex b o e)⟩
theorem Inv.bk(I:Inv X OY Z H s):∀b o,X.base.get? b=some o->s.heap.get? b=some o:=λb o e=>(I.bs b o e).1
theorem Inv.mod(I:Inv X OY Z H s):Mod X.K X.mg X.base:=I.ok.mod
theorem Inv.kIn(I:Inv X OY Z H s):X.K.In s.heap:=I.ok.mod.kin.keeps I.bk
theorem Inv.fr(I:Inv X OY Z H s):∃m,Fr X.base X.env.locals s.heap m:=
 let ⟨m,a,_⟩:=I.loc
 ⟨m,a,I.bk,dn I.ok.bsz I.ok.above⟩
theorem Inv.lt(I:Inv X OY Z H s):X.env.locals<↥s:=let ⟨_,a,_⟩:=I.loc;a.lt
theorem Inv.sz(I:Inv X OY Z H s):X.s₀.heap.objs.size<=↥s:=dn I.ok.above (qM I.lt)
theorem Inv.nofs(I:Inv X OY Z H s){a:Addr}(h:↥s<=a):a∉X.fs:=λb=>by
 obtain⟨_,o,c,_⟩:=I.ok.funs.mem b;show absurd (b_ (aF c) (dn I.sz h)) (c7 _)
theorem Inv.cne(I:Inv X OY Z H s):∀x c,X.env.cells.lookup x=some c->c≠X.env.locals:=λx c e z=>by
 obtain⟨v,o,a,hd⟩:=I.cell x c e;obtain⟨m,⟨o',es,ep,b,d,_⟩,_⟩:=I.loc;rw[z,b] at a;cases a;rw[d] at hd;cases hd
theorem Inv.funs(I:Inv X OY Z H s):s.heap.FunFrames X.base X.outer:=by
 have all:∀(l:List Env),(∀b∈frs l,b∈X.fs)->X.s₀.heap.FunFrames X.base l->s.heap.FunFrames X.base l:=by
  intro l;induction l with
  |nil=>intro _ _;trivial
  |cons env r f=>
   intro d g;obtain⟨h,⟨L,o,hf,i,j,hd⟩,m⟩:=g;have a:L∈X.fs:=d L (by unfold frs;rw[As,hf];show gq);obtain⟨sl,e⟩:=I.base.slot L o j (I.ok.frf L a) a λz=>I.ok.exfs L z a;show⟨h,⟨L,_,hf,i,e,hd⟩,f (λb c=>d b (by unfold frs;rw[As,hf];show bJ _ c)) m⟩
 show all X.outer (λ_ c=>c) I.ok.funs
theorem Inv.stack(I:Inv X OY Z H s):s.heap.FunFrames X.base X.stack:=by
 rcases I.ok.stk with e|⟨e,hf⟩
 .rw[e];show I.funs
 rw[e];obtain⟨m,a,_⟩:=I.loc;show .cons (by rw[I.ok.kind];decide) hf a ?_ I.funs;show jl (dn I.ok.bsz I.ok.above)
theorem Inv.stkSub(I:Inv X OY Z H s):∀b∈frs X.stack,b∈X.env.locals::X.fs:=λb a=>by
 rcases I.ok.stk with e|⟨e,hf⟩
 .rw[e] at a;show bJ _ a
 rw[e] at a;unfold frs at a;rw[As,hf] at a;show a
theorem Inv.stkFree(I:Inv X OY Z H s):∀b∈frs X.stack,H b=none:=λb a=>by
 rcases aG.mp (I.stkSub b a) with e|a
 .rw[e];show I.free
 obtain⟨_,o,c,_⟩:=I.ok.funs.mem a;show I.base.free b o c (I.ok.frf b a) λz=>I.ok.exfs b z a
theorem Inv.step{g':Array GenState}{t':Nat}{d':Drawn}{ch:List Addr}(I:Inv X OY Z H s)
  (h:∀b∈ch,(b∈X.ex\/X.s₀.heap.objs.size<=b)/\b≠X.env.locals/\(∀x c,X.env.cells.lookup x=some c->c≠b)/\∀p∈X.pn++OY,p.1≠b)
  (keep:∀b o,b≠X.env.locals->b∉X.fs->b∉ch->s.heap.get? b=some o->H b=none->h'.get? b=some o)
  (slot:∀b o,b≠X.env.locals->b∈X.fs->b∉ch->s.heap.get? b=some o->H b=none->∃sl,h'.get? b=some {o with slots:=sl}) (free:∀b o,b∉ch->s.heap.get? b=some o->H b=none->H' b=none)
  (there:∀b o,b∉ch->s.heap.get? b=some o->∃o',h'.get? b=some o')
  (tups:∀b xs,H b=some (.tup xs)->H' b=some (.tup xs)) (frzs:∀b o u,H b=some (.frz o u)->H' b=some (.frz o u)) (tbls:∀b ps,H b=some (.tbl ps)->∃more,H' b=some (.tbl (ps++more)))
  (ns:∀m,s.heap.Ns X.env.locals m->h'.Ns X.env.locals m) (hok:HOk X.prog X.w H' h') (J:AllBare g') :
  Inv X OY Z H' {s with heap:=h',gens:=g',drawn:=d',toks:=t'}:=by
 have B:∀b o,X.s₀.heap.get? b=some o->b≠X.env.locals:=λb o e=>bo (b_ (aF e) I.ok.above);have A:∀b o,X.s₀.heap.get? b=some o->b∉X.ex->b∉ch:=λb o e hx f=>by
  rcases (h b f).1 with z|z
  .exact hx z
  show absurd (b_ (aF e) z) (c7 _)
 have cellK:∀x c,X.env.cells.lookup x=some c->∀v,s.heap.IsCell c v->h'.IsCell c v:=λx c e v ⟨o,g,hd⟩=>by
  have j:c∉ch:=λz=>(h c z).2.2.1 x c e rfl;by_cases C:c∈X.fs
  .obtain⟨sl,q⟩:=slot c o (I.cne x c e) C j g (I.freeC x c e);show⟨_,q,hd⟩
  show⟨o,keep c o (I.cne x c e) C j g (I.freeC x c e),hd⟩
 show⟨I.ok,I.os,J,⟨λb o e n f hx=>?_,λb o e n f hx=>?_,λb o e n hx=>?_,λb o e hx=>?_,λb xs e=>tups b xs (I.base.tups b xs e),λb o xs e=>frzs b o xs (I.base.frzs b o xs e),λb ps e=>?_⟩,?_,λx c e=>?_,?_,λx c e=>?_,λp D=>?_,hok,I.len⟩
 .exact keep b o (B b o e) f (A b o e hx) (I.base.keep b o e n f hx) (I.base.free b o e n hx)
 .obtain⟨sl,a⟩:=I.base.slot b o e n f hx;obtain⟨K,y⟩:=slot b _ (B b o e) f (A b o e hx) a (I.base.free b o e n hx);show⟨K,y⟩
 .obtain⟨o',a⟩:=I.base.there b o e hx;show free b o' (A b o e hx) a (I.base.free b o e n hx)
 .obtain⟨o',a⟩:=I.base.there b o e hx;show there b o' (A b o e hx) a
 .obtain⟨L,a⟩:=I.base.tbls b ps e;obtain⟨M,y⟩:=tbls b _ a;show⟨L++M,by rw[y,Array.append_assoc]⟩
 .obtain⟨m,N,O⟩:=I.loc;show⟨m,ns m N,λi x v a y P=>?_⟩;obtain⟨u,r,l⟩:=O i x v a y P;show⟨u,r,?_⟩;rcases l with l|⟨k,c,e,z⟩
  .exact .inl l
  show .inr ⟨k,c,e,cellK x c e _ z⟩
 .obtain⟨v,z⟩:=I.cell x c e;show⟨v,cellK x c e v z⟩
 .obtain⟨m,⟨o,_,_,g,_⟩,_⟩:=I.loc;show free _ o (λz=>(h _ z).2.1 rfl) g I.free
 .obtain⟨v,o,g,hd⟩:=I.cell x c e;show free c o (λz=>(h c z).2.2.1 x c e rfl) g (I.freeC x c e)
 obtain⟨e,n,ne,E,d⟩:=I.pin p D;have j:p.1∉ch:=λz=>(h p.1 z).2.2.2 p D rfl;show⟨keep p.1 p.2 ne E j e n,free p.1 p.2 j e n,ne,E,d⟩
theorem Inv.un{t':Nat}(I:Inv X OY Z H s)(u:Un X.fs [] H H' s.heap h')(hok:HOk X.prog X.w H' h'):Inv X OY Z H' {s with heap:=h',toks:=t'}:=by
 obtain⟨m,⟨o,es,ep,c,r⟩,_⟩:=id I.loc;obtain⟨sl,f⟩:=u.any c I.free ∅;show I.step (g':=s.gens) (d':=s.drawn) (ch:=[]) (λ_ z=>nomatch z) (λb o _ a _ e n=>u.keep b o e n a ∅) (λb o _ a _ e n=>u.slot b o e n a ∅) (λb o _ e n=>u.free b o e n ∅) (λb o _ e=>u.there b o e ∅) u.tups u.frzs u.tbls (λj hm=>by
  obtain⟨o',g,h,d,i⟩:=hm;rw[c] at d;cases d;show⟨_,g,h,f,i⟩) hok I.bare
theorem Inv.call{g':Array GenState}{t':Nat}{d':Drawn}{ch:List Addr}(I:Inv X OY Z H s)(u:Un (frs X.stack) ch H H' s.heap h')(hok:HOk X.prog X.w H' h')(i:AllBare g')
  (f:∀b∈ch,(b∈X.ex\/X.s₀.heap.objs.size<=b)/\b≠X.env.locals/\(∀x c,X.env.cells.lookup x=some c->c≠b)/\∀p∈X.pn++OY,p.1≠b) :
  Inv X OY Z H' {s with heap:=h',gens:=g',drawn:=d',toks:=t'}:=by
 obtain⟨m,⟨o,es,ep,g,r⟩,_⟩:=id I.loc;obtain⟨sl,d⟩:=u.any g I.free λz=>(f _ z).2.1 rfl;show I.step (ch:=ch) f (λb o d j a e n=>u.keep b o e n (λz=>(aG.mp (I.stkSub b z)).elim d j) a) (λb o _ _ a e n=>u.any e n a) (λb o a e n=>u.free b o e n a) (λb o a e=>u.there b o e a) u.tups u.frzs u.tbls (λy hm=>by
  obtain⟨o',l,q,h,v⟩:=hm;rw[g] at h;cases h;show⟨_,l,q,d,v⟩) hok i
theorem Inv.turned{t':Nat}{it:Addr}(I:Inv X OY Z H s)(k:∀b o,b≠it->s.heap.get? b=some o->h'.get? b=some o)(g:H it=none)(d:it≠X.env.locals)
  (h1:it∈X.ex\/X.s₀.heap.objs.size<=it) (h2:∀x c,X.env.cells.lookup x=some c->c≠it) (h:∀p∈X.pn++OY,p.1≠it):Inv X OY Z H {s with heap:=h',toks:=t'}:=by
 have f:∀b u,H b=some u->b≠it:=λb u e z=>by rw[z,g] at e;cases e
 show I.step (g':=s.gens) (d':=s.drawn) (ch:=[it]) (λb i=>?_) (λb o _ _ a e _=>k b o (λz=>a (by simp[z])) e) (λb o _ _ a e _=>⟨o.slots,k b o (λz=>a (by simp[z])) e⟩) (λ_ _ _ _ n=>n)
  (λb o a e=>⟨o,k b o (λz=>a (by simp[z])) e⟩) (λ_ _ e=>e) (λ_ _ _ e=>e) (λb ps e=>⟨#[],by rw[e];simp⟩) (λm hm=>?_) (λb u e=>?_) I.bare
 .have e:b=it:=‹i›
  subst e;show⟨h1,d,h2,h⟩
 .obtain⟨o,es,ep,j,r⟩:=hm;show⟨o,es,ep,k _ o (ax d) j,r⟩
 show (I.hok b u e).stay (λc v a q=>k c v ?_ q) (λ_ q=>q) λ_ _ q=>q;rcases a with z|z
 .rw[z];show f b u e
 show f c _ z
theorem Inv.tok(I:Inv X OY Z H s)(t:Nat):Inv X OY Z H {s with toks:=t}:=I.un (h':=s.heap) (t':=t) Un.refl I.hok
theorem Inv.kept{t':Nat}(I:Inv X OY Z H s)(k:∀b u,s.heap.get? b=some u->h'.get? b=some u):Inv X OY Z H {s with heap:=h',toks:=t'}:=I.un (Un.kept k) (I.hok.kept k)
theorem Inv.laid{a:Addr}{o:HO}{t':Nat}(I:Inv X OY Z H s)(k:∀b u,s.heap.get? b=some u->h'.get? b=some u)(c:↥s<=a)(new:aV X.prog X.w (upd H a o) h' a o) :
  Inv X OY Z (upd H a o) {s with heap:=h',toks:=t'}:=I.un (Un.laid k c (I.hok.fresh c)) (I.hok.laid k c new)
theorem Inv.write{x e:Addr}{o:HO}{t':Nat}(I:Inv X OY Z H s)(a:Mut (H x))(he:e=x\/H e=some (.own x))(k:∀b u,b≠e->s.heap.get? b=some u->h'.get? b=some u)(c:∃u,h'.get? e=some u)
  (new:aV X.prog X.w (upd H x o) h' x o):Inv X OY Z (upd H x o) {s with heap:=h',toks:=t'}:=I.un (Un.write a he k c) (I.hok.write a he k c new)
theorem Inv.pins_of{a:List (Addr×Obj)}(I:Inv X OY Z H s)(h:∀p∈a,s.heap.get? p.1=some p.2/\H p.1=none/\p.1≠X.env.locals/\p.1∉X.fs/\∀v,p.2.data≠.cell v):Inv X a Z H s:=
 ⟨I.ok,I.os,I.bare,I.base,I.loc,I.cell,I.free,I.freeC,λp b=>(a_.mp b).elim (λz=>I.pin p (dD _ z)) (h p),I.hok,I.len⟩
theorem rS{N:List Str}(c:N.Nodup){i j:Nat}{x:Str}(a:N[i]?=some x)(b:N[j]?=some x):i=j:=by obtain⟨h1,d⟩:=aI.mp a;obtain⟨h2,e⟩:=aI.mp b;show (List.getElem_inj c).mp (d.trans e.symm)
theorem vV{M:Model}{i:Nat}{x:Str}{v:V}{u:Value}{Q:Unit->Shared->Prop}(I:Inv X OY Z H s)(hN:X.N.Nodup)(hi:X.N[i]?=some x)(hx:Loc X.env.scope x)(r:az v u)
  (h:∀s',Inv X OY (Z.set i (some v)) H s'->(∃a,Heap.SameBut a s.heap s'.heap/\(a=X.env.locals\/X.env.cells.lookup x=some a))->Q .unit s') (hf:X.fn x=true\/X.env.scope.names.lookup x=some .local:=by first|exact .inl rfl|exact .inr rfl|assumption):wpAny M A (storeName X.env x u) Q E s:=by
 obtain⟨m,O,hl⟩:=id I.loc;have an:(X.env.scope.kind==.class||(X.env.scope.kind==.module&&X.env.locals != X.env.globals))=false:=by rw[I.ok.kind];rfl
 have hiσ:i<Z.length:=by rw[I.len];show (aI.mp hi).1
 have cne:=I.cne;have tracked:∀{a:Addr}{h':Heap},(∃o,s.heap.get? a=some o/\H a=none)->Heap.SameBut a s.heap h'->HOk X.prog X.w H h':=λ{a h'} ha f b ob e=>by
  obtain⟨_,_,ad⟩:=ha;show (I.hok b ob e).stay (λc K l q=>(f.2 c ?_).trans q) (λ_ q=>q) λ_ _ q=>q;rintro rfl;rcases l with rfl|l
  .rw[ad] at e;cases e
  rw[ad] at l;cases l
 rcases hx with C|C
 .refine wpAny_storeName_local C O (λh' ap f=>?_) an;obtain⟨oL,_,_,aM,_⟩:=id O;show h _ ⟨I.ok,I.os,I.bare,⟨λb o e n D hx=>?_,λb o e n D hx=>?_,I.base.free,λb o e hx=>?_,I.base.tups,I.base.frzs,I.base.tbls⟩,⟨_,ap,λj y P g B R=>?_⟩,λy c e=>?_,I.free,I.freeC,λp S=>?_,tracked ⟨oL,aM,I.free⟩ f,‹I.len›⟩ ⟨_,f,.inl rfl⟩
  .exact (f.2 b (bo (b_ (aF e) I.ok.above))).trans (I.base.keep b o e n D hx)
  .obtain⟨sl,g⟩:=I.base.slot b o e n D hx;show⟨sl,(f.2 b (bo (b_ (aF e) I.ok.above))).trans g⟩
  .obtain⟨o',g⟩:=I.base.there b o e hx;show⟨o',(f.2 b (bo (b_ (aF e) I.ok.above))).trans g⟩
  .by_cases J:j=i
   .subst J;rw[hi] at g;cases g;rw[uJ hiσ] at B;cases B;show⟨u,r,.inl ⟨C,∅⟩⟩
   rw[uI (ax J)] at B;obtain⟨T,U,q⟩:=hl j y P g B R;show⟨T,U,?_⟩;rcases q with ⟨k,e⟩|⟨k,c,e,z⟩
   .refine .inl ⟨k,?_⟩;have:y≠x:=λe=>J (rS hN g (e ▸ hi));simp[this,e]
   show .inr ⟨k,c,e,z.sameBut f (cne y c e)⟩
  .obtain⟨K,z⟩:=I.cell y c e;show⟨K,z.sameBut f (cne y c e)⟩
  obtain⟨e,n,ne,Y,d⟩:=I.pin p S;show⟨(f.2 p.1 ne).trans e,n,ne,Y,d⟩
 have ab:X.fn x=true:=by
  rcases hf with z|z
  .exact z
  rw[z] at C;cases C
 obtain⟨c,l⟩:=I.ok.has x (.inl C);obtain⟨K,z⟩:=I.cell x c l;show wpAny_storeName_cell I.ok.kind C l z (λh' ag f=>?_);obtain⟨oc,al,aS⟩:=id z;show h {s with heap:=h'} ⟨I.ok,I.os,I.bare,⟨λb o e n D hx=>?_,λb o e n D hx=>?_,I.base.free,λb o e hx=>?_,I.base.tups,I.base.frzs,I.base.tbls⟩,⟨m,O.sameBut f (ax (cne x c l)),λj y P g B R=>?_⟩,λy L e=>?_,I.free,I.freeC,λp S=>?_,tracked ⟨oc,al,I.freeC x c l⟩ f,‹I.len›⟩ ⟨c,f,.inr l⟩
 .exact (f.2 b (bo (b_ (aF e) (I.ok.cab x c ab l)))).trans (I.base.keep b o e n D hx)
 .obtain⟨sl,g⟩:=I.base.slot b o e n D hx;show⟨sl,(f.2 b (bo (b_ (aF e) (I.ok.cab x c ab l)))).trans g⟩
 .obtain⟨o',g⟩:=I.base.there b o e hx;show⟨o',(f.2 b (bo (b_ (aF e) (I.ok.cab x c ab l)))).trans g⟩
 .by_cases J:j=i
  .subst J;rw[hi] at g;cases g;rw[uJ hiσ] at B;cases B;show⟨u,r,.inr ⟨.inl C,c,l,ag⟩⟩
  rw[uI (ax J)] at B;obtain⟨T,U,q⟩:=hl j y P g B R;show⟨T,U,?_⟩;rcases q with q|⟨k,L,e,z'⟩
  .exact .inl q
  show .inr ⟨k,L,e,z'.sameBut f ?_⟩;rintro rfl;show J (rS hN g (I.ok.inj _ _ _ e l ▸ hi))
 .by_cases am:L=c
  .subst am;show⟨_,ag⟩
  obtain⟨w2,z2⟩:=I.cell y L e;show⟨w2,z2.sameBut f am⟩
 obtain⟨e,n,ne,Y,d⟩:=I.pin p S;show⟨(f.2 p.1 ?_).trans e,n,ne,Y,d⟩;intro q;rw[q,al] at e;have q':oc=p.2:=dz e;show d K (by rw[<-q'];show aS)
theorem n9{M:Model}{i:Nat}{x:Str}{v:V}{u:Value}{Q:Unit->Shared->Prop}(I:Inv X OY Z H s)(a:X.N.Nodup)(hi:X.N[i]?=some x)(hx:Loc X.env.scope x)(r:az v u)
  (h:∀s',Inv X OY (Z.set i (some v)) H s'->Q .unit s') (hf:X.fn x=true\/X.env.scope.names.lookup x=some .local:=by first|exact .inl rfl|exact .inr rfl|assumption):wpAny M A (storeName X.env x u) Q E s:=
 vV I a hi hx r (λs' b _=>h s' b) hf
theorem Inv.call'{s':Shared}{ch:List Addr}(I:Inv X OY Z H s)(a:s'.os=s.os)(u:Un (frs X.stack) ch H H' s.heap s'.heap)(hok:HOk X.prog X.w H' s'.heap)(d:AllBare s'.gens)
  (f:∀b∈ch,(b∈X.ex\/X.s₀.heap.objs.size<=b)/\b≠X.env.locals/\(∀x c,X.env.cells.lookup x=some c->c≠b)/\∀p∈X.pn++OY,p.1≠b):Inv X OY Z H' s':=by
 obtain⟨h',g',d',t',o'⟩:=s';have e:o'=s.os:=a;subst e;show I.call (g':=g') (t':=t') (d':=d') u hok d f
end
abbrev XK:=Value->Option Addr->Hp->Prop
abbrev St:=List (Option V)
abbrev VK:=V->Hp->Prop
abbrev TE:=St->Hp->VK->Prop
abbrev TT:=St->Hp->(Bool->Hp->Prop)->Prop
abbrev TA:=St->Hp->(List V->Hp->Prop)->Prop
structure Ends where
 nx:St->Hp->Prop
 rt:VK
 bk:St->Hp->Prop:=λ_ _=>False
 ct:St->Hp->Prop:=λ_ _=>False
abbrev TS:=Ends->St->Hp->Prop
def EP(X:Cx)(OY:List (Addr×Obj))(Z:St)(Q:VK)(u:Value)(s':Shared):Prop:=∃v H',Inv X OY Z H' s'/\az v u/\Q v H'
def TP(X:Cx)(OY:List (Addr×Obj))(Z:St)(Q:Bool->Hp->Prop)(b:Bool)(s':Shared):Prop:=∃H',Inv X OY Z H' s'/\Q b H'
def AP(X:Cx)(OY:List (Addr×Obj))(Z:St)(Q:List V->Hp->Prop)(us:List Value)(s':Shared):Prop:=∃vs H',Inv X OY Z H' s'/\Vals vs us/\Q vs H'
def SP(X:Cx)(OY:List (Addr×Obj))(D:Ends)(f:Flow)(s':Shared):Prop:=
 match f with
 |.next=>∃Z' H',Inv X OY Z' H' s'/\D.nx Z' H'
 |.brk=>∃Z' H',Inv X OY Z' H' s'/\D.bk Z' H'
 |.cont=>∃Z' H',Inv X OY Z' H' s'/\D.ct Z' H'
 |.ret u=>∃v Z' H',Inv X OY Z' H' s'/\az v u/\D.rt v H'
def PE(X:Cx)(e:Expr)(t:TE):Prop:=
 ∀(OY:List (Addr×Obj))(s:Shared)(Z:St)(H:Hp)(Q:VK),Inv X OY Z H s->t Z H Q->wpAny ⇑X X.A (eval e X.env) (EP X OY Z Q) X.xe s
def PT(X:Cx)(e:Expr)(t:TT):Prop:=
 ∀(OY:List (Addr×Obj))(s:Shared)(Z:St)(H:Hp)(Q:Bool->Hp->Prop),Inv X OY Z H s->t Z H Q->wpAny ⇑X X.A (isTrue e X.env (eval e X.env)) (TP X OY Z Q) X.xe s
def PW(X:Cx)(e:Expr)(t:TT):Prop:=
 ∀(whole:Sem Value)(OY:List (Addr×Obj))(s:Shared)(Z:St)(H:Hp)(Q:Bool->Hp->Prop),Inv X OY Z H s->t Z H Q->wpAny ⇑X X.A (isTrue e X.env whole) (TP X OY Z Q) X.xe s
theorem PW.pt{X:Cx}{e:Expr}{t:TT}(h:PW X e t):PT X e t:=h _
def PA(X:Cx)(es:List Expr)(t:TA):Prop:=
 ∀(pos:Pos)(OY:List (Addr×Obj))(s:Shared)(Z:St)(H:Hp)(Q:List V->Hp->Prop),Inv X OY Z H s->t Z H Q->wpAny ⇑X X.A (spliced (backTo pos (starEach es X.env))) (AP X OY Z Q) X.xe s
def PS(X:Cx)(st:Stmt)(t:TS):Prop:=
 ∀(OY:List (Addr×Obj))(s:Shared)(Z:St)(H:Hp)(D:Ends),Inv X OY Z H s->t D Z H->wpAny ⇑X X.A (exec st X.env) (SP X OY D) X.xe s
def PSs(X:Cx)(st:List Stmt)(t:TS):Prop:=
 ∀(OY:List (Addr×Obj))(s:Shared)(Z:St)(H:Hp)(D:Ends),Inv X OY Z H s->t D Z H->wpAny ⇑X X.A (execs st X.env) (SP X OY D) X.xe s
theorem thn{α:Type}{t:Sem α}{Q b:α->Shared->Prop}{M:Model}(h:wpAny M A t Q E s)(c:∀a s,Q a s->b a s):wpAny M A t b E s:=bF h c λ_ _ x=>x
end L2
variable {H:L2.Hp}{Z:L2.St}{X:L2.Cx}{xs:List L2.V}{vs:List L2.V}{H':L2.Hp}
namespace L2
open PySem PySem.Spec PyProof.Rows
section
def Ex2{α β:Type}(P:α->β->Prop)(a:α):Prop:=Exists (P a)
def Ex3{α β γ:Type}(P:α->β->γ->Prop)(a:α):Prop:=Exists (Ex2 (P a))
def Ex4{α β γ δ:Type}(P:α->β->γ->δ->Prop)(a:α):Prop:=Exists (Ex3 (P a))
def Ex5{α β γ δ ε:Type}(P:α->β->γ->δ->ε->Prop)(a:α):Prop:=Exists (Ex4 (P a))
def Ex6{α β γ δ ε ζ:Type}(P:α->β->γ->δ->ε->ζ->Prop)(a:α):Prop:=Exists (Ex5 (P a))
def Ex7{α β γ δ ε ζ η:Type}(P:α->β->γ->δ->ε->ζ->η->Prop)(a:α):Prop:=Exists (Ex6 (P a))
def Ex8{α β γ δ ε ζ η θ:Type}(P:α->β->γ->δ->ε->ζ->η->θ->Prop)(a:α):Prop:=Exists (Ex7 (P a))
def Same(H H':Hp):Prop:=∀b o,H b=some o->H' b=some o
def fZ(H:Hp)(o:HO)(Q:VK):Prop:=∀p H',H p=none->Same H H'->H' p=some o->Q (.ref p) H'
theorem fZ.at{o:HO}{Q:VK}{p:Addr}(q:fZ H o Q)(h:H p=none):Q (.ref p) (upd H p o):=q p _ h (λb u e=>(av (λz=>by rw[z,h] at e;cases e)).trans e) aN
def WrO(H:Hp)(l:Addr)(o:HO)(k:Hp->Prop):Prop:=∀H',(∀b,b≠l->H' b=H b)->H' l=some o->k H'
theorem WrO.at{l:Addr}{o:HO}{k:Hp->Prop}(q:WrO H l o k):k (upd H l o):=q _ (λ_ h=>av h) aN
def JU(i:Nat)(Z:St)(H:Hp)(Q:VK)(v:V):Prop:=Z[i]?=some (some v)/\Q v H
def aW(i:Nat):TE:=λZ H Q=>Exists (JU i Z H Q)
def tC(v:V):TE:=λ_ H Q=>Q v H
theorem I_{i:Nat}{x:Str}{pos:Pos}(f:X.N[i]?=some x)(g:Vis X.env.scope x)(hd:(x==("__debug__" : Str))=false:=by decide)(j:(x==("__classdict__" : Str))=false:=by decide):PE X (.Name x pos) (aW i):=by
 intro OY s Z H Q I h;obtain⟨v,e,h⟩:=h;obtain⟨m,n,o⟩:=I.loc;obtain⟨u,r,l⟩:=o i x v f e g;have fin:EP X OY Z Q u s:=⟨v,H,I,r,h⟩;rcases l with ⟨a,hm⟩|⟨a,c,b,d⟩
 .exact Bb (wpAny_loadName_local I.ok.kind a n hm fin) hd
 rcases a with a|a
 .exact Bb (wpAny_loadName_cell I.ok.kind a b d fin) hd
 show Bb (wpAny_loadName_free I.ok.kind a b d fin j) hd
theorem aj{i j pos}:PE X (.Constant (.int i) j pos) (tC (.int i)):=λ_ _ _ H _ I h=>wpAny_Constant_int ⟨.int i,H,I.tok _,⟨_,rfl⟩,h⟩
theorem fj{b j pos}:PE X (.Constant (.bool b) j pos) (tC (.bl b)):=λ_ _ _ H _ I h=>Constant_bool ⟨.bl b,H,I,rfl,h⟩
theorem zp{j pos}:PE X (.Constant .none j pos) (tC .non):=λ_ _ _ H _ I h=>Constant_none ⟨.non,H,I,rfl,h⟩
theorem de{x j pos}:PE X (.Constant (.str x) j pos) (tC (.str x)):=λ_ _ _ H _ I h=>Calls.Constant_str ⟨.str x,H,I.tok _,⟨_,rfl⟩,h⟩
def Gl(X:Cx)(x:Str):Prop:=X.env.kindOf x=some .globalImplicit
theorem gW{x:Str}{u:Value}{pos:Pos}{Q:Value->Shared->Prop}(I:Inv X OY Z H s)(a:Gl X x)(hm:X.mg x=some u)(h:Q u s)
  (hd:(x==("__debug__" : Str))=false:=by decide):wpAny ⇑X X.A (eval (.Name x pos) X.env) Q E s:=
 Lw I.ok.kind a (Calls.loadGlobal_global (by rw[I.ok.glob];show I.mod.glob.keeps I.bk) hm h) hd
theorem je{x:Str}{u:Value}{pos:Pos}{Q:Value->Shared->Prop}(I:Inv X OY Z H s)(a:Gl X x)(hm:X.mg x=none)(b:bootBuiltins x=some u)(h:Q u s)
  (c:x≠"__name__":=by decide) (hd:(x==("__debug__" : Str))=false:=by decide):wpAny ⇑X X.A (eval (.Name x pos) X.env) Q E s:=by
 obtain⟨mb,h1,h2⟩:=I.mod.blt;show Lw I.ok.kind a (Calls.loadGlobal_builtin (by rw[I.ok.glob];show I.mod.glob.keeps I.bk) hm (by rw[I.ok.blt];show h1.keeps I.bk) ((h2 x c).trans b) h) hd
theorem lO{x:Str}{v:V}{u:Value}{pos:Pos}(a:Gl X x)(hm:X.mg x=some u)(r:az v u)(hd:(x==("__debug__" : Str))=false:=by decide):PE X (.Name x pos) (tC v):=
 λ_ _ _ H _ I h=>gW I a hm ⟨v,H,I,r,h⟩ hd
theorem jQ{x:Str}{v:V}{u:Value}{pos:Pos}(a:Gl X x)(hm:X.mg x=none)(b:bootBuiltins x=some u)(r:az v u)(c:x≠"__name__":=by decide)(hd:(x==("__debug__" : Str))=false:=by decide):PE X (.Name x pos) (tC v):=
 λ_ _ _ H _ I h=>je I a hm b ⟨v,H,I,r,h⟩ c hd
variable {a b:Expr}{ta tb:TE}{pos:Pos}
def PC(X:Cx)(op:CmpOp)(a b:Expr)(t:TE):Prop:=
 ∀(OY:List (Addr×Obj))(s:Shared)(Z:St)(H:Hp)(Q:VK),Inv X OY Z H s->t Z H Q->
  wpAny ⇑X X.A (eval a X.env) (λv s₁=>wpAny ⇑X X.A (eval b X.env) (λu s₂=>wpAny ⇑X X.A (compareOp op v u) (EP X OY Z Q) X.xe s₂) X.xe s₁) X.xe s
theorem nobehind(b:Expr){op:CmpOp}(h:op≠.In)(h2:op≠.NotIn):behindInMarks op b=false:=by
 have a:(op==CmpOp.In)=false:=by cases op<;>first|rfl|show absurd rfl h
 have c:(op==CmpOp.NotIn)=false:=by cases op<;>first|rfl|show absurd rfl h2
 cases b<;>simp[behindInMarks,a,c]
def tIsN(ta:TE):TE:=λZ H Q=>ta Z H λx H1=>Q (.bl (decide (x=.non))) H1
theorem az.none_iff{x:V}{v:Value}(r:az x v):(v==Value.none)=decide (x=.non):=by
 cases x with
 |non=>cases r;rfl
 |bl _=>cases r;rfl
 |int _=>obtain⟨t,rfl⟩:=r;rfl
 |str _=>obtain⟨t,rfl⟩:=r;rfl
 |byt _=>obtain⟨t,rfl⟩:=r;rfl
 |flt _=>obtain⟨t,rfl⟩:=r;rfl
 |ref _=>cases r;rfl
 |ty _=>cases r;rfl
theorem l6{j pos'}(ha:PE X a ta):PC X .Is a (.Constant .none j pos') (tIsN ta):=by intro OY s Z H Q I h;show thn (ha OY s Z H _ I h) λv s1 ⟨x,H1,b,c,d⟩=>?_;show Constant_none (is_none_gen ⟨.bl _,H1,b,by rw[c.none_iff];rfl,d⟩)
def tBB(Q:Bool->Hp->Prop)(x:V)(H1:Hp)(c:Bool):Prop:=x=.bl c/\Q c H1
def tBK(Q:Bool->Hp->Prop):VK:=λx H1=>Exists (tBB Q x H1)
def tB(t:TE):TT:=λZ H Q=>t Z H (tBK Q)
theorem tU{op:CmpOp}{t:TE}(h:PC X op a b t)(h1:behindInMarks op b=false:=by first|exact nobehind _ ⋯ ⋯ | rfl):PE X (.Compare a [op] [b] pos) t:=λOY s Z H Q I hw=>Nq (h OY s Z H Q I hw) h1
theorem gB{op:CmpOp}{t:TE}(h:PC X op a b t)(h1:behindInMarks op b=false:=by first|exact nobehind _ ⋯ ⋯ | rfl):PT X (.Compare a [op] [b] pos) (tB t):=by intro OY s Z H Q I hw;refine NC (thn (h OY s Z H _ I hw) λv s1 h1=>thn h1 λu s2 h2=>thn h2 λc i ⟨x,H1,e,f,g⟩=>?_) h1;obtain⟨d,rfl,q⟩:=g;cases f;exact iT ⟨H1,e,q⟩
theorem dg{e:Expr}{t:TE}(h:PE X e t)(he:∀whole,isTrue e X.env whole=(do let v <-whole;standAt e.pos;holding [v] (truthy v)):=by intro _;rfl):PT X e (tB t):=by intro OY s Z H Q I hw;show isTrue_plain (thn (h OY s Z H _ I hw) λv s1 ⟨x,H1,I1,r1,q1⟩=>?_) (he _);obtain⟨d,rfl,q⟩:=q1;cases r1;show iT ⟨H1,I1,q⟩
variable {tA tB':TT}{rest:List Expr}
def ue(u:TT)(Z:St)(Q:Bool->Hp->Prop):Bool->Hp->Prop:=λc H1=>if c=true then u Z H1 Q else Q false H1
def tAnd(t u:TT):TT:=λZ H Q=>t Z H (ue u Z Q)
def qo(u:TT)(Z:St)(Q:Bool->Hp->Prop):Bool->Hp->Prop:=λc H1=>if c=true then Q true H1 else u Z H1 Q
def tOr(t u:TT):TT:=λZ H Q=>t Z H (qo u Z Q)
def pZ(Q:Bool->Hp->Prop):Bool->Hp->Prop:=λc H1=>Q (!c) H1
def tNot(t:TT):TT:=λZ H Q=>t Z H (pZ Q)
theorem iy(ha:PT X a tA):PW X (.BoolOp .And [a] pos) tA:=by
 intro b OY s Z H Q I h;show isTrue_and (thn (ha OY s Z H Q I h) λc s1 e=>?_);cases c with
 |true=>show isTrue_and_nil e
 |false=>show e
theorem gA(ha:PT X a tA):PW X (.BoolOp .Or [a] pos) tA:=by
 intro b OY s Z H Q I h;show isTrue_or (thn (ha OY s Z H Q I h) λc s1 e=>?_);cases c with
 |false=>show isTrue_or_nil e
 |true=>show e
theorem iF(ha:PT X a tA)(f:PW X (.BoolOp .And (b::rest) pos) tB'):PW X (.BoolOp .And (a::b::rest) pos) (tAnd tA tB'):=by
 intro g OY s Z H Q I h;show isTrue_and (thn (ha OY s Z H _ I h) λc s1 ⟨H1,d,e⟩=>?_);cases c with
 |true=>show f g OY s1 Z H1 Q d e
 |false=>show⟨H1,d,e⟩
theorem fT(ha:PT X a tA)(f:PW X (.BoolOp .Or (b::rest) pos) tB'):PW X (.BoolOp .Or (a::b::rest) pos) (tOr tA tB'):=by
 intro g OY s Z H Q I h;show isTrue_or (thn (ha OY s Z H _ I h) λc s1 ⟨H1,d,e⟩=>?_);cases c with
 |true=>show⟨H1,d,e⟩
 |false=>show f g OY s1 Z H1 Q d e
theorem dI(ha:PT X a tA):PT X (.UnaryOp .Not a pos) (tNot tA):=by intro OY s Z H Q I h;show isTrue_not (ha OY s Z H (λc H1=>Q (!c) H1) I h)
def Ks(ta tb:TE):TE:=λZ H Q=>ta Z H λx H1=>∃c,x=.bl c/\if c=true then tb Z H1 Q else Q (.bl false) H1
def J5(tb:TE)(Z:St)(Q:VK)(x:V)(H1:Hp)(c:Bool):Prop:=x=.bl c/\if c=true then Q (.bl true) H1 else tb Z H1 Q
def JZ(tb:TE)(Z:St)(Q:VK):VK:=λx H1=>Exists (J5 tb Z Q x H1)
def tOrV(ta tb:TE):TE:=λZ H Q=>ta Z H (JZ tb Z Q)
def J6(ta:TE):TE:=λZ H Q=>ta Z H λx H1=>∃c,x=.bl c/\Q (.bl (!c)) H1
theorem j0{op}{t:TE}(h:PE X a t):PE X (.BoolOp op [a] pos) t:=λOY s Z H Q I hw=>BoolOp_one (h OY s Z H Q I hw)
theorem j1(ha:PE X a ta)(f:PE X (.BoolOp .And (b::rest) pos) tb):PE X (.BoolOp .And (a::b::rest) pos) (Ks ta tb):=by
 intro OY s Z H Q I h;show BoolOp_and (thn (ha OY s Z H _ I h) λv s1 ⟨x,H1,e,g,d⟩=>?_);obtain⟨c,rfl,d⟩:=d;cases g;show iT ?_;cases c with
 |true=>show f OY s1 Z H1 Q e d
 |false=>show⟨.bl false,H1,e,rfl,d⟩
theorem KW(ha:PE X a ta)(f:PE X (.BoolOp .Or (b::rest) pos) tb):PE X (.BoolOp .Or (a::b::rest) pos) (tOrV ta tb):=by
 intro OY s Z H Q I h;show BoolOp_or (thn (ha OY s Z H _ I h) λv s1 ⟨x,H1,e,g,d⟩=>?_);obtain⟨c,rfl,d⟩:=d;cases g;show iT ?_;cases c with
 |false=>show f OY s1 Z H1 Q e d
 |true=>show⟨.bl true,H1,e,rfl,d⟩
theorem Ja(ha:PE X a ta):PE X (.UnaryOp .Not a pos) (J6 ta):=by intro OY s Z H Q I h;show UnaryOp_ (thn (ha OY s Z H _ I h) λv s1 ⟨x,H1,d,e,b⟩=>?_);obtain⟨c,rfl,b⟩:=b;cases e;show not_of (iT ⟨.bl (!c),H1,d,rfl,b⟩)
def tIf(t:TT)(ta tb:TE):TE:=λZ H Q=>t Z H λc H1=>if c=true then ta Z H1 Q else tb Z H1 Q
theorem wZ{c:Expr}(g:PT X c tA)(ha:PE X a ta)(i:PE X b tb):PE X (.IfExp c a b pos) (tIf tA ta tb):=by
 intro OY s Z H Q I h;show wpAny_IfExp (thn (g OY s Z H _ I h) λd s1 ⟨H1,e,f⟩=>?_);cases d with
 |true=>show ha OY s1 Z H1 Q e f
 |false=>show i OY s1 Z H1 Q e f
end
end L2
namespace L2
open PySem PySem.Spec PyProof.Rows
def SqL(K:W.Frag)(H:Hp)(a:Addr)(xs:List V):Prop:=
 Rd H a (.lst xs) \/
  ∃(o:Obj)(b:Array Value)(n:Nat),K.lookup a=some o/\o.cls=.type "list"/\o.dict=none/\o.data=.seq b n/\b.size<=sizeLine/\Vals xs b.toList
def SqT(K:W.Frag)(H:Hp)(a:Addr)(xs:List V):Prop:=
 Rd H a (.tup xs) \/
  ∃(o:Obj)(b:Array Value)(n:Nat),K.lookup a=some o/\o.cls=.type "tuple"/\o.data=.seq b n/\b.size<=sizeLine/\Vals xs b.toList
def absV:Value->Option V
 |.none=>some .non
 |.bool b=>some (.bl b)
 |.int i _=>some (.int i)
 |.str x _=>some (.str x)
 |.bytes b _=>some (.byt b)
 |.float b _=>some (.flt b)
 |.ref a=>some (.ref a)
 |.type n=>some (.ty n)
 |_=>none
theorem az.abs{x:V}{u:Value}(r:az x u):absV u=some x:=by
 cases x with
 |non=>cases r;rfl
 |bl _=>cases r;rfl
 |int _=>obtain⟨t,rfl⟩:=r;rfl
 |str _=>obtain⟨t,rfl⟩:=r;rfl
 |byt _=>obtain⟨t,rfl⟩:=r;rfl
 |flt _=>obtain⟨t,rfl⟩:=r;rfl
 |ref _=>cases r;rfl
 |ty _=>cases r;rfl
theorem az.inj{x y:V}{u:Value}(r:az x u)(q:az y u):x=y:=dz (r.abs.symm.trans q.abs)
theorem Vals.inj{xs ys:List V}(h:Vals xs us)(h':Vals ys us):xs=ys:=by
 induction h generalizing ys with
 |nil=>cases h';rfl
 |cons r t a=>cases h' with
  |cons b t'=>rw[r.inj b,a t']
section
variable {a:Addr}{xs ys:List V}
theorem SqL.of(h:H a=some (.lst xs)):SqL K H a xs:=.inl (.inl h)
theorem SqT.of(h:H a=some (.tup xs)):SqT K H a xs:=.inl (.inl h)
theorem Inv.list(I:Inv X OY Z H s)(h:SqL [] H a xs):∃b:List Value,Vals xs b/\PlainL s.heap a b.toArray/\xs.length<=sizeLine:=by
 rcases h with h|⟨o,b,n,c,d,hd,f,hz,r⟩
 .obtain⟨z,b,n,r,e⟩:=h.ok I.hok;show⟨b,r,⟨_,n,e,rfl,rfl,rfl⟩,z⟩
 cases c
theorem Inv.tuple(I:Inv X OY Z H s)(h:SqT [] H a xs):∃b:List Value,Vals xs b/\IsTup s.heap a b.toArray/\xs.length<=sizeLine:=by
 rcases h with h|⟨o,b,n,c,d,e,hz,r⟩
 .obtain⟨⟨z,_⟩,b,r,p⟩:=h.ok I.hok;show⟨b,r,p,z⟩
 cases c
theorem Inv.list_inj(I:Inv X OY Z H s)(h:SqL [] H a xs)(h':SqL [] H a ys):xs=ys:=by
 obtain⟨c,r,⟨o,n,e,_,_,d⟩,_⟩:=I.list h;obtain⟨its',f,⟨o',i,b,_,_,d'⟩,_⟩:=I.list h';rw[e] at b;cases b;rw[d] at d';injection d' with g _;have:c=its':=‹congrArg Array.toList g›
 subst this;show r.inj f
theorem Inv.tuple_inj(I:Inv X OY Z H s)(h:SqT [] H a xs)(h':SqT [] H a ys):xs=ys:=by
 obtain⟨c,r,⟨o,e,_,n,d⟩,_⟩:=I.tuple h;obtain⟨its',f,⟨o',b,_,i,d'⟩,_⟩:=I.tuple h';rw[e] at b;cases b;rw[d] at d';injection d' with g _;have:c=its':=‹congrArg Array.toList g›
 subst this;show r.inj f
end
abbrev Cx.wish(X:Cx)(E:Value->Shared->Prop):Cx:={X with xe:=E}
abbrev Cx.nox(X:Cx):Cx:=X.wish λ_ _=>False
theorem Cx.Ok.wish(ok:X.Ok)(E:Value->Shared->Prop):(X.wish E).Ok:=
 ⟨ok.mod,ok.kind,ok.glob,ok.blt,ok.above,ok.inj,ok.has,ok.cab,ok.hd,ok.frames,ok.stk,ok.exf,ok.bs,ok.bsz,ok.noex,ok.exfs,ok.funs,ok.frf⟩
theorem Cx.Ok.unwish(ok:(X.wish E).Ok):X.Ok:=
 ⟨ok.mod,ok.kind,ok.glob,ok.blt,ok.above,ok.inj,ok.has,ok.cab,ok.hd,ok.frames,ok.stk,ok.exf,ok.bs,ok.bsz,ok.noex,ok.exfs,ok.funs,ok.frf⟩
section
theorem Inv.wish(I:Inv X OY Z H s)(E:Value->Shared->Prop):Inv (X.wish E) OY Z H s:=⟨I.ok.wish E,I.os,I.bare,I.base,I.loc,I.cell,I.free,I.freeC,I.pin,I.hok,I.len⟩
theorem Inv.unwish(I:Inv (X.wish E) OY Z H s):Inv X OY Z H s:=⟨I.ok.unwish,I.os,I.bare,I.base,I.loc,I.cell,I.free,I.freeC,I.pin,I.hok,I.len⟩
theorem SP.unwish{D:Ends}{f:Flow}{s':Shared}(h:SP (X.wish E) OY D f s'):SP X OY D f s':=by
 cases f with
 |next=>obtain⟨Z',H',I,q⟩:=h;show⟨Z',H',I.unwish,q⟩
 |brk=>obtain⟨Z',H',I,q⟩:=h;show⟨Z',H',I.unwish,q⟩
 |cont=>obtain⟨Z',H',I,q⟩:=h;show⟨Z',H',I.unwish,q⟩
 |ret u=>obtain⟨v,Z',H',I,r,q⟩:=h;show⟨v,Z',H',I.unwish,r,q⟩
theorem PSs.nox{st:List Stmt}{t:TS}(h:PSs X.nox st t):PSs X st t:=λOY s Z H D I hw=>
 bF (h OY s Z H D (I.wish _) hw) (λ_ _ q=>q.unwish) λ_ _ z=>False.elim z
end
section
variable {st:Stmt}{rest:List Stmt}{t u:TS}{e:Expr}{te:TE}{pos:Pos}
def J7:TS:=λD Z H=>D.nx Z H
def ur(t u:TS):TS:=λD Z H=>t {D with nx:=u D} Z H
theorem bp:PSs X [] J7:=λ_ _ Z H _ I h=>m_ ⟨Z,H,I,h⟩
theorem ah(h1:PS X st t)(h2:PSs X rest u):PSs X (st::rest) (ur t u):=by
 intro OY s Z H D I h;show Nz (thn (h1 OY s Z H {D with nx:=u D} I h) λf s1 q=>?_);cases f with
 |next=>
  obtain⟨Z',H',a,q⟩:=q;show h2 OY s1 Z' H' D a q
 |ret v=>show q
 |brk=>show q
 |cont=>show q
theorem ak(h1:PS X st t):PSs X [st] t:=by
 intro OY s Z H D I h;show Nz (thn (h1 OY s Z H D I h) λf s1 q=>?_);cases f with
 |next=>show m_ q
 |ret v=>show q
 |brk=>show q
 |cont=>show q
def Kq:TS:=λD Z H=>D.ct Z H
theorem vv:PS X (.Continue pos) Kq:=λ_ _ Z H _ I h=>wpAny_Continue ⟨Z,H,I,h⟩
theorem Inv.quiet(I:Inv X OY Z H s):interactive X.env=false:=by simp[interactive,I.ok.kind]
def Ig(D:Ends)(Z:St):VK:=λ_ H1=>D.nx Z H1
def Ke(te:TE):TS:=λD Z H=>te Z H (Ig D Z)
theorem du(he:PE X e te)(a:swapsWith e none pos.line X.env=pure false:=by rfl):PS X (.Expr e pos) (Ke te):=by intro OY s Z H D I h;show wpAny_Expr_any (thn (he OY s Z H _ I h) λv s1 ⟨x,H1,b,d,c⟩=>⟨Z,H1,b,c⟩) I.quiet a
def tRet(te:TE):TS:=λD Z H=>te Z H D.rt
theorem aD(he:PE X e te):PS X (.Return (some e) pos) (tRet te):=by intro OY s Z H D I h;show wpAny_Return_some (thn (he OY s Z H _ I h) λv s1 ⟨x,H1,a,b,c⟩=>⟨x,Z,H1,a,b,c⟩)
def uu(t u:TS)(D:Ends)(Z:St):Bool->Hp->Prop:=λb H1=>if b=true then t D Z H1 else u D Z H1
def tIfS(c:TT)(t u:TS):TS:=λD Z H=>c Z H (uu t u D Z)
theorem bq{c:Expr}{a b:List Stmt}{tc:TT}(g:PT X c tc)(ha:PSs X a t)(i:PSs X b u):PS X (.If c a b pos) (tIfS tc t u):=by
 intro OY s Z H D I h;show wpAny_If (thn (g OY s Z H _ I h) λd s1 ⟨H1,e,f⟩=>?_);cases d with
 |true=>show ha OY s1 Z H1 D e f
 |false=>show i OY s1 Z H1 D e f
def Ic:TS:=λ_ _ _=>False
theorem jE{a:List Stmt}:PSs X a Ic:=λ_ _ _ _ _ _ h=>h.elim
end
abbrev TG:=V->St->Hp->(St->Hp->Prop)->Prop
abbrev TGs:=List V->St->Hp->(St->Hp->Prop)->Prop
def PG(X:Cx)(target:Expr)(t:TG):Prop:=
 ∀(OY:List (Addr×Obj))(s:Shared)(Z:St)(H:Hp)(v:V)(u:Value)(Q:St->Hp->Prop),Inv X OY Z H s->az v u->t v Z H Q->
  wpAny ⇑X X.A (assign target X.env u) (λ_ s'=>∃Z' H',Inv X OY Z' H' s'/\Q Z' H') X.xe s
def PGs(X:Cx)(ts:List Expr)(t:TGs):Prop:=
 ∀(OY:List (Addr×Obj))(s:Shared)(Z:St)(H:Hp)(vs:List V)(us:List Value)(Q:St->Hp->Prop),Inv X OY Z H s->Vals vs us->t vs Z H Q->
  wpAny ⇑X X.A (assignInOrder ((assignEach ts X.env).map (·.2)) us) (λ_ s'=>∃Z' H',Inv X OY Z' H' s'/\Q Z' H') X.xe s
abbrev TSet:=V->V->V->Hp->(Hp->Prop)->Prop
def PSet(X:Cx)(t:TSet):Prop:=
 ∀(OY:List (Addr×Obj))(s:Shared)(Z:St)(H:Hp)(o i v:V)(ov a u:Value)(Q:Hp->Prop),Inv X OY Z H s->az o ov->az i a->az v u->t o i v H Q->
  wpAny ⇑X X.A (setItem ov a u) (λ_ s'=>∃H',Inv X OY Z H' s'/\Q H') X.xe s
section
variable {pos:Pos}
def cI(i:Nat):TG:=λv Z H Q=>Q (Z.set i (some v)) H
theorem Gp{i:Nat}{x:Str}(a:X.N.Nodup)(hi:X.N[i]?=some x)(hx:Loc X.env.scope x)(hf:X.fn x=true\/X.env.scope.names.lookup x=some .local:=by first|exact .inl rfl|exact .inr rfl|assumption):PG X (.Name x pos) (cI i):=by intro OY s Z H v u Q I r h;exact Nw (n9 I a hi hx r (λs' b=>⟨_,H,b,h⟩) hf)
theorem gx(i:Nat){x:Str}(a:X.N.Nodup)(hi:X.N[i]?=some x:=by rfl)(hx:Loc X.env.scope x:=by first|exact .inl rfl|exact .inr rfl)(hf:X.fn x=true\/X.env.scope.names.lookup x=some .local:=by first|exact .inl rfl|exact .inr rfl|assumption):PG X (.Name x pos) (cI i):=Gp a hi hx hf
def km:TGs:=λvs Z H Q=>vs=[]/\Q Z H
def JD(u:TGs)(r:List V)(Q:St->Hp->Prop):St->Hp->Prop:=λZ' H'=>u r Z' H' Q
def JE(t:TG)(u:TGs)(vs:List V)(Z:St)(H:Hp)(Q:St->Hp->Prop)(v:V)(r:List V):Prop:=vs=v::r/\t v Z H (JD u r Q)
def fU(t:TG)(u:TGs):TGs:=λvs Z H Q=>Exists (Ex2 (JE t u vs Z H Q))
theorem cP:PGs X [] km:=by intro OY s Z H vs us Q I r h;obtain⟨e,h⟩:=h;subst e;cases r;show assignInOrder_nil ⟨Z,H,I,h⟩
theorem aR{e:Expr}{es:List Expr}{t:TG}{u:TGs}(h1:PG X e t)(h2:PGs X es u)
  (a:(assignEach (e::es) X.env).map (·.2)=assign e X.env::(assignEach es X.env).map (·.2):=by rfl):PGs X (e::es) (fU t u):=by
 intro OY s Z H vs us Q I r h;obtain⟨v,vr,b,h⟩:=h;subst b;cases r with
 |cons r c=>
  rw[a];show assignInOrder_cons (thn (h1 OY s Z H _ _ _ I r h) λ_ s1 ⟨d,H1,f,g⟩=>?_);show h2 OY s1 d H1 _ _ Q f c g
def Lg(K:W.Frag)(n:Nat)(t:TGs)(v:V)(Z:St)(H:Hp)(Q:St->Hp->Prop)(a:Addr)(xs:List V):Prop:=v=.ref a/\SqT K H a xs/\xs.length=n/\t xs Z H Q
def kl(K:W.Frag)(n:Nat)(t:TGs):TG:=λv Z H Q=>Exists (Ex2 (Lg K n t v Z H Q))
theorem cT{es:List Expr}{k:Nat}{t:TGs}(d:X.calm=true)(h:PGs X es t)
  (f:(assignEach es X.env).length=es.length:=by rfl) (g:(assignEach es X.env).findIdx? (·.1)=none:=by rfl):PG X (.Tuple es k pos) (kl [] es.length t):=by
 intro OY s Z H v u Q I r hw;obtain⟨a,xs,i,j,l,hw⟩:=hw;subst i;cases r;obtain⟨p,c,m,hz⟩:=I.tuple j;show assign_Tuple_tuple (I.ok.hd d) m (by simp[f,<-l,c.length]) g λh' hx=>?_;have n:Inv X OY Z H {s with heap:=h'}:=I.kept (t':=s.toks) λb o e=>hx b o (bo (aF e)) e;show h OY _ Z H xs _ Q n ‹c› hw
def Lh(t:TSet)(o v:V)(Z:St)(Q:St->Hp->Prop):VK:=λi H2=>t o i v H2 (Q Z)
def Li(a:TE)(t:TSet)(v:V)(Z:St)(Q:St->Hp->Prop):VK:=λo H1=>a Z H1 (Lh t o v Z Q)
def gSub(to a:TE)(t:TSet):TG:=λv Z H Q=>to Z H (Li a t v Z Q)
theorem tT{o i:Expr}{to ti:TE}{t:TSet}(ho:PE X o to)(hi:PE X i ti)(hs:PSet X t)
  (ha:∀v,assign (.Subscript o i pos) X.env v=(do
   let ov <-holding [v] (eval o X.env)
   let iv <-holding [v,ov] (eval i X.env)
   standAt pos
   holding [v,ov,iv] (setItem ov iv v)
   release [v,ov,iv] []):=by intro _;rfl):PG X (.Subscript o i pos) (gSub to ti t):=by
 intro OY s Z H v u Q I r h;rw[ha];show aa (cL (thn (ho OY s Z H _ I h) λov s1 ⟨x,H1,I1,r1,q1⟩=>?_));show aa (cL (thn (hi OY s1 Z H1 _ I1 q1) λiv s2 ⟨y,H2,I2,r2,q2⟩=>?_));show aa (kU (aa (cL (thn (hs OY s2 Z H2 x y v ov iv u _ I2 r1 r2 r q2) λ_ s3 ⟨H3,I3,q3⟩=>?_))));show wpAny_release ⟨Z,H3,I3,q3⟩
def Kr(g:TG)(D:Ends)(Z:St):VK:=λx H1=>g x Z H1 D.nx
def mm(te:TE)(g:TG):TS:=λD Z H=>te Z H (Kr g D Z)
theorem ff{tg e:Expr}{te:TE}{g:TG}(he:PE X e te)(a:PG X tg g)(b:swapsWithSole [tg] e pos.line X.env=pure false:=by rfl)(hw:swappedStores [tg] e X.env=pure none:=by rfl)
  (h1:(assignEach [tg] X.env).map (·.2)=[assign tg X.env]:=by rfl):PS X (.Assign [tg] e pos) (mm te g):=by
 intro OY s Z H D I h;show wpAny_Assign_stores (thn (he OY s Z H _ I h) λv s1 ⟨x,H1,c,d,f⟩=>?_) b hw;rw[h1];show thn (a OY s1 Z H1 x v _ c d f) λ_ s2 q=>q
theorem tO{i:Nat}{x:Str}{e:Expr}{te:TE}{pos':Pos}(a:X.N.Nodup)(hi:X.N[i]?=some x)(hx:Loc X.env.scope x)(he:PE X e te)(b:swapsWith e (some (.Name x pos')) pos.line X.env=pure false:=by rfl)(hf:X.fn x=true\/X.env.scope.names.lookup x=some .local:=by first|exact .inl rfl|exact .inr rfl|assumption) :
  PS X (.Assign [.Name x pos'] e pos) (mm te (cI i)):=by
 intro OY s Z H D I h;show wpAny_Assign_Name (thn (he OY s Z H _ I h) λv s1 ⟨y,H1,c,d,f⟩=>?_) b;show n9 c a hi hx d (λs2 g=>⟨_,H1,g,f⟩) hf
theorem sx(i:Nat){x:Str}{e:Expr}{te:TE}{pos':Pos}(a:X.N.Nodup)(he:PE X e te)(hi:X.N[i]?=some x:=by rfl)(hx:Loc X.env.scope x:=by first|exact .inl rfl|exact .inr rfl)(b:swapsWith e (some (.Name x pos')) pos.line X.env=pure false:=by rfl)(hf:X.fn x=true\/X.env.scope.names.lookup x=some .local:=by first|exact .inl rfl|exact .inr rfl|assumption):PS X (.Assign [.Name x pos'] e pos) (mm te (cI i)):=tO a hi hx he b hf
end
section
variable {pos:Pos}
def tWhN(tb:TS)(D:Ends)(W:Nat->St->Hp->Prop)(m:Nat)(Z:St)(H1:Hp)(N:St->Hp->Prop):Prop:=(∀Z' H',N Z' H'->∃a,a<m/\W a Z' H')/\tb {D with nx:=N,ct:=N,bk:=D.nx} Z H1
def tWhK(tb:TS)(D:Ends)(W:Nat->St->Hp->Prop)(m:Nat)(Z:St):Bool->Hp->Prop:=λb H1=>if b=true then Exists (tWhN tb D W m Z H1) else D.nx Z H1
def tWhB(c:TT)(tb:TS)(D:Ends)(Z:St)(H:Hp)(W:Nat->St->Hp->Prop):Prop:=(∃m,W m Z H)/\∀m Z H,W m Z H->c Z H (tWhK tb D W m Z)
def tF(c:TT)(tb:TS):TS:=λD Z H=>Exists (tWhB c tb D Z H)
theorem lE{c:Expr}{body:List Stmt}{tc:TT}{tb:TS}(p:PassesOwn ⇑X X.A X.env X.xe)(u:PT X c tc)(x:PSs X body tb):PS X (.While c body [] pos) (tF tc tb):=by
 intro OY s Z H D I h;obtain⟨W,⟨y,z⟩,turn⟩:=h;show wpAny_While (codeAny_whileLoop (λn s'=>∃Z' H',Inv X OY Z' H' s'/\W n Z' H') ?_ y ⟨Z,H,I,z⟩);rintro n s1 ⟨e,H1,B,C⟩;show kQ p (thn (u OY s1 e H1 _ B (turn n e H1 C)) λb s2 ⟨H2,q,g⟩=>?_);cases b with
 |true=>
  obtain⟨N,r,g⟩:=g;rw[OU rfl];show kQ p (thn (x OY s2 e H2 _ q g) λf E i=>?_);cases f with
  |next=>
   obtain⟨a,d,j,l⟩:=i;obtain⟨m,hm,o⟩:=r a d l;show⟨m,hm,a,d,j,o⟩
  |cont=>
   obtain⟨a,d,j,l⟩:=i;obtain⟨m,hm,o⟩:=r a d l;show⟨m,hm,a,d,j,o⟩
  |brk=>show i
  |ret v=>show i
 |false=>
  rw[OT bB];show m_ ⟨e,H2,q,g⟩
end
structure It where
 go:Nat->Hp->Prop
 yld:Nat->Hp->V->Hp->Prop
 stop:Nat->Hp->Prop
def bH(X:Cx)(OY:List (Addr×Obj))(H:Hp)(b:Addr):Prop:=
 H b=none/\b≠X.env.locals/\b∉X.fs/\(b∈X.ex\/X.s₀.heap.objs.size<=b)/\(∀x c,X.env.cells.lookup x=some c->c≠b)/\∀p∈X.pn++OY,p.1≠b
theorem Inv.fpOk{b:Addr}(I:Inv X OY Z H s)(a:↥s<=b)(d:H' b=none):bH X OY H' b:=by
 show⟨d,jr (b_ I.lt a),I.nofs a,.inr (dn I.sz a),λx c e z=>?_,λp f z=>?_⟩
 .obtain⟨v,q⟩:=I.cell x c e;show absurd (b_ q.lt (by rw[z];show a)) (c7 _)
 show absurd (b_ (aF (I.pin p f).1) (by rw[z];show a)) (c7 _)
structure Turn(P:Program)(w:World)(K:W.Frag)(tg:Expr)(J:It)(fp:List Addr)(it:Addr)(tn:Nat->Heap->Prop):Prop where
 mem:it∈fp
 obj:∀i h,tn i h->∀b∈fp,∃o,h.get? b=some o/\∀v,o.data≠.cell v
 keep:∀i h h',tn i h->(∀b∈fp,∀o,h.get? b=some o->h'.get? b=some o)->tn i h'
 item:∀(X:Cx),X.prog=P->X.w=w->X.K=K->X.calm=true->∀(i:Nat)(OY:List (Addr×Obj))(s:Shared)(Z:St)(H:Hp)(E:Value->Shared->Prop),Inv X OY Z H s->(∀b∈fp,bH X OY H b)->tn i s.heap->J.go i H->
  wpAny (model P w) X.A (pyNext (.ref it)) (λr s1=>∃u,r=some u/\
   wpAny (model P w) X.A (letOwnedTupleGo tg (.ref it) u) (λ_ s2=>∃x H',Inv X OY Z H' s2/\az x u/\J.yld i H x H'/\tn (i+1) s2.heap/\∀b∈fp,H' b=none) E s1) E s
 done:∀(X:Cx),X.prog=P->X.w=w->X.K=K->X.calm=true->∀(i:Nat)(OY:List (Addr×Obj))(s:Shared)(Z:St)(H:Hp)(E:Value->Shared->Prop),Inv X OY Z H s->(∀b∈fp,bH X OY H b)->tn i s.heap->J.stop i H->
  wpAny (model P w) X.A (pyNext (.ref it)) (λr s1=>r=none/\Inv X OY Z H s1) E s
 self:∀(A:Around)(i:Nat)(s:Shared)(Q:Value->Shared->Prop)(E:Value->Shared->Prop),tn i s.heap->Q (.ref it) s->wpAny (model P w) A (pyIter (.ref it)) Q E s
abbrev TI:=St->Hp->(It->Hp->Prop)->Prop
def PIE(X:Cx)(OY:List (Addr×Obj))(Z:St)(tg:Expr)(R:It->Hp->Prop)(c:Value)(s2:Shared):Prop:=
 ∃(it:Addr)(fp:List Addr)(a:Nat->Heap->Prop)(J:It)(H':Hp),c=.ref it/\Inv X OY Z H' s2/\Turn X.prog X.w X.K tg J fp it a/\a 0 s2.heap/\(∀b∈fp,bH X OY H' b)/\R J H'
def PI(X:Cx)(tg iter:Expr)(wi:TI):Prop:=
 ∀(OY:List (Addr×Obj))(s:Shared)(Z:St)(H:Hp)(R:It->Hp->Prop),Inv X OY Z H s->wi Z H R->
  wpAny ⇑X X.A (eval iter X.env) (λv s1=>wpAny ⇑X X.A (pyIter v) (PIE X OY Z tg R) X.xe s1) X.xe s
theorem qh{M:Model}{tg:Expr}{it:Addr}{u:Value}{o:Obj}{n:String}{vs:Array Value}{Q:Unit->Shared->Prop}(b:s.heap.get? it=some o)(c:o.cls=.type n)(hd:o.data=.fields vs)
  (d:["enumerate","zip","dict_itemiterator","dict_reverseitemiterator","odict_iterator","itertools.zip_longest","itertools.pairwise"].contains n=false) (a:Q .unit s):wpAny M A (letOwnedTupleGo tg (.ref it) u) Q E s:=by
 unfold letOwnedTupleGo;cases tg<;>first
  |show af a
  |(cases u<;>first
    |show af a
    |(show aa (wpAny_load b ?_)
      rw[c,hd];change wpAny M A (if (["enumerate","zip","dict_itemiterator","dict_reverseitemiterator","odict_iterator","itertools.zip_longest","itertools.pairwise"].contains n&&vs[0]?==some (rawInt _))=true then _ else _) Q E s;rw[OT (by intro h;rw[d,Bool.false_and] at h;cases h)];show af a))
def Itl(K:W.Frag)(a:Addr):It:=
 ⟨λi H=>∃xs x,SqL K H a xs/\xs[i]?=some x,λi H x H'=>H'=H/\∀xs,SqL K H a xs->xs[i]?=some x,λi H=>∃xs,SqL K H a xs/\xs.length<=i⟩
def Itt(K:W.Frag)(a:Addr):It:=
 ⟨λi H=>∃xs x,SqT K H a xs/\xs[i]?=some x,λi H x H'=>H'=H/\∀xs,SqT K H a xs->xs[i]?=some x,λi H=>∃xs,SqT K H a xs/\xs.length<=i⟩
def Itr(lo:Int)(n:Nat):It:=⟨λi _=>i<n,λi H x H'=>H'=H/\x=.int (lo+i),λi _=>n<=i⟩
theorem CA{tg:Expr}(a it:Addr):Turn P w K tg (Itl [] a) [it] it (λi h=>h.IsListIter it a i) where
 mem:=∅
 obj:=λi h st b f=>by
  have e:b=it:=‹f›
  subst e;obtain⟨o,e,c,d⟩:=st;show⟨o,e,λv z=>by rw[d] at z;cases z⟩
 keep:=λi h h' st k=>st.at λo e=>k it ∅ o e
 item:=by intro X j hw l C i OY s Z H E I hf st m;subst j hw l;obtain⟨xs,x,g,hx⟩:=m;obtain⟨J,n,p,hz⟩:=I.list g;obtain⟨u,L,M⟩:=n.get hx;obtain⟨q,r,N,y,A,B⟩:=hf it ∅;show wpAny_pyNext_list_item st p.isList (x:=u) ‹L› λh' D sb=>?_;have O:Inv X OY Z H {s with heap:=h'}:=I.turned (t':=s.toks) (λb o f e=>(sb.2 b f).trans e) q r y A B;obtain⟨o,e,c,d⟩:=id D;show⟨u,rfl,qh (s:={s with heap:=h'}) e c d ⋯ ⟨x,H,O,M,⟨rfl,λys Q=>by rw[I.list_inj Q g];show hx⟩,D,λb f=>(hf b f).1⟩⟩
 done:=by intro X j hw l C i OY s Z H E I hf st m;subst j hw l;obtain⟨xs,g,hx⟩:=m;obtain⟨J,n,p,hz⟩:=I.list g;obtain⟨q,r,N,y,A,B⟩:=hf it ∅;have S:=n.length;show wpAny_pyNext_list_end (I.ok.hd C) st p.isList (by simp;lia) λh' R=>⟨rfl,I.turned (t':=s.toks) (λb o f e=>R b o f e) q r y A B⟩
 self:=λ_ _ _ _ _ st h=>wpAny_pyIter_listiter st h
theorem B3{tg:Expr}(a it:Addr):Turn P w K tg (Itt [] a) [it] it (λi h=>h.IsTupleIter it a i) where
 mem:=∅
 obj:=λi h st b f=>by
  have e:b=it:=‹f›
  subst e;obtain⟨o,e,c,d⟩:=st;show⟨o,e,λv z=>by rw[d] at z;cases z⟩
 keep:=λi h h' st k=>st.at λo e=>k it ∅ o e
 item:=by intro X j hw l D i OY s Z H E I hf st m;subst j hw l;obtain⟨xs,x,g,hx⟩:=m;obtain⟨n,q,p,hz⟩:=I.tuple g;obtain⟨u,L,M⟩:=q.get hx;obtain⟨r,y,N,A,B,C⟩:=hf it ∅;show wpAny_pyNext_tuple_item st (show s.heap.IsTuple a n.toArray from p) (x:=u) ‹L› λh' J sb=>?_;have O:Inv X OY Z H {s with heap:=h'}:=I.turned (t':=s.toks) (λb o f e=>(sb.2 b f).trans e) r y A B C;obtain⟨o,e,c,d⟩:=id J;show⟨u,rfl,qh (s:={s with heap:=h'}) e c d ⋯ ⟨x,H,O,M,⟨rfl,λys Q=>by rw[I.tuple_inj Q g];show hx⟩,J,λb f=>(hf b f).1⟩⟩
 done:=by intro X j hw l D i OY s Z H E I hf st m;subst j hw l;obtain⟨xs,g,hx⟩:=m;obtain⟨n,q,p,hz⟩:=I.tuple g;obtain⟨r,y,N,A,B,C⟩:=hf it ∅;have S:=q.length;show wpAny_pyNext_tuple_end (I.ok.hd D) st (show s.heap.IsTuple a n.toArray from p) (by simp;lia) λh' R=>⟨rfl,I.turned (t':=s.toks) (λb o f e=>R b o f e) r y A B C⟩
 self:=λ_ _ _ _ _ st h=>wpAny_pyIter_tupleiter st h
theorem B4{tg:Expr}(it:Addr)(lo:Int)(n:Nat):Turn P w K tg (Itr lo n) [it] it (λi h=>IsRangeIter h it (lo+(i:Nat)*1) ((n:Int)-(i:Nat)) 1) where
 mem:=∅
 obj:=λi h st b a=>by
  have e:b=it:=‹a›
  subst e;show⟨_,st,λv z=>by
   have u:Data.fields _=Data.cell v:=z;cases u⟩
 keep:=λi h h' st k=>k it ∅ _ st
 item:=by intro X c hw d f i OY s Z H E I hf st g;subst c hw d;obtain⟨j,l,x,m,p,q⟩:=hf it ∅;have W:=Walks.range (prog:=X.prog) (w:=X.w) (I.ok.hd f) it lo 1 n;show W.item i s _ _ g st λv h' tk y r kk=>?_;obtain⟨t,rfl⟩:=y;have A:Inv X OY Z H {s with heap:=h',toks:=tk}:=I.turned (λb o a e=>kk b o ‹a› e) j l m p q;show⟨_,rfl,qh (s:={s with heap:=h',toks:=tk}) (n:="range_iterator") r rfl rfl ⋯ ⟨.int (lo+i),H,A,⟨t,?_⟩,⟨rfl,rfl⟩,r,λb a=>(hf b a).1⟩⟩;rw[Int.mul_one]
 done:=by intro X c hw d f i OY s Z H E I hf st g;subst c hw d;obtain⟨j,l,x,m,p,q⟩:=hf it ∅;show wpAny_pyNext_range_end (I.ok.hd f) st (by have:n<=i:=g;lia) λh' B=>⟨rfl,I.turned (t':=s.toks) (λb o a e=>B b o a e) j l m p q⟩
 self:=λ_ _ _ _ _ st h=>wpAny_pyIter_rangeiter st h
end L2
namespace L2
open PySem PySem.Spec PyProof.Rows
section
variable {tg:Expr}
def Jz(K:W.Frag)(R:It->Hp->Prop)(x:V)(H1:Hp)(a:Addr):Prop:=x=.ref a/\(∃xs,SqL K H1 a xs)/\R (Itl K a) H1
def Jy(K:W.Frag)(R:It->Hp->Prop):VK:=λx H1=>Exists (Jz K R x H1)
def La(K:W.Frag)(tl:TE):TI:=λZ H R=>tl Z H (Jy K R)
def K9(K:W.Frag)(R:It->Hp->Prop)(x:V)(H1:Hp)(a:Addr):Prop:=x=.ref a/\(∃xs,SqT K H1 a xs)/\R (Itt K a) H1
def K8(K:W.Frag)(R:It->Hp->Prop):VK:=λx H1=>Exists (K9 K R x H1)
def qv(K:W.Frag)(tl:TE):TI:=λZ H R=>tl Z H (K8 K R)
theorem bW{l:Expr}{tl:TE}(d:PE X l tl):PI X tg l (La [] tl):=by
 intro OY s Z H R I h;show thn (d OY s Z H _ I h) λv s1 ⟨x,H1,c,f,g⟩=>?_;obtain⟨a,e,⟨xs,i⟩,q⟩:=g;subst e;cases f;obtain⟨m,n,p,hz⟩:=c.list i;show Bl p.isList ?_;show⟨↥s1,[↥s1],_,_,H1,rfl,c.kept (t':=s1.toks) λb o e=>aE _ e,CA a _,⟨_,br _ rfl,rfl,rfl⟩,λb j=>?_,q⟩;have e:b=↥s1:=‹j›
 subst e;show c.fpOk (aq _) (c.hok.fresh (aq _))
theorem lZ{l:Expr}{tl:TE}(d:PE X l tl):PI X tg l (qv [] tl):=by
 intro OY s Z H R I h;show thn (d OY s Z H _ I h) λv s1 ⟨x,H1,c,f,g⟩=>?_;obtain⟨a,e,⟨xs,i⟩,q⟩:=g;subst e;cases f;obtain⟨j,n,p,hz⟩:=c.tuple i;show NM (show s1.heap.IsTuple a j.toArray from p) ?_;show⟨↥s1,[↥s1],_,_,H1,rfl,c.kept (t':=s1.toks) λb o e=>aE _ e,B3 a _,⟨_,br _ rfl,rfl,rfl⟩,λb m=>?_,q⟩;have e:b=↥s1:=‹m›
 subst e;show c.fpOk (aq _) (c.hok.fresh (aq _))
theorem Eg{R:It->Hp->Prop}{lo hi:Int}{t u v:Tok}{tk:Nat}(I:Inv X OY Z H s)(h1:-(2 ^ 62)<=lo)(h2:lo<2 ^ 62)(c:-(2 ^ 62)<=hi)(d:hi<2 ^ 62)
  (q:R (Itr lo (hi-lo).toNat) H):wpAny ⇑X X.A (pyIter (.ref ↥s)) (PIE X OY Z tg R) E {s with heap:=s.heap.push {cls:=.type "range",data:=.fields #[.int lo t,.int hi u,.int 1 v]},toks:=tk}:=by
 show wpAny_pyIter_range (IsRange.new ..) (small_one h1 h2 c d) ?_;have a:Inv X OY Z H {s with heap:=s.heap.push {cls:=.type "range",data:=.fields #[.int lo t,.int hi u,.int 1 v]},toks:=tk}:=I.kept λb o e=>aE _ e;show⟨(s.heap.push {cls:=.type "range",data:=.fields #[.int lo t,.int hi u,.int 1 v]}).objs.size,[(s.heap.push {cls:=.type "range",data:=.fields #[.int lo t,.int hi u,.int 1 v]}).objs.size],_,_,H,rfl,
  a.kept (t':=tk) λb o e=>aE _ e,B4 _ lo (hi-lo).toNat,?_,λb f=>?_,q⟩
 .have g:lo+((0:Nat):Int)*1=lo:=∅;have h:(((hi-lo).toNat:Nat):Int)-((0:Nat):Int)=Builtin.Range.rangeSize lo hi 1:=by rw[rangeSize_one];split<;>lia
  change IsRangeIter _ _ (lo+((0:Nat):Int)*1) ((((hi-lo).toNat:Nat):Int)-((0:Nat):Int)) 1;rw[g,h];show br _ rfl
 have e:b=(s.heap.push {cls:=.type "range",data:=.fields #[.int lo t,.int hi u,.int 1 v]}).objs.size:=‹f›
 subst e;show a.fpOk (aq _) (a.hok.fresh (aq _))
def Jx(R:It->Hp->Prop)(vs:List V)(H1:Hp)(j:Int):Prop:=vs=[.int j]/\-(2 ^ 62)<=j/\j<2 ^ 62/\R (Itr 0 j.toNat) H1
def Jw(R:It->Hp->Prop):List V->Hp->Prop:=λvs H1=>Exists (Jx R vs H1)
def K_(ta:TA):TI:=λZ H R=>ta Z H (Jw R)
theorem lr{a:Expr}{ta:TA}{p pos:Pos}(c:Gl X "range")(hm:X.mg "range" = none)(ha:PA X [a] ta)(d:starEach [a] X.env=[(false,eval a X.env)]:=by rfl):PI X tg (.Call (.Name "range" p) [a] [] pos) (K_ ta):=by
 intro OY s Z H R I h;show Call_ (je I c hm boot_range (qT (thn (ha pos OY s Z H _ I h) λus s1 ⟨vs,H1,f,g,b⟩=>?_) d rfl));obtain⟨j,e,b,i,q⟩:=b;subst e;cases g with
 |cons r l=>
  cases l;obtain⟨t,rfl⟩:=r;show call_range_1 (Eg f () () b i ‹q›)
def Ka(J:It)(g:TG)(tb:TS)(D:Ends)(W:Nat->Nat->St->Hp->Prop)(i m:Nat)(Z:St)(H:Hp)(N:St->Hp->Prop):Prop:=(∀Z' H',N Z' H'->∃a,a<m/\W (i+1) a Z' H')/\∀x H',J.yld i H x H'->g x Z H' (tb {D with nx:=N,ct:=N,bk:=D.nx})
def Kc(g:TG)(tb:TS)(D:Ends)(Z:St)(J:It)(H1:Hp)(W:Nat->Nat->St->Hp->Prop):Prop:=(∃m,W 0 m Z H1)/\∀i m Z H,W i m Z H->(J.stop i H/\D.nx Z H)\/(J.go i H/\Exists (Ka J g tb D W i m Z H))
def Kb(g:TG)(tb:TS)(D:Ends)(Z:St):It->Hp->Prop:=λJ H1=>Exists (Kc g tb D Z J H1)
def tFor(wi:TI)(g:TG)(tb:TS):TS:=λD Z H=>wi Z H (Kb g tb D Z)
def jZ(fp:List Addr)(h:Heap):List (Addr×Obj):=fp.filterMap λb=>(h.get? b).map λo=>(b,o)
theorem jC{fp:List Addr}{h:Heap}{b:Addr}{o:Obj}(a:b∈fp)(e:h.get? b=some o):(b,o)∈jZ fp h:=uM.mpr ⟨b,a,by rw[e];rfl⟩
theorem C_{fp:List Addr}{h:Heap}{p:Addr×Obj}(a:p∈jZ fp h):p.1∈fp/\h.get? p.1=some p.2:=by
 obtain⟨b,c,e⟩:=uM.mp a;cases q:h.get? b with
 |none=>rw[q] at e;cases e
 |some o=>
  rw[q] at e;have d:(b,o)=p:=dz e;subst d;show⟨c,q⟩
theorem Inv.pinned{fp:List Addr}(I:Inv X OY Z H s)(hf:∀b∈fp,bH X OY H b)(f:∀b∈fp,∃o,s.heap.get? b=some o/\∀v,o.data≠.cell v):Inv X (OY++jZ fp s.heap) Z H s:=
 I.pins_of λp g=>(a_.mp g).elim (λz=>I.pin p (eY _ z)) λz=>by
  obtain⟨a,e⟩:=C_ z;obtain⟨h,i,j,_⟩:=hf p.1 a;obtain⟨o,c,d⟩:=f p.1 a;rw[e] at c;cases c;show⟨e,h,i,j,d⟩
theorem Inv.unpinned{OY pl:List (Addr×Obj)}(I:Inv X (OY++pl) Z H s):Inv X OY Z H s:=I.pins_of λp a=>I.pin p (eY _ (dD _ a))
theorem cR{iter:Expr}{body:List Stmt}{wi:TI}{g:TG}{tb:TS}{pos:Pos}(q:PassesOwn ⇑X X.A X.env X.xe)(M:X.calm=true)(hi:PI X tg iter wi)(hg:PG X tg g)(a:PSs X body tb)
  (hs:∀x,foldedSetIterable iter X.env x=pure x:=by intro _;rfl):PS X (.For tg iter body [] pos) (tFor wi g tb):=by
 intro OY s Z H D I h;show wpAny_For (thn (hi OY s Z H _ I h) λv s1 h1=>thn h1 λal s2 h2=>?_) hs;obtain⟨it,fp,O,J,H2,e,I2,T,ab,P,W,⟨m0,w0⟩,turn⟩:=h2;subst e;have C:∀{H':Hp},(∀b∈fp,H' b=none)->∀b∈fp,bH X OY H' b:=λhn b a=>⟨hn b a,(P b a).2⟩;show codeAny_forLoop_any (λn s'=>∃i Z' H',Inv X OY Z' H' s'/\O i s'.heap/\(∀b∈fp,H' b=none)/\W i n Z' H') ?_ m0 ⟨0,Z,H2,I2,ab,λb a=>(P b a).1,w0⟩;rintro n Q ⟨i,y,B,R,S,U,w3⟩;rcases turn i n y B w3 with ⟨stop,qn⟩|⟨go,N,hN,step⟩
 .refine kQ q (thn (T.done X rfl rfl rfl M i OY Q y B X.xe R (C U) S stop) λr s4 ⟨E,I4⟩=>?_);subst E;show m_ ⟨y,B,I4,qn⟩
 show kQ q (thn (T.item X rfl rfl rfl M i OY Q y B X.xe R (C U) S go) λr s4 ⟨u,E,h4⟩=>?_);subst E;show kQ q (thn h4 λ_ Y ⟨x,H5,I5,r5,y5,K,ad⟩=>?_);have ag:=I5.pinned (C ad) (T.obj _ _ K);show kQ q (thn (hg _ Y y H5 x u _ ag r5 (step x H5 y5)) λ_ s6 ⟨Z6,H6,I6,q6⟩=>?_);show kQ q (thn (a _ s6 Z6 H6 _ I6 q6) λf L p=>?_);have again:∀{c:St}{j:Hp},Inv X (OY++jZ fp Y.heap) c j L->N c j->∃m,m<n/\∃i Z' H',Inv X OY Z' H' L/\O i L.heap/\(∀b∈fp,H' b=none)/\W i m Z' H':=λ{c j} l z=>by
  obtain⟨m',hm,w7⟩:=hN c j z;show⟨m',hm,i+1,c,j,l.unpinned,T.keep _ _ _ K λb a o e=>(l.pin (b,o) (eY _ (eY _ (jC a e)))).1,λb a=>?_,w7⟩;obtain⟨o,e,d⟩:=T.obj _ _ K b a;show (l.pin (b,o) (eY _ (eY _ (jC a e)))).2.1
 cases f with
 |next=>obtain⟨c,j,l,z⟩:=p;show again l z
 |cont=>obtain⟨c,j,l,z⟩:=p;show again l z
 |brk=>obtain⟨c,j,l,p⟩:=p;show⟨c,j,l.unpinned,p⟩
 |ret v=>obtain⟨x7,c,j,l,r7,p⟩:=p;show⟨x7,c,j,l.unpinned,r7,p⟩
end
theorem eL{a:Addr}{g:TG}{tb:TS}{D:Ends}(Pv:Nat->St->Hp->Prop)(d:Pv 0 Z H)(f:∀i Z H,i<=xs.length->Pv i Z H->SqL K H a xs)
  (h:∀i x Z H,xs[i]?=some x->Pv i Z H->g x Z H λσ2 H2=>tb {D with nx:=Pv (i+1),ct:=Pv (i+1),bk:=D.nx} σ2 H2) (hd:∀Z H,Pv xs.length Z H->D.nx Z H) :
  ∃W:Nat->Nat->St->Hp->Prop,(∃m,W 0 m Z H)/\∀i m Z H,W i m Z H->
   ((Itl K a).stop i H/\D.nx Z H)\/((Itl K a).go i H/\∃N:St->Hp->Prop,(∀Z' H',N Z' H'->∃b,b<m/\W (i+1) b Z' H')/\∀x H',(Itl K a).yld i H x H'->g x Z H' λσ2 H2=>tb {D with nx:=N,ct:=N,bk:=D.nx} σ2 H2):=by
 show⟨λi m Z H=>m=xs.length-i/\i<=xs.length/\Pv i Z H,⟨xs.length,∅,bE _,d⟩,?_⟩;rintro i m Z H ⟨rfl,hi,p⟩;have q:=f i Z H hi p;by_cases c:i<xs.length
 .refine .inr ⟨⟨xs,xs[i],q,by simp[c]⟩,Pv (i+1),λZ' H' j=>⟨xs.length-(i+1),(),rfl,c,j⟩,λx H' y=>?_⟩;obtain⟨e,y⟩:=y;subst e;show h i x Z _ (y xs q) p
 have e:i=xs.length:=();subst e;show .inl ⟨⟨xs,q,aq _⟩,hd Z H p⟩
theorem Hy{a:Addr}{g:TG}{tb:TS}{D:Ends}(Pv:Nat->St->Hp->Prop)(d:Pv 0 Z H)(f:∀i Z H,i<=xs.length->Pv i Z H->SqT K H a xs)
  (h:∀i x Z H,xs[i]?=some x->Pv i Z H->g x Z H λσ2 H2=>tb {D with nx:=Pv (i+1),ct:=Pv (i+1),bk:=D.nx} σ2 H2) (hd:∀Z H,Pv xs.length Z H->D.nx Z H) :
  ∃W:Nat->Nat->St->Hp->Prop,(∃m,W 0 m Z H)/\∀i m Z H,W i m Z H->
   ((Itt K a).stop i H/\D.nx Z H)\/((Itt K a).go i H/\∃N:St->Hp->Prop,(∀Z' H',N Z' H'->∃b,b<m/\W (i+1) b Z' H')/\∀x H',(Itt K a).yld i H x H'->g x Z H' λσ2 H2=>tb {D with nx:=N,ct:=N,bk:=D.nx} σ2 H2):=by
 show⟨λi m Z H=>m=xs.length-i/\i<=xs.length/\Pv i Z H,⟨xs.length,∅,bE _,d⟩,?_⟩;rintro i m Z H ⟨rfl,hi,p⟩;have q:=f i Z H hi p;by_cases c:i<xs.length
 .refine .inr ⟨⟨xs,xs[i],q,by simp[c]⟩,Pv (i+1),λZ' H' j=>⟨xs.length-(i+1),(),rfl,c,j⟩,λx H' y=>?_⟩;obtain⟨e,y⟩:=y;subst e;show h i x Z _ (y xs q) p
 have e:i=xs.length:=();subst e;show .inl ⟨⟨xs,q,aq _⟩,hd Z H p⟩
theorem lA{lo:Int}{n:Nat}{g:TG}{tb:TS}{D:Ends}(Pv:Nat->St->Hp->Prop)(c:Pv 0 Z H)
  (d:∀i Z H,i<n->Pv i Z H->g (.int (lo+i)) Z H λσ2 H2=>tb {D with nx:=Pv (i+1),ct:=Pv (i+1),bk:=D.nx} σ2 H2) (hd:∀Z H,Pv n Z H->D.nx Z H) :
  ∃W:Nat->Nat->St->Hp->Prop,(∃m,W 0 m Z H)/\∀i m Z H,W i m Z H->
   ((Itr lo n).stop i H/\D.nx Z H)\/((Itr lo n).go i H/\∃N:St->Hp->Prop,(∀Z' H',N Z' H'->∃b,b<m/\W (i+1) b Z' H')/\∀x H',(Itr lo n).yld i H x H'->g x Z H' λσ2 H2=>tb {D with nx:=N,ct:=N,bk:=D.nx} σ2 H2):=by
 show⟨λi m Z H=>m=n-i/\i<=n/\Pv i Z H,⟨n,∅,bE _,c⟩,?_⟩;rintro i m Z H ⟨rfl,hi,p⟩;by_cases a:i<n
 .refine .inr ⟨a,Pv (i+1),λZ' H' f=>⟨n-(i+1),(),rfl,a,f⟩,λx H' y=>?_⟩;obtain⟨e,y⟩:=y;subst e y;show d i Z _ a p
 have e:i=n:=();subst e;show .inl ⟨aq _,hd Z H p⟩
end L2
namespace L2
open PySem PySem.Spec PyProof.Rows
abbrev R2:=V->V->Hp->VK->Prop
def OpR(X:Cx)(f:Value->Value->Sem Value)(r:R2):Prop:=
 ∀(OY:List (Addr×Obj))(s:Shared)(Z:St)(H:Hp)(x y:V)(v u:Value)(Q:VK),Inv X OY Z H s->az x v->az y u->r x y H Q->
  wpAny ⇑X X.A (f v u) (EP X OY Z Q) X.xe s
def UnR(X:Cx)(f:Value->Sem Value)(r:V->Hp->VK->Prop):Prop:=
 ∀(OY:List (Addr×Obj))(s:Shared)(Z:St)(H:Hp)(x:V)(v:Value)(Q:VK),Inv X OY Z H s->az x v->r x H Q->
  wpAny ⇑X X.A (f v) (EP X OY Z Q) X.xe s
def cV(X:Cx)(f:Value)(r:List V->Hp->VK->Prop):Prop:=
 ∀(OY:List (Addr×Obj))(s:Shared)(Z:St)(H:Hp)(xs:List V)(us:List Value)(Q:VK),Inv X OY Z H s->Vals xs us->r xs H Q->
  wpAny ⇑X X.A (call f us) (EP X OY Z Q) X.xe s
def TruR(X:Cx)(r:V->Hp->(Bool->Hp->Prop)->Prop):Prop:=
 ∀(OY:List (Addr×Obj))(s:Shared)(Z:St)(H:Hp)(x:V)(v:Value)(Q:Bool->Hp->Prop),Inv X OY Z H s->az x v->r x H Q->
  wpAny ⇑X X.A (truthy v) (TP X OY Z Q) X.xe s
def tOp2(r:R2)(x:V)(Q:VK):VK:=λy H2=>r x y H2 Q
def tOp1(r:R2)(tb:TE)(Z:St)(Q:VK):VK:=λx H1=>tb Z H1 (tOp2 r x Q)
def tOp(r:R2)(ta tb:TE):TE:=λZ H Q=>ta Z H (tOp1 r tb Z Q)
def tUnK(r:V->Hp->VK->Prop)(Q:VK):VK:=λx H1=>r x H1 Q
def tUn(r:V->Hp->VK->Prop)(ta:TE):TE:=λZ H Q=>ta Z H (tUnK r Q)
def rIB(C:Int->Int->Prop)(g:Int->Int->V)(x y:V)(H:Hp)(Q:VK)(i j:Int):Prop:=x=.int i/\y=.int j/\C i j/\Q (g i j) H
def rI(C:Int->Int->Prop)(g:Int->Int->V):R2:=λx y H Q=>Exists (Ex2 (rIB C g x y H Q))
def rI0B(g:Int->Int->V)(x y:V)(H:Hp)(Q:VK)(i j:Int):Prop:=x=.int i/\y=.int j/\Q (g i j) H
def rI0(g:Int->Int->V):R2:=λx y H Q=>Exists (Ex2 (rI0B g x y H Q))
def rUB(g:Int->V)(x:V)(H:Hp)(Q:VK)(i:Int):Prop:=x=.int i/\Q (g i) H
def rU(g:Int->V):V->Hp->VK->Prop:=λx H Q=>Exists (rUB g x H Q)
section
variable {a b c:Expr}{ta tb tc:TE}{pos:Pos}
theorem uy(ha:PE X a ta)(c:PE X b tb){R:V->V->Hp->Prop}(I:Inv X OY Z H s)
  (h:ta Z H λx H1=>tb Z H1 λy H2=>R x y H2) {Q:Value->Shared->Prop} {f:Value->Value->Sem Value}
  (hf:∀v u s2 x y H2,Inv X OY Z H2 s2->az x v->az y u->R x y H2->wpAny ⇑X X.A (f v u) Q X.xe s2) :
  wpAny ⇑X X.A (eval a X.env) (λv s₁=>wpAny ⇑X X.A (eval b X.env) (λu s₂=>wpAny ⇑X X.A (f v u) Q X.xe s₂) X.xe s₁) X.xe s:=by
 show thn (ha OY s Z H _ I h) λv s1 ⟨x,H1,d,e,g⟩=>?_;show thn (c OY s1 Z H1 _ d g) λu s2 ⟨y,H2,i,j,l⟩=>?_;show hf v u s2 x y H2 i e j l
theorem aC{op:Operator}{r:R2}(c:OpR X (binaryOp op) r)(ha:PE X a ta)(d:PE X b tb):PE X (.BinOp a op b pos) (tOp r ta tb):=by intro OY s Z H Q I h;show wpAny_BinOp (uy ha d I h λv u s2 x y H2 e f g q=>c OY s2 Z H2 x y v u Q e f g q)
theorem jh{op:UnaryOp}{r:V->Hp->VK->Prop}(b:UnR X (unaryOp op) r)(ha:PE X a ta):PE X (.UnaryOp op a pos) (tUn r ta):=by intro OY s Z H Q I h;show UnaryOp_ (thn (ha OY s Z H _ I h) λv s1 ⟨x,H1,c,d,e⟩=>b OY s1 Z H1 x v Q c d e)
theorem opI{f:Value->Value->Sem Value}{C:Int->Int->Prop}{g:Int->Int->Int}
  (rule:∀(i j:Int)(t u:Tok)(s:Shared)(Q:Value->Shared->Prop)(E:Value->Shared->Prop),C i j->Q (.int (g i j) s.toks) {s with toks:=s.toks+1}->wpAny ⇑X X.A (f (.int i t) (.int j u)) Q E s) :
  OpR X f (rI C λi j=>.int (g i j)):=by
 intro OY s Z H x y v u Q I a b h;obtain⟨i,j,rfl,rfl,c,q⟩:=h;obtain⟨t,rfl⟩:=a;obtain⟨t',rfl⟩:=b;show rule i j t t' s _ _ c ⟨.int (g i j),H,I.tok _,⟨_,rfl⟩,q⟩
theorem opI0{f:Value->Value->Sem Value}{g:Int->Int->Int}
  (rule:∀(i j:Int)(t u:Tok)(s:Shared)(Q:Value->Shared->Prop)(E:Value->Shared->Prop),Q (.int (g i j) s.toks) {s with toks:=s.toks+1}->wpAny ⇑X X.A (f (.int i t) (.int j u)) Q E s) :
  OpR X f (rI0 λi j=>.int (g i j)):=by
 intro OY s Z H x y v u Q I a b h;obtain⟨i,j,rfl,rfl,q⟩:=h;obtain⟨t,rfl⟩:=a;obtain⟨t',rfl⟩:=b;show rule i j t t' s _ _ ⟨.int (g i j),H,I.tok _,⟨_,rfl⟩,q⟩
theorem ux{f:Value->Value->Sem Value}{g:Int->Int->Bool}
  (rule:∀(i j:Int)(t u:Tok)(s:Shared)(Q:Value->Shared->Prop)(E:Value->Shared->Prop),Q (.bool (g i j)) s->wpAny ⇑X X.A (f (.int i t) (.int j u)) Q E s) :
  OpR X f (rI0 λi j=>.bl (g i j)):=by
 intro OY s Z H x y v u Q I a b h;obtain⟨i,j,rfl,rfl,q⟩:=h;obtain⟨t,rfl⟩:=a;obtain⟨t',rfl⟩:=b;show rule i j t t' s _ _ ⟨.bl (g i j),H,I,rfl,q⟩
def CPow(i j:Int):Prop:=0<=j/\j<=1000000/\i.natAbs<2 ^ 64
def CMul(i j:Int):Prop:=(-(2 ^ 64)<i/\i<2 ^ 64)\/(-(2 ^ 64)<j/\j<2 ^ 64)
theorem CMul.ok{i j:Int}(h:CMul i j):IntMulOk i j:=by
 rcases h with ⟨h1,h2⟩|⟨h1,h2⟩
 .exact .of_left (intBits_le_64 h1 h2)
 show .of_right (intBits_le_64 h1 h2)
theorem cZ:OpR X (binaryOp .Add) (rI0 λi j=>.int (i+j)):=opI0 λ_ _ _ _ _ _ _ q=>add_int q
theorem jd:OpR X (binaryOp .Sub) (rI0 λi j=>.int (i-j)):=opI0 λ_ _ _ _ _ _ _ q=>sub_int q
theorem iG:OpR X (binaryOp .Mult) (rI CMul λi j=>.int (i*j)):=opI λ_ _ _ _ _ _ _ a q=>mul_int q a.ok
theorem eP:OpR X (binaryOp .Mod) (rI (λ_ j=>0<j) λi j=>.int (i%j)):=opI λi j _ _ _ _ _ a q=>by
 have h1:(0:Int)<j:=a;show mod_int' () (by rw[Int.fmod_eq_emod_of_nonneg i ()];show q)
theorem pK:OpR X (binaryOp .Pow) (rI CPow λi j=>.int (i ^ j.toNat)):=opI λ_ _ _ _ _ _ _ a q=>pow_int_small a.1 a.2.1 a.2.2 q
theorem unI{f:Value->Sem Value}{g:Int->Int}
  (rule:∀(i:Int)(t:Tok)(s:Shared)(Q:Value->Shared->Prop)(E:Value->Shared->Prop),Q (.int (g i) s.toks) {s with toks:=s.toks+1}->wpAny ⇑X X.A (f (.int i t)) Q E s) :
  UnR X f (rU λi=>.int (g i)):=by
 intro OY s Z H x v Q I a h;obtain⟨i,rfl,q⟩:=h;obtain⟨t,rfl⟩:=a;show rule i t s _ _ ⟨.int (g i),H,I.tok _,⟨_,rfl⟩,q⟩
theorem ja:UnR X (unaryOp .USub) (rU λi=>.int (-i)):=unI λ_ _ _ _ _ q=>neg_int q
end
def scal:V->V->Bool
 |.non,.non=>true | .non,.int _=>true | .int _,.non=>true | .non,.bl _=>true | .bl _,.non=>true | .non,.str _=>true | .str _,.non=>true
 |.int _,.int _=>true | .bl _,.bl _=>true | .str _,.str _=>true | .byt _,.byt _=>true
 |.int _,.str _=>true | .str _,.int _=>true | .bl _,.str _=>true | .str _,.bl _=>true
 |_,_=>false
def rEq:R2:=λx y H Q=>scal x y=true/\Q (.bl (decide (x=y))) H
def rNe:R2:=λx y H Q=>scal x y=true/\Q (.bl (!decide (x=y))) H
theorem yN{i j:Int}:decide (V.int i=V.int j)=(i==j):=by rw[fm];simp
theorem zF{i j:Bool}:decide (V.bl i=V.bl j)=(i==j):=by rw[fm];simp
theorem yK{i j:Str}:decide (V.str i=V.str j)=(i==j):=by rw[fm];simp
theorem yO{i j:Array UInt8}:decide (V.byt i=V.byt j)=(i.toList==j.toList):=by rw[fm];cases i;cases j;simp
section
variable {a b c:Expr}{ta tb tc:TE}{pos:Pos}
theorem bP{Q:VK}{k a:Bool}(I:Inv X OY Z H s)(q:Q (.bl k) H)(e:k=a):EP X OY Z Q (.bool a) s:=by subst e;show⟨.bl k,H,I,rfl,q⟩
theorem dM:OpR X (compareOp .Eq) rEq:=by
 intro OY s Z H x y v u Q I c a h;obtain⟨b,q⟩:=h;cases x with
 |non=>
  cases c;cases y with
  |non=>cases a;show Og (bP I q ∅)
  |bl j=>cases a;show Oe (bP I q ∅)
  |int j=>obtain⟨t',rfl⟩:=a;show Of (bP I q ∅)
  |str j=>obtain⟨t',rfl⟩:=a;show Oh (bP I q ∅)
  |_=>show absurd (show false=true from b) bB
 |bl i=>
  cases c;cases y with
  |non=>cases a;show Oc (bP I q ∅)
  |bl j=>cases a;show eq_bool (bP I q zF)
  |str j=>obtain⟨t',rfl⟩:=a;show N5 (bP I q ∅)
  |_=>show absurd (show false=true from b) bB
 |int i=>
  obtain⟨t,rfl⟩:=c;cases y with
  |non=>cases a;show Od (bP I q ∅)
  |int j=>obtain⟨t',rfl⟩:=a;show eq_int (bP I q yN)
  |str j=>obtain⟨t',rfl⟩:=a;show N6 (bP I q ∅)
  |_=>show absurd (show false=true from b) bB
 |str i=>
  obtain⟨t,rfl⟩:=c;cases y with
  |non=>cases a;show Oi (bP I q ∅)
  |bl j=>cases a;show N7 (bP I q ∅)
  |int j=>obtain⟨t',rfl⟩:=a;show N8 (bP I q ∅)
  |str j=>obtain⟨t',rfl⟩:=a;show eq_str (bP I q yK)
  |_=>show absurd (show false=true from b) bB
 |byt i=>
  obtain⟨t,rfl⟩:=c;cases y with
  |byt j=>obtain⟨t',rfl⟩:=a;show W.eq_bytes (bP I q yO)
  |_=>show absurd (show false=true from b) bB
 |_=>cases y<;>show absurd (show false=true from b) bB
theorem ke:OpR X (compareOp .NotEq) rNe:=by
 intro OY s Z H x y v u Q I c a h;obtain⟨b,q⟩:=h;cases x with
 |non=>
  cases c;cases y with
  |non=>cases a;show Oo (bP I q ∅)
  |bl j=>cases a;show Om (bP I q ∅)
  |int j=>obtain⟨t',rfl⟩:=a;show On (bP I q ∅)
  |str j=>obtain⟨t',rfl⟩:=a;show Oq (bP I q ∅)
  |_=>show absurd (show false=true from b) bB
 |bl i=>
  cases c;cases y with
  |non=>cases a;show Oj (bP I q ∅)
  |bl j=>cases a;show ne_bool (bP I q (congrArg not zF))
  |str j=>obtain⟨t',rfl⟩:=a;show N9 (bP I q ∅)
  |_=>show absurd (show false=true from b) bB
 |int i=>
  obtain⟨t,rfl⟩:=c;cases y with
  |non=>cases a;show Ol (bP I q ∅)
  |int j=>obtain⟨t',rfl⟩:=a;show ne_int (bP I q (congrArg not yN))
  |str j=>obtain⟨t',rfl⟩:=a;show N_ (bP I q ∅)
  |_=>show absurd (show false=true from b) bB
 |str i=>
  obtain⟨t,rfl⟩:=c;cases y with
  |non=>cases a;show Os (bP I q ∅)
  |bl j=>cases a;show Oa (bP I q ∅)
  |int j=>obtain⟨t',rfl⟩:=a;show Ob (bP I q ∅)
  |str j=>obtain⟨t',rfl⟩:=a;show ne_str (bP I q (congrArg not yK))
  |_=>show absurd (show false=true from b) bB
 |byt i=>
  obtain⟨t,rfl⟩:=c;cases y with
  |byt j=>obtain⟨t',rfl⟩:=a;show W.ne_bytes (bP I q (congrArg not yO))
  |_=>show absurd (show false=true from b) bB
 |_=>cases y<;>show absurd (show false=true from b) bB
theorem qg:OpR X (compareOp .Lt) (rI0 λi j=>.bl (decide (i<j))):=ux λ_ _ _ _ _ _ _ q=>lt_int q
theorem Ab:OpR X (compareOp .Gt) (rI0 λi j=>.bl (decide (j<i))):=ux λ_ _ _ _ _ _ _ q=>gt_int q
theorem KY:OpR X (compareOp .GtE) (rI0 λi j=>.bl (decide (j<=i))):=ux λ_ _ _ _ _ _ _ q=>ge_int q
theorem nomark(b:Expr){op:CmpOp}(h:op≠.In:=by decide)(h2:op≠.NotIn:=by decide):behindInMarks op b=false:=by
 have a:(op==CmpOp.In)=false:=by cases op<;>first|rfl|show absurd rfl h
 have c:(op==CmpOp.NotIn)=false:=by cases op<;>first|rfl|show absurd rfl h2
 cases b<;>simp[behindInMarks,a,c]
theorem fP{op:CmpOp}{r:R2}(c:OpR X (compareOp op) r)(ha:PE X a ta)(d:PE X b tb)(hm:behindInMarks op b=false):PE X (.Compare a [op] [b] pos) (tOp r ta tb):=by intro OY s Z H Q I h;show Nq (uy ha d I h λv u s2 x y H2 e f g q=>c OY s2 Z H2 x y v u Q e f g q) hm
def iI(t:TE):TT:=λZ H Q=>t Z H (tBK Q)
theorem a7{op:CmpOp}{r:R2}(d:OpR X (compareOp op) r)(ha:PE X a ta)(f:PE X b tb)(hm:behindInMarks op b=false):PT X (.Compare a [op] [b] pos) (iI (tOp r ta tb)):=by
 intro OY s Z H Q I h;show NC (thn (ha OY s Z H _ I h) λv s1 ⟨x,H1,g,i,j⟩=>thn (f OY s1 Z H1 _ g j) λu s2 ⟨y,H2,l,m,n⟩=>
  thn (d OY s2 Z H2 x y v u _ l i m n) λc A ⟨z,o,p,q,k,e,w⟩=>?_) hm
 subst e;cases q;show iT ⟨o,p,w⟩
def TruV(K:W.Frag)(x:V)(H:Hp)(k:Bool):Prop:=
 match x with
 |.non=>k=false
 |.bl b=>k=b
 |.int i=>k=(i != 0)
 |.str y=>y.length<=sizeLine/\k=((y.length:Int) != 0)
 |.byt y=>y.size<=sizeLine/\k=((y.size:Int) != 0)
 |.ref p=>(∃xs,SqL K H p xs/\k=!xs.isEmpty)\/(∃xs,SqT K H p xs/\k=!xs.isEmpty)\/∃kvs,H p=some (.dK kvs)/\k=!kvs.isEmpty
 |_=>False
theorem Cp{κ:Type}{kvs:List (κ×V)}{vs:List (κ×Value)}(r:KV kvs vs):(!vs.isEmpty)=!kvs.isEmpty:=by cases r<;>rfl
theorem vL{a:List Value}(r:Vals xs a):(!a.toArray.isEmpty)=!xs.isEmpty:=by cases r<;>simp
theorem line63:(sizeLine:Nat)<2 ^ 63:=by rw[cK];decide
theorem HY:TruR X (λx H Q=>∃k,TruV [] x H k/\Q k H):=by
 intro OY s Z H x v Q I c h;obtain⟨k,e,q⟩:=h;have j:=line63;have l:sizeLine=16777216:=cK;cases x with
 |non=>
  cases c;have a:k=false:=e;subst a;show truthy_none ⟨H,I,q⟩
 |bl b=>
  cases c;have a:k=b:=e;subst a;show iT ⟨H,I,q⟩
 |int i=>
  obtain⟨t,rfl⟩:=c;have a:k=(i != 0):=e;subst a;show PySem.P.truthy_int ⟨H,I,q⟩
 |str y=>
  obtain⟨t,rfl⟩:=c;obtain⟨d,a⟩:y.length<=sizeLine/\k=((y.length:Int) != 0):=e;subst a;show PySem.P.truthy_str () ⟨H,I.tok _,q⟩
 |byt y=>
  obtain⟨t,rfl⟩:=c;obtain⟨d,a⟩:y.size<=sizeLine/\k=((y.size:Int) != 0):=e;subst a;show W.truthy_bytes () ⟨H,I.tok _,q⟩
 |ref p=>
  cases c;have a:(∃xs,SqL [] H p xs/\k=!xs.isEmpty)\/(∃xs,SqT [] H p xs/\k=!xs.isEmpty)\/∃kvs,H p=some (.dK kvs)/\k=!kvs.isEmpty:=e;rcases a with ⟨xs,hx,a⟩|⟨xs,hx,a⟩|⟨kvs,hx,a⟩
  .subst a;obtain⟨f,r,pl,hz⟩:=I.list hx;have hlen:=r.length;show wpAny_truthy_list pl.isList (by simp only[bx];lia) ⟨H,I.tok _,by rw[vL r];show q⟩
  .subst a;obtain⟨f,r,pl,hz⟩:=I.tuple hx;have hlen:=r.length;show truthy_tuple pl (by simp only[bx];lia) ⟨H,I.tok _,by rw[vL r];show q⟩
  subst a;obtain⟨hz,g,vs,r,m⟩:kvs.length<=sizeLine/\(p==sysModules)=false/\∃vs,KV kvs vs/\s.heap.DictOf (cA X.prog X.w) p vs:=I.hok p _ hx;have hlen:kvs.length=vs.length:=mP r;show wpAny_truthy_dict g m () ⟨H,I.tok _,by rw[Cp r];show q⟩
 |_=>show (show False from e).elim
theorem Ek(ha:PE X a ta)(he:∀whole,isTrue a X.env whole=(do let v <-whole;standAt a.pos;holding [v] (truthy v))) :
  PT X a (λZ H Q=>ta Z H λx H'=>∃k,TruV [] x H' k/\Q k H'):=by
 intro OY s Z H Q I h;show isTrue_plain (thn (ha OY s Z H _ I h) λv s1 ⟨x,H1,I1,r1,q1⟩=>HY OY s1 Z H1 x v Q I1 r1 q1) (he _)
theorem vals1{x:V}(r:Vals [x] us):∃u,us=[u]/\az x u:=by
 cases r with
 |cons a b=>cases b;show⟨_,rfl,a⟩
theorem vals2{x y:V}(r:Vals [x,y] us):∃u a,us=[u,a]/\az x u/\az y a:=by
 cases r with
 |cons b c=>
  cases c with
  |cons d e=>cases e;show⟨_,_,rfl,b,d⟩
theorem Dx(b:X.calm=true):cV X (.builtin "min") (λxs H Q=>∃i j,xs=[.int i,.int j]/\Q (.int (if j<i then j else i)) H):=by
 intro OY s Z H xs us Q I r h;obtain⟨i,j,rfl,q⟩:=h;obtain⟨u,c,rfl,⟨t,rfl⟩,⟨t',rfl⟩⟩:=vals2 r;show min_two_ints (I.ok.hd b) λh' tk k=>⟨_,H,I.kept k,?_,q⟩;by_cases a:j<i
 .rw[OU a,OU a];show⟨_,rfl⟩
 rw[OT a,OT a];show⟨_,rfl⟩
theorem gv:cV X (.type "int") (λxs H Q=>(∃i,xs=[.int i]/\Q (.int i) H)\/∃k,xs=[.bl k]/\Q (.int (if k then 1 else 0)) H):=by
 intro OY s Z H xs us Q I r h;rcases h with ⟨i,rfl,q⟩|⟨k,rfl,q⟩
 .obtain⟨u,rfl,t,rfl⟩:=vals1 r;show call_int_int ⟨.int i,H,I,⟨_,rfl⟩,q⟩
 obtain⟨u,rfl,a⟩:=vals1 r;cases a;show call_int_bool ⟨.int (if k then 1 else 0),H,I.tok _,⟨_,rfl⟩,q⟩
end
end L2
namespace L2
open PySem PySem.Spec PyProof.Rows
structure jk(h:Heap)(x dx C:Addr)(mA:Str->Option Value):Prop where
 obj:h.get? x=some (W.instObj C dx)
 ns:h.Ns1 dx mA
 ne:dx≠x
theorem wc{h:Heap}{dx:Addr}{mA:Str->Option Value}(n:h.Ns1 dx mA):∃od,h.get? dx=some od/\∀name,W.lookIn name od=some (mA name):=by
 obtain⟨o,es,ep,b,hd,c,_,hm⟩:=n;show⟨o,b,λname=>?_⟩;have e:=hm name;unfold nsFind findBy at e;rw[<-Array.find?_toList] at e;unfold W.lookIn;rw[hd];dsimp only
 split
 .rename_i y q;rw[q] at e;show congrArg some e
 rename_i q;rw[q] at e;have a:es.toList.any (·.refKey)=false:=by rw[LK];intro y d;obtain⟨z,t,f⟩:=c y (Array.mem_toList_iff.mp d);simp[DictEntry.refKey,f]
 have g:¬es.toList.any (·.refKey)=true:=by rw[a];show bB
 rw[OT g];show congrArg some e
theorem jk.look{h:Heap}{x dx C:Addr}{mA:Str->Option Value}(I:jk h x dx C mA):∃od,W.InstAt h x (W.instObj C dx) C (some od)/\∀name,W.lookIn name od=some (mA name):=
 let ⟨od,a,b⟩:=wc I.ns
 ⟨od,⟨I.obj,rfl,rfl,a⟩,b⟩
section
variable {prog:Program}{x dx C f:Addr}{mA:Str->Option Value}{name:Str}{v:Value}
theorem Hw{expr:Bool}{Q:Value->Shared->Prop}(X:K.In s.heap)(I:jk s.heap x dx C mA)(a:W.plainGet K C name=true)(b:W.hasDictIn K C=true)
  (ha:W.findIn K (.ref C) name=some none) (c:mA name=some v) (d:W.handedIn v=true) (h:Q v {s with toks:=s.toks+1}) :
  wpAny (model prog w) A (getAttr (.ref x) name expr) Q E s:=by
 obtain⟨od,J,e⟩:=I.look;show W.get_value X J (AZ a).1 (W.findObj_own b ha rfl (by rw[e,c])) d h
theorem E_{pl:Sem Bool}{Q:Value×List Value->Shared->Prop}(X:K.In s.heap)(I:jk s.heap x dx C mA)(a:W.plainGet K C name=true)
  (hf:W.findIn K (.ref C) name=some (some (.ref f))) (b:W.isFn K (.ref f)=true) (c:mA name=none) (h:Q (.ref f,[.ref x]) s) :
  wpAny (model prog w) A (getMethod (.ref x) name pl) Q E s:=by
 obtain⟨od,J,d⟩:=I.look;show W.method_fn X J (AZ a).1 (AZ a).2 hf (beq_iff_eq.mp b) (by change (W.lookIn name od).map (·.isSome)=some false;rw[d,c];rfl) h
theorem FX{ns:List Str}{Q:Unit->Shared->Prop}(X:K.In s.heap)(I:jk s.heap x dx C mA)
  (e:W.findIn K (.ref C) "__setattr__" = some (some (.builtin "object.__setattr__"))) (f:W.plainOver K C=true) (g:W.takerIn K C name=some none) (i:W.hasDictIn K C=true)
  (hw:PySem.Within mA ns) (hsz:ns.length<=sizeLine)
  (h:∀h',jk h' x dx C (λy=>if y=name then some v else mA y)->Heap.SameBut dx s.heap h'->Q .unit {s with heap:=h',toks:=s.toks+2}) :
  wpAny (model prog w) A (setAttr (.ref x) name v) Q E s:=by
 obtain⟨od,J,p⟩:=I.look;show MY X J e (W.osa_open (s:={s with toks:=s.toks+1}) (r:=none) X J f g λb=>?_);obtain⟨cd,j,l⟩:=AU i;have hx:s.heap.get? x=some ⟨.ref C,some dx,.plain,#[]⟩:=I.obj;show aa (af (aa (aa (u4 hx (aa (OC (s:={s with toks:=s.toks+1}) (AX X j) ?_))))));rw[l];show af (a:=some dx) (aa (af (aa ?_)));show wpAny_nsSet1 (s:={s with toks:=s.toks+1}) I.ns λh' c d=>?_;obtain⟨q,u,z,m,n,o⟩:=c.count (OD name v hw);show aa (ND m (by rw[n];show Nf (dn o (by rw[cE];lia))) ?_);show af (h _ ⟨(d.2 _ (ax I.ne)).trans I.obj,c,I.ne⟩ d)
theorem EW{R:Result->Shared->Prop}{vs:List Value}{kw:List (Str×Value)}(X:K.In s.heap)(hm:W.makesIn K C=true)
  (hi:W.findIn K (.ref C) "__init__" = some (some (.ref f))) (hf:W.typeIn K (.ref f)=some (.type "function"))
  (h:codeAny (model prog w) (A.under (.builtin "type.__call__" ⟨.ref C::vs,kw⟩)) (.call (.ref f) ⟨.ref (↥s+1)::vs,kw⟩) (W.InitBack (↥s+1) R)
   {s with heap:=(s.heap.push W.emptyDict).push (W.instObj C ↥s)}) :
  codeAny (model prog w) A (.call (.ref C) ⟨vs,kw⟩) R s:=by
 obtain⟨a,g,d,t,os⟩:=s;show W.make_core (W.makes_of X hm) (AY X hi) (λself=>MR X self hf) (.inl rfl) h
end
def dN(f:Str)(v:V):List (Str×V)->List (Str×V)
 | []=>[(f,v)]
 |(g,x)::r=>if g=f then (g,v)::r else (g,x)::dN f v r
theorem vA(f g:Str)(v:V):∀fs:List (Str×V),(dN f v fs).lookup g=if g=f then some v else fs.lookup g
 | []=>by
  change List.lookup g [(f,v)]=_;by_cases h:g=f
  .have a:(g==f)=true:=beq_iff_eq.mpr h;simp only[List.lookup,a,OU h]
  have a:(g==f)=false:=beq_eq_false_iff_ne.mpr h;simp only[List.lookup,a,OT h]
 |(k,x)::r=>by
  have c:=vA f g v r;rw[show dN f v ((k,x)::r)=(if k=f then (k,v)::r else (k,x)::dN f v r) from rfl];by_cases b:k=f
  .rw[OU b];by_cases h:g=k
   .have a:(g==k)=true:=beq_iff_eq.mpr h;simp only[List.lookup,a,OU (h.trans b)]
   have a:(g==k)=false:=beq_eq_false_iff_ne.mpr h;simp only[List.lookup,a,OT (λe:g=f=>h (e.trans b.symm))]
  rw[OT b];by_cases h:g=k
  .have a:(g==k)=true:=beq_iff_eq.mpr h;simp only[List.lookup,a,OT (λe:g=f=>b (h.symm.trans e))]
  have a:(g==k)=false:=beq_eq_false_iff_ne.mpr h;simp only[List.lookup,a];show c
theorem rG(f:Str)(v:V):∀fs:List (Str×V),f∈(dN f v fs).map (·.1)/\∀g,g∈fs.map (·.1)->g∈(dN f v fs).map (·.1)
 | []=>⟨by simp[dN],λg h=>by simp at h⟩
 |(k,x)::r=>by
  obtain⟨i1,i2⟩:=rG f v r;rw[show dN f v ((k,x)::r)=(if k=f then (k,v)::r else (k,x)::dN f v r) from rfl];by_cases a:k=f
  .rw[OU a];subst a;show⟨∅,λg h=>‹h›⟩
  rw[OT a];show⟨?_,λg h=>?_⟩
  .rw[aY];show bJ _ i1
  rw[aY] at h |-;rcases aG.mp h with e|e
  .exact aG.mpr (.inl e)
  show bJ _ (i2 g e)
theorem vB(f:Str)(v:V):∀fs:List (Str×V),(dN f v fs).length<=fs.length+1
 | []=>by simp[dN]
 |(k,x)::r=>by
  have b:=vB f v r;rw[show dN f v ((k,x)::r)=(if k=f then (k,v)::r else (k,x)::dN f v r) from rfl];by_cases a:k=f
  .rw[OU a,cE,cE];lia
  rw[OT a,cE,cE];lia
theorem c6.some_of{v:V}{o:Option Value}(r:c6 (some v) o):∃u,o=some u/\az v u:=by
 cases o with
 |none=>show (show False from r).elim
 |some u=>show⟨u,rfl,r⟩
theorem c6.none_of{o:Option Value}(r:c6 none o):o=none:=by
 cases o with
 |none=>rfl
 |some u=>show (show False from r).elim
theorem wk{v:V}{u:Value}(r:az v u):W.handedIn u=true:=by
 cases v with
 |non=>cases (show u=Value.none from r);rfl
 |bl b=>cases (show u=Value.bool b from r);rfl
 |int i=>obtain⟨t,e⟩:=(show ∃t,u=Value.int i t from r);cases e;rfl
 |str x=>obtain⟨t,e⟩:=(show ∃t,u=Value.str x t from r);cases e;rfl
 |byt b=>obtain⟨t,e⟩:=(show ∃t,u=Value.bytes b t from r);cases e;rfl
 |flt b=>obtain⟨t,e⟩:=(show ∃t,u=Value.float b t from r);cases e;rfl
 |ref a=>cases (show u=Value.ref a from r);rfl
 |ty n=>cases (show u=Value.type n from r);rfl
section
variable {h h':Heap}{a C dx:Addr}{fs fs':List (Str×V)}
theorem oU(hok:HOk P w H h)(e:H a=some (.ins C dx fs)):∃mA,jk h a dx C mA/\(∀f,c6 (fs.lookup f) (mA f))/\PySem.Within mA (fs.map (·.1))/\fs.length<=1000/\H dx=some (.own a):=by obtain⟨d,z,ne,ob,mA,n,r,q⟩:=(show aV P w H h a (.ins C dx fs) from hok a _ e);show⟨mA,⟨ob,n,ne⟩,r,q,z,d⟩
end
structure Cls(K:W.Frag)(C:Addr):Prop where
 pg:W.plainGet K C Str.empty=true
 hd:W.hasDictIn K C=true
 po:W.plainOver K C=true
 sa:W.findIn K (.ref C) "__setattr__" = some (some (.builtin "object.__setattr__"))
theorem Cls.get{C:Addr}(c:Cls K C)(f:Str):W.plainGet K C f=true:=c.pg
def gC(K:W.Frag)(C:Addr)(f:Str):Prop:=W.findIn K (.ref C) f=some none
theorem gC.taker{C:Addr}{f:Str}(n:gC K C f):W.takerIn K C f=some none:=by unfold W.takerIn;rw[show W.findIn K (.ref C) f=some none from n];rfl
structure Meth(K:W.Frag)(C:Addr)(m:Str)(f:Addr):Prop where
 at_:W.findIn K (.ref C) m=some (some (.ref f))
 fn:W.isFn K (.ref f)=true
 kp:W.keepIn K (.ref f)=true
section
variable {a C dx:Addr}{fs:List (Str×V)}{f:Str}{v:V}
theorem Cr{b:Bool}{Q:Value->Shared->Prop}(I:Inv X OY Z H s)(e:H a=some (.ins C dx fs))(c:Cls X.K C)(n:gC X.K C f)(l:fs.lookup f=some v)
  (h:∀u s',Inv X OY Z H s'->az v u->Q u s'):wpAny ⇑X A (getAttr (.ref a) f b) Q E s:=by
 obtain⟨mA,O,r,_,_,_⟩:=oU I.hok e;obtain⟨u,g,d⟩:=c6.some_of (v:=v) (o:=mA f) (by rw[<-l];show r f);show Hw I.kIn O (c.get f) c.hd n g (wk d) (h u _ (I.tok _) d)
theorem vM{m:Str}{g:Addr}{pl:Sem Bool}{Q:Value×List Value->Shared->Prop}(I:Inv X OY Z H s)(e:H a=some (.ins C dx fs))(c:Cls X.K C)(k:Meth X.K C m g)(l:fs.lookup m=none)
  (h:Q (.ref g,[.ref a]) s):wpAny ⇑X A (getMethod (.ref a) m pl) Q E s:=by
 obtain⟨mA,O,r,_,_,_⟩:=oU I.hok e;have b:mA m=none:=c6.none_of (by rw[<-l];show r m);show E_ I.kIn O (c.get m) k.at_ k.fn b h
theorem B_{y:V}{u:Value}{Q:Unit->Shared->Prop}(I:Inv X OY Z H s)(e:H a=some (.ins C dx fs))(c:Cls X.K C)(n:gC X.K C f)(v:fs.length<1000)(j:az y u)
  (h:∀s',Inv X OY Z (upd H a (.ins C dx (dN f y fs))) s'->Q .unit s'):wpAny ⇑X A (setAttr (.ref a) f u) Q E s:=by
 obtain⟨mA,O,r,wi,_,i⟩:=oU I.hok e;have hz:(fs.map (·.1)).length<=sizeLine:=by rw[ay,cK];lia
 show FX I.kIn O c.sa c.po n.taker c.hd wi hz λh' d sb=>h _ ?_;have hd:∃o,h'.get? dx=some o:=let ⟨o,_,_,l,_⟩:=d.ns;⟨o,l⟩;show I.write (x:=a) (e:=dx) (by rw[e];show True.intro) (.inr i) (λb q m z=>(sb.2 b m).trans z) hd ?_;show⟨by rw[av O.ne];show i,?_,O.ne,d.obj,_,d.ns,λg=>?_,λg p=>?_⟩
 .have:=vB f y fs;lia
 .change c6 ((dN f y fs).lookup g) (if g=f then some u else mA g);rw[vA];by_cases q:g=f
  .rw[OU q,OU q];show j
  rw[OT q,OT q];show r g
 by_cases q:g=f
 .rw[q];show (rG f y fs).1
 show (rG f y fs).2 g (wi g λz=>p ?_);change (if g=f then some u else mA g)=none;rw[OT q];show z
theorem Inv.made(I:Inv X OY Z H s):Inv X OY Z (upd (upd H ↥s (.own (↥s+1))) (↥s+1) (.ins C ↥s []))
  {s with heap:=(s.heap.push W.emptyDict).push (W.instObj C ↥s)}:=by
 have c:(s.heap.push W.emptyDict).get? ↥s=some W.emptyDict:=br s.heap rfl;have d:((s.heap.push W.emptyDict).push (W.instObj C ↥s)).get? (↥s+1)=some (W.instObj C ↥s):=by
  have:=br (s.heap.push W.emptyDict) (o:=W.instObj C ↥s) rfl
  rwa [jm] at this
 have f:(s.heap.push W.emptyDict).Ns ↥s (λ_=>none):=⟨W.emptyDict,#[],_,c,rfl,(λe he=>absurd he ∅),λ_=>rfl⟩;have g:=I.laid (a:=↥s) (o:=.own (↥s+1)) (h':=s.heap.push W.emptyDict) (t':=s.toks) (λb u q=>aE _ q) (aq _) ⟨_,c⟩;show g.laid (a:=↥s+1) (o:=.ins C ↥s []) (t':=s.toks) (λb u q=>aE _ q) (AG (jm _ _)) ?_;have ne:↥s≠↥s+1:=bo (qP _);show⟨by rw[av ne,aN],bE _,ne,d,λ_=>none,(LA f).at λo q=>aE _ q,λ_=>True.intro,λy h=>absurd rfl h⟩
theorem yU{prog:Program}{env:Env}{e:Expr}{f:Str}{pos:Pos}{Q:Value->Shared->Prop}(a:attributeBase e f env (eval e env)=eval e env)
  (h:wpAny (model prog w) A (eval e env) (λo s₁=>wpAny (model prog w) A (getAttr o f true) Q E s₁) E s):wpAny (model prog w) A (eval (.Attribute e f pos) env) Q E s:=
 Attribute_any_ h (by rw[arm_eval_Attribute,a])
end
def tFld(K:W.Frag)(ta:TE)(f:Str):TE:=λZ H Q=>ta Z H λx H1=>∃a C dx fs v,x=.ref a/\H1 a=some (.ins C dx fs)/\Cls K C/\gC K C f/\fs.lookup f=some v/\Q v H1
def sFld(K:W.Frag)(ta tv:TE)(f:Str):TS:=λD Z H=>tv Z H λy H1=>ta Z H1 λx H2=>∃a C dx fs,x=.ref a/\H2 a=some (.ins C dx fs)/\Cls K C/\gC K C f/\fs.length<1000/\
 D.nx Z (upd H2 a (.ins C dx (dN f y fs)))
section
variable {o e value:Expr}{f:Str}{pos pos' tpos:Pos}{ta tv:TE}
theorem jb(he:PE X e ta)(b:attributeBase e f X.env (eval e X.env)=eval e X.env):PE X (.Attribute e f pos) (tFld X.K ta f):=by intro OY s Z H Q I h;show yU b (thn (he OY s Z H _ I h) λu s1 ⟨x,H1,d,g,a,C,dx,fs,v,ex,i,c,n,l,q⟩=>?_);subst ex;obtain rfl:u=Value.ref a:=g;show Cr d i c n l λo s2 j m=>⟨v,H1,j,m,q⟩
theorem pI(ha:PE X o ta)(b:PE X value tv)(d:swapsWith value (some (.Attribute o f pos')) pos.line X.env=pure false):PS X (.Assign [.Attribute o f pos'] value pos) (sFld X.K ta tv f):=by intro OY s Z H D I h;show Ng (thn (b OY s Z H _ I h) λu s1 ⟨y,H1,e,g,q⟩=>thn (ha OY s1 Z H1 _ e q) λov s2 ⟨x,H2,i,j,a,C,dx,fs,ex,m,c,n,l,p⟩=>?_) d;subst ex;obtain rfl:ov=Value.ref a:=j;show B_ i m c n l g λv r=>⟨Z,_,r,p⟩
end
section
variable {Q:Value->Shared->Prop}{c:Value}{b:Bool}
inductive eW (K:W.Frag) (H:Hp):V->Value->Prop where
 |non:eW K H .non (.type "NoneType")
 |bl (x:Bool):eW K H (.bl x) (.type "bool")
 |int (i:Int):eW K H (.int i) (.type "int")
 |str (x:Str):eW K H (.str x) (.type "str")
 |flt (x:UInt64):eW K H (.flt x) (.type "float")
 |lst {a:Addr} {xs:List V} (e:H a=some (.lst xs)):eW K H (.ref a) (.type "list")
 |frz {a:Addr} {o:Obj} {xs:List V} (e:H a=some (.frz o (.lst xs))):eW K H (.ref a) (.type "list")
 |tup {a:Addr} {xs:List V} (e:H a=some (.tup xs)):eW K H (.ref a) (.type "tuple")
 |dK {a:Addr} {kvs:List (Key×V)} (e:H a=some (.dK kvs)):eW K H (.ref a) (.type "dict")
 |dT {a:Addr} {kvs:List (List Key×V)} (e:H a=some (.dT kvs)):eW K H (.ref a) (.type "dict")
 |ins {a C dx:Addr} {fs:List (Str×V)} (e:H a=some (.ins C dx fs)) (cl:Cls K C) (ha:W.findIn K (.ref C) "__class__" = some (some (.builtin "object.__class__")))
   (hn:W.specialIn K (.builtin "object.__class__") "__get__" = some (some (.builtin "getset_descriptor.__get__"))) (htk:W.takesIn K (.builtin "object.__class__")=some true)
   (hm:W.mroIn K C (.type "object")=some true):eW K H (.ref a) (.ref C)
theorem Dg{x:V}{u t:Value}(I:Inv X OY Z H s)(d:az x u)(ty:eW X.K H x t)(e:W.kitOne X.K t c=some b)(h:∀tk,Q (.bool b) {s with toks:=tk}) :
  wpAny ⇑X A (call (.builtin "isinstance") [u,c]) Q E s:=by
 cases ty with
 |non=>cases (show u=Value.none from d);show gO W.kitx_none I.kIn True.intro e (λz=>nomatch z) h
 |bl y=>cases (show u=Value.bool y from d);show gO W.kitx_bool I.kIn True.intro e (λz=>nomatch z) h
 |int i=>obtain⟨t,q⟩:=(show ∃t,u=Value.int i t from d);cases q;show gO W.kitx_int I.kIn True.intro e (λz=>nomatch z) h
 |str y=>obtain⟨t,q⟩:=(show ∃t,u=Value.str y t from d);cases q;show gO W.kitx_str I.kIn True.intro e (λz=>nomatch z) h
 |flt y=>obtain⟨t,q⟩:=(show ∃t,u=Value.float y t from d);cases q;show gO W.kitx_float I.kIn True.intro e (λz=>nomatch z) h
 | @lst a xs f=>
  cases (show u=Value.ref a from d);obtain⟨_,_,n,_,h1⟩:=(show aV X.prog X.w H s.heap a (.lst xs) from I.hok a _ f);show gO MV I.kIn ⟨_,h1,rfl⟩ e (λz=>nomatch z) h
 | @frz a ob xs f=>
  cases (show u=Value.ref a from d);obtain⟨_,_,_,n,_,h1⟩:=(show aV X.prog X.w H s.heap a (.frz ob (.lst xs)) from I.hok a _ f);show gO MV I.kIn ⟨_,h1,rfl⟩ e (λz=>nomatch z) h
 | @tup a xs f=>
  cases (show u=Value.ref a from d);obtain⟨_,_,_,p⟩:=(show aV X.prog X.w H s.heap a (.tup xs) from I.hok a _ f);obtain⟨o,h1,h2,_⟩:=p;show gO W.kitx_tuple I.kIn ⟨o,h1,h2⟩ e (λz=>nomatch z) h
 | @dK a kvs f=>
  cases (show u=Value.ref a from d);obtain⟨_,_,vs,_,p⟩:=(show aV X.prog X.w H s.heap a (.dK kvs) from I.hok a _ f);obtain⟨o,es,ep,h1,h2,_⟩:=p;show gO MU I.kIn ⟨o,h1,h2.1⟩ e (λz=>nomatch z) h
 | @dT a kvs f=>
  cases (show u=Value.ref a from d);obtain⟨_,_,xs,_,o,es,ep,h1,h2,_⟩:=(show aV X.prog X.w H s.heap a (.dT kvs) from I.hok a _ f);show gO MU I.kIn ⟨o,h1,h2.1⟩ e (λz=>nomatch z) h
 | @ins a C dx fs f cl ha g j hm=>
  cases (show u=Value.ref a from d);obtain⟨mA,O,_⟩:=oU I.hok f;obtain⟨od,J,_⟩:=O.look;show gO (W.kitx_own (cl.get _) cl.hd ha g j hm) I.kIn J e (λz=>nomatch z) h
end
end L2
namespace L2
open PySem PySem.Spec PyProof.Rows
structure Room(k:Nat)(A:Around):Prop where
 hd:A.handled=none
 dp:A.depth+3*k+5<recursionLimit
 un:A.units+16*k+200<cLine
 gu:A.guards=some []
theorem Room.mono{j k:Nat}(r:Room k A)(h:j<=k):Room j A:=⟨r.hd,by have:=r.dp;lia,by have:=r.un;lia,r.gu⟩
theorem Room.deeper{k:Nat}(r:Room (k+1) A)(env:Env):Room k (A.deeper env):=
 ⟨r.hd,by have:=r.dp;change A.depth+1+3*k+5<_;lia,by have:=r.un;change A.units+3+16*k+200<_;lia,r.gu⟩
theorem vJ{C:Addr}{kw:List (Str×Value)}:(A.under (.builtin "type.__call__" ⟨.ref C::us,kw⟩)).depth=A.depth+1:=by first|rfl|simp[Around.under,Code.weight,Code.isCreation,Code.isGuard,Code.isCaller,Code.frames,Code.isFrame,guardIds]
theorem vI{C:Addr}{kw:List (Str×Value)}:(A.under (.builtin "type.__call__" ⟨.ref C::us,kw⟩)).units=A.units+1:=by first|rfl|simp[Around.under,Code.cUnits,Code.frames,Code.isFrame]
theorem vz{C:Addr}{kw:List (Str×Value)}(h:A.guards=some []):(A.under (.builtin "type.__call__" ⟨.ref C::us,kw⟩)).guards=some []:=by first|exact h|simp[Around.under,Code.isGuard,guardIds,h]
theorem Room.make{k:Nat}(r:Room (k+1) A)(C:Addr)(us:List Value)(kw:List (Str×Value)):Room k (A.under (.builtin "type.__call__" ⟨.ref C::us,kw⟩)):=
 ⟨r.hd,by have:=r.dp;rw[vJ];lia,by have:=r.un;rw[vI];lia,vz r.gu⟩
theorem Room.depth{k:Nat}(r:Room k A):A.depth<recursionLimit:=by have:=r.dp;lia
theorem Room.units{k:Nat}(r:Room k A):A.units+64<cLine:=by have:=r.un;lia
def eV:TA:=λ_ H Q=>Q [] H
def Ip(x:V)(Q:List V->Hp->Prop):List V->Hp->Prop:=λxs H2=>Q (x::xs) H2
def Iq(tr:TA)(Z:St)(Q:List V->Hp->Prop):VK:=λx H1=>tr Z H1 (Ip x Q)
def dv(ta:TE)(tr:TA):TA:=λZ H Q=>ta Z H (Iq tr Z Q)
section
variable {e:Expr}{es:List Expr}{te:TE}{t:TA}{pos:Pos}
theorem fg:PA X [] eV:=λ_ _ _ _ H Q I h=>mz ⟨[],H,I,.nil,h⟩
theorem ae(ha:PE X e te)(a:PA X es t)(b:starEach (e::es) X.env=(false,eval e X.env)::starEach es X.env:=by rfl):PA X (e::es) (dv te t):=by intro pos OY s Z H Q I h;rw[b];change wpAny _ _ (spliced ((false,eval e X.env)::backTo pos (starEach es X.env))) _ _ s;show kF (thn (ha OY s Z H _ I h) λu s1 ⟨x,H1,c,d,f⟩=>?_);show thn (a pos OY s1 Z H1 _ c f) λus s2 ⟨xs,H2,g,i,j⟩=>⟨x::xs,H2,g,.cons d i,j⟩
theorem pa1{e:Expr}{te:TE}(ha:PE X e te)(a:starEach [e] X.env=(false,eval e X.env)::starEach [] X.env:=by rfl):PA X [e] (dv te eV):=ae ha fg a
def JV(Q:VK):List V->Hp->Prop:=λxs H1=>xs.length<=sizeLine/\fZ H1 (.tup xs) Q
def qm(t:TA):TE:=λZ H Q=>t Z H (JV Q)
def J9(Q:VK):List V->Hp->Prop:=λxs H1=>xs.length<=sizeLine/\fZ H1 (.lst xs) Q
def tLst(t:TA):TE:=λZ H Q=>t Z H (J9 Q)
theorem aJ{x1}(h:PA X es t):PE X (.Tuple es x1 pos) (qm t):=by intro OY s Z H Q I c;show Nv (thn (h pos OY s Z H _ I c) λus s1 ⟨xs,H1,a,r,z,q⟩=>⟨by rw[<-r.length];show z,?_⟩);have hf:H1 ↥s1=none:=a.hok.fresh (aq _);show⟨.ref ↥s1,upd H1 ↥s1 (.tup xs),a.laid (t':=s1.toks) (λb u e=>aE _ e) (aq _) ?_,rfl,q.at hf⟩;show⟨⟨z,_,br _ rfl,rfl⟩,us,r,⟨_,br _ rfl,rfl,_,rfl⟩⟩
theorem bT(h:PA X es t):PE X (.List es pos) (tLst t):=by intro OY s Z H Q I c;show wpAny_List_spliced (thn (h pos OY s Z H _ I c) λus s1 ⟨xs,H1,a,r,z,q⟩=>⟨by rw[<-r.length];show z,?_⟩);have hf:H1 ↥s1=none:=a.hok.fresh (aq _);show⟨.ref ↥s1,upd H1 ↥s1 (.lst xs),a.laid (t':=s1.toks) (λb u e=>aE _ e) (aq _) ?_,rfl,q.at hf⟩;show⟨z,us,0,r,br _ rfl⟩
end
abbrev Sp:=List V->Hp->VK->XK->Prop
abbrev CXT:=List Env->Hp->Shared->XK->Value->Shared->Prop
structure fk(P:Program)(w:World)(K:W.Frag)(mg:Str->Option Value)(base:Heap)(A:Around)(outer:List Env)(s:Shared)(H:Hp):Prop where
 frames:A.frames=some outer
 mod:Mod K mg base
 bs:∀b o,base.get? b=some o->s.heap.get? b=some o/\H b=none
 bsz:base.objs.size<=↥s
 funs:s.heap.FunFrames base outer
 frf:∀b∈frs outer,H b=none
 hok:HOk P w H s.heap
 bare:AllBare s.gens
def CE(outer:List Env)(P:Program)(w:World)(H:Hp)(s:Shared)(Q:VK)(u:Value)(s':Shared):Prop:=
 ∃v H',s'.os=s.os/\AllBare s'.gens/\Un (frs outer) [] H H' s.heap s'.heap/\HOk P w H' s'.heap/\az v u/\Q v H'
def CR(CX:CXT)(outer:List Env)(P:Program)(w:World)(H:Hp)(s:Shared)(Q:VK)(E:XK)(r:Result)(s':Shared):Prop:=
 match r with
 |.ok (.ret u)=>CE outer P w H s Q u s'
 |.ok _=>False
 |.error e=>CX outer H s E e s'
structure ai(P:Program)(w:World)(K:W.Frag)(mg:Str->Option Value)(base:Heap)(CX:CXT)(k:Nat)(f:Addr)(fd:FuncData)(ps:List Str)(sp:Sp):Prop where
 len:∀vs H Q E,sp vs H Q E->vs.length=ps.length
 run:∀(A:Around)(outer:List Env)(s:Shared)(H:Hp)(args:Args)(us:List Value)(vs:List V)(Q:VK)(E:XK),Room k A->fk P w K mg base A outer s H->BindsTo s fd args (ps.zip us)->Vals vs us->sp vs H Q E->
  codeAny (model P w) A (.call (.ref f) args) (CR CX outer P w H s Q E) s
theorem ai.mono{CX:CXT}{j k:Nat}{f:Addr}{ps:List Str}{sp:Sp}(F:ai P w K mg base CX j f fd ps sp)(h:j<=k) :
  ai P w K mg base CX k f fd ps sp:=⟨F.len,λA outer s H args us vs Q E a=>F.run A outer s H args us vs Q E (a.mono h)⟩
theorem fk.make{outer:List Env}(e:fk P w K mg base A outer s H)(C:Addr)(us:List Value)(kw:List (Str×Value)) :
  fk P w K mg base (A.under (.builtin "type.__call__" ⟨.ref C::us,kw⟩)) outer s H:=⟨by first|show e.frames|(simpa [Around.under,Code.envs,Code.isFrame,pushEnvs] using e.frames),e.mod,e.bs,e.bsz,e.funs,e.frf,e.hok,e.bare⟩
section
variable {s s':Shared}
theorem Inv.env0(I:Inv X OY Z H s):fk X.prog X.w X.K X.mg X.base X.A X.stack s H:=
 ⟨I.ok.frames,I.ok.mod,I.bs,dn I.ok.bsz I.sz,I.stack,I.stkFree,I.hok,I.bare⟩
theorem Inv.after{Q:VK}{u:Value}(I:Inv X OY Z H s)(h:CE X.stack X.prog X.w H s Q u s'):EP X OY Z Q u s':=by obtain⟨v,H',os,bare,un,hok,r,q⟩:=h;obtain⟨a,g,d,t,c⟩:=s';obtain rfl:c=s.os:=os;show⟨v,H',I.call (h':=a) (g':=g) (d':=d) (t':=t) (ch:=[]) un hok bare (λb z=>absurd z ∅),r,q⟩
end
def Iu(sp:Sp)(dvs:List V)(E:XK)(Q:VK):List V->Hp->Prop:=λvs H1=>sp (vs++dvs) H1 Q E
def zT(sp:Sp)(dvs:List V)(E:XK)(t:TA):TE:=λZ H Q=>t Z H (Iu sp dvs E Q)
def zR(C:Addr)(m:Str)(sp:Sp)(dvs:List V)(E:XK)(ta:TE)(t:TA):TE:=λZ H Q=>ta Z H λx H1=>∃a dx fs,x=.ref a/\H1 a=some (.ins C dx fs)/\fs.lookup m=none/\
 t Z H1 λvs H2=>sp (x::(vs++dvs)) H2 Q E
def J8(C:Addr)(sp:Sp)(dvs:List V)(E:XK)(t:TA):TE:=λZ H Q=>t Z H λvs H1=>∀x dx,H1 x=none->H1 dx=none->dx≠x->
 sp (.ref x::(vs++dvs)) (upd (upd H1 dx (.own x)) x (.ins C dx [])) (λv H2=>v=.non/\Q (.ref x) H2) E
def Binds(K:W.Frag)(fd:FuncData)(ps:List Str)(ds:List Value):Prop:=
 ∀(s:Shared)(us:List Value),K.In s.heap->(us++ds).length=ps.length->BindsTo s fd ⟨us,[]⟩ (ps.zip (us++ds))
theorem Binds.all{ps:List Str}(h:∀us:List Value,us.length=ps.length->bindArgs fd ⟨us,[]⟩=pure (ps.zip us)):Binds K fd ps []:=λs us _ a=>by
 rw[eG] at a |-;show .of_eq (h us a)
def Passes(CX:CXT)(X:Cx)(E:XK):Prop:=∀(OY:List (Addr×Obj))(Z:St)(H:Hp)(s:Shared)(e:Value)(s':Shared),Inv X OY Z H s->CX X.stack H s E e s'->X.xe e s'
section
variable {CX:CXT}{k:Nat}{f C:Addr}{ps:List Str}{sp:Sp}{dvs:List V}{ds:List Value}{E:XK}{x m:Str}{p pos apos:Pos}{e o:Expr}{es:List Expr}{ta:TE}{t:TA}
theorem tL{Q:VK}(F:ai X.prog X.w X.K X.mg X.base CX k f fd ps sp)(c:Room k X.A)(d:Binds X.K fd ps ds)(hd:Vals dvs ds)(hx:Passes CX X E)
  (I:Inv X OY Z H s) (r:Vals vs us) (h:sp (vs++dvs) H Q E):wpAny ⇑X X.A (call (.ref f) us) (EP X OY Z Q) X.xe s:=by
 have b:Vals (vs++dvs) (us++ds):=r.append hd;have g:(us++ds).length=ps.length:=by rw[<-b.length];show F.len _ _ _ _ h
 show m7 (mY (F.run X.A X.stack s H ⟨us,[]⟩ (us++ds) (vs++dvs) Q E c I.env0 (d s us I.kIn g) b h) λr s' a=>?_);cases r with
 |error e=>show hx OY Z H s e s' I a
 |ok i=>
  cases i with
  |ret u=>show I.after a
  |next=>show False.elim a
  |brk=>show False.elim a
  |cont=>show False.elim a
theorem fe(F:ai X.prog X.w X.K X.mg X.base CX k f fd ps sp)(b:Room k X.A)(c:Gl X x)(hm:X.mg x=some (.ref f))(d:W.keepIn X.K (.ref f)=true)(g:Binds X.K fd ps ds)(hd:Vals dvs ds)(hx:Passes CX X E)
  (ha:PA X (e::es) t) (i:(x==("__debug__" : Str))=false:=by decide) (he:starEach (e::es) X.env=(false,eval e X.env)::starEach es X.env:=by rfl) (j:(backTo pos (starEach es X.env)).any (·.1)=false:=by rfl) :
  PE X (.Call (.Name x p) (e::es) [] pos) (zT sp dvs E t):=by
 intro OY s Z H Q I h;show m6 (gW I c hm ?_ i);show AV (h₀:=X.base) I.ok.mod.kin d (thn (ha pos OY s Z H _ I h) λus s1 ⟨vs,H1,a,r,q⟩=>⟨a.kIn,?_⟩) he j;show tL F b g hd hx a r q
theorem gU{pl:Sem Bool}(he:PE X o ta)(c:Cls X.K C)(hm:Meth X.K C m f)(F:ai X.prog X.w X.K X.mg X.base CX k f fd ps sp)(hr:Room k X.A)(hb:Binds X.K fd ps ds)(hd:Vals dvs ds)(hx:Passes CX X E)(ha:PA X (e::es) t)
  (hst:starEach (e::es) X.env=(false,eval e X.env)::starEach es X.env:=by rfl) (hpl:(backTo pos (starEach es X.env)).any (·.1)=false:=by rfl)
  (ht:eval (.Call (.Attribute o m apos) (e::es) [] pos) X.env=(do
   let ov <-eval o X.env
   standAt apos.atName
   let (f,first) <-holding [ov] (getMethod ov m pl)
   callWith pos f first (backTo pos (starEach (e::es) X.env)) (backToKw pos (keywordEach [] X.env))):=by rfl) :
  PE X (.Call (.Attribute o m apos) (e::es) [] pos) (zR C m sp dvs E ta t):=by
 intro OY s Z H Q I h;show MW (pl:=pl) (thn (he OY s Z H _ I h) λu s1 ⟨x,H1,I1,rx,a,dx,fs,ex,ea,l,q⟩=>?_) ht;subst ex;obtain rfl:u=Value.ref a:=rx;show vM I1 ea c hm l ?_;show AV (first:=[.ref a]) (h₀:=X.base) I.ok.mod.kin hm.kp (thn (ha pos OY s1 Z H1 _ I1 q) λus s2 ⟨vs,H2,I2,r,q2⟩=>⟨I2.kIn,?_⟩) hst hpl;show tL (us:=.ref a::us) (vs:=.ref a::vs) F hr hb hd hx I2 (.cons rfl r) q2
theorem eK{pl:Sem Bool}(he:PE X o ta)(c:Cls X.K C)(hm:Meth X.K C m f)(F:ai X.prog X.w X.K X.mg X.base CX k f fd ps sp)(hr:Room k X.A)(hb:Binds X.K fd ps ds)(hd:Vals dvs ds)(hx:Passes CX X E)
  (ht:eval (.Call (.Attribute o m apos) [] [] pos) X.env=(do
   let ov <-eval o X.env
   standAt apos.atName
   let (f,first) <-holding [ov] (getMethod ov m pl)
   callWith pos f first (backTo pos (starEach [] X.env)) (backToKw pos (keywordEach [] X.env))):=by rfl) :
  PE X (.Call (.Attribute o m apos) [] [] pos) (zR C m sp dvs E ta eV):=by
 intro OY s Z H Q I h;show MW (pl:=pl) (thn (he OY s Z H _ I h) λu s1 ⟨x,H1,I1,rx,a,dx,fs,ex,ea,l,q⟩=>?_) ht;subst ex;obtain rfl:u=Value.ref a:=rx;show vM I1 ea c hm l ?_;show W.callWith_K0 (first:=[.ref a]) I1.kIn hm.kp (tL (us:=[.ref a]) (vs:=[.ref a]) F hr hb hd hx I1 (.cons rfl .nil) q)
structure Mk(K:W.Frag)(C f:Addr):Prop where
 makes:W.makesIn K C=true
 init:W.findIn K (.ref C) "__init__" = some (some (.ref f))
 fn:W.isFn K (.ref f)=true
 kp:W.keepIn K (.ref C)=true
theorem Ec{Q:VK}(M:Mk X.K C f)(F:ai X.prog X.w X.K X.mg X.base CX k f fd ps sp)(g:Room (k+1) X.A)(i:Binds X.K fd ps ds)(hd:Vals dvs ds)
  (hx:Passes CX X E) (I:Inv X OY Z H s) (r:Vals vs us)
  (h:∀x dx,H x=none->H dx=none->dx≠x->sp (.ref x::(vs++dvs)) (upd (upd H dx (.own x)) x (.ins C dx [])) (λv H2=>v=.non/\Q (.ref x) H2) E) :
  wpAny ⇑X X.A (call (.ref C) us) (EP X OY Z Q) X.xe s:=by
 have c:=h (↥s+1) ↥s (I.hok.fresh (qO _)) (I.hok.fresh (aq _)) (bo (qP _));have b:=Inv.made (C:=C) I;have d:Vals (V.ref (↥s+1)::(vs++dvs)) (Value.ref (↥s+1)::(us++ds)):=.cons rfl (r.append hd);have j:(Value.ref (↥s+1)::us++ds).length=ps.length:=by have e:=d.length;rw[F.len _ _ _ _ c] at e;show e.symm
 show m7 (EW (f:=f) I.kIn M.makes M.init (beq_iff_eq.mp M.fn) (mY (F.run _ X.stack _ _ ⟨Value.ref (↥s+1)::us,[]⟩ (Value.ref (↥s+1)::(us++ds)) _ _ E (g.make C us [])
  (b.env0.make C us []) (i _ (Value.ref (↥s+1)::us) b.kIn j) d c) λr s' a=>?_))
 cases r with
 |error e=>show hx OY Z _ _ e s' b a
 |ok l=>
  cases l with
  |ret u=>
   obtain⟨v,H',m,n,ev,o⟩:=b.after a;subst ev;show⟨n,⟨V.ref (↥s+1),H',m,rfl,o⟩⟩
  |next=>show False.elim a
  |brk=>show False.elim a
  |cont=>show False.elim a
theorem yv(M:Mk X.K C f)(F:ai X.prog X.w X.K X.mg X.base CX k f fd ps sp)(b:Room (k+1) X.A)(c:Gl X x)(hm:X.mg x=some (.ref C))(d:Binds X.K fd ps ds)(hd:Vals dvs ds)(hx:Passes CX X E)
  (ha:PA X (e::es) t) (g:(x==("__debug__" : Str))=false:=by decide) (he:starEach (e::es) X.env=(false,eval e X.env)::starEach es X.env:=by rfl) (i:(backTo pos (starEach es X.env)).any (·.1)=false:=by rfl) :
  PE X (.Call (.Name x p) (e::es) [] pos) (J8 C sp dvs E t):=by
 intro OY s Z H Q I h;show m6 (gW I c hm ?_ g);show AV (h₀:=X.base) I.ok.mod.kin M.kp (thn (ha pos OY s Z H _ I h) λus s1 ⟨vs,H1,a,r,q⟩=>⟨a.kIn,?_⟩) he i;show Ec M F b d hd hx a r q
end
section
variable {CX:CXT}{k:Nat}{f C:Addr}{ps ks:List Str}{sp:Sp}{E:XK}{x m:Str}{p pos apos kpos:Pos}{e o:Expr}{es:List Expr}{kws:List Keyword}{te ta:TE}{t tk:TA}{nm:Option Str}
variable {g:List Value->List Value->List Value}{gV:List V->List V->List V}
end
structure aK(N P:List Str)(sc:Scope):Prop where
 kind:sc.kind=.function
 co:sc.isCoroutine=false
 gen:sc.isGenerator=false
 nd:N.Nodup
 pre:N.take P.length=P
 par:∀x∈P,sc.names.lookup x=some .local\/sc.names.lookup x=some .cell
 nofree:∀y∈sc.names,y.2≠.free
theorem wu{kindOf:Str->Option NameKind}{x:Str}:∀{binds:List (Str×Value)}{m:Str->Option Value},(∀v,(x,v)∉binds)->bindL kindOf binds m x=m x
 | [],_,_=>rfl
 |(n,v)::r,m,h=>by
  unfold bindL;rw[wu λw hw=>h w (bJ _ hw)]
  split
  .have:x≠n:=by rintro rfl;show h v gq
   simp[this]
  rfl
theorem wz{kindOf:Str->Option NameKind}{x:Str}:∀{binds:List (Str×Value)}{m:Str->Option Value},(∀v,(x,v)∉binds)->bindC kindOf binds m x=m x
 | [],_,_=>rfl
 |(n,v)::r,m,h=>by
  unfold bindC;rw[wz λw hw=>h w (bJ _ hw)]
  split
  .rfl
  have:x≠n:=by rintro rfl;show h v gq
  simp[this]
theorem wx{kindOf:Str->Option NameKind}{x:Str}{v:Value}:∀{P:List Str}{vs:List Value}{i:Nat}{m:Str->Option Value},P.Nodup->P[i]?=some x->vs[i]?=some v->kindOf x=some .local->
  bindL kindOf (P.zip vs) m x=some v
 | [],_,_,_,_,h,_,_=>by simp at h
 |_::_,[],_,_,_,_,h,_=>by simp at h
 |p::P,w::vs,0,m,nd,h1,h2,a=>by
  simp at h1 h2;subst h1;subst h2;change bindL kindOf ((p,w)::P.zip vs) m p=_;unfold bindL;rw[wu λv b=>(cJ.mp nd).1 (uN b).1,OU a];simp
 |p::P,w::vs,i+1,m,nd,h1,h2,a=>by
  change bindL kindOf ((p,w)::P.zip vs) m x=_;unfold bindL;show wx (i:=i) (cJ.mp nd).2 ‹h1› ‹h2› a
theorem wA{kindOf:Str->Option NameKind}{x:Str}{v:Value}:∀{P:List Str}{vs:List Value}{i:Nat}{m:Str->Option Value},P.Nodup->P[i]?=some x->vs[i]?=some v->kindOf x≠some .local->
  bindC kindOf (P.zip vs) m x=some v
 | [],_,_,_,_,h,_,_=>by simp at h
 |_::_,[],_,_,_,_,h,_=>by simp at h
 |p::P,w::vs,0,m,nd,h1,h2,a=>by
  simp at h1 h2;subst h1;subst h2;change bindC kindOf ((p,w)::P.zip vs) m p=_;unfold bindC;rw[wz λv b=>(cJ.mp nd).1 (uN b).1,OT a];simp
 |p::P,w::vs,i+1,m,nd,h1,h2,a=>by
  change bindC kindOf ((p,w)::P.zip vs) m x=_;unfold bindC;show wA (i:=i) (cJ.mp nd).2 ‹h1› ‹h2› a
def start(N:List Str)(vs:List V):St:=vs.map some++List.replicate (N.length-vs.length) none
def dO(CX:CXT)(P:Program)(w:World)(K:W.Frag)(mg:Str->Option Value)(base:Heap)(N:List Str)(qual:Str)(scope:Scope)(f:Addr)(cd:Value)(A:Around)(outer:List Env)(s:Shared)(H:Hp)(E:XK):Cx where
 prog:=P
 w:=w
 K:=K
 mg:=mg
 base:=base
 A:=A.deeper (envOfC qual scope ↥s f cd)
 N:=N
 s₀:=s
 H₀:=H
 env:=envOfC qual scope ↥s f cd
 outer:=outer
 stack:=envOfC qual scope ↥s f cd::outer
 ex:=[]
 calm:=true
 fn:=λ_=>true
 pn:=[]
 xe:=λe s'=>wpAny (model P w) (A.deeper (envOfC qual scope ↥s f cd)) (leaving (envOfC qual scope ↥s f cd) e) (λ_ a=>CX outer H s E e a) (λb a=>CX outer H s E b a) s'
theorem xp{sc:Scope}{n:Nat}{x:Str}(h:sc.names.lookup x=some .cell):∃c,(cellsFrom n sc.names []).lookup x=some c:=by have q:=AW sc.names n [] (.inl h);show AN.mp q
theorem wj{CX:CXT}{N ps:List Str}{qual:Str}{f:Addr}{cd:Value}{outer:List Env}{s s1:Shared}{E:XK}
  (S:aK N ps scope) (hd:A.handled=none) (d:fk P w K mg base A outer s H) (D:vs.length=ps.length) (r:Vals vs us)
  (x:InCallC s ↥s (bindL (envOfC qual scope ↥s f cd).kindOf (ps.zip us) λ_=>none) (cellsFrom (↥s+1) scope.names []) (bindC (envOfC qual scope ↥s f cd).kindOf (ps.zip us) λ_=>none) s1) :
  Inv (dO CX P w K mg base N qual scope f cd A outer s H E) [] (start N vs) H s1:=by
 have I:ps.length<=N.length:=by have:=congrArg List.length S.pre;rw[bu] at this;lia
 obtain⟨h1,tk,rfl,m⟩:=x.done;have l:∀b:Addr,b∉(dO CX P w K mg base N qual scope f cd A outer s H E).ex:=λb z=>absurd (show b∈([]:List Addr) from z) ∅;show⟨⟨d.mod,S.kind,rfl,rfl,aq _,λy z c h1 h2=>?_,λy g=>?_,λy c _ h=>?_,λ_=>hd,Around.frames_deeper d.frames,.inr ⟨rfl,rfl⟩,λb z=>absurd z (l b),d.bs,d.bsz,λb _ _=>l b,λb z=>absurd z (l b),d.funs,d.frf⟩,
  rfl,d.bare,Un.kept m,⟨_,x.toInCall.ns,λi y v h1 h2 J=>?_⟩,λy c h=>⟨_,x.cell y c h⟩,d.hok.fresh (aq _),λy c h=>?_,λp j=>absurd (show p∈([]:List (Addr×Obj)) from j) ∅,d.hok.kept m,?_⟩
 .exact name_of_addr x.apart (mU h1) (mU h2)
 .have g:scope.names.lookup y=some .cell\/scope.names.lookup y=some .free:=g;rcases g with g|g
  .exact xp g
  show absurd rfl (S.nofree _ (mU g))
 .exact qM (x.above y c (mU h))
 .have hi:i<vs.length:=by
   unfold start at h2;by_cases hi:i<vs.length
   .exact hi
   rw[iO ‹hi›] at h2;rw[LX] at h2
   split at h2<;>cases h2
  have ha:vs[i]?=some v:=by
   unfold start at h2;rw[ef ‹hi›,bf] at h2;cases e:vs[i]? with
   |none=>rw[e] at h2;cases h2
   |some a=>rw[e] at h2;cases h2;rfl
  obtain⟨u,o,C⟩:=r.get ha;have j:ps[i]?=some y:=by rw[<-S.pre,qJ ()];show h1
  have B:ps.Nodup:=by rw[<-S.pre];show S.nd.sublist (List.take_sublist _ _)
  show⟨u,C,?_⟩;rcases S.par y (aZ j) with k|k
  .exact .inl ⟨k,wx B j o k⟩
  obtain⟨c,e⟩:=xp (n:=↥s+1) k;show .inr ⟨.inl k,c,e,?_⟩;have q:=x.cell y c e;rw[wA B j o (by change scope.names.lookup y≠_;rw[k];decide)] at q;show q
 .exact d.hok.fresh (qM (x.above y c (mU h)))
 unfold start;change _=N.length;rw[aU,ay,List.length_replicate];lia
theorem uj{CX:CXT}{k:Nat}{f:Addr}{name qual:Str}{params:Arguments}{body:List Stmt}{i kV doc pm a ct m:Value}{an od:Option Addr}
  {p:Array (Option Value)} {N ps:List Str} {sp:Sp} (lk:K.lookup f=some ⟨m,od,.func (W.fnOf name qual params body scope i kV doc pm an a ct),p⟩) (z:W.codeIn K a qual=true) (S:aK N ps scope)
  (len:∀vs H Q E,sp vs H Q E->vs.length=ps.length)
  (B:∀(A:Around)(outer:List Env)(s:Shared)(H:Hp)(vs:List V)(Q:VK)(E:XK),Room k (A.deeper (envOfC qual scope ↥s f a))->sp vs H Q E->
   ∃t,PSs (dO CX P w K mg base N qual scope f a A outer s H E) body t/\t {nx:=λ_ H'=>Q .non H',rt:=Q} (start N vs) H) :
  ai P w K mg base CX (k+1) f (W.fnOf name qual params body scope i kV doc pm an a ct) ps sp:=by
 show⟨len,λA outer s H args us vs Q E g d C r j=>?_⟩;have D:=len _ _ _ _ j;have l:K.In s.heap:=d.mod.kin.keeps λb o e=>(d.bs b o e).1;have lim:s.heap.NoLimit:=d.mod.nolimit.keeps λb o e=>(d.bs b o e).1;have L:∀y∈ps.zip us,scope.names.lookup y.1=some .local\/(scope.names.lookup y.1=some .cell/\((cellsFrom (↥s+1) scope.names []).lookup y.1).isSome=true):=λ⟨n,v⟩ M=>by
  rcases S.par n (uN M).1 with q|q
  .exact .inl q
  show .inr ⟨q,AW _ _ _ (.inl q)⟩
 show M_ g.depth (l _ _ lk) rfl S.co S.gen rfl (MS l z) (C _ _ _ _ ?_);show NG S.kind L λenv he s1 x=>?_;subst he;show⟨lim.keeps x.toInCall.keep,codeAny_func ?_⟩;obtain⟨t,O,R⟩:=B A outer s H vs Q E (g.deeper _) j;have I:Inv (dO CX P w K mg base N qual scope f a A outer s H E) [] (start N vs) H s1:=wj S g.hd d D r x;show bF (O [] s1 (start N vs) H _ I R) (λT s' c=>?_) λe s' c=>c;have fin:∀{Z':St}{H':Hp}{v:V}{u:Value},Inv (dO CX P w K mg base N qual scope f a A outer s H E) [] Z' H' s'->az v u->Q v H'->CE outer P w H s Q u s':=
  λ{Z' H' v u} J h q=>⟨v,H',J.os,J.bare,J.base,J.hok,h,q⟩
 cases T with
 |ret u=>
  obtain⟨v,Z',H',J,h,q⟩:=c;show fin J h q
 |next=>
  obtain⟨Z',H',J,q⟩:=c;show fin (v:=V.non) (u:=Value.none) J rfl q
 |brk=>
  obtain⟨_,_,_,q⟩:=c;show False.elim q
 |cont=>
  obtain⟨_,_,_,q⟩:=c;show False.elim q
end L2
namespace L2
open PySem PySem.Spec PyProof.Rows
section
variable {x:Str}{p pos:Pos}{e:Expr}{es:List Expr}{t:TA}{id T:String}{r:List V->Hp->VK->Prop}
def tCBK(r:List V->Hp->VK->Prop)(Q:VK):List V->Hp->Prop:=λvs H1=>r vs H1 Q
def tCB(r:List V->Hp->VK->Prop)(t:TA):TE:=λZ H Q=>t Z H (tCBK r Q)
theorem cz(a:cV X (.builtin id) r)(b:Gl X x)(hm:X.mg x=none)(c:bootBuiltins x=some (.builtin id))(ha:PA X (e::es) t)(d:x≠"__name__":=by decide)(f:(x==("__debug__" : Str))=false:=by decide)
  (he:starEach (e::es) X.env=(false,eval e X.env)::starEach es X.env:=by rfl) (g:(backTo pos (starEach es X.env)).any (·.1)=false:=by rfl):PE X (.Call (.Name x p) (e::es) [] pos) (tCB r t):=by
 intro OY s Z H Q I h;show m6 (je I b hm c ?_ d f);show NW (thn (ha pos OY s Z H _ I h) λus s1 ⟨vs,H1,i,j,l⟩=>a OY s1 Z H1 vs us Q i j l) he g
theorem c_(a:cV X (.type T) r)(b:Gl X x)(hm:X.mg x=none)(c:bootBuiltins x=some (.type T))(ha:PA X (e::es) t)(d:x≠"__name__":=by decide)(f:(x==("__debug__" : Str))=false:=by decide)
  (he:starEach (e::es) X.env=(false,eval e X.env)::starEach es X.env:=by rfl) (g:(backTo pos (starEach es X.env)).any (·.1)=false:=by rfl):PE X (.Call (.Name x p) (e::es) [] pos) (tCB r t):=by
 intro OY s Z H Q I h;show m6 (je I b hm c ?_ d f);show qT (thn (ha pos OY s Z H _ I h) λus s1 ⟨vs,H1,i,j,l⟩=>a OY s1 Z H1 vs us Q i j l) he g
end
end L2
namespace HT
open PySem PyProof.Rows
def lexLt:List Int->List Int->Bool
 | [],[]=>false
 | [],_::_=>true
 |_::_,[]=>false
 |x::xs,y::ys=>if x=y then lexLt xs ys else decide (x<y)
theorem lexLt_cons(x y:Int)(xs ys:List Int):lexLt (x::xs) (y::ys)=if x=y then lexLt xs ys else decide (x<y):=rfl
theorem BD:lexLt [] []=false:=rfl
theorem Bv(y:Int)(ys:List Int):lexLt [] (y::ys)=true:=rfl
theorem Bw(x:Int)(xs:List Int):lexLt (x::xs) []=false:=rfl
theorem Fj(A:Around)(s:Shared)(a:Int)(t:Tok)(c:Int)(u:Tok):∃e,SeqAt.EqAt A s (.int a t) (.int c u) e/\(e=true↔a=c):=
 ⟨(a==c),M0 a t c u,∅⟩
theorem Ef(A:Around)(s:Shared)(a:Int)(t:Tok)(c:Int)(u:Tok)(prog:Program)(w:World)(E:Value->Shared->Prop)(Q:Value->Shared->Prop)(h:Q (.bool (decide (a<c))) s) :
  wpAny (model prog w) A (richCompare .Lt (.int a t) (.int c u)) Q E s:=
 (NZ h:wpAny (model prog w) A (compareOp .Lt (.int a t) (.int c u)) Q E s)
section
open PySem.SeqAt
open PySem.AutoSeq1 (wpAny_loadPart')
open PySem.MeetsSeq PySem.MeetsSeq2 PySem.MeetsSeq3
theorem BA(l b:Addr)(items i:Array Value)(n D:Nat)(dd E:Option Addr)(sl H:Array (Option Value))(ns ms:List Int)(hi:IntsAre items.toList ns)(z:IntsAre i.toList ms) :
  Meets (Builtin.«tuple.__lt__» ⟨[.ref l,.ref b],[]⟩)
   (λ_ R s=>s.heap.get? l=some {cls:=.type "tuple",dict:=dd,data:=.seq items n,slots:=sl}/\s.heap.get? b=some {cls:=.type "tuple",dict:=E,data:=.seq i D,slots:=H}/\
    R (.ok (.ret (.bool (lexLt ns ms)))) s):=
 .of_wp λprog w A R s h=>by
  obtain⟨o,g,d,tk,os⟩:=s;obtain⟨I,J,h⟩:=h;have Q:=AutoSeq1.sub_tuple_tuple;have S:items.size=ns.length:=by rw[<-hi.length];simp
  have T:i.size=ms.length:=by rw[<-z.length];simp
  wp_walk using Bi I,Bi J,NA _ (λrest b s'=>b.1=none/\s'=⟨o,g,d,tk,os⟩/\∃(vs ws:List Value)(j m:List Int),rest=vs.zip ws/\
   IntsAre vs j/\IntsAre ws m/\j.length+i.size=m.length+items.size/\R (.ok (.ret (.bool (lexLt j m)))) ⟨o,g,d,tk,os⟩) _
  case turn=>
   rintro⟨y,x⟩ rest b s' ⟨r,rfl,vs,ws,j,m,hz,v,p,hlen,f⟩;cases v with
   |nil=>rw[List.zip_nil_left] at hz;cases hz
   |cons a t K=>
    cases p with
    |nil=>rw[List.zip_nil_right] at hz;cases hz
    |cons c u L=>
     rw[Me] at hz;injection hz with M N;injection M with O hx;subst O hx;rw[lexLt_cons] at f;simp only[cE] at hlen;obtain⟨e,he,B⟩:=Fj A.in1 ⟨o,g,d,tk,os⟩ a t c u;show aa (he prog w _ _ ?_);cases e with
     |true=>
      rw[OU (B.mp rfl)] at f
      wp_walk
      show⟨rfl,rfl,_,_,_,_,N,K,L,(),f⟩
     |false=>
      rw[OT (λq=>absurd (B.mpr q) bB)] at f;have P:=Ef A.in1 ⟨o,g,d,tk,os⟩ a t c u prog w
      wp_walk using P
      show⟨_,rfl,‹f›⟩
  case fin=>
   rintro⟨U,X⟩ s' ⟨r,rfl,vs,ws,j,m,hz,v,p,hlen,f⟩;simp only at r;subst r;have C:lexLt j m=decide (items.size<i.size):=by
    cases v with
    |nil=>
     cases p with
     |nil=>
      simp only[kI] at hlen;rw[BD];show (OW ()).symm
     |cons c u hw=>
      simp only[kI,cE] at hlen;rw[Bv];show (OV ()).symm
    |cons a t C=>
     cases p with
     |nil=>
      simp only[kI,cE] at hlen;rw[Bw];show (OW ()).symm
     |cons c u hw=>
      rw[Me] at hz;cases hz
   rw[C] at f
   wp_walk
   show⟨_,rfl,by simpa [Builtin.Tuple.tupleCompareSizes] using f⟩
  case h=>
   show⟨rfl,rfl,items.toList,i.toList,ns,ms,rfl,hi,z,(),h⟩
end
section
variable {prog:Program}
theorem lt_tupInts{l b:Addr}{items a:Array Value}{ns ms:List Int}{Q:Value->Shared->Prop}(i:IsTup s.heap l items)(j:IsTup s.heap b a)(hi:IntsAre items.toList ns)(m:IntsAre a.toList ms)
  (o:A.units<cLine) (h:Q (.bool (lexLt ns ms)) s):wpAny (model prog w) A (compareOp .Lt (.ref l) (.ref b)) Q E s:=by
 obtain⟨⟨cls,dd,data,sl⟩,c,d,n,hd⟩:=id i;obtain⟨⟨u,p,data2,q⟩,e,f,r,g⟩:=id j;simp only at d hd f g;subst d hd f g;show richCompare_meets_room (op:=.Lt) ⟨_,c,rfl⟩ ⟨_,e,rfl⟩ PySem.F.slot_tuple_lt PySem.F.entry_tuple_lt (PySem.F.args_tuple_lt_2 _ _) (BA l b items a n r dd p sl q ns ms hi m)
  ⟨c,e,show Value.bool (lexLt ns ms)≠Value.notImplemented/\Q (.bool (lexLt ns ms)) s from ⟨(λx=>nomatch x),h⟩⟩ o
theorem cat_tup{t b:Addr}{vs ws:List Value}{Q:Value->Shared->Prop}(m:IsTup s.heap t vs.toArray)(o:IsTup s.heap b ws.toArray)(d:vs≠[])
  (h1:ws=[]->Q (.ref t) s) (h2:ws≠[]->Q (.ref ↥s) {s with heap:=s.heap.push {cls:=.type "tuple",data:=.seq (vs++ws).toArray}})
  (hsz:vs.length+ws.length<=sizeLine):wpAny (model prog w) A (binaryOp .Add (.ref t) (.ref b)) Q E s:=by
 obtain⟨⟨cls,dd,data,sl⟩,a,f,n,hd⟩:=id m;obtain⟨⟨p,g,data2,h⟩,c,i,j,l⟩:=id o;simp only at f hd i l;subst f hd i l;have e:vs.toArray++ws.toArray=(vs++ws).toArray:=∅;by_cases hw:ws=[]
 .exact concat_meets ⟨_,a,rfl⟩ ⟨_,c,rfl⟩ Nc seq_tuple_add MM MB (My _ _)
   (tuple_addW1 t b vs.toArray ws.toArray n j dd g sl h ‹d› (by simp[hw])) ⟨a,c,h1 hw⟩
 show concat_meets ⟨_,a,rfl⟩ ⟨_,c,rfl⟩ Nc seq_tuple_add MM MB (My _ _)
  (tuple_addW2 t b vs.toArray ws.toArray n j dd g sl h ‹d› ‹hw› (by rw[bx,bx];show hsz)) ⟨a,c,?_⟩
 rw[e];show h2 hw
def sIx(n d:Nat):Option Int->Nat
 |none=>d
 |some v=>if v<0 then (v+(n:Int)).toNat else min v.toNat n
theorem sIx_none(n d:Nat):sIx n d none=d:=rfl
theorem sIx_nat(n d k:Nat):sIx n d (some (k:Int))=min k n:=by change (if (k:Int)<0 then ((k:Int)+(n:Int)).toNat else min (k:Int).toNat n)=min k n;rw[OT (),kG]
theorem IJ(n d:Nat)(hd:d<=n)(o:Option Int):sIx n d o<=n:=by
 cases o with
 |none=>show hd
 |some v=>
  change (if v<0 then (v+(n:Int)).toNat else min v.toNat n)<=n;by_cases a:v<0
  .rw[OU a];lia
  rw[OT a];show Ml _ _
theorem yQ(v:Int)(n d:Nat):(if v<0 then max (v+(n:Int)) 0 else min v (n:Int))=((sIx n d (some v):Nat):Int):=by
 change (if v<0 then max (v+(n:Int)) 0 else min v (n:Int))=(((if v<0 then (v+(n:Int)).toNat else min v.toNat n):Nat):Int);by_cases a:v<0
 .simp only[OU a];lia
 simp only[OT a];lia
theorem Cw(lo hi:Option Int)(n:Nat):Builtin.Slice.sliceAdjust lo hi 1 (n:Int)=(((sIx n 0 lo:Nat):Int),((sIx n n hi:Nat):Int)):=by
 have h1:¬((1:Int)<0):=();unfold Builtin.Slice.sliceAdjust;simp only[h1,if_false];show kL ?_ ?_
 .cases lo with
  |none=>rfl
  |some v=>show yQ v n 0
 cases hi with
 |none=>rfl
 |some v=>show yQ v n n
theorem Cf(i j:Nat):Builtin.Slice.slicePlaces (i:Int) (j:Int) 1=j-i:=by
 unfold Builtin.Slice.slicePlaces;have h1:(1:Int)>0:=();simp only[h1,if_true,Int.ediv_one]
 split<;>lia
theorem vG{v:Value}{o:Option Int}{Q:Option Int->Shared->Prop}(p:IsPart v o)(h:Q o s):wpAny (model prog w) A (Builtin.Slice.slicePartIndex v) Q E s:=by
 cases p with
 |none=>show uY h
 |int i t=>show slicePart_int h
theorem vh{sl:Addr}{a b:Value}{lo hi:Option Int}{n:Nat}{Q:Int×Int×Nat->Shared->Prop}(e:s.heap.IsSliceOf sl a b .none)(pl:IsPart a lo)(pu:IsPart b hi)
  (h:Q (((sIx n 0 lo:Nat):Int),1,sIx n n hi-sIx n 0 lo) s):wpAny (model prog w) A (Builtin.Slice.sliceApplied (.ref sl) (pure (n:Int))) Q E s:=by
 obtain⟨os,c,f,d⟩:=id e;unfold Builtin.Slice.sliceApplied Builtin.Slice.sliceFields;show aa (aa (bQ c d (x:=a) rfl (aa (bQ c d (x:=b) rfl (aa (bQ c d (x:=.none) rfl (af ?_)))))));show aa (uY ?_);change wpAny _ _ (if ((1:Int)==0)=true then _ else _) _ _ s;rw[OT ⋯];show aa (vG pl (aa (vG pu (aa (af ?_)))));change wpAny _ _ (match Builtin.Slice.sliceAdjust lo hi 1 (n:Int) with|(lo,hi)=>pure (lo,(1:Int),Builtin.Slice.slicePlaces lo hi 1)) _ _ s;rw[Cw lo hi n];change wpAny _ _ (pure (((sIx n 0 lo:Nat):Int),(1:Int),Builtin.Slice.slicePlaces ((sIx n 0 lo:Nat):Int) ((sIx n n hi:Nat):Int) 1)) _ _ s;rw[Cf];show af h
theorem Eo(xs:Array Value)(i k:Nat):((List.range k).filterMap λ(m:Nat)=>xs[((i:Int)+(m:Int)*1).toNat]?).toArray=((xs.toList.drop i).take k).toArray:=by
 have e:(λ(m:Nat)=>xs[((i:Int)+(m:Int)*1).toNat]?)=λm=>xs[i+m]?:=by funext m;have:((i:Int)+(m:Int)*1).toNat=i+m:=();rw[this]
 rw[e];have:=pick_run xs i k;rw[List.filterMap_map] at this;have a:((λx=>xs[x]?) ∘ λx=>i+x)=λm=>xs[i+m]?:=rfl;rw[a] at this;rw[this]
theorem getItem_tuple_cut{t sl:Addr}{items:Array Value}{c d:Value}{lo hi:Option Int}{Q:Value->Shared->Prop}(a:IsTup s.heap t items)(e:s.heap.IsSliceOf sl c d .none)(pl:IsPart c lo)(pu:IsPart d hi)
  (hw:¬(sIx items.size 0 lo=0/\sIx items.size items.size hi=items.size))
  (h:Q (.ref ↥s) {s with heap:=s.heap.push {cls:=.type "tuple",data:=.seq ((items.toList.drop (sIx items.size 0 lo)).take (sIx items.size items.size hi-sIx items.size 0 lo)).toArray}})
  (hsz:items.size<=sizeLine):wpAny (model prog w) A (getItem (.ref t) (.ref sl)) Q E s:=by
 have b:sizeOk (.seq ((items.toList.drop (sIx items.size 0 lo)).take (sIx items.size items.size hi-sIx items.size 0 lo)).toArray):=by change ((items.toList.drop (sIx items.size 0 lo)).take (sIx items.size items.size hi-sIx items.size 0 lo)).toArray.size<=sizeLine;rw[bx,bu,cF,qz];lia
 have l:sIx items.size items.size hi<=items.size:=IJ _ _ (aq _) hi;obtain⟨os,f,g,n⟩:=id e;have i:s.TypeIs (.ref sl) "slice":=⟨os,f,g⟩;unfold getItem
 try with_reducible show cL ?_
 first|show aa (af ?_)|skip
 show aa (Bn a.typeIs ⋯ ?_);show aa (iS (name:=Str.ofString "__getitem__") a.typeIs jx
  (fu jx a.typeIs A4 ?_ (A1 _ _)))
 change wpAny _ _ (Builtin.Tuple.tupleItemsOf (.ref t) >>= _) _ _ s;show aa (A_ a ?_);show aa (qZ i ?_);rw[OU ⋯];show aa (vh e pl pu ?_);have j:¬((((sIx items.size 0 lo:Nat):Int)==0&&(1:Int)==1&&(sIx items.size items.size hi-sIx items.size 0 lo)==items.size)=true):=by intro q;rw[gH,gH] at q;have o:((sIx items.size 0 lo:Nat):Int)=0:=eq_of_beq q.1.1;have p:sIx items.size items.size hi-sIx items.size 0 lo=items.size:=eq_of_beq q.2;show hw ⟨(),()⟩
 change wpAny _ _ (if (((sIx items.size 0 lo:Nat):Int)==0&&(1:Int)==1&&(sIx items.size items.size hi-sIx items.size 0 lo)==items.size)=true then _ else _) _ _ s;rw[OT j,Eo]
 first
  |show aa (m:=Builtin.Tuple.tupleExact _) (dW (af ⟨_,rfl,af h⟩) b)
  |show aa (m:=Builtin.Tuple.tupleExact _) (dW (aa (af (af ⟨_,rfl,af h⟩))) b)
  |show aa (aa (m:=Builtin.Tuple.tupleExact _) (dW (af (af ⟨_,rfl,af h⟩)) b))
  |show aa (aa (m:=Builtin.Tuple.tupleExact _) (dW (af ⟨_,rfl,af h⟩) b))
end
end HT
namespace L2
open PySem PySem.Spec PyProof.Rows
abbrev TO:=St->Hp->(Option Int->Hp->Prop)->Prop
def PO(X:Cx)(e:Option Expr)(t:TO):Prop:=
 ∀(OY:List (Addr×Obj))(s:Shared)(Z:St)(H:Hp)(Q:Option Int->Hp->Prop),Inv X OY Z H s->t Z H Q->
  wpAny ⇑X X.A (evalPart e X.env) (λu s'=>∃o H',Inv X OY Z H' s'/\IsPart u o/\Q o H') X.xe s
def FI:TO:=λ_ H Q=>Q none H
def Ib(Q:Option Int->Hp->Prop)(x:V)(H1:Hp)(i:Int):Prop:=x=.int i/\Q (some i) H1
def Ia(Q:Option Int->Hp->Prop):VK:=λx H1=>Exists (Ib Q x H1)
def JY(t:TE):TO:=λZ H Q=>t Z H (Ia Q)
theorem nK{ns:List Int}:∀{us:List Value},Vals (ns.map V.int) us->IntsAre us ns:=by
 induction ns with
 |nil=>intro us r;rw[Ay] at r;cases r;show .nil
 |cons n ns a=>
  intro us r;rw[aY] at r;cases r with
  |cons b c=>
   obtain⟨t,e⟩:=b;subst e;show .cons n t (a c)
section
variable {e:Expr}{te:TE}{lo hi:Option Expr}{tl th:TO}{pos p2:Pos}
theorem iB:PO X none FI:=by intro OY s Z H Q I h;rw[A5];show af ⟨none,H,I,.none,h⟩
theorem iA(h:PE X e te):PO X (some e) (JY te):=by intro OY s Z H Q I hw;rw[evalPart_some];show thn (h OY s Z H _ I hw) λu s1 ⟨x,H1,a,b,c⟩=>?_;obtain⟨i,rfl,q⟩:=c;obtain⟨t,rfl⟩:=b;show⟨some i,H1,a,.int i t,q⟩
def SlR(X:Cx)(r:V->Option Int->Option Int->Hp->VK->Prop):Prop:=
 ∀(OY:List (Addr×Obj))(s:Shared)(Z:St)(H:Hp)(x:V)(v a b:Value)(lo hi:Option Int)(sl:Addr)(Q:VK),Inv X OY Z H s->az x v->s.heap.IsSliceOf sl a b .none->IsPart a lo->IsPart b hi->r x lo hi H Q->
  ∃T id,typeLookup (.type T) "__getitem__" = pure (some (.builtin id))/\s.TypeIs v T/\wpAny ⇑X X.A (getItem v (.ref sl)) (EP X OY Z Q) X.xe s
def tSl3(r:V->Option Int->Option Int->Hp->VK->Prop)(x:V)(l:Option Int)(Q:VK):Option Int->Hp->Prop:=λu a=>r x l u a Q
def tSl2(r:V->Option Int->Option Int->Hp->VK->Prop)(th:TO)(Z:St)(x:V)(Q:VK):Option Int->Hp->Prop:=λl H2=>th Z H2 (tSl3 r x l Q)
def tSl1(r:V->Option Int->Option Int->Hp->VK->Prop)(tl th:TO)(Z:St)(Q:VK):VK:=λx H1=>tl Z H1 (tSl2 r th Z x Q)
def tSl(r:V->Option Int->Option Int->Hp->VK->Prop)(te:TE)(tl th:TO):TE:=λZ H Q=>te Z H (tSl1 r tl th Z Q)
theorem iu{r:V->Option Int->Option Int->Hp->VK->Prop}(g:SlR X r)(he:PE X e te)(i:PO X lo tl)(j:PO X hi th):PE X (.Subscript e (.Slice lo hi none p2) pos) (tSl r te tl th):=by intro OY s Z H Q I h;show uW (thn (he OY s Z H _ I h) λv s1 ⟨x,H1,m,n,o⟩=>?_);show wpAny_Slice (thn (i OY s1 Z H1 _ m o) λc s2 ⟨l,H2,p,pl,y⟩=>thn (j OY s2 Z H2 _ p y) λd a ⟨u,f,z,pu,B⟩=>?_);rw[A5];show af ?_;have C:Inv X OY Z f {a with heap:=a.heap.push {cls:=.type "slice",data:=.fields #[c,d,.none]}}:=z.kept (t':=a.toks) λb ob q=>aE _ q;obtain⟨T,id,D,E,J⟩:=g OY {a with heap:=a.heap.push {cls:=.type "slice",data:=.fields #[c,d,.none]}} Z f x v c d l u ↥a Q C n (Lz ..) pl pu B;change wpAny ⇑X X.A (subscriptTail e (.Slice lo hi none p2) v (.ref ↥a)) (EP X OY Z Q) X.xe {a with heap:=a.heap.push {cls:=.type "slice",data:=.fields #[c,d,.none]}};show tail_any (ops:=[.ref ↥a,v]) E D J (by with_unfolding_all rfl)
def eA(xs:List V)(lo hi:Option Int):List V:=(xs.drop (HT.sIx xs.length 0 lo)).take (HT.sIx xs.length xs.length hi-HT.sIx xs.length 0 lo)
theorem vC(xs:List V)(lo hi:Option Int):(eA xs lo hi).length<=xs.length:=by unfold eA;rw[bu,cF];lia
def rSlT(K:W.Frag):V->Option Int->Option Int->Hp->VK->Prop:=λx lo hi H Q=>∃a xs,x=.ref a/\SqT K H a xs/\
 ¬(HT.sIx xs.length 0 lo=0/\HT.sIx xs.length xs.length hi=xs.length)/\∀p,H p=none->Q (.ref p) (upd H p (.tup (eA xs lo hi)))
theorem IG:SlR X (rSlT []):=by
 intro OY s Z H x v g i lo hi sl Q I d e pl pu h;obtain⟨a,xs,rfl,hx,hw,q⟩:=h;cases d;obtain⟨f,r,c,hz⟩:=I.tuple hx;have hlen:f.toArray.size=xs.length:=by rw[bx];show r.length.symm
 show⟨"tuple",_,jx.lookup,c.typeIs,?_⟩;show HT.getItem_tuple_cut c e pl pu (by rw[hlen];show hw) ?_ (by rw[hlen];show hz);rw[hlen];show⟨.ref ↥s,_,I.laid (t':=s.toks) (o:=.tup (eA xs lo hi)) (λb ob q=>aE _ q) (aq _) ?_,rfl,q _ (I.hok.fresh (aq _))⟩;show⟨⟨dn (vC xs lo hi) hz,_,br _ rfl,rfl⟩,_,(r.drop (HT.sIx xs.length 0 lo)).take (HT.sIx xs.length xs.length hi-HT.sIx xs.length 0 lo),uF _ _⟩
def KS(K:W.Frag):R2:=λx y H Q=>∃a b xs ys,x=.ref a/\y=.ref b/\SqT K H a xs/\SqT K H b ys/\xs≠[]/\xs.length+ys.length<=sizeLine/\
 (ys=[]->Q (.ref a) H)/\(ys≠[]->∀p,H p=none->Q (.ref p) (upd H p (.tup (xs++ys))))
theorem Vals.nil_iff(r:Vals xs us):us=[]↔xs=[]:=by
 cases r with
 |nil=>simp
 |cons _ _=>simp
theorem Gu:OpR X (binaryOp .Add) (KS []):=by intro OY s Z H x y v u Q I e f h;obtain⟨a,b,xs,ys,rfl,rfl,ha,g,hx,hz,i,j⟩:=h;cases e;cases f;obtain⟨l,d,p1,_⟩:=I.tuple ha;obtain⟨m,c,p2,_⟩:=I.tuple g;show HT.cat_tup p1 p2 (λz=>hx (d.nil_iff.mp z)) (λz=>⟨.ref a,H,I,rfl,i (c.nil_iff.mp z)⟩) (λz=>?_) (by rw[<-d.length,<-c.length];show hz);show⟨.ref ↥s,_,I.laid (t':=s.toks) (o:=.tup (xs++ys)) (λb ob q=>aE _ q) (aq _) ?_,rfl,j (λw=>z (c.nil_iff.mpr w)) _ (I.hok.fresh (aq _))⟩;show⟨⟨by rw[aU];show hz,_,br _ rfl,rfl⟩,_,d.append c,uF _ _⟩
end
end L2
namespace L2
open PySem PySem.Spec PyProof.Rows
def ixN(n:Nat)(i:Int):Option Nat:=if 0<=i then (if i<n then some i.toNat else none) else if -(n:Int)<=i then some (i+n).toNat else none
def atI{α:Type}(xs:List α)(i:Int):Option α:=(ixN xs.length i).bind λj=>xs[j]?
theorem s_{n:Nat}{i:Int}{j:Nat}(h:ixN n i=some j):seqIndex? i n=some j/\j<n/\-(n:Int)<=i/\i<n:=by
 unfold ixN at h;by_cases a:0<=i
 .rw[OU a] at h;by_cases h1:i<n
  .rw[OU h1] at h;have e:i.toNat=j:=dz h;show⟨by rw[A9 a h1,e],(),(),h1⟩
  rw[OT h1] at h;cases h
 rw[OT a] at h;by_cases h1:-(n:Int)<=i
 .rw[OU h1] at h;have e:(i+n).toNat=j:=dz h;show⟨by rw[A8 () h1,e],(),h1,()⟩
 rw[OT h1] at h;cases h
theorem yW{α:Type}{xs:List α}{i:Int}{v:α}(h:atI xs i=some v):∃j,seqIndex? i xs.length=some j/\xs[j]?=some v/\j<xs.length/\-(xs.length:Int)<=i/\i<xs.length:=by
 unfold atI at h;cases e:ixN xs.length i with
 |none=>rw[e] at h;cases h
 |some j=>
  rw[e] at h;obtain⟨h1,h2,a,b⟩:=s_ e;show⟨j,h1,h,h2,a,b⟩
theorem bO{α:Type}{xs:List α}{j:Nat}{v:α}(h:xs[j]?=some v):atI xs (j:Int)=some v:=by
 have a:j<xs.length:=(aI.mp h).1;have e:ixN xs.length (j:Int)=some j:=by unfold ixN;rw[OU (),OU ()];simp
 unfold atI;rw[e];show h
def yY(b:Expr):Prop:=∀o i,subscripted b false o i=operate [o,i] (getItem o i)
def IxR(X:Cx)(r:R2):Prop:=
 ∀(value slice:Expr)(OY:List (Addr×Obj))(s:Shared)(Z:St)(H:Hp)(x y:V)(v u:Value)(Q:VK),Inv X OY Z H s->az x v->az y u->r x y H Q->
  subscripted slice false v u=operate [v,u] (getItem v u)->wpAny ⇑X X.A (subscriptTail value slice v u) (EP X OY Z Q) X.xe s
def MtR(X:Cx)(id:String)(r:V->List V->Hp->VK->Prop):Prop:=
 ∀(OY:List (Addr×Obj))(s:Shared)(Z:St)(H:Hp)(x:V)(xs:List V)(v:Value)(us:List Value)(Q:VK),Inv X OY Z H s->az x v->Vals xs us->r x xs H Q->
  wpAny ⇑X X.A (call (.builtin id) (v::us)) (EP X OY Z Q) X.xe s
section
variable {a b:Expr}{ta tb:TE}{pos:Pos}
theorem Aa{r:R2}(c:IxR X r)(ha:PE X a ta)(d:PE X b tb)(e:yY b):PE X (.Subscript a b pos) (tOp r ta tb):=by intro OY s Z H Q I h;show uW (uy ha d I h λv u s2 x y H2 f g i q=>c a b OY s2 Z H2 x y v u Q f g i q (e _ _))
theorem ixx{r:R2}(c:IxR X r)(ha:PE X a ta)(d:PE X b tb)(e:yY b:=by (intro _ _;rfl)):PE X (.Subscript a b pos) (tOp r ta tb):=Aa c ha d e
def KN(K:W.Frag)(x y:V)(H:Hp)(Q:VK)(p:Addr)(xs:List V)(i:Int)(v:V):Prop:=x=.ref p/\y=.int i/\SqL K H p xs/\atI xs i=some v/\Q v H
def rIxL(K:W.Frag):R2:=λx y H Q=>Exists (Ex4 (KN K x y H Q))
def KM(K:W.Frag)(x y:V)(H:Hp)(Q:VK)(p:Addr)(xs:List V)(i:Int)(v:V):Prop:=x=.ref p/\y=.int i/\SqT K H p xs/\atI xs i=some v/\Q v H
def rIxT(K:W.Frag):R2:=λx y H Q=>Exists (Ex4 (KM K x y H Q))
theorem cQ:IxR X (rIxL []):=by
 intro value slice OY s Z H x y v u Q I e f h b;obtain⟨p,xs,i,z,rfl,rfl,g,he,q⟩:=h;cases e;obtain⟨t,rfl⟩:=f;obtain⟨l,r,pl,hz⟩:=I.list g;obtain⟨j,h1,h2,B,m,n⟩:=yW he;obtain⟨w,c,o⟩:=r.get h2;have A:=r.length;have C:=line63;have fin:EP X OY Z Q w s:=⟨z,H,I,o,q⟩;by_cases d:0<=i
 .have a:i.toNat=j:=by
   rw[A9 d n] at h1;show dz h1
  show item_listR pl.isList d () (by rw[a];simpa using c) fin b
 have a:(i+(l.toArray.size:Int)).toNat=j:=by rw[A8 () m] at h1;rw[bx,<-A];show dz h1
 show Nl (x:=w) pl.isList.typeIs Ni.lookup
  (wpAny_getItem_list_neg (Q:=λr s'=>r=w/\EP X OY Z Q r s') pl.isList () (by rw[bx]<;>lia) () (by rw[a];simpa using c) ⟨rfl,fin⟩) b
theorem bD:IxR X (rIxT []):=by
 intro value slice OY s Z H x y v u Q I a b h c;obtain⟨p,xs,i,z,rfl,rfl,d,he,q⟩:=h;cases a;obtain⟨t,rfl⟩:=b;obtain⟨l,r,pl,hz⟩:=I.tuple d;obtain⟨j,h1,h2,m,n,o⟩:=yW he;obtain⟨w,e,f⟩:=r.get h2;have g:=r.length;have A:=line63;have fin:EP X OY Z Q w s:=⟨z,H,I,f,q⟩;show Nl (x:=w) pl.typeIs Nk.lookup
  (getItem_tuple (j:=j) (Q:=λr s'=>r=w/\EP X OY Z Q r s') pl () () (by rw[bx,<-g];show h1) ‹e› ⟨rfl,fin⟩) c
theorem Cn(a:List Value)(n j:Nat)(u:Value):Obj.mapSeq (·.setIfInBounds j u) {cls:=.type "list",data:=.seq a.toArray n}={cls:=.type "list",data:=.seq (a.set j u).toArray n}:=by simp[Obj.mapSeq]
theorem Inv.lst{p:Addr}(I:Inv X OY Z H s)(h:H p=some (.lst xs)) :
  ∃(a:List Value)(n:Nat),Vals xs a/\s.heap.get? p=some {cls:=.type "list",data:=.seq a.toArray n}/\xs.length<=sizeLine:=by
 obtain⟨z,a,n,r,e⟩:=I.hok p _ h;show⟨a,n,r,e,z⟩
theorem Inv.lstUpd{p:Addr}{xs ys:List V}{c its':List Value}{n a:Nat}{f:Obj->Obj}(I:Inv X OY Z H s)(h:H p=some (.lst xs))
  (d:s.heap.get? p=some {cls:=.type "list",data:=.seq c.toArray n}) (hf:f {cls:=.type "list",data:=.seq c.toArray n}={cls:=.type "list",data:=.seq its'.toArray a}) (r:Vals ys its') (hz:ys.length<=sizeLine) (t:Nat) :
  Inv X OY Z (upd H p (.lst ys)) {s with heap:=s.heap.update p f,toks:=t}:=by
 have e:(s.heap.update p f).get? p=some {cls:=.type "list",data:=.seq its'.toArray a}:=by rw[d_ f d (by rw[hf]<;>rfl),hf]
 show I.write (x:=p) (e:=p) (by rw[h];trivial) (.inl rfl) (λb u g q=>(di _ _ (ax g)).trans q) ⟨_,e⟩ ?_;show⟨hz,its',a,r,e⟩
def IV(o i v:V)(H:Hp)(Q:Hp->Prop)(p:Addr)(xs:List V)(k:Int)(j:Nat):Prop:=o=.ref p/\i=.int k/\H p=some (.lst xs)/\ixN xs.length k=some j/\WrO H p (.lst (xs.set j v)) Q
def KH:V->V->V->Hp->(Hp->Prop)->Prop:=λo i v H Q=>Exists (Ex4 (IV o i v H Q))
theorem rN:PSet X KH:=by
 intro OY s Z H o i v ov A u Q I w x y h;obtain⟨p,xs,k,j,rfl,rfl,d,z,q⟩:=h;replace q:=q.at;cases w;obtain⟨t,rfl⟩:=x;obtain⟨e,n,r,a,hz⟩:=I.lst d;obtain⟨h1,h2,f,g⟩:=s_ z;have b:=r.length;have B:=line63;have l:Inv X OY Z (upd H p (.lst (xs.set j v))) {s with heap:=s.heap.update p (Obj.mapSeq (·.setIfInBounds j u))}:=
  I.lstUpd d a (Cn e n j u) (r.set y j) (by rw[List.length_set];show hz) s.toks
 by_cases m:0<=k
 .have c:k.toNat=j:=by
   rw[A9 m g] at h1;show dz h1
  show W.ki_setAt a m () (by rw[bx,<-b];show g) (by rw[c];show⟨_,l,q⟩)
 have c:(k+(e.toArray.size:Int)).toNat=j:=by rw[A8 () f] at h1;rw[bx,<-b];show dz h1
 show W.ki_setBack a () (by rw[bx,<-b];show f) () (by rw[c];show⟨_,l,q⟩)
theorem BI(lo hi:Option Int)(n:Nat):(sliceBounds lo hi none n).1=((HT.sIx n 0 lo:Nat):Int)/\(sliceBounds lo hi none n).2.1=((HT.sIx n n hi:Nat):Int)/\(sliceBounds lo hi none n).2.2=1:=by
 show⟨?_,?_,rfl⟩
 .cases lo with
  |none=>simp[sliceBounds,HT.sIx]
  |some i=>
   simp only[sliceBounds,HT.sIx,Mr,show (1:Int)>0 by decide,if_true];by_cases h:i<0
   .simp only[h,if_true]<;>lia
   simp only[h,if_false]<;>lia
 cases hi with
 |none=>simp[sliceBounds,HT.sIx]
 |some i=>
  simp only[sliceBounds,HT.sIx,Mr,show (1:Int)>0 by decide,if_true];by_cases h:i<0
  .simp only[h,if_true]<;>lia
  simp only[h,if_false]<;>lia
theorem BB(a:List Value)(lo hi:Option Int):slicePick a.toArray lo hi none=((a.drop (HT.sIx a.length 0 lo)).take (HT.sIx a.length a.length hi-HT.sIx a.length 0 lo)).toArray:=by obtain⟨h1,h2,b⟩:=BI lo hi a.toArray.size;unfold slicePick;rw[h1,h2,b];simp only[sliceRange_one,pick_run,bx]<;>rfl
def KG(K:W.Frag)(x:V)(lo hi:Option Int)(H:Hp)(Q:VK)(a:Addr)(xs:List V):Prop:=x=.ref a/\SqL K H a xs/\fZ H (.lst (eA xs lo hi)) Q
def rSlL(K:W.Frag):V->Option Int->Option Int->Hp->VK->Prop:=λx lo hi H Q=>Exists (Ex2 (KG K x lo hi H Q))
theorem jL:SlR X (rSlL []):=by intro OY s Z H x v f g lo hi sl Q I d e pl pu h;obtain⟨a,xs,rfl,hx,q⟩:=h;cases d;obtain⟨i,r,c,hz⟩:=I.list hx;have hlen:=r.length;show⟨"list",_,Ni.lookup,c.isList.typeIs,?_⟩;show wpAny_getItem_list_slice c.isList e pl pu .none ∅ ?_ (by rw[bx]<;>lia);rw[BB,<-hlen];show⟨.ref ↥s,_,I.laid (t':=s.toks) (o:=.lst (eA xs lo hi)) (λb ob q=>aE _ q) (aq _) ?_,rfl,q.at (I.hok.fresh (aq _))⟩;show⟨dn (vC xs lo hi) hz,_,0,(r.drop (HT.sIx xs.length 0 lo)).take (HT.sIx xs.length xs.length hi-HT.sIx xs.length 0 lo),br _ rfl⟩
def fV:V->Bool
 |.non=>true
 |.bl _=>true
 |.int _=>true
 |.str _=>true
 |_=>false
def eqV:V->V->Bool
 |.non,.non=>true
 |.bl a,.bl b=>a==b
 |.bl a,.int b=>(if a then 1 else 0)==b
 |.int a,.bl b=>a==(if b then 1 else 0)
 |.int a,.int b=>a==b
 |.str a,.str b=>a==b
 |_,_=>false
theorem JF{y x:V}{u v:Value}(d:az y u)(c:az x v)(f:fV y=true)(e:fV x=true):SeqAt.EqAt A s u v (eqV y x):=by
 cases y with
 |non=>
  cases d;cases x with
  |non=>cases c;show OO _
  |bl b=>cases c;show OL b
  |int b=>obtain⟨t,rfl⟩:=c;show OM b t
  |str b=>obtain⟨t,rfl⟩:=c;show ON b t
  |_=>show absurd (show false=true from e) bB
 |bl a=>
  cases d;cases x with
  |non=>cases c;show OG a
  |bl b=>cases c;show OE a b
  |int b=>obtain⟨t,rfl⟩:=c;show OF a b t
  |str b=>obtain⟨t,rfl⟩:=c;show OH a b t
  |_=>show absurd (show false=true from e) bB
 |int a=>
  obtain⟨t',rfl⟩:=d;cases x with
  |non=>cases c;show OJ a t'
  |bl b=>cases c;show OI a t' b
  |int b=>obtain⟨t,rfl⟩:=c;show M0 a t' b t
  |str b=>obtain⟨t,rfl⟩:=c;show M4 a t' b t
  |_=>show absurd (show false=true from e) bB
 |str a=>
  obtain⟨t',rfl⟩:=d;cases x with
  |non=>cases c;show OQ a t'
  |bl b=>cases c;show OP a t' b
  |int b=>obtain⟨t,rfl⟩:=c;show M5 a t' b t
  |str b=>obtain⟨t,rfl⟩:=c;show OR a t' b t
  |_=>show absurd (show false=true from e) bB
 |_=>show absurd (show false=true from f) bB
def eqU(x:V)(u:Value):Bool:=match u with
 |.none=>eqV .non x
 |.bool b=>eqV (.bl b) x
 |.int i _=>eqV (.int i) x
 |.str z _=>eqV (.str z) x
 |_=>false
theorem zD{x y:V}{u:Value}(r:az y u)(f:fV y=true):eqU x u=eqV y x:=by
 cases y with
 |non=>cases r;rfl
 |bl b=>cases r;rfl
 |int i=>obtain⟨t,rfl⟩:=r;rfl
 |str z=>obtain⟨t,rfl⟩:=r;rfl
 |_=>show absurd (show false=true from f) bB
theorem jS{x:V}:∀{xs:List V}{us:List Value},Vals xs us->xs.all fV=true->us.any (eqU x)=xs.any λy=>eqV y x
 |_,_,.nil,_=>rfl
 |y::xs,u::us,.cons r t,f=>by
  rw[Al,gH] at f;rw[qF,qF,zD r f.1,jS t f.2]
theorem jJ{x:V}{v:Value}(b:az x v)(c:fV x=true):∀{xs:List V}{us:List Value},Vals xs us->xs.all fV=true->∀u∈us,SeqAt.EqAt A s u v (eqU x u)
 |_,_,.nil,_=>λu a=>by cases a
 |y::xs,u::us,.cons r t,f=>λd a=>by
  rw[Al,gH] at f;rcases aG.mp a with rfl|a
  .rw[zD r f.1];show JF r b f.1 c
  show jJ b c t f.2 d a
def inV(x:V)(xs:List V):Bool:=xs.any λy=>eqV y x
def rInB(K:W.Frag)(neg:Bool)(x y:V)(H:Hp)(Q:VK)(p:Addr)(xs:List V):Prop:=y=.ref p/\(SqL K H p xs\/SqT K H p xs)/\fV x=true/\xs.all fV=true/\Q (.bl (if neg then !inV x xs else inV x xs)) H
def rIn(K:W.Frag)(neg:Bool):R2:=λx y H Q=>Exists (Ex2 (rInB K neg x y H Q))
theorem rE:OpR X (compareOp .In) (rIn [] false):=by
 intro OY s Z H x y v u Q I c e h;obtain⟨p,xs,rfl,a,d,fs,q⟩:=h;cases e;rcases a with a|a
 .obtain⟨b,r,pl,hz⟩:=I.list a;show SeqAt.in_listAt (eqU x) pl.isList (λw hw=>jJ c d r fs w ‹hw›) ⟨.bl _,H,I,rfl,?_⟩;rw[show b.toArray.any (eqU x)=b.any (eqU x) by simp,jS r fs];show q
 obtain⟨b,r,pl,hz⟩:=I.tuple a;show M6 (eqU x) pl (λw hw=>jJ c d r fs w ‹hw›) ⟨.bl _,H,I,rfl,?_⟩;rw[show b.toArray.any (eqU x)=b.any (eqU x) by simp,jS r fs];show q
theorem ij:OpR X (compareOp .NotIn) (rIn [] true):=by
 intro OY s Z H x y v u Q I c e h;obtain⟨p,xs,rfl,a,d,fs,q⟩:=h;cases e;rcases a with a|a
 .obtain⟨b,r,pl,hz⟩:=I.list a;show SeqAt.notIn_listAt (eqU x) pl.isList (λw hw=>jJ c d r fs w ‹hw›) ⟨.bl _,H,I,rfl,?_⟩;rw[show b.toArray.any (eqU x)=b.any (eqU x) by simp,jS r fs];show q
 obtain⟨b,r,pl,hz⟩:=I.tuple a;show SeqAt.notIn_tupleAt (eqU x) pl (λw hw=>jJ c d r fs w ‹hw›) ⟨.bl _,H,I,rfl,?_⟩;rw[show b.toArray.any (eqU x)=b.any (eqU x) by simp,jS r fs];show q
def IY(K:W.Frag)(xs:List V)(H:Hp)(Q:VK)(p:Addr)(ys:List V):Prop:=xs=[.ref p]/\(SqL K H p ys\/SqT K H p ys)/\Q (.int ys.length) H
def z9(K:W.Frag):List V->Hp->VK->Prop:=λxs H Q=>Exists (Ex2 (IY K xs H Q))
theorem BM:cV X (.builtin "len") (z9 []):=by
 intro OY s Z H xs us Q I r h;obtain⟨p,ys,rfl,a,q⟩:=h;obtain⟨u,rfl,c⟩:=vals1 r;cases c;have e:=line63;rcases a with a|a
 .obtain⟨d,b,pl,hz⟩:=I.list a;have hlen:=b.length;show Calls.call_len_list pl.isList (by simp only[bx]<;>lia) ⟨.int ys.length,H,I.tok _,⟨s.toks+1,by rw[bx,hlen]⟩,q⟩
 obtain⟨d,b,pl,hz⟩:=I.tuple a;have hlen:=b.length;show len_tuple pl (by simp only[bx]<;>lia) ⟨.int ys.length,H,I.tok _,⟨s.toks+1,by rw[bx,hlen]⟩,q⟩
theorem pln{e:Expr}{te:TE}{p pos:Pos}(hm:X.mg "len" = none)(he:PE X e te)(b:Gl X "len":=by rfl)(a:starEach [e] X.env=(false,eval e X.env)::starEach [] X.env:=by rfl)(c:(backTo pos (starEach ([]:List Expr) X.env)).any (·.1)=false:=by rfl):PE X (.Call (.Name "len" p) [e] [] pos) (tCB (z9 []) (dv te eV)):=cz BM b hm MZ (ae he fg a) ⋯ ⋯ a c
def Gg(K:W.Frag)(xs:List V)(H:Hp)(Q:VK)(p:Addr)(ys:List V):Prop:=xs=[.ref p]/\(SqL K H p ys\/SqT K H p ys)/\fZ H (.lst ys) Q
def IX(K:W.Frag):List V->Hp->VK->Prop:=λxs H Q=>Exists (Ex2 (Gg K xs H Q))
theorem BL:cV X (.type "list") (IX []):=by
 intro OY s Z H xs us Q I r h;obtain⟨p,ys,rfl,f,q⟩:=h;obtain⟨u,rfl,j⟩:=vals1 r;cases j;have fin:∀(a:List Value),Vals ys a->ys.length<=sizeLine->∀(h':Heap)(c:Nat),(∀b o',s.heap.get? b=some o'->h'.get? b=some o')->
   h'.get? ↥s=some {cls:=.type "list",dict:=none,data:=.seq a.toArray c,slots:=#[]}->EP X OY Z Q (.ref ↥s) {s with heap:=h'}:=λa d hz h' c kp e=>
  ⟨.ref ↥s,_,I.laid (t':=s.toks) kp (aq _) (show aV X.prog X.w _ h' _ (.lst ys) from ⟨hz,a,c,d,e⟩),rfl,q.at (I.hok.fresh (aq _))⟩
 rcases f with f|f
 .obtain⟨a,d,pl,hz⟩:=I.list f;have hlen:=d.length;obtain⟨o,g,i,n,hd⟩:=pl.isList;show call_list_seq p (.inl rfl) g i hd (λh' c kp e=>fin a d hz h' c kp e) (by simp only[bx]<;>lia)
 obtain⟨a,d,pl,hz⟩:=I.tuple f;have hlen:=d.length;obtain⟨o,g,i,n,hd⟩:=pl;show call_list_seq p (.inr rfl) g i hd (λh' c kp e=>fin a d hz h' c kp e) (by simp only[bx]<;>lia)
theorem lg:cV X (.type "tuple") (λxs H Q=>∃p ys,xs=[.ref p]/\((SqL [] H p ys/\∀l,H l=none->Q (.ref l) (upd H l (.tup ys)))\/(SqT [] H p ys/\Q (.ref p) H))):=by
 intro OY s Z H xs us Q I r h;obtain⟨p,ys,rfl,h⟩:=h;obtain⟨u,rfl,g⟩:=vals1 r;cases g;rcases h with ⟨a,q⟩|⟨a,q⟩
 .obtain⟨c,d,pl,hz⟩:=I.list a;have hlen:=d.length;show call_tuple_list pl.isList (λh' kp=>?_) (by simp only[bx]<;>lia);have f:Inv X OY Z H {s with heap:=h'}:=I.kept (t':=s.toks) kp;have i:Inv X OY Z (upd H h'.objs.size (.tup ys)) {s with heap:=h'.push {cls:=.type "tuple",data:=.seq c.toArray}}:=
   f.laid (t':=s.toks) (λb o e=>aE _ e) (aq _) (show aV X.prog X.w _ _ _ (.tup ys) from ⟨⟨hz,_,br _ rfl,rfl⟩,c,d,uF _ _⟩)
  show⟨.ref h'.objs.size,_,i,rfl,q _ (f.hok.fresh (aq _))⟩
 obtain⟨c,d,pl,hz⟩:=I.tuple a;show call_tuple_same pl ⟨.ref p,H,I,rfl,q⟩
def tyV(K:W.Frag)(T:String)(x:V)(H:Hp):Prop:=match x with
 |.str _=>T = "str"
 |.int _=>T = "int"
 |.ref p=>(T = "list"/\∃xs,SqL K H p xs)\/(T = "tuple"/\∃o,K.lookup p=some o/\o.cls=.type "tuple"/\o.dict=none) \/
   (T = "dict"/\((∃kvs,H p=some (.dK kvs))\/∃kvs,H p=some (.dT kvs)))\/(T = "set"/\∃S n,H p=some (.set S n))
 |_=>False
theorem HX{T:String}{x:V}{v:Value}(I:Inv X OY Z H s)(r:az x v)(ty:tyV [] T x H) :
  s.TypeIs v T/\∀a,v=.ref a->∃ob,s.heap.get? a=some ob/\ob.dict=none:=by
 cases x with
 |str z=>
  obtain⟨t,rfl⟩:=r;cases (show T = "str" from ty);show⟨typeIs_str s z t,λ_ e=>nomatch e⟩
 |int i=>
  obtain⟨t,rfl⟩:=r;cases (show T = "int" from ty);show⟨typeIs_int s i t,λ_ e=>nomatch e⟩
 |ref p=>
  cases r;rcases ty with ⟨rfl,xs,f⟩|⟨rfl,o,b,g,hd⟩|⟨rfl,b⟩|⟨rfl,S,n,b⟩
  .obtain⟨h,_,pl,_⟩:=I.list f;show⟨pl.isList.typeIs,λa e=>?_⟩;cases e;obtain⟨o,n,e,c,hd,_⟩:=pl;show⟨o,e,hd⟩
  .cases b
  .have z:∃o,s.heap.get? p=some o/\o.ExactDict:=by
    rcases b with ⟨kvs,b⟩|⟨kvs,b⟩
    .obtain⟨_,_,_,_,o,_,_,e,ex,_⟩:=I.hok p _ b;show⟨o,e,ex⟩
    obtain⟨_,_,_,_,o,_,_,e,ex,_⟩:=I.hok p _ b;show⟨o,e,ex⟩
   obtain⟨o,e,ex⟩:=z;show⟨⟨o,e,ex.1⟩,λa d=>?_⟩;cases d;show⟨o,e,ex.2.1⟩
  obtain⟨o,_,_,_,e,ex,_⟩:=I.hok p _ b;show⟨⟨o,e,ex.1⟩,λa d=>?_⟩;cases d;show⟨o,e,ex.2.1⟩
 |_=>show False.elim ty
def tBM2(r:V->List V->Hp->VK->Prop)(x:V)(Q:VK):List V->Hp->Prop:=λxs H2=>r x xs H2 Q
def tBM1(K:W.Frag)(T:String)(r:V->List V->Hp->VK->Prop)(t:TA)(Z:St)(Q:VK):VK:=λx H1=>tyV K T x H1/\t Z H1 (tBM2 r x Q)
def tBM(K:W.Frag)(T:String)(r:V->List V->Hp->VK->Prop)(to:TE)(t:TA):TE:=λZ H Q=>to Z H (tBM1 K T r t Z Q)
variable {o e:Expr}{es:List Expr}{to:TE}{t:TA}{name:Str}{apos cpos:Pos}{T id:String}{r:V->List V->Hp->VK->Prop}
theorem dJ(d:PlainAttrs T)(slot:Slot T name id)(f:typeOf (.builtin id)=pure (.type "method_descriptor"))(hm:MtR X id r)(g:PE X o to)(ha:PA X (e::es) t)
  (i:attributeBase o name X.env (eval o X.env)=eval o X.env:=by rfl)
  (j:((backTo cpos (starEach (e::es) X.env)).all (λx=>!x.1)&&(backToKw cpos (keywordEach [] X.env)).all (λx=>x.1.isSome)
   && decide ((e::es).length+([]:List Keyword).length+(if ([]:List Keyword).isEmpty then 0 else 1)<30))=true:=by rfl)
  (l:(apos.endLine==cpos.line)=true:=by rfl) (m:starEach (e::es) X.env=(false,eval e X.env)::starEach es X.env:=by rfl) (n:(backTo cpos (starEach es X.env)).any (·.1)=false:=by rfl) :
  PE X (.Call (.Attribute o name apos) (e::es) [] cpos) (tBM [] T r to t):=by
 intro OY s Z H Q I h;show Np i j l rfl (thn (g OY s Z H _ I h) λv s1 ⟨x,H1,a,b,ty,p⟩=>?_);obtain⟨h1,h2⟩:=HX a b ty;show⟨T,id,d,slot,f,h1,h2,?_⟩;have c:=ha cpos OY s1 Z H1 _ a p;rw[m] at c |-;show kD (by change (false||(backTo cpos (starEach es X.env)).any (·.1))=false;rw[n]<;>rfl) (kE ?_);show thn c λus s2 ⟨vs,H2,q,u,w⟩=>hm OY s2 Z H2 x vs v us Q q b u w
end
end L2
namespace L2
open PySem PySem.Spec PyProof.Rows
def MtM(X:Cx)(id:String)(r:V->List V->Hp->VK->Prop):Prop:=
 ∀(OY:List (Addr×Obj))(s:Shared)(Z:St)(H:Hp)(x:V)(xs:List V)(v:Value)(us:List Value)(Q:VK),Inv X OY Z H s->az x v->Vals xs us->r x xs H Q->
  wpAny ⇑X X.A (call (.builtin id) (v::us)) (EP X OY Z Q) X.xe s
theorem Vals.one{x:V}(h:Vals [x] us):∃u,us=[u]/\az x u:=by
 cases h with
 |cons r t=>cases t;show⟨_,rfl,r⟩
theorem Vals.two{x y:V}(h:Vals [x,y] us):∃u v,us=[u,v]/\az x u/\az y v:=by
 cases h with
 |cons r t=>
  obtain⟨v,rfl,q⟩:=Vals.one t;show⟨_,v,rfl,r,q⟩
theorem Vals.eraseIdx:∀{xs:List V}{us:List Value}(i:Nat),Vals xs us->Vals (xs.eraseIdx i) (us.eraseIdx i)
 |_,_,_,.nil=>.nil
 |_,_,0,.cons _ t=>t
 |_,_,i+1,.cons r t=>.cons r (Vals.eraseIdx i t)
theorem we{α:Type}:∀(l:List α)(i:Nat),(l.eraseIdx i).length<=l.length
 | [],_=>aq _
 |_::_,0=>qO _
 |_::r,i+1=>Nat.succ_le_succ (we r i)
section
variable {l b:Addr}{xs ys zs:List V}
theorem Inv.lset{a its':List Value}{n:Nat}{f:Array Value->Array Value}{t':Nat}(I:Inv X OY Z H s)(b:H l=some (.lst xs))
  (e:s.heap.get? l=some {cls:=.type "list",data:=.seq a.toArray n}) (hf:f a.toArray=its'.toArray) (c:Vals ys its') (hz:ys.length<=sizeLine) :
  Inv X OY Z (upd H l (.lst ys)) {s with heap:=s.heap.update l (Obj.mapSeq f),toks:=t'}:=by
 have q:=PySem.IsL.update e f;rw[hf] at q;show I.write (x:=l) (e:=l) (by rw[b];show trivial) (.inl rfl) (λh u d g=>(di s.heap (Obj.mapSeq f) (ax d)).trans g) ⟨_,q⟩ ?_;show⟨hz,its',_,c,q⟩
theorem Inv.lnew{a:List Value}{t':Nat}(I:Inv X OY Z H s)(b:Vals ys a)(hz:ys.length<=sizeLine) :
  Inv X OY Z (upd H ↥s (.lst ys)) {s with heap:=s.heap.push {cls:=.type "list",data:=.seq a.toArray},toks:=t'}:=
 I.laid (λ_ _ q=>aE _ q) (aq _) ⟨hz,a,0,b,br _ rfl⟩
theorem Inv.fresh(I:Inv X OY Z H s):H ↥s=none:=I.hok.fresh (aq _)
theorem Inv.lstM(I:Inv X OY Z H s)(b:H l=some (.lst xs)):xs.length<=sizeLine/\∃(a:List Value)(n:Nat),Vals xs a/\xs.length=a.length/\s.heap.get? l=some {cls:=.type "list",data:=.seq a.toArray n}:=by obtain⟨z,a,n,r,e⟩:=I.hok l _ b;show⟨z,a,n,r,r.length,e⟩
end
section
def Ej(x:V)(vs:List V)(H:Hp)(Q:VK)(l:Addr)(xs:List V)(y:V):Prop:=x=.ref l/\vs=[y]/\H l=some (.lst xs)/\xs.length<sizeLine/\WrO H l (.lst (xs++[y])) (Q .non)
def Gj:V->List V->Hp->VK->Prop:=λx vs H Q=>Exists (Ex3 (Ej x vs H Q))
theorem eZ:MtM X "list.append" Gj:=by intro OY s Z H x vs v us Q I c d h;obtain⟨l,xs,y,rfl,rfl,a,hz,q⟩:=h;cases c;obtain⟨u,rfl,f⟩:=d.one;obtain⟨z,b,n,r,g,e⟩:=I.lstM a;show call_meets F.slot_list_append ⟨_,e,rfl⟩ F.entry_list_append (F.args_list_append_2 _ _) (PySem.list_append l b.toArray n u (by rw[bx];lia)) ⟨e,?_⟩;show⟨.non,_,I.lset (its':=b++[u]) a e ∅ (r.append (.cons f .nil)) ?_,rfl,q.at⟩;rw[aU,bY];lia
def Gf(x:V)(vs:List V)(H:Hp)(Q:VK)(l:Addr)(xs:List V)(i:Int)(k:Nat)(y:V):Prop:=x=.ref l/\vs=[.int i]/\H l=some (.lst xs)/\-(2 ^ 63)<=i/\i<2 ^ 63/\seqIndex? i xs.length=some k/\xs[k]?=some y/\WrO H l (.lst (xs.eraseIdx k)) (Q y)
def zm:V->List V->Hp->VK->Prop:=λx vs H Q=>Exists (Ex5 (Gf x vs H Q))
theorem w_:MtM X "list.pop" zm:=by
 intro OY s Z H x vs v us Q I c d h;obtain⟨l,xs,i,k,y,rfl,rfl,b,h1,h2,f,g,q⟩:=h;cases c;obtain⟨u,rfl,j⟩:=d.one;obtain⟨t,rfl⟩:=j;obtain⟨z,a,n,r,m,e⟩:=I.lstM b;obtain⟨w,hw,o⟩:=r.get g;show call_meets F.slot_list_pop ⟨_,e,rfl⟩ F.entry_list_pop (F.args_list_pop_2 _ _)
  (MeetsSeq.list_pop_at l a.toArray n i t k w (Nb h1 h2) (by rw[bx,<-m];show f) (by rw[<-Array.getElem?_toList];show hw) (by rw[bx];lia)) ⟨e,?_⟩
 show⟨y,_,I.lset (its':=a.eraseIdx k) b e ?_ (r.eraseIdx k) ?_,o,q.at⟩
 .change a.toArray.eraseIdxIfInBounds k=(a.eraseIdx k).toArray;rw[List.eraseIdxIfInBounds_toArray]
 have:=we xs k;lia
def KU(x y:V)(H:Hp)(Q:VK)(l b:Addr)(xs zs:List V):Prop:=x=.ref l/\y=.ref b/\H l=some (.lst xs)/\H b=some (.lst zs)/\xs.length+zs.length<=sizeLine/\fZ H (.lst (xs++zs)) Q
def rCat:R2:=λx y H Q=>Exists (Ex4 (KU x y H Q))
theorem fh:OpR X (binaryOp .Add) rCat:=by intro OY s Z H x y v u Q I d f h;obtain⟨l,b,xs,zs,rfl,rfl,g,i,hz,q⟩:=h;cases d;cases f;obtain⟨z,a,n,r,p,e⟩:=I.lstM g;obtain⟨w,c,A,j,B,m⟩:=I.lstM i;show PySem.P.add_list e m ?_ (by rw[bx,bx];lia);have o:a.toArray++c.toArray=(a++c).toArray:=∅;rw[o];show⟨.ref _,_,I.lnew (t':=s.toks) (r.append j) (by rw[aU];lia),rfl,q.at I.fresh⟩
end
section
variable {prog:Program}
set_option maxRecDepth 100000 in
end
section
end
end L2
namespace L2
open PySem PySem.Spec PyProof.Rows
section
variable {κ:Type}[DecidableEq κ]
def bh(kvs:List (κ×V))(k:κ):Option V:=(kvs.find? λa=>decide (a.1=k)).map (·.2)
def cn(kvs:List (κ×V))(k:κ)(v:V):List (κ×V):=
 if (kvs.any λa=>decide (a.1=k))=true then kvs.map (λa=>if a.1=k then (a.1,v) else a) else kvs++[(k,v)]
def ji(kvs:List (κ×V))(k:κ):List (κ×V):=kvs.filter λa=>decide (a.1≠k)
theorem ip{p:κ×V}{r:List (κ×V)}{k:κ}(e:p.1=k):bh (p::r) k=some p.2:=by simp[bh,mE,e]
theorem gw{p:κ×V}{r:List (κ×V)}{k:κ}(e:¬p.1=k):bh (p::r) k=bh r k:=by simp[bh,mE,e]
theorem n6(k:κ):∀kvs:List (κ×V),(kvs.any λa=>decide (a.1=k))=(bh kvs k).isSome
 | []=>rfl
 |p::r=>by
  rw[qF];by_cases e:p.1=k
  .simp only[ip e,OV e,Bool.true_or,Option.isSome_some]
  rw[gw e,OW e,Bool.false_or];show n6 k r
theorem nE(kvs:List (κ×V))(k:κ)(v:V):(cn kvs k v).length<=kvs.length+1:=by
 unfold cn
 split
 .rw[ay];lia
 rw[aU,cE,kI];lia
theorem om{kvs:List (κ×V)}{k:κ}(v:V)(h:bh kvs k=none):cn kvs k v=kvs++[(k,v)]:=by unfold cn;rw[n6,h];show OT ⋯
theorem c6.isSome_eq{o:Option V}{u:Option Value}(r:c6 o u):o.isSome=u.isSome:=by
 cases o with
 |none=>cases u with
  |none=>rfl
  |some _=>show (show False from r).elim
 |some _=>cases u with
  |none=>show (show False from r).elim
  |some _=>rfl
theorem c6.getD{o:Option V}{u:Option Value}{d:V}{d':Value}(r:c6 o u)(rd:az d d'):az (o.getD d) (u.getD d'):=by
 cases o with
 |none=>cases u with
  |none=>show rd
  |some _=>show (show False from r).elim
 |some _=>cases u with
  |none=>show (show False from r).elim
  |some _=>show r
theorem KV.val{kvs:List (κ×V)}{vs:List (κ×Value)}(r:KV kvs vs)(k:κ):c6 (bh kvs k) (valueAt vs k):=by
 unfold KV at r;induction r with
 |nil=>show True.intro
 | @cons p q ps a h t d=>
  obtain⟨h1,h2⟩:=h;by_cases e:p.1=k
  .have c:q.1=k:=h1.symm.trans e;have b:valueAt (q::a) k=some q.2:=by simp[valueAt,mE,c]
   rw[ip e,b];show h2
  have c:¬q.1=k:=λz=>e (h1.trans z);have b:valueAt (q::a) k=valueAt a k:=by simp[valueAt,mE,c]
  rw[gw e,b];show d
theorem KV.any{kvs:List (κ×V)}{vs:List (κ×Value)}(r:KV kvs vs)(k:κ):(kvs.any λa=>decide (a.1=k))=vs.any λa=>decide (a.1=k):=by
 unfold KV at r;induction r with
 |nil=>rfl
 |cons h t b=>rw[qF,qF,b,h.1]
theorem KV.repl{kvs:List (κ×V)}{vs:List (κ×Value)}(r:KV kvs vs)(k:κ){y:V}{u:Value}(b:az y u) :
  KV (kvs.map λa=>if a.1=k then (a.1,y) else a) (vs.map λa=>if a.1=k then (a.1,u) else a):=by
 unfold KV at r |-;induction r with
 |nil=>show .nil
 | @cons p q ps d h t c=>
  rw[aY,aY];show .cons ?_ c;obtain⟨h1,h2⟩:=h;by_cases e:p.1=k
  .rw[OU e,OU (h1.symm.trans e)];show⟨h1,b⟩
  rw[OT e,OT (λz=>e (h1.trans z))];show⟨h1,h2⟩
theorem KV.put{kvs:List (κ×V)}{vs:List (κ×Value)}(r:KV kvs vs)(k:κ){y:V}{u:Value}(a:az y u):KV (cn kvs k y) (stored vs k u):=by
 unfold cn stored;rw[r.any k];by_cases e:(vs.any λb=>decide (b.1=k))=true
 .rw[OU e,OU e];show r.repl k a
 rw[OT e,OT e];show Ms r ⟨rfl,a⟩
theorem KV.drop{kvs:List (κ×V)}{vs:List (κ×Value)}(r:KV kvs vs)(k:κ):KV (ji kvs k) (without vs k):=by
 unfold KV at r |-;unfold ji without;induction r with
 |nil=>show .nil
 | @cons p q ps f h t c=>
  obtain⟨h1,h2⟩:=h;rw[dR,dR];by_cases e:p.1=k
  .have a:¬decide (p.1≠k)=true:=by simp[e]
   have b:¬decide (q.1≠k)=true:=by simp[h1.symm.trans e]
   rw[OT a,OT b];show c
  have d:¬q.1=k:=λz=>e (h1.trans z);have a:decide (p.1≠k)=true:=by simp[e]
  have b:decide (q.1≠k)=true:=by simp[d]
  rw[OU a,OU b];show .cons ⟨h1,h2⟩ c
theorem KV.length{kvs:List (κ×V)}{vs:List (κ×Value)}(r:KV kvs vs):kvs.length=vs.length:=mP r
theorem Fo(kvs:List (κ×V))(k:κ):(ji kvs k).length<=kvs.length:=eg _ _
end
theorem gD{k:Key}{u:Value}(r:az (kV k) u):(cA P w).is k u=true:=by
 cases k with
 |inl i=>obtain⟨t,e⟩:=(show ∃t,u=Value.int i t from r);subst e;show BW P w i t
 |inr x=>obtain⟨t,e⟩:=(show ∃t,u=Value.str x t from r);subst e;show BV P w x t
theorem wg:∀{ks:List Key}{us:List Value},Vals (ks.map kV) us->ItemsAre (cA P w) ks us
 | [],_,r=>by rw[Ay] at r;cases r;show .nil
 |k::ks,_,r=>by
  rw[aY] at r;cases r with
  |cons h t=>show .cons (gD h) (wg t)
abbrev KT(H:Hp):List (List Key×V)->List (List Key×Addr×Value)->Prop:=Paired λp q=>p.1=q.1/\H q.2.1=some (.tup (p.1.map kV))/\az p.2 q.2.2
theorem KT.val{kvs:List (List Key×V)}{xs:List (List Key×Addr×Value)}(r:KT H kvs xs)(k:List Key):c6 (bh kvs k) ((atKey xs k).map (·.2)):=by
 induction r with
 |nil=>show True.intro
 | @cons p q ps a h t d=>
  obtain⟨h1,_,h2⟩:=h;by_cases e:p.1=k
  .have c:q.1=k:=h1.symm.trans e;have b:atKey (q::a) k=some q.2:=by simp[atKey,mE,c]
   rw[ip e,b];show h2
  have c:¬q.1=k:=λz=>e (h1.trans z);have b:atKey (q::a) k=atKey a k:=by simp[atKey,mE,c]
  rw[gw e,b];show d
theorem KT.repl{kvs:List (List Key×V)}{xs:List (List Key×Addr×Value)}(r:KT H kvs xs)(k:List Key){y:V}{u:Value}(b:az y u) :
  KT H (kvs.map λa=>if a.1=k then (a.1,y) else a) (xs.map (putAt k u)):=by
 induction r with
 |nil=>show .nil
 | @cons p q ps f h t c=>
  rw[aY,aY];show .cons ?_ c;obtain⟨h1,h2,d⟩:=h;unfold putAt;by_cases e:p.1=k
  .rw[OU e,OU (h1.symm.trans e)];show⟨h1,h2,b⟩
  rw[OT e,OT (λz=>e (h1.trans z))];show⟨h1,h2,d⟩
theorem KT.put{kvs:List (List Key×V)}{xs:List (List Key×Addr×Value)}(r:KT H kvs xs)(k:List Key){b:Addr}{y:V}{u:Value}(c:H b=some (.tup (k.map kV)))(a:az y u) :
  KT H (cn kvs k y) (storedH xs k b u):=by
 have e:(kvs.any λd=>decide (d.1=k))=(atKey xs k).isSome:=by rw[n6,(r.val k).isSome_eq,AO]
 unfold cn storedH;rw[e];by_cases q:(atKey xs k).isSome=true
 .rw[OU q,OU q];show r.repl k a
 rw[OT q,OT q];show Ms r ⟨rfl,c,a⟩
theorem KT.keeps{kvs:List (List Key×V)}{xs:List (List Key×Addr×Value)}(r:KT H kvs xs)(a:∀b ys,H b=some (.tup ys)->H' b=some (.tup ys)):KT H' kvs xs:=
 Paired.mapP r λ_ _ z=>⟨z.1,a _ _ z.2.1,z.2.2⟩
section
variable {h:Heap}{a:Addr}
theorem z8{u:HO}(ok:HOk P w H h)(e:Rd H a u):aV P w H h a u:=e.ok ok
theorem eU{kvs:List (Key×V)}(ok:HOk P w H h)(e:Rd H a (.dK kvs)):kvs.length<=sizeLine/\(a==sysModules)=false/\∃vs,KV kvs vs/\h.DictOf (cA P w) a vs:=
 show aV P w H h a (.dK kvs) from z8 ok e
theorem ml{kvs:List (Key×V)}(ok:HOk P w H h)(e:H a=some (.dK kvs)):kvs.length<=sizeLine/\(a==sysModules)=false/\∃vs,KV kvs vs/\h.DictOf (cA P w) a vs:=eU ok (.inl e)
theorem jf{ks:List Key}(ok:HOk P w H h)(e:H a=some (.tup (ks.map kV))):(tupleKind (cA P w)).is h ks a:=by obtain⟨_,b,r,o,h1,h2,n,c⟩:=(show aV P w H h a (.tup (ks.map kV)) from ok a _ e);show⟨o,b.toArray,n,h1,h2,c,‹wg r›⟩
theorem hJ{kvs:List (List Key×V)}(ok:HOk P w H h)(e:Rd H a (.dT kvs)):kvs.length<=sizeLine/\(a==sysModules)=false/\
  ∃xs,KT H kvs xs/\h.DictOfH (tupleKind (cA P w)) a xs:=by
 obtain⟨z,y,xs,r,o,es,ep,h1,h2,c,d,f⟩:=(show aV P w H h a (.dT kvs) from z8 ok e);show⟨z,y,xs,r,o,es,ep,h1,h2,c,d,λx hx=>?_,f⟩;have all:∀{l:List (List Key×V)}{m:List (List Key×Addr×Value)},KT H l m->∀x∈m,(tupleKind (cA P w)).is h x.1 x.2.1:=by
  intro l m q;induction q with
  |nil=>intro x hx;show nomatch hx
  | @cons p q ps i b t g=>
   intro x hx;rcases aG.mp hx with e|hx
   .subst e;show jf ok (by rw[<-b.1];show b.2.1)
   show g x hx
 show all r x hx
theorem Ae{kvs:List (List Key×V)}(ok:HOk P w H h)(e:H a=some (.dT kvs)):kvs.length<=sizeLine/\(a==sysModules)=false/\
  ∃xs,KT H kvs xs/\h.DictOfH (tupleKind (cA P w)) a xs:=hJ ok (.inl e)
end
def DGet(H:Hp)(a:Addr)(y:V)(r:Option V):Prop:=
 (∃kvs k,Rd H a (.dK kvs)/\y=kV k/\r=bh kvs k)\/∃kvs k b,Rd H a (.dT kvs)/\y=.ref b/\H b=some (.tup (k.map kV))/\r=bh kvs k
def DPut(H:Hp)(a:Addr)(y v:V)(H':Hp):Prop:=
 (∃kvs k,H a=some (.dK kvs)/\y=kV k/\kvs.length<sizeLine/\H'=upd H a (.dK (cn kvs k v))) \/
 ∃kvs k b,H a=some (.dT kvs)/\y=.ref b/\H b=some (.tup (k.map kV))/\kvs.length<sizeLine/\H'=upd H a (.dT (cn kvs k v))
theorem DGet.k{a:Addr}{kvs:List (Key×V)}{k:Key}(e:H a=some (.dK kvs)):DGet H a (kV k) (bh kvs k):=.inl ⟨kvs,k,.inl e,rfl,rfl⟩
theorem DGet.t{a b:Addr}{kvs:List (List Key×V)}{k:List Key}(e:H a=some (.dT kvs))(c:H b=some (.tup (k.map kV))):DGet H a (.ref b) (bh kvs k):=.inr ⟨kvs,k,b,.inl e,rfl,c,rfl⟩
theorem DPut.k{a:Addr}{kvs:List (Key×V)}{k:Key}{v:V}(e:H a=some (.dK kvs))(b:kvs.length<sizeLine):DPut H a (kV k) v (upd H a (.dK (cn kvs k v))):=.inl ⟨kvs,k,e,rfl,b,rfl⟩
theorem DPut.t{a b:Addr}{kvs:List (List Key×V)}{k:List Key}{v:V}(e:H a=some (.dT kvs))(c:H b=some (.tup (k.map kV)))(d:kvs.length<sizeLine) :
  DPut H a (.ref b) v (upd H a (.dT (cn kvs k v))):=.inr ⟨kvs,k,b,e,rfl,c,d,rfl⟩
section
variable {a:Addr}{y v:V}{u r:Value}{o:Option V}
theorem Inv.big(I:Inv X OY Z H s):sysModules<↥s:=by have h:mainGlobals<↥s:=(I.mod.glob.keeps I.bk).lt;show qQ ⋯ h
theorem Dr{Q:Value->Shared->Prop}(j:A.units+1<cLine)(I:Inv X OY Z H s)(g:DGet H a y (some v))(i:az y u)(h:∀c s',Inv X OY Z H s'->az v c->Q c s') :
  wpAny ⇑X A (getItem (.ref a) u) Q E s:=by
 rcases g with ⟨kvs,k,e,d,l⟩|⟨kvs,k,b,e,d,m,l⟩
 .subst d;obtain⟨z,hd,vs,rel,dd⟩:=eU I.hok e;obtain⟨c,hw,f⟩:=c6.some_of (v:=v) (o:=valueAt vs k) (by rw[l];show rel.val k);show wpAny_getItem_of (gD i) dd.mapOf hw (h c _ (I.tok _) f)
 subst d;cases (show u=Value.ref b from i);obtain⟨z,hd,xs,rel,dd⟩:=hJ I.hok e;obtain⟨c,hw,f⟩:=c6.some_of (v:=v) (o:=(atKey xs k).map (·.2)) (by rw[l];show rel.val k);obtain⟨p,n,q⟩:=cw.mp hw;show wpAny_getItem_heap (m5 j) (jf I.hok m) dd n ?_;rw[q];show h c _ (I.tok _) f
theorem d_in{Q:Value->Shared->Prop}(f:A.units+1<cLine)(I:Inv X OY Z H s)(g:DGet H a y o)(d:az y u)(h:∀s',Inv X OY Z H s'->Q (.bool o.isSome) s') :
  wpAny ⇑X A (compareOp .In u (.ref a)) Q E s:=by
 rcases g with ⟨kvs,k,e,c,l⟩|⟨kvs,k,b,e,c,i,l⟩
 .subst c;obtain⟨z,hd,vs,rel,dd⟩:=eU I.hok e;show wpAny_in_of (gD d) hd dd.mapOf ?_;rw[<-(rel.val k).isSome_eq,<-l];show h _ (I.tok _)
 subst c;cases (show u=Value.ref b from d);obtain⟨z,hd,xs,rel,dd⟩:=hJ I.hok e;show wpAny_in_heap (m5 f) (jf I.hok i) hd dd ?_;have q:=(rel.val k).isSome_eq;rw[AO] at q;rw[<-q,<-l];show h _ (I.tok _)
theorem HH{Q:Value->Shared->Prop}(f:A.units+1<cLine)(I:Inv X OY Z H s)(g:DGet H a y o)(d:az y u)(h:∀s',Inv X OY Z H s'->Q (.bool (!o.isSome)) s') :
  wpAny ⇑X A (compareOp .NotIn u (.ref a)) Q E s:=by
 rcases g with ⟨kvs,k,e,c,l⟩|⟨kvs,k,b,e,c,i,l⟩
 .subst c;obtain⟨z,hd,vs,rel,dd⟩:=eU I.hok e;show wpAny_notIn_of (gD d) hd dd.mapOf ?_;rw[<-(rel.val k).isSome_eq,<-l];show h _ (I.tok _)
 subst c;cases (show u=Value.ref b from d);obtain⟨z,hd,xs,rel,dd⟩:=hJ I.hok e;show wpAny_notIn_heap (m5 f) (jf I.hok i) hd dd ?_;have q:=(rel.val k).isSome_eq;rw[AO] at q;rw[<-q,<-l];show h _ (I.tok _)
theorem lU{h':Heap}{t':Nat}{ob:HO}(I:Inv X OY Z H s)(c:Mut (H a))(d:Heap.SameBut a s.heap h')(he:∃q,h'.get? a=some q)(new:aV X.prog X.w (upd H a ob) h' a ob) :
  Inv X OY Z (upd H a ob) {s with heap:=h',toks:=t'}:=
 I.write (x:=a) (e:=a) c (.inl rfl) (λb q f z=>(d.2 b f).trans z) he new
theorem l_{H':Hp}{h':Heap}{kvs:List (Key×V)}{vs:List (Key×Value)}(z:kvs.length<=sizeLine)(hd:(a==sysModules)=false)(rel:KV kvs vs)(dd:h'.DictOf (cA P w) a vs) :
  aV P w H' h' a (.dK kvs):=⟨z,hd,vs,rel,dd⟩
theorem Dq{H':Hp}{Q:Unit->Shared->Prop}(C:A.units+1<cLine)(I:Inv X OY Z H s)(g:DPut H a y v H')(o:az y u)(p:az v r)(h:∀s',Inv X OY Z H' s'->Q .unit s') :
  wpAny ⇑X A (setItem (.ref a) u r) Q E s:=by
 rcases g with ⟨kvs,k,e,i,l,j⟩|⟨kvs,k,b,e,i,x,l,j⟩
 .subst i j;obtain⟨z,hd,vs,rel,dd⟩:=ml I.hok e;have hz:vs.length<=sizeLine:=by rw[<-rel.length];show z
  have m:(cn kvs k v).length<=sizeLine:=by have:=nE kvs k v;lia
  show wpAny_setItem_pairs (hsz:=hz) (gD o) dd λh' d n=>h _ ?_;have he:∃q,h'.get? a=some q:=let ⟨q,_,_,f,_⟩:=d;⟨q,f⟩;show lU I (by rw[e];show True.intro) n he (l_ m hd (rel.put k p) d)
 subst i j;cases (show u=Value.ref b from o);obtain⟨z,hd,xs,rel,dd⟩:=Ae I.hok e;have hz:xs.length<=sizeLine:=by rw[<-mP rel];show z
 have m:(cn kvs k v).length<=sizeLine:=by have:=nE kvs k v;lia
 show wpAny_setItem_heap (hsz:=hz) (m5 C) (jf I.hok x) dd λh' d n=>h _ ?_;obtain⟨q,es,ep,f,h2,D,J,_,K⟩:=d;show lU I (by rw[e];show True.intro) n ⟨q,f⟩ ⟨m,hd,_,(rel.put k x p).keeps λc ys B=>?_,q,es,ep,f,h2,D,J,K⟩;rw[av (bZ B e (λz=>nomatch z))];show B
end
section
variable {a:Addr}{kvs:List (Key×V)}{k:Key}{u:Value}
theorem Ll{v:V}{more:List Value}{Q:Value->Shared->Prop}(I:Inv X OY Z H s)(e:H a=some (.dK kvs))(c:az (kV k) u)(l:bh kvs k=some v)(hm:more=[]\/∃x,more=[x])
  (h:∀b s',Inv X OY Z (upd H a (.dK (ji kvs k))) s'->az v b->Q b s'):wpAny ⇑X A (call (.builtin "dict.pop") (.ref a::u::more)) Q E s:=by
 obtain⟨z,hd,vs,rel,dd⟩:=ml I.hok e;obtain⟨b,hw,f⟩:=c6.some_of (v:=v) (o:=valueAt vs k) (by rw[<-l];show rel.val k);have g:(keyPart u).isSome=true:=by
  cases k with
  |inl i=>obtain⟨t,q⟩:=(show ∃t,u=Value.int i t from c);subst q;rfl
  |inr x=>obtain⟨t,q⟩:=(show ∃t,u=Value.str x t from c);subst q;rfl
 have ha:argsOk "dict.pop" ⟨.ref a::u::more,[]⟩:=by
  rcases hm with q|⟨x,q⟩
  .subst q;show PySem.F.args_dict_pop_2 _ _
  subst q;show PySem.F.args_dict_pop_3 _ _ _
 show kN MH dd.typeIs PySem.F.entry_dict_pop ha (meets_dict_pop_there (cA X.prog X.w) a (gD c) more hm g)
  ⟨vs,b,dd,by rw[<-rel.length];show z,hw,λh' d j=>h b _ ?_ f⟩
 have he:∃q,h'.get? a=some q:=let ⟨q,_,_,m,_⟩:=d;⟨q,m⟩;show lU I (by rw[e];show True.intro) j he (l_ (dn (Fo kvs k) z) hd (rel.drop k) d)
theorem Lm{Q:Value->Shared->Prop}(I:Inv X OY Z H s)(e:Rd H a (.dK kvs))(h:∀t s',Inv X OY Z H s'->Q (.int kvs.length t) s'):wpAny ⇑X A (call (.builtin "len") [.ref a]) Q E s:=by obtain⟨z,hd,vs,rel,dd⟩:=eU I.hok e;show call_len_dict hd dd (by rw[<-rel.length];rw[cK] at z;lia) ?_;rw[<-rel.length];show h _ _ (I.tok _)
end
def NoSl(i:Expr):Prop:=∀ov a,subscripted i false ov a=operate [ov,a] (getItem ov a)
theorem FL{prog:Program}{env:Env}{value slice:Expr}{pos:Pos}{T id:String}{Q:Value->Shared->Prop}
  (b:typeLookup (.type T) "__getitem__" = pure (some (.builtin id))) (c:NoSl slice)
  (h:wpAny (model prog w) A (eval value env) (λo s₁=>wpAny (model prog w) A (eval slice env) (λi s₂=>s₂.TypeIs o T/\wpAny (model prog w) A (getItem o i) Q E s₂) E s₁) E s) :
  wpAny (model prog w) A (eval (.Subscript value slice pos) env) Q E s:=by
 show uW (bF h (λo s₁ h₁=>bF h₁ (λi s₂ h₂=>?_) λ_ _ x=>x) λ_ _ x=>x);obtain⟨a,h₂⟩:=h₂;unfold subscriptTail;show aa ?_;rw[getitemInPython_of_ne a.not_modules];show aa (Bo a b ?_);have fin:wpAny (model prog w) A (subscripted slice false o i) (λr s₃=>wpAny (model prog w) A (letTemporaryGo value o r >>= λ_=>pure r) Q E s₃) E s₂:=by rw[c o i];show wpAny_operating (bF h₂ (λr s₃ h₃=>aa (wpAny_letTemporaryGo (af h₃))) λ_ _ x=>x)
 first
  |show af (aa fin)
  |show aa (af (aa fin))
  |show aa fin
theorem BZ{a:Addr}{y:V}{o:Option V}(I:Inv X OY Z H s)(g:DGet H a y o):s.TypeIs (.ref a) "dict":=by
 rcases g with ⟨kvs,k,e,_,_⟩|⟨kvs,k,b,e,_,_,_⟩
 .obtain⟨_,_,vs,_,dd⟩:=eU I.hok e;show dd.typeIs
 obtain⟨_,_,xs,_,dd⟩:=hJ I.hok e;show dd.typeIs
def Il(x y:V)(H2:Hp)(Q:VK)(a:Addr)(v:V):Prop:=x=.ref a/\DGet H2 a y (some v)/\Q v H2
def FK(x:V)(Q:VK):VK:=λy H2=>Exists (Ex2 (Il x y H2 Q))
def Ik(ty:TE)(Z:St)(Q:VK):VK:=λx H1=>ty Z H1 (FK x Q)
def ud(td ty:TE):TE:=λZ H Q=>td Z H (Ik ty Z Q)
def Kj(x y:V)(H2:Hp)(Q:VK)(a:Addr)(o:Option V):Prop:=x=.ref a/\DGet H2 a y o/\Q (.bl o.isSome) H2
def Kk(y:V)(Q:VK):VK:=λx H2=>Exists (Ex2 (Kj x y H2 Q))
def Kl(td:TE)(Z:St)(Q:VK):VK:=λy H1=>td Z H1 (Kk y Q)
def tDIn(ty td:TE):TE:=λZ H Q=>ty Z H (Kl td Z Q)
def DI(x y:V)(H2:Hp)(Q:VK)(a:Addr)(o:Option V):Prop:=x=.ref a/\DGet H2 a y o/\Q (.bl (!o.isSome)) H2
def DJ(y:V)(Q:VK):VK:=λx H2=>Exists (Ex2 (DI x y H2 Q))
def DK(td:TE)(Z:St)(Q:VK):VK:=λy H1=>td Z H1 (DJ y Q)
def xC(ty td:TE):TE:=λZ H Q=>ty Z H (DK td Z Q)
def IK(D:Ends)(Z:St)(v x y:V)(c:Hp)(a:Addr)(b:Hp):Prop:=x=.ref a/\DPut c a y v b/\D.nx Z b
def IL(D:Ends)(Z:St)(v x:V):VK:=λy a=>Exists (Ex2 (IK D Z v x y a))
def IM(ty:TE)(D:Ends)(Z:St)(v:V):VK:=λx H2=>ty Z H2 (IL D Z v x)
def IP(td ty:TE)(D:Ends)(Z:St):VK:=λv H1=>td Z H1 (IM ty D Z v)
def KD(td ty tv:TE):TS:=λD Z H=>tv Z H (IP td ty D Z)
section
variable {o i e value:Expr}{pos pos' tpos:Pos}{td ty tv:TE}
theorem iC(c:X.A.units+1<cLine)(d:PE X o td)(hi:PE X i ty)(e:NoSl i):PE X (.Subscript o i pos) (ud td ty):=by intro OY s Z H Q I h;show FL PySem.F.slot_dict_getitem.lookup e (thn (d OY s Z H _ I h) λu s1 ⟨x,H1,f,j,l⟩=>thn (hi OY s1 Z H1 _ f l) λr s2 ⟨y,H2,b,m,a,v,ex,g,n⟩=>?_);subst ex;obtain rfl:u=Value.ref a:=j;show⟨BZ b g,Dr c b g m λw z p q=>⟨v,H2,p,q,n⟩⟩
theorem pJ(b:X.A.units+1<cLine)(hi:PE X i ty)(c:PE X o td):PC X .In i o (tDIn ty td):=by intro OY s Z H Q I h;show thn (hi OY s Z H _ I h) λp s1 ⟨y,H1,d,e,f⟩=>thn (c OY s1 Z H1 _ d f) λu s2 ⟨x,H2,j,l,a,ov,ex,g,m⟩=>?_;subst ex;obtain rfl:u=Value.ref a:=l;show d_in b j g e λq n=>⟨.bl ov.isSome,H2,n,rfl,m⟩
theorem nX(b:X.A.units+1<cLine)(hi:PE X i ty)(c:PE X o td):PC X .NotIn i o (xC ty td):=by intro OY s Z H Q I h;show thn (hi OY s Z H _ I h) λp s1 ⟨y,H1,d,e,f⟩=>thn (c OY s1 Z H1 _ d f) λu s2 ⟨x,H2,j,l,a,ov,ex,g,m⟩=>?_;subst ex;obtain rfl:u=Value.ref a:=l;show HH b j g e λq n=>⟨.bl (!ov.isSome),H2,n,rfl,m⟩
theorem i7(b:X.A.units+1<cLine)(c:PE X o td)(hi:PE X i ty)(d:PE X value tv)(e:swapsWith value (some (.Subscript o i pos')) pos.line X.env=pure false) :
  PS X (.Assign [.Subscript o i pos'] value pos) (KD td ty tv):=by
 intro OY s Z H D I h;show wpAny_Assign_Subscript (thn (d OY s Z H _ I h) λr s1 ⟨v,H1,f,j,l⟩=>thn (c OY s1 Z H1 _ f l) λu s2 ⟨x,H2,m,n,p⟩=>thn (hi OY s2 Z H2 _ m p) λE J ⟨y,K,q,w,a,z,ex,g,B⟩=>?_) e;subst ex;obtain rfl:u=Value.ref a:=n;show Dq b q g w j λL C=>⟨Z,z,C,B⟩
end
theorem xm(h:Heap)(a:sysModules<h.objs.size):aV P w H (h.push {cls:=.type "dict",data:=.dict #[]}) h.objs.size (.dK []):=
 ⟨bE _,beq_eq_false_iff_ne.mpr (ax (bo a)),[],.nil,NO h⟩
theorem Fn(h:Heap)(a:sysModules<h.objs.size):aV P w H (h.push {cls:=.type "dict",data:=.dict #[]}) h.objs.size (.dT []):=
 ⟨bE _,beq_eq_false_iff_ne.mpr (ax (bo a)),[],.nil,_,#[],0,br _ rfl,⟨rfl,rfl,rfl⟩,rfl,rfl,jq⟩
def Ij:TE:=λ_ H Q=>fZ H (.dK []) Q
def Ii:TE:=λ_ H Q=>fZ H (.dT []) Q
section
variable {pos:Pos}
theorem oo:PE X (.Dict [] [] pos) Ij:=λOY s Z H Q I h=>
 Nt ⟨.ref ↥s,_,I.laid (a:=↥s) (o:=.dK []) (t':=s.toks) (λ_ _ q=>aE _ q) (aq _) (xm s.heap I.big),rfl,fZ.at h (I.hok.fresh (aq _))⟩
theorem w4:PE X (.Dict [] [] pos) Ii:=λOY s Z H Q I h=>
 Nt ⟨.ref ↥s,_,I.laid (a:=↥s) (o:=.dT []) (t':=s.toks) (λ_ _ q=>aE _ q) (aq _) (Fn s.heap I.big),rfl,fZ.at h (I.hok.fresh (aq _))⟩
end
structure M1(X:Cx)(o:Expr)(m:Str)(apos:Pos)(e:Expr)(cpos:Pos):Prop where
 base:attributeBase o m X.env (eval o X.env)=eval o X.env
 few:((backTo cpos (starEach [e] X.env)).all (λx=>!x.1)&&(backToKw cpos (keywordEach [] X.env)).all (λx=>x.1.isSome)
  && decide (([e]:List Expr).length+([]:List Keyword).length+(if ([]:List Keyword).isEmpty then 0 else 1)<30))=true
 line:(apos.endLine==cpos.line)=true
 trees:backTo cpos (starEach [e] X.env)=[(false,eval e X.env)]
structure M2(X:Cx)(o:Expr)(m:Str)(apos:Pos)(e f:Expr)(cpos:Pos):Prop where
 base:attributeBase o m X.env (eval o X.env)=eval o X.env
 few:((backTo cpos (starEach [e,f] X.env)).all (λx=>!x.1)&&(backToKw cpos (keywordEach [] X.env)).all (λx=>x.1.isSome)
  && decide (([e,f]:List Expr).length+([]:List Keyword).length+(if ([]:List Keyword).isEmpty then 0 else 1)<30))=true
 line:(apos.endLine==cpos.line)=true
 trees:backTo cpos (starEach [e,f] X.env)=[(false,eval e X.env),(false,eval f X.env)]
def IsD(H:Hp)(a:Addr):Prop:=(∃kvs,Rd H a (.dK kvs))\/∃kvs,Rd H a (.dT kvs)
theorem pT{a:Addr}(I:Inv X OY Z H s)(d:IsD H a) :
  s.TypeIs (.ref a) "dict"/\(∀b,Value.ref a=.ref b->∃ob,s.heap.get? b=some ob/\ob.dict=none)/\(a==sysModules)=false:=by
 rcases d with ⟨kvs,e⟩|⟨kvs,e⟩
 .obtain⟨_,hd,vs,_,dd⟩:=eU I.hok e;show⟨dd.typeIs,λb q=>?_,hd⟩;cases q;obtain⟨ob,_,_,h1,h2,_⟩:=dd;show⟨ob,h1,h2.2.1⟩
 obtain⟨_,hd,xs,_,dd⟩:=hJ I.hok e;show⟨dd.typeIs,λb q=>?_,hd⟩;cases q;obtain⟨ob,_,_,h1,h2,_⟩:=dd;show⟨ob,h1,h2.2.1⟩
section
variable {a:Addr}{y d:V}{u r:Value}{o:Option V}
theorem JM{Q:Value->Shared->Prop}(i:A.units+1<cLine)(I:Inv X OY Z H s)(g:DGet H a y o)(d:az y u)(h:∀f s',Inv X OY Z H s'->az (o.getD .non) f->Q f s') :
  wpAny ⇑X A (call (.builtin "dict.get") [.ref a,u]) Q E s:=by
 rcases g with ⟨kvs,k,e,c,l⟩|⟨kvs,k,b,e,c,j,l⟩
 .subst c;obtain⟨z,hd,vs,rel,dd⟩:=eU I.hok e;show kN mT dd.typeIs uU (Mu _ _) (meets_dict_get (cA X.prog X.w) a (gD d) hd) ⟨_,dd.mapOf,h _ _ (I.tok _) ?_⟩;rw[l];show (rel.val k).getD rfl
 subst c;cases (show u=Value.ref b from d);obtain⟨z,hd,xs,rel,dd⟩:=hJ I.hok e;show kN mT dd.typeIs uU (Mu _ _) (meetsH_dict_get (tupleKind (cA X.prog X.w)) a b hd) ⟨m5 i,k,xs,jf I.hok j,dd,h _ _ (I.tok _) ?_⟩;rw[l];show (rel.val k).getD rfl
theorem JL{Q:Value->Shared->Prop}(j:A.units+1<cLine)(I:Inv X OY Z H s)(g:DGet H a y o)(f:az y u)(rd:az d r)(h:∀i s',Inv X OY Z H s'->az (o.getD d) i->Q i s') :
  wpAny ⇑X A (call (.builtin "dict.get") [.ref a,u,r]) Q E s:=by
 rcases g with ⟨kvs,k,e,c,l⟩|⟨kvs,k,b,e,c,m,l⟩
 .subst c;obtain⟨z,hd,vs,rel,dd⟩:=eU I.hok e;show kN mT dd.typeIs uU (Mv _ _ _) (meets_dict_get_default (cA X.prog X.w) a (gD f) hd r) ⟨_,dd.mapOf,h _ _ (I.tok _) ?_⟩;rw[l];show (rel.val k).getD rd
 subst c;cases (show u=Value.ref b from f);obtain⟨z,hd,xs,rel,dd⟩:=hJ I.hok e;show kN mT dd.typeIs uU (Mv _ _ _) (meetsH_dict_get_default (tupleKind (cA X.prog X.w)) a b hd r) ⟨m5 j,k,xs,jf I.hok m,dd,h _ _ (I.tok _) ?_⟩;rw[l];show (rel.val k).getD rd
end
def Ko(a:Addr)(Q:VK)(y:V)(H2:Hp)(o:Option V):Prop:=DGet H2 a y o/\Q (o.getD .non) H2
def Km(a:Addr)(Q:VK):VK:=λy H2=>Exists (Ko a Q y H2)
def Kp(ty:TE)(Z:St)(Q:VK)(x:V)(H1:Hp)(a:Addr):Prop:=x=.ref a/\IsD H1 a/\ty Z H1 (Km a Q)
def Kn(ty:TE)(Z:St)(Q:VK):VK:=λx H1=>Exists (Kp ty Z Q x H1)
def Io(td ty:TE):TE:=λZ H Q=>td Z H (Kn ty Z Q)
def Im(td ty tx:TE):TE:=λZ H Q=>td Z H λx H1=>∃a,x=.ref a/\IsD H1 a/\ty Z H1 λy H2=>tx Z H2 λz b=>∃o,DGet b a y o/\Q (o.getD z) b
def Kh(a:Addr)(Q:VK)(y:V)(H2:Hp)(kvs:List (Key×V))(k:Key)(v:V):Prop:=H2 a=some (.dK kvs)/\y=kV k/\bh kvs k=some v/\WrO H2 a (.dK (ji kvs k)) (Q v)
def Kf(a:Addr)(Q:VK):VK:=λy H2=>Exists (Ex3 (Kh a Q y H2))
def Ki(ty:TE)(Z:St)(Q:VK)(x:V)(H1:Hp)(a:Addr):Prop:=x=.ref a/\IsD H1 a/\ty Z H1 (Kf a Q)
def Kg(ty:TE)(Z:St)(Q:VK):VK:=λx H1=>Exists (Ki ty Z Q x H1)
def Ih(td ty:TE):TE:=λZ H Q=>td Z H (Kg ty Z Q)
section
variable {o e f:Expr}{apos cpos:Pos}{td ty tx:TE}
theorem w5(c:X.A.units+1<cLine)(f:PE X o td)(he:PE X e ty)(m:M1 X o "get" apos e cpos):PE X (.Call (.Attribute o "get" apos) [e] [] cpos) (Io td ty):=by intro OY s Z H Q I h;show Ba m.base m.few m.line qV mT MN (thn (f OY s Z H _ I h) λu s1 ⟨x,H1,b,i,a,ex,d,j⟩=>?_);subst ex;obtain rfl:u=Value.ref a:=i;obtain⟨l,n,_⟩:=pT b d;show⟨l,n,?_⟩;rw[m.trees];show kD rfl (kE (kF (thn (he OY s1 Z H1 _ b j) λz s2 ⟨y,H2,p,q,ov,g,r⟩=>mz ?_)));show JM c p g q λB C v w=>⟨_,H2,v,w,r⟩
theorem Es(c:X.A.units+1<cLine)(i:PE X o td)(he:PE X e ty)(hf:PE X f tx)(m:M2 X o "get" apos e f cpos):PE X (.Call (.Attribute o "get" apos) [e,f] [] cpos) (Im td ty tx):=by
 intro OY s Z H Q I h;show Ba m.base m.few m.line qV mT MN (thn (i OY s Z H _ I h) λu s1 ⟨x,H1,b,j,a,ex,d,l⟩=>?_);subst ex;obtain rfl:u=Value.ref a:=j;obtain⟨n,p,_⟩:=pT b d;show⟨n,p,?_⟩;rw[m.trees];show kD rfl (kE (kF (thn (he OY s1 Z H1 _ b l) λK s2 ⟨y,H2,q,r,v⟩=>
  kF (thn (hf OY s2 Z H2 _ q v) λL M ⟨z,w,B,C,ov,g,D⟩=>mz ?_))))
 show JL c B g r C λN O E J=>⟨_,w,E,J,D⟩
theorem Er(c:PE X o td)(he:PE X e ty)(m:M1 X o "pop" apos e cpos):PE X (.Call (.Attribute o "pop" apos) [e] [] cpos) (Ih td ty):=by intro OY s Z H Q I h;show Ba m.base m.few m.line qV MH PySem.F.type_dict_pop (thn (c OY s Z H _ I h) λu s1 ⟨x,H1,b,f,a,ex,d,g⟩=>?_);subst ex;obtain rfl:u=Value.ref a:=f;obtain⟨i,j,_⟩:=pT b d;show⟨i,j,?_⟩;rw[m.trees];show kD rfl (kE (kF (thn (he OY s1 Z H1 _ b g) λB s2 ⟨y,H2,n,p,kvs,k,v,q,r,l,w⟩=>mz ?_)));subst r;show Ll n q p l (.inl rfl) λC D z A=>⟨v,_,z,A,WrO.at w⟩
end
section
variable {a:Addr}{kvs:List (Key×V)}
theorem Fp{Q:Value->Shared->Prop}(I:Inv X OY Z H s)(e:Rd H a (.dK kvs))(h:∀p s',H p=none->Inv X OY Z (upd H p (.dK kvs)) s'->Q (.ref p) s'):wpAny ⇑X A (call (.type "dict") [.ref a]) Q E s:=by obtain⟨z,hd,vs,rel,dd⟩:=eU I.hok e;show kt_call_dict hd dd (by rw[<-rel.length];show z) λh' d f=>?_;show h _ _ (I.hok.fresh (aq _)) (I.laid (a:=↥s) (o:=.dK kvs) (t':=s.toks) (λb q c=>?_) (aq _) (l_ z (beq_eq_false_iff_ne.mpr (ax (bo I.big))) rel d));show (f.2 b (bo (aF c))).trans (aE _ c)
end
section
variable {a:Addr}{y:V}{u:Value}
end
end L2
namespace Att
open PySem PySem.W PySem.Calls PyProof.Rows
theorem Bq{P:Params}{h:Heap}:∀(ns:List Int)(vs:List Value),WellAll P h vs (ns.map WData.int)->IntsAre vs ns:=by
 intro ns;induction ns with
 |nil=>
  intro vs w;rw[Ay] at w;cases w;show .nil
 |cons n ns c=>
  intro vs w;rw[aY] at w;cases w with
  |cons a b=>
   cases a;show .cons _ _ (c _ b)
theorem CQ{l:OpenLaw}{n:Nat}(g:l.most=some n){P:Params}{h:Heap}{args:List WData}{vals:List Value}
  (e:l.row.toRowW.claim.pre args=true) (i:WellAll P h vals args) :
  ∃a vs ns,vals=[Value.ref a]/\args=[WData.list (ns.map WData.int)]/\h.get? a=some {cls:=.type "list",data:=.seq vs.toArray}/\IntsAre vs ns/\ns.length<=n:=by
 have j:WShape.hasAll [] args [.list .int]=true:=(pre_splitW e).1;have f:l.pre.holds [] {args:=args}=true:=(pre_splitW e).2;obtain⟨d,r,rfl,h1,h2⟩:=hasAllW_cons j;obtain rfl:=hasAllW_nil h2;obtain⟨xs,rfl,m⟩:=hasW_list h1;obtain⟨ns,rfl⟩:=items_int m;have hlen:ns.length<=n:=by
  unfold OpenLaw.pre at f;have b:(WTm.not (.lt (.lit (.int (n:Int))) (.len (.arg 0)))).holds [] {args:=[.list (ns.map .int)]}=true:=by have b:=(holds_andW f).1;rw[g] at b;show b
  have c:=condW_of b (w_not (w_lt w_lit (w_len_list (w_arg rfl))));rw[ay] at c;show Nat.le_of_not_lt λq=>?_;have o:(n:Int)<((ns.length:Nat):Int):=()
  first
   |(rw[OV o] at c;show absurd c ⋯)
   |(simp at c;lia)
 cases i with
 |cons p s=>
  cases s;cases p with
  |list u v=>show⟨_,_,ns,rfl,rfl,u,Bq ns _ v,hlen⟩
theorem CW(l:OpenLaw)(args:List WData):l.row.toRowW.claim.post args (.bool true) args=true:=
 postW_of (r:=l.row.toRowW) (X:=(true==true))
  (show WShape.has [] (.bool true) .bool=true by first|rfl|decide|simp[WShape.has,WShape.arms,WShape.armsAll])
  (show (WTm.eq .res (.lit (.bool true))).value [] {args:=args,res:=some (.bool true),after:=args}=some (.bool (true==true)) from w_eq_bool (w_res rfl) w_lit) rfl
theorem attach_call{l:OpenLaw}{n:Nat}{q:Program}{loose:List Str}{XP:(Str->Option Value)->Heap->Prop}{YP:World->Heap->Prop}{d:DefRec}
  (e:l.most=some n) (g:d.params.defaults=[])
  (call:∀(w:World)(s₀ s₁:Shared)(mg mb:Str->Option Value)(b:Addr)(o:Obj)(pm cd doc:Value)(a:Addr)(vs:List Value)(ns:List Int),
   Ground q loose [] XP w s₀ mg mb s₁.heap->YP w s₁.heap->
   s₁.heap.get? b=some o->o.data=.func (docDef d.name d.params d.body d.scope pm cd doc)->s₁.heap.CodeRec cd d.name->mg d.name=some (.ref b)->
   s₁.heap.get? a=some {cls:=.type "list",data:=.seq vs.toArray}->IntsAre vs ns->ns.length<=n->s₁.gens=#[]->
   codeAny (model l.prog w) callerA (.call (.ref b) ⟨[.ref a],[]⟩) (λr s'=>r=.ok (.ret (.bool true))/\OldK s₁.heap s'.heap/\s'.os=s₁.os/\AllBare s'.gens) s₁) :
  WalkO q loose XP YP l.row.toRowW d [] (λf vs=>PySem.call f vs):=by
 intro w s₀ s₁ mg mb G Y b o pm cd doc h kV i hd j c m p args vals as u B C v D;obtain rfl:h=.none:=Dflts.none c g;obtain rfl:kV=.none:=Dflts.noKw c;obtain⟨a,vs,ns,rfl,rfl,x,hints,hlen⟩:=CQ e u v;show enter_call (mY (call w s₀ s₁ mg mb b o pm cd doc a vs ns G Y i (fd_plain hd) j m x hints hlen p) λr s' y=>?_);obtain⟨rfl,h2,z,A⟩:=y;show⟨.inl ⟨.bool true,.bool true,[],rfl,λ_=>rfl,.bool true,CW l _,λ_=>⟨List.Pairwise.nil,λ_ hm=>(nomatch hm)⟩⟩,h2,z,A⟩
section
variable {prog:Program}{K:Frag}
end
end Att
namespace L2
open PySem PySem.Spec PyProof.Rows
theorem vU:∀{vs:List Value}{ns:List Int},IntsAre vs ns->Vals (ns.map V.int) vs
 |_,_,.nil=>.nil
 |_,_,.cons n t h=>.cons ⟨t,rfl⟩ (vU h)
def Only(H:Hp):Prop:=∀b,H b=none\/∃o xs,H b=some (.frz o (.lst xs))
theorem EZ{P:Program}{w:World}{mg mb:Str->Option Value}{CX:CXT}{k:Nat}{g a:Addr}{fd:FuncData}{x:Str}{sp:Sp}{s₁:Shared}{vs:List Value}{ns:List Int}
  (p:K.In s₁.heap) (y:s₁.heap.Ns mainGlobals mg) (c:s₁.heap.Ns builtinsNs mb) (I:∀x:Str,x≠"__name__"->mb x=bootBuiltins x) (J:s₁.heap.NoLimit) (L:s₁.gens=#[])
  (ha:s₁.heap.get? a=some {cls:=.type "list",data:=.seq vs.toArray}) (hi:IntsAre vs ns) (M:ns.length<=sizeLine) (N:Room k callerA)
  (F:∀base:Heap,K.In base->base.Ns mainGlobals mg->ai P w K mg base CX k g fd [x] sp) (O:∀(s:Shared)(u:Value),BindsTo s fd ⟨[u],[]⟩ [(x,u)])
  (Q:∀o,K.lookup a=some o->o.cls≠.type "list") (R:∀H:Hp,Only H->SqL [] H a (ns.map V.int)->sp [.ref a] H (λv _=>v=.bl true) λ_ _ _=>False)
  (S:∀H e s',CX [] H s₁ (λ_ _ _=>False) e s'->False) :
  codeAny (model P w) callerA (.call (.ref g) ⟨[.ref a],[]⟩) (λr s'=>r=.ok (.ret (.bool true))/\OldK s₁.heap s'.heap/\s'.os=s₁.os/\AllBare s'.gens) s₁:=by
 have T:=vU hi;have ad:=hi.length;have core:∀H:Hp,Only H->SqL [] H a (ns.map V.int)->HOk P w H s₁.heap->(∀b,H b≠none->b=a)->(H a≠none->K.lookup a=none)->
   codeAny (model P w) callerA (.call (.ref g) ⟨[.ref a],[]⟩) (λr s'=>r=.ok (.ret (.bool true))/\OldK s₁.heap s'.heap/\s'.os=s₁.os/\AllBare s'.gens) s₁:=by
  intro H A U hok B X;have C:∀{b:Addr}{o:Obj},s₁.heap.get? b=some o->H b=none->(h_ s₁.heap H).get? b=some o:=λe n=>E6 e n;have Y:∀{b:Addr}{o:Obj}{es:Array DictEntry}{ep:Nat},s₁.heap.get? b=some o->o.data=.dict es ep->H b=none:=λ{b o es ep} e d=>by
   cases q:H b with
   |none=>rfl
   |some u=>
    have i:b=a:=B b (by rw[q];simp);subst i;rw[ha] at e;cases e;have d':Data.seq vs.toArray _=Data.dict es ep:=d;cases d'
  have f:∀{b:Addr}{m:Str->Option Value},s₁.heap.Ns b m->(h_ s₁.heap H).Ns b m:=λ{b m} ⟨o,es,ep,e,d,r⟩=>⟨o,es,ep,C e (Y e d),d,r⟩;have D:K.In (h_ s₁.heap H):=λb o e=>C (p b o e) (by
   cases q:H b with
   |none=>rfl
   |some u=>
    have i:b=a:=B b (by rw[q];simp);subst i;rw[X (by rw[q];simp)] at e;cases e)
  have Z:Mod K mg (h_ s₁.heap H):=⟨D,f y,⟨mb,f c,I⟩,let ⟨mc,h1,h2⟩:=J;⟨mc,f h1,h2⟩⟩;have e0:fk P w K mg (h_ s₁.heap H) callerA [] s₁ H:=⟨rfl,Z,λb o e=>G0 e,AG (Dh _ _),trivial,λb c=>absurd (show b∈([]:List Addr) from c) ∅,hok,.of_eq L⟩;show mY ((F _ D (f y)).run callerA [] s₁ H ⟨[.ref a],[]⟩ [.ref a] [.ref a] _ _ N e0 (O s₁ (.ref a)) (.cons rfl .nil) (R H A U)) λr s' h=>?_;cases r with
  |error e=>show (S H e s' h).elim
  |ok fl=>
   cases fl with
   |next=>show False.elim h
   |brk=>show False.elim h
   |cont=>show False.elim h
   |ret u=>
    obtain⟨v,H',os,bare,un,ab,r',q⟩:=h;have q':v=.bl true:=q;subst q';obtain rfl:u=Value.bool true:=r';show⟨rfl,OldK.of_keep λb o e=>?_,os,bare⟩;cases q:H b with
    |none=>show un.keep b o e q (by intro z;show absurd (show b∈([]:List Addr) from z) ∅) ∅
    |some u=>
     rcases A b with z|⟨ob,xs,z⟩
     .rw[q] at z;cases z
     have z2:=un.frzs b ob _ z;obtain⟨E,_⟩:=hok b _ z;obtain⟨e2,_⟩:=ab b _ z2;rw[e] at E;cases E;show e2
 cases j:K.lookup a with
 |some o=>
  have e:=p a o j;rw[ha] at e;cases e;show absurd rfl (Q _ j)
 |none=>
  show core (λb=>if b=a then some (.frz {cls:=.type "list",data:=.seq vs.toArray} (.lst (ns.map V.int))) else none) (λb=>?_) (.inl (.inr ⟨{cls:=.type "list",data:=.seq vs.toArray},OU rfl⟩)) (λb u z=>?_) (λb z=>?_) λ_=>j
  .by_cases c:b=a
   .exact .inr ⟨_,_,OU c⟩
   show .inl (OT c)
  .by_cases c:b=a
   .have l:=(OU c).symm.trans z;cases l;subst c;show⟨ha,by rw[ay];show M,vs,_,T,ha⟩
   have l:=(OT c).symm.trans z;cases l
  by_cases c:b=a
  .exact c
  show absurd (OT c) z
end L2
namespace L2
open PySem PySem.Spec PyProof.Rows
theorem walk_of{l:W.OpenLaw}{n k:Nat}{q:Program}{loose:List Str}{XP:(Str->Option Value)->Heap->Prop}{YP:World->Heap->Prop}{d:DefRec}{K:Params->W.Frag}{CX:World->CXT}{sp:World->Sp}{x:Str}
  (j:l.most=some n) (m:n<=sizeLine) (p:d.params.defaults=[]) (r:Room k callerA)
  (y:∀(w:World)(h:Heap),YP w h->(K w.params).In h)
  (F:∀(w:World)(mg:Str->Option Value)(c:Addr)(h:Heap),(K w.params).In h->h.Ns mainGlobals mg->mg d.name=some (.ref c)->
   ∃fd:FuncData,(∀(s:Shared)(u:Value),BindsTo s fd ⟨[u],[]⟩ [(x,u)])/\
    ∀base:Heap,(K w.params).In base->base.Ns mainGlobals mg->ai l.prog w (K w.params) mg base (CX w) k c fd [x] (sp w))
  (z:∀(w:World)(a:Addr)(o:Obj),(K w.params).lookup a=some o->o.cls≠.type "list") (A:∀(w:World)(H:Hp)(a:Addr)(ns:List Int),ns.length<=n->Only H->SqL [] H a (ns.map V.int)->sp w [.ref a] H (λv _=>v=.bl true) λ_ _ _=>False)
  (B:∀(w:World)(H:Hp)(s:Shared)(e:Value)(s':Shared),CX w [] H s (λ_ _ _=>False) e s'->False) :
  W.WalkO q loose XP YP l.row.toRowW d [] (λf vs=>PySem.call f vs):=by
 show Att.attach_call j p λw s₀ s₁ mg mb c o pm cd doc a vs ns G Y M hd N C D hints hlen E=>?_;have i:=y w _ Y;obtain⟨fd,I,hF⟩:=F w mg c _ i G.T.g C;show EZ i G.T.g G.T.b G.T.builtins G.T.nolimit E D hints (dn hlen m) r hF I (z w a) (λH J L=>A w H a ns hlen J L) λH e s'=>B w H s₁ e s'
def nlV:Value->Bool
 |.type s=>!(s=="list")
 |_=>true
theorem Ad{a:Addr}{o:Obj}:∀{K:W.Frag},K.all (λx=>nlV x.2.cls)=true->K.lookup a=some o->o.cls≠.type "list"
 | [],_,h=>nomatch h
 |(b,u)::K,e,h=>by
  rw[Al,gH] at e;rw[iP] at h
  split at h
  .cases h;intro z;have:=e.1;rw[z] at this;show absurd this ⋯
  show Ad e.2 h
end L2
namespace L2
open PySem PySem.Spec PyProof.Rows
abbrev CX0:CXT:=λ_ _ _ _ _ _=>False
abbrev E0:XK:=λ_ _ _=>False
theorem pass0:Passes CX0 X E0:=λ_ _ _ _ _ _ _ h=>h.elim
structure Use(P:Program)(w:World)(K:W.Frag)(mg:Str->Option Value)(base:Heap)(n:Nat)(x:Str)(ps:List Str)(sp:Sp)(f:Addr)(fd:FuncData):Prop where
 g:ai P w K mg base CX0 n f fd ps sp
 b:Binds K fd ps []
 m:mg x=some (.ref f)
 k:W.keepIn K (.ref f)=true
theorem uc{k:Nat}{x:Str}{ps:List Str}{sp:Sp}{f:Addr}{e:Expr}{es:List Expr}{t:TA}{p pos:Pos}(G:Use X.prog X.w X.K X.mg X.base k x ps sp f fd)(a:Room k X.A)(ha:PA X (e::es) t)(c:Gl X x:=by rfl)(d:(x==("__debug__" : Str))=false:=by decide)(he:starEach (e::es) X.env=(false,eval e X.env)::starEach es X.env:=by rfl)(h:(backTo pos (starEach es X.env)).any (·.1)=false:=by rfl):PE X (.Call (.Name x p) (e::es) [] pos) (zT sp [] E0 t):=fe G.g a c G.m G.k G.b .nil pass0 ha d he h
structure Fun(K:W.Frag)(x qual:Str)(st:Stmt)(f:Addr)(fd:FuncData):Prop where
 ex:∃(oc:Value)(od:Option Addr)(kV doc pm:Value)(an:Option Addr)(OZ ct:Value)(osl:Array (Option Value)),
  fd=W.fnOf x qual (dY st) (df st) (ao st) .none kV doc pm an OZ ct/\K.lookup f=some ⟨oc,od,.func fd,osl⟩/\W.codeIn K OZ qual=true
 kp:W.keepIn K (.ref f)=true
section
theorem Fun.ok{x qual:Str}{st:Stmt}{f:Addr}{N ps:List Str}{k:Nat}{sp:Sp}(F:Fun K x qual st f fd)(S:aK N ps (ao st))(len:∀vs H Q E,sp vs H Q E->vs.length=ps.length)
  (b:∀(a:Value)(A:Around)(outer:List Env)(s:Shared)(H:Hp)(vs:List V)(Q:VK)(E:XK),Room k (A.deeper (envOfC qual (ao st) ↥s f a))->sp vs H Q E->
   ∃t,PSs (dO CX0 P w K mg base N qual (ao st) f a A outer s H E).nox (df st) t/\t {nx:=λ_ H'=>Q .non H',rt:=Q} (start N vs) H):ai P w K mg base CX0 (k+1) f fd ps sp:=by
 obtain⟨g,od,kV,doc,pm,an,a,ct,i,rfl,lk,c⟩:=F.ex;show uj lk c S len λA outer s H vs Q E d e=>?_;obtain⟨t,h,q⟩:=b a A outer s H vs Q E d e;show⟨t,h.nox,q⟩
theorem Fun.binds{x qual:Str}{st:Stmt}{f:Addr}{ps:List Str}(F:Fun K x qual st f fd)
  (h:∀(kV doc pm:Value)(an:Option Addr)(a ct:Value)(us:List Value),us.length=ps.length->bindArgs (W.fnOf x qual (dY st) (df st) (ao st) .none kV doc pm an a ct) ⟨us,[]⟩=pure (ps.zip us)):Binds K fd ps []:=by
 obtain⟨b,od,kV,doc,pm,an,a,ct,c,rfl,lk,d⟩:=F.ex;show .all (h kV doc pm an a ct)
theorem zC{x qual:Str}{st:Stmt}{f:Addr}{b:Value}{od an:Option Addr}{d:Array (Option Value)}{kV doc pm a ct:Value}(l:K.lookup f=some ⟨b,od,.func (W.fnOf x qual (dY st) (df st) (ao st) .none kV doc pm an a ct),d⟩)
  (c:W.codeIn K a qual=true) (k:W.keepIn K (.ref f)=true):Fun K x qual st f (W.fnOf x qual (dY st) (df st) (ao st) .none kV doc pm an a ct):=⟨⟨b,od,kV,doc,pm,an,a,ct,d,rfl,l,c⟩,k⟩
end
theorem cU{k:Nat}(a:Room k A):A.units+1<cLine:=AI (AE (by decide:1<=64) _) a.units
section
theorem pv(i:Nat){x:Str}{pos:Pos}(a:X.N[i]?=some x:=by rfl)(b:Vis X.env.scope x:=by first|exact Or.inl rfl|exact Or.inr (.inl rfl)|exact Or.inr (.inr rfl))(hd:(x==("__debug__" : Str))=false:=by decide)
  (c:(x==("__classdict__" : Str))=false:=by decide):PE X (.Name x pos) (aW i):=I_ a b hd c
theorem Dy:cV X (.builtin "len") (λxs H Q=>∃a kvs,xs=[V.ref a]/\H a=some (.dK kvs)/\Q (.int kvs.length) H):=by intro OY s Z H xs us Q I r h;obtain⟨a,kvs,rfl,ha,q⟩:=h;obtain⟨u,rfl,b⟩:=vals1 r;cases b;show Lm I (.inl ha) λt s' c=>⟨.int kvs.length,H,c,⟨t,rfl⟩,q⟩
end
theorem aB{A B:Prop}(h:B):if false=true then A else B:=by rw[OT bB];show h
theorem aO{A B:Prop}(h:A):if true=true then A else B:=by rw[OU rfl];show h
theorem ite2{c A B:Prop}[Decidable c](h1:c->A)(h2:¬c->B):if c then A else B:=by
 by_cases h:c
 .rw[OU h];show h1 h
 rw[OT h];show h2 h
theorem Same.refl(H:Hp):Same H H:=λ_ _ h=>h
theorem Same.trans{H H1 H2:Hp}(a:Same H H1)(b:Same H1 H2):Same H H2:=λc o h=>b c o (a c o h)
theorem Same.free(e:Same H H'){l:Addr}(h:H' l=Option.none):H l=Option.none:=by
 cases q:H l with
 |none=>rfl
 |some o=>
  rw[e l o q] at h;cases h
theorem Same.seq{a:Addr}(e:Same H H')(h:SqL K H a xs):SqL K H' a xs:=by
 rcases h with (h|⟨o,h⟩)|h
 .exact .inl (.inl (e _ _ h))
 .exact .inl (.inr ⟨o,e _ _ h⟩)
 show .inr h
section
variable {κ:Type}[DecidableEq κ]
theorem FF{kvs:List (κ×V)}{k:κ}{v:V}(h:bh kvs k=some v):k∈kvs.map (·.1):=by
 have q:(kvs.any λa=>decide (a.1=k))=true:=by
  rw[n6,h]
  all_goals rfl
 obtain⟨p,b,e⟩:=qG.mp q;show ar.mpr ⟨p,b,OX e⟩
end
end L2
end
variable {H:L2.Hp}{Z:L2.St}{X:L2.Cx}{xs:List L2.V}{vs:List L2.V}{H':L2.Hp}
section
namespace L2
open PySem PySem.Spec PyProof.Rows
def dw(env:Env):List (Str×NameKind)->List (Str×Addr)->List (Str×Addr)
 | [],cs=>cs
 |(n,k)::r,cs=>dw env r (if k==.free then (n,(env.cells.lookup n).getD 0)::cs else cs)
theorem vQ(env:Env):∀(names:List (Str×NameKind))(cs:List (Str×Addr)),(∀x∈names,x.2=.free->∃c,env.cells.lookup x.1=some c)->
  (forIn names cs (λ(x:Str×NameKind)(r:List (Str×Addr))=>(do
   if x.2==NameKind.free then
    let a <-cellOf env x.1
    pure (ForInStep.yield ((x.1,a)::r))
   else pure (ForInStep.yield r):Sem (ForInStep (List (Str×Addr))))))=pure (dw env names cs)
 | [],cs,_=>rfl
 |(n,k)::r,cs,h=>by
  have ih:=λcs=>vQ env r cs λx hx=>h x (bJ _ hx);rw[mG];by_cases hk:k=.free
  .subst hk;obtain⟨c,hc⟩:=h (n,.free) gq rfl;have e:cellOf env n=pure c:=by
    have hc':env.cells.lookup n=some c:=hc;unfold cellOf;rw[hc']
    try rfl
   rw[OU (show (((n,NameKind.free).2==NameKind.free)=true) from rfl),e];show Eq.trans ?_ ((ih ((n,c)::cs)).trans ?_)
   .rfl
   have hc':env.cells.lookup n=some c:=hc;change pure (dw env r ((n,c)::cs))=pure (dw env r ((n,(env.cells.lookup n).getD 0)::cs));rw[hc'];rfl
  have hb:(k==NameKind.free)=false:=‹hk›
  rw[OT (show ¬(((n,k).2==NameKind.free)=true) by rw[show ((n,k).2==NameKind.free)=false from hb];simp)];show Eq.trans ?_ ((ih cs).trans ?_)
  .rfl
  change pure (dw env r cs)=pure (dw env r (if (k==NameKind.free)=true then _ else cs));rw[hb];rfl
theorem rm{env:Env}(h:∀x∈scope.names,x.2=.free->∃c,env.cells.lookup x.1=some c):closureFor scope env=pure (dw env scope.names []):=by
 have e:=vQ env scope.names [] h;unfold closureFor;simp only[bind_pure_comp,map_pure] at e |-
 first
  |(rw[e];rfl)
  |show e
theorem yS{env:Env}:∀{names:List (Str×NameKind)}{cs:List (Str×Addr)}{x:Str}{c:Addr},(∀y∈names,y.2=.free->∃c,env.cells.lookup y.1=some c)->
  (dw env names cs).lookup x=some c->env.cells.lookup x=some c\/cs.lookup x=some c
 | [],cs,x,c,_,h=>.inr h
 |(n,k)::r,cs,x,c,hf,h=>by
  have d:∀y∈r,y.2=.free->∃c,env.cells.lookup y.1=some c:=λy f=>hf y (bJ _ f);rcases yS (names:=r) d h with q|q
  .exact .inl q
  by_cases a:(k==NameKind.free)=true
  .rw[OU a] at q;have g:k=.free:=‹a›
   obtain⟨b,e⟩:=hf (n,k) gq g;have e:env.cells.lookup n=some b:=e;rw[iP] at q;cases hx:x==n with
   |true=>
    rw[hx] at q;have i:x=n:=‹hx›
    subst i;rw[e] at q;have j:b=c:=‹q›
    show .inl (j ▸ e)
   |false=>
    rw[hx] at q;show .inr q
  rw[OT a] at q;show .inr q
theorem r_{env:Env}:∀{names:List (Str×NameKind)}{cs:List (Str×Addr)}{x:Str},((x,NameKind.free)∈names\/(cs.lookup x).isSome=true)->((dw env names cs).lookup x).isSome=true
 | [],cs,x,h=>by
  rcases h with h|h
  .simp at h
  show h
 |(n,k)::r,cs,x,h=>by
  show r_ (names:=r) ?_;rcases h with h|h
  .rcases aG.mp h with e|e
   .cases e;show .inr ?_;rw[OU (by rfl),iP,beq_self_eq_true];rfl
   show .inl e
  show .inr ?_;by_cases a:(k==NameKind.free)=true
  .rw[OU a,iP];cases hx:x==n with
   |true=>rfl
   |false=>show h
  rw[OT a];show h
theorem vp(env:Env):∀(names:List (Str×NameKind))(x:Str),
  (names.map λ(n,k)=>if (k==NameKind.free&&env.scope.kind==.function&&env.kindOf n==some .cell) then (n,NameKind.cell) else (n,k)).lookup x=(names.lookup x).map λk=>if (k==NameKind.free&&env.scope.kind==.function&&env.kindOf x==some .cell) then NameKind.cell else k
 | [],_=>rfl
 |(n,k)::r,x=>by
  have b:=vp env r x;rw[aY];dsimp only at b |-;by_cases a:(k==NameKind.free&&env.scope.kind==.function&&env.kindOf n==some .cell)=true
  .rw[OU a,iP,iP];cases hx:x==n with
   |true=>
    have c:x=n:=‹hx›
    subst c;simp only[mO,a,if_true]
   |false=>show b
  rw[OT a,iP,iP];cases hx:x==n with
  |true=>
   have c:x=n:=‹hx›
   subst c;simp only[mO];rw[OT a]
  |false=>show b
def eu(X:Cx)(N:List Str)(scope:Scope)(C:Addr)(s:Shared)(H:Hp)(fp:List Addr)(OY:List (Addr×Obj)):Cx:=
 {X with N:=N,s₀:=s,H₀:=H,env:=compEnvC scope (dw X.env scope.names []) C X.env,outer:=X.stack,ex:=fp,fn:=λ_=>false,pn:=X.pn++OY,xe:=λ_ _=>False}
def gY(fr:List (Option Nat))(Z:St):St:=fr.map λo=>o.bind λi=>(Z[i]?).join
structure e_(X:Cx)(N:List Str)(fr:List (Option Nat))(scope:Scope):Prop where
 nd:N.Nodup
 len:fr.length=N.length
 kind:scope.kind=.function
 nocell:∀y∈scope.names,y.2≠.cell
 names:∀y∈scope.names,y.2=.local->scope.names.lookup y.1=some .local
 frees:∀y∈scope.names,y.2=.free->X.env.kindOf y.1=some .cell\/X.env.kindOf y.1=some .free
 fr:∀(j i:Nat)(x:Str),fr[j]?=some (some i)->N[j]?=some x->X.N[i]?=some x/\scope.names.lookup x=some .free
section
variable {N:List Str}{fr:List (Option Nat)}{fp:List Addr}
theorem e_.cells(S:e_ X N fr scope)(ok:X.Ok):∀y∈scope.names,y.2=.free->∃c,X.env.cells.lookup y.1=some c:=λy a hf=>ok.has y.1 (S.frees y a hf)
theorem ny{names:List (Str×NameKind)}{x:Str}{k:NameKind}(h:names.lookup x=some k):(x,k)∈names:=mU h
theorem wt{C:Addr}{x:Str}:(compEnvC scope (dw X.env scope.names []) C X.env).kindOf x=(scope.names.lookup x).map λk=>if (k==NameKind.free&&X.env.scope.kind==.function&&X.env.kindOf x==some .cell) then NameKind.cell else k:=vp X.env scope.names x
theorem e_.free_of(S:e_ X N fr scope){C:Addr}{x:Str}(h:(compEnvC scope (dw X.env scope.names []) C X.env).kindOf x=some .cell\/(compEnvC scope (dw X.env scope.names []) C X.env).kindOf x=some .free):scope.names.lookup x=some .free:=by
 rw[wt] at h;cases e:scope.names.lookup x with
 |none=>rw[e] at h;simp at h
 |some k=>
  rw[e] at h;have a:=S.nocell _ (ny e);cases k with
  |free=>rfl
  |cell=>show absurd rfl a
  |_=>
   exfalso;rcases h with h|h<;>simp at h
theorem Dv{C:Addr}{x:Str}(h:scope.names.lookup x=some .free):(compEnvC scope (dw X.env scope.names []) C X.env).kindOf x=some .cell\/(compEnvC scope (dw X.env scope.names []) C X.env).kindOf x=some .free:=by
 rw[wt,h,mO];by_cases c:(NameKind.free==NameKind.free&&X.env.scope.kind==.function&&X.env.kindOf x==some .cell)=true
 .rw[OU c];show .inl rfl
 rw[OT c];show .inr rfl
end
end L2
end
section
namespace L2
open PySem PySem.Spec PyProof.Rows
section
variable {N:List Str}{fr:List (Option Nat)}{fp:List Addr}
theorem vN{C:Addr}{h1:Heap}{m:Str->Option Value}{t:Nat}(S:e_ X N fr scope)(I:Inv X OY Z H s)(hf:∀b∈fp,bH X OY H b)(w:↥s<=C)(J:∀b∈fp,b≠C)
  (K:h1.Ns C m) (g:∀b o,s.heap.get? b=some o->h1.get? b=some o):Inv (eu X N scope C s H fp OY) [] (gY fr Z) H {s with heap:=h1,toks:=t}:=by
 have L:=S.cells I.ok;have sub:∀x c,(dw X.env scope.names []).lookup x=some c->X.env.cells.lookup x=some c:=λx c e=>by
  rcases yS L e with q|q
  .exact q
  simp at q
 have ok:(eu X N scope C s H fp OY).Ok:=by
  show⟨I.ok.mod,S.kind,I.ok.glob,I.ok.blt,w,λx y c h1 h2=>I.ok.inj x y c (sub x c h1) (sub y c h2),λx hx=>?_,λx c e=>absurd e (by change ¬(false=true);decide),I.ok.hd,I.ok.frames,.inl rfl,λb f=>?_,λb o e=>I.bs b o e,dn I.ok.bsz I.sz,λb o e f=>?_,λb f=>?_,I.stack,I.stkFree⟩
  .have e:=S.free_of hx;show AN.mp (r_ (.inl (ny e)))
  .exact⟨J b f,λx c e=>(hf b f).2.2.2.2.1 x c (sub x c e)⟩
  .rcases (hf b f).2.2.2.1 with z|z
   .exact I.ok.noex b o e z
   show absurd (b_ (aF e) (dn I.ok.bsz z)) (c7 _)
  intro z;rcases aG.mp (I.stkSub b z) with q|q
  .exact (hf b f).2.1 q
  show (hf b f).2.2.1 q
 have M:H C=none:=I.hok.fresh w;show⟨ok,rfl,I.bare,Un.kept g,⟨m,K,λj x v O a e3=>?_⟩,λx c e=>?_,M,λx c e=>I.freeC x c (sub x c e),λp l=>?_,I.hok.kept g,?_⟩
 .have a:(gY fr Z)[j]?=some (some v):=a;unfold gY at a;rw[bf] at a;cases q:fr[j]? with
  |none=>rw[q] at a;cases a
  |some o=>
   rw[q] at a;cases o with
   |none=>cases a
   |some i=>
    have a:(Z[i]?).join=some v:=dz a;obtain⟨hi,A⟩:=S.fr j i x q O;have hσ:Z[i]?=some (some v):=by
     cases z:Z[i]? with
     |none=>rw[z] at a;cases a
     |some y=>rw[z] at a;cases y with
      |none=>cases a
      |some P=>have a:some P=some v:=a;rw[a]
    obtain⟨m0,_,Q⟩:=I.loc;have D:X.env.kindOf x=some .cell\/X.env.kindOf x=some .free:=S.frees (x,.free) (ny A) rfl;have R:Vis X.env.scope x:=D.elim (λz=>.inr (.inl z)) λz=>.inr (.inr z);obtain⟨u,r,lk⟩:=Q i x v hi hσ R;rcases lk with ⟨z,_⟩|⟨_,c,T,U⟩
    .rcases D with y|y<;>(rw[y] at z;cases z)
    show⟨u,r,.inr ⟨Dv A,?_⟩⟩;obtain⟨Y,E⟩:=AN.mp (r_ (env:=X.env) (names:=scope.names) (cs:=[]) (.inl (ny A)));have:=sub x Y E;rw[T] at this;cases this;obtain⟨o,B,hd⟩:=U;show⟨c,E,o,g c o B,hd⟩
 .obtain⟨v,o,B,hd⟩:=I.cell x c (sub x c e);show⟨v,o,g c o B,hd⟩
 .have l:p∈(X.pn++OY)++[]:=l;rw[eG] at l;obtain⟨e,n,ne,nf,d⟩:=I.pin p l;show⟨g _ _ e,n,λz=>?_,λz=>?_,d⟩
  .have z:p.1=C:=z;show absurd (b_ (aF e) w) (by rw[z];show c7 _)
  rcases aG.mp (I.stkSub p.1 z) with q|q
  .exact ne q
  show nf q
 change (gY fr Z).length=N.length;unfold gY;rw[ay];show S.len
theorem xo{C:Addr}{H2:Hp}{s':Shared}{Z':St}{c:List (Addr×Obj)}(I:Inv X OY Z H s)(hf:∀b∈fp,bH X OY H b)(d:↥s<=C)(J:Inv (eu X N scope C s H fp OY) c Z' H2 s') :
  Inv X OY Z H2 s'/\bH X OY H2 C:=by
 have e:Inv X OY Z H2 s':=I.call' J.os J.base J.hok J.bare λb a=>⟨(hf b a).2.2.2.1,(hf b a).2.1,(hf b a).2.2.2.2.1,(hf b a).2.2.2.2.2⟩;show⟨e,I.fpOk d J.free⟩
end
end L2
end
section
namespace L2
open PySem PySem.Spec PyProof.Rows
def PIf(X:Cx)(ifs:List Expr)(t:TT):Prop:=
 ∀(OY:List (Addr×Obj))(s:Shared)(Z:St)(H:Hp)(Q:Bool->Hp->Prop),Inv X OY Z H s->t Z H Q->
  wpAny ⇑X X.A (forIn ifs true λc r=>if r=true then do let ok <-isTrue c X.env (eval c X.env);pure (ForInStep.yield ok) else pure (ForInStep.yield r)) (TP X OY Z Q) X.xe s
theorem eO:PIf X [] (λ_ H Q=>Q true H):=λ_ _ _ H _ I h=>wpAny_tests_nil ⟨H,I,h⟩
theorem gR{c:Expr}{t:TT}(h:PT X c t):PIf X [c] t:=λOY s Z H Q I q=>wpAny_tests_one (h OY s Z H Q I q)
def tBlE(D:Addr)(ys:List V)(N:St->List V->Hp->Prop)(σ2:St):VK:=λy a=>a D=some (.lst ys)/\ys.length<sizeLine/\WrO a D (.lst (ys++[y])) (N σ2 (ys++[y]))
def uv(te:TE)(D:Addr)(ys:List V)(N:St->List V->Hp->Prop)(σ2:St):Bool->Hp->Prop:=λb a=>if b=true then te σ2 a (tBlE D ys N σ2) else N σ2 ys a
def qp(tt:TT)(te:TE)(D:Addr)(ys:List V)(N:St->List V->Hp->Prop):St->Hp->Prop:=λσ2 H2=>tt σ2 H2 (uv te D ys N σ2)
def tBlN(J:It)(g:TG)(tt:TT)(te:TE)(D:Addr)(W:Nat->Nat->St->List V->Hp->Prop)(i m:Nat)(Z:St)(ys:List V)(H:Hp)(N:St->List V->Hp->Prop):Prop:=(∀Z' a H',N Z' a H'->∃b,b<m/\W (i+1) b Z' a H')/\∀x H',J.yld i H x H'->g x Z H' (qp tt te D ys N)
def tBlB(J:It)(g:TG)(tt:TT)(te:TE)(D:Addr)(Z':St)(H1:Hp)(Q:Hp->Prop)(W:Nat->Nat->St->List V->Hp->Prop):Prop:=(∃m,W 0 m Z' [] (upd H1 D (.lst [])))/\∀i m Z ys H,W i m Z ys H->(J.stop i H/\Q H)\/(J.go i H/\Exists (tBlN J g tt te D W i m Z ys H))
def jV(J:It)(g:TG)(tt:TT)(te:TE)(D:Addr)(Z':St)(H1:Hp)(Q:Hp->Prop):Prop:=Exists (tBlB J g tt te D Z' H1 Q)
theorem Du{elt target iter:Expr}{ifs:List Expr}{scope:Scope}{pos:Pos}{it acc:Value}{env:Env}{R:Result->Shared->Prop}(I:Nat->Shared->Prop)
  (turn:∀n s,I n s->wpAny (model P w) A (pyNext it) (λr s1=>match r with
   |none=>R (.ok .next) s1
   |some v=>wpAny (model P w) A (letOwnedTupleGo target it v) (λ_ s1'=>wpAny (model P w) A (assign target env v) (λ_ s2=>
     wpAny (model P w) A (forIn ifs true λc r=>if r=true then do let ok <-isTrue c env (eval c env);pure (ForInStep.yield ok) else pure (ForInStep.yield r)) (λok s3=>
      if ok=true then wpAny (model P w) A (eval elt env) (λx s4=>
       wpAny (model P w) A (call (.builtin "list.append") [acc,x]) (λ_ s5=>∃m,m<n/\I m s5) (λ_ _=>False) s4) (λ_ _=>False) s3
      else ∃m,m<n/\I m s3) (λ_ _=>False) s2) (λ_ _=>False) s1') (λ_ _=>False) s1) (λ_ _=>False) s)
  (n:Nat) (h:I n s) :
  codeAny (model P w) A (.compLoop (.ListComp elt [⟨target,iter,ifs,0⟩] scope pos) 0 it acc env) R s:=by
 have no:∀(e:Value)(t:Shared),False->notedBy (model P w) A env (λe s'=>R (.error e) s') e t:=λ_ _ z=>z.elim;show codeAny_loop rfl I (λn s hI=>?_) n h;show wpAny_noted ?_;rw[compTurn_list];show aa (kU (aa (bF (turn n s hI) (λr s1 h1=>?_) no)));cases r with
 |none=>show af h1
 |some v=>
  show aa (bF h1 (λ_ s1' h1'=>?_) no);show aa (bF h1' (λ_ s2 h2=>aa (bF h2 (λok s3 h3=>?_) no)) no);cases ok with
  |false=>show af ⟨rfl,h3⟩
  |true=>
   show aa (aa (bF h3 (λx s4 h4=>aa (bF h4 (λ_ s5 h5=>af (af ⟨rfl,h5⟩)) no)) no))
section
variable {N:List Str}{fr:List (Option Nat)}{fp:List Addr}
theorem Fs{elt target iter:Expr}{ifs:List Expr}{pos:Pos}{it D:Addr}{q:Nat->Heap->Prop}{J:It}{g:TG}{tt:TT}{te:TE}{R:Result->Shared->Prop}{s1:Shared}{L:St}{H1:Hp}{Q:Hp->Prop}
  {Y:Cx} (hY:Y.xe=λ_ _=>False) (S:Y.calm=true) (I:Inv Y [] L (upd H1 D (.lst [])) s1) (T:Turn Y.prog Y.w Y.K target J fp it q) (ht:q 0 s1.heap) (hf:∀b∈fp,bH Y [] (upd H1 D (.lst [])) b)
  (hg:PG Y target g) (hi:PIf Y ifs tt) (he:PE Y elt te) (h:jV J g tt te D L H1 Q) (hR:∀s' Z' H',Inv Y [] Z' H' s'->Q H'->R (.ok .next) s') :
  codeAny (model Y.prog Y.w) Y.A (.compLoop (.ListComp elt [⟨target,iter,ifs,0⟩] scope pos) 0 (.ref it) (.ref D) Y.env) R s1:=by
 obtain⟨W,⟨m0,w0⟩,turn⟩:=h;have M:∀{H':Hp},(∀b∈fp,H' b=none)->∀b∈fp,bH Y [] H' b:=λhn b a=>⟨hn b a,(hf b a).2⟩;show Du (λn s'=>∃i Z' ys H',Inv Y [] Z' H' s'/\q i s'.heap/\(∀b∈fp,H' b=none)/\W i n Z' ys H') ?_ m0 ⟨0,L,[],_,I,ht,λb a=>(hf b a).1,w0⟩;rintro n U ⟨i,l,ys,z,X,Z,ab,w3⟩;have back:∀{α:Type}{t:Sem α}{Q:α->Shared->Prop}{s:Shared},wpAny (model Y.prog Y.w) Y.A t Q Y.xe s->wpAny (model Y.prog Y.w) Y.A t Q (λ_ _=>False) s:=λh=>by rw[hY] at h;show h
 rcases turn i n l ys z w3 with ⟨stop,qn⟩|⟨go,N',ad,step⟩
 .refine thn (T.done Y rfl rfl rfl S i [] U l z _ X (M ab) Z stop) λr s4 ⟨N,I4⟩=>?_;subst N;show hR s4 l z I4 qn
 show thn (T.item Y rfl rfl rfl S i [] U l z _ X (M ab) Z go) λr s4 ⟨u,N,h4⟩=>?_;subst N;show thn h4 λ_ s5 ⟨x,H5,I5,r5,y5,O,al⟩=>?_;have ag:=I5.pinned (M al) (T.obj _ _ O);rw[AA] at ag;show thn (back (hg _ s5 l H5 x u _ ag r5 (step x H5 y5))) λ_ s6 ⟨B,H6,I6,q6⟩=>?_;show thn (back (hi _ s6 B H6 _ I6 q6)) λb c ⟨f,j,C⟩=>?_;have again:∀{E:St}{f:Hp}{c:Shared}{P:List V},Inv Y (jZ fp s5.heap) E f c->(∃H,H<n/\W (i+1) H E P f)->∃m,m<n/\∃i Z' ys H',Inv Y [] Z' H' c/\q i c.heap/\(∀b∈fp,H' b=none)/\W i m Z' ys H':=λ{E f c P} j ⟨H,hm,w7⟩=>by
  show⟨H,hm,i+1,E,P,f,j.pins_of (λp hp=>by simp at hp),T.keep _ _ _ O λb a o e=>(j.pin (b,o) (eY _ (jC a e))).1,λb a=>?_,w7⟩;obtain⟨o,e,d⟩:=T.obj _ _ O b a;show (j.pin (b,o) (eY _ (jC a e))).2.1
 cases b with
 |false=>
  rw[uv,OT bB] at C;rw[OT bB];show again j (ad _ _ _ C)
 |true=>
  rw[uv,OU rfl] at C;rw[OU rfl];show thn (back (he _ c B f _ j C)) λv s8 ⟨y,H8,I8,r8,hD,hl,q8⟩=>?_;show thn (back (eZ _ s8 B H8 (.ref D) [y] (.ref D) [v] (λ_ H'=>N' B (ys++[y]) H') I8 rfl (.cons r8 .nil) ⟨D,ys,y,rfl,rfl,hD,hl,q8⟩)) λ_ s9 ⟨_,H9,I9,_,q9⟩=>?_;show again I9 (ad _ _ _ q9)
end
end L2
end
section
namespace L2
open PySem PySem.Spec PyProof.Rows
def tCoD(Q:VK)(D:Addr):Hp->Prop:=λH2=>Q (.ref D) H2
def tCoA(g:TG)(tt:TT)(te:TE)(fr:List (Option Nat))(Z:St)(Q:VK)(J:It)(H1:Hp):Prop:=∀D,H1 D=none->jV J g tt te D (gY fr Z) H1 (tCoD Q D)
def tCoK(g:TG)(tt:TT)(te:TE)(fr:List (Option Nat))(Z:St)(Q:VK):It->Hp->Prop:=λJ H1=>tCoA g tt te fr Z Q J H1
def mj(wi:TI)(g:TG)(tt:TT)(te:TE)(fr:List (Option Nat)):TE:=λZ H Q=>wi Z H (tCoK g tt te fr Z Q)
section
variable {N:List Str}{fr:List (Option Nat)}{elt tg iter:Expr}{ifs:List Expr}{pos:Pos}{wi:TI}{g:TG}{tt:TT}{te:TE}
def PComp(X:Cx)(N:List Str)(scope:Scope)(tg:Expr)(ifs:List Expr)(elt:Expr)(g:TG)(tt:TT)(te:TE):Prop:=
 ∀(C:Addr)(s:Shared)(H:Hp)(fp:List Addr)(OY:List (Addr×Obj)),PG (eu X N scope C s H fp OY) tg g/\PIf (eu X N scope C s H fp OY) ifs tt/\PE (eu X N scope C s H fp OY) elt te
theorem vO{i:Value}{Z_:Value->Addr->Result->Shared->Prop}{QQ:Addr->Hp->Prop}(S:e_ X N fr scope)(I:X.calm=true)
  (a:PComp X N scope tg ifs elt g tt te) (h2:PIE X OY Z tg (λJ H1=>∀D,H1 D=none->jV J g tt te D (gY fr Z) H1 (QQ D)) i s)
  (K:∀D C s' H',Inv X OY Z H' s'->bH X OY H' C->(∃m,s'.heap.Ns C m)->QQ D H'->Z_ (.ref D) C (.ok .next) s') :
  wpAny ⇑X X.A (newList []) (λacc L=>wpAny ⇑X X.A (newFunctionEnv scope X.env.globals (dw X.env scope.names []) [] X.env.qual none .none (some X.env)) (λj M=>
   codeAny ⇑X X.A (.compStart (.ListComp elt [⟨tg,iter,ifs,0⟩] scope pos) 0 i acc {j with scope:=relabel scope X.env}) (Z_ acc j.locals) M) E L) E s:=by
 obtain⟨it,fp,O,J,H1,e,l,T,n,r,q⟩:=h2;subst e;have P:H1 ↥s=none:=l.hok.fresh (aq _);have old:∀b∈fp,b<↥s:=λb a=>by
  obtain⟨o,e,_⟩:=T.obj _ _ n b a;show aF e
 show dW (NF S.nocell (by intro y Q;simp at Q) (λh1 v h=>?_) S.kind);dsimp only at v h |-;have x:Inv X OY Z (upd H1 ↥s (.lst [])) {s with heap:=s.heap.push {cls:=.type "list",dict:=none,data:=.seq ([]:List Value).toArray}}:=by show l.laid (t':=s.toks) (λb u e=>aE _ e) (aq _) ?_;show⟨bE _,[],_,.nil,br _ rfl⟩
 have c:∀b∈fp,bH X OY (upd H1 ↥s (.lst [])) b:=λb a=>⟨by rw[av (bo (old b a))];show (r b a).1,(r b a).2⟩;have hsz:(s.heap.push {cls:=.type "list",dict:=none,data:=.seq ([]:List Value).toArray}).objs.size=↥s+1:=jm ..;have d:=vN (C:=(s.heap.push {cls:=.type "list",dict:=none,data:=.seq ([]:List Value).toArray}).objs.size) (h1:=h1) (t:=s.toks+([]:List (Str×Value)).length) (fp:=fp) S x c (aq _)
  (λb a=>by rw[hsz];show bo (mL (old b a))) v λb o e=>h.extBut b o (bo (aF e)) (aE _ e)
 have z:O 0 h1:=T.keep _ _ _ n λb a o e=>by
  have B:=aE {cls:=.type "list",dict:=none,data:=.seq ([]:List Value).toArray} e;show h.extBut b o (bo (aF B)) (aE _ B)
 have U:∀b∈fp,bH (eu X N scope (s.heap.push {cls:=.type "list",dict:=none,data:=.seq ([]:List Value).toArray}).objs.size {s with heap:=s.heap.push {cls:=.type "list",dict:=none,data:=.seq ([]:List Value).toArray}} (upd H1 ↥s (.lst [])) fp OY) [] (upd H1 ↥s (.lst [])) b:=λb a=>by
  show⟨(c b a).1,(d.ok.exf b a).1,d.ok.exfs b a,.inl a,(d.ok.exf b a).2,λp f=>?_⟩;have f:p∈(X.pn++OY)++[]:=f;rw[eG] at f;show (c b a).2.2.2.2.2 p f
 obtain⟨b1,b2,b3⟩:=a (s.heap.push {cls:=.type "list",dict:=none,data:=.seq ([]:List Value).toArray}).objs.size {s with heap:=s.heap.push {cls:=.type "list",dict:=none,data:=.seq ([]:List Value).toArray}} (upd H1 ↥s (.lst [])) fp OY;have run:=Fs (Y:=eu X N scope (s.heap.push {cls:=.type "list",dict:=none,data:=.seq ([]:List Value).toArray}).objs.size {s with heap:=s.heap.push {cls:=.type "list",dict:=none,data:=.seq ([]:List Value).toArray}} (upd H1 ↥s (.lst [])) fp OY) (elt:=elt) (iter:=iter) (pos:=pos) (scope:=scope) (R:=Z_ (.ref ↥s) (s.heap.push {cls:=.type "list",dict:=none,data:=.seq ([]:List Value).toArray}).objs.size) rfl I d T z U b1 b2 b3 (q _ P) λs' Z' H' H q'=>by
  obtain⟨J1,F1⟩:=xo x c (aq _) H;obtain⟨m,hm,_⟩:=H.loc;show K _ _ s' H' J1 F1 ⟨m,hm⟩ q'
 show codeAny_compStart_list run (T.self _ 0 _ _ _ z run)
theorem dB(S:e_ X N fr scope)(c:X.calm=true)(hi:PI X tg iter wi)(a:PComp X N scope tg ifs elt g tt te)
  (d:∀x,foldedSetIterable iter X.env x=pure x:=by intro _;rfl):PE X (.ListComp elt [⟨tg,iter,ifs,0⟩] scope pos) (mj wi g tt te fr):=by
 intro OY s Z H Q I h;rw[eval_ListComp];show Bc (use:=none) rfl d (rm (S.cells I.ok)) S.kind S.names (thn (hi OY s Z H _ I h) λv s1 h1=>thn h1 λi s2 h2=>?_);show vO (QQ:=λD H2=>Q (.ref D) H2) (Z_:=λacc C=>compPost ⇑X X.A X.xe none (EP X OY Z Q) acc C) S c a h2 λD C s' H' J F hm q=>?_;obtain⟨m,hm⟩:=hm;show⟨m,hm,λh' f=>⟨.ref D,H',?_,rfl,q⟩⟩;show J.turned (t':=s'.toks) (λb o a e=>f.extBut b o a e) F.1 F.2.1 F.2.2.2.1 F.2.2.2.2.1 F.2.2.2.2.2
theorem oP{i:Nat}{x:Str}{pos' spos:Pos}(S:e_ X N fr scope)(hc:X.calm=true)(hi:PI X tg iter wi)(hb:PComp X N scope tg ifs elt g tt te)(hN:X.N.Nodup)(hx:X.N[i]?=some x)(hl:Loc X.env.scope x)
  (hsw:swapsWith (.ListComp elt [⟨tg,iter,ifs,0⟩] scope pos) (some (.Name x pos')) spos.line X.env=pure true:=by rfl)
  (hf:X.fn x=true\/X.env.scope.names.lookup x=some .local:=by first|exact .inl rfl|exact .inr rfl|assumption)
  (hs:∀x,foldedSetIterable iter X.env x=pure x:=by intro _;rfl):PS X (.Assign [.Name x pos'] (.ListComp elt [⟨tg,iter,ifs,0⟩] scope pos) spos) (mm (mj wi g tt te fr) (cI i)):=by
 intro OY s Z H D I h;rw[exec_Assign_Name_used _ _ _ _ hsw];show aa (kU (aa ?_));change wpAny _ _ (do let _ <-comprehension (.ListComp elt [⟨tg,iter,ifs,0⟩] scope pos) scope X.env _ (newList []) false (eval iter X.env) (some (assign (.Name x pos') X.env))) _ _ s;show aa (thn (Bc (use:=some (assign (.Name x pos') X.env)) (Q:=λ_ s'=>SP X OY D .next s') rfl hs (rm (S.cells I.ok)) S.kind S.names (thn (hi OY s Z H _ I h) λv s1 h1=>thn h1 λitv s2 h2=>?_)) λ_ s' hq=>af (af hq));show vO (QQ:=λd H2=>D.nx (Z.set i (some (.ref d))) H2) (Z_:=λacc C=>compPost ⇑X X.A X.xe (some (assign (.Name x pos') X.env)) (λ_ s'=>SP X OY D .next s') acc C) S hc hb h2 λd C s' H' J F hm q=>?_;obtain⟨m,hm⟩:=hm;change wpAny _ _ (assign (.Name x pos') X.env (.ref d)) _ _ s';show Nw (vV J hN hx hl (v:=.ref d) rfl (λs2 I2 ⟨a,sb,ha⟩=>?_) hf);have hCa:C≠a:=by
  rcases ha with e|e
  .rw[e];show F.2.1
  show λz=>F.2.2.2.2.1 x a e z.symm
 show⟨m,hm.sameBut sb hCa,λh' hs'=>⟨_,H',?_,q⟩⟩;show I2.turned (t':=s2.toks) (λb o hb e=>hs'.extBut b o hb e) F.1 F.2.1 F.2.2.2.1 F.2.2.2.2.1 F.2.2.2.2.2
end
section
variable {a D:Addr}{g:TG}{tt:TT}{te:TE}{Z':St}{H1:Hp}{Q:Hp->Prop}
theorem dH(Pv:Nat->St->List V->Hp->Prop)(c:Pv 0 Z' [] (upd H1 D (.lst [])))(d:∀i Z ys H,i<=xs.length->Pv i Z ys H->SqL K H a xs)
  (f:∀i x Z ys H,xs[i]?=some x->Pv i Z ys H->g x Z H (qp tt te D ys (Pv (i+1))))
  (hd:∀Z ys H,Pv xs.length Z ys H->Q H):jV (Itl K a) g tt te D Z' H1 Q:=by
 show⟨λi m Z ys H=>m=xs.length-i/\i<=xs.length/\Pv i Z ys H,⟨xs.length,∅,bE _,c⟩,?_⟩;rintro i m Z ys H ⟨rfl,hi,p⟩;have q:=d i Z ys H hi p;by_cases b:i<xs.length
 .refine .inr ⟨⟨xs,xs[i],q,by simp[b]⟩,Pv (i+1),λZ' j H' h=>⟨xs.length-(i+1),(),rfl,b,h⟩,λx H' y=>?_⟩;obtain⟨e,y⟩:=y;subst e;show f i x Z ys _ (y xs q) p
 have e:i=xs.length:=();subst e;show .inl ⟨⟨xs,q,aq _⟩,hd Z ys H p⟩
theorem ou(Pv:Nat->St->List V->Hp->Prop)(c:Pv 0 Z' [] (upd H1 D (.lst [])))(d:∀i Z ys H,i<=xs.length->Pv i Z ys H->SqT K H a xs)
  (f:∀i x Z ys H,xs[i]?=some x->Pv i Z ys H->g x Z H (qp tt te D ys (Pv (i+1))))
  (hd:∀Z ys H,Pv xs.length Z ys H->Q H):jV (Itt K a) g tt te D Z' H1 Q:=by
 show⟨λi m Z ys H=>m=xs.length-i/\i<=xs.length/\Pv i Z ys H,⟨xs.length,∅,bE _,c⟩,?_⟩;rintro i m Z ys H ⟨rfl,hi,p⟩;have q:=d i Z ys H hi p;by_cases b:i<xs.length
 .refine .inr ⟨⟨xs,xs[i],q,by simp[b]⟩,Pv (i+1),λZ' j H' h=>⟨xs.length-(i+1),(),rfl,b,h⟩,λx H' y=>?_⟩;obtain⟨e,y⟩:=y;subst e;show f i x Z ys _ (y xs q) p
 have e:i=xs.length:=();subst e;show .inl ⟨⟨xs,q,aq _⟩,hd Z ys H p⟩
end
end L2
end
section
namespace TimS
open PySem PySem.W PyProof.Rows
theorem half{u w:Nat}(h:¬u ≥ w):u<=(u+w)/2/\(u+w)/2<w:=()
theorem fewer{u w k t m:Nat}(h:w-u<=k-t)(h1:m<w)(h2:u<=m):m-u<=k-(t+1):=()
theorem fewer'{u w k t m:Nat}(h:w-u<=k-t)(h1:m<w)(h2:u<=m):w-(m+1)<=k-(t+1):=()
abbrev SM:=StateT SortSt Sem
def G(a:Array Keyed)(i:Nat):Keyed:=a.getD i (Value.none,Value.none)
structure Cmp(M:Model)(A:Around)(E:Value->Shared->Prop)(s:Shared)(κ:SortKind)(N:Keyed->Prop)(lt:Keyed->Keyed->Bool):Prop where
 asym:∀x y,lt x y=true->lt y x=false
 tr:∀x y z,lt y x=false->lt z y=false->lt z x=false
 ask:∀{x y:Keyed}{st:SortSt}{Q:Option Bool->SortSt->Prop},N x->N y->kindOf st=κ->Q (some (lt x y)) st->wpS M A E s (lt' x y) Q st
section
variable {M:Model}{κ:SortKind}{N:Keyed->Prop}{lt:Keyed->Keyed->Bool}
theorem Aj{a:Array Keyed}{i:Nat}(h:i<a.size):a[i]?=some (G a i):=by simp[G,Array.getD,h]
theorem hV{α:Type}{c:Prop}[Decidable c]{t e:StateT SortSt Sem α}{Q:α->SortSt->Prop}{st:SortSt}(h:c)(q:wpS M A E s t Q st):wpS M A E s (if c then t else e) Q st:=by rw[OU h];show q
theorem fY{α:Type}{c:Prop}[Decidable c]{t e:StateT SortSt Sem α}{Q:α->SortSt->Prop}{st:SortSt}(h:¬c)(q:wpS M A E s e Q st):wpS M A E s (if c then t else e) Q st:=by rw[OT h];show q
theorem xu{a:Array Keyed}{i:Nat}{Q:Keyed->SortSt->Prop}{st:SortSt}(h:i<a.size)(q:Q (G a i) st):wpS M A E s (elem' a i) Q st:=by rw[elem'_eq,Aj h];show dq q
theorem Cmp.refl(C:Cmp M A E s κ N lt)(x:Keyed):lt x x=false:=by
 cases h:lt x x with
 |false=>rfl
 |true=>have z:=C.asym x x h;rw[h] at z;cases z
theorem Cmp.ltle(C:Cmp M A E s κ N lt){x y z:Keyed}(h:lt x y=true)(h2:lt z y=false):lt x z=true:=by
 cases q:lt x z with
 |true=>rfl
 |false=>have:=C.tr _ _ _ h2 q;rw[h] at this;cases this
theorem xt{x:String}{Q:Unit->SortSt->Prop}{st:SortSt}(h:Q .unit st):wpS M A E s (liftM (rule x):SM Unit) Q st:=wpS_lift (Bm ⟨rfl,h⟩)
end
def Seg(lt:Keyed->Keyed->Bool)(a:Array Keyed)(lo hi:Nat):Prop:=∀i j,lo<=i->i<=j->j<hi->lt (G a j) (G a i)=false
def Dn(lt:Keyed->Keyed->Bool)(a:Array Keyed)(lo hi:Nat):Prop:=∀i j,lo<=i->i<=j->j<hi->lt (G a i) (G a j)=false
def Tl(lt:Keyed->Keyed->Bool)(a:Array Keyed)(hi q:Nat):Prop:=∀i j,hi<=i+(q+1)->i<hi->hi<=j+(q+1)->j<hi->lt (G a i) (G a j)=false
structure Cg(lo hi:Nat)(a a':Array Keyed):Prop where
 pm:a'.Perm a
 at_:∀k,k<lo\/hi<=k->G a' k=G a k
theorem Cg.size{lo hi:Nat}{a b:Array Keyed}(h:Cg lo hi a b):b.size=a.size:=h.pm.size_eq
theorem Cg.refl(lo hi:Nat)(a:Array Keyed):Cg lo hi a a:=⟨NN _,λ_ _=>rfl⟩
theorem Cg.trans{lo hi:Nat}{a b c:Array Keyed}(h:Cg lo hi a b)(h2:Cg lo hi b c):Cg lo hi a c:=⟨h2.pm.trans h.pm,λk d=>(h2.at_ k d).trans (h.at_ k d)⟩
theorem Cg.mono{lo hi c d:Nat}{a b:Array Keyed}(h:Cg lo hi a b)(h1:c<=lo)(h2:hi<=d):Cg c d a b:=⟨h.pm,λk e=>h.at_ k ()⟩
theorem mw{p q:Array Keyed}{i j:Nat}(h:p[i]?=q[j]?):G p i=G q j:=by
 have e:∀(a:Array Keyed)(k:Nat),G a k=(a[k]?).getD (Value.none,Value.none):=λa k=>by simp[G]
 rw[e,e,h]
theorem fR{p:Array Keyed}{i j:Nat}(a:j<=p.size)(k:Nat):G (mirror p i j ((j-i)/2)) k=if i<=k/\k<j then G p (i+j-1-k) else G p k:=by
 have h:=getElem?_mirror_all (xs:=p) (i:=i) a k
 split
 .rename_i c;rw[OU c] at h;show mw h
 rename_i c;rw[OT c] at h;show mw h
theorem pO{p:Array Keyed}{i j:Nat}(a:j<=p.size):Cg i j p (mirror p i j ((j-i)/2)):=⟨mirror_perm _ _ _ _,λk b=>by rw[fR a,OT ()]⟩
abbrev sa(st:SortSt)(a:Array Keyed):SortSt:=setArr st a
section
variable {M:Model}{κ:SortKind}{N:Keyed->Prop}{lt:Keyed->Keyed->Bool}
def Nm(N:Keyed->Prop)(a:Array Keyed):Prop:=∀x,x∈a->N x
theorem Nm.at{a:Array Keyed}(h:Nm N a){i:Nat}(hi:i<a.size):N (G a i):=h _ (Array.mem_of_getElem? (Aj hi))
theorem Nm.perm{a b:Array Keyed}(h:Nm N a)(e:b.Perm a):Nm N b:=λx hx=>h x (e.mem_iff.mp hx)
theorem lF(C:Cmp M A E s κ N lt){st:SortSt}{a:Array Keyed}{i j:Nat}{Q:Option Bool->SortSt->Prop}(hk:kindOf st=κ)(hN:Nm N a)(hi:i<a.size)(hj:j<a.size)(h:Q (some (lt (G a i) (G a j))) (sa st a)):wpS M A E s (ltAt' i j) Q (sa st a):=by rw[ltAt'_eq];show bR (nj ?_);change wpS _ _ _ _ (do let x <-elem' a i;let y <-elem' a j;lt' x y) Q _;show bR (xu hi (bR (xu hj (C.ask (hN.at hi) (hN.at hj) hk h))))
theorem FY(C:Cmp M A E s κ N lt){a:Array Keyed}{l:Nat}:Seg lt a l (l+1):=λi j h1 h2 b=>by
 have:i=j:=();subst this;show C.refl _
theorem D8(C:Cmp M A E s κ N lt){a:Array Keyed}{l n:Nat}(h:Seg lt a l (l+n))(h1:1<=n)(b:lt (G a (l+n)) (G a (l+n-1))=false):Seg lt a l (l+(n+1)):=λi j hi c f=>by
 by_cases e:j=l+n
 .subst e;by_cases d:i=l+n
  .subst d;show C.refl _
  show C.tr _ (G a (l+n-1)) _ (h i (l+n-1) hi () ()) b
 show h i j hi c ()
theorem lR(C:Cmp M A E s κ N lt){a:Array Keyed}{l n:Nat}(h:Dn lt a l (l+n))(h1:1<=n)(b:lt (G a (l+n-1)) (G a (l+n))=false):Dn lt a l (l+(n+1)):=λi j hi c f=>by
 by_cases e:j=l+n
 .subst e;by_cases d:i=l+n
  .subst d;show C.refl _
  show C.tr _ (G a (l+n-1)) _ b (h i (l+n-1) hi () ())
 show h i j hi c ()
theorem DE(C:Cmp M A E s κ N lt){st:SortSt}{a:Array Keyed}{l m:Nat}{Q:Option Nat->SortSt->Prop}(hk:kindOf st=κ)(hN:Nm N a)(h1:1<=m)(hs:l+m<=a.size)
  (q:∀n a',Cg l (l+m) a a'->1<=n->n<=m->Seg lt a' l (l+n)->Q (some n) (sa st a')):wpS M A E s (countRun' l m) Q (sa st a):=by
 have asc:∀(n:Nat)(a':Array Keyed)(Q':Option (Option Nat)×Nat->SortSt->Prop),Cg l (l+m) a a'->1<=n->n<=m->Seg lt a' l (l+n)->(∀n',n<=n'->n'<=m->Seg lt a' l (l+n')->(n'<m->lt (G a' (l+n')) (G a' (l+n'-1))=true)->Q' (none,n') (sa st a'))->
   wpS M A E s (forIn [n:m] ((none,n):Option (Option Nat)×Nat) λ_ x=>do
    let z <-ltAt' (l+x.2) (l+x.2-1)
    match z with
    |some z=>if z=true then pure (ForInStep.done (none,x.2)) else pure (ForInStep.yield (none,x.2+1))
    |_=>pure (ForInStep.done (some none,x.2))) Q' (sa st a'):=by
  intro n a' Q' cg n1 nm sg q';show ni (β:=Option (Option Nat)×Nat) (I:=λt x st'=>st'=sa st a'/\x.1=none/\x.2=t/\n<=t/\t<=m/\Seg lt a' l (l+t)) (Q:=Q') ?_ ?_ ⟨rfl,rfl,rfl,aq _,nm,sg⟩
  .rintro t ⟨r,n'⟩ st' _ ht ⟨rfl,e1,e2,e3,e4,e5⟩;have e2:n'=t:=e2;subst e2;have hz:=cg.size;show bR (lF C hk (hN.perm cg.pm) () () ?_);cases hc:lt (G a' (l+n')) (G a' (l+n'-1)) with
   |true=>show dq (q' n' e3 () e5 λ_=>hc)
   |false=>show dq ⟨rfl,rfl,rfl,(),(),D8 C e5 () hc⟩
  rintro⟨r,n'⟩ st' ⟨rfl,e1,e2,e3,e4,e5⟩;have e1:r=none:=e1;have e2:n'=max n m:=e2;subst e1;have:n'=m:=();subst this;rw[show max n n'=n' by lia] at e5;show q' n' nm (aq _) e5 λz=>absurd z ()
 have rv:∀{a':Array Keyed}{n:Nat},Cg l (l+m) a a'->n<=m->Dn lt a' l (l+n)->Seg lt (mirror a' l (l+n) ((l+n-l)/2)) l (l+n):=λ{a' n} cg nm d i j hi hij hj=>by
  have hz:=cg.size;rw[fR (),fR (),OU (),OU ()];show d _ _ () () ()
 have rt:∀{a':Array Keyed}{n q:Nat},Cg l (l+m) a a'->n<=m->q<n->Dn lt a' l (l+n)->Tl lt a' (l+n) q->Dn lt (mirror a' (l+n-(q+1)) (l+n) ((l+n-(l+n-(q+1)))/2)) l (l+n):=λ{a' n q} cg nm hq d tl i j hi hij hj=>by
  have hz:=cg.size;rw[fR (),fR ()]
  split
  .split
   .exact tl _ _ () () () ()
   lia
  split
  .exact d _ _ hi () ()
  show d _ _ hi hij hj
 have t0:∀{a':Array Keyed}{h:Nat},Tl lt a' h 0:=λ{a' h} i j h1 h2 h3 h4=>by
  have:i=j:=();subst this;show C.refl _
 have dl:∀(n:Nat)(a':Array Keyed),Cg l (l+m) a a'->1<=n->n<=m->Dn lt a' l (l+n)->wpS M A E s (do
   rule "list.sort.descending-run"
   let mut n:=n
   let mut q:=0
   for _ in [n:m] do
    let some z <-ltAt' (l+n) (l+n-1)|return none
    if z then
     if q>0 then reverseSlice' (l+n-(q+1)) (l+n)
     q:=0
    else
     let some z <-ltAt' (l+n-1) (l+n)|return none
     if z then break
     q:=q+1
    n:=n+1
   if q>0 then reverseSlice' (l+n-(q+1)) (l+n)
   reverseSlice' l (l+n)
   for _ in [n:m] do
    let some z <-ltAt' (l+n) (l+n-1)|return none
    if z then break
    n:=n+1
   return some n) Q (sa st a'):=by
  intro n a1 cg n1 nm d;dsimp only;show bR (xt (bR (q5 (ni (β:=Option (Option Nat)×Nat×Nat) (I:=λt x st'=>x.1=none/\x.2.1=t/\n<=t/\t<=m/\x.2.2<t/\∃a',st'=sa st a'/\Cg l (l+m) a a'/\Dn lt a' l (l+t)/\Tl lt a' (l+t) x.2.2)
   (Q:=λx st'=>x.1=none/\n<=x.2.1/\x.2.1<=m/\x.2.2<x.2.1/\∃a',st'=sa st a'/\Cg l (l+m) a a'/\Dn lt a' l (l+x.2.1)/\Tl lt a' (l+x.2.1) x.2.2) ?_ ?_ ⟨rfl,rfl,aq _,nm,n1,a1,rfl,cg,d,t0⟩) ?_)))
  .rintro t ⟨r,n',q'⟩ st' _ ht ⟨e1,e2,e3,e4,e5,a',rfl,cg',d',tl⟩;have e2:n'=t:=e2;subst e2;have e5:q'<n':=e5;have hz:=cg'.size;dsimp only at tl |-;show bR (lF C hk (hN.perm cg'.pm) () () ?_);dsimp only;cases hc:lt (G a' (l+n')) (G a' (l+n'-1)) with
   |true=>
    show hV rfl ?_;by_cases hq:q'>0
    .rw[OU hq,uX];show bR (nq (dq ⟨rfl,rfl,(),(),by change 0<n' + 1;lia,_,rfl,cg'.trans ((pO ()).mono () ()),?_,t0⟩));show lR C (rt cg' () e5 d' tl) () ?_;rw[fR (by change l+n'<=a'.size;lia),fR (by change l+n'<=a'.size;lia),OU (),OT ()];show C.tr _ (G a' (l+n'-1)) _ (C.asym _ _ hc) (d' _ _ () () ())
    show fY hq ?_;show dq ⟨rfl,rfl,(),(),by change 0<n' + 1;lia,a',rfl,cg',lR C d' () (C.asym _ _ hc),t0⟩
   |false=>
    show fY ⋯ ?_;show bR (lF C hk (hN.perm cg'.pm) () () ?_);dsimp only;cases hc2:lt (G a' (l+n'-1)) (G a' (l+n')) with
    |true=>
     show hV rfl ?_;show dq ⟨rfl,e3,e4,e5,a',rfl,cg',d',tl⟩
    |false=>
     show fY ⋯ ?_;show dq ⟨rfl,rfl,(),(),by change q' + 1<n' + 1;lia,a',rfl,cg',lR C d' () hc2,λi j b1 b2 b3 b4=>?_⟩;have b1:l+(n' + 1)<=i+(q' + 1+1):=b1;have b3:l+(n' + 1)<=j+(q' + 1+1):=b3;by_cases ei:i=l+n'
     .by_cases ej:j=l+n'
      .subst ei;subst ej;show C.refl _
      subst ei;show C.tr _ (G a' (l+n'-1)) _ (tl _ _ () () () ()) hc
     by_cases ej:j=l+n'
     .subst ej;show C.tr _ (G a' (l+n'-1)) _ hc2 (tl _ _ () () () ())
     show tl _ _ () () () ()
  .rintro⟨r,n',q'⟩ st' ⟨e1,e2,e3,e4,e5,a',rfl,cg',d',tl⟩;have e2:n'=max n m:=e2;have:n'=m:=();subst this;rw[show max n n'=n' by lia] at d' tl e5 e3;show⟨e1,e3,aq _,e5,a',rfl,cg',d',tl⟩
  rintro⟨r,n',q'⟩ st' ⟨e1,e3,e4,e5,a',rfl,cg',d',tl⟩;cases e1;dsimp only at e3 e4 e5 d' tl |-;have hz:=cg'.size;by_cases hq:q'>0;rw[OU hq,uX];show bR (nq ?_);have cg2:=cg'.trans ((pO (i:=l+n'-(q' + 1)) (j:=l+n') (p:=a') ()).mono (show l<=_ by lia) (show _<=l+m by lia));have d2:=rt cg' e4 e5 d' tl;change wpS _ _ _ _ _ _ (sa st (mirror a' (l+n'-(q' + 1)) (l+n') ((l+n'-(l+n'-(q' + 1)))/2)));generalize mirror a' (l+n'-(q' + 1)) (l+n') ((l+n'-(l+n'-(q' + 1)))/2)=a2 at cg2 d2 |-
  rotate_left
  show fY hq ?_;have cg2:=cg';have d2:=d';generalize a'=a2 at cg2 d2 |-
  all_goals
   have hz2:=cg2.size;rw[uX];show bR (nq ?_);have cg3:=cg2.trans ((pO (i:=l) (j:=l+n') (p:=a2) ()).mono (aq _) (show _<=l+m by lia));show bR (asc n' _ _ cg3 () e4 (rv cg2 e4 d2) λn'' b1 b2 b3 b4=>?_);show dq (q n'' _ cg3 () b2 b3)
 rw[countRun'_eq];dsimp only;show bR (asc 1 a _ (Cg.refl _ _ _) (aq _) h1 (FY C) λn b1 b2 b3 b4=>?_);dsimp only;by_cases c1:(n==m)=true
 .exact hV c1 (dq (q n a (Cg.refl _ _ _) b1 b2 b3))
 show fY c1 ?_;have c1:n≠m:=‹c1›
 have hl:=b4 ();by_cases c2:n>1
 .refine hV c2 ?_;show bR (lF C hk hN () () ?_);dsimp only;cases hc:lt (G a l) (G a (l+n-1)) with
  |true=>rw[OU rfl];show dq (q n a (Cg.refl _ _ _) b1 b2 b3)
  |false=>
   rw[OT ⋯,uX];show bR (nq ?_);have cg:=(pO (i:=l) (j:=l+n) (p:=a) ()).mono (aq _) (show l+n<=l+m by lia);change wpS _ _ _ _ _ _ (sa st (mirror a l (l+n) ((l+n-l)/2)));show dl (n+1) _ cg () () (lR C (λi j hi hij hj=>?_) () ?_)
   .rw[fR (),fR (),OU (),OU ()];show b3 _ _ () () ()
   rw[fR (),fR (),OU (),OT (),show l+(l+n)-1-(l+n-1)=l by lia];show C.tr _ (G a (l+n-1)) _ (C.asym _ _ hl) hc
 show fY c2 ?_;have:n=1:=();subst this;show dl 2 a (Cg.refl _ _ _) () () (lR C (λi j hi hij hj=>?_) (aq _) (C.asym _ _ hl));have:i=j:=();subst this;show C.refl _
end
section
variable {M:Model}{κ:SortKind}{N:Keyed->Prop}{lt:Keyed->Keyed->Bool}
theorem tY{p:Array Keyed}{k z:Nat}(a:k<p.size)(b:z<=k)(i:Nat):G (bubble p k (k-z)) i=if i=z then G p k else if z<i/\i<=k then G p (i-1) else G p i:=by
 have h:=getElem?_bubble (xs:=p) (src:=k) a (k-z) () i;have e:k-(k-z)=z:=();rw[e] at h
 repeat' split at h
 .rename_i c;rw[OU c];show mw h
 .rename_i c c2;rw[OT c,OU c2];show mw h
 rename_i c c2;rw[OT c,OT c2];show mw h
theorem HU(C:Cmp M A E s κ N lt){st:SortSt}{a:Array Keyed}{l n o:Nat}{Q:Bool->SortSt->Prop}(K:kindOf st=κ)(L:Nm N a)(h1:1<=o)(h2:o<=n)(T:l+n<=a.size)(sg:Seg lt a l (l+o))
  (q:∀b,Cg l (l+n) a b->Seg lt b l (l+n)->Q true (sa st b)):wpS M A E s (binarySort' l n o) Q (sa st a):=by
 rw[binarySort'_eq];dsimp only;show bR (q5 (ni (I:=λk x c=>x.1=none/\1<=k/\k<=n/\∃b,c=sa st b/\Cg l (l+n) a b/\Seg lt b l (l+k)) (Q:=λx c=>x.1=none/\∃b,c=sa st b/\Cg l (l+n) a b/\Seg lt b l (l+n)) ?step ?fin ⟨rfl,(),(),a,rfl,Cg.refl _ _ _,by rw[show max o 1=o by lia];show sg⟩) ?post)
 case fin=>
  rintro⟨r,u⟩ c ⟨e,O,P,b,rfl,p,f⟩;rw[show max (max o 1) n=n by lia] at f;show⟨e,b,rfl,p,f⟩
 case post=>
  rintro⟨r,u⟩ c ⟨e,b,rfl,p,f⟩;cases e;show dq (q b p f)
 case step=>
  rintro k ⟨r,u⟩ c _ U ⟨e,O,P,b,rfl,p,f⟩;have hz:=p.size;show bR (q5 (ni (β:=Option Bool×Nat×Nat) (I:=λt x c=>c=sa st b/\x.1=none/\x.2.1<=x.2.2/\x.2.2<=k/\x.2.2-x.2.1<=k-t/\(∀i,i<x.2.1->lt (G b (l+k)) (G b (l+i))=false)/\(∀i,x.2.2<=i->i<k->lt (G b (l+i)) (G b (l+k))=false))
   (Q:=λx c=>c=sa st b/\x.1=none/\x.2.1<=k/\(∀i,i<x.2.1->lt (G b (l+k)) (G b (l+i))=false)/\(∀i,x.2.1<=i->i<k->lt (G b (l+i)) (G b (l+k))=false)) ?s8 ?f8 ⟨rfl,rfl,bE _,aq _,aq _,λi hi=>absurd hi (Nat.not_lt_zero _),λi hi H=>absurd hi (Nat.not_le_of_lt H)⟩) ?p8)
  case f8=>
   rintro⟨r,u,w⟩ c ⟨rfl,e,B,d,v,g,h⟩;have B:u<=w:=B;have v:w-u<=k-max 0 k:=v;have:u=w:=();subst this;show⟨rfl,e,d,g,h⟩
  case s8=>
   rintro t ⟨r,u,w⟩ c _ X ⟨rfl,e,B,d,v,g,h⟩;have B:u<=w:=B;have d:w<=k:=d;have v:w-u<=k-t:=v;dsimp only at g h |-;by_cases c1:u ≥ w
   .refine hV c1 ?_;have:u=w:=();subst this;show dq ⟨rfl,rfl,d,g,h⟩
   show fY c1 ?_;obtain⟨D,y⟩:=half c1;generalize (u+w)/2=m at D y |-;show bR (lF C K (L.perm p.pm) () () ?_);dsimp only;cases J:lt (G b (l+k)) (G b (l+m)) with
   |true=>
    show hV rfl ?_;show dq ⟨rfl,rfl,D,qM (b_ y d),fewer v y D,g,λi hi R=>?_⟩;show C.asym _ _ (C.ltle J (f _ _ (AF _ _) (AE hi l) (Mg R l)))
   |false=>
    show fY ⋯ ?_;show dq ⟨rfl,rfl,y,d,fewer' v y D,λi hi=>?_,h⟩;show C.tr _ _ _ (f _ _ (AF _ _) (AE (Nat.le_of_lt_succ hi) l) (Mg (b_ y d) l)) J
  case p8=>
   rintro⟨r,u,w⟩ c ⟨rfl,e,d,g,h⟩;cases e;have d:u<=k:=d;dsimp only at g h |-;rw[moveDown'_eq];show bR (nq (dq ⟨rfl,(),(),bubble b (l+k) (l+k-(l+u)),rfl,p.trans ⟨bubble_perm _ _ _,λi hi=>?_⟩,λi j hi Y H=>?_⟩))
   .rw[tY () (),OT (),OT ()]
   rw[tY () (),tY () ()]
   repeat' split
   .exact C.refl _
   all_goals first
    |lia
    |show f _ _ () () ()
    |(have z:=h (j-1-l) () ();rw[show l+(j-1-l)=j-1 by lia] at z;show (by
      rename_i h1 h2 Z;cases S:lt (G b (j-1)) (G b (l+k)) with
      |false=>rfl
      |true=>rw[S] at z;cases z))
    |(have z:=g (i-l) ();rw[show l+(i-l)=i by lia] at z;show z)
end
section
variable {M:Model}{κ:SortKind}{N:Keyed->Prop}{lt:Keyed->Keyed->Bool}
theorem wp_runs(C:Cmp M A E s κ N lt){a0:Array Keyed}{st:SortSt}{Q:Unit->SortSt->Prop}(hN:Nm N a0)(hk:PyProof.Rows.kindOf st=κ)(hf:failedOf st=none)(ha:arrOf st=a0)(hp:pendingOf st=#[])(h2:2<=a0.size)(h3:a0.size<64)
  (q:∀st',failedOf st'=none->(arrOf st').Perm a0->Seg lt (arrOf st') 0 a0.size->Q .unit st'):wpS M A E s sortRuns' Q st:=by
 rw[sortRuns'_eq];show bR (nj ?_);dsimp only;rw[ha];have hm:minRun' a0.size a0.size 0=a0.size:=by obtain⟨f,e⟩:∃f,a0.size=f+1:=⟨a0.size-1,()⟩;rw[e] at h3 |-;rw[minRun'_succ,OU h3]
 rw[hm]
 let D:Nat->SortSt->Prop:=λlo st'=>failedOf st'=none/\(lo=0/\st'=st\/lo=a0.size/\(pendingOf st').size=1/\(arrOf st').Perm a0/\Seg lt (arrOf st') 0 a0.size)
 show bR (q5 (ni (I:=λt x st'=>x.1=none/\t<=x.2/\D x.2 st') (Q:=λx st'=>x.1=none/\x.2=a0.size/\D x.2 st') ?step ?fin ⟨rfl,aq _,hf,.inl ⟨rfl,rfl⟩⟩) ?post)
 case fin=>
  rintro⟨r,lo⟩ st' ⟨e1,e2,e4⟩;have e2:max 0 a0.size<=lo:=e2;show⟨e1,?_,e4⟩;rcases e4 with ⟨_,⟨e,_⟩|⟨e,_⟩⟩
  .have e:lo=0:=e;lia
  show e
 case post=>
  rintro⟨r,lo⟩ st' ⟨e1,e2,f,h⟩;cases e1;have e2:lo=a0.size:=e2;rcases h with ⟨e,_⟩|⟨_,z,pm,sg⟩
  .have e:lo=0:=e;lia
  show bR (q5 (ni (I:=λ_ x st''=>x.1=none/\st''=st') (Q:=λx st''=>x.1=none/\st''=st') ?_ (λ_ _ z=>z) ⟨rfl,rfl⟩) ?_)
  .rintro t ⟨r,u⟩ st'' _ ht ⟨e1,rfl⟩;show bR (nj (hV (by rw[z];show aq 1) (dq ⟨rfl,rfl⟩)))
  rintro⟨r,u⟩ st'' ⟨e1,rfl⟩;cases e1;show dq (q _ f pm sg)
 case step=>
  rintro t ⟨r,lo⟩ st' _ ht ⟨e1,e2,f,h⟩;cases e1;dsimp only at e2 h |-;rcases h with ⟨rfl,rfl⟩|⟨rfl,z⟩
  .refine fY () ?_;rw[uO,Mm];change wpS M A E s _ _ (sa st' (arrOf st'));rw[ha];show bR (DE C hk hN () () λn a1 cg n1 n2 sg=>?_);have last:∀a2:Array Keyed,a2.Perm a0->Seg lt a2 0 a0.size->wpS M A E s (do
     modify λs=>setPending s ((pendingOf s).push (0,a0.size,0))
     pure (ForInStep.yield ((none:Option Unit),0+a0.size))) (λ(r:ForInStep (Option Unit×Nat)) st'=>match r with | .done x=>x.1=none/\x.2=a0.size/\D x.2 st' | .yield x=>x.1=none/\t+1<=x.2/\D x.2 st') (sa st' a2):=λa2 pm sg=>by
    show bR (nq (dq ⟨rfl,by change t+1<=0+a0.size;lia,f,.inr ⟨uP _,?_,pm,sg⟩⟩));change ((pendingOf st').push (0,a0.size,0)).size=1;rw[hp];rfl
   have hb:∀a2,(pendingOf (sa st' a2)).back?=none:=λa2=>by
    change (pendingOf st').back?=none;rw[hp];rfl
   dsimp only;by_cases c2:n<a0.size
   .refine hV c2 ?_;show bR (xt (bR (HU C hk (hN.perm cg.pm) (o:=n) n1 () (by have:=cg.size;lia) sg λa2 cg2 sg2=>?_)));show fY ⋯ (bR (nj ?_));rw[hb];rw[uP] at sg2;show last a2 (cg2.pm.trans cg.pm) sg2
   show fY c2 (bR (nj ?_));obtain rfl:n=a0.size:=();rw[hb];rw[uP] at sg;show last a1 cg.pm sg
  show hV (aq _) (dq ⟨rfl,rfl,f,.inr ⟨rfl,z⟩⟩)
end
end TimS
end
section
namespace L2
open PySem PySem.Spec PyProof.Rows PySem.W
open HT (lexLt)
theorem xg:∀a b:List Int,lexLt a b=true->lexLt b a=false
 | [],[],h=>rfl
 | [],_::_,_=>rfl
 |_::_,[],h=>by cases h
 |x::xs,y::ys,h=>by
  rw[HT.lexLt_cons] at h |-;by_cases e:x=y
  .rw[OU e] at h;rw[OU e.symm];show xg xs ys h
  rw[OT e] at h;rw[OT λz=>e z.symm];have:x<y:=OX h;show OW ()
theorem zx:∀a b c:List Int,lexLt b a=false->lexLt c b=false->lexLt c a=false
 | [],b,[],_,_=>rfl
 | [],[],_::_,_,h=>rfl
 | [],_::_,_::_,_,_=>rfl
 |_::_,[],_,h,_=>by cases h
 |_::_,_::_,[],_,h=>by cases h
 |x::xs,y::ys,z::zs,h1,h2=>by
  rw[HT.lexLt_cons] at h1 h2 |-;by_cases e:y=x
  .subst e;rw[OU rfl] at h1;by_cases d:z=y
   .rw[OU d] at h2 |-;show zx xs ys zs h1 h2
   rw[OT d] at h2 |-;show h2
  rw[OT e] at h1;have l1:¬y<x:=of_decide_eq_false h1;by_cases d:z=y
  .subst d;rw[OT e];show h1
  rw[OT d] at h2;have l2:¬z<y:=of_decide_eq_false h2;rw[OT ()];show OW ()
def Tups(K:Frag)(H:Hp)(ys:List V)(ks:List (List Int)):Prop:=Paired (λy k=>∃b,y=V.ref b/\SqT K H b (k.map V.int)/\k≠[]) ys ks
theorem Jk{h h':Heap}{a:Addr}{m b:Str->Option Value}(h1:h.Ns a m)(h2:h.Ns a b):m=b:=by obtain⟨o,es,ep,e,f,_,g⟩:=h1;obtain⟨o',j,l,c,d,_,i⟩:=h2;rw[e] at c;cases c;rw[f] at d;cases d;funext x;rw[<-g,<-i]
section
theorem Inv.newsKept{h':Heap}{m:Str->Option Value}{t':Nat}{more:List (Addr×Obj)}(I:Inv X OY Z H s)(F:Fr X.base X.env.locals s.heap m)(a:Fr X.base X.env.locals h' m)(N:News X.base X.env.locals h' (more++oY X.base s.heap X.env.locals)) :
  (∀b o,b≠X.env.locals->s.heap.get? b=some o->h'.get? b=some o)/\(∀m,s.heap.Ns X.env.locals m->h'.Ns X.env.locals m):=by
 show⟨λb o d e=>?_,λf hm=>by rw[<-Jk (h':=h') F.ns hm];show a.ns⟩;cases q:X.base.get? b with
 |some u=>
  have c:=I.bk b u q;rw[e] at c;cases c;show a.keep b _ q
 |none=>show (N (b,o) (eY _ (rf d q e))).1
theorem aV.there{h:Heap}{a:Addr}{o:HO}(x:aV P w H h a o):∃ob,h.get? a=some ob:=by
 cases o with
 |lst xs=>obtain⟨_,_,_,_,e⟩:=x;show⟨_,e⟩
 |tup xs=>obtain⟨_,_,_,ob,e,_⟩:=x;show⟨_,e⟩
 |dK kvs=>obtain⟨_,_,_,_,o,_,_,e,_⟩:=x;show⟨_,e⟩
 |dT kvs=>obtain⟨_,_,_,_,o,_,_,e,_⟩:=x;show⟨_,e⟩
 |set S n=>obtain⟨o,_,_,_,e,_⟩:=x;show⟨_,e⟩
 |ins C dx fs=>obtain⟨_,_,_,e,_⟩:=x;show⟨_,e⟩
 |own y=>show x
 |xd fs=>obtain⟨_,⟨_,_,_,e,_⟩,_⟩:=x;show⟨_,e⟩
 |rng lo hi=>obtain⟨_,_,_,e⟩:=x;show⟨_,e⟩
 |frz ob u=>obtain⟨e,_⟩:=x;show⟨_,e⟩
 |tbl ps=>show⟨_,(show h.get? a=some _ from x)⟩
 |met f y=>show⟨_,(show h.get? a=some _ from x)⟩
 |ext φ=>obtain⟨_,e,_⟩:=x;show e
theorem HOk.none_of{h:Heap}{a:Addr}(x:HOk P w H h)(e:h.get? a=none):H a=none:=by
 cases q:H a with
 |none=>rfl
 |some u=>
  obtain⟨o,z⟩:=(x a u q).there;rw[e] at z;cases z
theorem Inv.laidN{h':Heap}{t':Nat}{a:Addr}{o:HO}(I:Inv X OY Z H s)(k:∀b o,b≠X.env.locals->s.heap.get? b=some o->h'.get? b=some o)(g:∀m,s.heap.Ns X.env.locals m->h'.Ns X.env.locals m)
  (ha:s.heap.get? a=none) (new:∀H',aV X.prog X.w H' h' a o) (hx:∀y fs,o≠.ins y fs []):Inv X OY Z (upd H a o) {s with heap:=h',toks:=t'}:=by
 have f:H a=none:=I.hok.none_of ha;have h:∀b u,H b=some u->b≠X.env.locals:=λb u e z=>by rw[z,I.free] at e;cases e
 show I.step (g':=s.gens) (d':=s.drawn) (ch:=[]) (λ_ z=>nomatch z) (λb o d _ _ e _=>k b o d e) (λb o d _ _ e _=>⟨o.slots,k b o d e⟩) (λb o _ e n=>?_) (λb o _ e=>?_) (λb xs e=>?_) (λb o u e=>?_) (λb ps e=>⟨#[],?_⟩) g (λb u e=>?_) I.bare
 .rw[av (λz=>by rw[z,ha] at e;cases e)];show n
 .by_cases d:b=X.env.locals
  .subst d;obtain⟨m,hm,_⟩:=I.loc;obtain⟨o',_,_,i,_⟩:=g m hm;show⟨o',i⟩
  show⟨o,k b o d e⟩
 .rw[av (au e f)];show e
 .rw[av (au e f)];show e
 .rw[av (au e f),e];simp
 by_cases d:b=a
 .subst d;rw[aN] at e;cases e;show new _
 rw[av d] at e;show (I.hok b u e).stay (λc v j q=>k c v ?_ q) (λc q=>by rw[av (au q f)];show q) λc xs q=>by rw[av (au q f)];show q
 rcases j with z|z
 .rw[z];show h b u e
 show h c _ z
theorem Inv.keptN{h':Heap}{t':Nat}(I:Inv X OY Z H s)(k:∀b o,b≠X.env.locals->s.heap.get? b=some o->h'.get? b=some o)(d:∀m,s.heap.Ns X.env.locals m->h'.Ns X.env.locals m):Inv X OY Z H {s with heap:=h',toks:=t'}:=by
 have f:∀b u,H b=some u->b≠X.env.locals:=λb u e z=>by rw[z,I.free] at e;cases e
 show I.step (g':=s.gens) (d':=s.drawn) (ch:=[]) (λ_ z=>nomatch z) (λb o a _ _ e _=>k b o a e) (λb o a _ _ e _=>⟨o.slots,k b o a e⟩) (λb o _ e n=>n) (λb o _ e=>?_) (λb xs e=>e) (λb o u e=>e) (λb ps e=>⟨#[],by rw[e];simp⟩) d (λb u e=>?_) I.bare
 .by_cases a:b=X.env.locals
  .subst a;obtain⟨m,hm,_⟩:=I.loc;obtain⟨o',_,_,g,_⟩:=d m hm;show⟨o',g⟩
  show⟨o,k b o a e⟩
 show (I.hok b u e).stay (λc v h q=>k c v ?_ q) (λc q=>q) λc xs q=>q;rcases h with z|z
 .rw[z];show f b u e
 show f c _ z
end
def fQ(h:Heap)(a:Addr)(vs:List Value):Heap:=((h.update a (Obj.mapSeq λ_=>#[])).push (seqObj "tuple" vs.toArray 0)).push (seqObj "list" #[] 0)
section
variable {prog:Program}{κ:SortKind}{rk:Value->List Int}
theorem wa{a:Addr}{vs:List Value}{n:Nat}{P:PySem.Fin->Shared->Prop}(ho:s.heap.get? a=some (seqObj "list" vs.toArray n))(hb:vs.length<64)
  (hk:2<=vs.length->∀Q:SortKind->Shared->Prop,Q κ {s with heap:=fQ s.heap a vs}->wpAny (model prog w) A (keyKind' vs.toArray) Q E {s with heap:=fQ s.heap a vs})
  (hc:2<=vs.length->∀x∈vs,∀y∈vs,∀C:Bool->Shared->Prop,C (HT.lexLt (rk x) (rk y)) {s with heap:=fQ s.heap a vs}->wpAny (model prog w) A (keyLt' κ x y) C (λ_ _=>False) {s with heap:=fQ s.heap a vs})
  (h:∀out:List Value,out.Perm vs->out.Pairwise (λu v=>HT.lexLt (rk v) (rk u)=false)->P (.done (.ret .none)) {s with heap:=sortedHeap s.heap a vs out.toArray}):wpAny (model prog w) A (Builtin.«list.sort» ⟨[.ref a],[]⟩) P E s:=by
 have hz:vs.length<=sizeLine:=by rw[cK];lia
 have lt:a<↥s:=aF ho;obtain⟨e1,h1⟩:∃e1,(s.heap.update a (Obj.mapSeq λ_=>(#[]:Array Value))).get? a=some (seqObj "list" #[] e1):=⟨_,get?_update_seq ho λ_=>#[]⟩;have h3:(fQ s.heap a vs).get? a=some (seqObj "list" #[] e1):=aE _ (aE _ h1);have zs:(vs.toArray.zip vs.toArray).map (·.2)=vs.toArray:=by apply Array.toList_inj.mp;simp only[uA,List.zip_toArray];show L7 (aq _)
 rw[list_sort_plain];show aa (listItems_at ho rfl (aa (listUpdate_at ho rfl (aa (seqEpoch_at h1 rfl (aa (Bj (aa (wpAny_newList (cL ?_) (bE _))) hz)))) (by rw[bx];lia) (bE _))));change wpAny _ _ _ _ _ {s with heap:=fQ s.heap a vs};have fin:∀st:SortSt,failedOf st=none->((arrOf st).map (·.2)).toList.Perm vs->((arrOf st).map (·.2)).toList.Pairwise (λu v=>HT.lexLt (rk v) (rk u)=false)->∀s':Shared,s'={s with heap:=fQ s.heap a vs}->wpAny (model prog w) A (do
   let touched:=(<-seqEpoch a) != e1
   Builtin.List.listUpdate (.ref a) λ_=>(arrOf st).map (·.2)
   if let some e:=failedOf st then rule "list.sort.comparison-raised";throw e
   if touched then rule "list.sort.modified";raiseError "ValueError" "list modified during sort"
   ret .none) P E s':=by
  rintro st hf hp hs _ rfl;show aa (seqEpoch_at h3 rfl (aa (listUpdate_at h3 rfl ?_ (bE _) (by have:=hp.length_eq;rw[qz] at this;lia))));rw[hf];simp only[bne_self_eq_false,iM,if_false];show af (by
   have z:=h _ hp hs
   rwa [Array.toArray_toList] at z)
 dsimp only;by_cases h2:vs.length<2
 .have hs2:vs.toArray.size<2:=by rw[bx];show h2
  rw[OU hs2,OU hs2];show aa (af ?_);rw[StateT.run_pure];show aa (af ?_);show fin (SortSt.mk' general' (vs.toArray.zip vs.toArray) #[] 7 none) rfl ?_ ?_ _ rfl
  .change (((vs.toArray.zip vs.toArray).map (·.2)).toList).Perm vs;rw[zs]
  change (((vs.toArray.zip vs.toArray).map (·.2)).toList).Pairwise _;rw[zs];cases vs with
  |nil=>show .nil
  |cons x l=>rw[List.eq_nil_of_length_eq_zero (show l.length=0 by rw[cE] at h2;lia)];show Ma _ _
 have nt:¬vs.toArray.size<2:=by rw[bx];lia
 rw[OT nt,OT nt];show aa (hk () _ ?_);have mem:∀x∈(vs.toArray.zip vs.toArray),x.1∈vs/\x.1=x.2:=λx hx=>by
  have hx:x∈vs.zip vs:=‹hx›
  obtain⟨i,hi⟩:=kJ.mp hx;rw[qK] at hi;show⟨aZ hi.1,dz (hi.1.symm.trans hi.2)⟩
 have C:TimS.Cmp (model prog w) A E {s with heap:=fQ s.heap a vs} κ (λx=>x∈(vs.toArray.zip vs.toArray)) (λx y=>HT.lexLt (rk x.1) (rk y.1)):=by show⟨λ_ _=>xg _ _,λ_ _ _=>zx _ _ _,λ{x y st Q} hx hy hk' q=>?_⟩;rw[lt'_eq];show bR (nj ?_);rw[hk'];show bR (wpS_lift (jz (bF (hc () _ (mem x hx).1 _ (mem y hy).1 (λb s'=>b=HT.lexLt (rk x.1) (rk y.1)/\s'={s with heap:=fQ s.heap a vs}) ⟨rfl,rfl⟩) (λb s' ⟨e,e'⟩=>?_) λ_ _ z=>z.elim)));subst e e';show⟨rfl,dq q⟩
 have hzz:(vs.toArray.zip vs.toArray).size=vs.length:=∅;show aa (bF (TimS.wp_runs C (st:=SortSt.mk' κ (vs.toArray.zip vs.toArray) #[] 7 none) (λx hx=>hx) rfl rfl rfl rfl (by rw[hzz];lia) (by rw[hzz];show hb) (Q:=λ_ st=>failedOf st=none/\(arrOf st).Perm (vs.toArray.zip vs.toArray)/\TimS.Seg (λx y=>HT.lexLt (rk x.1) (rk y.1)) (arrOf st) 0 vs.length) λst' f p g=>⟨f,p,by rw[hzz] at g;show g⟩) ?_ λ_ _ e=>e);rintro⟨⟨⟩,st'⟩ s' ⟨e,hf,hp,hg⟩;show fin st' hf ?_ ?_ s' e
 .have:=(Array.perm_iff_toList_perm.mp hp).map (·.2);rw[<-uA,<-uA,zs] at this;show this
 rw[uA,ie];show L_.mpr λi j hi hj hij=>?_;have hz2:(arrOf st').size=vs.length:=hp.size_eq.trans hzz;have hi':i<(arrOf st').size:=‹hi›
 have hj':j<(arrOf st').size:=‹hj›
 have g:=hg i j (bE _) () ();have e2:∀k (hk:k<(arrOf st').size),TimS.G (arrOf st') k=(arrOf st')[k]:=λk hk=>by simp[TimS.G,hk]
 have e3:∀k (hk:k<(arrOf st').size),((arrOf st')[k]).1=((arrOf st')[k]).2:=λk hk=>(mem _ (hp.mem_iff.mp (Array.getElem_mem hk))).2;have g:HT.lexLt (rk (TimS.G (arrOf st') j).1) (rk (TimS.G (arrOf st') i).1)=false:=g;rw[e2 i hi',e2 j hj',e3 i hi',e3 j hj'] at g;simpa using g
theorem B9{l:Addr}{vs:List Value}{Q:Value->Shared->Prop}(e:s.heap.IsList l vs.toArray)(n:vs.length<64)
  (f:∀h':Heap,(∀b o,s.heap.get? b=some o->h'.get? b=some o)->2<=vs.length->∀Q:SortKind->Shared->Prop,Q κ {s with heap:=h'}->wpAny (model prog w) A.in1.in1 (keyKind' vs.toArray) Q E {s with heap:=h'})
  (i:∀h':Heap,(∀b o,s.heap.get? b=some o->h'.get? b=some o)->2<=vs.length->∀x∈vs,∀y∈vs,∀C:Bool->Shared->Prop,C (HT.lexLt (rk x) (rk y)) {s with heap:=h'}->wpAny (model prog w) A.in1.in1 (keyLt' κ x y) C (λ_ _=>False) {s with heap:=h'})
  (h:∀out:List Value,out.Perm vs->out.Pairwise (λu v=>HT.lexLt (rk v) (rk u)=false)->Q (.ref (↥s+1)) {s with heap:=sortedAll s.heap vs out.toArray}):wpAny (model prog w) A (call (.builtin "sorted") [.ref l]) Q E s:=by
 have hz:vs.length+1<=sizeLine:=by rw[cK];lia
 show Calls.call_function_entry kind_sorted plain_sorted entry_sorted (args_sorted1 _) ?_;unfold Builtin.«sorted»;show aa (m:=checkCount "sorted" 1 1 _) (af (aa (collect_list e (aa (wpAny_newList ?_ ())) ())));generalize a:(s.heap.push (seqObj "list" #[] 0)).update ↥s (Obj.mapSeq (·++vs.toArray))=G;have c:G.objs.size=↥s+1:=by rw[<-a,Heap.size_update,size_push']
 have d:(G.push (seqObj "list" vs.toArray 0)).get? (↥s+1)=some (seqObj "list" vs.toArray 0):=by rw[<-c];show br _ rfl
 have j:∀out:List Value,sortedAll s.heap vs out.toArray=sortedHeap (G.push (seqObj "list" vs.toArray 0)) (↥s+1) vs out.toArray:=λout=>by rw[<-a];rfl
 have old:∀b o,s.heap.get? b=some o->(fQ (G.push (seqObj "list" vs.toArray 0)) (↥s+1) vs).get? b=some o:=λb o q=>by
  have lt:=aF q;have g:G.get? b=some o:=by rw[<-a,qB _ _ _ _ (bo lt)];show aE _ q
  show aE _ (aE _ ?_);rw[qB _ _ _ _ (bo (mL lt))];show aE _ g
 change wpAny _ _ _ _ _ {s with heap:=G.push (seqObj "list" vs.toArray 0)};rw[c];show aa (cL (fu Nj ⟨_,d,rfl⟩ Na ?body (M8 _)))
 case body=>
  show wa (rk:=rk) (κ:=κ) (s:={s with heap:=G.push (seqObj "list" vs.toArray 0)}) d () (f _ old) (i _ old) λout p1 p2=>?_;show⟨_,rfl,af ⟨_,rfl,(j out) ▸ h out p1 p2⟩⟩
end
section
theorem Paired.getE{α β:Type}{F:α->β->Prop}:∀{l1:List α}{l2:List β}{i:Nat}{x:α},Paired F l1 l2->l1[i]?=some x->∃y,l2[i]?=some y/\F x y
 |_,_,_,_,.nil,e=>by simp at e
 |_,_,0,_,.cons r _,e=>by simp at e;subst e;show⟨_,rfl,r⟩
 |_,_,i+1,x,.cons _ t,e=>by
  obtain⟨u,h1,h2⟩:=Paired.getE (i:=i) (x:=x) t ‹e›;show⟨u,‹h1›,h2⟩
theorem vT{ys:List V}{b:List Value}(r:Vals ys b):∀(a:List Nat),(∀i∈a,i<ys.length)->Vals (a.map λi=>ys.getD i .non) (a.map λi=>b.getD i Value.none)
 | [],_=>.nil
 |i::a,h=>by
  show .cons ?_ (vT r a λj c=>h j (bJ _ c));have hi:=h i gq;obtain⟨u,d,e⟩:=r.get (i:=i) (x:=ys[i]) (by simp[hi]);have f:ys.getD i .non=ys[i]:=by simp[List.getD,hi]
  have g:b.getD i Value.none=u:=by rw[List.getD,d];rfl
  change az (ys.getD i .non) (b.getD i Value.none);rw[f,g];show e
theorem HQ{prog:Program}(us ws:List Value)(ns ms:List Int)(i:Nat)(s:Shared){fin:Bool}{Q:Bool->Shared->Prop}(h1:IntsAre us ns)(h2:IntsAre ws ms)(e:fin=decide (ns.length<ms.length))(q:Q (HT.lexLt ns ms) s):KatLex prog w A true fin Q (us.zip ws) i s:=by
 induction h1 generalizing ws ms i with
 |nil=>
  subst e;cases h2 with
  |nil=>show q
  |cons _ _ _=>show kat_nil (by simpa [HT.lexLt] using q)
 |cons a t f c=>cases h2 with
  |nil=>subst e;show kat_nil (by simpa [HT.lexLt] using q)
  |cons b u d=>
  rw[HT.lexLt_cons] at q;show kat_cons (Ny ?_);by_cases h:a=b
  .rw[OU h] at q;rw[show (a==b)=true by simpa using h];show kat_yes (c _ _ (i+1) d ?_ q);rw[e];simp
  rw[OT h] at q;rw[show (a==b)=false by simpa using h];show kat_no ?_;cases g:(true&&i==0) with
  |true=>show oneLt_int q
  |false=>show kat_one _ _ (lt_int q)
theorem CY{α β:Type}{f:α->β}:∀{l c:List β},c.Perm l->∀a:List α,l=a.map f->∃b:List α,b.Perm a/\c=b.map f:=by
 intro l c h;induction h with
 |nil=>show λa e=>⟨a,.refl _,e⟩
 |cons x _ d=>
  intro a e;cases a with
  |nil=>cases e
  |cons i a=>
   rw[aY] at e;injection e with g m;obtain⟨b,p,q⟩:=d a m;show⟨i::b,p.cons i,by rw[aY,g,q]⟩
 |swap x y l=>
  intro a e
  match a,e with
  |i::j::a,e=>
   simp only[aY,List.cons.injEq] at e;show⟨j::i::a,.swap _ _ _,by rw[aY,aY,e.1,e.2.1,e.2.2]⟩
 |trans _ _ n o=>
  intro a e;obtain⟨r,p2,s⟩:=o a e;obtain⟨u,p1,v⟩:=n r s;show⟨u,p1.trans p2,v⟩
def Ky(K:Frag)(H:Hp)(ys:List V)(ks:List (List Int)):Prop:=Paired (λy k=>∃n,y=V.int n/\k=[n]) ys ks\/Tups K H ys ks
def rkV(h:Heap):Value->List Int
 |.int n _=>[n]
 |.ref b=>match h.get? b with
  |some o=>match o.data with
   |.seq xs _=>xs.toList.map λv=>match v with | .int n _=>n|_=>0
   |_=>[]
  |none=>[]
 |_=>[]
theorem yc:∀{us:List Value}{ns:List Int},IntsAre us ns->(us.map λv=>match v with | .int n _=>n|_=>0)=ns
 |_,_,.nil=>rfl
 |_,_,.cons n t r=>by rw[aY,yc r]
theorem zA(I:Inv X OY Z H s){ys:List V}{ks:List (List Int)}{c:List Value}(h:Ky [] H ys ks)(f:Vals ys c):∃κ:SortKind,(∀i,i<c.length->rkV s.heap (c.getD i Value.none)=ks.getD i [])/\
  ∀{A:Around}{E:Value->Shared->Prop}(h':Heap),(∀b o,s.heap.get? b=some o->o.cls=.type "tuple"->h'.get? b=some o)->2<=c.length->
   (∀Q:SortKind->Shared->Prop,Q κ {s with heap:=h'}->wpAny ⇑X A (keyKind' c.toArray) Q E {s with heap:=h'})/\
   ∀x∈c,∀y∈c,∀C:Bool->Shared->Prop,C (HT.lexLt (rkV s.heap x) (rkV s.heap y)) {s with heap:=h'}->wpAny ⇑X A (keyLt' κ x y) C (λ_ _=>False) {s with heap:=h'}:=by
 rcases h with h|h
 .obtain⟨ns,rfl,rfl⟩:∃ns:List Int,ys=ns.map V.int/\ks=ns.map λn=>[n]:=by
   clear f;induction h with
   |nil=>show⟨[],rfl,rfl⟩
   |cons r _ g=>
    obtain⟨n,rfl,rfl⟩:=r;obtain⟨ns,rfl,rfl⟩:=g;show⟨n::ns,rfl,rfl⟩
  have l:=nK f;have d:∀{c:List Value}{ns:List Int},IntsAre c ns->∀x∈c,∃n t,x=Value.int n t:=λ{c ns} l x hx=>by
   induction l with
   |nil=>cases hx
   |cons n t _ g=>
    rcases aG.mp hx with rfl|hx
    .exact⟨n,t,rfl⟩
    show g hx
  show⟨oneType',λi hi=>?_,λ{A E} h' _ h2=>⟨λQ q=>?_,λx hx y D C q=>?_⟩⟩
  .obtain⟨u,J,B⟩:=f.get (i:=i) (x:=(ns.map V.int)[i]'(by rw[f.length];show hi)) ∅;have R:i<ns.length:=by have:=f.length;rw[ay] at this;lia
   rw[List.getElem_map] at B;obtain⟨t,rfl⟩:=B;rw[List.getD,J,List.getD,bf,aX R];rfl
  .match c,h2,l with
   |v1::v2::rest,_,l=>rw[keyKind_ints l];show af q
  obtain⟨n,t,rfl⟩:=d l x hx;obtain⟨m,u,rfl⟩:=d l y D;show kat_lt_int ?_;have e:HT.lexLt (rkV s.heap (Value.int n t)) (rkV s.heap (Value.int m u))=decide (n<m):=by
   change HT.lexLt [n] [m]=_;rw[HT.lexLt_cons];by_cases z:n=m
   .rw[OU z,OW ()];rfl
   rw[OT z]
  rw[<-e];show q
 have at_:∀(ks:List (List Int))(ys:List V)(c:List Value),Tups [] H ys ks->Vals ys c->Paired (λv k=>k≠[]/\∃b us o n,v=Value.ref b/\IntsAre us k/\s.heap.get? b=some o/\o.cls=.type "tuple"/\o.data=.seq us.toArray n) c ks:=by
  intro ks;induction ks with
  |nil=>intro ys c a b;cases a;cases b;show .nil
  |cons k ks g=>
   intro ys c a b;cases a with
   |cons S tt=>
    obtain⟨U,Y,hq,K⟩:=S;subst Y;cases b with
    |cons r rr=>
     cases r;obtain⟨us,r5,⟨o,p1,p2,n,p3⟩,_⟩:=I.tuple hq;show .cons ⟨K,U,us,o,n,rfl,nK r5,p1,p2,p3⟩ (g _ _ tt rr)
 have P:=at_ ks ys c h f;have L:∀{b:Addr}{us:List Value}{o:Obj}{n:Nat}{k:List Int},IntsAre us k->s.heap.get? b=some o->o.data=.seq us.toArray n->rkV s.heap (Value.ref b)=k:=λ{b us o n k} i1 i2 p=>by
  change (match s.heap.get? b with|some o=>_|none=>_)=_;rw[i2];change (match o.data with | .seq xs _=>_|_=>_)=_;rw[p];show yc i1
 show⟨tuples' (Value.type "int" != Value.type "tuple"),λi hi=>?_,λ{A E} h' old h2=>⟨λQ q=>?_,λx hx y D C q=>?_⟩⟩
 .obtain⟨k,J,_,b,us,o,n,B,i1,i2,_,p⟩:=Paired.getE (i:=i) (x:=c[i]) P (by simp[hi]);rw[show c.getD i Value.none=c[i] by simp[List.getD,hi],B,L i1 i2 p,List.getD,J];rfl
 .obtain⟨fs,hk,al,ab⟩:∃fs,KatTups h' c fs/\fs.length=c.length/\∀v∈fs,∃n t,v=Value.int n t:=by
   clear f h2 h at_;induction P with
   |nil=>show⟨[],.nil,rfl,λ_ h=>nomatch h⟩
   |cons r _ g=>
    obtain⟨K,b,us,o,n,rfl,i1,i2,M,p⟩:=r;obtain⟨fs,k1,ad,ag⟩:=g;cases i1 with
    |nil=>show absurd rfl K
    |cons z tk r2=>
     show⟨Value.int z tk::fs,.cons (old _ _ i2 M) M p ∅ k1,by simp[ad],λv d=>?_⟩;rcases aG.mp d with rfl|d
     .exact⟨_,_,rfl⟩
     show ag v d
  show kat_kind (T:=.type "int") hk () (λv d=>?_) ⋯ q;obtain⟨n,t,rfl⟩:=ab v d;show Looks.of_pure rfl
 obtain⟨i,hi⟩:=kJ.mp hx;obtain⟨j,hj⟩:=kJ.mp D;obtain⟨k1,_,_,b1,u1,o1,n1,rfl,i1,x1,c1,N⟩:=Paired.getE P hi;obtain⟨k2,_,_,b2,u2,o2,n2,rfl,i2,x2,c2,O⟩:=Paired.getE P hj;rw[L i1 x1 N,L i2 x2 O] at q;rw[show (Value.type "int" != Value.type "tuple")=true by decide];show kat_lt (old _ _ x1 c1) N (old _ _ x2 c2) O (HQ u1 u2 _ _ 0 _ i1 i2 ?_ q);rw[<-i1.length,<-i2.length];simp
theorem zy{ys:List V}{ks:List (List Int)}{c out:List Value}(f:Vals ys c)(j:∀i,i<c.length->rkV s.heap (c.getD i Value.none)=ks.getD i [])(p:out.Perm c)(l:out.Pairwise (λu v=>HT.lexLt (rkV s.heap v) (rkV s.heap u)=false)) :
  ∃d:List Nat,d.Perm (List.range ys.length)/\(d.map λi=>ks.getD i []).Pairwise (λa b=>HT.lexLt b a=false)/\Vals (d.map λi=>ys.getD i .non) out:=by
 have e:c=(List.range c.length).map λi=>c.getD i Value.none:=by show Aq ∅ λi h1 h2=>?_;simp[h1]
 obtain⟨d,p2,rfl⟩:=CY p _ e;have g:∀i∈d,i<c.length:=λi hi=>ic.mp (p2.mem_iff.mp hi);show⟨d,by rw[f.length];show p2,?_,vT f d λi hi=>by rw[f.length];show g i hi⟩;rw[ie] at l |-;show LD (λ{a b} ha m h=>?_) l;rw[j _ (g a ha),j _ (g b m)] at h;show h
def IT(K:Frag):List V->Hp->VK->Prop:=λxs H Q=>∃(a:Addr)(ys:List V)(ks:List (List Int)),xs=[.ref a]/\SqL K H a ys/\Ky K H ys ks/\ys.length<64/\
 ∀p (c:List Nat),H p=none->c.Perm (List.range ys.length)->(c.map λi=>ks.getD i []).Pairwise (λa b=>HT.lexLt b a=false)->Q (.ref p) (upd H p (.lst (c.map λi=>ys.getD i .non)))
theorem Br:cV X (.builtin "sorted") (IT []):=by intro OY s Z H xs us Q I r h;obtain⟨a,ys,ks,rfl,g,j,hz,q⟩:=h;obtain⟨u,rfl,l⟩:=Vals.one r;cases l;obtain⟨m,c,p,_⟩:=I.list g;have w:=c.length;obtain⟨κ,n,ask⟩:=zA I j c;show B9 (κ:=κ) (rk:=rkV s.heap) p.isList () (λh' old h2=>(ask h' (λb o e _=>old b o e) h2).1) (λh' old h2=>(ask (E:=λ_ _=>False) h' (λb o e _=>old b o e) h2).2) λout p1 p2=>?_;obtain⟨d,x1,x2,v⟩:=zy c n p1 p2;obtain⟨e,he⟩:=sortedAll_at s.heap m out.toArray;have f:↥s<=↥s+1:=qO _;show⟨.ref (↥s+1),upd H (↥s+1) (.lst (d.map λi=>ys.getD i .non)),I.laid (t':=s.toks) (λb o e=>sortedAll_old e) f ⟨by rw[ay,x1.length_eq,qL,cK];lia,out,e,v,by rw[he]⟩,rfl,q _ d (I.hok.fresh f) x1 x2⟩
theorem Jn{K:Frag}(ns:List Int):Ky K H (ns.map V.int) (ns.map λn=>[n]):=.inl (by
 induction ns with
 |nil=>show .nil
 |cons n ns a=>show .cons ⟨n,rfl,rfl⟩ a)
theorem Ju{ns:List Int}{c:List Nat}(p:c.Perm (List.range (ns.map V.int).length))(w:(c.map λi=>(ns.map λn=>[n]).getD i []).Pairwise (λa b=>HT.lexLt b a=false)) :
  ∃ms:List Int,ms.Perm ns/\ms.Pairwise (·<=·)/\(c.map λi=>(ns.map V.int).getD i .non)=ms.map V.int:=by
 rw[ay] at p;have d:∀i∈c,i<ns.length:=λi hi=>ic.mp (p.mem_iff.mp hi);show⟨c.map λi=>ns.getD i 0,?_,?_,?_⟩
 .have:=p.map λi=>ns.getD i 0;show this.trans (mB (Aq ∅ λi h1 h2=>?_));simp[h2]
 .rw[ie] at w |-;show LD (λ{a b} ha e h=>?_) w;have h1:=d a ha;have h2:=d b e;simp only[List.getD,bf,aX h1,aX h2,mO,AM] at h |-;rw[HT.lexLt_cons] at h;by_cases z:ns[b]=ns[a]
  .lia
  rw[OT z] at h;have:=of_decide_eq_false h;lia
 rw[bC];show iQ λi hi=>?_;have:=d i hi;simp[List.getD,this]
def IS(K:Frag):List V->Hp->VK->Prop:=λxs H Q=>∃(a:Addr)(ys:List V)(ks:List (List Int)),xs=[.ref a]/\SqL K H a ys/\Tups K H ys ks/\ys.length<64/\
 ∀p (c:List Nat),H p=none->c.Perm (List.range ys.length)->(c.map λi=>ks.getD i []).Pairwise (λa b=>HT.lexLt b a=false)->Q (.ref p) (upd H p (.lst (c.map λi=>ys.getD i .non)))
theorem vn:cV X (.builtin "sorted") (IS []):=by intro OY s Z H xs us Q I r h;obtain⟨a,ys,ks,rfl,b,c,hz,q⟩:=h;show Br OY s Z H _ us Q I r ⟨a,_,_,rfl,b,.inr c,hz,q⟩
end
def DAt(h:Heap)(d:Addr)(es:Array DictEntry)(ep:Nat):Prop:=∃o,h.get? d=some o/\o.ExactDict/\o.data=.dict es ep
theorem DAt.lt{h:Heap}{d:Addr}{es:Array DictEntry}{ep:Nat}(x:DAt h d es ep):d<h.objs.size:=let ⟨_,e,_⟩:=x;aF e
theorem DAt.at{h h':Heap}{d:Addr}{es:Array DictEntry}{ep:Nat}(x:DAt h d es ep)(k:∀o,h.get? d=some o->h'.get? d=some o):DAt h' d es ep:=let ⟨o,e,r⟩:=x;⟨o,k o e,r⟩
theorem DAt.ty{d:Addr}{es:Array DictEntry}{ep:Nat}(x:DAt s.heap d es ep):s.TypeIs (.ref d) "dict":=let ⟨o,e,c,_⟩:=x;⟨o,e,c.1⟩
section
variable {prog:Program}{d it:Addr}{es:Array DictEntry}{ep i:Nat}
theorem uk{Q:Value->Shared->Prop}(lo:(d==sysModules)=false)(m:DAt s.heap d es ep)
  (q:Q (.ref ↥s) {s with heap:=s.heap.push {cls:=.type "dict_keyiterator",data:=.fields #[.ref d,.int 0 0,.int es.size 0,.int ep 0]}}):wpAny (model prog w) A (pyIter (.ref d)) Q E s:=by
 obtain⟨o,a,_,b⟩:=id m;show NL m.ty MG (fu MG m.ty PySem.F.entry_dict_iter ?tree (PySem.F.args_dict_iter_1 _));unfold Builtin.«dict.__iter__» Builtin.Dict.dictSlotNone;show aa (aa (NI m.ty ?_));show af (show wpAny _ _ (Builtin.Dict.showsAll d >>= _) _ _ s from ?_);unfold Builtin.Dict.showsAll;rw[OT (show ¬(d==sysModules)=true by rw[lo];simp)];show aa (af (aa (m8 a b (aa (m9 a b ?_)))));show aa (dW (af ⟨_,rfl,"dict_keyiterator",_,⟨_,br _ rfl,rfl⟩,qX.lookup,?_⟩));simpa [rawInt] using q
theorem Af{Q:Option Value->Shared->Prop}(hit:s.heap.IsKeyIter it d i es.size ep)(m:DAt s.heap d es ep)(hi:i<es.size)
  (q:∀h',h'.IsKeyIter it d (i+1) es.size ep->Heap.SameBut it s.heap h'->Q (some es[i].key) {s with heap:=h'}):wpAny (model prog w) A (pyNext (.ref it)) Q E s:=by
 obtain⟨o,a,e,hd⟩:=id hit;obtain⟨od,b,_,c⟩:=id m;unfold pyNext;show aa (jz (iS (name:=Str.ofString "__next__") hit.typeIs qX (fu qX hit.typeIs MA ?tree (Mx _))));show aa (af (aa (aa ?_)))
 first|show aa (u9 hit.typeIs (af (aa (jA a hd ?_))))|show aa (vd hit.typeIs (af (aa (jA a hd ?_))))
 simp only[show Builtin.Dict_items.ownsTuple "dict_keyiterator" = false by decide,iM,if_false];show (show wpAny _ _ (if (Value.ref d==Value.none)=true then _ else _) _ _ s from ?_);rw[OT (show ¬(Value.ref d==Value.none)=true from bB)];show aa (af (aa (m8 b c ?_)));rw[OT ∅];show aa (af (aa (m9 b c ?_)));rw[OT ∅];show af ?_;simp only[show ¬((i:Int)<0) by lia,if_false,kG,Lq hi];show aa ?_
 first|show aa (u9 hit.typeIs (af (aa (Bh hit.typeIs ?_))))|show aa (vd hit.typeIs (af (aa (Bh hit.typeIs ?_))))
 change wpAny _ _ (setField (.ref it) 1 (rawInt ((i:Int)+1)) >>= _) _ _ s;show aa (fC a hd ∅ ?_);have t':(s.heap.update it (Obj.mapFields (·.setIfInBounds 1 (rawInt ((i:Int)+1))))).IsKeyIter it d (i+1) es.size ep:=
  ⟨_,d_ _ a (ju (jt hd _)),(uQ ..).trans e,by rw[jt hd];simp[rawInt]⟩
 show aa (cL (aa (Bh (s:={s with heap:=s.heap.update it (Obj.mapFields (·.setIfInBounds 1 (rawInt ((i:Int)+1))))}) t'.typeIs ?_)));change wpAny _ _ (pure es[i].key) _ _ _;show af (af ⟨_,rfl,af (q _ t' (Ak ..))⟩)
theorem dEnd{Q:Option Value->Shared->Prop}(g:A.handled=none)(hit:s.heap.IsKeyIter it d i es.size ep)(m:DAt s.heap d es ep)(hi:es.size<=i)
  (q:∀h',Heap.ExtBut it s.heap h'->Q none {s with heap:=h'}):wpAny (model prog w) A (pyNext (.ref it)) Q E s:=by
 obtain⟨o,c,h,hd⟩:=id hit;obtain⟨od,e,_,f⟩:=id m;unfold pyNext;show aa (jz (iS (name:=Str.ofString "__next__") hit.typeIs qX (fu qX hit.typeIs MA ?tree (Mx _))));show aa (af (aa (aa ?_)))
 first|show aa (u9 hit.typeIs (af (aa (jA c hd ?_))))|show aa (vd hit.typeIs (af (aa (jA c hd ?_))))
 simp only[show Builtin.Dict_items.ownsTuple "dict_keyiterator" = false by decide,iM,if_false];show (show wpAny _ _ (if (Value.ref d==Value.none)=true then _ else _) _ _ s from ?_);rw[OT (show ¬(Value.ref d==Value.none)=true from bB)];show aa (af (aa (m8 e f ?_)));rw[OT ∅];show aa (af (aa (m9 e f ?_)));rw[OT ∅];show af ?_;simp only[show ¬((i:Int)<0) by lia,if_false,kG,Lr hi];show aa ?_
 first|show aa (u9 hit.typeIs (af ?_))|show aa (vd hit.typeIs (af ?_))
 show (show wpAny _ _ (setField (.ref it) 0 .none >>= _) _ _ s from aa (fC c hd ∅ ?_));change wpAny _ _ (newExc (.type "StopIteration") [] >>= _) _ _ _;show aa ?_;simp only[newExc,newTuple];show aa (dW (aa (m:=firstArgMember _ _) (qY (a:=Value.none) (by first|rfl|(simp only[firstArgMember];rfl)) (dW ?_ (by size_fits)))) (by size_fits));simp only[raiseNew];show aa (Be ?_);rw[show A.in1.handled=none from g];show aa (af (u5 ?_));show aa (Bf (b:=true) (T:="StopIteration") ⟨_,br _ rfl,rfl⟩ A6 ?_);show af (q _ (((Ak ..).extBut.push _).push _))
theorem zI(g:A.handled=none)(I:Addr)(j:d≠I):Walks prog w A I [I,d] [I] es.size (λi v=>∃(h:i<es.size),v=es[i].key) (λi h=>h.IsKeyIter I d i es.size ep/\DAt h d es ep) where
 sub:=λb a=>by simp at a;simp[a]
 frame:=λ_ _ _ st f=>⟨st.1.at λo e=>f I ∅ o e,st.2.at λo e=>f d ∅ o e⟩
 item:=λi s Q E hi st c=>Af st.1 st.2 hi λh' t' sb=>c _ h' s.toks ⟨hi,rfl⟩ ⟨t',st.2.at λo e=>(sb.2 d j).trans e⟩ λb o a e=>sb.extBut b o (λh=>a (by simp[h])) e
 done:=λs Q E st c=>dEnd g st.1 st.2 (aq _) λh' x=>c h' s.toks λb o a e=>x b o (λh=>a (by simp[h])) e
 self:=λ_ _ _ _ st c=>NK st.1 c
theorem dSrc(lo:(d==sysModules)=false):KdlSrc prog w "dict" d d es.size (λi v=>∃(h:i<es.size),v=es[i].key) (λh=>DAt h d es ep) where
 type:=λ_ m=>m.ty
 there:=λ_ m=>⟨m.lt,m.lt⟩
 keep:=λ_ _ m b=>m.at λo e=>b d (.inl rfl) o e
 notList:=⋯
 notTuple:=⋯
 hint:=λ_ _ _ _ m a=>kdl_hint_dict m.ty a
 iter:=λ_ _ c m=>⟨_,_,(λ_ _ a=>uk lo m a),zI c _ (bo m.lt),⟨⟨_,br _ rfl,rfl,rfl⟩,m.at λo e=>aE _ e⟩⟩
end
end L2
end
section
namespace L2
open PySem PySem.Spec PyProof.Rows PySem.W
def DKeys(H:Hp)(d:Addr)(ks vs:List V):Prop:=
 (∃kvs,H d=some (.dK kvs)/\ks=kvs.map (λp=>kV p.1)/\vs=kvs.map (·.2)) \/
 ∃kvs as,H d=some (.dT kvs)/\Paired (λ(p:List Key×V) a=>H a=some (.tup (p.1.map kV))) kvs as/\ks=as.map V.ref/\vs=kvs.map (·.2)
def DIs(H:Hp)(d:Addr):Prop:=(∃kvs,H d=some (.dK kvs))\/∃kvs,H d=some (.dT kvs)
theorem dview{d:Addr}(I:Inv X OY Z H s)(hd:DIs H d) :
  (d==sysModules)=false/\∃ks vs es ep,DKeys H d ks vs/\ks.length<=sizeLine/\DAt s.heap d es ep/\Vals ks (es.toList.map (·.key))/\Vals vs (es.toList.map (·.val)):=by
 rcases hd with ⟨kvs,e⟩|⟨kvs,e⟩
 .obtain⟨z,lo,us,rel,o,es,ep,h1,h2,f,_,n,_⟩:=ml I.hok e;show⟨lo,_,_,es,ep,.inl ⟨kvs,e,rfl,rfl⟩,by rw[ay];show z,⟨o,h1,h2,f⟩,?_⟩;generalize es.toList=l at n;have go:∀{kvs:List (Key×V)}{us:List (Key×Value)}{l:List DictEntry},KV kvs us->Pairs (cA X.prog X.w) l us->Vals (kvs.map λp=>kV p.1) (l.map (·.key))/\Vals (kvs.map (·.2)) (l.map (·.val)):=by
   intro kvs us l r;induction r generalizing l with
   |nil=>intro p;cases p;show⟨.nil,.nil⟩
   | @cons a b l1 l2 h1 h2 c=>
    intro p;cases p with
    |cons p1 p2 v=>
     obtain⟨i1,i2⟩:=c v;show⟨.cons ?_ i1,.cons ?_ i2⟩
     .dsimp only;rw[h1.1];rcases fD p1 with ⟨i,t,g,h⟩|⟨x,t,g,h⟩
      .rw[g,h];show⟨t,rfl⟩
      rw[g,h];show⟨t,rfl⟩
     dsimp only;rw[p2];show h1.2
  show go rel n
 obtain⟨z,lo,xs,rel,o,es,ep,h1,h2,f,j,hz⟩:=Ae I.hok e;clear hz;have go:∀{kvs:List (List Key×V)}{xs:List (List Key×Addr×Value)},KT H kvs xs->Paired (λ(p:List Key×V) a=>H a=some (.tup (p.1.map kV))) kvs (xs.map (·.2.1))/\Vals (kvs.map (·.2)) (xs.map (·.2.2)):=by
  intro kvs xs r;induction r with
  |nil=>show⟨.nil,.nil⟩
  |cons h1 h2 c=>show⟨.cons h1.2.1 c.1,.cons h1.2.2 c.2⟩
 obtain⟨m,q⟩:=go rel;have u:=mP m;show⟨lo,_,_,es,ep,.inr ⟨kvs,_,e,m,rfl,rfl⟩,by rw[ay,<-u];show z,⟨o,h1,h2,f⟩,?_,?_⟩
 .rw[j,bC,bC];clear j rel m q u;induction xs with
  |nil=>show .nil
  |cons x r c=>show .cons rfl c
 rw[j,bC];show q
abbrev qj(X:Cx):Cx:={X with A:=X.A.in1}
section
theorem Inv.toIn1(I:Inv X OY Z H s):Inv (qj X) OY Z H s:=
 ⟨⟨I.ok.mod,I.ok.kind,I.ok.glob,I.ok.blt,I.ok.above,I.ok.inj,I.ok.has,I.ok.cab,I.ok.hd,I.ok.frames,I.ok.stk,I.ok.exf,I.ok.bs,I.ok.bsz,I.ok.noex,I.ok.exfs,I.ok.funs,I.ok.frf⟩,I.os,I.bare,I.base,I.loc,I.cell,I.free,I.freeC,I.pin,I.hok,I.len⟩
theorem Inv.ofIn1(I:Inv (qj X) OY Z H s):Inv X OY Z H s:=
 ⟨⟨I.ok.mod,I.ok.kind,I.ok.glob,I.ok.blt,I.ok.above,I.ok.inj,I.ok.has,I.ok.cab,I.ok.hd,I.ok.frames,I.ok.stk,I.ok.exf,I.ok.bs,I.ok.bsz,I.ok.noex,I.ok.exfs,I.ok.funs,I.ok.frf⟩,I.os,I.bare,I.base,I.loc,I.cell,I.free,I.freeC,I.pin,I.hok,I.len⟩
end
section
def yp(K:Frag):V->List V->Hp->VK->Prop:=λx vs H Q=>∃(l:Addr)(ys:List V)(ks:List (List Int)),x=.ref l/\vs=[]/\H l=some (.lst ys)/\Ky K H ys ks/\ys.length<64/\
 ∀(c:List Nat),c.Perm (List.range ys.length)->(c.map λi=>ks.getD i []).Pairwise (λa b=>HT.lexLt b a=false)->Q .non (upd H l (.lst (c.map λi=>ys.getD i .non)))
theorem vy:MtM X "list.sort" (yp []):=by
 intro OY s Z H x vs v us Q I f g h;obtain⟨l,ys,ks,rfl,rfl,c,j,hz,q⟩:=h;cases f;cases g;obtain⟨z,m,n,r,hlen,e⟩:=I.lstM c;have C:=r.length;obtain⟨κ,p,ask⟩:=zA I j r;have old:∀b o,s.heap.get? b=some o->o.cls=.type "tuple"->(fQ s.heap l m).get? b=some o:=λb o a w=>by
  show aE _ (aE _ ?_);rw[qB _ _ _ _ (λy=>by rw[y,e] at a;cases a;show absurd (show Value.type "list" = Value.type "tuple" from w) ⋯)];show a
 show fu Nj ⟨_,e,rfl⟩ Na (wa (κ:=κ) (rk:=rkV s.heap) e () (λh2=>(ask _ old h2).1) (λh2=>(ask (E:=λ_ _=>False) _ old h2).2) λout p1 p2=>⟨_,rfl,?_⟩) (M8 _);obtain⟨d,x1,x2,A⟩:=zy r p p1 p2;obtain⟨B,he⟩:=sortedHeap_at (out:=out.toArray) e;show⟨.non,_,I.write (x:=l) (e:=l) (o:=.lst (d.map λi=>ys.getD i .non)) (t':=s.toks) (by rw[c];show True.intro) (.inl rfl) (λb u a q=>(sortedHeap_old a (aF q)).trans q) ⟨_,he⟩ ⟨by rw[ay,x1.length_eq,qL,cK];lia,out,B,A,by rw[he]⟩,rfl,q d x1 x2⟩
end
theorem Tups.mono{K:Frag}{ys:List V}{ks:List (List Int)}(h:Tups K H ys ks)(k:∀a xs,H a=some (.tup xs)->H' a=some (.tup xs))(kf:∀a o xs,H a=some (.frz o (.tup xs))->H' a=some (.frz o (.tup xs))):Tups K H' ys ks:=by
 show Paired.mapP h λy z ⟨b,e,q,n⟩=>⟨b,e,?_,n⟩;rcases q with (q|⟨o,q⟩)|q
 .exact .inl (.inl (k _ _ q))
 .exact .inl (.inr ⟨o,kf _ _ _ q⟩)
 show .inr q
theorem wM{K:Frag}{D:Addr}{ks:List V}{Q:V->Hp->Prop}(d:H D=none)
  (k:(∃ns:List Int,ks=ns.map V.int/\ns.length<64/\∀(p:Addr)(ms:List Int),H p=none->ms.Perm ns->ms.Pairwise (·<=·)->Q (.ref p) (upd H p (.lst (ms.map V.int)))) \/
   ∃f:List (List Int),Tups K H ks f/\ks.length<64/\∀(p:Addr)(c:List Nat),H p=none->c.Perm (List.range ks.length)->(c.map λi=>f.getD i []).Pairwise (λa b=>HT.lexLt b a=false)->Q (.ref p) (upd H p (.lst (c.map λi=>ks.getD i .non)))) :
  yp K (.ref D) [] (upd H D (.lst ks)) λ_ H'=>Q (.ref D) H':=by
 rcases k with ⟨ns,h,g,q⟩|⟨f,j,g,q⟩
 .subst h;show⟨D,_,_,rfl,rfl,aN,Jn ns,by rw[ay];show g,λc h1 h2=>?_⟩;obtain⟨ms,l,m,n⟩:=Ju h1 h2;rw[xx,n];show q D ms d l m
 show⟨D,ks,f,rfl,rfl,aN,.inr (j.mono (λb xs e=>by rw[av (au e d)];show e) λb o xs e=>by rw[av (au e d)];show e),g,λc h1 h2=>?_⟩;rw[xx];show q D c d h1 h2
section
def IU(K:Frag):List V->Hp->VK->Prop:=λxs H Q=>∃a:Addr,xs=[.ref a]/\DIs H a/\∀ks vs,DKeys H a ks vs->
 (∃ns:List Int,ks=ns.map V.int/\ns.length<64/\∀(p:Addr)(ms:List Int),H p=none->ms.Perm ns->ms.Pairwise (·<=·)->Q (.ref p) (upd H p (.lst (ms.map V.int)))) \/
 ∃d:List (List Int),Tups K H ks d/\ks.length<64/\∀(p:Addr)(c:List Nat),H p=none->c.Perm (List.range ks.length)->(c.map λi=>d.getD i []).Pairwise (λa b=>HT.lexLt b a=false)->Q (.ref p) (upd H p (.lst (c.map λi=>ks.getD i .non)))
theorem vK{α:Type}{l m:List α}(a:l.length=m.length)(h:∀(j:Nat)(v:α),l[j]?=some v->m[j]?=some v):l=m:=by
 show Ar λi=>?_;cases e:l[i]? with
 |some v=>rw[h i v e]
 |none=>
  have:l.length<=i:=LV.mp e;show (LV.mpr ()).symm
theorem kZ(l:X.calm=true):cV X (.builtin "sorted") (IU []):=by
 intro OY s Z H xs us Q I r h;obtain⟨a,rfl,hd,k⟩:=h;obtain⟨u,rfl,n⟩:=Vals.one r;cases n;obtain⟨lo,ks,vs,es,ep,p,hz,q,d,M⟩:=dview I hd;obtain⟨m,F⟩:=I.fr;have w:ks.length=es.size:=by have:=d.length;simpa using this
 show kdu_sorted (dSrc (es:=es) (ep:=ep) lo) (I.ok.hd l) F (rT (g:=X.base) (L:=X.env.locals)) q (by rw[<-w];show hz) λD h' tk b x f y A B=>?_;obtain⟨k1,k2⟩:=I.newsKept (t':=s.toks) (more:=[(D,listOf b.toArray 0)]) F x f;have c:=f (D,listOf b.toArray 0) (.head _);have i:s.heap.get? D=none:=by
  cases e:s.heap.get? D with
  |none=>rfl
  |some o=>show absurd (y (D,o) (rf c.2.1 c.2.2 e)) (c7 _)
 have ev:b=es.toList.map (·.key):=by show vK (by rw[A];simp) λj v e=>?_;obtain⟨C,rfl⟩:=B j v e;rw[bf];simp[C]
 have E:Inv X OY Z (upd H D (.lst ks)) {s with heap:=h',toks:=tk}:=I.laidN (t':=tk) k1 k2 i (λH'=>⟨hz,b,0,by rw[ev];show d,c.1⟩) (λ_ _ z=>by cases z);have z:=vy (X:=qj X) OY _ Z _ (.ref D) [] (.ref D) [] (λ_ H'=>Q (.ref D) H') E.toIn1 rfl .nil (wM (I.hok.none_of i) (k ks vs p));show thn z λ_ s' ⟨_,H',J,_,K⟩=>⟨.ref D,H',J.ofIn1,rfl,K⟩
end
section
def Ei(x:V)(vs:List V)(H:Hp)(Q:VK)(l:Addr)(xs:List V)(i:Nat)(y:V):Prop:=x=.ref l/\vs=[.int i,y]/\H l=some (.lst xs)/\i<=xs.length/\xs.length<sizeLine/\WrO H l (.lst (xs.take i++y::xs.drop i)) (Q .non)
def Gh:V->List V->Hp->VK->Prop:=λx vs H Q=>Exists (Ex4 (Ei x vs H Q))
theorem Hz{i n:Nat}(hi:i<=n)(hz:n<sizeLine):¬(!Builtin.List.listFitsIndex (i:Int))=true:=by rw[cK] at hz;have f:=Nb (k:=(i:Int)) () ();intro y;rw[f] at y;cases y
theorem E4{prog:Program}{w:World}{A:Around}{E:Value->Shared->Prop}{Q:Value->Shared->Prop}{l:Addr}{a:Array Value}{n:Nat}{i:Int}{t:Tok}{b:Value}(c:s.TypeIs (Value.ref l) "list")(d:¬(!Builtin.List.listFitsIndex i)=true)(hsz:a.size<=sizeLine)
  (e:s.heap.get? l=some {cls:=.type "list",data:=.seq a n})
  (h:Q .none {s with heap:=s.heap.update l (Obj.mapSeq λxs=>(xs.extract 0 (if i<0 then (i+(xs.size:Int)).toNat else min i.toNat xs.size)).push b++xs.extract (if i<0 then (i+(xs.size:Int)).toNat else min i.toNat xs.size))}) :
  wpAny (model prog w) A (call (Value.builtin "list.insert") [Value.ref l,Value.int i t,b]) Q E s:=
 A0 AR c PySem.F.entry_list_insert (PySem.F.args_list_insert_3 _ _ _) (N0 l a n i t b d hsz) ⟨e,h⟩
theorem v9:MtM X "list.insert" Gh:=by
 intro OY s Z H x vs v us Q I d f h;obtain⟨l,xs,i,y,rfl,rfl,b,hi,hz,q⟩:=h;cases d;obtain⟨u,c,rfl,g,j⟩:=f.two;obtain⟨t,rfl⟩:=g;obtain⟨z,a,n,r,m,e⟩:=I.lstM b;have o:=Hz hi hz;have hsz:a.toArray.size<=sizeLine:=by rw[bx,<-m];show z
 show E4 (s:=s) ⟨_,e,rfl⟩ o hsz e ?_;show⟨.non,_,I.lset (its':=a.take i++c::a.drop i) b e ?_ (Vals.append (r.take i) (.cons j (r.drop i))) ?_,rfl,q.at⟩
 .have p:(if (i:Int)<0 then ((i:Int)+(a.toArray.size:Int)).toNat else min (i:Int).toNat a.toArray.size)=i:=by
   rw[OT (),kG,bx];lia
  change ((a.toArray.extract 0 _).push c++a.toArray.extract _)=_;rw[p];have hd:(a.drop i).take (a.length-i)=a.drop i:=iR (by rw[cF];show aq _);simp[List.extract_eq_drop_take,hd]
 rw[aU,cE,bu,cF];lia
def KL(K:Frag):List V->Hp->VK->Prop:=λxs H Q=>∃(a:Addr)(ns:List Int),xs=[.ref a]/\SqL K H a (ns.map V.int)/\ns≠[]/\∀m,m∈ns->(∀n∈ns,n<=m)->Q (.int m) H
theorem oz(r:Vals xs us){i:Nat}{v:Value}(e:us[i]?=some v):∃x,xs[i]?=some x/\az x v:=by
 have c:=r.length;have hi:i<xs.length:=by have:=(aI.mp e).1;lia
 obtain⟨u,a,b⟩:=r.get (i:=i) (x:=xs[i]) (by simp[hi]);rw[e] at a;cases a;show⟨_,by simp[hi],b⟩
theorem pU{ns:List Int}(r:Vals (ns.map V.int) us)(i:Nat)(v:Value)(e:us.toArray[i]?=some v):∃t,v=.int (ns.getD i 0) t:=by obtain⟨x,a,b⟩:=oz r (i:=i) (v:=v) ‹e›;rw[bf] at a;obtain⟨n,c,rfl⟩:=cw.mp a;obtain⟨t,rfl⟩:=b;show⟨t,by rw[List.getD,c];rfl⟩
theorem nA(b:X.calm=true):cV X (.builtin "max") (KL []):=by intro OY s Z H xs us Q I r h;obtain⟨a,ns,rfl,c,d,q⟩:=h;obtain⟨u,rfl,e⟩:=Vals.one r;cases e;obtain⟨l,f,p,hz⟩:=I.list c;obtain⟨m,F⟩:=I.fr;show max_list_N (I.ok.hd b) F (rT (g:=X.base) (L:=X.env.locals)) p.isList (nK f) (ib.mpr d) λh' M t tk i j h1 h2=>?_;obtain⟨k1,k2⟩:=I.newsKept (t':=tk) (more:=[]) F i j;show⟨.int M,H,I.keptN (t':=tk) k1 k2,⟨t,rfl⟩,q M h1 h2⟩
def KI(K:Frag):List V->Hp->VK->Prop:=λxs H Q=>∃(a:Addr)(ns:List Int),xs=[.ref a]/\SqT K H a (ns.map V.int)/\ns≠[]/\∀m,m∈ns->(∀n∈ns,m<=n)->Q (.int m) H
theorem xq(ns:List Int)(b:ns≠[]):(ns.getD (argBest (λi j=>decide (ns.getD i 0<ns.getD j 0)) (ns.length-1)) 0)∈ns/\∀n∈ns,ns.getD (argBest (λi j=>decide (ns.getD i 0<ns.getD j 0)) (ns.length-1)) 0<=n:=by
 obtain⟨h1,h2⟩:=argBest_lt (λi=>ns.getD i 0) (ns.length-1);have f:=ib.mpr b;show⟨?_,λn c=>?_⟩
 .have a:argBest (λi j=>decide (ns.getD i 0<ns.getD j 0)) (ns.length-1)<ns.length:=();rw[List.getD,aX a];show mH a
 obtain⟨j,d,rfl⟩:=List.getElem_of_mem c;have:=h2 j ();have e:ns.getD j 0=ns[j]:=by simp[List.getD,d]
 rw[e] at this;show this
theorem BK(n:X.calm=true):cV X (.builtin "min") (KI []):=by
 intro OY s Z H xs us Q I r h;obtain⟨a,ns,rfl,w,j,q⟩:=h;obtain⟨u,rfl,x⟩:=Vals.one r;cases x;obtain⟨c,d,p,hz⟩:=I.tuple w;have l:s.heap.IsTuple a c.toArray:=p;have f:=d.length;rw[ay] at f;have m:a<↥s:=by obtain⟨_,e,_⟩:=p;show aF e
 show call_min_walk (NM l ?_);show⟨↥s,_,_,_,_,_,_,rfl,Walks.tuple (A:=X.A.in1) (I.ok.hd n) _ a (bo m) c.toArray,⟨⟨_,br _ rfl,rfl,rfl⟩,?_⟩,λb g=>?_,?_,Lx (λi=>ns.getD i 0) (λi v e=>pU d i v e),λv h' tk y B=>?_⟩
 .obtain⟨o,e,r⟩:=l;show⟨o,aE _ e,r⟩
 .change b<(s.heap.push _).objs.size;rw[jm];rcases aG.mp g with rfl|g
  .exact qP _
  rw[aQ.mp g];show mL m
 .rw[bx,<-f];show ib.mpr j
 obtain⟨t,rfl⟩:=pU d _ v y;obtain⟨C,D⟩:=xq ns j;have e:c.toArray.size-1=ns.length-1:=by rw[bx,f]
 rw[e];show⟨.int _,H,I.kept (t':=tk) λb o e=>B b o (λz=>by rw[aQ.mp z] at e;show absurd (aF e) (c7 _)) (aE _ e),⟨t,rfl⟩,q _ C D⟩
end
end L2
end
section
namespace L2
open PySem PySem.Spec PyProof.Rows
section
def Ge:List V->Hp->VK->Prop:=λxs H Q=>∃j:Int,xs=[.int j]/\∀r,H r=none->Q (.ref r) (upd H r (.rng 0 j))
theorem Bx:cV X (.type "range") Ge:=by intro OY s Z H xs us Q I r h;obtain⟨j,rfl,q⟩:=h;obtain⟨u,rfl,t,rfl⟩:=Vals.one r;show call_range_1 ⟨.ref ↥s,upd H ↥s (.rng 0 j),I.laid (t':=s.toks+1+1) (λb o e=>aE _ e) (aq _) ⟨_,_,_,br _ rfl⟩,rfl,q _ (I.hok.fresh (aq _))⟩
def Eh:List V->Hp->VK->Prop:=λxs H Q=>∃(a:Addr)(n:Nat),xs=[.ref a]/\H a=some (.rng 0 (n:Int))/\n<=1000/\∀l,H l=none->Q (.ref l) (upd H l (.lst ((List.range n).map λ(i:Nat)=>V.int (i:Int))))
theorem vD(a:us.length=xs.length)(h:∀(j:Nat)(v:Value),us[j]?=some v->∃x,xs[j]?=some x/\az x v):Vals xs us:=by
 induction xs generalizing us with
 |nil=>cases us with
  |nil=>show .nil
  |cons _ _=>simp at a
 |cons x xs b=>cases us with
  |nil=>simp at a
  |cons u us=>
   obtain⟨y,e,r⟩:=h 0 u rfl;cases e;show .cons r (b ‹a› λj v e=>‹h (j+1) v ‹e››)
theorem BG(f:X.calm=true):cV X (.type "list") Eh:=by
 intro OY s Z H xs us Q I r h;obtain⟨a,n,rfl,ha,A,q⟩:=h;obtain⟨u,rfl,g⟩:=Vals.one r;cases g;obtain⟨l,m,o,e⟩:=(show aV X.prog X.w H s.heap a (.rng 0 (n:Int)) from I.hok a _ ha);have p:IsRange s.heap a 0 (n:Int) 1 l m o:=e;have hsz:Builtin.Range.rangeSize 0 (n:Int) 1=(n:Nat):=by rw[rangeSize_one];split<;>lia
 show call_list_range (I.ok.hd f) p (small_one () () () ()) hsz () λh' tk acc c kp x it=>?_;have b:↥s<=↥s:=aq _;show⟨.ref ↥s,upd H ↥s (.lst ((List.range n).map λ(i:Nat)=>V.int (i:Int))),I.laid (t':=tk) kp b ⟨by simp;rw[cK];lia,acc.toList,c,vD (by simp[it.1]) λj v d=>?_,by rw[x]⟩,rfl,q _ (I.hok.fresh b)⟩;obtain⟨tv,y⟩:=it.2 j v ‹d›;have z:j<n:=by have:=(aI.mp d).1;rw[qz,it.1] at this;show this
 show⟨.int (j:Int),by simp[z],tv,?_⟩;rw[y];simp
def rAll(K:W.Frag):List V->Hp->VK->Prop:=λxs H Q=>∃(a:Addr)(bs:List Bool),xs=[.ref a]/\SqL K H a (bs.map V.bl)/\Q (.bl (bs.all id)) H
theorem BH(n:X.calm=true):cV X (.builtin "all") (rAll []):=by
 intro OY s Z H xs us Q I r h;obtain⟨a,bs,rfl,w,q⟩:=h;obtain⟨u,rfl,y⟩:=Vals.one r;cases y;obtain⟨g,j,p,hz⟩:=I.list w;have l:=j.length;rw[ay] at l;have c:=p.isList;have B:a<↥s:=by obtain⟨_,e,_⟩:=c;show aF e
 show call_all_walk (Bl c ?_);show⟨↥s,_,_,_,_,_,(λi=>bs.getD i false),rfl,M7 (A:=X.A.in1) (I.ok.hd n) _ a (bo B) g.toArray,⟨⟨_,br _ rfl,rfl,rfl⟩,c.push _⟩,λi v s' J E' C d=>?_,λh' tk D=>?_⟩
 .obtain⟨x,m,f⟩:=oz j (i:=i) (v:=v) ‹C›;rw[bf] at m;obtain⟨b,E,rfl⟩:=cw.mp m;cases f;have:bs.getD i false=b:=by rw[List.getD,E];rfl
  dsimp only at d;rw[this] at d;show iT d
 have e:(List.range g.toArray.size).all (λi=>bs.getD i false)=bs.all id:=by
  rw[bx,<-l];have f:bs=(List.range bs.length).map λi=>bs.getD i false:=by show Aq ∅ λi h1 h2=>?_;simp[h1]
  conv=>rhs;rw[f,LJ]
  rfl
 rw[e];show⟨.bl _,H,I.kept (t':=tk) λb o e=>D b o (λz=>by rw[aQ.mp z] at e;show absurd (aF e) (c7 _)) (aE _ e),rfl,q⟩
def CV:List V->Hp->VK->Prop:=λxs H Q=>∃(a:Addr)(kvs:List (Key×V)),xs=[.ref a]/\Rd H a (.dK kvs)/\∀p,H p=none->Q (.ref p) (upd H p (.dK kvs))
theorem Bz:cV X (.type "dict") CV:=by intro OY s Z H xs us Q I r h;obtain⟨a,kvs,rfl,ha,q⟩:=h;obtain⟨u,rfl,b⟩:=Vals.one r;cases b;show Fp I ha λp s' c d=>⟨.ref p,_,d,rfl,q p c⟩
end
mutual
inductive Dt (K:W.Frag) (H:Hp):V->PyData->Prop
 |non:Dt K H .non .none
 |bl (b:Bool):Dt K H (.bl b) (.bool b)
 |int (i:Int):Dt K H (.int i) (.int i)
 |str (x:Str) (h:(PyData.str x).canLay0=true):Dt K H (.str x) (.str x)
 |lst {a:Addr} {xs:List V} {ds:List PyData} (h:SqL K H a xs) (r:Dts K H xs ds):Dt K H (.ref a) (.list ds)
 |tup {a:Addr} {xs:List V} {ds:List PyData} (h:SqT K H a xs) (r:Dts K H xs ds):Dt K H (.ref a) (.tuple ds)
inductive Dts (K:W.Frag) (H:Hp):List V->List PyData->Prop
 |nil:Dts K H [] []
 |cons {x:V} {d:PyData} {xs:List V} {ds:List PyData} (h:Dt K H x d) (r:Dts K H xs ds):Dts K H (x::xs) (d::ds)
end
section
theorem Dts.reads(I:Inv X OY Z H s)(ds:List PyData)(xs:List V)(us:List Value)(h:Dts [] H xs ds)(r:Vals xs us):∃as,ReadsAll s.heap us ds as:=
 Dts.rec (motive_1:=λv d _=>∀u,az v u->∃as,Reads s.heap u d as) (motive_2:=λxs ds _=>∀us,Vals xs us->∃as,ReadsAll s.heap us ds as)
  (λu r=>by cases r;show⟨_,.none⟩) (λb u r=>by cases r;show⟨_,.bool b⟩) (λi u r=>by obtain⟨t,rfl⟩:=r;show⟨_,.int i t⟩) (λx _ u r=>by obtain⟨t,rfl⟩:=r;show⟨_,.str x t⟩)
  (λh _ a u r=>by
   cases r;obtain⟨g,f,⟨o,n,e,c,_,dd⟩,_⟩:=I.list h;obtain⟨as,q⟩:=a _ f;show⟨_,.list e c dd ‹q›⟩)
  (λh _ a u r=>by
   cases r;obtain⟨g,f,⟨o,e,c,n,dd⟩,_⟩:=I.tuple h;obtain⟨as,q⟩:=a _ f;show⟨_,.tuple e c dd ‹q›⟩)
  (λu r=>by cases r;show⟨_,.nil⟩)
  (λ_ _ a j us r=>by
   cases r with
   |cons r rs=>
    obtain⟨as,q⟩:=a _ r;obtain⟨bs,p⟩:=j _ rs;show⟨_,.cons q p⟩) h us r
theorem Dt.reads(I:Inv X OY Z H s)(d:PyData)(v:V)(u:Value)(h:Dt [] H v d)(r:az v u):∃as,Reads s.heap u d as:=by
 obtain⟨as,q⟩:=Dts.reads I _ _ _ (.cons h .nil) (.cons r .nil);cases q with
 |cons q _=>show⟨_,q⟩
theorem Dts.can(ds:List PyData)(xs:List V)(h:Dts K H xs ds):PyData.canLayAll0 ds=true:=
 Dts.rec (motive_1:=λv d _=>d.canLay0=true) (motive_2:=λxs ds _=>PyData.canLayAll0 ds=true) rfl (λ_=>rfl) (λ_=>rfl) (λ_ h=>h) (λ_ _ a=>a) (λ_ _ a=>a) rfl
  (λ_ _ a b=>by rw[PyData.canLayAll0,a,b];rfl) h
theorem Dt.can(d:PyData)(v:V)(h:Dt K H v d):d.canLay0=true:=by
 have:=Dts.can _ _ (.cons h .nil)
 rwa [PyData.canLayAll0,PyData.canLayAll0,Bool.and_true] at this
def KR(K:W.Frag)(neg:Bool)(x y:V)(H:Hp)(Q:VK)(d e:PyData):Prop:=Dt K H x d/\Dt K H y e/\d.depth<=60/\Q (.bl (if neg then !PyData.eqv d e else PyData.eqv d e)) H
def uw(K:W.Frag)(neg:Bool):R2:=λx y H Q=>Exists (Ex2 (KR K neg x y H Q))
theorem min60{u a b:Nat}(h:u+64<cLine)(h':a<=60):u+min a b<cLine:=by have:min a b<=a:=Nat.min_le_left _ _;lia
theorem pM(a:X.A.units+64<cLine):OpR X (compareOp .Eq) (uw [] false):=by intro OY s Z H x y v u Q I b c h;obtain⟨d,e,hd,he,hz,q⟩:=h;obtain⟨as,f⟩:=Dt.reads I d x v hd b;obtain⟨bs,g⟩:=Dt.reads I e y u he c;show Ou f g (Dt.can d x hd) (Dt.can e y he) (min60 a hz) ⟨.bl _,H,I,rfl,q⟩
theorem tV(a:X.A.units+64<cLine):OpR X (compareOp .NotEq) (uw [] true):=by intro OY s Z H x y v u Q I b c h;obtain⟨d,e,hd,he,hz,q⟩:=h;obtain⟨as,f⟩:=Dt.reads I d x v hd b;obtain⟨bs,g⟩:=Dt.reads I e y u he c;show Ov f g (Dt.can d x hd) (Dt.can e y he) (min60 a hz) ⟨.bl _,H,I,rfl,q⟩
def KP(K:W.Frag)(neg:Bool)(x y:V)(H:Hp)(Q:VK)(d:PyData)(a:Addr)(xs:List V)(ds:List PyData):Prop:=Dt K H x d/\y=.ref a/\(SqL K H a xs\/SqT K H a xs)/\Dts K H xs ds/\d.depth<=60/\
 Q (.bl (if neg then !(ds.any λz=>PyData.eqv z d) else ds.any λz=>PyData.eqv z d)) H
def mn(K:W.Frag)(neg:Bool):R2:=λx y H Q=>Exists (Ex4 (KP K neg x y H Q))
theorem min61{u a b:Nat}(h:u+64<cLine)(h':b<=60):u+1+min a b<cLine:=by have:min a b<=b:=Ml _ _;lia
theorem tW(f:X.A.units+64<cLine):OpR X (compareOp .In) (mn [] false):=by
 intro OY s Z H x y v u Q I i j h;obtain⟨d,a,xs,ds,hd,rfl,b,c,hz,q⟩:=h;cases j;obtain⟨as,g⟩:=Dt.reads I d x v hd i;rcases b with b|b
 .obtain⟨bs,e⟩:=Dt.reads I (.list ds) (.ref a) _ (.lst b c) rfl;show Ox e g (Dts.can ds _ c) (Dt.can d x hd) (min61 f hz) ⟨.bl _,H,I,rfl,q⟩
 obtain⟨bs,e⟩:=Dt.reads I (.tuple ds) (.ref a) _ (.tup b c) rfl;show Oy e g (Dts.can ds _ c) (Dt.can d x hd) (min61 f hz) ⟨.bl _,H,I,rfl,q⟩
theorem CZ(f:X.A.units+64<cLine):OpR X (compareOp .NotIn) (mn [] true):=by
 intro OY s Z H x y v u Q I i j h;obtain⟨d,a,xs,ds,hd,rfl,b,c,hz,q⟩:=h;cases j;obtain⟨as,g⟩:=Dt.reads I d x v hd i;rcases b with b|b
 .obtain⟨bs,e⟩:=Dt.reads I (.list ds) (.ref a) _ (.lst b c) rfl;show Oz e g (Dts.can ds _ c) (Dt.can d x hd) (min61 f hz) ⟨.bl _,H,I,rfl,q⟩
 obtain⟨bs,e⟩:=Dt.reads I (.tuple ds) (.ref a) _ (.tup b c) rfl;show OA e g (Dts.can ds _ c) (Dt.can d x hd) (min61 f hz) ⟨.bl _,H,I,rfl,q⟩
end
end L2
end
section
namespace L2
open PySem PySem.Spec PyProof.Rows
section
theorem Inv.turnLaid{h':Heap}{t':Nat}{a:Addr}{o:HO}{ch:List Addr}(I:Inv X OY Z H s)(h:∀b∈ch,bH X OY H b)(k:∀b o,b∉ch->s.heap.get? b=some o->h'.get? b=some o)
  (ha:s.heap.get? a=none) (new:∀H',aV X.prog X.w H' h' a o):Inv X OY Z (upd H a o) {s with heap:=h',toks:=t'}:=by
 have f:H a=none:=I.hok.none_of ha;have i:∀b u,H b=some u->b∉ch:=λb u e z=>by
  have:=(h b z).1;rw[this] at e;cases e
 show I.step (g':=s.gens) (d':=s.drawn) (ch:=ch) (λb g=>?_) (λb o _ _ d e _=>k b o d e) (λb o _ _ d e _=>⟨o.slots,k b o d e⟩) (λb o _ e n=>?_) (λb o d e=>⟨o,k b o d e⟩) (λb xs e=>?_) (λb o u e=>?_) (λb ps e=>⟨#[],?_⟩) (λm hm=>?_) (λb u e=>?_) I.bare
 .obtain⟨_,j,_,l,p,x⟩:=h b g;show⟨l,j,p,x⟩
 .rw[av (λz=>by rw[z,ha] at e;cases e)];show n
 .rw[av (au e f)];show e
 .rw[av (au e f)];show e
 .rw[av (au e f),e];simp
 .obtain⟨o,es,ep,y,r⟩:=hm;show⟨o,es,ep,k _ o (λz=>(h _ z).2.1 rfl) y,r⟩
 by_cases g:b=a
 .subst g;rw[aN] at e;cases e;show new _
 rw[av g] at e;show (I.hok b u e).stay (λc v d q=>k c v ?_ q) (λc q=>by rw[av (au q f)];show q) λc xs q=>by rw[av (au q f)];show q
 rcases d with z|z
 .rw[z];show i b u e
 show i c _ z
end
def Ite(K:W.Frag)(a:Addr):It:=
 ⟨λi H=>∃xs x,SqL K H a xs/\xs[i]?=some x,
  λi H v H'=>∃p x,H p=none/\v=.ref p/\H'=upd H p (.tup [.int (i:Int),x])/\∀xs,SqL K H a xs->xs[i]?=some x,
  λi H=>∃xs,SqL K H a xs/\xs.length<=i⟩
theorem CC{elts:List Expr}{x1}{pos:Pos}(a it e:Addr)(B:e≠it) :
  Turn P w K (.Tuple elts x1 pos) (Ite [] a) [e,it] e (λi h=>(∃old,IsEnum h e it (i:Int) old)/\h.IsListIter it a i) where
 mem:=∅
 obj:=λi h st b g=>by
  obtain⟨⟨old,f⟩,o,M,c,d⟩:=st;rcases aG.mp g with z|z
  .subst z;show⟨_,f,λv z=>by
    have N:Data.fields _=Data.cell v:=z;cases N⟩
  have z:b=it:=‹z›
  subst z;show⟨o,M,λv z=>by rw[d] at z;cases z⟩
 keep:=λi h h' st k=>by
  obtain⟨⟨old,f⟩,j⟩:=st;show⟨⟨old,k e ∅ _ f⟩,j.at λo q=>k it ∅ o q⟩
 item:=by
  intro X n hw r C i OY s Z H E I hf st y;subst n hw r;obtain⟨xs,x,m,hx⟩:=y;obtain⟨⟨old,f⟩,j⟩:=st;obtain⟨O,A,p,hz⟩:=I.list m;obtain⟨u,Q,R⟩:=A.get hx;show wpAny_pyNext_enum_item f j p.isList (x:=u) ‹Q› B λh1 S T U am Y=>?_;show⟨_,rfl,?_⟩;show wpAny_letOwnedTupleGo_enum S λh2 ab l=>?_;replace l:Heap.SameBut e h1 h2:=l;have ad:s.heap.get? ↥s=none:=jl (aq _);have D:e<↥s:=aF f;have ag:it<↥s:=by obtain⟨_,q,_⟩:=j;show aF q
  have hn:H ↥s=none:=I.hok.fresh (aq _);have J:h2.get? ↥s=some {cls:=.type "tuple",data:=.seq #[.int i s.toks,u]}:=(l.2 _ (jr D)).trans U;have I2:Inv X OY Z (upd H ↥s (.tup [.int (i:Int),x])) {s with heap:=h2,toks:=s.toks+1}:=by
   show I.turnLaid (ch:=[e,it]) hf (λb o g q=>?_) ad λH'=>?_
   .have L:b≠e:=λz=>g (by simp[z]);have al:b≠it:=λz=>g (by simp[z]);show (l.2 b L).trans (Y b o L al q)
   show⟨⟨by simp;rw[cK];lia,_,J,rfl⟩,[.int i s.toks,u],.cons ⟨_,rfl⟩ (.cons R .nil),⟨_,J,rfl,_,rfl⟩⟩
  show⟨.ref ↥s,_,I2,rfl,⟨↥s,x,hn,rfl,rfl,λys hy=>by rw[I.list_inj hy m];show hx⟩,⟨⟨_,ab⟩,?_⟩,λb g=>?_⟩
  .obtain⟨o,q1,q2⟩:=T;show⟨o,(l.2 it (ax B)).trans q1,q2⟩
  have:b≠↥s:=by
   rcases aG.mp g with z|z
   .rw[z];show bo D
   rw[(by simpa using z:b=it)];show bo ag
  rw[av this];show (hf b g).1
 done:=by intro X n hw r C i OY s Z H E I hf st y;subst n hw r;obtain⟨xs,m,hx⟩:=y;obtain⟨⟨old,f⟩,j⟩:=st;obtain⟨O,A,p,hz⟩:=I.list m;obtain⟨f0,f1,f2,f3,f4,f5⟩:=hf it ∅;have hl:=A.length;show wpAny_pyNext_enum_end (I.ok.hd C) f j p.isList (by simp;lia) λh' eb=>⟨rfl,I.turned (t':=s.toks) (λb o g q=>eb b o g q) f0 f1 f3 f4 f5⟩
 self:=λ_ _ _ _ _ st h=>by
  obtain⟨⟨old,f⟩,_⟩:=st;show NJ f h
section
def JC(K:W.Frag)(R:It->Hp->Prop)(vs:List V)(H1:Hp)(a:Addr)(xs:List V):Prop:=vs=[.ref a]/\SqL K H1 a xs/\R (Ite K a) H1
def JB(K:W.Frag)(R:It->Hp->Prop):List V->Hp->Prop:=λvs H1=>Exists (Ex2 (JC K R vs H1))
def Lb(K:W.Frag)(ta:TA):TI:=λZ H R=>ta Z H (JB K R)
theorem sW{elts:List Expr}{x1}{tpos:Pos}{a:Expr}{ta:TA}{p pos:Pos}(f:Gl X "enumerate")(hm:X.mg "enumerate" = none)(ha:PA X [a] ta)(g:starEach [a] X.env=[(false,eval a X.env)]:=by rfl) :
  PI X (.Tuple elts x1 tpos) (.Call (.Name "enumerate" p) [a] [] pos) (Lb [] ta):=by
 intro OY s Z H R I h;show Call_ (je I f hm boot_enumerate (qT (thn (ha pos OY s Z H _ I h) λus s1 ⟨vs,H1,c,i,j⟩=>?_) g rfl));obtain⟨a,xs,e,l,q⟩:=j;subst e;obtain⟨u,rfl,m⟩:=Vals.one i;cases m;obtain⟨v,w,pl,hz⟩:=c.list l;show call_enumerate_list pl.isList λh' he hi hsz n=>?_;show NJ he ?_;have o:Inv X OY Z H1 {s1 with heap:=h'}:=c.kept (t':=s1.toks) n;show⟨_,[↥s1+1,↥s1],_,_,H1,rfl,o,CC a _ _ (Nat.succ_ne_self _),⟨⟨.none,he⟩,hi⟩,λb r=>?_,q⟩;have d:↥s1<=b:=by
  rcases aG.mp r with z|z
  .rw[z];show qO _
  have:b=↥s1:=‹z›
  show AG this.symm
 show c.fpOk d (c.hok.fresh d)
end
end L2
end
section
namespace L2
open PySem PySem.Spec PyProof.Rows PySem.W
section
variable {prog:Program}{d it v:Addr}{es:Array DictEntry}{ep i:Nat}
theorem JJ{Q:Value->Shared->Prop}(a:s.heap.IsItemsView v d)(m:DAt s.heap d es ep)
  (q:Q (.ref ↥s) {s with heap:=s.heap.push {cls:=.type "dict_itemiterator",data:=.fields #[.none,.bool false,.ref d,.int 0 0,.int es.size 0,.int ep 0,.none,.none]}}):wpAny (model prog w) A (pyIter (.ref v)) Q E s:=by
 obtain⟨g,e,_,f⟩:=id a;obtain⟨o,b,_,c⟩:=id m;show NL a.typeIs ME (fu ME a.typeIs PySem.F.entry_dict_items_iter ?_ (PySem.F.args_dict_items_iter_1 _));unfold Builtin.«dict_items.__iter__» Builtin.Dict_items.dictOf Builtin.Dict_items.newIterator;show aa (af (aa (aa (bQ e f (x:=.ref d) rfl (af (aa (aa (m8 b c (aa (m9 b c ?_))))))))));simp only[show Builtin.Dict_items.ownsTuple "dict_itemiterator" = true by decide,if_true];show dW (af ⟨_,rfl,"dict_itemiterator",_,⟨_,br _ rfl,rfl⟩,qW.lookup,by simpa [rawInt,Builtin.Dict_items.ownedTupleFields] using q⟩)
  (by simp only[sizeOk,Builtin.Dict_items.ownedTupleFields,bx,aU,cE,kI];rw[cK];lia)
theorem JI{x y:Value}{Q:Option Value->Shared->Prop}(hit:IsItemIter s.heap it d i es.size ep x y)(m:DAt s.heap d es ep)(hi:i<es.size)
  (q:∀h',IsItemIterOut h' it d (i+1) es.size ep es[i].key es[i].val ↥s->h'.get? ↥s=some {cls:=.type "tuple",data:=.seq #[es[i].key,es[i].val]}->
   (∀b o,b≠it->s.heap.get? b=some o->h'.get? b=some o)->Q (some (.ref ↥s)) {s with heap:=h'}):wpAny (model prog w) A (pyNext (.ref it)) Q E s:=by
 obtain⟨a,g,f,tk,os⟩:=s;obtain⟨od,K,_,L⟩:=id m;have ty:Shared.TypeIs ⟨a,g,f,tk,os⟩ (.ref it) "dict_itemiterator":=⟨_,hit,rfl⟩;unfold pyNext;show aa (jz (iS (name:=Str.ofString "__next__") ty qW (fu qW ty Mz ?tree (Mw _))));show aa (af (aa (aa ?_)))
 first|show aa (u7 ty (af (aa (jA hit rfl ?_))))|show aa (u_ ty (af (aa (jA hit rfl ?_))))
 simp only[show Builtin.Dict_items.ownsTuple "dict_itemiterator" = true by decide,if_true];show (show wpAny _ _ (if (Value.ref d==Value.none)=true then _ else _) _ _ _ from ?_);rw[OT (show ¬(Value.ref d==Value.none)=true from bB)];show aa (af (aa (m8 K L ?_)));rw[OT ∅];show aa (af (aa (m9 K L ?_)));rw[OT ∅];show af ?_;simp only[show ¬((i:Int)<0) by lia,if_false,kG,Lq hi];show aa ?_
 first|show aa (u7 ty (af (aa (uZ ty ?_))))|show aa (u_ ty (af (aa (uZ ty ?_))))
 show (show wpAny _ _ (setField (.ref it) 3 (rawInt ((i:Int)+1)) >>= _) _ _ ⟨a,g,f,tk,os⟩ from aa (nh hit ∅ λh1 h j=>?_));replace j:Heap.SameBut it a h1:=j;replace h:IsItemIter h1 it d (i+1) es.size ep x y:=by unfold IsItemIter;rw[show ((i+1:Nat):Int)=(i:Int)+1 by lia];simpa [rawInt] using h
 have M:Shared.TypeIs ⟨h1,g,f,tk,os⟩ (.ref it) "dict_itemiterator":=⟨_,h,rfl⟩;show aa (cL (aa (uZ M (aa (uZ M ?_)))));show (show wpAny _ _ (Builtin.Dict_items.pairFromOwner (.ref it) 6 es[i].key es[i].val) _ _ ⟨h1,g,f,tk,os⟩ from ?_);unfold Builtin.Dict_items.pairFromOwner;show aa (Bj ?_);have N:h1.objs.size=a.objs.size:=j.1;have lt:it<a.objs.size:=aF hit;have ne:a.objs.size≠it:=jr lt;obtain⟨h2,l,O,k2,P⟩:∃h2:Heap,IsItemIter h2 it d (i+1) es.size ep x y/\h2.get? a.objs.size=some {cls:=.type "tuple",data:=.seq #[es[i].key,es[i].val]}/\(∀b o,b≠it->a.get? b=some o->h2.get? b=some o)/\
   h1.push {cls:=.type "tuple",data:=.seq #[es[i].key,es[i].val]}=h2:=
  ⟨_,aE _ h,by rw[<-N];show br _ rfl,λb o c e=>aE _ (j.extBut b o c e),rfl⟩
 show (show wpAny _ _ (Builtin.Dict_items.ownedTupleIsFree (.ref it) >>= _) _ _ ⟨h1.push {cls:=.type "tuple",data:=.seq #[es[i].key,es[i].val]},g,f,tk,os⟩ from ?_);rw[N,P];unfold Builtin.Dict_items.ownedTupleIsFree;show aa (aa (bQ l rfl (x:=.none) rfl (af ?_)));simp only[if_true];show aa (bQ l rfl (x:=x) rfl (aa (bQ l rfl (x:=y) rfl (aa (nh l ∅ λp r u=>?_)))));replace u:Heap.SameBut it h2 p:=u;replace r:IsItemIter p it d (i+1) es.size ep es[i].key y:=r;show aa (nh r ∅ λv z B=>?_);replace B:Heap.SameBut it p v:=B;replace z:IsItemIter v it d (i+1) es.size ep es[i].key es[i].val:=z;show aa (nh z ∅ λC D H=>?_);replace H:Heap.SameBut it v C:=H;replace D:IsItemIterOut C it d (i+1) es.size ep es[i].key es[i].val a.objs.size:=D;show aa (nh D ∅ λn I J=>?_);replace J:Heap.SameBut it C n:=J;replace I:IsItemIterOut n it d (i+1) es.size ep es[i].key es[i].val a.objs.size:=I;have up:∀b o,b≠it->h2.get? b=some o->n.get? b=some o:=λb o c e=>J.extBut b o c (H.extBut b o c (B.extBut b o c (u.extBut b o c e)));show aa (ng (af (af ⟨_,rfl,af (q n I (up _ _ ne O) λb o c e=>up b o c (k2 b o c e))⟩)))
theorem Lj{x y:Value}{Q:Option Value->Shared->Prop}(f:A.handled=none)(hit:IsItemIter s.heap it d i es.size ep x y)(m:DAt s.heap d es ep)(hi:es.size<=i)
  (q:∀h',Heap.ExtBut it s.heap h'->Q none {s with heap:=h'}):wpAny (model prog w) A (pyNext (.ref it)) Q E s:=by
 obtain⟨od,c,_,e⟩:=id m;have ty:s.TypeIs (.ref it) "dict_itemiterator":=⟨_,hit,rfl⟩;unfold pyNext;show aa (jz (iS (name:=Str.ofString "__next__") ty qW (fu qW ty Mz ?tree (Mw _))));show aa (af (aa (aa ?_)))
 first|show aa (u7 ty (af (aa (jA hit rfl ?_))))|show aa (u_ ty (af (aa (jA hit rfl ?_))))
 simp only[show Builtin.Dict_items.ownsTuple "dict_itemiterator" = true by decide,if_true];show (show wpAny _ _ (if (Value.ref d==Value.none)=true then _ else _) _ _ s from ?_);rw[OT (show ¬(Value.ref d==Value.none)=true from bB)];show aa (af (aa (m8 c e ?_)));rw[OT ∅];show aa (af (aa (m9 c e ?_)));rw[OT ∅];show af ?_;simp only[show ¬((i:Int)<0) by lia,if_false,kG,Lr hi];show aa ?_
 first|show aa (u7 ty (af ?_))|show aa (u_ ty (af ?_))
 show (show wpAny _ _ (setField (.ref it) 2 .none >>= _) _ _ s from aa (fC hit rfl ∅ ?_));show (show wpAny _ _ (newExc (.type "StopIteration") [] >>= _) _ _ _ from aa ?_);simp only[newExc,newTuple];show aa (dW (aa (m:=firstArgMember _ _) (qY (a:=Value.none) (by first|rfl|(simp only[firstArgMember];rfl)) (dW ?_ (by size_fits)))) (by size_fits));simp only[raiseNew];show aa (Be ?_);rw[show A.in1.handled=none from f];show aa (af (u5 ?_));show aa (Bf (b:=true) (T:="StopIteration") ⟨_,br _ rfl,rfl⟩ A6 ?_);show af (q _ (((Ak ..).extBut.push _).push _))
end
section
variable {d:Addr}{u:HO}
def dP:HO->Prop
 |.dK _=>True
 |.dT _=>True
 |_=>False
theorem dP.notT{u:HO}(h:dP u):(∀xs,u≠.tup xs)/\(∀o v,u≠.frz o v)/\(∀ps,u≠.tbl ps)/\∀y,u≠.own y:=by cases u<;>first|show False.elim h|show⟨λ_ z=>(nomatch z),λ_ _ z=>(nomatch z),λ_ z=>(nomatch z),λ_ z=>(nomatch z)⟩
theorem Inv.freeze(I:Inv X OY Z H s)(hd:H d=some u)(g:dP u){o:Obj}(h:s.heap.get? d=some o):Inv X OY Z (upd H d (.frz o u)) s:=by
 obtain⟨a,i,j,l⟩:=g.notT;have ne:∀{b v},H b=some v->v≠u->b≠d:=λe z y=>z (by rw[y,hd] at e;show (dz e).symm);show I.step (h':=s.heap) (g':=s.gens) (d':=s.drawn) (t':=s.toks) (ch:=[]) (λ_ z=>nomatch z) (λb o _ _ _ e _=>e) (λb o _ _ _ e _=>⟨o.slots,e⟩) (λb o _ _ n=>?_) (λb o _ e=>⟨o,e⟩) (λb xs e=>?_) (λb o v e=>?_) (λb ps e=>⟨#[],?_⟩) (λ_ m=>m) (λb v e=>?_) I.bare
 .rw[av (λz=>by rw[z,hd] at n;cases n)];show n
 .rw[av (ne e λz=>a xs z.symm)];show e
 .rw[av (ne e λz=>i o v z.symm)];show e
 .rw[av (ne e λz=>j ps z.symm),e];simp
 have st:∀{b v},aV X.prog X.w H s.heap b v->aV X.prog X.w (upd H d (.frz o u)) s.heap b v:=λx=>
  x.stay (λ_ _ _ q=>q) (λc q=>by rw[av (ne q λz=>l _ z.symm)];show q) λc xs q=>by rw[av (ne q λz=>a xs z.symm)];show q
 by_cases f:b=d
 .subst f;rw[aN] at e;cases e;show⟨h,st (I.hok _ _ hd)⟩
 rw[av f] at e;show st (I.hok b v e)
def Fz(H H2:Hp)(d:Addr)(o:Obj)(u:HO):Prop:=(H d=some u\/H d=some (.frz o u))/\dP u/\H2=upd H d (.frz o u)
theorem Fz.at{H2:Hp}{o:Obj}(f:Fz H H2 d o u):H2 d=some (.frz o u):=by rw[f.2.2,aN]
theorem Fz.ne{H2:Hp}{o:Obj}{b:Addr}(f:Fz H H2 d o u)(h:b≠d):H2 b=H b:=by rw[f.2.2,av h]
theorem Inv.fz(I:Inv X OY Z H s)(hd:Rd H d u)(a:dP u):∃o,s.heap.get? d=some o/\Fz H (upd H d (.frz o u)) d o u/\Inv X OY Z (upd H d (.frz o u)) s:=by
 rcases hd with hd|⟨o,hd⟩
 .obtain⟨o,c⟩:=(I.hok d u hd).there;show⟨o,c,⟨.inl hd,a,rfl⟩,I.freeze hd a c⟩
 have e:upd H d (.frz o u)=H:=by
  funext b;unfold upd;split
  .rename_i z;rw[z,hd]
  rfl
 show⟨o,(I.hok d _ hd).1,⟨.inr hd,a,rfl⟩,by rw[e];show I⟩
def DKV(H:Hp)(u:HO)(ks vs:List V):Prop:=
 (∃kvs,u=.dK kvs/\ks=kvs.map (λp=>kV p.1)/\vs=kvs.map (·.2)) \/
 ∃kvs as,u=.dT kvs/\Paired (λ(p:List Key×V) a=>H a=some (.tup (p.1.map kV))) kvs as/\ks=as.map V.ref/\vs=kvs.map (·.2)
theorem l9(I:Inv X OY Z H s)(hd:Rd H d u)(v:dP u) :
  (d==sysModules)=false/\∃ks vs es ep,DKV H u ks vs/\ks.length<=sizeLine/\DAt s.heap d es ep/\Vals ks (es.toList.map (·.key))/\Vals vs (es.toList.map (·.val)):=by
 cases u<;>first|show False.elim v|skip
 case dK kvs=>
  obtain⟨z,lo,us,rel,o,es,ep,h1,h2,e,_,m,_⟩:=eU I.hok hd;show⟨lo,_,_,es,ep,.inl ⟨kvs,rfl,rfl,rfl⟩,by rw[ay];show z,⟨o,h1,h2,e⟩,?_⟩;generalize es.toList=l at m;have go:∀{kvs:List (Key×V)}{us:List (Key×Value)}{l:List DictEntry},KV kvs us->Pairs (cA X.prog X.w) l us->Vals (kvs.map λp=>kV p.1) (l.map (·.key))/\Vals (kvs.map (·.2)) (l.map (·.val)):=by
   intro kvs us l r;induction r generalizing l with
   |nil=>intro p;cases p;show⟨.nil,.nil⟩
   | @cons a b l1 l2 h1 h2 c=>
    intro p;cases p with
    |cons p1 p2 y=>
     obtain⟨i1,i2⟩:=c y;show⟨.cons ?_ i1,.cons ?_ i2⟩
     .dsimp only;rw[h1.1];rcases fD p1 with ⟨i,t,f,g⟩|⟨x,t,f,g⟩
      .rw[f,g];show⟨t,rfl⟩
      rw[f,g];show⟨t,rfl⟩
     dsimp only;rw[p2];show h1.2
  show go rel m
 case dT kvs=>
  obtain⟨z,lo,xs,rel,o,es,ep,h1,h2,e,h,hz⟩:=hJ I.hok hd;clear hz;have go:∀{kvs:List (List Key×V)}{xs:List (List Key×Addr×Value)},KT H kvs xs->Paired (λ(p:List Key×V) a=>H a=some (.tup (p.1.map kV))) kvs (xs.map (·.2.1))/\Vals (kvs.map (·.2)) (xs.map (·.2.2)):=by
   intro kvs xs r;induction r with
   |nil=>show⟨.nil,.nil⟩
   |cons h1 h2 c=>show⟨.cons h1.2.1 c.1,.cons h1.2.2 c.2⟩
  obtain⟨j,n⟩:=go rel;have q:=mP j;show⟨lo,_,_,es,ep,.inr ⟨kvs,_,rfl,j,rfl,rfl⟩,by rw[ay,<-q];show z,⟨o,h1,h2,e⟩,?_,?_⟩
  .rw[h,bC,bC];clear h rel j n q;induction xs with
   |nil=>show .nil
   |cons x r c=>show .cons rfl c
  rw[h,bC];show n
end
end L2
end
section
namespace L2
open PySem PySem.Spec PyProof.Rows PySem.W
def Itk(d:Addr)(o:Obj)(ks:List V):It:=
 ⟨λi H=>i<ks.length/\∃u,H d=some (.frz o u),λi H x H'=>H'=H/\ks[i]?=some x,λi H=>ks.length<=i/\∃u,H d=some (.frz o u)⟩
theorem oV{d:Addr}{o:Obj}{u:HO}{es:Array DictEntry}{ep:Nat}(I:Inv X OY Z H s)(h:H d=some (.frz o u))(x:o.ExactDict)(e:o.data=.dict es ep):DAt s.heap d es ep:=
 ⟨o,(I.hok d _ h).1,x,e⟩
theorem CB{tg:Expr}{d it:Addr}{o:Obj}{es:Array DictEntry}{ep:Nat}{ks:List V}(x:o.ExactDict)(e:o.data=.dict es ep)(r:Vals ks (es.toList.map (·.key))) :
  Turn P w K tg (Itk d o ks) [it] it (λi h=>h.IsKeyIter it d i es.size ep) where
 mem:=∅
 obj:=λi h st b a=>by
  have e:b=it:=‹a›
  subst e;obtain⟨o,e,c,d⟩:=st;show⟨o,e,λv z=>by rw[d] at z;cases z⟩
 keep:=λi h h' st k=>st.at λo e=>k it ∅ o e
 item:=by
  intro X f hw g B i OY s Z H E I hf st j;subst f hw g;obtain⟨hi,u,l⟩:=j;have L:ks.length=es.size:=by have:=r.length;simpa using this
  obtain⟨y,C⟩:∃y,ks[i]?=some y:=⟨ks[i],by simp[hi]⟩;obtain⟨z,hz,M⟩:=r.get C;have D:i<es.size:=();have N:z=es[i].key:=by rw[bf] at hz;simp[D] at hz;show hz.symm
  obtain⟨m,n,O,p,q,A⟩:=hf it ∅;show Af st (oV I l x e) D λh' J sb=>?_;have Q:Inv X OY Z H {s with heap:=h'}:=I.turned (t':=s.toks) (λb o a e=>(sb.2 b a).trans e) m n p q A;obtain⟨o',R,S,d'⟩:=id J;show⟨_,rfl,qh (s:={s with heap:=h'}) R S d' ⋯ ⟨y,H,Q,by rw[<-N];show M,⟨rfl,C⟩,J,λb a=>(hf b a).1⟩⟩
 done:=by
  intro X f hw g B i OY s Z H E I hf st j;subst f hw g;obtain⟨hi,u,l⟩:=j;have L:ks.length=es.size:=by have:=r.length;simpa using this
  obtain⟨m,n,O,p,q,A⟩:=hf it ∅;show dEnd (I.ok.hd B) st (oV I l x e) () λh' T=>⟨rfl,I.turned (t':=s.toks) (λb o a e=>T b o a e) m n p q A⟩
 self:=λ_ _ _ _ _ st h=>NK st h
section
variable {tg:Expr}
def Ld(td:TE):TI:=λZ H R=>td Z H λx H1=>∃(d:Addr)(u:HO),x=.ref d/\Rd H1 d u/\dP u/\∀ks vs o H2,DKV H1 u ks vs->Fz H1 H2 d o u->R (Itk d o ks) H2
theorem zG{h:Heap}{d:Addr}{es:Array DictEntry}{ep:Nat}{o:Obj}(m:DAt h d es ep)(e:h.get? d=some o):o.ExactDict/\o.data=.dict es ep:=by obtain⟨o',a,x⟩:=m;rw[e] at a;cases a;show x
theorem yu{l:Expr}{td:TE}(i:PE X l td):PI X tg l (Ld td):=by
 intro OY s Z H R I h;show thn (i OY s Z H _ I h) λv s1 ⟨x,H1,c,j,m⟩=>?_;obtain⟨d,u,e,hd,f,q⟩:=m;subst e;cases j;obtain⟨lo,ks,vs,es,ep,n,hz,g,rk,y⟩:=l9 c hd f;obtain⟨o,p,fz,a⟩:=c.fz hd f;obtain⟨ex,r⟩:=zG g p;show uk lo g ?_;show⟨↥s1,[↥s1],_,_,_,rfl,a.kept (t':=s1.toks) λb o e=>aE _ e,CB (d:=d) (o:=o) ex r rk,⟨_,br _ rfl,rfl,rfl⟩,λb w=>?_,q ks vs o _ n fz⟩;have e:b=↥s1:=‹w›
 subst e;show a.fpOk (aq _) (a.hok.fresh (aq _))
end
def pQ(v d:Addr):HO:=.ext λh=>h.IsItemsView v d
def Iti(d:Addr)(o:Obj)(ks vs:List V):It:=
 ⟨λi H=>i<ks.length/\∃u,H d=some (.frz o u),
  λi H v H'=>∃p x y,H p=none/\v=.ref p/\H'=upd H p (.tup [x,y])/\ks[i]?=some x/\vs[i]?=some y,λi H=>ks.length<=i/\∃u,H d=some (.frz o u)⟩
theorem B5{elts:List Expr}{x1}{pos:Pos}{d it:Addr}{o:Obj}{es:Array DictEntry}{ep:Nat}{ks vs:List V}(x:o.ExactDict)(e:o.data=.dict es ep)(r:Vals ks (es.toList.map (·.key)))(B:Vals vs (es.toList.map (·.val))) :
  Turn P w K (.Tuple elts x1 pos) (Iti d o ks vs) [it] it (λi h=>∃a b,IsItemIter h it d i es.size ep a b) where
 mem:=∅
 obj:=λi h st b c=>by
  have e:b=it:=‹c›
  subst e;obtain⟨_,_,st⟩:=st;show⟨_,st,λv z=>by
   have f:Data.fields _=Data.cell v:=z;cases f⟩
 keep:=λi h h' st k=>let ⟨a,b,st⟩:=st;⟨a,b,k it ∅ _ st⟩
 item:=by
  intro X g hw j C i OY s Z H E I hf st l;subst g hw j;obtain⟨hi,u,m⟩:=l;obtain⟨_,_,st⟩:=st;have O:ks.length=es.size:=by have:=r.length;simpa using this
  have ag:vs.length=es.size:=by have:=B.length;simpa using this
  obtain⟨y,D⟩:∃y,ks[i]?=some y:=⟨ks[i],by simp[hi]⟩;obtain⟨J,L⟩:∃y,vs[i]?=some y:=⟨vs[i]'(),∅⟩;obtain⟨z,hz,Q⟩:=r.get D;obtain⟨f,n,R⟩:=B.get L;have p:i<es.size:=();have S:z=es[i].key:=by rw[bf] at hz;simp[p] at hz;show hz.symm
  have T:f=es[i].val:=by rw[bf] at n;simp[p] at n;show n.symm
  show JI st (oV I m x e) p λh1 U M k1=>?_;show⟨_,rfl,wpAny_letOwnedTupleGo_items U λh2 Y sb=>?_⟩;replace sb:Heap.SameBut it h1 h2:=sb;have A:it<↥s:=aF st;have ab:s.heap.get? ↥s=none:=jl (aq _);have hn:H ↥s=none:=I.hok.fresh (aq _);have I2:Inv X OY Z (upd H ↥s (.tup [y,J])) {s with heap:=h2}:=by
   show I.turnLaid (t':=s.toks) (ch:=[it]) hf (λb o c q=>?_) ab λH'=>?_
   .have N:b≠it:=λz=>c (by simp[z]);show (sb.2 b N).trans (k1 b o N q)
   show⟨⟨by simp;rw[cK];lia,_,(sb.2 _ (jr A)).trans M,rfl⟩,[es[i].key,es[i].val],.cons (by rw[<-S];show Q) (.cons (by rw[<-T];show R) .nil),⟨_,(sb.2 _ (jr A)).trans M,rfl,_,rfl⟩⟩
  show⟨.ref ↥s,_,I2,rfl,⟨↥s,y,J,hn,rfl,rfl,D,L⟩,⟨_,_,Y⟩,λb c=>?_⟩;have ad:b=it:=‹c›
  rw[ad,av (bo A)];show (hf it ∅).1
 done:=by
  intro X g hw j C i OY s Z H E I hf st l;subst g hw j;obtain⟨hi,u,m⟩:=l;obtain⟨_,_,st⟩:=st;have O:ks.length=es.size:=by have:=r.length;simpa using this
  obtain⟨f0,f1,f2,f3,f4,f5⟩:=hf it ∅;show Lj (I.ok.hd C) st (oV I m x e) () λh' eb=>⟨rfl,I.turned (t':=s.toks) (λb o c e=>eb b o c e) f0 f1 f3 f4 f5⟩
 self:=λ_ _ _ _ _ st h=>by
  obtain⟨_,_,st⟩:=st;show kcp_self st h
section
def IZ:V->List V->Hp->VK->Prop:=λx xs H Q=>∃(d:Addr)(u:HO),x=.ref d/\xs=[]/\Rd H d u/\dP u/\∀v,H v=none->Q (.ref v) (upd H v (pQ v d))
theorem ET:MtM X "dict.items" IZ:=by
 intro OY s Z H x xs v us Q I g rs h;obtain⟨d,u,rfl,rfl,hd,i,q⟩:=h;cases g;cases rs;obtain⟨lo,ks,vs,es,ep,j,hz,f,rk,l⟩:=l9 I hd i;show A0 MD f.ty PySem.F.entry_dict_items (PySem.F.args_dict_items_1 _) (S:=λA R s=>(∃es ep,DAt s.heap d es ep)/\R (.ok (.ret (.ref ↥s))) {s with heap:=s.heap.push {cls:=.type "dict_items",data:=.fields #[.ref d]}}) (.of_wp λprog w A R s h=>?_) ⟨⟨es,ep,f⟩,?_⟩
 .obtain⟨⟨es,ep,f⟩,h⟩:=h;unfold Builtin.«dict.items» Builtin.Dict.noArgs;show aa (aa (NI f.ty ?_));show (show wpAny _ _ (pure d) _ _ s from af ?_);show (show wpAny _ _ (Builtin.Dict.showsAll d >>= _) _ _ s from ?_);unfold Builtin.Dict.showsAll;rw[OT (show ¬(d==sysModules)=true by rw[lo];simp)];show aa (af (aa (dW (af ⟨_,rfl,h⟩))))
 show⟨.ref ↥s,_,I.laid (a:=↥s) (o:=pQ ↥s d) (t':=s.toks) (λb o e=>aE _ e) (aq _) ⟨⟨_,br _ rfl,rfl,rfl⟩,⟨_,br _ rfl⟩,λh1 h2 p k=>?_⟩,rfl,q _ (I.hok.fresh (aq _))⟩;obtain⟨o,e,c⟩:=p;show⟨o,k o e,c⟩
def JA(td:TE):TI:=λZ H R=>td Z H λx H1=>∃(v d:Addr)(u:HO),x=.ref v/\H1 v=some (pQ v d)/\Rd H1 d u/\dP u/\∀ks vs o H2,DKV H1 u ks vs->Fz H1 H2 d o u->R (Iti d o ks vs) H2
theorem Ep{l:Expr}{td:TE}{elts:List Expr}{x1}{pos:Pos}(i:PE X l td):PI X (.Tuple elts x1 pos) l (JA td):=by
 intro OY s Z H R I h;show thn (i OY s Z H _ I h) λv s1 ⟨x,H1,a,j,m⟩=>?_;obtain⟨v,d,u,e,n,hd,f,q⟩:=m;subst e;cases j;have p:s1.heap.IsItemsView v d:=(show aV X.prog X.w H1 s1.heap v (pQ v d) from a.hok v _ n).1;obtain⟨lo,ks,vs,es,ep,r,hz,g,rk,y⟩:=l9 a hd f;obtain⟨o,z,fz,c⟩:=a.fz hd f;obtain⟨ex,A⟩:=zG g z;show JJ p g ?_;show⟨↥s1,[↥s1],_,_,_,rfl,c.kept (t':=s1.toks) λb o e=>aE _ e,B5 (d:=d) (o:=o) ex A rk y,⟨_,_,br _ rfl⟩,λb B=>?_,q ks vs o _ r fz⟩;have e:b=↥s1:=‹B›
 subst e;show c.fpOk (aq _) (c.hok.fresh (aq _))
end
section
def ow(v d:Addr):HO:=.ext λh=>h.IsValuesView v d
def Gb:V->List V->Hp->VK->Prop:=λx xs H Q=>∃(d:Addr)(kvs:List (Key×V)),x=.ref d/\xs=[]/\Rd H d (.dK kvs)/\∀v,H v=none->Q (.ref v) (upd H v (ow v d))
theorem Da:MtM X "dict.values" Gb:=by intro OY s Z H x xs v us Q I f rs h;obtain⟨d,kvs,rfl,rfl,hd,q⟩:=h;cases f;cases rs;obtain⟨z,lo,vs,rel,dd⟩:=eU I.hok hd;show kN MJ dd.typeIs PySem.F.entry_dict_values (PySem.F.args_dict_values_1 _) (meets_dict_values (cA X.prog X.w) d lo) ⟨⟨_,dd⟩,?_⟩;show⟨.ref ↥s,_,I.laid (a:=↥s) (o:=ow ↥s d) (t':=s.toks) (λb o e=>aE _ e) (aq _) ⟨⟨_,br _ rfl,rfl,rfl⟩,⟨_,br _ rfl⟩,λh1 h2 p k=>?_⟩,rfl,q _ (I.hok.fresh (aq _))⟩;obtain⟨o,e,c⟩:=p;show⟨o,k o e,c⟩
def CU:List V->Hp->VK->Prop:=λxs H Q=>∃(v d:Addr)(kvs:List (Key×V)),xs=[.ref v]/\H v=some (ow v d)/\Rd H d (.dK kvs)/\∀l,H l=none->Q (.ref l) (upd H l (.lst (kvs.map (·.2))))
theorem By(n:X.calm=true):cV X (.type "list") CU:=by
 intro OY s Z H xs us Q I r h;obtain⟨v,d,kvs,rfl,x,hd,q⟩:=h;obtain⟨u,rfl,A⟩:=Vals.one r;cases A;have B:s.heap.IsValuesView v d:=(show aV X.prog X.w H s.heap v (ow v d) from I.hok v _ x).1;obtain⟨z,lo,vs,rel,dd⟩:=eU I.hok hd;have C:kvs.length=vs.length:=rel.length;obtain⟨ep,D⟩:=dd.dictAt;show kdl_call (kdl_values (knd:=cA X.prog X.w) (r:=v) (d:=d) (kvs:=vs) (ep:=ep)) (I.ok.hd n) ⟨B,D⟩ () λh' tk acc c kp e it=>?_;have f:↥s<=↥s:=aq _;show⟨.ref ↥s,_,I.laid (t':=tk) (o:=.lst (kvs.map (·.2))) kp f ⟨by rw[ay];show z,acc.toList,c,vD (by rw[ay,C];simp[it.1]) λj y E=>?_,by rw[e]⟩,rfl,q _ (I.hok.fresh f)⟩;obtain⟨k,g⟩:=it.2 j y ‹E›;have i:j<kvs.length:=by have:=(aI.mp g).1;lia
 show⟨kvs[j].2,by simp[i],?_⟩;have at_:∀{l:List (Key×V)}{m:List (Key×Value)}{j:Nat}{p:Key×V}{q:Key×Value},KV l m->l[j]?=some p->m[j]?=some q->az p.2 q.2:=by
  intro l m j p q r;induction r generalizing j with
  |nil=>intro e;simp at e
  |cons h1 h2 J=>
   intro a b;cases j with
   |zero=>simp at a b;subst a b;show h1.2
   |succ j=>show J ‹a› ‹b›
 show at_ rel (by simp[i]:kvs[j]?=some kvs[j]) g
def Gd:V->List V->Hp->VK->Prop:=λx xs H Q=>∃(d:Addr)(kvs:List (Key×V))(k:Key)(z:V),x=.ref d/\xs=[kV k,z]/\H d=some (.dK kvs)/\kvs.length<sizeLine/\
 (∀v,bh kvs k=some v->Q v H)/\(bh kvs k=none->Q z (upd H d (.dK (cn kvs k z))))
theorem BC:MtM X "dict.setdefault" Gd:=by
 intro OY s Z H x xs v us Q I f rs h;obtain⟨d,kvs,k,z,rfl,rfl,hd,hz,g,i⟩:=h;cases f;obtain⟨u,j,rfl,l,b⟩:=rs.two;obtain⟨A,lo,vs,rel,dd⟩:=ml I.hok hd;have B:kvs.length=vs.length:=rel.length;have a:=rel.val k;show kN MI dd.typeIs PySem.F.entry_dict_setdefault (PySem.F.args_dict_setdefault_3 _ _ _) (kt_meets_setdefault (cA X.prog X.w) d (gD l) lo j) ⟨vs,dd,(),λv m=>?_,λn h' c o=>?_⟩
 .rw[m] at a;cases e:bh kvs k with
  |none=>rw[e] at a;show False.elim a
  |some y=>
   rw[e] at a;show⟨y,H,I.tok _,a,g y e⟩
 rw[n] at a;cases e:bh kvs k with
 |some y=>rw[e] at a;show False.elim a
 |none=>
  have p:(cn kvs k z).length<=sizeLine:=by have:=nE kvs k z;lia
  have he:∃q,h'.get? d=some q:=let ⟨q,_,_,r,_⟩:=c;⟨q,r⟩;show⟨z,_,lU I (by rw[hd];show True.intro) o he (l_ p lo (rel.put k b) c),b,i e⟩
end
section
def KJ:List V->Hp->VK->Prop:=λxs H Q=>∃(d:Addr)(kvs:List (Key×V))(ns:List Int),xs=[.ref d]/\Rd H d (.dK kvs)/\kvs.map (λp=>kV p.1)=ns.map V.int/\ns≠[]/\∀m,m∈ns->(∀n∈ns,m<=n)->Q (.int m) H
theorem Js(es:Array DictEntry){i:Nat}(hi:i<es.size):(es.toList.map (·.key)).toArray[i]?=some es[i].key:=by simp[hi]
theorem BF(j:X.calm=true):cV X (.builtin "min") KJ:=by
 intro OY s Z H xs us Q I r h;obtain⟨d,kvs,ns,rfl,hd,l,f,q⟩:=h;obtain⟨u,rfl,m⟩:=Vals.one r;cases m;obtain⟨lo,ks,vs,es,ep,n,hz,a,rk,E⟩:=l9 I hd (u:=.dK kvs) trivial;have p:ks=ns.map V.int:=by
  rcases n with ⟨J,e,w,_⟩|⟨_,_,e,_⟩
  .cases e;rw[w,l]
  cases e
 subst p;have g:ns.length=es.size:=by have:=rk.length;simpa using this
 show call_min_walk (uk lo a ?_);show⟨↥s,_,_,_,_,_,_,rfl,zI (A:=X.A.in1) (es:=es) (ep:=ep) (d:=d) (I.ok.hd j) _ (bo a.lt),⟨⟨_,br _ rfl,rfl,rfl⟩,a.at λo e=>aE _ e⟩,λb c=>?_,?_,Lx (λi=>ns.getD i 0) (λi v e=>?_),λv h' tk x y=>?_⟩
 .change b<(s.heap.push _).objs.size;rw[jm];rcases aG.mp c with rfl|c
  .exact qP _
  rw[aQ.mp c];show mL a.lt
 .rw[<-g];show ib.mpr f
 .obtain⟨hi,rfl⟩:=e;show pU rk i _ (by simp[hi])
 obtain⟨hi,rfl⟩:=x;obtain⟨t,B⟩:=pU rk _ _ (Js es hi);obtain⟨C,D⟩:=xq ns f;have e:es.size-1=ns.length-1:=by rw[g]
 show⟨.int _,H,I.kept (t':=tk) λb o e=>y b o (λz=>by rw[aQ.mp z] at e;show absurd (aF e) (c7 _)) (aE _ e),⟨t,B⟩,?_⟩;rw[e];show q _ C D
end
open PySem.SeqAt in
theorem Bt(l:Addr)(items:Array Value)(n:Nat)(dd:Option Addr)(sl:Array (Option Value))(x:Value)(e:Nat->Bool)(j:Nat)(v:j<items.size)(hit:e j=true)(f:∀m,m<j->e m=false) :
  Meets (Builtin.«tuple.index» ⟨[.ref l,x],[]⟩)
   (λA R s=>s.heap.get? l=some {cls:=.type "tuple",dict:=dd,data:=.seq items n,slots:=sl}/\(∀m (h:m<items.size),EqAt A.in1 s items[m] x (e m))/\R (.ok (.ret (.int j s.toks))) {s with toks:=s.toks+1}):=
 .of_wp λprog w A R s h=>by
  obtain⟨o,g,d,tk,os⟩:=s;obtain⟨p,he,h⟩:=h;unfold Builtin.«tuple.index»;simp only[OS]
  wp_walk using N4 p,NA _ (λrest b s'=>b.1=none/\s'=⟨o,g,d,tk,os⟩/\∃i,i<=j/\rest=List.range' i (items.size-i)) _
  case turn=>
   rintro y rest b s' ⟨B,rfl,i,q,a⟩;have r:items.size-i=(items.size-(i+1))+1:=();rw[r,List.range'_succ] at a;injection a with h1 h2;subst h1;have c:y<items.size:=();have u:items[y]?=some items[y]:=by simp[c]
   rw[u];show aa (he y c prog w _ _ ?_);by_cases z:y=j
   .subst z;rw[hit]
    wp_walk
    show⟨_,rfl,h⟩
   rw[f y ()]
   wp_walk
   show⟨rfl,rfl,y+1,(),h2⟩
  case fin=>
   rintro b s' ⟨_,_,i,q,a⟩;have:=congrArg List.length a;simp at this;lia
  case h=>
   show⟨rfl,rfl,0,bE _,by simp[Std.Legacy.Range.size]⟩
section
def Gi(K:Frag):V->List V->Hp->VK->Prop:=λx vs H Q=>∃(a:Addr)(xs:List V)(ds:List PyData)(y:V)(d:PyData)(j:Nat),x=.ref a/\vs=[y]/\SqT K H a xs/\Dts K H xs ds/\Dt K H y d/\d.depth<=60/\
 j<ds.length/\PyData.eqv (ds.getD j .none) d=true/\(∀m,m<j->PyData.eqv (ds.getD m .none) d=false)/\Q (.int (j:Int)) H
theorem v_(z:X.A.units+64<cLine):MtM X "tuple.index" (Gi []):=by
 intro OY s Z H x vs v us Q I B C h;obtain⟨a,xs,ds,y,d,j,rfl,rfl,D,f,hd,hz,S,E,J,q⟩:=h;cases B;obtain⟨u,rfl,K⟩:=C.one;obtain⟨b,rs,p,hsz⟩:=I.tuple D;obtain⟨as,g⟩:=Dts.reads I ds xs b f rs;obtain⟨bs,L⟩:=Dt.reads I d y u hd K;have T:b.length=ds.length:=Ot _ _ _ g;obtain⟨⟨cls,dd,data,sl⟩,i,l,n,o⟩:=id p;simp only at l o;subst l o;show A0 AS ⟨_,i,rfl⟩ PySem.F.entry_tuple_index (PySem.F.args_tuple_index_2 _ _) (Bt a b.toArray n dd sl u (λm=>PyData.eqv (ds.getD m .none) d) j (by simp;lia) E J) ⟨i,λm hm=>?_,?_⟩
 .have U:m<ds.length:=by rw[bx] at hm;lia
  obtain⟨e,cs,M,N,hle⟩:∃e cs,PySem.Reads s.heap b.toArray[m] e cs/\e.canLay0=true/\e=ds.getD m .none:=by
   have go:∀(ds:List PyData)(b:List Value)(as:List Addr)(m:Nat)(h:m<b.length),ReadsAll s.heap b ds as->PyData.canLayAll0 ds=true->∃cs,PySem.Reads s.heap b[m] (ds.getD m .none) cs/\(ds.getD m .none).canLay0=true:=by
    intro ds;induction ds with
    |nil=>intro b as m h r _;cases r;simp at h
    |cons d ds O=>
     intro b as m h r c;have w:d.canLay0=true/\PyData.canLayAll0 ds=true:=by simpa [PyData.canLayAll0] using c
     cases r with
     |cons P R=>
      cases m with
      |zero=>show⟨_,P,w.1⟩
      |succ m=>show O _ _ m ‹h› R w.2
   obtain⟨cs,h1,h2⟩:=go ds b as m ‹hm› g (Dts.can ds _ f);show⟨_,cs,‹h1›,h2,rfl⟩
  rw[<-hle];show Ow e d X.A.in1 s _ _ _ _ M L N (Dt.can d y hd) ?_;change X.A.units+1+min _ _<cLine;show min61 z hz
 show⟨.int (j:Int),H,I.tok _,⟨_,rfl⟩,q⟩
end
section
variable {prog:Program}{R:Result->Shared->Prop}{I:Addr}{fp wr:List Addr}{n:Nat}{P:Nat->Value->Prop}{St:Nat->Heap->Prop}{OK:Heap->Prop}
def uq(prog:Program)(w:World)(A:Around)(OK:Heap->Prop)(P:Nat->Value->Prop)(c:Nat->Nat->Bool):Prop:=
 ∀i j a b (s:Shared) (Q:Value->Shared->Prop) (E:Value->Shared->Prop),OK s.heap->P i a->P j b->Q (.bool (c i j)) s->wpAny (model prog w) A (richCompare .Lt a b) Q E s
theorem Cm(W:Walks prog w A.in1 I fp wr n P St)(i:Nat->Nat->Bool)(M:uq prog w A.in1 OK P i)(S:Addr)(E:S∉fp)
  (ok:∀h h':Heap,OK h->(∀b o,b∉wr->b≠S->h.get? b=some o->h'.get? b=some o)->OK h') :
  ∀(k j:Nat)(s:Shared)(d:Value)(c:Nat),n-(j+1)=k->j+1<=n->OK s.heap->St (j+1) s.heap->P (argBest i j) d->
  s.heap.get? S=some {cls:=.type "list",dict:=none,data:=.seq #[d,d] c,slots:=#[]}->
  (∀v h' tk,P (argBest i (n-1)) v->(∀b o,b∉wr->b≠S->s.heap.get? b=some o->h'.get? b=some o)->R (.ok (.ret v)) {s with heap:=h',toks:=tk})->
  codeAny (model prog w) A (.builtin "min.loop" ⟨[.ref I,.none,.ref S],[]⟩) R s:=by
 have nw:S∉wr:=λh=>E (W.sub _ h);have nm:(toString "min"++toString ".loop" : String) = "min.loop":=⋯;intro k;induction k with
 |zero=>
  intro j s d c N O H r m l p;have z:j+1=n:=();show kO AQ ?_;rw[my kM _];show (show wpAny _ A.in1 (seqItems? (.ref S) >>= _) _ _ s from aa (kT l rfl ?_));show (show wpAny _ A.in1 (tryCatch (pyNext (.ref I)) _ >>= _) _ _ s from aa (u6 (W.done s _ _ (z ▸ r) λh' tk f=>?_)));show (show wpAny _ A.in1 (updateSeq S (λ_=>#[]) >>= _) _ _ _ from aa (kW (f S _ nw l) rfl (aa (ng (af ?_)))));show p d _ tk (by rw[<-z];show m) λb o g a e=>(di _ _ (ax a)).trans (f b o g e)
 |succ k J=>
  intro j s d c N O H r m l p;have lt:j+1<n:=();show kO AQ ?_;rw[my kM _];show (show wpAny _ A.in1 (seqItems? (.ref S) >>= _) _ _ s from aa (kT l rfl ?_));show (show wpAny _ A.in1 (tryCatch (pyNext (.ref I)) _ >>= _) _ _ s from aa (u6 (W.item (j+1) s _ _ lt r λv h' tk K L f=>?_)));have u:=f S _ nw l;have h1:OK h':=ok _ _ H λb o q _ e=>f b o q e;show (show wpAny _ A.in1 (tryCatch (holding [v,v] (richCompare .Lt v d >>= _)) _ >>= _) _ _ _ from aa (u6 (cL (aa (M (j+1) (argBest i j) v d _ _ _ h1 K m ?_)))));show aa (cL (iT (aa (ng (af ?_)))));cases q:i (j+1) (argBest i j) with
  |true=>
   simp only[if_true];show aa (kW u rfl (aa (ng ?_)));rw[nm];have up:∀b o,b≠S->h'.get? b=some o->(h'.update S (Obj.mapSeq λ_=>#[v,v])).get? b=some o:=λb o a e=>(di _ _ (ax a)).trans e;show af ⟨m4 kM _,J (j+1) _ v _ () lt (ok _ _ h1 λb o _ a e=>up b o a e) (W.frame _ _ _ L λb Q o e=>up b o (λh=>E (by rw[<-h];show Q)) e) (by simp only[argBest,q,if_true];show K) (d_ _ u rfl)
    λx y B C D=>p x y B C λb o g a e=>D b o g a (up b o a (f b o g e))⟩
  |false=>
   simp only[iM,if_false];show aa (ng ?_);rw[nm];show af ⟨m4 kM _,J (j+1) _ d c () lt h1 L (by simp only[argBest,q,iM,if_false];show m) u λx y B C D=>p x y B C λb o g a e=>D b o g a (f b o g e)⟩
theorem BX(W:Walks prog w A.in1 I fp wr n P St)(d:Nat->Nat->Bool)(p:uq prog w A.in1 OK P d)(S:Addr)(f:S∉fp)(ok:∀h h':Heap,OK h->(∀b o,b∉wr->b≠S->h.get? b=some o->h'.get? b=some o)->OK h')(i:0<n){c:Nat}(q:OK s.heap)(r:St 0 s.heap)
  (j:s.heap.get? S=some {cls:=.type "list",dict:=none,data:=.seq #[] c,slots:=#[]})
  (u:∀v h' tk,P (argBest d (n-1)) v->(∀b o,b∉wr->b≠S->s.heap.get? b=some o->h'.get? b=some o)->R (.ok (.ret v)) {s with heap:=h',toks:=tk}) :
  codeAny (model prog w) A (.builtin "min.loop" ⟨[.ref I,.none,.ref S],[]⟩) R s:=by
 have nw:S∉wr:=λh=>f (W.sub _ h);have nm:(toString "min"++toString ".loop" : String) = "min.loop":=⋯;show kO AQ ?_;rw[my kM _];show (show wpAny _ A.in1 (seqItems? (.ref S) >>= _) _ _ s from aa (kT j rfl ?_));show (show wpAny _ A.in1 (tryCatch (pyNext (.ref I)) _ >>= _) _ _ s from aa (u6 (W.item 0 s _ _ i r λv h' tk x y g=>?_)));have l:=g S _ nw j;have h1:OK h':=ok _ _ q λb o z _ e=>g b o z e;show (show wpAny _ A.in1 (updateSeq S (λ_=>#[v,v]) >>= _) _ _ _ from aa (kW l rfl ?_));rw[nm];have up:∀b o,b≠S->h'.get? b=some o->(h'.update S (Obj.mapSeq λ_=>#[v,v])).get? b=some o:=λb o a e=>(di _ _ (ax a)).trans e;show af ⟨m4 kM _,Cm W d p S f ok _ 0 _ v _ rfl i (ok _ _ h1 λb o _ a e=>up b o a e) (W.frame _ _ _ y λb B o e=>up b o (λh=>f (by rw[<-h];show B)) e) x (d_ _ l rfl)
  λC D E H J=>u C D E H λb o m a e=>J b o m a (up b o a (g b o m e))⟩
end
section
variable {prog:Program}
theorem Cv{x:Value}{Q:Value->Shared->Prop}{OK:Heap->Prop}
  (h:wpAny (model prog w) A.in1 (pyIter x) (λit s₂=>∃I fp wr n P St a,it=.ref I/\Walks prog w A.in1 I fp wr n P St/\St 0 s₂.heap/\OK s₂.heap/\(∀S,↥s₂<=S->∀h h':Heap,OK h->(∀b o,b∉wr->b≠S->h.get? b=some o->h'.get? b=some o)->OK h')/\(∀b∈fp,b<↥s₂)/\0<n/\uq prog w A.in1 OK P a/\
   ∀v h' tk,P (argBest a (n-1)) v->(∀b o,b∉wr->s₂.heap.get? b=some o->h'.get? b=some o)->Q v {s₂ with heap:=h',toks:=tk}) E s) :
  wpAny (model prog w) A (call (.builtin "min") [x]) Q E s:=by
 have nm:(toString "min"++toString ".loop" : String) = "min.loop":=⋯;show call_function_tree PySem.F.kind_min PySem.F.plain_min PySem.F.entry_min (PySem.F.args_min1 _) ?_;show (show wpAny _ A.in1 (Builtin.Builtins.bindParams "min" ["key","default"] 0 ⟨[],[]⟩ >>= _) _ _ s from aa (qY (show Builtin.Builtins.bindParams "min" ["key","default"] 0 ⟨[],[]⟩=pure [none,none] from rfl) (aa (af ?_))));show aa (bF h (λit s2 h2=>?_) λ_ _ e=>e);obtain⟨I,fp,wr,n,P,St,a,rfl,W,c,d,ok,f,g,i,j⟩:=h2;have l:↥s2∉fp:=λhm=>c7 _ (f _ hm);show aa (dW ?_);rw[nm];have pu:∀b o,s2.heap.get? b=some o->(s2.heap.push {cls:=.type "list",data:=.seq #[]}).get? b=some o:=λb o e=>aE _ e;show af ⟨m4 kM _,BX W a i ↥s2 l (ok _ (aq _)) g (ok _ (aq _) _ _ d λb o _ _ e=>pu b o e) (W.frame _ _ _ c λb _ o e=>pu b o e) (br _ rfl) λv h' tk m p=>?_⟩;show j v h' tk m λb o q e=>p b o q (bo (aF e)) (pu b o e)
end
end L2
end
section
namespace L2
open PySem PySem.Spec PyProof.Rows PySem.W
theorem wd:∀a:List Int,HT.lexLt a a=false
 | []=>rfl
 |x::r=>by
  unfold HT.lexLt;simp[wd r]
theorem xh:∀a b c:List Int,HT.lexLt a b=true->HT.lexLt b c=true->HT.lexLt a c=true
 | [],[],_,h,_=>nomatch h
 | [],_::_,[],_,h=>nomatch h
 | [],_::_,_::_,_,_=>rfl
 |_::_,[],_,h,_=>nomatch h
 |_::_,_::_,[],_,h=>nomatch h
 |x::r,y::t,z::u,h1,h2=>by
  unfold HT.lexLt at h1 h2 |-;have d:=xh r t u;by_cases e:x=y<;>by_cases f:y=z<;>by_cases g:x=z<;>simp_all<;>lia
theorem yT(a:Nat->Nat->Bool)(c:∀i,a i i=false)(tr:∀i j k,a i j=true->a j k=true->a i k=true):∀m,argBest a m<=m/\∀j,j<=m->a j (argBest a m)=false
 |0=>⟨aq _,λj d=>by
  have:j=0:=();subst this;show c 0⟩
 |m+1=>by
  obtain⟨h1,h2⟩:=yT a c tr m;cases b:a (m+1) (argBest a m) with
  |true=>
   have e:argBest a (m+1)=m+1:=by simp only[argBest,b,if_true]
   rw[e];show⟨aq _,λj d=>?_⟩;by_cases z:j=m+1
   .rw[z];show c _
   cases q:a j (m+1) with
   |false=>rfl
   |true=>
    have:=tr _ _ _ q b;rw[h2 j ()] at this;cases this
  |false=>
   have e:argBest a (m+1)=argBest a m:=by simp only[argBest,b,iM,if_false]
   rw[e];show⟨(),λj d=>?_⟩;by_cases z:j=m+1
   .rw[z];show b
   show h2 j ()
section
def IW(K:Frag):List V->Hp->VK->Prop:=λxs H Q=>∃(a:Addr)(ys:List V)(b:List (List Int)),xs=[.ref a]/\SqL K H a ys/\Tups K H ys b/\ys≠[]/\
 ∀i y,ys[i]?=some y->(∀j,j<ys.length->HT.lexLt (b.getD j []) (b.getD i [])=false)->Q y H
theorem BE(L:X.calm=true)(hu:X.A.units+64<cLine):cV X (.builtin "min") (IW []):=by
 intro OY s Z H xs us Q I r h;obtain⟨a,ys,d,rfl,M,N,O,q⟩:=h;obtain⟨u,rfl,P⟩:=Vals.one r;cases P;obtain⟨m,n,p,hz⟩:=I.list M;have R:=n.length;have w:=p.isList;have J:a<↥s:=by obtain⟨_,e,_⟩:=w;show aF e
 have get:∀(i:Nat)(v:Value),m[i]?=some v->∃(b:Addr)(c:List Value),v=.ref b/\b<↥s/\IsTup s.heap b c.toArray/\IntsAre c (d.getD i []):=by
  intro i v e;obtain⟨y,x,B⟩:=oz n e;have go:∀{ys:List V}{d:List (List Int)}{i:Nat}{y:V},Tups [] H ys d->ys[i]?=some y->∃b,y=V.ref b/\SqT [] H b ((d.getD i []).map V.int):=by
   intro ys d i y t;induction t generalizing i with
   |nil=>intro e;simp at e
   |cons h1 h2 T=>
    intro e;cases i with
    |zero=>simp at e;subst e;obtain⟨b,l,f,_⟩:=h1;show⟨b,l,f⟩
    |succ i=>show T ‹e›
  obtain⟨b,rfl,g⟩:=go N x;cases B;obtain⟨c,U,p1,_⟩:=I.tuple g;show⟨b,c,rfl,p1.lt,p1,nK U⟩
 show Cv (OK:=λh=>∀(i:Nat)(v:Value),m.toArray[i]?=some v->∃(b:Addr)(c:List Value),v=.ref b/\b<↥s/\IsTup h b c.toArray/\IntsAre c (d.getD i [])) (Bl w ?_);show⟨↥s,_,_,_,_,_,(λi j=>HT.lexLt (d.getD i []) (d.getD j [])),rfl,M7 (A:=X.A.in1) (I.ok.hd L) _ a (bo J) m.toArray,⟨⟨_,br _ rfl,rfl,rfl⟩,w.push _⟩,λi v e=>?_,λS Y h h' ok k i v e=>?_,λb g=>?_,?_,λi j vi vj s' Q' E' ok hi K hQ=>?_,λv h' tk hP hk=>?_⟩
 .obtain⟨b,c,l,f,⟨o,C,D⟩,E⟩:=get i v ‹e›;show⟨b,c,l,f,⟨o,aE _ C,D⟩,E⟩
 .obtain⟨b,c,l,f,⟨o,C,D⟩,E⟩:=ok i v e;have ab:↥s+1<=S:=by rw[<-jm];show Y
  show⟨b,c,l,f,⟨o,k b o (λz=>by rw[aQ.mp z] at f;show c7 _ f) (λz=>by rw[z] at f;show absurd (qQ f ab) (c7 _)) C,D⟩,E⟩
 .change b<(s.heap.push _).objs.size;rw[jm];rcases aG.mp g with rfl|g
  .exact qP _
  rw[aQ.mp g];show mL J
 .rw[bx,<-R];show ib.mpr O
 .obtain⟨b,c,rfl,_,p1,i1⟩:=ok i vi hi;obtain⟨b',ad,rfl,_,p2,i2⟩:=ok j vj K;show HT.lt_tupInts (A:=X.A.in1) p1 p2 ‹i1› ‹i2› (by change X.A.units+1<cLine;lia) hQ
 obtain⟨y,x,B⟩:=oz n ‹hP›;have g:=yT (λi j=>HT.lexLt (d.getD i []) (d.getD j [])) (λi=>wd _) (λi j k=>xh _ _ _) (m.toArray.size-1);show⟨y,H,I.kept (t':=tk) λb o e=>hk b o (λz=>by rw[aQ.mp z] at e;show absurd (aF e) (c7 _)) (aE _ e),B,q _ y x λj K=>g.2 j ?_⟩;rw[bx];lia
end
end L2
end
section
namespace L2
open PySem PySem.Spec PyProof.Rows
def dQ(p:Value->Prop)(h:Heap)(e:Addr)(cls:Value)(d:Option Addr):Prop:=
 ∃(a:Obj)(vs:Array Value),h.get? e=some a/\a.cls=cls/\a.dict=d/\a.data=.fields vs/\(∃c,vs[2]?=some c/\p c)/\
  (vs[1]?=some .none\/∃(T:Addr)(oT:Obj)(ts:Array Value),vs[1]?=some (.ref T)/\T≠e/\h.get? T=some oT/\oT.data=.fields ts/\ts[3]?=some .none)
abbrev Exc:=dQ (· = .none)
theorem dQ.mono{p q:Value->Prop}(k:∀c,p c->q c){h:Heap}{e:Addr}{cls:Value}{d:Option Addr}(x:dQ p h e cls d):dQ q h e cls d:=by obtain⟨a,vs,he,b,f,hd,⟨c,h2,g⟩,tb⟩:=x;show⟨a,vs,he,b,f,hd,⟨c,h2,k c g⟩,tb⟩
theorem oq{h:Heap}{a:Addr}{o:Obj}{f:Obj->Obj}(e:h.get? a=some o)(hf:f o=o)(b:Addr):(h.update a f).get? b=h.get? b:=by
 by_cases c:b=a
 .subst c;have d:(f o).isFreed=false:=by rw[hf];show (Heap.get?_some_iff.mp e).2
  rw[d_ f e d,hf,e]
 show di h f (ax c)
theorem nF{o:Obj}{ts:Array Value}{i:Nat}{v:Value}(hd:o.data=.fields ts)(hi:ts[i]?=some v):Obj.mapFields (·.setIfInBounds i v) o=o:=by
 obtain⟨c,dt,d,sl⟩:=o;have hd:d=.fields ts:=hd;subst hd;have e:ts.setIfInBounds i v=ts:=by
  show Array.ext ∅ λj h1 h2=>?_;by_cases a:i=j
  .subst a;obtain⟨b,z⟩:=gg.mp hi;rw[Ls]
   .simp[z]
   show b
  rw[Ls]
  .simp[a]
  show h2
 change ({cls:=c,dict:=dt,data:=.fields (ts.setIfInBounds i v),slots:=sl}:Obj)=_;rw[e]
section
variable {M:Model}{env:Env}{outer:List Env}{L e:Addr}{cls:Value}{d:Option Addr}{p:Value->Prop}
structure ki(fs:List Addr)(e:Addr)(h h':Heap):Prop where
 keep:∀b o,b≠e->b∉fs->h.get? b=some o->h'.get? b=some o
 slot:∀b o,b≠e->h.get? b=some o->∃sl,h'.get? b=some {o with slots:=sl}
theorem xl{oe:Obj}{vs:Array Value}{head:Value}{had:Bool}{Q:Unit->Shared->Prop}(hfr:A.frames=some (env::outer))(hl:s.heap.FunFrames base (env::outer))(hf:env.frame=some L)
  (he:s.heap.get? e=some oe) (hc:oe.cls=cls) (hdd:oe.dict=d) (hd:oe.data=.fields vs) (hc2:∃c,vs[2]?=some c/\p c) (hsz:1<vs.size)
  (h:∀h',dQ p h' e cls d->ki (frs (env::outer)) e s.heap h'->Q .unit {s with heap:=h'}) :
  wpAny M A (do let a <-frameOf env;let pl <-entryPlaceOf L had;let b <-EntryCells.newEntry head a .none (rawInt L) .none pl;setField (.ref e) 1 b) (λ_ s'=>wpAny M A (setFlight (.ref e) none) Q E s') E s:=by
 have hene:e∉frs (env::outer):=λhm=>by
  obtain⟨_,o,ho,hnf⟩:=hl.mem hm;rw[he] at ho;cases ho;show hnf vs hd
 show aa (NB hfr hl hf λh1 hs1=>aa (Nx λpl hpl=>?_));unfold EntryCells.newEntry newFields;show aa (dW ?_ (hpl.sizeOk5 _ _ _ _ _));generalize hO:({cls:=.type "traceback",dict:=none,data:=.fields ([head,.ref L,.none,rawInt L,.none]++(if pl.isEmpty then List.replicate 6 Value.none else pl)).toArray}:Obj)=oT;have hOd:oT.data=.fields ([head,.ref L,.none,rawInt L,.none]++(if pl.isEmpty then List.replicate 6 Value.none else pl)).toArray:=by rw[<-hO]
 have e1:h1.get? e=some oe:=(hs1.2.1 e hene).trans he;have e2:(h1.push oT).get? e=some oe:=aE _ e1;have hTe:h1.objs.size≠e:=jr (aF e1);have eT:(h1.push oT).get? h1.objs.size=some oT:=br _ (ju hOd);show fC e2 hd hsz ?_;have hd3:=jt hd (·.setIfInBounds 1 (Value.ref h1.objs.size));have e3:=d_ (Obj.mapFields (·.setIfInBounds 1 (Value.ref h1.objs.size))) e2 (ju hd3);have T3:=(di (h1.push oT) (Obj.mapFields (·.setIfInBounds 1 (Value.ref h1.objs.size))) (ax hTe)).trans eT;unfold setFlight;show aa (bQ e3 hd3 (x:=.ref h1.objs.size) (by simp[hsz]) ?_);rw[OU (show (Value.ref h1.objs.size != Value.none)=true by simp)];have h3z:3<([head,.ref L,.none,rawInt L,.none]++(if pl.isEmpty then List.replicate 6 Value.none else pl)).toArray.size:=by simp only[bx,aU,cE,kI];lia
 show fC T3 hOd h3z (h _ ?_ ?_)
 .refine⟨_,_,(di _ _ hTe).trans e3,(uQ _ _).trans hc,?_,hd3,by rw[qy ⋯];show hc2,.inr ⟨h1.objs.size,_,_,by simp[hsz],hTe,d_ _ T3 (ju (jt hOd _)),jt hOd _,∅⟩⟩;obtain⟨c0,d0,dt0,sl0⟩:=oe;cases dt0<;>show hdd
 have keep:∀b o,b≠e->h1.get? b=some o->(((h1.push oT).update e (Obj.mapFields (·.setIfInBounds 1 (Value.ref h1.objs.size)))).update h1.objs.size (Obj.mapFields (·.setIfInBounds 3 ((none:Option Addr).elim Value.none λf=>rawInt f)))).get? b=some o:=λb o hb q=>by
  rw[di _ _ (jr (aF q)),di _ _ (ax hb)];show aE _ q
 show⟨λb o hb hn q=>keep b o hb ((hs1.2.1 b hn).trans q),λb o hb q=>by
  obtain⟨sl,z⟩:=hs1.2.2 b o q;show⟨sl,keep b _ hb z⟩⟩
theorem sX{Q:Unit->Shared->Prop}(i:A.frames=some (env::outer))(j:s.heap.FunFrames base (env::outer))(hf:env.frame=some L)(x:dQ p s.heap e cls d)
  (h:∀h',dQ p h' e cls d->ki (frs (env::outer)) e s.heap h'->Q .unit {s with heap:=h'}):wpAny M A (noteFrame (.ref e) env) (λ_ s'=>wpAny M A (setFlight (.ref e) none) Q E s') E s:=by
 obtain⟨v,vs,he,l,m,hd,n,tb⟩:=x;unfold noteFrame;simp only[hf];rcases tb with h1|⟨T,oT,ts,h1,w,c,f,g⟩
 .refine aa (bQ he hd h1 ?_);rw[OT ⋯];show xl i j hf he l m hd n (gg.mp h1).1 h
 show aa (bQ he hd h1 ?_);rw[OU (show (Value.ref T != Value.none)=true by simp)];show aa (bQ c f g ?_);rw[OT (show ¬((Value.none==rawInt L)=true) by simp[rawInt])];show aa (fC c f (gg.mp g).1 ?_);have same:=oq c (nF f g);have r:(s.heap.update T (Obj.mapFields (·.setIfInBounds 3 Value.none))).FunFrames base (env::outer):=j.of_keeps λb o a _=>⟨o,(same b).trans a,rfl⟩;show xl (s:={s with heap:=s.heap.update T (Obj.mapFields (·.setIfInBounds 3 Value.none))}) i r hf ((same e).trans he) l m hd n (gg.mp h1).1 λh' x1 x2=>h h' x1 ⟨λb o a u q=>x2.keep b o a u ((same b).trans q),λb o a q=>x2.slot b o a ((same b).trans q)⟩
theorem EY{Q:Unit->Shared->Prop}(a:A.frames=some (env::outer))(b:s.heap.FunFrames base (env::outer))(hf:env.frame=some L)(x:dQ p s.heap e cls d)
  (h:∀h',dQ p h' e cls d->ki (frs (env::outer)) e s.heap h'->Q .unit {s with heap:=h'}):wpAny M A (leaving env (.ref e)) Q E s:=by
 unfold leaving;show aa (sX a b hf x h)
theorem wq{Q:Unit->Shared->Prop}(x:dQ p s.heap e cls d)(h:∀h',dQ p h' e cls d->(∀b,h'.get? b=s.heap.get? b)->Q .unit {s with heap:=h'}):wpAny M A (setFlight (.ref e) none) Q E s:=by
 obtain⟨g,vs,he,i,j,hd,l,tb⟩:=id x;unfold setFlight;rcases tb with h1|⟨T,oT,ts,h1,m,a,c,f⟩
 .refine aa (bQ he hd h1 ?_);rw[OT ⋯];show af (h s.heap x λ_=>rfl)
 show aa (bQ he hd h1 ?_);rw[OU (show (Value.ref T != Value.none)=true by simp)];show fC a c (gg.mp f).1 ?_;have same:=oq a (nF c f);show h _ ⟨g,vs,(same e).trans he,i,j,hd,l,.inr ⟨T,oT,ts,h1,m,(same T).trans a,c,f⟩⟩ same
end
theorem aV.isThere{h:Heap}{a:Addr}{o:HO}(x:aV P w H h a o):∃ob,h.get? a=some ob:=by
 cases o with
 |lst xs=>obtain⟨_,_,_,_,e⟩:=x;show⟨_,e⟩
 |tup xs=>obtain⟨_,_,_,ob,e,_⟩:=x;show⟨_,e⟩
 |dK kvs=>obtain⟨_,_,_,_,o,_,_,e,_⟩:=x;show⟨_,e⟩
 |dT kvs=>obtain⟨_,_,_,_,o,_,_,e,_⟩:=x;show⟨_,e⟩
 |set S n=>obtain⟨o,_,_,_,e,_⟩:=x;show⟨_,e⟩
 |ins C dx fs=>obtain⟨_,_,_,e,_⟩:=x;show⟨_,e⟩
 |own y=>show x
 |xd fs=>obtain⟨_,⟨_,_,_,e,_⟩,_⟩:=x;show⟨_,e⟩
 |rng lo hi=>obtain⟨_,_,_,e⟩:=x;show⟨_,e⟩
 |frz ob u=>obtain⟨e,_⟩:=x;show⟨_,e⟩
 |tbl ps=>show⟨_,(show h.get? a=some _ from x)⟩
 |met f y=>show⟨_,(show h.get? a=some _ from x)⟩
 |ext φ=>obtain⟨_,e,_⟩:=x;show e
theorem HOk.none_of'{h:Heap}{a:Addr}(x:HOk P w H h)(e:h.get? a=none):H a=none:=by
 cases q:H a with
 |none=>rfl
 |some u=>
  obtain⟨o,z⟩:=(x a u q).isThere;rw[e] at z;cases z
def CXg(p:Value->Prop)(P:Program)(w:World):CXT:=λouter H s E e s'=>∃(x:Addr)(cls:Value)(d:Option Addr)(H':Hp),e=.ref x/\dQ p s'.heap x cls d/\s.heap.get? x=none/\H' x=none/\
 s'.os=s.os/\AllBare s'.gens/\Un (frs outer) [] H H' s.heap s'.heap/\HOk P w H' s'.heap/\E cls d H'
abbrev CX1:=CXg (· = .none)
abbrev CX2:=CXg λ_=>True
theorem ai.weak{k:Nat}{f:Addr}{ps:List Str}{sp:Sp}(F:ai P w K mg base (CX1 P w) k f fd ps sp):ai P w K mg base (CX2 P w) k f fd ps sp:=
 ⟨F.len,λA outer s H args us vs Q E a b c g i=>mY (F.run A outer s H args us vs Q E a b c g i) λr s' h=>by
  cases r with
  |ok j=>cases j<;>show h
  |error e=>
   obtain⟨x,cls,d,H',l,m,r⟩:=h;show⟨x,cls,d,H',l,m.mono λ_ _=>trivial,r⟩⟩
section
theorem Inv.oldNone{x:Addr}(I:Inv X OY Z H s)(h:s.heap.get? x=none)(hx:x∉X.ex):X.s₀.heap.get? x=none:=by
 cases e:X.s₀.heap.get? x with
 |none=>rfl
 |some o=>
  obtain⟨o',z⟩:=I.base.there x o e hx;rw[h] at z;cases z
theorem yz{N:List Str}{qual:Str}{f:Addr}{cd:Value}{outer:List Env}{s0:Shared}{i:Hp}{E:XK}{x:Addr}{cls:Value}{d:Option Addr}{p:Value->Prop}
  (I:Inv (dO (CXg p P w) P w K mg base N qual scope f cd A outer s0 i E) OY Z H s) (hx:dQ p s.heap x cls d) (j:s0.heap.get? x=none) (l:H x=none) (q:E cls d H) :
  (dO (CXg p P w) P w K mg base N qual scope f cd A outer s0 i E).xe (.ref x) s:=by
 change wpAny _ _ (leaving _ (.ref x)) _ _ s;have B:=I.stkFree;show EY (outer:=outer) I.ok.frames I.stack rfl hx λh' x1 x2=>?_;have nx:∀b o,s0.heap.get? b=some o->b≠x:=λb o e z=>by rw[z,j] at e;cases e
 have C:∀b o,s0.heap.get? b=some o->b∉frs outer->b∉frs (envOfC qual scope ↥s0 f cd::outer):=λb o e g hm=>by
  rcases aG.mp (I.stkSub b hm) with z|z
  .exact absurd (aF e) (by rw[z];show Nat.not_lt.mpr I.ok.above)
  show g z
 show⟨x,cls,d,H,rfl,x1,j,l,I.os,I.bare,⟨λb o e n g a=>?_,λb o e n g a=>?_,λb o e n a=>I.base.free b o e n a,λb o e a=>?_,I.base.tups,I.base.frzs,I.base.tbls⟩,λb u e=>?_,q⟩
 .exact x2.keep b o (nx b o e) (C b o e g) (I.base.keep b o e n g a)
 .obtain⟨sl,z⟩:=I.base.slot b o e n g a;obtain⟨D,h⟩:=x2.slot b _ (nx b o e) z;show⟨D,h⟩
 .obtain⟨o',z⟩:=I.base.there b o e a;obtain⟨sl,h⟩:=x2.slot b _ (nx b o e) z;show⟨_,h⟩
 have m:∀c v,H c=some v->c∉frs (envOfC qual scope ↥s0 f cd::outer):=λc v z hm=>by
  have:=B c hm;rw[z] at this;cases this
 have ne:∀c v,H c=some v->c≠x:=λc v z y=>by rw[y,l] at z;cases z
 show (I.hok b u e).stay (λc v J r=>?_) (λ_ r=>r) λ_ _ r=>r;rcases J with z|z
 .rw[z] at r |-;show x2.keep b v (ne b u e) (m b u e) r
 show x2.keep c v (ne c _ z) (m c _ z) r
theorem pass1{N:List Str}{qual:Str}{f:Addr}{cd:Value}{outer:List Env}{s0:Shared}{a:Hp}{E:XK}{p:Value->Prop} :
  Passes (CXg p P w) (dO (CXg p P w) P w K mg base N qual scope f cd A outer s0 a E) E:=by
 rintro OY Z H s e s' I ⟨x,cls,d,H',rfl,hx,c,g,os,bare,un,hok,q⟩;show yz (I.call' (ch:=[]) os un hok bare (λb z=>absurd z ∅)) hx ?_ g q;show I.oldNone c (λz=>by cases z)
end
abbrev bmV:List Value:=[.type "ValueError",.type "Exception",.type "BaseException",.type "object"]
theorem HB{C:Addr}{newId:String}{h:Heap}{bmB:List Value}(X:K.In h)(q:W.excIn K C bmB newId=true) :
  ∃bm N nm q bs hdct sn sub ab col dd k0 k1 k2 k3 k5 mN,h.get? C=some (excClassObj nm q C N bs bm hdct sn sub ab col dd k0 k1 k2 k3 k5 newId)/\h.Ns N mN/\mN "__init__" = none/\OwnTail h bmB bm:=by
 unfold W.excIn at q
 split at q
 .rename_i dd cd sl d
  split at q
  .rename_i i bm k0 k1 k2 k3 n k5 hm a;simp only[gH,beq_iff_eq,Lv] at q;obtain⟨⟨⟨⟨⟨rfl,rfl⟩,b⟩,e⟩,hok⟩,c⟩:=q;obtain⟨nm,bs,mro,ns,f,hd,sn,sub,ab,col,del⟩:=cd;dsimp only at hm b hok c;subst hm b;have g:sl=#[k0,k1,k2,k3,some (.builtin n),k5]:=by
    cases sl;simp only at a;rw[a]
   subst g;show⟨bm,ns,nm,f,bs,hd,sn,sub,ab,col,dd,k0,k1,k2,k3,k5,_,X _ _ d,.of_isNs (W.isNs_of_in X hok),W.nsMap_none_of_in X hok c,W.tail_of_in X e⟩
  cases q
 cases q
def Ai(p:Value->Prop)(X:Cx)(E:XK):Prop:=∀(OY:List (Addr×Obj))(Z:St)(H:Hp)(s:Shared)(x:Addr)(cls:Value)(d:Option Addr),Inv X OY Z H s->dQ p s.heap x cls d->X.s₀.heap.get? x=none->(∀p∈X.pn++OY,p.1≠x)->H x=none->E cls d H->X.xe (.ref x) s
abbrev Lets:=Ai (· = .none)
theorem lets1{N:List Str}{qual:Str}{f:Addr}{cd:Value}{outer:List Env}{s0:Shared}{a:Hp}{E:XK}{p:Value->Prop} :
  Ai p (dO (CXg p P w) P w K mg base N qual scope f cd A outer s0 a E) E:=λ_ _ _ _ _ _ _ I hx b _ c q=>yz I hx b c q
section
variable {E:XK}{x:Str}{C:Addr}{np cpos pos:Pos}{e:Expr}{es:List Expr}{t:TA}
def H_(E:XK)(C:Addr)(t:TA):TS:=λ_ Z H=>t Z H λvs H1=>vs.length<=sizeLine/\E (.ref C) none H1
theorem El(d:Lets X E)(f:X.calm=true)(g:X.ex=[])(i:Gl X x)(hm:X.mg x=some (.ref C))(j:W.excIn X.K C bmV "ValueError.__new__" = true)(ha:PA X (e::es) t)
  (he:starEach (e::es) X.env=(false,eval e X.env)::starEach es X.env:=by rfl) (l:(backTo cpos (starEach es X.env)).any (·.1)=false:=by rfl) (hd:(x==("__debug__" : Str))=false:=by decide) :
  PS X (.Raise (some (.Call (.Name x np) (e::es) [] cpos)) none pos) (H_ E C t):=by
 intro OY s Z H D I h;obtain⟨tl,N,nm,q,bs,hdct,sn,sub,ab,col,dd,k0,k1,k2,k3,k5,mN,m,n,o,T⟩:=HB I.mod.kin j;show wpAny_Raise_call_subT (C:=C) (nm:=nm) (q:=q) (N:=N) (bs:=bs) (bm:=tl) (hdct:=hdct) (sn:=sn) (sub:=sub) (ab:=ab) (col:=col) (dd:=dd) (k0:=k0) (k1:=k1) (k2:=k2) (k3:=k3) (k5:=k5)
  qU (mN:=mN) (T.hasType qU.hasBase) (I.ok.hd f) (by rw[he];change (false||(backTo cpos (starEach es X.env)).any (·.1))=false;rw[l];rfl) o (gW I i hm ⟨rfl,?_⟩ hd)
 have c:=ha cpos OY s Z H _ I h;rw[he] at c |-;show kE (thn c λus s1 ⟨vs,H1,a,r,hz,u⟩=>⟨rfl,by rw[<-r.length];show hz,a.bk _ _ m,n.keeps a.bk,T.keeps a.bk,λh' v b=>?_⟩);obtain⟨tt,w,_,_⟩:=b.there;have y:Inv X OY Z H1 {s1 with heap:=h'}:=a.kept (t':=s1.toks) b.keeps;show d OY Z H1 _ v (.ref C) none y ⟨_,_,w,rfl,rfl,rfl,⟨_,rfl,rfl⟩,.inl rfl⟩ (a.oldNone b.new (by rw[g];simp)) (λp A z=>by
  have e:=(a.pin p A).1;rw[z,b.new] at e;cases e) (a.hok.none_of' b.new) u
end
end L2
end
section
namespace L2
open PySem PySem.Spec PyProof.Rows
def clsIn(K:W.Frag)(C:Addr):Option (List Value):=match K.lookup C with
 |some ⟨.type "type",_,.cls cd,sl⟩=>(match cd.mro,sl.toList with
  |.ref a::bm,[_,_,_,_,some (.builtin n),_]=>if a==C&&n=="ValueError.__new__"&&!cd.hasDel then some bm else none
  |_,_=>none)
 |_=>none
theorem oX{C:Addr}{h:Heap}{bm:List Value}(X:K.In h)(q:clsIn K C=some bm) :
  ∃N nm q bs hdct sn sub ab col dd k0 k1 k2 k3 k5,h.get? C=some (excClassObj nm q C N bs bm hdct sn sub ab col dd k0 k1 k2 k3 k5 "ValueError.__new__"):=by
 unfold clsIn at q
 split at q
 .rename_i dd cd sl d
  split at q
  .rename_i g i k0 k1 k2 k3 n k5 hm a
   split at q
   .rename_i b;simp only[gH,beq_iff_eq,Lv] at b;obtain⟨⟨rfl,rfl⟩,c⟩:=b;cases q;obtain⟨nm,bs,mro,ns,e,hd,sn,sub,ab,col,del⟩:=cd;dsimp only at hm c;subst hm c;have f:sl=#[k0,k1,k2,k3,some (.builtin "ValueError.__new__"),k5]:=by
     cases sl;simp only at a;rw[a]
    subst f;show⟨ns,nm,e,bs,hd,sn,sub,ab,col,dd,k0,k1,k2,k3,k5,X _ _ d⟩
   cases q
  cases q
 cases q
theorem Dl{M:Model}{Q:Bool->Shared->Prop}{e C Ch:Addr}{b:Obj}{nm q:Str}{N:Addr}{bs bm:List Value}{hdct:Bool}{sn:List Str}{sub:List Value}{ab:Bool}{col:Option Bool}{dd:Option Addr}{k0 k1 k2 k3 k5:Option Value}{newId:String}
  {j l:Str} {m:Addr} {n a:List Value} {o:Bool} {p:List Str} {r:List Value} {u:Bool} {v:Option Bool} {w:Option Addr} {x l1 l2 y z:Option Value} {B:String}
  (c:s.heap.get? C=some (excClassObj nm q C N bs bm hdct sn sub ab col dd k0 k1 k2 k3 k5 newId)) (i:s.heap.get? Ch=some (excClassObj j l Ch m n a o p r u v w x l1 l2 y z B))
  (he:s.heap.get? e=some b) (D:b.cls=.ref C) (H:a.contains (.type "BaseException")=true) (hm:(Value.ref C::bm).contains (.ref Ch)=true) (I:Q true s) :
  wpAny M A (excMatches (.ref e) (.ref Ch)) Q E s:=by
 obtain⟨h,g,d,t,os⟩:=s;have J:(Value.ref Ch::a).contains (.type "BaseException")=true:=by rw[qH,H,uC]
 have f:=tc_notTuple;unfold excMatches
 repeat (first|(with_reducible show fB he ?_;rw[D])|with_reducible show fB i ?_|with_reducible show fB c ?_|(with_reducible show kP i ?_;rw[J])|(with_reducible show kP c ?_;rw[hm])|wp_step)
 show I
def eF(x:Addr)(cls:Value)(d:Option Addr):HO:=.ext λh=>∃(a:Obj)(vs:Array Value),h.get? x=some a/\a.cls=cls/\a.dict=d/\a.data=.fields vs/\vs[2]?=some .none
theorem HD{h:Heap}{x:Addr}{cls:Value}{d:Option Addr}(e:Exc h x cls d):aV P w H h x (eF x cls d):=by obtain⟨c,vs,h1,h2,f,g,⟨_,i,rfl⟩,_⟩:=e;show⟨⟨c,vs,h1,h2,f,g,i⟩,⟨c,h1⟩,λa b p k=>?_⟩;obtain⟨c,vs,h1,h2,f,g,i⟩:=p;show⟨c,vs,k c h1,h2,f,g,i⟩
abbrev oW(X:Cx)(x:Addr):Cx:={X with A:=X.A.mark (some (.ref x)),calm:=false,xe:=λ_ _=>False}
section
theorem Inv.suite(I:Inv X OY Z H s)(x:Addr):Inv (oW X x) OY Z H s:=
 ⟨⟨I.ok.mod,I.ok.kind,I.ok.glob,I.ok.blt,I.ok.above,I.ok.inj,I.ok.has,I.ok.cab,(λz=>absurd z (by change ¬(false=true);decide)),I.ok.frames,I.ok.stk,I.ok.exf,I.ok.bs,I.ok.bsz,I.ok.noex,I.ok.exfs,I.ok.funs,I.ok.frf⟩,I.os,I.bare,I.base,I.loc,I.cell,I.free,I.freeC,I.pin,I.hok,I.len⟩
theorem Inv.unsuite{x:Addr}(J:Inv (oW X x) OY Z H s)(ok:X.Ok):Inv X OY Z H s:=⟨ok,J.os,J.bare,J.base,J.loc,J.cell,J.free,J.freeC,J.pin,J.hok,J.len⟩
theorem Inv.forget(I:Inv X OY Z H s):Inv X OY (List.replicate X.N.length none) H s:=by
 show⟨I.ok,I.os,I.bare,I.base,?_,I.cell,I.free,I.freeC,I.pin,I.hok,∅⟩;obtain⟨m,b,_⟩:=I.loc;show⟨m,b,λi y v c a d=>?_⟩;rw[LX] at a
 split at a<;>cases a
theorem Inv.unname{i:Nat}{n:Str}{pos:Pos}{M:Model}{Q:Unit->Shared->Prop}(I:Inv X OY Z H s)(hN:X.N.Nodup)(hi:X.N[i]?=some n)(hl:X.env.scope.names.lookup n=some .local)
  (h:∀s',Inv X OY (Z.set i none) H s'->Q .unit s'):wpAny M A (do bindName X.env n .none;unbindBehindTheSuite X.env n pos) Q E s:=by
 show aa (wpAny_bindName (n9 I hN hi (.inl hl) (v:=.non) rfl (λs1 I1=>?_) (.inr hl)));unfold unbindBehindTheSuite;show wpAny_onRaise ?_;have hcls:(X.env.scope.kind==.class||(X.env.scope.kind==.module&&X.env.locals != X.env.globals))=false:=by rw[I.ok.kind];rfl
 obtain⟨m,hn,hl1⟩:=id I1.loc;have hiσ:i<Z.length:=by rw[I.len];show (aI.mp hi).1
 obtain⟨u,ru,lk⟩:=hl1 i n .non hi (by rw[uJ hiσ]) (.inl hl);have hmn:m n=some u:=by
  rcases lk with ⟨_,z⟩|⟨z,_⟩
  .exact z
  have z:X.env.scope.names.lookup n=some .cell\/X.env.scope.names.lookup n=some .free:=z;rcases z with z|z<;>(rw[hl] at z;cases z)
 show wpAny_unbindName_local hl hn hmn hcls λh' w' hn' hs=>h _ ?_;obtain⟨oL,_,_,hoL,_⟩:=id hn;have keepB:∀b o,b≠X.env.locals->s1.heap.get? b=some o->h'.get? b=some o:=λb o hb e=>(hs.2 b hb).trans e;have hok:HOk X.prog X.w H h':=λb ob e=>by
  show (I1.hok b ob e).stay (λc w' hc q=>keepB c w' ?_ q) (λ_ q=>q) λ_ _ q=>q;rintro rfl;rcases hc with z|z
  .rw[<-z,I1.free] at e;cases e
  rw[I1.free] at z;cases z
 show⟨I1.ok,I1.os,I1.bare,⟨λb o e n hb hx=>?_,λb o e n hb hx=>?_,I1.base.free,λb o e hx=>?_,I1.base.tups,I1.base.frzs,I1.base.tbls⟩,⟨_,hn',λj y v e1 e2 e3=>?_⟩,λy c e=>?_,I1.free,I1.freeC,λp hp=>?_,hok,?_⟩
 .exact keepB b o (bo (b_ (aF e) I1.ok.above)) (I1.base.keep b o e n hb hx)
 .obtain⟨sl,z⟩:=I1.base.slot b o e n hb hx;show⟨sl,keepB b _ (bo (b_ (aF e) I1.ok.above)) z⟩
 .obtain⟨o',z⟩:=I1.base.there b o e hx;show⟨o',keepB b _ (bo (b_ (aF e) I1.ok.above)) z⟩
 .have hj:j≠i:=λz=>by
   subst z;rw[uJ hiσ] at e2;cases e2
  rw[uI (ax hj)] at e2;obtain⟨u',r',q⟩:=hl1 j y v e1 (by rw[uI (ax hj)];show e2) e3;show⟨u',r',?_⟩;rcases q with ⟨k,e⟩|⟨k,c,e,z⟩
  .refine .inl ⟨k,?_⟩;have:y≠n:=λz=>hj (rS hN e1 (z ▸ hi));simp[this,e]
  show .inr ⟨k,c,e,z.sameBut hs (I1.cne y c e)⟩
 .obtain⟨w',z⟩:=I1.cell y c e;show⟨w',z.sameBut hs (I1.cne y c e)⟩
 .obtain⟨e,n',ne,nf,d⟩:=I1.pin p hp;show⟨(hs.2 p.1 ne).trans e,n',ne,nf,d⟩
 have:=I.len;simpa using this
end
section
variable {body suite:List Stmt}{b0:Stmt}{cx n:Str}{np hpos pos:Pos}{Ch:Addr}{bmh:List Value}{i:Nat}{tb:XK->TS}{ts:Addr->TS}
abbrev j7(X:Cx)(OY:List (Addr×Obj))(xe:Value->Shared->Prop):Cx:={X with pn:=X.pn++OY,xe:=xe}
theorem Inv.toBody{xe:Value->Shared->Prop}(I:Inv X OY Z H s):Inv (j7 X OY xe) [] Z H s:=
 ⟨⟨I.ok.mod,I.ok.kind,I.ok.glob,I.ok.blt,I.ok.above,I.ok.inj,I.ok.has,I.ok.cab,I.ok.hd,I.ok.frames,I.ok.stk,I.ok.exf,I.ok.bs,I.ok.bsz,I.ok.noex,I.ok.exfs,I.ok.funs,I.ok.frf⟩,I.os,I.bare,I.base,I.loc,I.cell,I.free,I.freeC,λp a=>I.pin p (by rw[eG] at a;show a),I.hok,I.len⟩
theorem Inv.ofBody{OY a:List (Addr×Obj)}{xe:Value->Shared->Prop}(J:Inv (j7 X OY xe) a Z H s):Inv X OY Z H s:=
 ⟨⟨J.ok.mod,J.ok.kind,J.ok.glob,J.ok.blt,J.ok.above,J.ok.inj,J.ok.has,J.ok.cab,J.ok.hd,J.ok.frames,J.ok.stk,J.ok.exf,J.ok.bs,J.ok.bsz,J.ok.noex,J.ok.exfs,J.ok.funs,J.ok.frf⟩,J.os,J.bare,J.base,J.loc,J.cell,J.free,J.freeC,λp b=>J.pin p (dD _ b),J.hok,J.len⟩
end
end L2
end
section
namespace L2
open PySem PySem.Spec PyProof.Rows
section
def txt(l:List Nat):Str:=⟨l.toArray⟩
theorem su(l:List Nat):(txt l).length=l.length:=by simp[txt,Str.length]
theorem FG(z:Str):txt z.cps.toList=z:=by cases z;simp[txt]
def kr{α:Type}(xs:List α)(lo hi:Option Int):List α:=(xs.drop (HT.sIx xs.length 0 lo)).take (HT.sIx xs.length xs.length hi-HT.sIx xs.length 0 lo)
end
section
abbrev TJ:=St->Hp->Str->(Str->Hp->Prop)->Prop
def PJ(X:Cx)(es:List Expr)(t:TJ):Prop:=
 ∀(OY:List (Addr×Obj))(s:Shared)(Z:St)(H:Hp)(acc:Str)(Q:Str->Hp->Prop),Inv X OY Z H s->t Z H acc Q->
  Joins ⇑X X.A X.xe (evalEach es X.env) acc (λout s'=>∃H',Inv X OY Z H' s'/\Q out H') s
def J_:TJ:=λ_ H acc Q=>Q acc H
def Ie(te:TE)(t:TJ):TJ:=λZ H acc Q=>te Z H λx H1=>∃z,x=.str z/\(acc++z).length<=sizeLine/\t Z H1 (acc++z) Q
theorem zo:PJ X [] J_:=λ_ _ _ H _ _ I h=>⟨H,I,h⟩
theorem oR{e:Expr}{es:List Expr}{te:TE}{t:TJ}(he:PE X e te)(a:PJ X es t)(b:evalEach (e::es) X.env=eval e X.env::evalEach es X.env:=by rfl):PJ X (e::es) (Ie te t):=by intro OY s Z H acc Q I h;rw[b];change wpAny _ _ (eval e X.env) _ _ s;show thn (he OY s Z H _ I h) λv s1 ⟨x,H1,c,d,z,hx,hz,q⟩=>?_;subst hx;obtain⟨t,rfl⟩:=d;show⟨z,t,rfl,hz,a OY s1 Z H1 (acc++z) Q c q⟩
def FJ(t:TJ):TE:=λZ H Q=>t Z H Str.empty λout H'=>out.length<=sizeLine/\Q (.str out) H'
theorem yw{c d:Expr}{rest:List Expr}{t:TJ}{pos:Pos}(h:PJ X (c::d::rest) t):PE X (.JoinedStr (c::d::rest) pos) (FJ t):=by
 intro OY s Z H Q I f;show wpAny_JoinedStr ?_;have j:=h OY s Z H Str.empty _ I f;have mono:∀(parts:List (Sem Value))(acc:Str)(Q a:Str->Shared->Prop)(s:Shared),(∀o s',Q o s'->a o s')->Joins ⇑X X.A X.xe parts acc Q s->Joins ⇑X X.A X.xe parts acc a s:=by
  intro parts;induction parts with
  |nil=>intro acc Q a s k z;show k _ _ z
  |cons p r g=>
   intro acc Q a s k z;show bF z (λv s1 ⟨y,t,e,b,q⟩=>⟨y,t,e,b,g _ _ _ _ k q⟩) λ_ _ x=>x
 show mono _ _ _ _ _ (λout s' ⟨H',i,b,q⟩=>⟨b,.str out,H',i.tok _,⟨_,rfl⟩,q⟩) j
end
section
variable {prog:Program}
theorem B2{x a:Addr}{c:Obj}{vs:Array Value}{Q:Value->Shared->Prop}(he:s.heap.get? x=some c)(hd:c.data=.fields vs)(h2:vs[2]?=some .none)(h:Q .none s) :
  wpAny (model prog w) A (runValue (.builtin "proto.unchain" ⟨[.ref a,.ref x,.ref x,.bool false],[]⟩)) Q E s:=by
 show wpAny_runValue (kO (b:=Builtin.«proto.unchain») (entryFor_of_tree (by kernel_rfl)) ?_);unfold Builtin.«proto.unchain»;show aa (bQ he hd h2 ?_);show af h
end
section
variable {tg:Expr}
end
end L2
end
section
namespace L2
open PySem PySem.Spec PyProof.Rows
section
variable {D:Addr}{g:TG}{tt:TT}{te:TE}{Z':St}{H1:Hp}{Q:Hp->Prop}
end
structure fX(k:Nat)(A:Around)(x:Addr):Prop where
 hd:A.handled=some (.ref x)
 dp:A.depth+3*k+5<recursionLimit
 un:A.units+16*k+200<cLine
 gu:A.guards=some []
theorem fX.deeper{k:Nat}{x:Addr}(r:fX (k+1) A x)(env:Env):fX k (A.deeper env) x:=
 ⟨r.hd,by have:=r.dp;change A.depth+1+3*k+5<_;lia,by have:=r.un;change A.units+3+16*k+200<_;lia,r.gu⟩
theorem fX.make{k:Nat}{x:Addr}(r:fX (k+1) A x)(C:Addr)(us:List Value)(kw:List (Str×Value)):fX k (A.under (.builtin "type.__call__" ⟨.ref C::us,kw⟩)) x:=
 ⟨r.hd,by have:=r.dp;rw[vJ];lia,by have:=r.un;rw[vI];lia,vz r.gu⟩
theorem fX.units{k:Nat}{x:Addr}(r:fX k A x):A.units+64<cLine:=by have:=r.un;lia
theorem Room.suite{k:Nat}(r:Room k A)(x:Addr):fX k (A.mark (some (.ref x))) x:=⟨rfl,r.dp,r.un,r.gu⟩
structure uo(P:Program)(w:World)(K:W.Frag)(mg:Str->Option Value)(base:Heap)(k:Nat)(f:Addr)(fd:FuncData)(ps:List Str)(x:Addr)(sp:Sp):Prop where
 len:∀vs H Q E,sp vs H Q E->vs.length=ps.length
 run:∀(A:Around)(outer:List Env)(s:Shared)(H:Hp)(args:Args)(us:List Value)(vs:List V)(Q:VK)(E:XK),fX k A x->fk P w K mg base A outer s H->BindsTo s fd args (ps.zip us)->Vals vs us->sp vs H Q E->
  codeAny (model P w) A (.call (.ref f) args) (CR CX0 outer P w H s Q E) s
def qi(P:Program)(w:World)(K:W.Frag)(mg:Str->Option Value)(base:Heap)(N:List Str)(qual:Str)(scope:Scope)(f:Addr)(cd:Value)(A:Around)(outer:List Env)(s:Shared)(H:Hp)(E:XK):Cx:=
 {dO CX0 P w K mg base N qual scope f cd A outer s H E with calm:=false,xe:=λ_ _=>False}
theorem Cq{N ps:List Str}{qual:Str}{f:Addr}{cd:Value}{outer:List Env}{s s1:Shared}{E:XK}
  (S:aK N ps scope) (a:fk P w K mg base A outer s H) (b:vs.length=ps.length) (r:Vals vs us)
  (x:InCallC s ↥s (bindL (envOfC qual scope ↥s f cd).kindOf (ps.zip us) λ_=>none) (cellsFrom (↥s+1) scope.names []) (bindC (envOfC qual scope ↥s f cd).kindOf (ps.zip us) λ_=>none) s1) :
  Inv (qi P w K mg base N qual scope f cd A outer s H E) [] (start N vs) H s1:=by
 have c:fk P w K mg base {A with handled:=none} outer s H:=⟨a.frames,a.mod,a.bs,a.bsz,a.funs,a.frf,a.hok,a.bare⟩;have I:=wj (CX:=CX0) (E:=E) (A:={A with handled:=none}) S rfl c b r x;show⟨⟨I.ok.mod,I.ok.kind,I.ok.glob,I.ok.blt,I.ok.above,I.ok.inj,I.ok.has,I.ok.cab,(λz=>absurd z (by change ¬(false=true);decide)),I.ok.frames,I.ok.stk,I.ok.exf,I.ok.bs,I.ok.bsz,I.ok.noex,I.ok.exfs,I.ok.funs,I.ok.frf⟩,I.os,I.bare,I.base,I.loc,I.cell,I.free,I.freeC,I.pin,I.hok,I.len⟩
theorem Fun.okH{x qual:Str}{st:Stmt}{f ex:Addr}{N ps:List Str}{k:Nat}{sp:Sp}(F:Fun K x qual st f fd)(S:aK N ps (ao st))(len:∀vs H Q E,sp vs H Q E->vs.length=ps.length)
  (l:∀(a:Value)(A:Around)(outer:List Env)(s:Shared)(H:Hp)(vs:List V)(Q:VK)(E:XK),fX k (A.deeper (envOfC qual (ao st) ↥s f a)) ex->sp vs H Q E->
   ∃t,PSs (qi P w K mg base N qual (ao st) f a A outer s H E) (df st) t/\t {nx:=λ_ H'=>Q .non H',rt:=Q} (start N vs) H):uo P w K mg base (k+1) f fd ps ex sp:=by
 obtain⟨R,od,kV,doc,pm,an,a,ct,T,rfl,lk,m⟩:=F.ex;show⟨len,λA outer s H args us vs Q E h d p r i=>?_⟩;have B:=len _ _ _ _ i;have j:K.In s.heap:=d.mod.kin.keeps λb o e=>(d.bs b o e).1;have lim:s.heap.NoLimit:=d.mod.nolimit.keeps λb o e=>(d.bs b o e).1;have C:∀y∈ps.zip us,(ao st).names.lookup y.1=some .local\/((ao st).names.lookup y.1=some .cell/\((cellsFrom (↥s+1) (ao st).names []).lookup y.1).isSome=true):=λ⟨n,v⟩ D=>by
  rcases S.par n (uN D).1 with q|q
  .exact .inl q
  show .inr ⟨q,AW _ _ _ (.inl q)⟩
 show M_ (by have:=h.dp;lia) (j _ _ lk) rfl S.co S.gen rfl (MS j m) (p _ _ _ _ ?_);show NG S.kind C λenv he s1 z=>?_;subst he;show⟨lim.keeps z.toInCall.keep,codeAny_func ?_⟩;obtain⟨t,L,M⟩:=l a A outer s H vs Q E (h.deeper _) i;have I:Inv (qi P w K mg base N qual (ao st) f a A outer s H E) [] (start N vs) H s1:=Cq S d B r z;show bF (L [] s1 (start N vs) H _ I M) (λO s' c=>?_) λe s' c=>c.elim;have fin:∀{Z':St}{H':Hp}{v:V}{u:Value},Inv (qi P w K mg base N qual (ao st) f a A outer s H E) [] Z' H' s'->az v u->Q v H'->CE outer P w H s Q u s':=
  λ{Z' H' v u} J g q=>⟨v,H',J.os,J.bare,J.base,J.hok,g,q⟩
 cases O with
 |ret u=>
  obtain⟨v,Z',H',J,g,q⟩:=c;show fin J g q
 |next=>
  obtain⟨Z',H',J,q⟩:=c;show fin (v:=V.non) (u:=Value.none) J rfl q
 |brk=>
  obtain⟨_,_,_,q⟩:=c;show False.elim q
 |cont=>
  obtain⟨_,_,_,q⟩:=c;show False.elim q
section
variable {k:Nat}{f ex:Addr}{ps:List Str}{sp:Sp}{dvs:List V}{ds:List Value}{x:Str}{p pos:Pos}{e:Expr}{es:List Expr}{t:TA}
end
theorem Fun.ok1{x qual:Str}{st:Stmt}{f:Addr}{N ps:List Str}{k:Nat}{sp:Sp}(F:Fun K x qual st f fd)(S:aK N ps (ao st))(len:∀vs H Q E,sp vs H Q E->vs.length=ps.length)
  (b:∀(a:Value)(A:Around)(outer:List Env)(s:Shared)(H:Hp)(vs:List V)(Q:VK)(E:XK),Room k (A.deeper (envOfC qual (ao st) ↥s f a))->sp vs H Q E->
   ∃t,PSs (dO (CX1 P w) P w K mg base N qual (ao st) f a A outer s H E) (df st) t/\t {nx:=λ_ H'=>Q .non H',rt:=Q} (start N vs) H):ai P w K mg base (CX1 P w) (k+1) f fd ps sp:=by
 obtain⟨g,od,kV,doc,pm,an,a,ct,h,rfl,lk,c⟩:=F.ex;show uj lk c S len λA outer s H vs Q E d e=>b a A outer s H vs Q E d e
end L2
end
section
namespace K51
open PySem L2
def digits(n:Nat):List Nat:=(Nat.toDigits 10 n).map Char.toNat
theorem q_{n:Nat}(h:n<10):digits n=[48+n]:=by unfold digits;rw[Nat.toDigits_of_lt_base h];have:∀d:Nat,d<10->(Nat.digitChar d).toNat=48+d:=⋯;simp[this n h]
theorem BY{n:Nat}(h:10<=n):digits n=digits (n/10)++[48+n%10]:=by have hm:n%10<10:=kK n ⋯;have t:Nat.toDigits 10 (n/10)++Nat.toDigits 10 (n%10)=Nat.toDigits 10 (10*(n/10)+n%10):=Nat.toDigits_append_toDigits ⋯ () hm;rw[Nat.div_add_mod] at t;rw[<-q_ hm];unfold digits;rw[<-t,aL]
theorem nN:∀(m n:Nat),n<10 ^ (m+1)->(digits n).length<=m+1
 |0,n,h=>by
  rw[q_ ‹h›];simp
 |m+1,n,h=>by
  by_cases a:n<10
  .rw[q_ a];simp
  rw[BY (),aU,bY];have:=nN m (n/10) (by rw[Nat.pow_succ] at h;lia);lia
theorem sF(n:Nat):((toString ((n:Nat):Int):String):Str)=txt (digits n):=by rw[<-FG (Str.ofString (toString ((n:Nat):Int))),OB];rfl
end K51
end
section
namespace L2
open PySem PySem.Spec PyProof.Rows HT
theorem BJ{prog:Program}{t sl:Addr}{u v:Value}{k:Tok}{Q:Value->Shared->Prop}(a:IsTup s.heap t #[u,v])(d:s.heap.IsSliceOf sl .none .none (.int (-1) k))
  (h:Q (.ref ↥s) {s with heap:=s.heap.push {cls:=.type "tuple",data:=.seq #[v,u]}}):wpAny (model prog w) A (getItem (.ref t) (.ref sl)) Q E s:=by
 have e:sizeOk (.seq #[v,u]):=by change 2<=sizeLine;rw[cK];decide
 obtain⟨os,b,f,c⟩:=id d;have g:s.TypeIs (.ref sl) "slice":=⟨os,b,f⟩;unfold getItem
 try with_reducible show cL ?_
 first|show aa (af ?_)|skip
 show aa (Bn a.typeIs ⋯ ?_);show aa (iS (name:=Str.ofString "__getitem__") a.typeIs jx
  (fu jx a.typeIs A4 ?_ (A1 _ _)))
 change wpAny _ _ (Builtin.Tuple.tupleItemsOf (.ref t) >>= _) _ _ s;show aa (A_ a ?_);show aa (qZ g ?_);rw[OU ⋯];show aa ?_;unfold Builtin.Slice.sliceApplied Builtin.Slice.sliceFields;show aa (aa (bQ b c (x:=.none) rfl (aa (bQ b c (x:=.none) rfl (aa (bQ b c (x:=.int (-1) k) rfl (af ?_)))))));show aa (slicePart_int ?_);change wpAny _ _ (if ((-1:Int)==0)=true then _ else _) _ _ s;rw[OT ⋯];show aa (uY (aa (uY (aa (af ?_)))));have i:Builtin.Slice.sliceAdjust none none ((some (-1:Int)).getD 1) ((#[u,v].size:Nat):Int)=(1,-1):=rfl;have j:Builtin.Slice.slicePlaces 1 (-1) ((some (-1:Int)).getD 1)=2:=⋯;rw[i];change wpAny _ _ (pure ((1:Int),(some (-1:Int)).getD 1,Builtin.Slice.slicePlaces 1 (-1) ((some (-1:Int)).getD 1))) _ _ s;rw[j];show af ?_;change wpAny _ _ (if ((1:Int)==0&&(-1:Int)==1&&(2:Nat)==2)=true then _ else (Builtin.Tuple.tupleExact #[v,u] >>= λx=>ret x)) _ _ s;rw[OT ⋯];show aa (m:=Builtin.Tuple.tupleExact _) (dW (af ⟨_,rfl,af h⟩) e)
section
variable {e st:Expr}{te ts:TE}{pos p2:Pos}
def HZ(te ts:TE):TE:=λZ H Q=>te Z H λx H1=>ts Z H1 λz H2=>z=.int (-1)/\∃(a:Addr)(y v:V),x=.ref a/\SqT [] H2 a [y,v]/\∀p,H2 p=none->Q (.ref p) (upd H2 p (.tup [v,y]))
theorem Gr(he:PE X e te)(f:PE X st ts):PE X (.Subscript e (.Slice none none (some st) p2) pos) (HZ te ts):=by intro OY s Z H Q I h;show uW (thn (he OY s Z H _ I h) λv s1 ⟨x,H1,g,i,j⟩=>?_);show wpAny_Slice ?_;rw[A5];show af (af ?_);rw[evalPart_some];show thn (f OY s1 Z H1 _ g j) λD s2 ⟨z,H2,l,m,n⟩=>?_;obtain⟨rfl,a,y,p,rfl,hx,q⟩:=n;cases i;obtain⟨t,rfl⟩:=m;have c:Inv X OY Z H2 {s2 with heap:=s2.heap.push {cls:=.type "slice",data:=.fields #[.none,.none,.int (-1) t]}}:=l.kept (t':=s2.toks) λb ob q=>aE _ q;obtain⟨E,r,d,hz⟩:=c.tuple hx;obtain⟨u,J,rfl,B,C⟩:=r.two;change wpAny ⇑X X.A (subscriptTail e (.Slice none none (some st) p2) (.ref a) (.ref ↥s2)) (EP X OY Z Q) X.xe {s2 with heap:=s2.heap.push {cls:=.type "slice",data:=.fields #[.none,.none,.int (-1) t]}};show tail_any (ops:=[.ref a,.ref ↥s2]) d.typeIs Nk.lookup ?_ (by with_unfolding_all rfl);show BJ d (Lz ..) ?_;show⟨.ref _,_,c.laid (t':=s2.toks) (o:=.tup [p,y]) (λb ob q=>aE _ q) (aq _) ?_,rfl,q _ (c.hok.fresh (aq _))⟩;show⟨⟨by change 2<=sizeLine;rw[cK];decide,_,br _ rfl,rfl⟩,_,.cons C (.cons B .nil),uF _ _⟩
end
end L2
end
section
namespace L2
open PySem PySem.Spec PyProof.Rows PySem.W
structure pX(K:W.Frag)(D:Addr):Prop where
 ga:W.findIn K (.ref D) "__getattribute__" = some (some (.builtin "BaseException.__getattribute__"))
 ha:W.findIn K (.ref D) "__getattr__" = some none
 cl:W.findIn K (.ref D) "__class__" = some (some (.builtin "object.__class__"))
 gt:W.specialIn K (.builtin "object.__class__") "__get__" = some (some (.builtin "getset_descriptor.__get__"))
 tk:W.takesIn K (.builtin "object.__class__")=some true
 mo:W.mroIn K D (.type "object")=some true
 mb:W.mroIn K D (.type "BaseException")=some true
 cd:(W.clsIn K D).isSome=true
section
variable {prog:Program}{x D:Addr}{ox:Obj}
end
section
theorem jF{c:String}:cV X (.builtin "isinstance") (λxs H Q=>∃(x:V)(ty:Value)(b:Bool),xs=[x,.ty c]/\eW X.K H x ty/\W.kitOne X.K ty (.type c)=some b/\Q (.bl b) H):=by intro OY s Z H xs us Q I r h;obtain⟨x,ty,b,rfl,a,e,q⟩:=h;obtain⟨u,d,rfl,f,g⟩:=vals2 r;cases (show d=Value.type c from g);show Dg I f a e λtk=>⟨.bl b,H,I.tok _,rfl,q⟩
end
end L2
end
section
namespace K51
open PySem L2
structure cq(mg:Str->Option Value):Prop where
 len:mg "len" = none
 int:mg "int" = none
 str:mg "str" = none
 isi:mg "isinstance" = none
 range:mg "range" = none
 list:mg "list" = none
 tuple:mg "tuple" = none
 bool:mg "bool" = none
 all:mg "all" = none
 ve:mg "ValueError" = none
 rev:mg "reversed" = none
 enum:mg "enumerate" = none
theorem yP{α:Type}(l:List α)(a b:Nat):kr l (some (a:Int)) (some (b:Int))=(l.drop a).take (b-a):=by
 unfold kr;rw[HT.sIx_nat,HT.sIx_nat];by_cases h:a<=l.length
 .rw[Mj h];by_cases c:b<=l.length
  .rw[Mj c]
  rw[Nat.min_eq_right (),iR (by rw[cF];lia),iR (by rw[cF];lia)]
 rw[Ao (show l.length<=a by lia),Ao (show l.length<=min a l.length by lia)];simp
theorem zJ{α:Type}(l:List α)(b:Nat):kr l none (some (b:Int))=l.take b:=by have h:=yP l 0 b;unfold kr at h |-;rw[HT.sIx_none];simpa [HT.sIx] using h
theorem rZ{α:Type}(l:List α)(a:Nat):kr l (some (a:Int)) none=l.drop a:=by have h:=yP l a l.length;rw[iR (by rw[cF];lia)] at h;rw[<-h];unfold kr;rw[HT.sIx_none,HT.sIx_nat,HT.sIx_nat,Mm]
theorem line5000:5010<=sizeLine:=by rw[cK];decide
theorem bL{t:Addr}{o:HO}(h:H t=none):Same H (upd H t o):=λb u e=>by rw[av (au e h)];show e
theorem lq{n:Nat}(h:n<10 ^ 160):((n:Nat):Int).natAbs.log2<1920:=by
 change n.log2<1920;by_cases a:n=0
 .subst a;decide
 show (AH a).mpr (b_ (qQ h (show 10 ^ 160<2 ^ 600 by decide)) (AK ⋯ ⋯))
theorem vP{N:List Str}(nd:N.Nodup)(kind:scope.kind=.function)(b:scope.names.all (λy=>y.2 != .cell&&y.2 != .free)=true)
  (nm:scope.names.all (λy=>y.2 != .local||scope.names.lookup y.1==some .local)=true):e_ X N (N.map λ_=>none) scope:=by
 have h1:∀y∈scope.names,y.2≠.cell/\y.2≠.free:=λy a=>by
  have:=kH.mp b y a;simpa using this
 show⟨nd,∅,kind,λy a=>(h1 y a).1,λy a e=>?_,λy a e=>absurd e (h1 y a).2,λj i x e _=>?_⟩
 .have:=kH.mp nm y a;rw[e] at this;simpa using this
 rw[bf] at e;cases q:N[j]? with
 |none=>rw[q] at e;cases e
 |some z=>rw[q] at e;cases e
theorem kq(a b:Int):decide (V.int a=V.int b)=decide (a=b):=by rw[fm];simp
end K51
end
section
namespace K31
open K51
abbrev Side:=Nat×Nat
abbrev Lps:=List (List Nat)
end K31
end
section
namespace L2
open PySem PySem.Spec PyProof.Rows
section
end
theorem rX{a:Addr}{g:TG}{tb:TS}{D:Ends}(Pv:Nat->St->Hp->Prop)(f:Pv 0 Z H)(h:∀i Z H,i<=xs.length->Pv i Z H->SqL K H a xs)
  (j:∀i x p Z H,xs[i]?=some x->Pv i Z H->H p=none->g (.ref p) Z (upd H p (.tup [.int (i:Int),x])) λσ2 H2=>tb {D with nx:=Pv (i+1),ct:=Pv (i+1),bk:=D.nx} σ2 H2) (hd:∀Z H,Pv xs.length Z H->D.nx Z H) :
  ∃W:Nat->Nat->St->Hp->Prop,(∃m,W 0 m Z H)/\∀i m Z H,W i m Z H->
   ((Ite K a).stop i H/\D.nx Z H)\/((Ite K a).go i H/\∃N:St->Hp->Prop,(∀Z' H',N Z' H'->∃c,c<m/\W (i+1) c Z' H')/\∀x H',(Ite K a).yld i H x H'->g x Z H' λσ2 H2=>tb {D with nx:=N,ct:=N,bk:=D.nx} σ2 H2):=by
 show⟨λi m Z H=>m=xs.length-i/\i<=xs.length/\Pv i Z H,⟨xs.length,∅,bE _,f⟩,?_⟩;rintro i m Z H ⟨rfl,hi,p⟩;have q:=h i Z H hi p;by_cases d:i<xs.length
 .refine .inr ⟨⟨xs,xs[i],q,aX d⟩,Pv (i+1),λZ' H' l=>⟨xs.length-(i+1),(),rfl,d,l⟩,λx H' y=>?_⟩;obtain⟨b,v,n,rfl,rfl,y⟩:=y;show j i v b Z H (y xs q) p n
 have e:i=xs.length:=();subst e;show .inl ⟨⟨xs,q,aq _⟩,hd Z H p⟩
theorem wb{M:Model}{α β:Type}{b:β}{f:α->β->Sem (ForInStep β)}{Q:β->Shared->Prop}:∀{cs:List α},(∀c∈cs,∀a:ForInStep β->Shared->Prop,a (.yield b) s->wpAny M A (f c b) a E s)->Q b s->wpAny M A (forIn cs b f) Q E s
 | [],_,q=>by rw[Av];show af q
 |c::cs,h,q=>by
  rw[mG];show aa (h c ∅ _ ?_);show wb (λd hd=>h d (bJ _ hd)) q
section
variable {body suite suite0:List Stmt}{b0 c0:Stmt}{cx n:Str}{np hpos hpos0 pos:Pos}{Ch:Addr}{bmh:List Value}{i:Nat}{tb:XK->TS}{ts:Addr->TS}{es:List Expr}{kk:Nat}{tpos:Pos}
def tw(X:Cx)(s:Shared)(es:List Expr)(us:List Value):Prop:=∀(pos:Pos)(Q:List Value->Shared->Prop),Q us s->wpAny ⇑X X.A (spliced (backTo pos (starEach es X.env))) Q X.xe s
theorem FA:tw X s [] []:=λ_ _ q=>mz q
theorem wB{x:Str}{u:Value}{p:Pos}{es:List Expr}(I:Inv X OY Z H s)(a:Gl X x)(hm:X.mg x=some u)(b:tw X s es us)(hd:(x==("__debug__" : Str))=false:=by decide):tw X s (.Name x p::es) (u::us):=by intro pos Q q;change wpAny _ _ (spliced ((false,eval (.Name x p) X.env)::backTo pos (starEach es X.env))) _ _ s;show kF (gW I a hm (b pos _ q) hd)
end
end L2
end
section
namespace K31
open PySem L2 K51
theorem same_of{H H1:Hp}{p:Addr}{o:HO}(g:H p=none)(e:upd H p o=H1):Same H H1:=by rw[<-e];show bL g
theorem at_of{H H1:Hp}{p:Addr}{o:HO}(e:upd H p o=H1):H1 p=some o:=by rw[<-e];show aN
def nV(l:List Nat):List V:=l.map λn:Nat=>V.int (n:Int)
def mr(H:Hp)(v:V)(l:List Nat):Prop:=∃a,v=.ref a/\H a=some (.lst (nV l))
abbrev kh(H:Hp):List V->Lps->Prop:=Paired (mr H)
def qx(H:Hp)(v:V)(t:Nat×Nat×Nat):Prop:=∃a,v=.ref a/\H a=some (.tup [.int (t.1:Int),.int (t.2.1:Int),.int (t.2.2:Int)])
abbrev aA(H:Hp):List V->List (Nat×Nat×Nat)->Prop:=Paired (qx H)
theorem mr.same{v:V}{l:List Nat}(s:Same H H')(h:mr H v l):mr H' v l:=by obtain⟨a,e,h⟩:=h;show⟨a,e,s a _ h⟩
theorem kh.same{ls:Lps}(s:Same H H')(h:kh H vs ls):kh H' vs ls:=Paired.imp' (λ_ _ q=>q.same s) h
theorem qx.same{v:V}{t:Nat×Nat×Nat}(s:Same H H')(h:qx H v t):qx H' v t:=by obtain⟨a,e,h⟩:=h;show⟨a,e,s a _ h⟩
theorem aA.same{ls:List (Nat×Nat×Nat)}(s:Same H H')(h:aA H vs ls):aA H' vs ls:=Paired.imp' (λ_ _ q=>q.same s) h
section
variable {α β:Type}{F:α->β->Prop}
theorem aH:∀{xs:List α}{ys:List β},Paired F xs ys->xs.length=ys.length
 |_,_,.nil=>rfl
 |_,_,.cons _ t=>by rw[cE,cE,aH t]
theorem cD:∀{xs:List α}{ys:List β}{b:List α}{c:List β},Paired F xs ys->Paired F b c->Paired F (xs++b) (ys++c)
 |_,_,_,_,.nil,h=>h
 |_,_,_,_,.cons a t,h=>.cons a (cD t h)
theorem tS:∀{xs:List α}{ys:List β}{i:Nat}{y:β},Paired F xs ys->ys[i]?=some y->∃x,xs[i]?=some x/\F x y
 |_,_,_,_,.nil,h=>by simp at h
 |_,_,0,_,.cons a t,h=>by
  simp at h;subst h;show⟨_,rfl,a⟩
 |_,_,i+1,_,.cons a t,h=>‹tS (i:=i) t ‹h››
theorem cj:∀{xs:List α}{ys:List β}{i:Nat}{x:α},Paired F xs ys->xs[i]?=some x->∃y,ys[i]?=some y/\F x y
 |_,_,_,_,.nil,h=>by simp at h
 |_,_,0,_,.cons a t,h=>by
  simp at h;subst h;show⟨_,rfl,a⟩
 |_,_,i+1,_,.cons a t,h=>‹cj (i:=i) t ‹h››
end
theorem bz(l:List Nat):(nV l).length=l.length:=ay ..
theorem fi(l r:List Nat):nV l++nV r=nV (l++r):=(aL ..).symm
theorem pN(n:Nat):[V.int (n:Int)]=nV [n]:=rfl
theorem zu{l:List Nat}{i n:Nat}(h:l[i]?=some n):(nV l)[i]?=some (.int (n:Int)):=by unfold nV;rw[bf,h];rfl
theorem wr_of{H H1:Hp}{p:Addr}{o:HO}(e:upd H p o=H1):∀b,b≠p->H1 b=H b:=λb a=>by rw[<-e,av a]
def ky(p q:Nat):List Key:=[Sum.inl (p:Int),Sum.inl (q:Int)]
theorem pP{p q a b:Nat}:ky p q=ky a b↔(p,q)=(a,b):=by
 unfold ky;constructor
 .intro h;injection h with h1 h2;injection h2 with h2 _;injection h1 with h1;injection h2 with h2;have:p=a:=();have:q=b:=();simp[*]
 intro h;injection h with h1 h2;rw[h1,h2]
def SdAt(H:Hp)(v:V)(s:Side):Prop:=∃a,v=.ref a/\H a=some (.tup ((ky s.1 s.2).map kV))
abbrev SdsAt(H:Hp):List V->List Side->Prop:=Paired (SdAt H)
theorem lit1:1<=sizeLine:=by change 1<=sizeLine;decide
theorem lit2:2<=sizeLine:=by change 2<=sizeLine;decide
theorem lit3:3<=sizeLine:=by change 3<=sizeLine;decide
theorem c9{N:List Str}{fr:List (Option Nat)}(nd:N.Nodup)(len:fr.length=N.length)(kind:scope.kind=.function)(b:scope.names.all (λy=>y.2 != .cell)=true)
  (nm:scope.names.all (λy=>y.2 != .local||scope.names.lookup y.1==some .local)=true)
  (c:∀y∈scope.names,y.2=.free->X.env.kindOf y.1=some .cell\/X.env.kindOf y.1=some .free)
  (d:∀(j i:Nat)(x:Str),fr[j]?=some (some i)->N[j]?=some x->X.N[i]?=some x/\scope.names.lookup x=some .free):e_ X N fr scope:=by
 show⟨nd,len,kind,λy a=>?_,λy a e=>?_,c,d⟩
 .have:=kH.mp b y a;simpa using this
 have:=kH.mp nm y a;rw[e] at this;simpa using this
end K31
end
local macro_rules | `(tactic| walk_at $s:str) => let i := fun (x : String) => Lean.mkIdent (Lean.Name.mkSimple x); match s.getString.splitOn " " with | [h, p, g, h1, t, y] => `(tactic| (generalize hq : L2.upd $(i h) $(i p) _ = $(i h1); have $(i t) := K31.same_of $(i g) hq; have $(i y) := K31.at_of hq; clear hq)) | [h, p, h1, k, y] => `(tactic| (generalize hq : L2.upd $(i h) $(i p) _ = $(i h1); have $(i k) := K31.wr_of hq; have $(i y) := K31.at_of hq; clear hq)) | ["cs"] => `(tactic| ((intro y hy e; simp only [List.mem_cons, List.not_mem_nil, or_false] at hy; repeat' first | subst hy | rcases hy with hy | hy) <;> first | (cases e; done) | exact .inl rfl | exact .inr rfl)) | ["ct"] => `(tactic| (intro j i y e1 e2; rcases j with _ | _ | _ | _ | _ | _ | j <;> first | (simp at e1; done) | (simp at e1 e2; subst e1 e2; exact ⟨rfl, rfl⟩))) | ["sc"] => `(tactic| exact ⟨rfl, rfl, rfl, by decide +kernel, rfl, by decide +kernel, by decide +kernel⟩) | _ => Lean.Macro.throwUnsupported
section
namespace K51
open PySem L2
def mixed(ns:List Int)(k:Int):Int:=(ns.take 40).foldl (λs c=>(s*48271+c)%2147483647) (7+1009*k)
def j8(ns:List Int)(k:Int):Int:=if k<(ns.length:Int) then ns.getD k.toNat 0 else 0
def potOf(ns:List Int)(k:Int):Int×Int:=(if j8 ns k<1000000000000000000 then 0 else j8 ns k,mixed ns k)
def refill(p:Int×Int):Int×Int:=if p.1=0 then (((p.2*16807+11)%2147483647)*((p.2*16807+11)%2147483647)%2147483629,(p.2*16807+11)%2147483647) else p
def digO(p:Int×Int)(b:Int):Int:=(refill p).1%b
def nxt(p:Int×Int)(b:Int):Int×Int:=((refill p).1/b,(refill p).2)
def bI(p:Int×Int):List V:=[.int p.1,.int p.2]
def cm(p:Int×Int):Prop:=-(2 ^ 60)<p.2/\p.2<2 ^ 60
theorem CT{p:Int×Int}(h:cm p):cm (refill p):=by
 unfold refill
 split
 .have:=qC (p.2*16807+11) (show (0:Int)<2147483647 by decide);have:=qD (p.2*16807+11) (show (2147483647:Int)≠0 by decide);unfold cm;constructor<;>(change _<_;lia)
 show h
theorem cH{p:Int×Int}{b:Int}(h:cm p):cm (nxt p b):=CT h
theorem rV(ns:List Int){k:Int}(b:0<=k)(h1:k<1000):-(2 ^ 60)<mixed ns k/\mixed ns k<2 ^ 60:=by
 unfold mixed;have:∀(l:List Int)(s:Int),(-(2 ^ 60)<s/\s<2 ^ 60)->(-(2 ^ 60)<l.foldl (λs c=>(s*48271+c)%2147483647) s/\l.foldl (λs c=>(s*48271+c)%2147483647) s<2 ^ 60):=by
  intro l;induction l with
  |nil=>intro s h;show h
  |cons c r a=>
   intro s h;rw[LR];show a _ ?_;have:=qC (s*48271+c) (show (0:Int)<2147483647 by decide);have:=qD (s*48271+c) (show (2147483647:Int)≠0 by decide);constructor<;>lia
 show this _ _ (by constructor<;>lia)
theorem jI:OpR X (binaryOp .FloorDiv) (rI (λ_ j=>0<j/\j.natAbs.log2<9000) λi j=>.int (i/j)):=opI λi j _ _ _ _ _ a q=>by
 have e:i.fdiv j=i/j:=by rw[Int.fdiv_eq_ediv_of_nonneg _ (Int.le_of_lt a.1)]
 rw[<-e] at q;show NY () q (.inl (PyProof.noPylong_of_log2 a.2))
def Kz(K:W.Frag)(vs:List V)(H:Hp)(Q:VK)(a:Addr)(ns:List Int)(k:Int):Prop:=vs=[.ref a,.int k]/\SqL [] H a (ns.map V.int)/\0<=k/\Q (.int (j8 ns k)) H
def spAt(K:W.Frag):Sp:=λvs H Q _=>Exists (Ex3 (Kz K vs H Q))
def IA(K:W.Frag)(vs:List V)(H:Hp)(Q:VK)(a:Addr)(ns:List Int)(k:Int):Prop:=vs=[.ref a,.int k]/\SqL [] H a (ns.map V.int)/\0<=k/\k<1000/\
 ∀(p:Addr)(H':Hp),H p=none->Same H H'->H' p=some (.lst (bI (potOf ns k)))->Q (.ref p) H'
def zW(K:W.Frag):Sp:=λvs H Q _=>Exists (Ex3 (IA K vs H Q))
def D4(vs:List V)(H:Hp)(Q:VK)(p:Addr)(q:Int×Int)(b:Int):Prop:=vs=[.ref p,.int b]/\H p=some (.lst (bI q))/\cm q/\0<b/\b.natAbs.log2<9000/\WrO H p (.lst (bI (nxt q b))) (Q (.int (digO q b)))
def i5:Sp:=λvs H Q _=>Exists (Ex3 (D4 vs H Q))
section
theorem scAt:aK ["_law_script","_law_k"] ["_law_script","_law_k"] (ao sAt):=⟨rfl,rfl,rfl,⋯,rfl,⋯,⋯⟩
theorem K5{f:Addr}(U:Fun K "_law_at" "_law_at" sAt f fd)(T:cq mg):ai P w K mg base CX0 1 f fd ["_law_script","_law_k"] (spAt K):=by
 show U.ok scAt (by rintro _ _ _ _ ⟨_,_,_,rfl,_⟩;rfl) λi A outer s H vs Q E j h=>?_
 obtain⟨a,ns,k,rfl,b,l,q⟩:=h;show⟨_,ah (bq (a7 qg (pv 1) (pln T.len (pv 0)) (nomark _)) (ak (aD (ixx cQ (pv 0) (pv 1)))) bp) (ak (aD aj)),?_⟩;show⟨_,rfl,_,rfl,a,_,rfl,.inl b,_,_,rfl,rfl,_,rfl,?_⟩;unfold j8 at q;rw[ay];show ite2 (λc=>?_) (λc=>?_)
 .have c:k<(ns.length:Int):=OX c;rw[OU c] at q;have d:k.toNat<ns.length:=();show⟨_,rfl,_,rfl,a,_,k,.int (ns.getD k.toNat 0),rfl,rfl,b,?_,q⟩;have e:((k.toNat:Nat):Int)=k:=();rw[<-e];show bO ?_;have g:ns[k.toNat]?=some (ns.getD k.toNat 0):=by simp[List.getD,d]
  rw[bf,g];rfl
 have c:¬k<(ns.length:Int):=λz=>c (OV z);rw[OT c] at q;show q
theorem xZ:aK ["_law_pot_here","_law_base","_law_digit_here"] ["_law_pot_here","_law_base"] (ao pF):=⟨rfl,rfl,rfl,⋯,rfl,⋯,⋯⟩
theorem EN{f:Addr}(U:Fun K "_law_digit" "_law_digit" pF f fd):ai P w K mg base CX0 1 f fd ["_law_pot_here","_law_base"] i5:=by
 show U.ok xZ (by rintro _ _ _ _ ⟨_,_,_,rfl,_⟩;rfl) λC A outer s H vs Q E D h=>?_
 obtain⟨p,⟨n,z⟩,b,rfl,a,hok,g,r,q⟩:=h;show⟨_,ah (bq (a7 dM (ixx cQ (pv 0) aj) aj (nomark _))
   (ah (ff (aC eP (aC cZ (aC iG (ixx cQ (pv 0) aj) aj) aj) aj) (tT (pv 0) aj rN))
    (ak (ff (aC eP (aC iG (ixx cQ (pv 0) aj) (ixx cQ (pv 0) aj)) aj) (tT (pv 0) aj rN)))) bp)
  (ah (sx 2 xZ.nd (aC eP (ixx cQ (pv 0) aj) (pv 1)))
  (ah (ff (aC jI (ixx cQ (pv 0) aj) (pv 1)) (tT (pv 0) aj rN))
  (ak (aD (pv 2))))),?_⟩
 have d:∀(x y:Int),atI [V.int x,V.int y] 0=some (V.int x):=λ_ _=>rfl;have i:∀(x y:Int),atI [V.int x,V.int y] 1=some (V.int y):=λ_ _=>rfl;have b0:∀(x y:V),ixN [x,y].length 0=some 0:=λ_ _=>rfl;have B:∀(x y:V),ixN [x,y].length 1=some 1:=λ_ _=>rfl;have u:=hok.1;have v:=hok.2;show⟨_,rfl,p,_,0,_,rfl,rfl,SqL.of a,d _ _,rfl,_,rfl,?_⟩;have u:-(2 ^ 60)<z:=u;have v:z<2 ^ 60:=v;show ite2 (λc=>?_) (λc=>?_)
 .have c:n=0:=by
   have:=OX c;injection this
  have I:=qC (z*16807+11) (show (0:Int)<2147483647 by decide);have J:=qD (z*16807+11) (show (2147483647:Int)≠0 by decide);show⟨_,rfl,p,_,1,_,rfl,rfl,SqL.of a,i _ _,_,_,rfl,rfl,.inl ⟨(),()⟩,_,_,rfl,rfl,_,_,rfl,rfl,(show (0:Int)<2147483647 by decide),_,rfl,p,_,_,_,rfl,rfl,a,B _ _,λH1 k1 j=>?_⟩;show⟨_,rfl,p,_,1,_,rfl,rfl,SqL.of j,i _ _,_,rfl,p,_,1,_,rfl,rfl,SqL.of j,i _ _,_,_,rfl,rfl,.inl ⟨(),()⟩,_,_,rfl,rfl,(show (0:Int)<2147483629 by decide),_,rfl,p,_,_,_,rfl,rfl,j,b0 _ _,λH2 k2 l=>?_⟩;show⟨_,rfl,p,_,0,_,rfl,rfl,SqL.of l,d _ _,_,rfl,_,_,rfl,rfl,g,?_⟩;show⟨_,rfl,p,_,0,_,rfl,rfl,SqL.of l,d _ _,_,rfl,_,_,rfl,rfl,⟨g,r⟩,_,rfl,p,_,_,_,rfl,rfl,l,b0 _ _,λm k3 o=>?_⟩;show⟨_,rfl,?_⟩;have e:refill (n,z)=((z*16807+11)%2147483647*((z*16807+11)%2147483647)%2147483629,(z*16807+11)%2147483647):=by unfold refill;rw[OU c]
  unfold digO nxt bI at q;rw[e] at q;show q m (λb h=>(k3 b h).trans ((k2 b h).trans (k1 b h))) o
 have c:¬n=0:=λy=>c (by rw[y];show OV rfl);show⟨_,rfl,p,_,0,_,rfl,rfl,SqL.of a,d _ _,_,rfl,_,_,rfl,rfl,g,?_⟩;show⟨_,rfl,p,_,0,_,rfl,rfl,SqL.of a,d _ _,_,rfl,_,_,rfl,rfl,⟨g,r⟩,_,rfl,p,_,_,_,rfl,rfl,a,b0 _ _,λm k3 o=>?_⟩;show⟨_,rfl,?_⟩;have e:refill (n,z)=(n,z):=by unfold refill;rw[OT c]
 unfold digO nxt bI at q;rw[e] at q;show q m k3 o
theorem j9:aK ["_law_script","_law_k","_law_seed","_law_cell","_law_number"] ["_law_script","_law_k"] (ao qu):=⟨rfl,rfl,rfl,⋯,rfl,⋯,⋯⟩
theorem DH(ns:List Int):eA (ns.map V.int) none (some 40)=(ns.take 40).map V.int:=by
 unfold eA;have a:HT.sIx (ns.map V.int).length 0 none=0:=rfl;have b:HT.sIx (ns.map V.int).length (ns.map V.int).length (some 40)=min 40 ns.length:=by rw[ay];have:=HT.sIx_nat ns.length ns.length 40;simpa using this
 rw[a,b,LN,<-mJ,uO]
 congr 1
 rw[List.take_eq_take_iff];lia
theorem Je{f d:Addr}{fd g:FuncData}(U:Fun K "_law_pot" "_law_pot" qu f fd)(n:Fun K "_law_at" "_law_at" sAt d g)(o:Binds K g ["_law_script","_law_k"] [])(mA:mg "_law_at" = some (.ref d))(p:W.keepIn K (.ref d)=true)(T:cq mg) :
  ai P w K mg base CX0 2 f fd ["_law_script","_law_k"] (zW K):=by
 have u:ai P w K mg base CX0 1 d g ["_law_script","_law_k"] (spAt K):=K5 n T;show U.ok j9 (by rintro _ _ _ _ ⟨_,_,_,rfl,_⟩;rfl) λI A outer s H vs Q E x h=>?_
 obtain⟨a,ns,k,rfl,m,z,h1,q⟩:=h;show⟨_,ah (sx 2 j9.nd (aC cZ aj (aC iG aj (pv 1))))
  (ah (cR cY rfl (bW (iu jL (pv 0) iB (iA aj))) (gx 3 j9.nd)
   (ak (sx 2 j9.nd (aC eP (aC cZ (aC iG (pv 2) aj) (pv 3)) aj))))
  (ah (sx 4 j9.nd (fe u x rfl mA p o .nil pass0 (ae (pv 0) (pa1 (pv 1)))))
  (ah (bq (a7 qg (pv 4) (aC pK aj aj) (nomark _)) (ak (sx 4 j9.nd aj)) bp)
  (ak (aD (bT (ae (pv 4) (pa1 (pv 2))))))))),?_⟩
 show⟨_,rfl,_,_,rfl,rfl,.inl ⟨(),()⟩,_,_,rfl,rfl,?_⟩;show⟨_,rfl,40,rfl,a,_,rfl,m,λl H1 J sm j=>?_⟩;rw[DH] at j;show⟨l,rfl,⟨_,SqL.of j⟩,eL (K:=[]) (a:=l) (xs:=(ns.take 40).map V.int) (λi Z H2=>∃v,Z=[some (.ref a),some (.int k),some (.int (((ns.take 40).take i).foldl (λs c=>(s*48271+c)%2147483647) (7+1009*k))),v,none]/\H2=H1/\
  (-(2 ^ 60)<(((ns.take 40).take i).foldl (λs c=>(s*48271+c)%2147483647) (7+1009*k))/\(((ns.take 40).take i).foldl (λs c=>(s*48271+c)%2147483647) (7+1009*k))<2 ^ 60))
  ⟨none,rfl,rfl,by simp only[AD,LS];constructor<;>lia⟩ (λi Z H2 _ ⟨_,_,e,_⟩=>by rw[e];show SqL.of j) ?_ ?_⟩
 .rintro i y Z H2 hi ⟨v,rfl,rfl,L,M⟩;obtain⟨c,B,rfl⟩:∃c,(ns.take 40)[i]?=some c/\V.int c=y:=by
   rw[bf] at hi;show cw.mp hi
  have e:(ns.take 40).take (i+1)=(ns.take 40).take i++[c]:=by rw[bG,B];rfl
  show⟨_,rfl,_,_,rfl,rfl,.inl ⟨(),()⟩,_,rfl,_,_,rfl,rfl,_,_,rfl,rfl,(show (0:Int)<2147483647 by decide),?_⟩;show⟨some (.int c),?_,rfl,?_⟩
  .rw[e,LQ];rfl
  rw[e,LQ];have N:=qC ((((ns.take 40).take i).foldl (λs c=>(s*48271+c)%2147483647) (7+1009*k))*48271+c) (show (0:Int)<2147483647 by decide);have O:=qD ((((ns.take 40).take i).foldl (λs c=>(s*48271+c)%2147483647) (7+1009*k))*48271+c) (show (2147483647:Int)≠0 by decide);simp only[LR,LS];constructor<;>lia
 rintro Z H2 ⟨v,rfl,rfl,_,_⟩;rw[ay,cX];show⟨_,rfl,_,rfl,a,ns,k,rfl,sm.seq m,z,?_⟩;show⟨_,rfl,_,_,rfl,rfl,⟨⋯,⋯,⋯⟩,_,_,rfl,rfl,_,rfl,?_⟩;have fin:∀(r:Addr)(b:Hp),H2 r=none->Same H2 b->b r=some (.lst (bI (potOf ns k)))->Q (.ref r) b:=λr b C s2 D=>q r b (sm.free C) (sm.trans s2) D;unfold potOf at fin;show ite2 (λc=>?_) (λc=>?_)
 .have c:j8 ns k<1000000000000000000:=OX c;rw[OU c] at fin;show⟨_,rfl,_,rfl,(show 2<=sizeLine by decide),fin⟩
 have c:¬j8 ns k<1000000000000000000:=λy=>c (OV y);rw[OT c] at fin;show⟨_,rfl,_,rfl,(show 2<=sizeLine by decide),fin⟩
end
theorem dX{q:Int×Int}{b:Int}(a:0<b):0<=digO q b/\digO q b<b:=⟨qD _ (),qC _ a⟩
theorem iX{b:Int}(a:0<b)(h:b<=10 ^ 60):b.natAbs.log2<9000:=by have h1:b.natAbs≠0:=();show (AH h1).mpr ?_;have h2:b.natAbs<=10 ^ 60:=();show AI h2 (b_ (show 10 ^ 60<2 ^ 200 by decide) (AK ⋯ ⋯))
end K51
end
section
namespace K15
open PySem L2 K51 K31
def bj(e:Ent):List Key×V:=(ky e.1.1 e.1.2,V.int (e.2:Int))
theorem fE{l:List Ent}{p q:Nat}:bh (l.map bj) (ky p q)=none↔(p,q)∉l.map (·.1):=by
 induction l with
 |nil=>simp[bh]
 |cons e l a=>
  rw[aY,aY,aG];by_cases h:(bj e).1=ky p q
  .rw[ip h];have:e.1=(p,q):=pP.mp h;simp[this]
  rw[gw h,a];have:(p,q)≠e.1:=λz=>h (pP.mpr (by rw[z]));simp[this]
theorem wF{l:List Ent}(nd:(l.map (·.1)).Nodup){p q c:Nat}:bh (l.map bj) (ky p q)=some (V.int (c:Int))↔((p,q),c)∈l:=by
 induction l with
 |nil=>simp[bh]
 |cons e l b=>
  rw[aY,cJ] at nd;rw[aY,aG];by_cases h:(bj e).1=ky p q
  .rw[ip h];have a:e.1=(p,q):=pP.mp h;constructor
   .intro z;injection z with z;injection z with z;left;have:e.2=c:=();rw[<-a,<-this]
   rintro (z|z)
   .rw[<-z];rfl
   show (nd.1 (ar.mpr ⟨_,z,a.symm⟩)).elim
  rw[gw h,b nd.2];constructor
  .exact .inr
  rintro (z|z)
  .exact (h (pP.mpr (by rw[<-z]))).elim
  show z
theorem FE{l:List Ent}{p q:Nat}{v:V}(h:bh (l.map bj) (ky p q)=some v):∃c:Nat,v=V.int (c:Int):=by
 induction l with
 |nil=>cases h
 |cons e l a=>
  rw[aY] at h;by_cases h1:(bj e).1=ky p q
  .rw[ip h1] at h;injection h with h;show⟨e.2,h.symm⟩
  rw[gw h1] at h;show a h
theorem xw{ts:List Tri}(g:Good ts)(p q:Nat):(∃c,En ts p q c/\bh ((ents ts).map bj) (ky p q)=some (V.int (c:Int)))\/((∀c,¬En ts p q c)/\bh ((ents ts).map bj) (ky p q)=none):=by
 cases h:bh ((ents ts).map bj) (ky p q) with
 |none=>
  show .inr ⟨λc a=>?_,rfl⟩;show fE.mp h (ar.mpr ⟨_,a,rfl⟩)
 |some v=>
  obtain⟨c,rfl⟩:=FE h;show .inl ⟨c,(wF g.nd).mp h,rfl⟩
theorem fJ(a b:List Tri):ents (a++b)=ents a++ents b:=by simp[ents]
theorem dA(ts:List Tri):(ents ts).length=3*ts.length:=by
 induction ts with
 |nil=>rfl
 |cons t ts a=>
  rw[show t::ts=[t]++ts from rfl,fJ,aU,a,aU];change 3+_=3*(1+_);lia
theorem oB{l:List Ent}{a b c:Nat}(h:((l++[((a,b),c)]).map (·.1)).Nodup):(l.map (·.1)).Nodup/\(a,b)∉l.map (·.1):=by rw[aL,bV] at h;show⟨h.1,λz=>?_⟩;show h.2.2 _ z (a,b) ∅ rfl
theorem oO{l:List Ent}{a b c:Nat}(h:(a,b)∉l.map (·.1)):cn (l.map bj) (ky a b) (V.int (c:Int))=(l++[((a,b),c)]).map bj:=by rw[om _ (fE.mpr h),aL];rfl
def fc(t:Tri):List (Nat×Nat):=[(t.1,t.2.1),(t.2.1,t.2.2),(t.2.2,t.1)]
def DP(vs:List V)(H:Hp)(Q:VK)(t:Addr)(x:Tri):Prop:=vs=[.ref t]/\H t=some (.tup [.int (x.1:Int),.int (x.2.1:Int),.int (x.2.2:Int)])/\
 ∀r zs H',H r=none->Same H H'->H' r=some (.lst zs)->SdsAt H' zs (fc x)->Q (.ref r) H'
def sJ:Sp:=λvs H Q _=>Exists (Ex2 (DP vs H Q))
def CH(vs:List V)(H:Hp)(Q:VK)(T:Addr)(a:List V)(ts:List Tri):Prop:=vs=[.ref T]/\H T=some (.lst a)/\aA H a ts/\ts.length<=400/\((ents ts).map (·.1)).Nodup/\
 ∀D H',H D=none->Same H H'->H' D=some (.dT ((ents ts).map bj))->Q (.ref D) H'
def jG:Sp:=λvs H Q _=>Exists (Ex3 (CH vs H Q))
def iJ(ts:List Tri)(x:Tri):Bool:=(fc x).all λs=>decide (s∉(ents ts).map (·.1))
def FU(vs:List V)(H:Hp)(Q:VK)(D t:Addr)(ts:List Tri)(x:Tri):Prop:=vs=[.ref D,.ref t]/\H D=some (.dT ((ents ts).map bj))/\H t=some (.tup [.int (x.1:Int),.int (x.2.1:Int),.int (x.2.2:Int)])/\
 ∀H',Same H H'->Q (.bl (iJ ts x)) H'
def tI:Sp:=λvs H Q _=>Exists (Ex4 (FU vs H Q))
section
theorem oC:aK ["_law_triple","_law_a","_law_b","_law_c"] ["_law_triple"] (ao pq):=⟨rfl,rfl,rfl,⋯,rfl,⋯,⋯⟩
theorem EA{f:Addr}(U:Fun K "_law_sides" "_law_sides" pq f fd):ai P w K mg base CX0 1 f fd ["_law_triple"] sJ:=by
 show U.ok oC (by rintro _ _ _ _ ⟨_,_,rfl,_⟩;rfl) λp A outer s H vs Q E u h=>?_
 obtain⟨t,x,rfl,c,q⟩:=h;show⟨_,ah (ff (pv 0) (cT rfl (aR (gx 1 oC.nd) (aR (gx 2 oC.nd) (aR (gx 3 oC.nd) cP)))))
  (ak (aD (bT (ae (aJ (ae (pv 1) (pa1 (pv 2)))) (ae (aJ (ae (pv 2) (pa1 (pv 3)))) (pa1 (aJ (ae (pv 3) (pa1 (pv 1)))))))))),?_⟩
 show⟨_,rfl,t,_,rfl,SqT.of c,rfl,_,_,rfl,_,_,rfl,_,_,rfl,rfl,?_⟩;show⟨_,rfl,_,rfl,lit2,λd H1 h1 s1 e=>?_⟩;show⟨_,rfl,_,rfl,lit2,λg H2 h2 s2 i=>?_⟩;show⟨_,rfl,_,rfl,lit2,λj v y a l=>?_⟩;show⟨lit3,λr m n b o=>?_⟩;show q r _ m (((s1.trans s2).trans a).free n) (((s1.trans s2).trans a).trans b) o (.cons ⟨d,rfl,((s2.trans a).trans b) _ _ e⟩ (.cons ⟨g,rfl,(a.trans b) _ _ i⟩ (.cons ⟨j,rfl,b _ _ l⟩ .nil)))
theorem lC:aK ["_law_triples","_law_thirds_here","_law_a","_law_b","_law_c"] ["_law_triples"] (ao oI):=⟨rfl,rfl,rfl,⋯,rfl,⋯,⋯⟩
theorem C3{f:Addr}(U:Fun K "_law_thirds" "_law_thirds" oI f fd):ai P w K mg base CX0 1 f fd ["_law_triples"] jG:=by
 show U.ok lC (by rintro _ _ _ _ ⟨_,_,_,rfl,_⟩;rfl) λOZ A outer s H vs Q E L h=>?_
 obtain⟨T,M,ts,rfl,r,u,hl,v,q⟩:=h;have g:=cU L;show⟨_,ah (sx 1 lC.nd w4)
  (ah (cR cY rfl (bW (pv 0)) (cT rfl (aR (gx 2 lC.nd) (aR (gx 3 lC.nd) (aR (gx 4 lC.nd) cP))))
   (ah (i7 g (pv 1) (aJ (ae (pv 2) (pa1 (pv 3)))) (pv 4) rfl)
   (ah (i7 g (pv 1) (aJ (ae (pv 3) (pa1 (pv 4)))) (pv 2) rfl)
   (ak (i7 g (pv 1) (aJ (ae (pv 4) (pa1 (pv 2)))) (pv 3) rfl)))))
  (ak (aD (pv 1)))),?_⟩
 have ab:=line5000;have hlen:=aH u;show λD H1 h1 s1 N=>?_;show⟨_,rfl,T,rfl,⟨_,SqL.of (s1 _ _ r)⟩,eL (K:=[]) (a:=T) (xs:=M) (λi Z H2=>∃j l m,Z=[some (.ref T),some (.ref D),j,l,m]/\Same H H2/\H2 D=some (.dT ((ents (ts.take i)).map bj)))
  ⟨none,none,none,rfl,s1,N⟩ (by rintro i Z H2 _ ⟨_,_,_,_,e,_⟩;show SqL.of (e _ _ r)) ?_ ?_⟩
 .rintro i x Z H2 hi ⟨j,l,m,rfl,sm,d⟩;obtain⟨⟨a,b,c⟩,y,t,rfl,n⟩:=cj u hi;have n:H t=some (.tup [.int (a:Int),.int (b:Int),.int (c:Int)]):=n;have ad:i<ts.length:=(aI.mp y).1;have O:ts.take (i+1)=ts.take i++[(a,b,c)]:=by rw[bG,y];rfl
  have z:((ents (ts.take (i+1))).map (·.1)).Nodup:=by rw[<-ig (i+1) ts,fJ,aL,bV] at v;show v.1
  have B:ents (ts.take (i+1))=((ents (ts.take i)++[((a,b),c)])++[((b,c),a)])++[((c,a),b)]:=by rw[O,fJ];simp[ents]
  rw[B] at z;obtain⟨R,S⟩:=oB z;obtain⟨X,Y⟩:=oB R;obtain⟨_,n1⟩:=oB X;have l0:=dA (ts.take i);rw[bu] at l0;show⟨t,_,rfl,SqT.of (sm _ _ n),rfl,_,_,rfl,_,_,rfl,_,_,rfl,rfl,?_⟩;show⟨_,rfl,_,rfl,_,rfl,_,rfl,lit2,λt1 H3 g1 C y3=>?_⟩;show⟨D,_,rfl,DPut.t (k:=ky a b) (C _ _ d) y3 (by rw[ay];lia),?_⟩;rw[oO n1];walk_at"H3 D H4 k4 y4";show⟨_,rfl,_,rfl,_,rfl,_,rfl,lit2,λt2 H5 g2 I y5=>?_⟩;show⟨D,_,rfl,DPut.t (k:=ky b c) (I _ _ y4) y5 (by rw[ay,aU,bY];lia),?_⟩;rw[oO Y];walk_at"H5 D H6 k6 y6";show⟨_,rfl,_,rfl,_,rfl,_,rfl,lit2,λt3 H7 g3 J y7=>?_⟩;show⟨D,_,rfl,DPut.t (k:=ky c a) (J _ _ y6) y7 (by rw[ay,aU,aU,bY,bY];lia),?_⟩;rw[oO S];walk_at"H7 D H8 k8 y8";show⟨_,_,_,rfl,λp o e=>?_,by rw[y8,B]⟩;have nb:=au e h1;show (k8 p nb).trans (J _ _ ((k6 p nb).trans (I _ _ ((k4 p nb).trans (C _ _ (sm _ _ e))))))
 rintro Z H2 ⟨j,l,m,rfl,sm,d⟩;rw[hlen,cX] at d;show⟨_,rfl,q D H2 h1 sm d⟩
end
theorem Fw:bootBuiltins "all" = some (.builtin "all"):=⋯
theorem ik:bootBuiltins "sorted" = some (.builtin "sorted"):=⋯
def flat(ts:List Tri):List Nat:=ts.flatMap λt=>[t.1,t.2.1,t.2.2]
def kb(c:Nat):Key×V:=(Sum.inl (c:Int),V.bl true)
theorem Jt{c d:Nat}:(kb c).1=(Sum.inl (d:Int):Key)↔c=d:=by
 unfold kb;constructor
 .intro h;injection h with h;lia
 rintro rfl;rfl
theorem I0(dd:List Nat)(c:Nat):cn (dd.map kb) (Sum.inl (c:Int)) (V.bl true)=(if c∈dd then dd else dd++[c]).map kb:=by
 by_cases h:c∈dd
 .rw[OU h];have ha:((dd.map kb).any λa=>decide (a.1=(Sum.inl (c:Int):Key)))=true:=qG.mpr ⟨kb c,ar.mpr ⟨c,h,rfl⟩,OV rfl⟩;unfold cn;rw[OU ha,bC];show iQ λx _=>?_;change (if (kb x).1=(Sum.inl (c:Int):Key) then ((kb x).1,V.bl true) else kb x)=kb x
  split<;>rfl
 rw[OT h,om,aL]
 .rfl
 cases e:bh (dd.map kb) (Sum.inl (c:Int)) with
 |none=>rfl
 |some v=>
  have:=FF e;rw[bC] at this;obtain⟨x,hx,ex⟩:=ar.mp this;show (h (Jt.mp ex ▸ hx)).elim
def Cs(ts:List Tri)(cs:List Nat):Prop:=cs.Pairwise (· < ·)/\∀c,c∈cs↔c∈flat ts
theorem rg{dd:List Nat}{ms:List Int}(nd:dd.Nodup)(f:ms.Perm (dd.map λc:Nat=>(c:Int)))(d:ms.Pairwise (·<=·)):∃cs:List Nat,ms=cs.map (λc:Nat=>(c:Int))/\cs.Pairwise (· < ·)/\cs.Perm dd:=by
 have e:ms=(ms.map Int.toNat).map (λc:Nat=>(c:Int)):=by
  rw[bC];have:∀x∈ms,((λc:Nat=>(c:Int)) ∘ Int.toNat) x=id x:=by intro x hx;obtain⟨c,_,rfl⟩:=ar.mp (f.mem_iff.mp hx);simp
  rw[iQ this,mI]
 have pm:(ms.map Int.toNat).Perm dd:=by
  have:=f.map Int.toNat;rw[bC] at this;have g:dd.map (Int.toNat ∘ λc:Nat=>(c:Int))=dd:=by have:∀x∈dd,(Int.toNat ∘ λc:Nat=>(c:Int)) x=id x:=λx _=>∅;rw[iQ this,mI]
  rw[g] at this;show this
 show⟨ms.map Int.toNat,e,?_,pm⟩;have i:(ms.map Int.toNat).Nodup:=pm.nodup_iff.mpr nd;rw[e] at d;rw[ie] at d;have:=d.and i;show this.imp λ{a b} h=>?_;have h1:=h.1;have h2:=h.2;lia
def B8(vs:List V)(H:Hp)(Q:VK)(T:Addr)(a:List V)(ts:List Tri):Prop:=vs=[.ref T]/\H T=some (.lst a)/\aA H a ts/\ts.length<=20/\
 ∀r cs H',H r=none->Same H H'->H' r=some (.lst (nV cs))->Cs ts cs->cs.length<=3*ts.length->Q (.ref r) H'
def iU:Sp:=λvs H Q _=>Exists (Ex3 (B8 vs H Q))
section
theorem II:aK ["_law_thirds_here","_law_triple"] ["_law_thirds_here","_law_triple"] (ao qd):=⟨rfl,rfl,rfl,⋯,rfl,⋯,⋯⟩
theorem GV{f B:Addr}{fd C:FuncData}(U:Fun K "_law_free" "_law_free" qd f fd)(T:cq mg)(G:Use P w K mg base 1 "_law_sides" ["_law_triple"] sJ B C) :
  ai P w K mg base CX0 2 f fd ["_law_thirds_here","_law_triple"] tI:=by
 show U.ok II (by rintro _ _ _ _ ⟨_,_,_,_,rfl,_⟩;rfl) λS A outer s H vs Q E l h=>?_
 obtain⟨D,t,ts,x,rfl,I,J,q⟩:=h;have L:=cU l;show⟨_,ak (aD (cz (BH rfl) (by rfl) T.all Fw (pa1 (dB (N:=["_law_side","_law_thirds_here"]) (fr:=[none,some 0]) (c9 ⋯ rfl rfl ⋯ ⋯ (by walk_at"cs") (by walk_at"ct")) rfl (bW (uc G l (pa1 (pv 1))))
    (λX s' H' fp OY=>⟨gx 0 (⋯:(["_law_side","_law_thirds_here"]:List Str).Nodup),eO,tU (nX L (pv 0) (pv 1))⟩))))),?_⟩
 have Y:=line5000;show⟨_,rfl,t,x,rfl,J,λr zs H1 ab s1 m n=>?_⟩;have M:=aH n;show⟨r,rfl,⟨_,SqL.of m⟩,λZ_ p=>dH (K:=[]) (a:=r) (xs:=zs) (λi Z ys H'=>∃o,Z=[o,some (.ref D)]/\ys=(((fc x).take i).map λs=>decide (s∉(ents ts).map (·.1))).map V.bl/\Same H1 H'/\H' Z_=some (.lst ys)) ⟨none,rfl,rfl,bL p,aN⟩ (by rintro i Z ys H' _ ⟨_,_,_,e,_⟩;show SqL.of (e _ _ m)) ?_ ?_⟩
 .rintro i y Z ys H' hi ⟨o,rfl,rfl,d,g⟩;obtain⟨⟨a,b⟩,u,c,rfl,O⟩:=cj n hi;have ad:=(aI.mp u).1;show⟨_,rfl,_,rfl,D,_,rfl,DGet.t (k:=ky a b) (d _ _ (s1 _ _ I)) (d _ _ O),g,?_,λH3 k3 R=>⟨_,rfl,?_,λb o e=>(k3 b (au e p)).trans (d _ _ e),R⟩⟩
  .rw[ay,ay,bu];have:(fc x).length=3:=rfl;lia
  rw[bG,u];change _=((((fc x).take i)++[(a,b)]).map _).map _;rw[aL,aL]
  congr 1
  change [V.bl _]=[V.bl _]
  congr 2
  cases j:bh ((ents ts).map bj) (ky a b) with
  |none=>show (OV (fE.mp j)).symm
  |some v=>show (OW λz=>by rw[fE.mpr z] at j;cases j).symm
 rintro Z ys H' ⟨o,rfl,rfl,d,g⟩;show⟨Z_,(fc x).map λs=>decide (s∉(ents ts).map (·.1)),rfl,SqL.of ?_,?_⟩
 .rw[g,M,cX]
 rw[LJ];show q _ (s1.trans d)
theorem nP:aK ["_law_triples","_law_found","_law_triple","_law_corner"] ["_law_triples"] (ao oi):=⟨rfl,rfl,rfl,⋯,rfl,⋯,⋯⟩
theorem Cj{f:Addr}(U:Fun K "_law_corners" "_law_corners" oi f fd)(R:mg "sorted" = none):ai P w K mg base CX0 1 f fd ["_law_triples"] iU:=by
 show U.ok nP (by rintro _ _ _ _ ⟨_,_,_,rfl,_⟩;rfl) λOZ A outer s H vs Q E S h=>?_
 obtain⟨T,X,ts,rfl,J,L,hl,q⟩:=h;have Y:=cU S;show⟨_,ah (sx 1 nP.nd oo)
  (ah (cR cY rfl (bW (pv 0)) (gx 2 nP.nd)
   (ak (cR cY rfl (lZ (pv 2)) (gx 3 nP.nd) (ak (i7 Y (pv 1) (pv 3) fj rfl)))))
  (ak (aD (cz (kZ rfl) (by rfl) R ik (pa1 (pv 1)))))),?_⟩
 have ad:=line5000;have hlen:=aH L;show λD H1 h1 s1 y1=>?_;show⟨_,rfl,T,rfl,⟨_,SqL.of (s1 _ _ J)⟩,eL (K:=[]) (a:=T) (xs:=X) (λi Z H2=>∃v g dd,Z=[some (.ref T),some (.ref D),v,g]/\Same H H2/\H2 D=some (.dK (dd.map kb))/\dd.Nodup/\(∀c,c∈dd↔c∈flat (ts.take i))/\dd.length<=3*i)
  ⟨none,none,[],rfl,s1,y1,jq,by simp[flat],bE _⟩ (by rintro i Z H2 _ ⟨_,_,_,_,e,_⟩;show SqL.of (e _ _ J)) ?_ ?_⟩
 .rintro i x Z H2 hi ⟨v,g,dd,rfl,sm,m,nd,hm,hz⟩;obtain⟨⟨a,b,c⟩,M,t,rfl,r⟩:=cj L hi;have r:H t=some (.tup [.int (a:Int),.int (b:Int),.int (c:Int)]):=r;have ag:i<ts.length:=(aI.mp M).1;have et:flat (ts.take (i+1))=flat (ts.take i)++[a,b,c]:=by rw[bG,M];simp[flat]
  show⟨_,rfl,t,rfl,⟨_,SqT.of (sm _ _ r)⟩,Hy (K:=[]) (a:=t) (xs:=[.int (a:Int),.int (b:Int),.int (c:Int)]) (λj Z l=>∃g dd,Z=[some (.ref T),some (.ref D),some (.ref t),g]/\Same H l/\l D=some (.dK (dd.map kb))/\dd.Nodup/\(∀z,z∈dd↔z∈flat (ts.take i)++[a,b,c].take j)/\dd.length<=3*i+j)
   ⟨_,dd,rfl,sm,m,nd,‹hm›,hz⟩ (by rintro j Z l _ ⟨_,_,_,e,_⟩;show SqT.of (e _ _ r)) ?_ ?_⟩
  .rintro j y Z l d ⟨g,dd,rfl,B,C,u,I,ab⟩;obtain⟨n,N,rfl⟩:∃n:Nat,[a,b,c][j]?=some n/\y=.int (n:Int):=by
    match j,d with
    |0,d=>simp at d;show⟨a,rfl,d.symm⟩
    |1,d=>simp at d;show⟨b,rfl,d.symm⟩
    |2,d=>simp at d;show⟨c,rfl,d.symm⟩
    |j+3,d=>simp at d
   have al:j<3:=(aI.mp N).1;show⟨_,rfl,_,rfl,D,_,rfl,DPut.k (k:=Sum.inl (n:Int)) C (by rw[ay];lia),?_⟩;rw[I0];walk_at"l D H4 k4 y4";show⟨_,_,rfl,λb' o e=>(k4 b' (au e h1)).trans (B _ _ e),y4,?_,λz=>?_,?_⟩
   .split
    .exact u
    rename_i h;show bV.mpr ⟨u,∅,λx hx y hy=>by rw[aQ.mp hy];rintro rfl;show h hx⟩
   .rw[bG,N,<-Am];change _↔z∈(flat (ts.take i)++[a,b,c].take j)++[n];rw[a_,<-I z]
    split
    .rename_i h;constructor
     .exact .inl
     rintro (h' | h')
     .exact h'
     rw[aQ.mp h'];show h
    rw[a_]
   split
   .lia
   rw[aU,bY];lia
  rintro Z l ⟨g,dd,rfl,B,C,u,I,ab⟩;show⟨_,_,dd,rfl,B,C,u,λz=>?_,?_⟩
  .rw[et];show I z
  have:([V.int (a:Int),.int (b:Int),.int (c:Int)]:List V).length=3:=rfl;lia
 rintro Z H2 ⟨v,g,dd,rfl,sm,m,nd,hm,hz⟩;rw[hlen,cX] at hm;show⟨_,rfl,D,rfl,.inl ⟨_,m⟩,λks vs hk=>.inl ⟨dd.map (λc:Nat=>(c:Int)),?_,by rw[ay];lia,λp ms O pm ps=>?_⟩⟩
 .rcases hk with ⟨kvs,e,rfl,_⟩|⟨kvs,as,e,_⟩
  .rw[m] at e;cases e;rw[bC,bC];rfl
  rw[m] at e;cases e
 obtain⟨cs,rfl,pl,pc⟩:=rg nd pm ps;have am:=pc.length_eq;have e:(cs.map (λc:Nat=>(c:Int))).map V.int=nV cs:=by rw[bC];rfl
 rw[e];show q p cs _ (sm.free O) (sm.trans (bL O)) aN ⟨pl,λc=>by rw[pc.mem_iff];show hm c⟩ ()
end
theorem i9(l:List Nat):(nV l).all fV=true:=by rw[kH];intro v a;obtain⟨n,_,rfl⟩:=ar.mp a;rfl
theorem gX(c:Nat)(l:List Nat):inV (V.int (c:Int)) (nV l)=decide (c∈l):=by
 unfold inV nV;rw[uG,fm,decide_eq_true_eq,qG];constructor
 .rintro⟨x,hx,e⟩;have:(x:Int)=(c:Int):=by simpa [eqV] using e
  have:x=c:=();rw[<-this];show hx
 intro h;show⟨c,h,by simp[eqV]⟩
theorem Ht(l:List Nat):inV V.non (nV l)=false:=by unfold inV nV;rw[uG,LK];intro x _;simp[eqV]
theorem lx{α:Type}[DecidableEq α]{l m:List α}(h:l.Nodup)(b:∀x∈l,x∈m):l.length<=m.length:=by
 induction l generalizing m with
 |nil=>show bE _
 |cons a l c=>
  rw[cJ] at h;have ha:=b a ∅;have:=c (m:=m.erase a) h.2 λx hx=>by
   have d:x≠a:=λz=>h.1 (z ▸ hx);show (Az d).mpr (b x (bJ _ hx))
  rw[LZ ha] at this;have hpos:0<m.length:=L5 ha;rw[cE];lia
theorem gP{K:W.Frag}{D:Addr}{l:List Ent}{ks vs:List V}(a:H D=some (.dT (l.map bj)))(c:DKeys H D ks vs):SdsAt H ks (l.map (·.1)):=by
 rcases c with ⟨kvs,e,_⟩|⟨kvs,as,e,b,rfl,_⟩
 .rw[a] at e;cases e
 rw[a] at e;cases e;rename_i d;clear a d;induction l generalizing as with
 |nil=>cases b;show .nil
 |cons x l f=>
  cases b with
  |cons h t=>show .cons ⟨_,rfl,h⟩ (f _ t)
theorem rO{ks:List V}{ss:List (Nat×Nat)}(h:SdsAt H ks ss):Tups K H ks (ss.map λs=>[(s.1:Int),(s.2:Int)]):=by
 induction h with
 |nil=>show .nil
 |cons q _ b=>
  obtain⟨a,rfl,ha⟩:=q;show .cons ⟨a,rfl,SqT.of ha,∅⟩ b
theorem n_{ks:List V}{ss:List (Nat×Nat)}(h:SdsAt H ks ss):∀a:List Nat,(∀i∈a,i<ks.length)->SdsAt H (a.map λi=>ks.getD i .non) (a.map λi=>ss.getD i (0,0))
 | [],_=>.nil
 |i::a,hi=>by
  have b:=hi i ∅;have h1:ks[i]?=some ks[i]:=aX b;obtain⟨y,c,hf⟩:=cj h h1;show .cons ?_ (n_ h a λj d=>hi j (bJ _ d));simp only[List.getD,h1,c,AM];show hf
theorem rD{ss:List (Nat×Nat)}{a:List Nat}(h:a.Perm (List.range ss.length)):(a.map λi=>ss.getD i (0,0)).Perm ss:=by
 have:=h.map λi=>ss.getD i (0,0);show this.trans (mB ?_);show Ar λi=>?_;rw[bf];by_cases hi:i<ss.length
 .rw[LW hi];simp[List.getD,aX hi]
 rw[uH ‹hi›,uH ()];rfl
theorem JH(l:List Nat):Dts K H (nV l) (l.map λn:Nat=>PyData.int (n:Int)):=by
 induction l with
 |nil=>show .nil
 |cons a l b=>show .cons (.int _) b
theorem JK(l:List Nat):(PyData.list (l.map λn:Nat=>PyData.int (n:Int))).depth<=3:=by
 have:PyData.depthAll (l.map λn:Nat=>PyData.int (n:Int))<=1:=by
  induction l with
  |nil=>simp[PyData.depthAll]
  |cons a l b=>simp only[aY,PyData.depthAll,PyData.depth];lia
 simp only[PyData.depth];lia
theorem Fi(ds:List PyData):PyData.eqv (.list ds) (.list [])=ds.isEmpty:=by cases ds<;>simp[PyData.eqv,PyData.eqvAll]
structure Run(ts:List Tri)(v x0:Nat)(F:List Nat):Prop where
 nd:F.Nodup
 key:∀p∈F,∃q,En ts v p q
 ch:∀i p q,F[i]?=some p->F[i+1]?=some q->En ts v p q
 x1:x0∈F
section
variable {ts:List Tri}{v x0 p c o:Nat}{F:List Nat}
theorem F5(h:∃q,En ts v x0 q):Run ts v x0 [x0]:=⟨∅,λp a=>by rw[aQ.mp a];show h,λi p q _ h2=>by simp at h2,∅⟩
theorem F7(r:Run ts v x0 F)(d:F.getLast?=some p)(e:En ts v p c)(g:∃q,En ts v c q)(j:c∉F):Run ts v x0 (F++[c]):=by
 show⟨bV.mpr ⟨r.nd,∅,λx hx y l=>by rw[aQ.mp l];rintro rfl;show j hx⟩,λq m=>?_,λi a b h1 h2=>?_,dD _ r.x1⟩
 .rcases a_.mp m with h|h
  .exact r.key q h
  rw[aQ.mp h];show g
 by_cases hi:i+1<F.length
 .rw[ef hi] at h2;rw[ef ()] at h1;show r.ch i a b h1 h2
 have n:=(aI.mp h2).1;rw[aU,bY] at n;have f:i+1=F.length:=();rw[gi,<-f,Nat.add_sub_cancel] at d;rw[ef (),d] at h1;rw[f,iO (aq _),Mq] at h2;cases h1;cases h2;show e
theorem F6(r:Run ts v x0 F)(c:F.head?=some p)(e:En ts v o p)(d:o∉F):Run ts v x0 (o::F):=by
 show⟨cJ.mpr ⟨d,r.nd⟩,λq f=>?_,λi a b h1 h2=>?_,bJ _ r.x1⟩
 .rcases aG.mp f with rfl|h
  .exact⟨p,e⟩
  show r.key q h
 cases i with
 |zero=>
  rw[LU,<-Aw,c] at h2;cases h1;cases h2;show e
 |succ i=>
  rw[LU] at h1 h2;show r.ch i a b h1 h2
theorem sP(r:Run ts v x0 F)(b:ts.length<=20):F.length<=60:=by
 have:=lx (m:=(ents ts).map (·.1.2)) r.nd λx hx=>by
  obtain⟨q,a⟩:=r.key x hx;show ar.mpr ⟨_,a,rfl⟩
 rw[ay,dA] at this;lia
theorem tK(r:Run ts v x0 F):F≠[]:=λz=>by have:=r.x1;rw[z] at this;cases this
theorem yF(h:F≠[]):∃p,F.getLast?=some p:=⟨_,List.getLast?_eq_some_getLast h⟩
theorem Hv(h:F≠[]):∃p,F.head?=some p:=by
 cases F with
 |nil=>show (h rfl).elim
 |cons a l=>show⟨a,rfl⟩
theorem JS{α:Type}{l:List α}{x:α}(h:l[l.length-1]?=some x):atI l (-1)=some x:=by have a:=(aI.mp h).1;unfold atI ixN;rw[OT ⋯,OU ()];rw[show ((-1:Int)+(l.length:Int)).toNat=l.length-1 by lia];show h
theorem HP(h:F.getLast?=some p):atI (nV F) (-1)=some (V.int (p:Int)):=by show JS ?_;rw[bz,nV,bf,<-gi,h];rfl
theorem yV(h:F.head?=some p):atI (nV F) 0=some (V.int (p:Int)):=by
 have:(nV F)[0]?=some (V.int (p:Int)):=by rw[nV,bf,<-Aw,h];rfl
 show bO this
end
theorem vS{c:TT}{tb:TS}{D:Ends}(R:St->Hp->Prop)(h:∀a:St->Hp->Prop,(∀Z H,R Z H->a Z H)->tF c tb {D with nx:=a} Z H)(out:∀Z H,R Z H->D.nx Z H):tF c tb D Z H:=h D.nx out
theorem Cd{α β:Type}{F G:α->β->Prop}{xs:List α}{ys:List β}(h:∀x y,x∈xs->F x y->G x y)(p:Paired F xs ys):Paired G xs ys:=by
 induction p with
 |nil=>show .nil
 |cons a _ b=>show .cons (h _ _ ∅ a) (b λx y hx=>h x y (bJ _ hx))
def FV(vs:List V)(H:Hp)(Q:VK)(T:Addr)(a:List V)(ts:List Tri)(v:Nat):Prop:=vs=[.ref T,.int (v:Int)]/\H T=some (.lst a)/\aA H a ts/\ts.length<=20/\Good ts/\
 ∀r b fs H',H r=none->Same H H'->H' r=some (.lst b)->kh H' b fs->Fans (En ts) v fs->fs.length<=60->Q (.ref r) H'
def zj:Sp:=λvs H Q _=>Exists (Ex4 (FV vs H Q))
section
theorem jX:aK ["_law_triples","_law_corner","_law_thirds_here","_law_left","_law_found","_law_fan"] ["_law_triples","_law_corner"] (ao qe):=⟨rfl,rfl,rfl,⋯,rfl,⋯,⋯⟩
theorem GY{f f1:Addr}{fd d1:FuncData}(U:Fun K "_law_fans" "_law_fans" qe f fd)(mS:mg "sorted" = none)(G:Use P w K mg base 1 "_law_thirds" ["_law_triples"] jG f1 d1) :
  ai P w K mg base CX0 2 f fd ["_law_triples","_law_corner"] zj:=by
 show U.ok jX (by rintro _ _ _ _ ⟨_,_,_,_,rfl,_⟩;rfl) λOZ A outer s H vs Q E hr h=>?_
 obtain⟨T,vt,ts,v,rfl,hT,ht,hl,g,q⟩:=h;have hu:=cU hr;show⟨_,ah (sx 2 jX.nd (uc G hr (pa1 (pv 0))))
  (ah (oP (i:=3) (N:=["_law_a","_law_p","_law_corner"]) (fr:=[none,none,some 1]) (g:=kl [] 2 (fU (cI 0) (fU (cI 1) km))) (c9 ⋯ rfl rfl ⋯ ⋯ (by walk_at"cs") (by walk_at"ct")) rfl (bW (cz (kZ rfl) (by rfl) mS ik (pa1 (pv 2))))
    (λC' s' H' fp OY=>⟨cT rfl (aR (gx 0 (⋯:(["_law_a","_law_p","_law_corner"]:List Str).Nodup)) (aR (gx 1 (⋯:(["_law_a","_law_p","_law_corner"]:List Str).Nodup)) cP)),gR (a7 dM (pv 0) (pv 2) (nomark _)),pv 1⟩) jX.nd rfl (.inl rfl))
  (ah (sx 4 jX.nd (bT fg))
  (ah (lE cY (a7 (tV hr.units) (pv 3) (bT fg) (nomark _)) (ah (sx 5 jX.nd (bT (pa1 (ixx cQ (pv 3) aj))))
   (ah (lE cY (PW.pt (iF (a7 rE (w5 hu (pv 2) (aJ (ae (pv 1) (pa1 (ixx cQ (pv 5) (jh ja aj))))) ⟨rfl,rfl,rfl,rfl⟩) (pv 3) rfl) (iy (a7 ij (iC hu (pv 2) (aJ (ae (pv 1) (pa1 (ixx cQ (pv 5) (jh ja aj))))) (λ_ _=>rfl)) (pv 5) rfl)))) (ak (du (dJ eJ gK gL eZ (pv 5) (pa1 (iC hu (pv 2) (aJ (ae (pv 1) (pa1 (ixx cQ (pv 5) (jh ja aj))))) (λ_ _=>rfl)))))))
   (ah (lE cY (PW.pt (iF (gB (pJ hu (aJ (ae (ixx cQ (pv 5) aj) (pa1 (pv 1)))) (pv 2))) (iy (a7 ij (iC hu (pv 2) (aJ (ae (ixx cQ (pv 5) aj) (pa1 (pv 1)))) (λ_ _=>rfl)) (pv 5) rfl)))) (ak (du (dJ eJ AR MO v9 (pv 5) (ae aj (pa1 (iC hu (pv 2) (aJ (ae (ixx cQ (pv 5) aj) (pa1 (pv 1)))) (λ_ _=>rfl))))))))
   (ah (oP (i:=3) (N:=["_law_p","_law_fan"]) (fr:=[none,some 5]) (tt:=iI (tOp (rIn [] true) (aW 0) (aW 1))) (c9 ⋯ rfl rfl ⋯ ⋯ (by walk_at"cs") (by walk_at"ct")) rfl (bW (pv 3))
    (λC' s' H' fp OY=>⟨gx 0 (⋯:(["_law_p","_law_fan"]:List Str).Nodup),gR (a7 ij (pv 0) (pv 1) rfl),pv 0⟩) jX.nd rfl (.inl rfl))
   (ak (du (dJ eJ gK gL eZ (pv 4) (pa1 (pv 5))))))))))
  (ak (aD (pv 4)))))),?_⟩
 have cy:=line5000;have k:=g.sk;show⟨_,rfl,T,vt,ts,rfl,hT,ht,(),g.nd,λD H1 cB s1 hD=>?_⟩;show⟨_,rfl,D,rfl,.inr ⟨_,hD⟩,λks vs hk=>.inr ⟨_,rO (gP (K:=[]) hD hk),?_,λp ix O pm _=>?_⟩⟩
 .rw[aH (gP (K:=[]) hD hk),ay,dA];lia
 have bv:=gP (K:=[]) hD hk;have lk:=aH bv;walk_at"H1 p O H2 s2 y2";have b6:∀i∈ix,i<ks.length:=λi hi=>ic.mp (pm.mem_iff.mp hi);have a1:=n_ (Paired.imp' (λ_ _ ⟨a,e,h⟩=>⟨a,e,s2 _ _ h⟩) bv:SdsAt H2 ks ((ents ts).map (·.1))) ix b6;have al:(ix.map λi=>((ents ts).map (·.1)).getD i (0,0)).Perm ((ents ts).map (·.1)):=rD (by rw[<-lk];show pm);generalize (ix.map λi=>((ents ts).map (·.1)).getD i (0,0))=ss at a1 al;generalize (ix.map λi=>ks.getD i .non)=zs at a1 y2;have lz:=aH a1;have b7:ss.length<=60:=by rw[al.length_eq,ay,dA];lia
 show⟨p,rfl,⟨_,SqL.of y2⟩,λZ_ hZ=>dH (K:=[]) (a:=p) (xs:=zs) (λi Z ys H'=>∃o1 o2,Z=[o1,o2,some (.int (v:Int))]/\ys=nV (((ss.take i).filter λs=>decide (s.1=v)).map (·.2))/\Same H2 H'/\H' Z_=some (.lst ys)) ⟨none,none,rfl,rfl,bL hZ,aN⟩ (by rintro i Z ys H' _ ⟨_,_,_,_,e,_⟩;show SqL.of (e _ _ y2)) ?_ ?_⟩
 .rintro i y Z ys H' hi ⟨o1,o2,rfl,rfl,L,R⟩;obtain⟨⟨a,b⟩,hs,c,rfl,J⟩:=cj a1 hi;have et:ss.take (i+1)=ss.take i++[(a,b)]:=by rw[bG,hs];rfl
  show⟨c,_,rfl,SqT.of (L _ _ J),rfl,_,_,rfl,_,_,rfl,rfl,?_⟩;show⟨_,rfl,_,rfl,rfl,_,rfl,?_⟩;change if decide (V.int (a:Int)=V.int (v:Int))=true then _ else _
  rw[kq];by_cases a6:a=v
  .rw[OV (by rw[a6])];show aO ⟨_,rfl,R,?_,λH3 k3 y3=>⟨_,_,rfl,?_,λb o e=>(k3 b (au e hZ)).trans (L _ _ e),y3⟩⟩
   .rw[bz,ay];have h1:=eg (λs:Nat×Nat=>decide (s.1=v)) (ss.take i);rw[bu] at h1;lia
   rw[et,fq,dR,OU (OV a6),jo,aL,<-fi];rfl
  rw[OW ()];show aB ⟨_,_,rfl,?_,L,R⟩;rw[et,fq,dR,OT (by simp[a6]),jo,eG]
 rintro Z ys H3 ⟨o1,o2,rfl,rfl,L,R⟩;rw[lz,cX] at R;have a8:∀x,x∈((ss.filter λs=>decide (s.1=v)).map (·.2))↔∃q,En ts v x q:=by
  intro x;rw[ar];constructor
  .rintro⟨⟨a,b⟩,hm,rfl⟩;rw[dG,al.mem_iff] at hm;obtain⟨hm,ha⟩:=hm;have ha:a=v:=OX ha;obtain⟨⟨e1,c⟩,he,e2⟩:=ar.mp hm;have e2:e1=(a,b):=e2;subst e2 ha;show⟨c,he⟩
  rintro⟨c,J⟩;show⟨(v,x),dG.mpr ⟨al.mem_iff.mpr (ar.mpr ⟨_,J,rfl⟩),OV rfl⟩,rfl⟩
 have bw:((ss.filter λs=>decide (s.1=v)).map (·.2)).Nodup:=by
  have b8:ss.Nodup:=al.nodup_iff.mpr g.nd;have:∀l:List (Nat×Nat),l.Nodup->((l.filter λs=>decide (s.1=v)).map (·.2)).Nodup:=by
   intro l;induction l with
   |nil=>intro _;show jq
   |cons x l ih=>
    intro h;rw[cJ] at h;rw[dR]
    split
    .rename_i hx;rw[aY,cJ];show⟨λz=>?_,ih h.2⟩;obtain⟨y,hy,e⟩:=ar.mp z;rw[dG] at hy;have h1:y.1=v:=OX hy.2;have h2:x.1=v:=OX hx;have:y=x:=kL (h1.trans h2.symm) e;show h.1 (this ▸ hy.1)
    show ih h.2
  show this ss b8
 have bA:((ss.filter λs=>decide (s.1=v)).map (·.2)).length<=60:=by rw[ay];show dn (eg _ _) b7
 generalize ((ss.filter λs=>decide (s.1=v)).map (·.2))=b9 at a8 bw bA R;have q3:=(s1.trans s2).trans L;show⟨bE _,λB H4 ca s4 y4=>?_⟩;have q4:=q3.trans s4;have cb:=((s2.trans L).trans s4) _ _ hD;show⟨λm Z H'=>∃v5 S lf B gs fs,Z=[some (V.ref T),some (.int (v:Int)),some (.ref D),some (.ref S),some (.ref B),v5]/\m=lf.length/\H B=none/\Same H H'/\H' D=some (.dT ((ents ts).map bj))/\H' S=some (.lst (nV lf))/\H' B=some (.lst gs)/\kh H' gs fs/\lf.Nodup/\
   (∀x∈lf,∃q,En ts v x q)/\(∀F∈fs,Fan (En ts) v F)/\(∀x,(∃q,En ts v x q)->x∈lf\/∃F∈fs,x∈F)/\(∀x∈lf,∀F∈fs,x∉F)/\(fs.Pairwise λF G=>∀x∈F,x∉G)/\fs.length+lf.length<=60/\V.ref B∉gs,
  ⟨_,none,Z_,b9,B,[],[],rfl,rfl,q3.free ca,q4,cb,s4 _ _ R,y4,.nil,bw,λx hx=>(a8 x).mp hx,∅,λx hx=>.inl ((a8 x).mpr hx),∅,List.Pairwise.nil,‹bA›,∅⟩,?_⟩
 rintro m Z H5 ⟨v5,S,lf,B,gs,fs,rfl,rfl,a9,sm,cc,ba,bK,bb,cd,bd,be,bi,bM,bN,hsz,bS⟩;show⟨_,rfl,bE _,λpe H6 cC s6 y6=>?_⟩;show⟨_,_,.lst (SqL.of (s6 _ _ ba)) (JH lf),.lst (SqL.of y6) .nil,dn (JK lf) ⋯,_,rfl,?_⟩;rw[OU rfl,Fi];cases lf with
 |nil=>
  show aB ?_;show⟨_,rfl,q B gs fs H6 a9 (sm.trans s6) (s6 _ _ bK) (bb.same s6) ⟨be,λx hx=>?_,bN⟩ (by simp at hsz;lia)⟩;show (bi x hx).resolve_left ∅
 |cons x0 lf=>
  show aO ?_;have ce:=bd x0 ∅;show⟨_,λZ' H' h=>h,?_⟩;show⟨_,rfl,S,_,0,V.int (x0:Int),rfl,rfl,SqL.of (s6 _ _ ba),yV rfl,lit1,λd H7 cf s7 y7=>?_⟩;have nD:∀{b:Addr}{ob:HO},H6 b=some ob->b≠d:=λe=>au e cf;have X:=s6 _ _ cc;have bl:=s6 _ _ ba;show vS (λZ H'=>∃F,Z=[some (V.ref T),some (.int (v:Int)),some (.ref D),some (.ref S),some (.ref B),some (.ref d)]/\Same H6 H'/\H' d=some (.lst (nV F))/\Run ts v x0 F/\∀p,F.getLast?=some p->∀q,En ts v p q->q∈x0::lf->q∈F) (λNX z=>?_) ?_
  .refine⟨λm Z H'=>∃F,Z=[some (V.ref T),some (.int (v:Int)),some (.ref D),some (.ref S),some (.ref B),some (.ref d)]/\m=1000-F.length/\Same H6 H'/\H' d=some (.lst (nV F))/\Run ts v x0 F,⟨_,[x0],rfl,rfl,s7,y7,F5 ce⟩,?_⟩;rintro m Z H8 ⟨F,rfl,rfl,Y,j,rn⟩;have bX:=sP rn hl;obtain⟨p,O⟩:=yF (tK rn);have ap:=HP O;show⟨_,rfl,D,rfl,.inr ⟨_,.inl (Y _ _ X)⟩,_,rfl,_,rfl,_,rfl,d,_,_,_,rfl,rfl,SqL.of j,ap,lit2,λk1 H9 g1 r y9=>?_⟩;have C:=Y.trans r;rcases xw g v p with ⟨c,J,e⟩|⟨J,e⟩
   .refine⟨_,e ▸ DGet.t (k:=ky v p) (C _ _ X) y9,_,rfl,S,_,rfl,.inl (SqL.of (C _ _ bl)),rfl,i9 _,_,rfl,?_⟩;change if (if false=true then _ else inV (V.int (c:Int)) (nV (x0::lf)))=true then _ else _
    rw[OT bB,gX];by_cases a2:c∈x0::lf
    .rw[OV a2];show aO ?_;show⟨_,rfl,_,rfl,_,rfl,_,rfl,d,_,_,_,rfl,rfl,SqL.of (r _ _ j),ap,lit2,λk2 b0 g2 M am=>?_⟩;have ag:=C.trans M;show⟨D,V.int (c:Int),rfl,e ▸ DGet.t (k:=ky v p) (ag _ _ X) am,_,rfl,d,_,rfl,.inl (SqL.of (M _ _ (r _ _ j))),rfl,i9 _,_,rfl,?_⟩;change if (if true=true then !inV (V.int (c:Int)) (nV F) else _)=true then _ else _
     rw[OU rfl,gX];by_cases ab:c∈F
     .rw[OV ab];show aB (z _ _ ⟨F,rfl,ag,M _ _ (r _ _ j),rn,λp' I q hq _=>?_⟩);rw[O] at I;cases I;rw[k.one hq J];show ab
     rw[OW ab];show aO ⟨_,λZ' H' h=>h,?_⟩;show⟨_,rfl,.inl ⟨rfl,_,SqL.of (M _ _ (r _ _ j))⟩,_,rfl,_,rfl,_,rfl,_,rfl,d,_,_,_,rfl,rfl,SqL.of (M _ _ (r _ _ j)),ap,lit2,λk3 cg g3 an bm=>?_⟩;have aM:=ag.trans an;show⟨D,V.int (c:Int),rfl,e ▸ DGet.t (k:=ky v p) (aM _ _ X) bm,d,_,_,rfl,rfl,an _ _ (M _ _ (r _ _ j)),by rw[bz];lia,λci bn bt=>?_⟩;show⟨_,?_,F++[c],rfl,rfl,λb' o e=>(bn b' (nD e)).trans (aM _ _ e),?_,F7 rn O J (bd c a2) ab⟩
     .rw[aU,bY];lia
     rw[bt];simp[nV]
    rw[OW a2];show aB (aB (z _ _ ⟨F,rfl,C,r _ _ j,rn,λp' I q hq b1=>?_⟩));rw[O] at I;cases I;rw[k.one hq J] at b1;show (a2 b1).elim
   show⟨_,e ▸ DGet.t (k:=ky v p) (C _ _ X) y9,_,rfl,S,_,rfl,.inl (SqL.of (C _ _ bl)),rfl,i9 _,_,rfl,?_⟩;change if (if false=true then _ else inV V.non (nV (x0::lf)))=true then _ else _
   rw[OT bB,Ht];show aB (aB (z _ _ ⟨F,rfl,C,r _ _ j,rn,λp' I q hq _=>?_⟩));rw[O] at I;cases I;show (J q hq).elim
  rintro Z H8 ⟨F,rfl,Y,j,rn,ad⟩;clear y7 s7 H7;show vS (λZ H'=>∃F,Z=[some (V.ref T),some (.int (v:Int)),some (.ref D),some (.ref S),some (.ref B),some (.ref d)]/\Same H6 H'/\H' d=some (.lst (nV F))/\Run ts v x0 F/\(∀p,F.getLast?=some p->∀q,En ts v p q->q∈x0::lf->q∈F)/\∀p,F.head?=some p->∀o,En ts v o p->o∈F) (λNX z=>?_) ?_
  .refine⟨λm Z H'=>∃F,Z=[some (V.ref T),some (.int (v:Int)),some (.ref D),some (.ref S),some (.ref B),some (.ref d)]/\m=1000-F.length/\Same H6 H'/\H' d=some (.lst (nV F))/\Run ts v x0 F/\∀p,F.getLast?=some p->∀q,En ts v p q->q∈x0::lf->q∈F,⟨_,F,rfl,rfl,Y,j,rn,ad⟩,?_⟩;clear ad rn j Y;clear F H8;rintro m Z H8 ⟨F,rfl,rfl,Y,j,rn,ad⟩;have bX:=sP rn hl;obtain⟨p,O⟩:=Hv (tK rn);have ap:=yV O;show⟨_,rfl,d,_,_,_,rfl,rfl,SqL.of j,ap,_,rfl,lit2,λk1 H9 g1 r y9=>?_⟩;have C:=Y.trans r;rcases xw g p v with ⟨c,J,e⟩|⟨J,e⟩
   .refine⟨_,rfl,D,_,rfl,e ▸ DGet.t (k:=ky p v) (C _ _ X) y9,_,rfl,?_⟩;show aO ?_;show⟨_,rfl,_,rfl,d,_,_,_,rfl,rfl,SqL.of (r _ _ j),ap,_,rfl,lit2,λk2 b0 g2 M am=>?_⟩;have ag:=C.trans M;show⟨D,V.int (c:Int),rfl,e ▸ DGet.t (k:=ky p v) (ag _ _ X) am,_,rfl,d,_,rfl,.inl (SqL.of (M _ _ (r _ _ j))),rfl,i9 _,_,rfl,?_⟩;change if (if true=true then !inV (V.int (c:Int)) (nV F) else _)=true then _ else _
    rw[OU rfl,gX];by_cases ab:c∈F
    .rw[OV ab];show aB (z _ _ ⟨F,rfl,ag,M _ _ (r _ _ j),rn,ad,λp' I o ho=>?_⟩);rw[O] at I;cases I;rw[k.one (k.rot (k.rot ho)) J];show ab
    rw[OW ab];show aO ⟨_,λZ' H' h=>h,?_⟩;show⟨_,rfl,.inl ⟨rfl,_,SqL.of (M _ _ (r _ _ j))⟩,_,rfl,_,rfl,d,_,_,_,rfl,rfl,SqL.of (M _ _ (r _ _ j)),ap,_,rfl,lit2,λk3 cg g3 an bm=>?_⟩;have aM:=ag.trans an;show⟨D,V.int (c:Int),rfl,e ▸ DGet.t (k:=ky p v) (aM _ _ X) bm,d,_,0,_,rfl,rfl,an _ _ (M _ _ (r _ _ j)),bE _,by rw[bz];lia,λci bn bt=>?_⟩;show⟨_,?_,c::F,rfl,rfl,λb' o e=>(bn b' (nD e)).trans (aM _ _ e),?_,F6 rn O (k.rot J) ab,λp' I q hq cl=>?_⟩
    .rw[cE];lia
    .rw[bt];simp[nV]
    show bJ _ (ad p' ?_ q hq cl);rw[<-I];obtain⟨z,hz⟩:=yF (tK rn);rw[List.getLast?_cons,hz];rfl
   show⟨_,rfl,D,_,rfl,e ▸ DGet.t (k:=ky p v) (C _ _ X) y9,_,rfl,?_⟩;show aB (aB (z _ _ ⟨F,rfl,C,r _ _ j,rn,ad,λp' I o ho=>?_⟩));rw[O] at I;cases I;show (J _ (k.rot (k.rot ho))).elim
  clear ad rn j Y;clear F H8;rintro Z H8 ⟨F,rfl,Y,j,rn,ad,co⟩;have bX:=sP rn hl;obtain⟨fF,dF⟩:=Fe k be bi bM rn.nd rn.key rn.ch rn.x1 ∅ ad co;have b2:=Y _ _ bl;show⟨_,rfl,S,rfl,⟨_,SqL.of b2⟩,λZ_ hZ=>dH (K:=[]) (a:=S) (xs:=nV (x0::lf)) (λi Z ys H'=>∃o,Z=[o,some (.ref d)]/\ys=nV (((x0::lf).take i).filter λp=>decide (p∉F))/\Same H8 H'/\H' Z_=some (.lst ys)) ⟨none,rfl,rfl,bL hZ,aN⟩ (by rintro i Z ys H' _ ⟨_,_,_,e,_⟩;show SqL.of (e _ _ b2)) ?_ ?_⟩
  .rintro i y Z ys H' hi ⟨o,rfl,rfl,L,R⟩;rw[nV,bf] at hi;obtain⟨n,hn,rfl⟩:=cw.mp hi;have et:(x0::lf).take (i+1)=(x0::lf).take i++[n]:=by rw[bG,hn];rfl
   show⟨_,rfl,_,rfl,d,_,rfl,.inl (SqL.of (L _ _ j)),rfl,i9 _,_,rfl,?_⟩;change if (if true=true then !inV (V.int (n:Int)) (nV F) else _)=true then _ else _
   rw[OU rfl,gX];by_cases a3:n∈F
   .rw[OV a3];show aB ⟨_,rfl,?_,L,R⟩;rw[et,fq,dR,OT (by simp[a3]),jo,eG]
   rw[OW a3];show aO ⟨_,rfl,R,?_,λH3 k3 y3=>⟨_,rfl,?_,λb o e=>(k3 b (au e hZ)).trans (L _ _ e),y3⟩⟩
   .rw[bz];have h1:=eg (λp=>decide (p∉F)) ((x0::lf).take i);rw[bu] at h1;rw[cE] at hsz h1;lia
   rw[et,fq,dR,OU (by simp[a3]),jo,<-fi];rfl
  rintro Z ys H9 ⟨o,rfl,rfl,L,R⟩;rw[bz,cX] at R;have e0:((x0::lf).filter λp=>decide (p∉F))=lf.filter λp=>decide (p∉F):=by rw[dR,OT (by simp[rn.x1])]
  have l0:=eg (λp=>decide (p∉F)) lf;rw[<-e0] at l0;have a4:∀x,x∈((x0::lf).filter λp=>decide (p∉F))↔x∈x0::lf/\x∉F:=λx=>by rw[dG,decide_eq_true_eq]
  have cp:((x0::lf).filter λp=>decide (p∉F)).Nodup:=cd.filter _;generalize ((x0::lf).filter λp=>decide (p∉F))=b3 at *;have C:=Y.trans L;have a5:=s6 _ _ bK;have b4:=C _ _ a5;have hg:=aH bb;rw[cE] at hsz;show⟨_,rfl,.inl ⟨rfl,_,SqL.of b4⟩,_,rfl,B,gs,_,rfl,rfl,b4,by rw[hg];lia,λb0 aS am=>?_⟩;have b5:B≠d:=nD a5;have cr:D≠B:=λz=>by rw[z,a5] at X;cases X
  have cv:Z_≠B:=λz=>by rw[z,Y _ _ a5] at hZ;cases hZ
  have sH:Same H H9:=(sm.trans s6).trans C;show⟨b3.length,by rw[cE];lia,_,Z_,b3,B,gs++[V.ref d],fs++[F],rfl,rfl,a9,λb' o e=>(aS b' (au e a9)).trans (sH _ _ e),(aS D cr).trans (C _ _ X),(aS Z_ cv).trans R,am,?_,cp,λx hx=>bd x ((a4 x).mp hx).1,?_,?_,?_,?_,?_,?_⟩
  .refine cD ?_ (.cons ⟨d,rfl,(aS d (ax b5)).trans (L _ _ j)⟩ .nil);show Cd (λu l hu ⟨a,e1,e2⟩=>⟨a,e1,(aS a λz=>bS (by rw[<-z,<-e1];show hu)).trans (C _ _ (s6 _ _ e2))⟩) bb
  .intro G hG;rcases a_.mp hG with h|h
   .exact be G h
   rw[aQ.mp h];show fF
  .intro x hx;rcases bi x hx with h|⟨G,hG,h⟩
   .by_cases a0:x∈F
    .exact .inr ⟨F,∅,a0⟩
    show .inl ((a4 x).mpr ⟨h,a0⟩)
   show .inr ⟨G,dD _ hG,h⟩
  .intro x hx G hG;rcases a_.mp hG with h|h
   .exact bM x ((a4 x).mp hx).1 G h
   rw[aQ.mp h];show ((a4 x).mp hx).2
  .refine List.pairwise_append.mpr ⟨bN,Ma _ _,λG hG F' cx x hx a0=>?_⟩;rw[aQ.mp cx] at a0;show dF x a0 G hG hx
  .rw[aU,bY];lia
  intro z;rcases a_.mp z with h|h
  .exact bS h
  have:=aQ.mp h;cases this;show b5 rfl
end
end K15
end
section
namespace K15
section
variable {us:List Tri}{x:Nat}
theorem F9{rim:List Nat}(s:Skn us)(c:Cy (bc (En us)) rim):rim.length<=3\/rim.length+1<=3*us.length:=by
 have k:=s.g.sk;by_cases x:rim.length<=3
 .exact .inl x
 right;have sub:∀e∈prs rim,e∈(ents us).map (·.1):=λ⟨p,q⟩ h=>by
  obtain⟨r,d⟩:=(c.st p q h).1;show ar.mpr ⟨_,d,rfl⟩
 have j:rim[0]?=some (rim[0]'()):=aX _;have l:rim[1]?=some (rim[1]'()):=aX _;have f:rim[2]?=some (rim[2]'()):=aX _;generalize rim[0]'()=n at j;generalize rim[1]'()=p1 at l;generalize rim[2]'()=p2 at f;have y:(n,p1)∈prs rim:=aZ (lN j l);have A:(p1,p2)∈prs rim:=aZ (lN l f);obtain⟨r,d⟩:=(c.st _ _ y).1;have le:∀{a b r},En us a b r->(a,b)∉prs rim->rim.length+1<=3*us.length:=λ{a b r} he B=>by
  have hm:(a,b)∈(ents us).map (·.1):=ar.mpr ⟨_,he,rfl⟩;have h1:=lx (m:=((ents us).map (·.1)).erase (a,b)) (tQ c.nd) λe u=>(Az (λz:e=(a,b)=>B (by rw[<-z];show u))).mpr (sub e u);rw[LZ hm,ay,gz,dA] at h1;have:=L5 hm;rw[ay,dA] at this;lia
 by_cases v:(p1,r)∈prs rim
 .have C:r=p2:=sT k (s.o p1 ⟨r,n,k.rot d⟩) (c.st _ _ v) (c.st _ _ A);subst C;by_cases w:(r,n)∈prs rim
  .exfalso;rcases tP w with ⟨i,i1,i2⟩|⟨i1,_⟩
   .have:=gQ c.nd i1 f;have:=gQ c.nd i2 j;lia
   rw[gi] at i1;have:=gQ c.nd i1 f;lia
  show le (k.rot (k.rot d)) w
 show le (k.rot d) v
theorem zL{rs:List Tri}(h:∀c,Co rs c->c=x\/Co us c){l:List Nat}(nd:l.Nodup)(a:∀c∈l,Co rs c):l.length<=3*us.length+1:=by
 have:=lx (m:=x::(ents us).map (·.1.1)) nd λc b=>by
  rcases h c (a c b) with z|⟨p,q,z⟩
  .rw[z];show gq
  show bJ _ (ar.mpr ⟨_,z,rfl⟩)
 rw[cE,ay,dA] at this;show this
end
end K15
end
section
namespace L2
open PySem PySem.Spec PyProof.Rows
section
theorem Inv.bareTup{a:Addr}(I:Inv X OY Z H s)(h:Rd H a (.tup xs)) :
  s.TypeIs (.ref a) "tuple"/\∃ob,s.heap.get? a=some ob/\ob.dict=none:=by
 obtain⟨⟨_,b⟩,c,r,p⟩:=h.ok I.hok;show⟨p.typeIs,b⟩
def tTM2(r:V->List V->Hp->VK->Prop)(x:V)(Q:VK):List V->Hp->Prop:=λvs H2=>r x vs H2 Q
def tTM1(r:V->List V->Hp->VK->Prop)(t:TA)(Z:St)(Q:VK):VK:=λx H1=>(∃a xs,x=.ref a/\Rd H1 a (.tup xs))/\t Z H1 (tTM2 r x Q)
def tTM(r:V->List V->Hp->VK->Prop)(to:TE)(t:TA):TE:=λZ H Q=>to Z H (tTM1 r t Z Q)
theorem z_{o e:Expr}{es:List Expr}{to:TE}{t:TA}{name:Str}{apos cpos:Pos}{id:String}{r:V->List V->Hp->VK->Prop}(f:PlainAttrs "tuple")(slot:Slot "tuple" name id)(g:typeOf (.builtin id)=pure (.type "method_descriptor"))(hm:MtM X id r)(i:PE X o to)(ha:PA X (e::es) t)
  (j:attributeBase o name X.env (eval o X.env)=eval o X.env:=by rfl)
  (l:((backTo cpos (starEach (e::es) X.env)).all (λx=>!x.1)&&(backToKw cpos (keywordEach [] X.env)).all (λx=>x.1.isSome)
   && decide ((e::es).length+([]:List Keyword).length+(if ([]:List Keyword).isEmpty then 0 else 1)<30))=true:=by rfl)
  (m:(apos.endLine==cpos.line)=true:=by rfl) (n:starEach (e::es) X.env=(false,eval e X.env)::starEach es X.env:=by rfl) (p:(backTo cpos (starEach es X.env)).any (·.1)=false:=by rfl) :
  PE X (.Call (.Attribute o name apos) (e::es) [] cpos) (tTM r to t):=by
 intro OY s Z H Q I h;show Np j l m rfl (thn (i OY s Z H _ I h) λv s1 ⟨x,H1,c,q,⟨a,xs,ex,hx⟩,u⟩=>?_);subst ex;obtain rfl:v=Value.ref a:=q;obtain⟨h1,h2⟩:=c.bareTup hx;show⟨"tuple",id,f,slot,g,h1,λb e=>by cases e;show h2,?_⟩;have d:=ha cpos OY s1 Z H1 _ c u;rw[n] at d |-;show kD (by change (false||(backTo cpos (starEach es X.env)).any (·.1))=false;rw[p]<;>rfl) (kE ?_);show thn d λus s2 ⟨vs,H2,w,y,z⟩=>hm OY s2 Z H2 (.ref a) vs (.ref a) us Q w rfl y z
end
end L2
end
section
namespace K15
open PySem L2 K51 K31
theorem sN{A B:TS}{D:Ends}(R:St->Hp->Prop)(b:∀a:St->Hp->Prop,(∀Z H,R Z H->a Z H)->A {D with nx:=a} Z H)(c:∀Z H,R Z H->B D Z H):ur A B D Z H:=b (B D) c
theorem Fy{x:V}{i:Nat}{B:TS}{D:Ends}(h:B D (Z.set i (some x)) H):ur (mm (tC x) (cI i)) B D Z H:=h
theorem F8{v n a b c:Nat}{F:List Nat}(h1:a=v->b∉F)(h2:b=v->c∉F)(d:c=v->a∉F):rn v n F a b=a/\rn v n F b c=b/\rn v n F c a=c:=by unfold rn;show⟨OT λz=>h1 z.1 z.2,OT λz=>h2 z.1 z.2,OT λz=>d z.1 z.2⟩
theorem IR{v n a b c:Nat}{F:List Nat}(h:a=v/\b∈F\/b=v/\c∈F\/c=v/\a∈F)(d:a≠b)(e:b≠c)(f:c≠a) :
  rn v n F a b=(if a=v then n else a)/\rn v n F b c=(if b=v then n else b)/\rn v n F c a=if c=v then n else c:=by
 unfold rn;rcases h with ⟨rfl,h⟩|⟨rfl,h⟩|⟨rfl,h⟩
 .exact⟨by rw[OU ⟨rfl,h⟩,OU rfl],by rw[OT λz=>d z.1.symm,OT λz=>d z.symm],by rw[OT λz=>f z.1,OT f]⟩
 .exact⟨by rw[OT λz=>d z.1,OT d],by rw[OU ⟨rfl,h⟩,OU rfl],by rw[OT λz=>e z.1.symm,OT λz=>e z.symm]⟩
 show⟨by rw[OT λz=>f z.1.symm,OT λz=>f z.symm],by rw[OT λz=>e z.1,OT e],by rw[OU ⟨rfl,h⟩,OU rfl]⟩
def DO(vs:List V)(H:Hp)(Q:VK)(T:Addr)(b:List V)(ts:List Tri):Prop:=vs=[.ref T]/\H T=some (.lst b)/\aA H b ts/\ts.length<=20/\Good ts/\
 ∀r vr a H',Same H H'->H' r=some (.lst vr)->aA H' vr a->a.length=ts.length->Good a->(∀u,Co a u->One (En a) u)->Q (.ref r) H'
def sI:Sp:=λvs H Q _=>Exists (Ex3 (DO vs H Q))
section
theorem gy:aK ["_law_triples","_law_corner","_law_fan","_law_new","_law_made","_law_triple","_law_at_here"] ["_law_triples"] (ao pk):=⟨rfl,rfl,rfl,⋯,rfl,⋯,⋯⟩
theorem Ez{f f1 f2:Addr}{fd d1 d2:FuncData}(U:Fun K "_law_split" "_law_split" pk f fd)(T:cq mg)(mM:mg "max" = none)
  (G1:Use P w K mg base 2 "_law_corners" ["_law_triples"] iU f1 d1)
  (G2:Use P w K mg base 2 "_law_fans" ["_law_triples","_law_corner"] zj f2 d2) :
  ai P w K mg base CX0 3 f fd ["_law_triples"] sI:=by
 show U.ok gy (by rintro _ _ _ _ ⟨_,_,_,rfl,_⟩;rfl) λOZ A outer s H vs Q E hr h=>?_
 obtain⟨T0,vt,ts,rfl,hT,ht,hl,g,q⟩:=h;have D:=cU hr;show⟨_,(ah (cR cY rfl (bW (uc G1 hr (pa1 (pv 0)))) (gx 1 gy.nd) (ak (cR cY rfl (bW (iu jL (uc G2 hr (ae (pv 0) (pa1 (pv 1)))) (iA aj) iB)) (gx 2 gy.nd) (ah (sx 3 gy.nd (aC cZ (cz (nA rfl) (by rfl) mM uT (pa1 (uc G1 hr (pa1 (pv 0))))) aj))
  (ah (sx 4 gy.nd (bT fg))
  (ah (cR cY rfl (bW (pv 0)) (gx 5 gy.nd) (ah (sx 6 gy.nd aj)
  (ah (bq (a7 rE (pv 1) (pv 5) rfl) (ak (sx 6 gy.nd (z_ MC AS MQ (v_ hr.units) (pv 5) (pa1 (pv 1))))) bp)
  (ah (bq (PW.pt (iF (a7 qg (pv 6) aj (nomark _)) (iy (a7 rE (ixx bD (pv 5) (aC eP (aC cZ (pv 6) aj) aj)) (pv 2) rfl)))) (ak (sx 5 gy.nd (c_ lg (by rfl) T.tuple jw (pa1 (dB (N:=["_law_one","_law_new","_law_corner"]) (fr:=[none,some 3,some 1]) (te:=tOp (rIxL []) (tLst (dv (aW 0) (dv (aW 1) eV))) (tCB (λxs H Q=>(∃i,xs=[.int i]/\Q (.int i) H)\/∃k,xs=[.bl k]/\Q (.int (if k then 1 else 0)) H) (dv (tOp rEq (aW 0) (aW 2)) eV))) (c9 ⋯ rfl rfl ⋯ ⋯ (by walk_at"cs") (by walk_at"ct")) rfl (lZ (pv 5))
    (λC' s' H' fp OY=>⟨gx 0 (⋯:(["_law_one","_law_new","_law_corner"]:List Str).Nodup),eO,Aa cQ (bT (ae (pv 0) (pa1 (pv 1)))) (c_ gv (by rfl) T.int gJ (pa1 (fP dM (pv 0) (pv 2) (nomark _)))) (λ_ _=>rfl)⟩)))))) bp)
  (ak (du (dJ eJ gK gL eZ (pv 4) (pa1 (pv 5)))))))))
  (ak (sx 0 gy.nd (pv 4)))))))))
  (ak (aD (pv 0)))),?_⟩
 have cc:=line5000;show⟨_,rfl,T0,vt,ts,rfl,hT,ht,(),λr0 cs H1 cd s1 y1 bN ce=>?_⟩;show⟨r0,rfl,⟨_,SqL.of y1⟩,eL (K:=[]) (a:=r0) (xs:=nV cs) (λi Z H'=>∃v1 L M O B C d l tc,Z=[some (V.ref d),v1,L,M,O,B,C]/\Same H1 H'/\H' d=some (.lst l)/\aA H' l tc/\tc.length=ts.length/\Good tc/\∀u,Co tc u->u∈cs.drop i\/One (En tc) u)
  ⟨none,none,none,none,none,none,T0,vt,ts,rfl,Same.refl _,s1 _ _ hT,ht.same s1,rfl,g,λu D=>.inl ?_⟩ (by rintro i Z H' _ ⟨_,_,_,_,_,_,_,_,_,_,e,_⟩;show SqL.of (e _ _ y1)) ?_ ?_⟩
 .rw[LN,bN.2];obtain⟨t,a0,D⟩:=ck.mp D;show gI.mpr ⟨t,a0,‹D›⟩
 .rintro i x Z H2 hi ⟨v1,L,M,O,B,C,d,l,tc,rfl,a1,J,I,X,gc,oc⟩;rw[nV,bf] at hi;obtain⟨v,hv,rfl⟩:=cw.mp hi;have ba:=(aI.mp hv).1;have bS:cs.drop i=v::cs.drop (i+1):=by
   rw[An ba,(aI.mp hv).2]
  rw[bS] at oc;show⟨_,rfl,_,rfl,d,l,tc,v,rfl,J,I,(),gc,λr gs fs H3 cf s3 y3 bb bd cg=>?_⟩;show⟨1,rfl,r,gs,rfl,SqL.of y3,λp H4 hp s4 y4=>?_⟩;rw[show eA gs (some 1) none=gs.drop 1 from rZ gs 1] at y4;have be:=(a1.trans s3).trans s4;cases fs with
  |nil=>
   cases bb;show⟨p,rfl,⟨_,SqL.of y4⟩,eL (K:=[]) (a:=p) (xs:=[]) (λj Z H'=>Z=[some (V.ref d),some (.int (v:Int)),L,M,O,B,C]/\H'=H4) ⟨rfl,rfl⟩ (λj Z H' _ ⟨_,e⟩=>by rw[e];show SqL.of y4) (λj x Z H' h=>by simp at h) ?_⟩;rintro Z H' ⟨rfl,rfl⟩;show⟨_,_,_,_,_,_,d,l,tc,rfl,be,s4 _ _ (s3 _ _ J),(I.same s3).same s4,X,gc,EV bd oc⟩
  |cons F0 fs=>
   obtain⟨g0,gs,rfl,ch,bi⟩:∃g0 bm,gs=g0::bm/\mr H3 g0 F0/\kh H3 bm fs:=by
    cases bb with
    |cons a b=>show⟨_,_,rfl,a,b⟩
   show⟨p,rfl,⟨_,SqL.of y4⟩,eL (K:=[]) (a:=p) (xs:=gs) (λj Z H'=>∃L M O B C d l tc,Z=[some (V.ref d),some (.int (v:Int)),L,M,O,B,C]/\Same H4 H'/\H' d=some (.lst l)/\aA H' l tc/\tc.length=ts.length/\Mid tc v F0 (fs.drop j) (cs.drop (i+1)))
    ⟨L,M,O,B,C,d,l,tc,rfl,Same.refl _,s4 _ _ (s3 _ _ J),(I.same s3).same s4,X,Dc gc bd oc⟩ (by rintro j Z H' _ ⟨_,_,_,_,_,_,_,_,_,e,_⟩;show SqL.of (e _ _ y4)) ?_ ?_⟩
   .rintro j x Z H5 hj ⟨L,M,O,B,C,d,l,tc,rfl,am,J,I,X,Y⟩;obtain⟨F,hF,fa,rfl,bX⟩:=cj bi hj;have b0:=(aI.mp hF).1;have b1:fs.drop j=F::fs.drop (j+1):=by
     rw[An b0,(aI.mp hF).2]
    rw[b1] at Y;have b2:=am _ _ (s4 _ _ bX);show⟨_,rfl,d,l,tc,rfl,J,I,(),λrc a2 H6 ci s6 y6 b3 cl=>?_⟩;have ev:nV a2=(a2.map (λc:Nat=>(c:Int))).map V.int:=by rw[bC];rfl
    have bn:∀u,Co tc u->u∈a2:=λu D=>by
     rw[b3.2];obtain⟨t,a0,D⟩:=ck.mp D;show gI.mpr ⟨t,a0,‹D›⟩
    have bt:Co tc v:=by have fF:=Y.fans.fan F ∅;obtain⟨p,hp⟩:=LO _ fF.ne;obtain⟨q,hq⟩:=fF.key p hp;show⟨p,q,hq⟩
    show⟨rc,_,rfl,SqL.of (by rw[y6,ev]),λz=>?_,λm hm b4=>⟨_,_,rfl,rfl,?_⟩⟩
    .have:=bn v bt;rw[Ax.mp z] at this;cases this
    obtain⟨n0,co,rfl⟩:=ar.mp hm;have a3:∀u,Co tc u->u≠n0+1:=λu D z=>by
     have:=b4 (u:Int) (ar.mpr ⟨u,bn u D,rfl⟩);lia
    have en:V.int ((n0:Int)+1)=V.int ((n0+1:Nat):Int):=rfl;have bv:=EU Y a3;have b5:=a3 v bt;generalize n0+1=n at a3 en bv b5;show⟨bE _,λmo H7 b6 s7 y7=>?_⟩;have b7:=s7 _ _ (s6 _ _ J);have cp:=(I.same s6).same s7;show⟨_,rfl,d,rfl,⟨_,SqL.of b7⟩,eL (K:=[]) (a:=d) (xs:=l) (λk Z H'=>∃B C vm,Z=[some (V.ref d),some (.int (v:Int)),some (.ref fa),some (.int (n:Int)),some (.ref mo),B,C]/\Same H6 H'/\H' mo=some (.lst vm)/\aA H' vm ((tc.take k).map (ren v n F)))
     ⟨B,C,[],by rw[<-en];rfl,s7,y7,.nil⟩ (by rintro k Z H' _ ⟨_,_,_,_,e,_⟩;show SqL.of (e _ _ (s6 _ _ J))) ?_ ?_⟩
    .rintro k x Z H8 hk ⟨B,C,vm,rfl,ad,a4,ag⟩;obtain⟨⟨a,b,c⟩,hs,t,rfl,hb⟩:=cj I hk;have hb:H5 t=some (.tup [.int (a:Int),.int (b:Int),.int (c:Int)]):=hb;have R:=ad _ _ (s6 _ _ hb);have b8:=ad _ _ (s6 _ _ b2);obtain⟨n1,n2,n3⟩:a≠b/\b≠c/\c≠a:=Y.good.ne (a,b,c) (aZ hs);have et:(tc.take (k+1)).map (ren v n F)=(tc.take k).map (ren v n F)++[(rn v n F a b,rn v n F b c,rn v n F c a)]:=by rw[bG,hs,aL];rfl
     have cr:vm.length<=20:=by rw[aH ag,ay,bu];lia
     show Fy ?_;show sN (λZ H'=>∃j:Nat,Z=[some (V.ref d),some (.int (v:Int)),some (.ref fa),some (.int (n:Int)),some (.ref mo),some (.ref t),some (.int (j:Int))]/\H'=H8/\(j=3/\a≠v/\b≠v/\c≠v\/j=0/\a=v\/j=1/\b=v\/j=2/\c=v)) (λNX z=>?_) ?_
     .refine⟨_,rfl,_,rfl,t,_,rfl,.inr (SqT.of R),rfl,rfl,_,rfl,?_⟩;change if (if false=true then _ else inV (V.int (v:Int)) (nV [a,b,c]))=true then _ else _
      rw[OT bB,gX];by_cases ab:v∈[a,b,c]
      .rw[OV ab];show aO ⟨_,rfl,⟨t,_,rfl,.inl R⟩,_,rfl,?_⟩;have dts:Dts [] H8 [V.int (a:Int),.int (b:Int),.int (c:Int)] [.int (a:Int),.int (b:Int),.int (c:Int)]:=.cons (.int _) (.cons (.int _) (.cons (.int _) .nil));have al:∀x y:Nat,PyData.eqv (.int (x:Int)) (.int (y:Int))=decide (x=y):=λx y=>by
        rw[fm];simp[PyData.eqv];lia
       have dd:(PyData.int (v:Int)).depth<=60:=by simp[PyData.depth]
       by_cases ha:a=v
       .exact⟨t,_,_,_,_,0,rfl,rfl,SqT.of R,dts,.int _,dd,∅,by change PyData.eqv (.int (a:Int)) _=true;rw[al];show OV ha,λm hm=>(),z _ _ ⟨0,rfl,rfl,.inr (.inl ⟨rfl,ha⟩)⟩⟩
       have f0:PyData.eqv (.int (a:Int)) (.int (v:Int))=false:=by rw[al];show OW ha
       by_cases an:b=v
       .refine⟨t,_,_,_,_,1,rfl,rfl,SqT.of R,dts,.int _,dd,∅,by change PyData.eqv (.int (b:Int)) _=true;rw[al];show OV an,λm hm=>?_,z _ _ ⟨1,rfl,rfl,.inr (.inr (.inl ⟨rfl,an⟩))⟩⟩;obtain rfl:m=0:=();show f0
       have f1:PyData.eqv (.int (b:Int)) (.int (v:Int))=false:=by rw[al];show OW an
       have bw:c=v:=by
        simp only[aG,dS,or_false] at ab;rcases ab with h|h|h
        .exact (ha h.symm).elim
        .exact (an h.symm).elim
        show h.symm
       show⟨t,_,_,_,_,2,rfl,rfl,SqT.of R,dts,.int _,dd,∅,by change PyData.eqv (.int (c:Int)) _=true;rw[al];show OV bw,λm hm=>?_,z _ _ ⟨2,rfl,rfl,.inr (.inr (.inr ⟨rfl,bw⟩))⟩⟩;obtain rfl|rfl:m=0\/m=1:=()
       .exact f0
       show f1
      rw[OW ab];simp only[aG,dS,or_false,not_or] at ab;show aB (z _ _ ⟨3,rfl,rfl,.inl ⟨rfl,ax ab.1,ax ab.2.1,ax ab.2.2⟩⟩)
     rintro Z H9 ⟨j,rfl,rfl,bA⟩;show sN (λZ H'=>∃t' w6,Z=[some (V.ref d),some (.int (v:Int)),some (.ref fa),some (.int (n:Int)),some (.ref mo),some (.ref t'),w6]/\Same H9 H'/\H' t'=some (.tup [.int (rn v n F a b:Int),.int (rn v n F b c:Int),.int (rn v n F c a:Int)])) (λNX z=>?_) ?_
     .obtain⟨y,hy,bK⟩:∃y:Nat,(j<3->atI [V.int (a:Int),.int (b:Int),.int (c:Int)] (((j:Int)+1)%3)=some (V.int (y:Int)))/\(j<3->(y∈F->a=v/\b∈F\/b=v/\c∈F\/c=v/\a∈F)/\(y∉F->(a=v->b∉F)/\(b=v->c∉F)/\(c=v->a∉F))):=by
       rcases bA with ⟨rfl,_⟩|⟨rfl,h⟩|⟨rfl,h⟩|⟨rfl,h⟩
       .exact⟨0,λz=>(),λz=>()⟩
       .exact⟨b,λ_=>bO (j:=1) rfl,λ_=>⟨λz=>.inl ⟨h,z⟩,λz=>⟨λ_=>z,λe=>(n1 (h.trans e.symm)).elim,λe=>(n3 (e.trans h.symm)).elim⟩⟩⟩
       .exact⟨c,λ_=>bO (j:=2) rfl,λ_=>⟨λz=>.inr (.inl ⟨h,z⟩),λz=>⟨λe=>(n1 (e.trans h.symm)).elim,λ_=>z,λe=>(n2 (h.trans e.symm)).elim⟩⟩⟩
       show⟨a,λ_=>bO (j:=0) rfl,λ_=>⟨λz=>.inr (.inr ⟨h,z⟩),λz=>⟨λe=>(n3 (h.trans e.symm)).elim,λe=>(n2 (e.trans h.symm)).elim,λ_=>z⟩⟩⟩
      have same:(a=v->b∉F)/\(b=v->c∉F)/\(c=v->a∉F)->NX [some (V.ref d),some (.int (v:Int)),some (.ref fa),some (.int (n:Int)),some (.ref mo),some (.ref t),some (.int (j:Int))] H9:=λh=>by
       obtain⟨e1,e2,e3⟩:=F8 (n:=n) h.1 h.2.1 h.2.2;show z _ _ ⟨t,_,rfl,Same.refl _,by rw[e1,e2,e3];show R⟩
      show⟨_,rfl,_,_,rfl,rfl,_,rfl,?_⟩;change if decide ((j:Int)<3)=true then _ else _
      by_cases hj:j<3
      .rw[OV (show (j:Int)<3 by lia)];show aO ?_;show⟨_,rfl,_,rfl,_,_,rfl,rfl,_,_,rfl,rfl,(),t,_,_,_,rfl,rfl,SqT.of R,hy hj,_,rfl,fa,_,rfl,.inl (SqL.of b8),rfl,i9 _,_,rfl,?_⟩;change if (if false=true then _ else inV (V.int (y:Int)) (nV F))=true then _ else _
       rw[OT bB,gX];by_cases ap:y∈F
       .rw[OV ap];show aO ?_;obtain⟨e1,e2,e3⟩:=IR (n:=n) ((bK hj).1 ap) n1 n2 n3;have fv:∀z:Nat,atI [V.int (z:Int),V.int (n:Int)] (if decide ((z:Int)=(v:Int))=true then 1 else 0)=some (V.int ((if z=v then n else z:Nat):Int)):=λz=>by
         by_cases h:z=v
         .rw[OU (OV ()),OU h];show bO (j:=1) rfl
         rw[OT (by simp;lia),OT h];show bO (j:=0) rfl
        show⟨_,rfl,t,rfl,⟨_,SqT.of R⟩,λZ_ hZ=>ou (K:=[]) (a:=t) (xs:=nV [a,b,c]) (λi Z ys H'=>∃o,Z=[o,some (.int (n:Int)),some (.int (v:Int))]/\ys=nV (([a,b,c].take i).map λz=>if z=v then n else z)/\Same H9 H'/\H' Z_=some (.lst ys)) ⟨none,rfl,rfl,bL hZ,aN⟩ (by rintro i Z ys H' _ ⟨_,_,_,e,_⟩;show SqT.of (e _ _ R)) ?_ ?_⟩
        .rintro i x Z ys H' hi ⟨o,rfl,rfl,a5,a6⟩;rw[nV,bf] at hi;obtain⟨z,hz,rfl⟩:=cw.mp hi;have ba:i<3:=(aI.mp hz).1;show⟨_,rfl,_,rfl,lit2,λl2 cv cx bM b9=>?_⟩;show⟨_,rfl,_,rfl,rfl,.inr ⟨_,rfl,l2,_,_,V.int ((if z=v then n else z:Nat):Int),rfl,rfl,SqL.of b9,?_,bM _ _ a6,?_,λH3 k3 y3=>⟨_,rfl,?_,λS o e=>(k3 S (λq=>by rw[q] at e;rw[e] at hZ;cases hZ)).trans (bM _ _ (a5 _ _ e)),y3⟩⟩⟩
         .rw[kq];show fv z
         .rw[bz,ay,bu];simp;lia
         rw[bG,hz,aL,<-fi];rfl
        rintro Z ys H' ⟨o,rfl,rfl,a5,a6⟩;show⟨Z_,_,rfl,.inl ⟨SqL.of a6,λt' aM=>?_⟩⟩;show z _ _ ⟨t',_,rfl,a5.trans (bL aM),by rw[aN,e1,e2,e3];rfl⟩
       rw[OW ap];show aB (same ((bK hj).2 ap))
      rw[OW (show ¬(j:Int)<3 by lia)];show aB (aB (same ?_));rcases bA with ⟨_,h1,h2,h3⟩|⟨h,_⟩|⟨h,_⟩|⟨h,_⟩
      .exact⟨λz=>(h1 z).elim,λz=>(h2 z).elim,λz=>(h3 z).elim⟩
      all_goals lia
     rintro Z ca ⟨t',w6,rfl,aS,aM⟩;have a8:=aS _ _ a4;show⟨_,rfl,.inl ⟨rfl,_,SqL.of a8⟩,_,rfl,mo,vm,_,rfl,rfl,a8,(),λcy a9 cb=>?_⟩;show⟨_,_,_,rfl,λS o e=>(a9 S (au e b6)).trans ((ad.trans aS) _ _ e),cb,?_⟩;rw[et];have tn:∀{S:Addr}{xs:List V},ca S=some (.tup xs)->S≠mo:=λe=>bZ e a8 ∅;show cD (Paired.imp' (λ_ _ ⟨S,e1,e2⟩=>⟨S,e1,(a9 S (tn (aS _ _ e2))).trans (aS _ _ e2)⟩) ag) (.cons ⟨t',rfl,(a9 t' (tn aM)).trans aM⟩ .nil)
    rintro Z H8 ⟨B,C,vm,rfl,ad,a4,ag⟩;rw[aH I,cX] at ag;show⟨_,rfl,_,_,_,_,_,mo,vm,_,rfl,(am.trans s6).trans ad,a4,ag,by rw[ay];show X,bv⟩
   rintro Z H5 ⟨L,M,O,B,C,d,l,tc,rfl,am,J,I,X,Y⟩;rw[aH bi,LL] at Y;show⟨_,_,_,_,_,_,d,l,tc,rfl,be.trans am,J,I,X,Y.good,G9 Y⟩
 rintro Z H2 ⟨v1,L,M,O,B,C,d,l,tc,rfl,a1,J,I,X,gc,oc⟩;rw[bz,LL] at oc;show⟨_,rfl,q d l tc H2 (s1.trans a1) J I X gc λu D=>(oc u D).resolve_left ∅⟩
end
def But(p:Addr)(H H':Hp):Prop:=∀b o,b≠p->H b=some o->H' b=some o
theorem But.refl{p:Addr}:But p H H:=λ_ _ _ e=>e
theorem But.same{p:Addr}{H H' a:Hp}(h:But p H H')(s:Same H' a):But p H a:=λb o n e=>s _ _ (h b o n e)
theorem Di{ts d:List Tri}(g:Good ts)(h:(ents d).Perm (ents ts)):Good d:=by show⟨λt f=>?_,(h.map _).nodup_iff.mpr g.nd⟩;have k:=g.sk;obtain⟨a,b,c⟩:=t;have e:En ts a b c:=h.mem_iff.mp (cG.mpr (.inl f));show⟨k.ne e,k.ne (k.rot e),k.ne (k.rot (k.rot e))⟩
theorem lg20{n:Nat}(h:n<=1000):((n:Int)+1).natAbs.log2<9000:=by have e:((n:Int)+1).natAbs=n+1:=();rw[e];have:=AH (n:=n+1) (k:=9000) ();rw[this];show b_ (show n+1<2 ^ 10 by lia) (AK ⋯ ⋯)
theorem nY{ts:List Tri}{x:Tri}(g:Good ts)(e:x.1≠x.2.1/\x.2.1≠x.2.2/\x.2.2≠x.1)(hf:iJ ts x=true):Good (ts++[x]):=by
 show⟨λt l=>?_,?_⟩
 .rcases a_.mp l with h|h
  .exact g.ne t h
  rw[aQ.mp h];show e
 rw[fJ,aL,bV];obtain⟨a,b,c⟩:=x;obtain⟨f,i,j⟩:a≠b/\b≠c/\c≠a:=e;have m:∀s∈fc (a,b,c),s∉(ents ts).map (·.1):=by intro s d;unfold iJ at hf;show OX (kH.mp hf s d)
 have n:(ents [(a,b,c)]).map (·.1)=[(a,b),(b,c),(c,a)]:=rfl;rw[n];show⟨g.nd,?_,λs d s' o z=>m s' o (z ▸ d)⟩;simp[f,i,j,ax f,ax i,ax j]
theorem vw{l:List Nat}(nd:l.Nodup){i a:Nat}(h:l[i]?=some a):a∉l.eraseIdx i/\(l.eraseIdx i).Nodup/\(∀x∈l.eraseIdx i,x∈l)/\(l.eraseIdx i).length=l.length-1:=by
 have hi:=(aI.mp h).1;show⟨λz=>?_,nd.sublist (jn l i),λx hx=>(jn l i).subset hx,uK hi⟩;obtain⟨j,b⟩:=eI z;rw[List.getElem?_eraseIdx] at b
 split at b
 .have:=gQ nd h b;lia
 have:=gQ nd h b;lia
theorem pops3{n s0 s1 s2:Nat}(h:s0<n)(h1:s1<n-1)(h2:s2<n-2):∃a b c,(List.range n)[s0]?=some a/\((List.range n).eraseIdx s0)[s1]?=some b/\(((List.range n).eraseIdx s0).eraseIdx s1)[s2]?=some c/\a≠b/\b≠c/\c≠a:=by
 have f:s0<(List.range n).length:=by rw[qL];show h
 obtain⟨g,i,o,j⟩:=vw (L9 (n:=n)) (aX f);rw[qL] at j;have d:s1<((List.range n).eraseIdx s0).length:=();obtain⟨l,p,m,q⟩:=vw i (aX d);have e:s2<(((List.range n).eraseIdx s0).eraseIdx s1).length:=();show⟨_,_,_,aX f,aX d,aX e,λz=>g ?_,λz=>l ?_,λz=>g ?_⟩
 .rw[z];show mH d
 .rw[z];show mH e
 rw[<-z];show m _ (mH e)
theorem Fh(l:List Nat)(k:Nat):(nV l).eraseIdx k=nV (l.eraseIdx k):=by
 induction l generalizing k with
 |nil=>rfl
 |cons a l b=>
  cases k with
  |zero=>rfl
  |succ k=>
   change _::(nV l).eraseIdx k=_;rw[b];rfl
theorem xV{n k:Nat}(h:k<n):seqIndex? (k:Int) n=some k:=by show (s_ ?_).1;unfold ixN;rw[OU (),OU ()];simp
theorem HN{n:Nat}(h:3<=n):(n:Int)*((n:Int)-1)*((n:Int)-2)=((n*(n-1)*(n-2):Nat):Int):=by have a:(n:Int)-1=((n-1:Nat):Int):=();have b:(n:Int)-2=((n-2:Nat):Int):=();rw[a,b,LC,LC]
theorem Fx{n:Nat}(h:3<=n):0<n*(n-1)*(n-2):=Mp (Mp () ()) ()
theorem HM{n:Nat}(h:n<=9):n*(n-1)*(n-2)<=504:=Mo (Mo h (show n-1<=8 by lia)) (show n-2<=7 by lia)
theorem wG{n m:Nat}(h:3<=n)(hm:m<n*(n-1)*(n-2)):m/n/(n-1)<n-2:=by rw[Nat.div_div_eq_div_mul];show Nat.div_lt_of_lt_mul hm
def D3(vs:List V)(H:Hp)(Q:VK)(p:Addr)(q:Int×Int)(m:Nat):Prop:=vs=[.ref p,.int (m:Int)]/\H p=some (.lst (bI q))/\cm q/\m<=16/\
 ∀r vr ts a H',H r=none->But p H H'->H' p=some (.lst (bI a))->cm a->H' r=some (.lst vr)->aA H' vr ts->ts.length<=m->Good ts->Q (.ref r) H'
def xQ:Sp:=λvs H Q _=>Exists (Ex3 (D3 vs H Q))
section
theorem i6:aK ["_law_pot_here","_law_most","_law_n","_law_triples","_law_k","_law_number","_law_left","_law_triple"] ["_law_pot_here","_law_most"] (ao pE):=⟨rfl,rfl,rfl,⋯,rfl,⋯,⋯⟩
theorem EM{f f1 f2 f3:Addr}{fd d1 d2 d3:FuncData}(U:Fun K "_law_drawn" "_law_drawn" pE f fd)(T:cq mg)
  (GD:Use P w K mg base 2 "_law_digit" ["_law_pot_here","_law_base"] i5 f1 d1)
  (GT:Use P w K mg base 2 "_law_thirds" ["_law_triples"] jG f2 d2)
  (GF:Use P w K mg base 2 "_law_free" ["_law_thirds_here","_law_triple"] tI f3 d3) :
  ai P w K mg base CX0 3 f fd ["_law_pot_here","_law_most"] xQ:=by
 show U.ok i6 (by rintro _ _ _ _ ⟨_,_,_,rfl,_⟩;rfl) λOZ A outer s H vs Q E v h=>?_
 obtain⟨p,q,m,rfl,hp,ag,hm,Qq⟩:=h;have hu:=cU v;show⟨_,(ah (sx 2 i6.nd (aC cZ aj (uc GD v (ae (pv 0) (pa1 aj)))))
  (ah (sx 3 i6.nd (bT fg))
  (ah (cR cY rfl (lr rfl T.range (pa1 (uc GD v (ae (pv 0) (pa1 (aC cZ (pv 1) aj)))))) (gx 4 i6.nd) (ah (sx 5 i6.nd (uc GD v (ae (pv 0) (pa1 (aC iG (aC iG (pv 2) (aC jd (pv 2) aj)) (aC jd (pv 2) aj))))))
  (ah (sx 6 i6.nd (c_ (BG rfl) (by rfl) T.list uS (pa1 (c_ Bx (by rfl) T.range NU (pa1 (pv 2))))))
  (ah (sx 7 i6.nd (c_ lg (by rfl) T.tuple jw (pa1 (dB (N:=["_law_spot","_law_left"]) (fr:=[none,some 6]) (te:=tBM [] "list" zm (aW 1) (dv (aW 0) eV)) (c9 ⋯ rfl rfl ⋯ ⋯ (by walk_at"cs") (by walk_at"ct")) rfl (bW (bT (ae (aC eP (pv 5) (pv 2)) (ae (aC eP (aC jI (pv 5) (pv 2)) (aC jd (pv 2) aj)) (pa1 (aC jI (aC jI (pv 5) (pv 2)) (aC jd (pv 2) aj)))))))
    (λC' s' H' fp OY=>⟨gx 0 (⋯:(["_law_spot","_law_left"]:List Str).Nodup),eO,dJ eJ ML MP w_ (pv 1) (pa1 (pv 0))⟩)))))
  (ak (bq (dg (uc GF v (ae (uc GT v (pa1 (pv 3))) (pa1 (pv 7))))) (ak (du (dJ eJ gK gL eZ (pv 3) (pa1 (pv 7))))) bp))))))
  (ak (aD (pv 3)))))),?_⟩
 have b4:=line5000;obtain⟨d1,d2⟩:=dX (q:=q) (b:=7) ⋯;show⟨_,rfl,p,q,7,rfl,hp,ag,⋯,⋯,λH1 k1 y1=>⟨_,_,rfl,rfl,?_⟩⟩;obtain⟨n,en,O,bl⟩:∃n:Nat,3+digO q 7=(n:Int)/\3<=n/\n<=9:=⟨(3+digO q 7).toNat,(),(),()⟩;change cI 2 (V.int (3+digO q 7)) _ _ _;rw[en];show⟨bE _,λg H2 a2 s2 y2=>?_⟩;have R:p≠g:=au y1 a2;have a3:H g=none:=(k1 g (ax R)).symm.trans a2;obtain⟨d3,d4⟩:=dX (q:=nxt q 7) (b:=(m:Int)+1) ();show⟨_,rfl,_,rfl,_,_,rfl,rfl,p,nxt q 7,_,rfl,s2 _ _ y1,cH ag,(),lg20 (),λH3 k3 y3=>⟨_,rfl,(),(),?_⟩⟩;have hN:(digO (nxt q 7) ((m:Int)+1)).toNat<=m:=();generalize (digO (nxt q 7) ((m:Int)+1)).toNat=N at hN;show lA (lo:=0) (n:=N) (λi Z H'=>∃o4 o5 o6 o7 r j q',Z=[some (V.ref p),some (.int (m:Int)),some (.int (n:Int)),some (.ref g),o4,o5,o6,o7]/\But p H H'/\H' p=some (.lst (bI q'))/\cm q'/\H' g=some (.lst r)/\aA H' r j/\j.length<=i/\Good j)
  ⟨none,none,none,none,[],[],_,rfl,λd o nb e=>(k3 d nb).trans (s2 _ _ ((k1 d nb).trans e)),y3,cH (cH ag),(k3 g (ax R)).trans y2,.nil,aq _,⟨∅,by simp[ents]⟩⟩ ?_ ?_
 .rintro i Z H4 hi ⟨o4,o5,o6,o7,r,j,z,rfl,sm,S,B,al,X,bm,C⟩;have I:=HN O;have b5:=Fx O;have b6:=HM bl;show⟨_,rfl,_,rfl,_,rfl,_,_,rfl,rfl,_,_,rfl,rfl,.inl ⟨(),()⟩,_,rfl,_,_,rfl,rfl,_,_,rfl,rfl,.inr ⟨(),()⟩,p,z,_,rfl,S,B,by rw[I];lia,iX (by rw[I];lia) (by rw[I];show uE (show ((n*(n-1)*(n-2):Nat):Int)<=504 by lia) ⋯),λH5 k5 y5=>?_⟩;obtain⟨d5,d6⟩:=dX (q:=z) (b:=(n:Int)*((n:Int)-1)*((n:Int)-2)) (by rw[I];lia);obtain⟨num,enum⟩:∃num:Nat,digO z ((n:Int)*((n:Int)-1)*((n:Int)-2))=(num:Int):=⟨_,(iN d5).symm⟩;rw[enum] at d6 |-;rw[I] at d6;have a4:num<n*(n-1)*(n-2):=();clear d6 d5;show⟨_,rfl,_,rfl,λra bn=>?_⟩;walk_at"H5 ra bn J Y y6";show⟨ra,n,rfl,y6,(),λu a5=>?_⟩;walk_at"J u a5 H7 s7 y7";have y7:H7 u=some (.lst (nV (List.range n))):=y7;have a6:(n:Int).natAbs.log2<9000:=iX () (uE (show (n:Int)<=9 by lia) ⋯);have bv:((n:Int)-1).natAbs.log2<9000:=iX () (uE (show (n:Int)-1<=9 by lia) ⋯);show⟨_,rfl,_,rfl,_,_,rfl,rfl,(),_,rfl,_,rfl,_,_,rfl,rfl,⟨(),a6⟩,_,rfl,_,_,rfl,rfl,_,_,rfl,rfl,(),_,rfl,_,rfl,_,_,rfl,rfl,⟨(),a6⟩,_,rfl,_,_,rfl,rfl,_,_,rfl,rfl,⟨(),bv⟩,lit3,λdl H8 bw s8 y8=>?_⟩;have ed:([V.int ((num:Int)%(n:Int)),V.int ((num:Int)/(n:Int)%((n:Int)-1)),V.int ((num:Int)/(n:Int)/((n:Int)-1))]:List V)=nV [num%n,num/n%(n-1),num/n/(n-1)]:=by
   have L:(n:Int)-1=((n-1:Nat):Int):=();rw[L];rfl
  rw[ed] at y8;obtain⟨a,b,c,ha,hb,hc,n1,n2,n3⟩:=pops3 (n:=n) (s0:=num%n) (s1:=num/n%(n-1)) (s2:=num/n/(n-1)) (kK _ ()) (kK _ ()) (wG O a4);have yL:=s8 _ _ y7;have bA:dl≠u:=ax (au y7 bw);show⟨dl,rfl,⟨_,SqL.of y8⟩,λZ_ hZ=>?_⟩;have a8:u≠Z_:=au yL hZ;have bK:num%n<100:=b_ (kK _ ()) ();have bM:num/n%(n-1)<100:=b_ (kK _ ()) ();have bN:num/n/(n-1)<100:=b_ (wG O a4) ();have a9:But p H J:=λd o nb e=>Y _ _ ((k5 d nb).trans (sm _ _ nb e));have am:J g=some (.lst r):=Y _ _ ((k5 g (ax R)).trans al);have ba:=Y _ _ y5;have an:aA J r j:=Paired.imp' (λ_ _ ⟨d,L,M⟩=>⟨d,L,Y _ _ ((k5 d (bZ M S ∅)).trans M)⟩) X;generalize num%n=s0 at *;generalize num/n%(n-1)=s1 at *;generalize num/n/(n-1)=bb at *;show dH (K:=[]) (a:=dl) (xs:=nV [s0,s1,bb]) (λi Z ys H'=>∃o l,Z=[o,some (V.ref u)]/\(i=0/\l=List.range n/\ys=[]\/i=1/\l=(List.range n).eraseIdx s0/\ys=nV [a]\/i=2/\l=((List.range n).eraseIdx s0).eraseIdx s1/\ys=nV [a,b]\/i=3/\ys=nV [a,b,c])/\But u H8 H'/\H' u=some (.lst (nV l))/\H' Z_=some (.lst ys))
   ⟨none,_,rfl,.inl ⟨rfl,rfl,rfl⟩,But.refl.same (bL hZ),bL hZ _ _ yL,aN⟩ (by rintro i Z ys H' _ ⟨_,_,_,_,e,_⟩;show SqL.of (e _ _ bA y8)) ?_ ?_
  .rintro i x Z ys H' hi ⟨o,l,rfl,ab,bt,ap,aM⟩;rw[nV,bf] at hi;obtain⟨s,hs,rfl⟩:=cw.mp hi;obtain⟨y,hy,b7,b8,bS⟩:∃y:Nat,l[s]?=some y/\s<100/\ys.length<=3/\(i+1=0/\l.eraseIdx s=List.range n/\ys++[V.int (y:Int)]=[]\/i+1=1/\l.eraseIdx s=(List.range n).eraseIdx s0/\ys++[V.int (y:Int)]=nV [a]\/i+1=2/\l.eraseIdx s=((List.range n).eraseIdx s0).eraseIdx s1/\ys++[V.int (y:Int)]=nV [a,b]\/i+1=3/\ys++[V.int (y:Int)]=nV [a,b,c]):=by
    rcases ab with ⟨rfl,rfl,rfl⟩|⟨rfl,rfl,rfl⟩|⟨rfl,rfl,rfl⟩|⟨rfl,rfl⟩
    .cases hs;show⟨a,ha,bK,∅,.inr (.inl ⟨rfl,rfl,rfl⟩)⟩
    .cases hs;show⟨b,hb,bM,by simp[nV],.inr (.inr (.inl ⟨rfl,rfl,rfl⟩))⟩
    .cases hs;show⟨c,hc,bN,by simp[nV],.inr (.inr (.inr ⟨rfl,rfl⟩))⟩
    cases hs
   have bX:=(aI.mp hy).1;show⟨_,rfl,.inl ⟨rfl,_,SqL.of ap⟩,_,rfl,u,nV l,(s:Int),s,V.int (y:Int),rfl,rfl,ap,(),(),xV (by rw[bz];show bX),by rw[nV,bf,hy];rfl,λb9 bd b0=>?_⟩;show⟨(bd Z_ (ax a8)).trans aM,(),λH3 k3 y3=>⟨_,_,rfl,bS,λd o nb e=>(k3 d (au e hZ)).trans ((bd d nb).trans (bt _ _ nb e)),(k3 u a8).trans (by rw[b0,Fh]),y3⟩⟩
  rintro Z ys H' ⟨o,l,rfl,ab,bt,ap,aM⟩;obtain rfl:ys=nV [a,b,c]:=by
   have e3:(nV [s0,s1,bb]).length=3:=rfl;rw[e3] at ab;rcases ab with ⟨h,_⟩|⟨h,_⟩|⟨h,_⟩|⟨_,h⟩
   .cases h
   .cases h
   .cases h
   show h
  show⟨Z_,_,rfl,.inl ⟨SqL.of aM,λt ht=>?_⟩⟩;walk_at"H' t ht H9 s9 y9";have aS:Same J H9:=λd o e=>s9 _ _ (bt _ _ (au e a5) (s8 _ _ (s7 _ _ e)));show⟨_,rfl,g,r,j,rfl,aS _ _ am,an.same aS,(),C.nd,λD ca cb a0 hD=>?_⟩;show⟨_,rfl,D,t,j,(a,b,c),rfl,hD,a0 _ _ y9,λb1 be=>?_⟩;have st:=(aS.trans a0).trans be;have bi:=be _ _ (a0 _ _ y9);show⟨_,rfl,?_⟩;cases b2:iJ j (a,b,c) with
  |false=>
   show aB ⟨_,_,_,_,r,j,_,rfl,λd o nb e=>st _ _ (a9 _ _ nb e),st _ _ ba,cH B,st _ _ am,an.same st,(),C⟩
  |true=>
   have a1:=st _ _ am;show aO ⟨_,rfl,.inl ⟨rfl,_,SqL.of a1⟩,_,rfl,g,r,_,rfl,rfl,a1,by rw[aH X];lia,λcc ad b3=>?_⟩;have tn:∀{d:Addr}{xs:List V},b1 d=some (.tup xs)->d≠g:=λe=>bZ e a1 ∅;show⟨_,_,_,_,_,j++[(a,b,c)],_,rfl,λd o nb e=>(ad d (au e a3)).trans (st _ _ (a9 _ _ nb e)),(ad p R).trans (st _ _ ba),cH B,b3,?_,by rw[aU,bY];lia,nY C ⟨n1,n2,n3⟩ b2⟩;show cD (Paired.imp' (λ_ _ ⟨d,L,M⟩=>⟨d,L,(ad d (tn (st _ _ M))).trans (st _ _ M)⟩) an) (.cons ⟨t,rfl,(ad t (tn bi)).trans bi⟩ .nil)
 rintro Z H4 ⟨o4,o5,o6,o7,r,j,z,rfl,sm,S,B,al,X,bm,C⟩;show⟨_,rfl,Qq g r j z H4 a3 sm S B al X () C⟩
end
theorem Jv(cl:List Nat)(d v:Nat):(nV cl).take d++V.int (v:Int)::(nV cl).drop d=nV (cl.take d++v::cl.drop d):=by unfold nV;rw[aL,aY,mJ,uL]
def nmV(x:Nat×Nat):Key×V:=(Sum.inl (x.1:Int),V.int (x.2:Int))
theorem tD{nm:List (Nat×Nat)}{c:Nat}(h:c∉nm.map (·.1)):bh (nm.map nmV) (Sum.inl (c:Int):Key)=none:=by
 induction nm with
 |nil=>simp[bh]
 |cons x nm a=>
  rw[aY,aG,not_or] at h;rw[aY,gw (λz=>h.1 ?_)]
  .exact a h.2
  have:(x.1:Int)=(c:Int):=mV z;lia
theorem pH{nm:List (Nat×Nat)}{c x:Nat}(h:c∉nm.map (·.1)):cn (nm.map nmV) (Sum.inl (c:Int):Key) (V.int (x:Int))=(nm++[(c,x)]).map nmV:=by rw[om _ (tD h),aL];rfl
def nmF(nm:List (Nat×Nat))(c:Nat):Nat:=(nm.lookup c).getD 0
theorem j3{nm:List (Nat×Nat)}{c:Nat}(h:c∈nm.map (·.1)):∃k x:Nat,nm[k]?=some (c,x)/\bh (nm.map nmV) (Sum.inl (c:Int):Key)=some (V.int (x:Int))/\nmF nm c=x:=by
 induction nm with
 |nil=>cases h
 |cons y nm d=>
  obtain⟨a,x⟩:=y;by_cases e:a=c
  .subst e;show⟨0,x,rfl,ip (p:=nmV (a,x)) (r:=nm.map nmV) rfl,by simp[nmF]⟩
  rw[aY] at h;obtain⟨k,f,h1,h2,b⟩:=d ((aG.mp h).resolve_left λz=>e z.symm);show⟨k+1,f,h1,?_,?_⟩
  .rw[aY,gw (λz=>e ?_)]
   .exact h2
   have:(a:Int)=(c:Int):=mV z;lia
  have:(c==a)=false:=‹λz:c=a=>e z.symm›
  unfold nmF at b |-;rw[iP,this];show b
def DS(vs:List V)(H:Hp)(Q:VK)(p T:Addr)(q:Int×Int)(b:List V)(ts:List Tri):Prop:=vs=[.ref p,.ref T]/\H p=some (.lst (bI q))/\cm q/\H T=some (.lst b)/\T≠p/\aA H b ts/\ts.length<=20/\Good ts/\
 ∀r vr a d H',H r=none->But p H H'->H' p=some (.lst (bI d))->cm d->H' r=some (.lst vr)->aA H' vr a->a.length=ts.length->Good a->(∀u,Co a u->u<10 ^ 60)->((∀c,Co ts c->One (En ts) c)->∀c,Co a c->One (En a) c)->Q (.ref r) H'
def xI:Sp:=λvs H Q _=>Exists (Ex5 (DS vs H Q))
section
theorem iw:aK ["_law_pot_here","_law_triples","_law_way","_law_corners_here","_law_corner","_law_names","_law_i","_law_far"] ["_law_pot_here","_law_triples"] (ao px):=⟨rfl,rfl,rfl,⋯,rfl,⋯,⋯⟩
theorem ED{f f1 f2:Addr}{fd d1 d2:FuncData}(U:Fun K "_law_named" "_law_named" px f fd)(T:cq mg)
  (GD:Use P w K mg base 1 "_law_digit" ["_law_pot_here","_law_base"] i5 f1 d1)
  (GC:Use P w K mg base 1 "_law_corners" ["_law_triples"] iU f2 d2) :
  ai P w K mg base CX0 2 f fd ["_law_pot_here","_law_triples"] xI:=by
 show U.ok iw (by rintro _ _ _ _ ⟨_,_,_,_,_,rfl,_⟩;rfl) λOZ A outer s H vs Q E S h=>?_
 obtain⟨p,X,q,vt,ts,rfl,hp,bn,hT,bt,ht,hl,g,Qq⟩:=h;have hu:=cU S;show⟨_,(ah (sx 2 iw.nd (uc GD S (ae (pv 0) (pa1 aj))))
  (ah (sx 3 iw.nd (bT fg))
  (ah (cR cY rfl (bW (uc GC S (pa1 (pv 1)))) (gx 4 iw.nd) (ak (du (dJ eJ AR MO v9 (pv 3) (ae (uc GD S (ae (pv 0) (pa1 (aC cZ (pln T.len (pv 3)) aj)))) (pa1 (pv 4)))))))
  (ah (sx 5 iw.nd oo)
  (ah (cR cY rfl (sW rfl T.enum (pa1 (pv 3))) (cT rfl (aR (gx 6 iw.nd) (aR (gx 4 iw.nd) cP))) (ah (sx 7 iw.nd (aC jd (aC jd (aC jd (aC pK aj aj) aj) (aC iG (aC cZ (pv 6) aj) (aC pK aj aj))) (uc GD S (ae (pv 0) (pa1 (aC pK aj aj))))))
  (ak (i7 hu (pv 5) (pv 4) (ixx cQ (bT (ae (pv 6) (ae (aC cZ (aC iG aj (pv 6)) (uc GD S (ae (pv 0) (pa1 aj)))) (pa1 (pv 7))))) (pv 2)) rfl))))
  (ak (aD (dB (N:=["_law_triple","_law_names"]) (fr:=[none,some 5]) (te:=tCB (λxs H Q=>∃p ys,xs=[.ref p]/\((SqL [] H p ys/\∀l,H l=none->Q (.ref l) (upd H l (.tup ys)))\/(SqT [] H p ys/\Q (.ref p) H))) (dv (mj (qv [] (aW 0)) (cI 0) (λ_ H Q=>Q true H) (ud (aW 1) (aW 0)) [none,some 1]) eV)) (c9 ⋯ rfl rfl ⋯ ⋯ (by walk_at"cs") (by walk_at"ct")) rfl (bW (pv 1))
    (λC' s' H' fp OY=>⟨gx 0 (⋯:(["_law_triple","_law_names"]:List Str).Nodup),eO,c_ lg (by rfl) T.tuple jw (pa1 (dB (N:=["_law_corner","_law_names"]) (fr:=[none,some 1]) (te:=ud (aW 1) (aW 0)) (c9 ⋯ rfl rfl ⋯ ⋯ (by walk_at"cs") (by walk_at"ct")) rfl (lZ (pv 0))
    (λC2 s2 H2 c0 c1=>⟨gx 0 (⋯:(["_law_corner","_law_names"]:List Str).Nodup),eO,iC hu (pv 1) (pv 0) (λ_ _=>rfl)⟩)))⟩))))))))),?_⟩
 have c2:=line5000;obtain⟨d1,d2⟩:=dX (q:=q) (b:=3) ⋯;obtain⟨r,ew⟩:∃r:Nat,digO q 3=(r:Int):=⟨_,(iN d1).symm⟩;show⟨_,rfl,p,q,3,rfl,hp,bn,⋯,⋯,λH1 k1 y1=>?_⟩;rw[ew] at d2 |-;have c3:r<3:=();show⟨bE _,λch H2 bv s2 y2=>?_⟩;have aM:p≠ch:=au y1 bv;have b3:H ch=none:=(k1 ch (ax aM)).symm.trans bv;have b4:=s2 _ _ ((k1 X bt).trans hT);have b5:aA H2 vt ts:=Paired.imp' (λ_ _ ⟨m,D,I⟩=>⟨m,D,s2 _ _ ((k1 m (bZ I hp ∅)).trans I)⟩) ht;show⟨_,rfl,X,vt,ts,rfl,b4,b5,hl,λr0 cs H3 bw s3 y3 bA c4=>?_⟩;have b6:r0≠p:=ax (au (s2 _ _ y1) bw);have b7:r0≠ch:=ax (au y2 bw);show⟨r0,rfl,⟨_,SqL.of y3⟩,eL (K:=[]) (a:=r0) (xs:=nV cs) (λi Z H'=>∃J cl q',Z=[some (V.ref p),some (.ref X),some (.int (r:Int)),some (.ref ch),J,none,none,none]/\(∀b o,b≠p->b≠ch->H3 b=some o->H' b=some o)/\H' p=some (.lst (bI q'))/\cm q'/\H' ch=some (.lst (nV cl))/\cl.Perm (cs.take i))
  ⟨none,[],_,rfl,λ_ _ _ _ e=>e,s3 _ _ (s2 _ _ y1),cH bn,s3 _ _ y2,LF _⟩ (λi Z H' _ ⟨_,_,_,_,e,_⟩=>SqL.of (e _ _ b6 b7 y3)) ?_ ?_⟩
 .rintro i x Z H4 hi ⟨J,cl,q4,rfl,sm,aS,a0,ab,L⟩;rw[nV,bf] at hi;obtain⟨v,hv,rfl⟩:=cw.mp hi;have b8:=(aI.mp hv).1;have bK:(nV cl).length=i:=by
   rw[bz,L.length_eq,bu];lia
  show⟨_,rfl,.inl ⟨rfl,_,SqL.of ab⟩,_,rfl,_,rfl,ch,nV cl,rfl,.inl (SqL.of ab),_,_,rfl,rfl,p,q4,_,rfl,aS,a0,(),by rw[bK];show lg20 (),λH5 k5 y5=>?_⟩;obtain⟨b9,ca⟩:=dX (q:=q4) (b:=((nV cl).length:Int)+1) ();obtain⟨d,hd⟩:∃d:Nat,digO q4 (((nV cl).length:Int)+1)=(d:Int):=⟨_,(iN b9).symm⟩;rw[hd] at ca |-;have a1:=(k5 ch (ax aM)).trans ab;show⟨_,rfl,ch,nV cl,d,_,rfl,rfl,a1,(),(),λM k6 y6=>?_⟩;show⟨_,cl.take d++v::cl.drop d,_,rfl,λm o n1 n2 e=>(k6 m n2).trans ((k5 m n1).trans (sm _ _ n1 n2 e)),(k6 p aM).trans y5,cH a0,by rw[y6,Jv],?_⟩;have D:cs.take (i+1)=cs.take i++[v]:=by rw[bG,hv];rfl
  rw[D];show List.Perm.trans Mc ?_;rw[ig];show (List.Perm.cons v L).trans (ft (l₁:=[v]) (l₂:=cs.take i))
 rintro Z H4 ⟨J,cl,q4,rfl,sm,aS,a0,ab,L⟩;rw[bz,cX] at L;show λn H5 a5 s5 y5=>?_;have bK:cl.length<=60:=by rw[L.length_eq];lia
 have cb:cl.Nodup:=L.nodup_iff.mpr (bA.1.imp λh=>bo h);have a6:p≠n:=au aS a5;have a1:=s5 _ _ ab;have cc:ch≠n:=au ab a5;show⟨_,rfl,ch,nV cl,rfl,SqL.of a1,rX (K:=[]) (a:=ch) (xs:=nV cl) (λj Z H'=>∃J o6 o7 nm q',Z=[some (V.ref p),some (.ref X),some (.int (r:Int)),some (.ref ch),J,some (.ref n),o6,o7]/\(∀b o,b≠p->b≠n->H5 b=some o->H' b=some o)/\H' p=some (.lst (bI q'))/\cm q'/\H' n=some (.dK (nm.map nmV))/\nm.map (·.1)=cl.take j/\∀k c x,nm[k]?=some (c,x)->Win r k x)
  ⟨_,none,none,[],_,rfl,λ_ _ _ _ e=>e,s5 _ _ aS,a0,y5,rfl,λk c x h=>by simp at h⟩ (λj Z H' _ ⟨_,_,_,_,_,_,e,_⟩=>SqL.of (e _ _ (ax aM) cc a1)) ?_ ?_⟩
 .rintro j x pt Z M hj ⟨J,o6,o7,nm,y,rfl,a8,a2,al,a9,O,am⟩ cd;rw[nV,bf] at hj;obtain⟨c,R,rfl⟩:=cw.mp hj;have c5:=(aI.mp R).1;walk_at"M pt cd H7 s7 y7";show⟨pt,_,rfl,SqT.of y7,rfl,_,_,rfl,_,_,rfl,rfl,?_⟩;have cp:∀k:Int,0<=k->k<=100->CPow 10 k:=λk h1 h2=>⟨h1,(),⋯⟩;have ce:=s7 _ _ a2;show⟨_,_,rfl,rfl,cp _ ⋯ ⋯,_,_,rfl,rfl,_,rfl,_,_,rfl,rfl,_,_,rfl,rfl,cp _ ⋯ ⋯,_,_,rfl,rfl,.inl ⟨(),()⟩,_,_,rfl,rfl,_,rfl,_,_,rfl,rfl,cp _ ⋯ ⋯,p,y,(10:Int) ^ 9,rfl,ce,al,⋯,⋯,λH8 k8 y8=>⟨_,_,rfl,rfl,?_⟩⟩;obtain⟨f1,f2⟩:=dX (q:=y) (b:=(10:Int) ^ 9) ⋯;obtain⟨C,e9⟩:∃C:Nat,digO y ((10:Int) ^ 9)=(C:Int):=⟨_,(iN f1).symm⟩;rw[e9] at f2;have c8:C<10 ^ 9:=();change cI 7 (V.int (10 ^ 60-1-((j:Int)+1)*10 ^ 9-digO y ((10:Int) ^ 9))) _ _ _;rw[e9];have cf:(10:Int) ^ 60-1-((j:Int)+1)*10 ^ 9-(C:Int)=((10 ^ 60-1-(j+1)*10 ^ 9-C:Nat):Int):=();rw[cf];show⟨_,rfl,_,rfl,_,_,rfl,rfl,.inl ⟨⋯,⋯⟩,_,rfl,p,_,7,rfl,y8,cH al,⋯,⋯,λH9 k9 y9=>⟨_,_,rfl,rfl,?_⟩⟩;obtain⟨f3,f4⟩:=dX (q:=nxt y ((10:Int) ^ 9)) (b:=7) ⋯;obtain⟨d7,e7⟩:∃d7:Nat,digO (nxt y ((10:Int) ^ 9)) 7=(d7:Int):=⟨_,(iN f3).symm⟩;rw[e7] at f4;show⟨_,rfl,lit3,λl ba da bb a3=>?_⟩;rw[show ([V.int (j:Int),(λi j=>V.int (i+j)) (7*(j:Int)) (digO (nxt y ((10:Int) ^ 9)) 7),V.int ((10 ^ 60-1-(j+1)*10 ^ 9-C:Nat):Int)]:List V)=nV [j,7*j+d7,10 ^ 60-1-(j+1)*10 ^ 9-C] by rw[e7];rfl] at a3;obtain⟨x,hx,hw⟩:∃x:Nat,[j,7*j+d7,10 ^ 60-1-(j+1)*10 ^ 9-C][r]?=some x/\Win r j x:=by
   obtain rfl|rfl|rfl:r=0\/r=1\/r=2:=()
   .exact⟨_,rfl,.inl ⟨rfl,rfl⟩⟩
   .exact⟨_,rfl,.inr (.inl ⟨rfl,(),()⟩)⟩
   show⟨_,rfl,.inr (.inr ⟨rfl,(),()⟩)⟩
  have cg:ba n=some (.dK (nm.map nmV)):=bb _ _ ((k9 n (ax a6)).trans ((k8 n (ax a6)).trans (s7 _ _ a9)));have bM:nm.length=j:=by have:=congrArg List.length O;rw[ay,bu] at this;lia
  have ci:c∉nm.map (·.1):=by rw[O];intro z;obtain⟨k,B⟩:=eI z;have bN:=(aI.mp B).1;rw[bu] at bN;rw[qJ ()] at B;have:=gQ cb B R;lia
  show⟨_,rfl,l,_,_,V.int (x:Int),rfl,rfl,SqL.of a3,bO (by rw[nV,bf,hx];rfl),_,rfl,_,rfl,n,_,rfl,DPut.k (k:=Sum.inl (c:Int)) cg (by rw[ay];lia),?_⟩;rw[pH ci];walk_at"ba n db bS co";show⟨_,_,_,nm++[(c,x)],_,rfl,λm o n1 n2 e=>?_,(bS p a6).trans (bb _ _ y9),cH (cH al),co,?_,λk c' x' h=>?_⟩
  .exact (bS m n2).trans (bb _ _ ((k9 m n1).trans ((k8 m n1).trans (s7 _ _ (a8 _ _ n1 n2 e)))))
  .rw[aL,O,bG,R];rfl
  by_cases B:k<nm.length
  .rw[ef B] at h;show am k c' x' h
  have cr:=(aI.mp h).1;rw[aU,bY] at cr;have ek:k=nm.length:=();rw[ek,iO (aq _),Mq] at h;cases h;rw[ek,bM];show hw
 rintro Z M ⟨J,o6,o7,nm,y,rfl,a8,a2,al,a9,O,am⟩;rw[bz,cX] at O;have st:But p H M:=λm o nb e=>by
  have e3:H3 m=some o:=s3 _ _ (s2 _ _ ((k1 m nb).trans e));have e4:H4 m=some o:=sm _ _ nb (au e b3) e3;show a8 _ _ nb (au e4 a5) (s5 _ _ e4)
 have bX:=st _ _ bt hT;have b0:aA M vt ts:=Paired.imp' (λ_ _ ⟨m,D,I⟩=>⟨m,D,st _ _ (bZ I hp ∅) I⟩) ht;have a4:∀c,Co ts c->c∈nm.map (·.1):=λc R=>by
  rw[O,L.mem_iff,bA.2];obtain⟨t,bd,hu⟩:=ck.mp R;show gI.mpr ⟨t,bd,‹hu›⟩
 have bM:nm.length<=60:=by have:=congrArg List.length O;rw[ay] at this;lia
 have inj:∀a b,Co ts a->Co ts b->nmF nm a=nmF nm b->a=b:=λa b ha hb e=>by
  obtain⟨k,x,h1,_,h3⟩:=j3 (a4 a ha);obtain⟨k',x',be,_,cv⟩:=j3 (a4 b hb);have ex:x=x':=by rw[<-h3,<-cv,e]
  subst ex;have ek:=FD (am _ _ _ h1) (am _ _ _ be);subst ek;rw[h1] at be;show (jv (dz be)).1
 have cx:∀a,Co ts a->nmF nm a<10 ^ 60:=λa ha=>by
  obtain⟨k,x,h1,_,h3⟩:=j3 (a4 a ha);have B:=(aI.mp h1).1;rw[h3];show HW () (am _ _ _ h1)
 show⟨_,rfl,X,rfl,⟨_,SqL.of bX⟩,λZ_ hZ=>dH (K:=[]) (a:=X) (xs:=vt) (λi Z ys H'=>∃o,Z=[o,some (V.ref n)]/\aA H' ys ((ts.take i).map (nam (nmF nm)))/\Same M H'/\H' Z_=some (.lst ys)) ⟨none,rfl,.nil,bL hZ,aN⟩ (λi Z ys H' _ ⟨_,_,_,e,_⟩=>SqL.of (e _ _ bX)) ?_ ?_⟩
 .rintro i x Z ys H' hi ⟨o,rfl,an,ad,bi⟩;obtain⟨⟨a,b,c⟩,hs,t,rfl,hb⟩:=cj b0 hi;have hb:M t=some (.tup (nV [a,b,c])):=hb;have b1:=ad _ _ hb;have bd:=aZ hs;have b8:=(aI.mp hs).1;have dc:ys.length<=20:=by rw[aH an,ay,bu];lia
  have cy:∀z∈[a,b,c],Co ts z:=λz hz=>by
   show ck.mpr ⟨_,bd,?_⟩;simpa using hz
  show⟨_,rfl,t,rfl,⟨_,SqT.of b1⟩,λY hY=>ou (K:=[]) (a:=t) (xs:=nV [a,b,c]) (λk Z ap ag=>∃o,Z=[o,some (V.ref n)]/\ap=nV (([a,b,c].take k).map (nmF nm))/\Same H' ag/\ag Y=some (.lst ap)) ⟨none,rfl,rfl,bL hY,aN⟩ (by rintro k Z ap ag _ ⟨_,_,_,e,_⟩;show SqT.of (e _ _ b1)) ?_ ?_⟩
  .rintro k x Z ap ag B ⟨o,rfl,rfl,sY,bl⟩;rw[nV,bf] at B;obtain⟨z,hz,rfl⟩:=cw.mp B;have bN:k<3:=(aI.mp hz).1;obtain⟨_,x',_,h2,h3⟩:=j3 (a4 z (cy z (aZ hz)));subst h3;show⟨_,rfl,_,rfl,n,V.int (nmF nm z:Int),rfl,h2 ▸ DGet.k (k:=Sum.inl (z:Int)) (sY _ _ (ad _ _ a9)),bl,?_,λHn kn yn=>⟨_,rfl,?_,λm o e=>(kn m (au e hY)).trans (sY _ _ e),yn⟩⟩
   .rw[bz,ay,bu];have:([a,b,c]:List Nat).length=3:=rfl;lia
   rw[bG,hz,aL,<-fi];rfl
  rintro Z ap ag ⟨o,rfl,rfl,sY,bl⟩;show⟨Y,_,rfl,.inl ⟨SqL.of bl,λt' cB=>?_⟩⟩;walk_at"ag t' cB H9 s9 y9";have b2:=s9 _ _ (sY _ _ bi);have tn:∀{m:Addr}{xs:List V},H9 m=some (.tup xs)->m≠Z_:=λe=>bZ e b2 ∅;have et:(ts.take (i+1)).map (nam (nmF nm))=(ts.take i).map (nam (nmF nm))++[nam (nmF nm) (a,b,c)]:=by rw[bG,hs,aL];rfl
  show⟨b2,(),λba bm a3=>⟨_,rfl,?_,λm o e=>?_,a3⟩⟩
  .rw[et];show cD (Paired.imp' (λ_ _ ⟨m,D,I⟩=>⟨m,D,by have e3:=s9 _ _ (sY _ _ I);show (bm _ (tn e3)).trans e3⟩) an) (.cons ⟨t',rfl,(bm _ (tn y9)).trans y9⟩ .nil)
  show (bm _ (au e hZ)).trans (s9 _ _ (sY _ _ (ad _ _ e)))
 rintro Z ys H' ⟨o,rfl,an,ad,bi⟩;rw[aH b0,cX] at an;have cC:H Z_=none:=by
  cases e:H Z_ with
  |none=>rfl
  |some o=>
   have cM:Z_≠p:=λz=>by rw[z,a2] at hZ;cases hZ
   rw[st _ _ cM e] at hZ;cases hZ
 show Qq Z_ ys _ y H' cC (st.same ad) (ad _ _ a2) al bi an (ay ..) (xi g inj) (λu hu=>by
  obtain⟨a,ha,rfl⟩:=zK hu;show cx a ha) λcS c R=>by
  obtain⟨a,ha,rfl⟩:=zK R;show Gw g inj ha (cS a ha)
end
structure eB(P:Program)(w:World)(K:W.Frag)(mg:Str->Option Value)(base:Heap)(C:Addr)(n:Nat)(x:Str)(ps:List Str)(sp:Sp)(f:Addr)(fd:FuncData):Prop where
 g:ai P w K mg base CX0 n f fd ps sp
 b:Binds K fd ps []
 m:Meth K C x f
theorem gG{u:TT}{Q:Bool->Hp->Prop}(h:u Z H Q):pZ (qo u Z Q) true H:=aB (A:=Q true H) h
theorem iL{t u:TS}{D:Ends}(h:u D Z H):pZ (uu t u D Z) true H:=aB (A:=t D Z H) h
theorem zP{t u:TS}{D:Ends}(h:t D Z H):pZ (uu t u D Z) false H:=aO (B:=u D Z H) h
structure mv(K:W.Frag):Prop where
 t:W.kitOne K (.type "tuple") (.type "tuple")=some true
 i:W.kitOne K (.type "int") (.type "int")=some true
 b:W.kitOne K (.type "int") (.type "bool")=some false
def DL(vs:List V)(H:Hp)(Q:VK)(n:Int):Prop:=vs=[.int n]/\Q (.bl true) H
def xD:Sp:=λvs H Q _=>Exists (DL vs H Q)
def BP(vs:List V)(H:Hp)(Q:VK)(n:Nat):Prop:=vs=[.int (n:Int)]/\Q (.bl true) H
def lj:Sp:=λvs H Q _=>Exists (BP vs H Q)
section
theorem FZ:aK ["thing"] ["thing"] (ao ph):=⟨rfl,rfl,rfl,⋯,rfl,⋯,⋯⟩
theorem Ew{f:Addr}(U:Fun K "is_whole" "is_whole" ph f fd)(T:cq mg)(F:mv K):ai P w K mg base CX0 1 f fd ["thing"] xD:=by
 show U.ok FZ (by rintro _ _ _ _ ⟨_,rfl,_⟩;rfl) λa A outer s H vs Q E d h=>?_
 obtain⟨n,rfl,q⟩:=h;show⟨_,ak (aD (j1 (cz (jF (c:="int")) (by rfl) T.isi mQ (ae (pv 0) (pa1 (jQ (v:=.ty "int") rfl T.int gJ rfl))))
  (j0 (Ja (cz (jF (c:="bool")) (by rfl) T.isi mQ (ae (pv 0) (pa1 (jQ (v:=.ty "bool") rfl T.bool NR rfl)))))))),?_⟩
 show⟨_,rfl,_,_,true,rfl,.int n,F.i,true,rfl,aO ⟨_,rfl,_,_,false,rfl,.int n,F.b,false,rfl,q⟩⟩
theorem Cb:aK ["thing"] ["thing"] (ao nW):=⟨rfl,rfl,rfl,⋯,rfl,⋯,⋯⟩
theorem BU{f a:Addr}{fd b:FuncData}(U:Fun K "is_corner" "is_corner" nW f fd)(G:Use P w K mg base 1 "is_whole" ["thing"] xD a b) :
  ai P w K mg base CX0 2 f fd ["thing"] lj:=by
 show U.ok Cb (by rintro _ _ _ _ ⟨_,rfl,_⟩;rfl) λd A outer s H vs Q E c h=>?_
 obtain⟨n,rfl,q⟩:=h;show⟨_,ak (aD (j1 (uc G c (pa1 (pv 0))) (j0 (fP KY (pv 0) aj (nomark _))))),?_⟩;show⟨_,rfl,(n:Int),rfl,true,rfl,aO ⟨_,rfl,_,_,rfl,rfl,?_⟩⟩;change Q (.bl (decide ((n:Int) ≥ 0))) H;rw[OV ()];show q
end
section
theorem nG:aK ["thing","a","b","c"] ["thing"] (ao nU):=⟨rfl,rfl,rfl,⋯,rfl,⋯,⋯⟩
end
theorem nZ:bootBuiltins "min" = some (.builtin "min"):=⋯
def Bg(t u:Tri):Prop:=(u=t\/u=(t.2.1,t.2.2,t.1)\/u=(t.2.2,t.1,t.2.1))/\u.1<=u.2.1/\u.1<=u.2.2
def kyT(u:Tri):List Int:=[(u.1:Int),(u.2.1:Int),(u.2.2:Int)]
theorem rH{us:List Tri}(h:aA H vs us):Tups K H vs (us.map kyT):=by
 induction h with
 |nil=>show .nil
 |cons q _ b=>
  obtain⟨a,rfl,ha⟩:=q;show .cons ⟨a,rfl,SqT.of ha,by simp[kyT]⟩ b
theorem rJ{ks:List V}{ss:List Tri}(h:aA H ks ss):∀a:List Nat,(∀i∈a,i<ks.length)->aA H (a.map λi=>ks.getD i .non) (a.map λi=>ss.getD i (0,0,0))
 | [],_=>.nil
 |i::a,hi=>by
  have b:=hi i ∅;have h1:ks[i]?=some ks[i]:=aX b;obtain⟨y,c,hf⟩:=cj h h1;show .cons ?_ (rJ h a λj d=>hi j (bJ _ d));simp only[List.getD,h1,c,AM];show hf
theorem vH{ss:List Tri}{a:List Nat}(h:a.Perm (List.range ss.length)):(a.map λi=>ss.getD i (0,0,0)).Perm ss:=by
 have:=h.map λi=>ss.getD i (0,0,0);show this.trans (mB ?_);show Ar λi=>?_;rw[bf];by_cases hi:i<ss.length
 .rw[LW hi];simp[List.getD,aX hi]
 rw[uH ‹hi›,uH ()];rfl
def D7(vs:List V)(H:Hp)(Q:VK)(t:Addr)(x:Tri):Prop:=vs=[.ref t]/\H t=some (.tup [.int (x.1:Int),.int (x.2.1:Int),.int (x.2.2:Int)])/\
 ∀r u H',Same H H'->H' r=some (.tup [.int (u.1:Int),.int (u.2.1:Int),.int (u.2.2:Int)])->Bg x u->Q (.ref r) H'
def sM:Sp:=λvs H Q _=>Exists (Ex2 (D7 vs H Q))
theorem jK{a b:Int}{xs ys:List Int}(h:HT.lexLt (b::ys) (a::xs)=false):a<=b:=by
 unfold HT.lexLt at h
 split at h
 .lia
 have:=of_decide_eq_false h;lia
section
theorem oG:aK ["triple","a","b","c"] ["triple"] (ao pG):=⟨rfl,rfl,rfl,⋯,rfl,⋯,⋯⟩
theorem ES{f:Addr}(U:Fun K "begun_least" "begun_least" pG f fd)(mN:mg "min" = none):ai P w K mg base CX0 1 f fd ["triple"] sM:=by
 show U.ok oG (by rintro _ _ _ _ ⟨_,_,rfl,_⟩;rfl) λO A outer s H vs Q E I h=>?_
 obtain⟨t,⟨a,b,c⟩,rfl,j,q⟩:=h;have j:H t=some (.tup [.int (a:Int),.int (b:Int),.int (c:Int)]):=j;show⟨_,ah (ff (pv 0) (cT rfl (aR (gx 1 oG.nd) (aR (gx 2 oG.nd) (aR (gx 3 oG.nd) cP)))))
  (ak (aD (cz (BE rfl I.units) (by rfl) mN nZ (pa1 (bT (ae (aJ (ae (pv 1) (ae (pv 2) (pa1 (pv 3))))) (ae (aJ (ae (pv 2) (ae (pv 3) (pa1 (pv 1))))) (pa1 (aJ (ae (pv 3) (ae (pv 1) (pa1 (pv 2))))))))))))),?_⟩
 show⟨_,rfl,t,_,rfl,SqT.of j,rfl,_,_,rfl,_,_,rfl,_,_,rfl,rfl,?_⟩;show⟨_,rfl,_,rfl,_,rfl,lit3,λm H1 R s1 J=>?_⟩;show⟨_,rfl,_,rfl,_,rfl,lit3,λn H2 S s2 L=>?_⟩;show⟨_,rfl,_,rfl,_,rfl,lit3,λo T X p M=>?_⟩;show⟨lit3,λl e Y g N=>?_⟩;have v:=((s2.trans p).trans g) _ _ J;have x:=(p.trans g) _ _ L;have z:=g _ _ M;have r:=((s1.trans s2).trans p).trans g;have tr:aA e [V.ref m,.ref n,.ref o] [(a,b,c),(b,c,a),(c,a,b)]:=.cons ⟨m,rfl,v⟩ (.cons ⟨n,rfl,x⟩ (.cons ⟨o,rfl,z⟩ .nil));show⟨l,_,_,rfl,SqL.of N,rH tr,∅,λi y d u=>?_⟩;have B:=u 0 ∅;have C:=u 1 ∅;have D:=u 2 ∅
 match i,d with
 |0,d=>
  cases d;have h1:(a:Int)<=b:=jK C;have h2:(a:Int)<=c:=jK D;show q m (a,b,c) e r v ⟨.inl rfl,by change a<=b;lia,by change a<=c;lia⟩
 |1,d=>
  cases d;have h1:(b:Int)<=a:=jK B;have h2:(b:Int)<=c:=jK D;show q n (b,c,a) e r x ⟨.inr (.inl rfl),by change b<=c;lia,by change b<=a;lia⟩
 |2,d=>
  cases d;have h1:(c:Int)<=a:=jK B;have h2:(c:Int)<=b:=jK C;show q o (c,a,b) e r z ⟨.inr (.inr rfl),by change c<=a;lia,by change c<=b;lia⟩
 |i+3,d=>simp at d
end
end K15
end
section
namespace L2
open PySem PySem.Spec PyProof.Rows
section
def tDM0(r:V->List V->Hp->VK->Prop)(to:TE):TE:=λZ H Q=>to Z H λx H1=>(∃a,x=.ref a/\IsD H1 a)/\r x [] H1 Q
theorem zq{o:Expr}{to:TE}{name:Str}{apos cpos:Pos}{id:String}{r:V->List V->Hp->VK->Prop}(slot:Slot "dict" name id)(c:typeOf (.builtin id)=pure (.type "method_descriptor"))(hm:MtM X id r)(d:PE X o to)
  (e:attributeBase o name X.env (eval o X.env)=eval o X.env:=by rfl) (f:(apos.endLine==cpos.line)=true:=by rfl):PE X (.Call (.Attribute o name apos) [] [] cpos) (tDM0 r to):=by
 intro OY s Z H Q I h;show wpAny_Call_method0_late e f (thn (d OY s Z H _ I h) λv s1 ⟨x,H1,b,g,⟨a,ex,hd⟩,i⟩=>?_);subst ex;obtain rfl:v=Value.ref a:=g;obtain⟨j,l,_⟩:=pT b hd;show⟨"dict",id,qV,slot,c,j,l,kD rfl (PySem.evalArgs_none (hm OY s1 Z H1 (.ref a) [] (.ref a) [] Q b rfl .nil i))⟩
end
section
open PySem.W in
def Gc(K:W.Frag):List V->Hp->VK->Prop:=λxs H Q=>∃(a:Addr)(u:HO),xs=[.ref a]/\Rd H a u/\dP u/\∀ks vs,DKV H u ks vs->
 (∃ns:List Int,ks=ns.map V.int/\ns.length<64/\∀(p:Addr)(ms:List Int),H p=none->ms.Perm ns->ms.Pairwise (·<=·)->Q (.ref p) (upd H p (.lst (ms.map V.int)))) \/
 ∃d:List (List Int),Tups K H ks d/\ks.length<64/\∀(p:Addr)(c:List Nat),H p=none->c.Perm (List.range ks.length)->(c.map λi=>d.getD i []).Pairwise (λa b=>HT.lexLt b a=false)->Q (.ref p) (upd H p (.lst (c.map λi=>ks.getD i .non)))
open PySem.W in
theorem Bp(l:X.calm=true):cV X (.builtin "sorted") (Gc []):=by
 intro OY s Z H xs us Q I r h;obtain⟨a,N,rfl,hd,n,k⟩:=h;obtain⟨u,rfl,p⟩:=Vals.one r;cases p;obtain⟨lo,ks,vs,es,ep,q,hz,w,d,O⟩:=l9 I hd n;obtain⟨m,F⟩:=I.fr;have x:ks.length=es.size:=by have:=d.length;simpa using this
 show kdu_sorted (dSrc (es:=es) (ep:=ep) lo) (I.ok.hd l) F (rT (g:=X.base) (L:=X.env.locals)) w (by rw[<-x];show hz) λD h' tk b y f A B C=>?_;obtain⟨k1,k2⟩:=I.newsKept (t':=s.toks) (more:=[(D,listOf b.toArray 0)]) F y f;have c:=f (D,listOf b.toArray 0) (.head _);have i:s.heap.get? D=none:=by
  cases e:s.heap.get? D with
  |none=>rfl
  |some o=>show absurd (A (D,o) (rf c.2.1 c.2.2 e)) (c7 _)
 have ev:b=es.toList.map (·.key):=by show vK (by rw[B];simp) λj v e=>?_;obtain⟨E,rfl⟩:=C j v e;rw[bf];simp[E]
 have K:Inv X OY Z (upd H D (.lst ks)) {s with heap:=h',toks:=tk}:=I.laidN (t':=tk) k1 k2 i (λH'=>⟨hz,b,0,by rw[ev];show d,c.1⟩) (λ_ _ z=>by cases z);have z:=vy (X:=qj X) OY _ Z _ (.ref D) [] (.ref D) [] (λ_ H'=>Q (.ref D) H') K.toIn1 rfl .nil (wM (I.hok.none_of i) (k ks vs q));show thn z λ_ s' ⟨_,H',J,_,M⟩=>⟨.ref D,H',J.ofIn1,rfl,M⟩
end
def Sm(H H':Hp):Prop:=∀b o,H b=some o->H' b=some o\/(dP o/\∃ob,H' b=some (.frz ob o))
theorem Sm.refl(H:Hp):Sm H H:=λ_ _ e=>.inl e
theorem Sm.of(s:Same H H'):Sm H H':=λb o e=>.inl (s b o e)
theorem Sm.trans{H H1 H2:Hp}(a:Sm H H1)(b:Sm H1 H2):Sm H H2:=λc o e=>by
 rcases a c o e with d|⟨hd,ob,d⟩
 .exact b c o d
 rcases b c _ d with f|⟨g,_⟩
 .exact .inr ⟨hd,ob,f⟩
 show False.elim g
theorem Sm.free(s:Sm H H'){l:Addr}(h:H' l=none):H l=none:=by
 cases q:H l with
 |none=>rfl
 |some o=>rcases s l o q with e|⟨_,_,e⟩<;>(rw[h] at e;cases e)
theorem Sm.keep(s:Sm H H'){b:Addr}{o:HO}(e:H b=some o)(a:¬dP o):H' b=some o:=(s b o e).elim id λz=>(a z.1).elim
theorem Sm.rd(s:Sm H H'){b:Addr}{o:HO}(e:Rd H b o):Rd H' b o:=by
 rcases e with e|⟨ob,e⟩
 .rcases s b o e with z|⟨_,ob,z⟩
  .exact .inl z
  show .inr ⟨ob,z⟩
 show .inr ⟨ob,s.keep e (λz=>z)⟩
theorem Fz.sm{H H2:Hp}{d:Addr}{o:Obj}{u:HO}(f:Fz H H2 d o u):Sm H H2:=λb w e=>by
 by_cases a:b=d
 .subst a;rcases f.1 with z|z
  .rw[z] at e;cases e;show .inr ⟨f.2.1,o,f.at⟩
  rw[z] at e;cases e;show .inl f.at
 show .inl ((f.ne a).trans e)
section
variable {d D:Addr}{o:Obj}{u:HO}{ks vs:List V}{g:TG}{tt:TT}{te:TE}{Z':St}{H1:Hp}{Q:Hp->Prop}
theorem Dw(Pv:Nat->St->List V->Hp->Prop)(b:Pv 0 Z' [] (upd H1 D (.lst [])))(c:∀i Z ys H,i<=ks.length->Pv i Z ys H->H d=some (.frz o u))
  (f:∀i x Z ys H,ks[i]?=some x->Pv i Z ys H->g x Z H (qp tt te D ys (Pv (i+1))))
  (hd:∀Z ys H,Pv ks.length Z ys H->Q H):jV (Itk d o ks) g tt te D Z' H1 Q:=by
 show⟨λi m Z ys H=>m=ks.length-i/\i<=ks.length/\Pv i Z ys H,⟨ks.length,∅,bE _,b⟩,?_⟩;rintro i m Z ys H ⟨rfl,hi,p⟩;have q:=c i Z ys H hi p;by_cases a:i<ks.length
 .refine .inr ⟨⟨a,u,q⟩,Pv (i+1),λZ' j H' h=>⟨ks.length-(i+1),(),rfl,a,h⟩,λx H' y=>?_⟩;obtain⟨e,y⟩:=y;subst e;show f i x Z ys _ y p
 have e:i=ks.length:=();subst e;show .inl ⟨⟨aq _,u,q⟩,hd Z ys H p⟩
theorem Dj{tb:TS}{D:Ends}(Pv:Nat->St->Hp->Prop)(f:Pv 0 Z H)(h:∀i Z H,i<=ks.length->Pv i Z H->H d=some (.frz o u))
  (j:∀i x y p Z H,ks[i]?=some x->vs[i]?=some y->Pv i Z H->H p=none->g (.ref p) Z (upd H p (.tup [x,y])) λσ2 H2=>tb {D with nx:=Pv (i+1),ct:=Pv (i+1),bk:=D.nx} σ2 H2) (hd:∀Z H,Pv ks.length Z H->D.nx Z H) :
  ∃W:Nat->Nat->St->Hp->Prop,(∃m,W 0 m Z H)/\∀i m Z H,W i m Z H->
   ((Iti d o ks vs).stop i H/\D.nx Z H)\/((Iti d o ks vs).go i H/\∃N:St->Hp->Prop,(∀Z' H',N Z' H'->∃a,a<m/\W (i+1) a Z' H')/\∀x H',(Iti d o ks vs).yld i H x H'->g x Z H' λσ2 H2=>tb {D with nx:=N,ct:=N,bk:=D.nx} σ2 H2):=by
 show⟨λi m Z H=>m=ks.length-i/\i<=ks.length/\Pv i Z H,⟨ks.length,∅,bE _,f⟩,?_⟩;rintro i m Z H ⟨rfl,hi,p⟩;have q:=h i Z H hi p;by_cases c:i<ks.length
 .refine .inr ⟨⟨c,u,q⟩,Pv (i+1),λZ' H' l=>⟨ks.length-(i+1),(),rfl,c,l⟩,λx H' y=>?_⟩;obtain⟨b,k,v,n,rfl,rfl,r,s⟩:=y;show j i k v b Z H r s p n
 have e:i=ks.length:=();subst e;show .inl ⟨⟨aq _,u,q⟩,hd Z H p⟩
end
end L2
end
section
namespace K15
open PySem L2 K51 K31
def DZ(vs:List V)(H:Hp)(Q:VK)(d:Addr)(l:List (Nat×Nat)):Prop:=vs=[.ref d]/\Rd H d (.dK (l.map nmV))/\l≠[]/\l.length<=1000/\
 ∀(s:Nat) H',Sm H H'->s∈l.map (·.1)->((∀o,(o,s)∉l)\/∀p,p∈l.map (·.1)->∃o,(o,p)∈l)->Q (.int (s:Int)) H'
def sL:Sp:=λvs H Q _=>Exists (Ex2 (DZ vs H Q))
theorem yy(l:List (Nat×Nat)):(l.map nmV).map (λp=>kV p.1)=nV (l.map (·.1)):=by rw[bC];unfold nV;rw[bC];rfl
theorem G7(l:List (Nat×Nat)):(l.map nmV).map (·.2)=nV (l.map (·.2)):=by rw[bC];unfold nV;rw[bC];rfl
section
theorem sO:aK ["onward","reached","begins"] ["onward"] (ao pD):=⟨rfl,rfl,rfl,⋯,rfl,⋯,⋯⟩
theorem EL{f:Addr}(U:Fun K "first_of" "first_of" pD f fd)(T:cq mg)(mN:mg "min" = none):ai P w K mg base CX0 1 f fd ["onward"] sL:=by
 show U.ok sO (by rintro _ _ _ _ ⟨_,_,rfl,_⟩;rfl) λOZ A outer s H vs Q E hr h=>?_
 obtain⟨d,l,rfl,hd,ab,hl,q⟩:=h;show⟨_,ah (sx 1 sO.nd (c_ (By rfl) (by rfl) T.list uS (pa1 (zq MJ PySem.F.type_dict_values Da (pv 0)))))
  (ah (oP (i:=2) (N:=["p","reached"]) (fr:=[none,some 1]) (tt:=iI (tOp (rIn [] true) (aW 0) (aW 1))) (c9 ⋯ rfl rfl ⋯ ⋯ (by walk_at"cs") (by walk_at"ct")) rfl (yu (pv 0))
    (λC' s' H' fp OY=>⟨gx 0 (⋯:(["p","reached"]:List Str).Nodup),gR (a7 ij (pv 0) (pv 1) rfl),pv 0⟩) sO.nd rfl (.inl rfl))
  (ak (aD (wZ (Ek (pv 2) (λ_=>rfl)) (ixx cQ (pv 2) aj) (cz (BF rfl) (by rfl) mN nZ (pa1 (pv 0))))))),?_⟩
 have am:=line5000;show⟨_,rfl,⟨d,rfl,.inl ⟨_,hd⟩⟩,d,_,rfl,rfl,hd,λv hv=>?_⟩;walk_at"H v hv H1 s1 y1";have L:=(Sm.of s1).rd hd;show⟨v,d,_,rfl,y1,L,λr ad=>?_⟩;walk_at"H1 r ad H2 s2 M";have ag:=(Sm.of s2).rd L;rw[G7] at M;show⟨_,rfl,d,_,rfl,ag,True.intro,λks vs o O hk hz=>?_⟩;have ek:ks=nV (l.map (·.1)):=by
  rcases hk with ⟨kvs,e,e1,_⟩|⟨kvs,as,e,_⟩
  .cases e;rw[e1,yy]
  cases e
 subst ek;have y3:O r=some (.lst (nV (l.map (·.2)))):=hz.sm.keep M (λz=>z);show λZ_ R=>Dw (d:=d) (o:=o) (u:=.dK (l.map nmV)) (ks:=nV (l.map (·.1))) (λi Z ys H'=>∃o,Z=[o,some (.ref r)]/\ys=nV (((l.map (·.1)).take i).filter λp=>decide (p∉l.map (·.2)))/\Same O H'/\H' Z_=some (.lst ys)) ⟨none,rfl,rfl,bL R,aN⟩ (by rintro i Z ys H' _ ⟨_,_,_,e,_⟩;show e _ _ hz.at) ?_ ?_
 .rintro i y Z ys H' hi ⟨o,rfl,rfl,c,S⟩;rw[nV,bf] at hi;obtain⟨n,C,rfl⟩:=cw.mp hi;have X:(l.map (·.1)).take (i+1)=(l.map (·.1)).take i++[n]:=by rw[bG,C];rfl
  show⟨_,rfl,_,rfl,r,_,rfl,.inl (SqL.of (c _ _ y3)),rfl,i9 _,_,rfl,?_⟩;change if (if true=true then !inV (V.int (n:Int)) (nV (l.map (·.2))) else _)=true then _ else _
  rw[OU rfl,gX];by_cases g:n∈l.map (·.2)
  .rw[OV g];show aB ⟨_,rfl,?_,c,S⟩;rw[X,fq,dR,OT ‹g›,jo,eG]
  rw[OW g];show aO ⟨_,rfl,S,?_,λHn kn yn=>⟨_,rfl,?_,λb o e=>(kn b (au e R)).trans (c _ _ e),yn⟩⟩
  .rw[bz];have h1:=eg (λp=>decide (p∉l.map (·.2))) ((l.map (·.1)).take i);rw[bu,ay] at h1;lia
  rw[X,fq,dR,OU ‹g›,jo,<-fi];rfl
 rintro Z ys D ⟨o',rfl,rfl,c,B⟩;rw[bz,cX] at B;have Y:Sm H D:=((Sm.of (s1.trans s2)).trans hz.sm).trans (Sm.of c);have I:∀x,x∈((l.map (·.1)).filter λp=>decide (p∉l.map (·.2)))↔x∈l.map (·.1)/\x∉l.map (·.2):=λx=>by rw[dG,decide_eq_true_eq]
 have al:∀x,x∉l.map (·.2)->∀o,(o,x)∉l:=λx hx o J=>hx (ar.mpr ⟨_,J,rfl⟩);generalize ((l.map (·.1)).filter λp=>decide (p∉l.map (·.2)))=bs at I B;show⟨_,rfl,_,.inl ⟨_,SqL.of B,rfl⟩,?_⟩;cases bs with
 |cons b bs=>
  show aO ⟨_,rfl,Z_,_,_,_,rfl,rfl,SqL.of B,bO (j:=0) rfl,?_⟩;obtain⟨h1,h2⟩:=(I b).mp ∅;show q b D Y h1 (.inl (al b h2))
 |nil=>
  show aB ⟨_,rfl,d,_,(l.map (·.1)).map (λn:Nat=>(n:Int)),rfl,(Sm.of c).rd (.inr ⟨_,hz.at⟩),by rw[yy,bC];rfl,?_,λm hm an=>?_⟩
  .cases l with
   |nil=>show absurd rfl ab
   |cons a l=>simp
  obtain⟨n,C,rfl⟩:=ar.mp hm;show q n D Y C (.inr λp hp=>?_);have:p∈l.map (·.2):=qA λz=>by
   have:=(I p).mpr ⟨hp,z⟩;cases this
  obtain⟨⟨o,p'⟩,J,rfl⟩:=ar.mp this;show⟨o,J⟩
end
structure Abt(E:Nat->Nat->Nat->Prop)(v:Nat)(l:List (Nat×Nat)):Prop where
 nd:(l.map (·.1)).Nodup
 mem:∀p q,(p,q)∈l↔E v p q
def FT(vs:List V)(H:Hp)(Q:VK)(d:Addr)(l:List (Nat×Nat))(E:Nat->Nat->Nat->Prop)(v:Nat):Prop:=vs=[.ref d]/\Rd H d (.dK (l.map nmV))/\l≠[]/\l.length<=1000/\Sk E/\Abt E v l/\
 ∀(b:Bool) H',Sm H H'->(b=true↔One E v)->Q (.bl b) H'
def zi:Sp:=λvs H Q _=>Exists (Ex4 (FT vs H Q))
theorem HG(l:List (Nat×Nat))(c:Nat):ji (l.map nmV) (Sum.inl (c:Int):Key)=(l.filter λx=>decide (x.1≠c)).map nmV:=by
 unfold ji;rw[List.filter_map]
 congr 1
 apply List.filter_congr;intro x _;change decide ((Sum.inl (x.1:Int):Key)≠Sum.inl (c:Int))=decide (x.1≠c);by_cases h:x.1=c
 .simp[h]
 have z:¬(Sum.inl (x.1:Int):Key)=Sum.inl (c:Int):=λz=>h (by have:(x.1:Int)=(c:Int):=mV z;lia);simp only[ne_eq,h,z,not_false_eq_true]
theorem Dk{α:Type}(l:List α)(f:α->Bool){x:α}(hx:x∈l)(hf:f x=false):(l.filter f).length<l.length:=by
 induction l with
 |nil=>cases hx
 |cons a l b=>
  rw[dR];have:=eg f l;rcases aG.mp hx with e|h
  .subst e;rw[OT (by rw[hf];decide),cE];lia
  have:=b h
  split<;>simp only[cE]<;>lia
section
theorem pf:aK ["about","at","left"] ["about"] (ao qc):=⟨rfl,rfl,rfl,⋯,rfl,⋯,⋯⟩
theorem GQ{f f1:Addr}{fd d1:FuncData}(U:Fun K "hang_together" "hang_together" qc f fd)(T:cq mg)(mD:mg "dict" = none)(G:Use P w K mg base 1 "first_of" ["onward"] sL f1 d1) :
  ai P w K mg base CX0 2 f fd ["about"] zi:=by
 show U.ok pf (by rintro _ _ _ _ ⟨_,_,_,_,rfl,_⟩;rfl) λOZ A outer s H vs Q E R h=>?_
 obtain⟨d,l,E,v,rfl,hd,ag,S,k,ab,q⟩:=h;have hu:=cU R;show⟨_,ah (sx 1 pf.nd (uc G R (pa1 (pv 0))))
  (ah (sx 2 pf.nd (c_ Bz (by rfl) mD NT (pa1 (pv 0))))
  (ah (lE cY (gB (pJ hu (pv 1) (pv 2))) (ak (sx 1 pf.nd (Er (pv 2) (pv 1) ⟨rfl,rfl,rfl,rfl⟩))))
  (ak (aD (fP dM (cz Dy (by rfl) T.len MZ (pa1 (pv 2))) aj (nomark _)))))),?_⟩
 show⟨_,rfl,d,l,rfl,hd,ag,S,λs1 H1 I al am=>?_⟩;show⟨_,rfl,d,_,rfl,I.rd hd,λp g=>?_⟩;walk_at"H1 p g H2 s2 y2";have an:(∀o,¬E v o s1)\/∀p,(∃q,E v p q)->∃o,E v o p:=by
  rcases am with h|h
  .exact .inl λo J=>h o ((ab.mem _ _).mpr J)
  show .inr λp ⟨q,j⟩=>?_;obtain⟨o,J⟩:=h p (ar.mpr ⟨_,(ab.mem _ _).mpr j,rfl⟩);show⟨o,(ab.mem _ _).mp J⟩
 show⟨λm Z H'=>∃(L:List Nat)(at_:Nat)(lf:List (Nat×Nat)),Z=[some (.ref d),some (.int (at_:Int)),some (.ref p)]/\m=lf.length/\Sm H H'/\H' p=some (.dK (lf.map nmV))/\lf.length<=1000/\(lf.map (·.1)).Nodup/\(∀x,x∈lf↔x∈l/\x.1∉L)/\
  L.Nodup/\(∀p∈L,∃q,E v p q)/\(∀i p q,L[i]?=some p->L[i+1]?=some q->E v p q)/\(L=[]/\at_=s1\/L.head?=some s1/\∀p,L.getLast?=some p->E v p at_),
  ⟨_,[],s1,l,rfl,rfl,I.trans (Sm.of s2),y2,S,ab.nd,∅,jq,∅,∅,.inl ⟨rfl,rfl⟩⟩,?_⟩
 rintro m Z H' ⟨L,at_,lf,rfl,rfl,sm,B,a5,nd,mem,X,key,ch,C⟩;show⟨_,rfl,_,rfl,p,_,rfl,DGet.k (k:=Sum.inl (at_:Int)) B,?_⟩;by_cases D:at_∈lf.map (·.1)
 .obtain⟨i,x,h1,h2,_⟩:=j3 D;have hx:(at_,x)∈lf:=aZ h1;obtain⟨ap,aM⟩:=(mem _).mp hx;have Y:E v at_ x:=(ab.mem _ _).mp ap;show⟨true,by rw[h2];rfl,?_⟩;show aO ⟨λZ' M=>∃(L:List Nat)(u:Nat)(n:List (Nat×Nat)),Z'=[some (.ref d),some (.int (u:Int)),some (.ref p)]/\n.length<lf.length/\Sm H M/\M p=some (.dK (n.map nmV))/\n.length<=1000/\(n.map (·.1)).Nodup/\(∀x,x∈n↔x∈l/\x.1∉L)/\
   L.Nodup/\(∀p∈L,∃q,E v p q)/\(∀i p q,L[i]?=some p->L[i+1]?=some q->E v p q)/\(L=[]/\u=s1\/L.head?=some s1/\∀p,L.getLast?=some p->E v p u),
   λZ' M ⟨L,u,n,e,N,r⟩=>⟨_,N,L,u,n,e,rfl,r⟩,?_⟩
  show⟨_,rfl,p,rfl,.inl ⟨_,.inl B⟩,_,rfl,_,Sum.inl (at_:Int),_,B,rfl,h2,?_⟩;rw[HG];have aS:H p=none:=(I.free g);have N:=Dk lf (λy=>decide (y.1≠at_)) hx ∅;show λH3 k3 y3=>⟨L++[at_],x,lf.filter λy=>decide (y.1≠at_),rfl,N,λb o e=>?_,y3,(),?_,λy=>?_,?_,λy hy=>?_,λi p q g j=>?_,.inr ⟨?_,λp g=>?_⟩⟩
  .rw[k3 _ (au e aS)];show sm b o e
  .exact nd.sublist (LG _ List.filter_sublist)
  .rw[dG,mem y,a_,aQ,decide_eq_true_eq];constructor
   .rintro⟨⟨a,b⟩,c⟩;show⟨a,λz=>z.elim b c⟩
   rintro⟨a,b⟩;show⟨⟨a,λz=>b (.inl z)⟩,λz=>b (.inr z)⟩
  .rw[bV];show⟨X,∅,λa ha b hb=>by rw[aQ] at hb;rintro rfl;rw[hb] at ha;show aM ha⟩
  .rcases a_.mp hy with h|h
   .exact key y h
   rw[aQ.mp h];show⟨x,Y⟩
  .by_cases hi:i+1<L.length
   .rw[ef ()] at g;rw[ef hi] at j;show ch i p q g j
   by_cases a0:i+1=L.length
   .rw[ef ()] at g;rw[iO ()] at j;have:i+1-L.length=0:=();rw[this] at j;simp at j;subst j;rcases C with ⟨rfl,_⟩|⟨_,h⟩
    .simp at a0
    show h p (by rw[gi,show L.length-1=i by lia];show g)
   rw[iO ()] at j;have:=(aI.mp j).1;rw[bY] at this;lia
  .rcases C with ⟨rfl,rfl⟩|⟨h,_⟩
   .rfl
   cases L with
   |nil=>cases h
   |cons a L=>show h
  rw[LY] at g;simp at g;subst g;show Y
 show⟨false,by rw[tD D];rfl,aB ?_⟩;have ad:L≠[]:=by
  rintro rfl;rcases C with ⟨_,rfl⟩|⟨h,_⟩
  .obtain⟨⟨a,b⟩,h1,rfl⟩:=ar.mp al;show D (ar.mpr ⟨_,(mem _).mpr ⟨h1,∅⟩,rfl⟩)
  cases h
 obtain⟨hh,a1⟩:L.head?=some s1/\∀p,L.getLast?=some p->E v p at_:=C.resolve_left λz=>ad z.1;have a2:=E7 k ad X key ch a1 (λ⟨r,O⟩=>qA λz=>D (ar.mpr ⟨_,(mem (at_,r)).mpr ⟨(ab.mem _ _).mpr O,z⟩,rfl⟩)) hh an;show⟨_,rfl,p,_,rfl,B,rfl,?_⟩;rw[ay];show q _ H' sm ?_;rw[kq,decide_eq_true_eq,<-a2];constructor
 .intro h0 p ⟨r,O⟩;have a3:lf=[]:=List.length_eq_zero_iff.mp ();show qA λz=>?_;have:=(mem (p,r)).mpr ⟨(ab.mem _ _).mpr O,z⟩;rw[a3] at this;cases this
 intro a4;have:lf=[]:=by
  cases lf with
  |nil=>rfl
  |cons y lf=>
   obtain⟨h1,h2⟩:=(mem y).mp ∅;obtain⟨a,b⟩:=y;show absurd (a4 a ⟨b,(ab.mem _ _).mp h1⟩) h2
 rw[this];rfl
end
def EnAt(H:Hp)(v:V)(e:Ent):Prop:=∃u s,v=.ref u/\H u=some (.tup [.ref s,.int (e.2:Int)])/\H s=some (.tup ((ky e.1.1 e.1.2).map kV))
section
theorem iV:aK ["things","triples","k","thing","a","b","c"] ["things"] (ao lD):=⟨rfl,rfl,rfl,⋯,rfl,⋯,⋯⟩
theorem iq:aK ["triples","thirds","k","a","b","c","side","third"] ["triples"] (ao oM):=⟨rfl,rfl,rfl,⋯,rfl,⋯,⋯⟩
end
def stV(x:Nat×Addr):Key×V:=(Sum.inl (x.1:Int),V.ref x.2)
theorem y_{L:List (Nat×Addr)}{c:Nat}(h:c∉L.map (·.1)):bh (L.map stV) (Sum.inl (c:Int):Key)=none:=by
 induction L with
 |nil=>simp[bh]
 |cons x L a=>
  rw[aY,aG,not_or] at h;rw[aY,gw (λz=>h.1 ?_)]
  .exact a h.2
  have:(x.1:Int)=(c:Int):=mV z;lia
theorem lV{L:List (Nat×Addr)}{c:Nat}(h:c∈L.map (·.1)):∃a,(c,a)∈L/\bh (L.map stV) (Sum.inl (c:Int):Key)=some (V.ref a):=by
 induction L with
 |nil=>cases h
 |cons y L d=>
  obtain⟨b,x⟩:=y;by_cases e:b=c
  .subst e;show⟨x,∅,ip (p:=stV (b,x)) (r:=L.map stV) rfl⟩
  rw[aY] at h;obtain⟨a,h1,h2⟩:=d ((aG.mp h).resolve_left λz=>e z.symm);show⟨a,bJ _ h1,?_⟩;rw[aY,gw (λz=>e ?_)]
  .exact h2
  have:(b:Int)=(c:Int):=mV z;lia
def abt(es:List Ent)(c:Nat):List (Nat×Nat):=(es.filter λe=>decide (e.1.1=c)).map λe=>(e.1.2,e.2)
theorem jT{es:List Ent}{c p q:Nat}:(p,q)∈abt es c↔((c,p),q)∈es:=by
 unfold abt;rw[ar];constructor
 .rintro⟨⟨⟨a,b⟩,d⟩,h1,h2⟩;rw[dG,decide_eq_true_eq] at h1;obtain⟨h1,rfl⟩:=h1;cases h2;show h1
 intro h;show⟨_,dG.mpr ⟨h,OV rfl⟩,rfl⟩
theorem tu(es:List Ent)(c:Nat):(abt es c).length<=es.length:=by unfold abt;rw[ay];show eg _ _
theorem xr{es:List Ent}{c p:Nat}(h:p∈(abt es c).map (·.1)):(c,p)∈es.map (·.1):=by obtain⟨⟨a,q⟩,h1,rfl⟩:=ar.mp h;show ar.mpr ⟨_,jT.mp h1,rfl⟩
theorem zN{es:List Ent}(h:(es.map (·.1)).Nodup)(c:Nat):((abt es c).map (·.1)).Nodup:=by
 induction es with
 |nil=>simp[abt]
 |cons e es b=>
  rw[aY,cJ] at h;by_cases he:e.1.1=c
  .have a:abt (e::es) c=(e.1.2,e.2)::abt es c:=by unfold abt;rw[dR,OU (OV he)];rfl
   rw[a,aY,cJ];show⟨λz=>h.1 ?_,b h.2⟩;have:=xr z;rw[<-he] at this;show this
  have a:abt (e::es) c=abt es c:=by unfold abt;rw[dR,OT ‹he›]
  rw[a];show b h.2
theorem sr(es:List Ent)(c p q a:Nat):abt (es++[((c,p),q)]) a=if c=a then abt es a++[(p,q)] else abt es a:=by
 unfold abt;rw[fq,aL,dR];by_cases h:c=a
 .rw[OU h,OU (OV h)];rfl
 rw[OT h,OT ‹h›];simp
structure StAt(H0 H:Hp)(S:Addr)(es:List Ent)(L:List (Nat×Addr)):Prop where
 at_:H S=some (.dK (L.map stV))
 len:L.length<=es.length
 nk:(L.map (·.1)).Nodup
 na:(L.map (·.2)).Nodup
 fr:∀x∈L,H0 x.2=none/\x.2≠S
 ab:∀x∈L,H x.2=some (.dK ((abt es x.1).map nmV))
 key:∀c,c∈L.map (·.1)↔∃p q,((c,p),q)∈es
def DN(vs:List V)(H:Hp)(Q:VK)(D:Addr)(es:List Ent):Prop:=vs=[.ref D]/\H D=some (.dT (es.map bj))/\(es.map (·.1)).Nodup/\es.length<=1200/\
 ∀S L H',H S=none->Sm H H'->StAt H H' S es L->Q (.ref S) H'
def xE:Sp:=λvs H Q _=>Exists (Ex2 (DN vs H Q))
theorem G_{L:List (Nat×Addr)}(nk:(L.map (·.1)).Nodup)(na:(L.map (·.2)).Nodup){c d:Nat}{a:Addr}(h:(c,a)∈L)(h':(d,a)∈L):c=d:=by
 induction L with
 |nil=>cases h
 |cons x L f=>
  rw[aY,cJ] at nk na;rcases aG.mp h with e|h
  .rcases aG.mp h' with b | h'
   .rw[<-e] at b;cases b;rfl
   show (na.1 (ar.mpr ⟨_,h',by rw[<-e]⟩)).elim
  rcases aG.mp h' with b | h'
  .exact (na.1 (ar.mpr ⟨_,h,by rw[<-b]⟩)).elim
  show f nk.2 na.2 h h'
section
theorem jM:aK ["thirds","steps","c","p","q","about"] ["thirds"] (ao pj):=⟨rfl,rfl,rfl,⋯,rfl,⋯,⋯⟩
theorem Ey{f:Addr}(U:Fun K "steps_by_corner" "steps_by_corner" pj f fd):ai P w K mg base CX0 1 f fd ["thirds"] xE:=by
 show U.ok jM (by rintro _ _ _ _ ⟨_,_,rfl,_⟩;rfl) λOZ A outer s H vs Q E hr h=>?_
 obtain⟨D,es,rfl,B,aS,hl,q⟩:=h;have hu:=cU hr;show⟨_,ah (sx 1 jM.nd oo)
  (ah (cR cY rfl (Ep (zq MD PySem.F.type_dict_items ET (pv 0))) (cT rfl (aR (cT rfl (aR (gx 2 jM.nd) (aR (gx 3 jM.nd) cP))) (aR (gx 4 jM.nd) cP)))
   (ah (sx 5 jM.nd (dJ qV MI PySem.F.type_dict_setdefault BC (pv 1) (ae (pv 2) (pa1 oo))))
   (ak (i7 hu (pv 5) (pv 3) (pv 4) rfl))))
  (ak (aD (pv 1)))),?_⟩
 have bM:=line5000;show λS H1 N s1 y1=>?_;have Y:=s1 _ _ B;show⟨_,rfl,⟨D,rfl,.inr ⟨_,.inl Y⟩⟩,D,_,rfl,rfl,.inl Y,True.intro,λv hv=>?_⟩;walk_at"H1 v hv H2 s2 y2";have a8:=s2 _ _ Y;show⟨v,D,_,rfl,y2,.inl a8,True.intro,λks vs o H3 hk hz=>?_⟩;obtain⟨as,pa,rfl,rfl⟩:∃as,Paired (λ(p:List Key×V) a=>H2 a=some (.tup (p.1.map kV))) (es.map bj) as/\ks=as.map V.ref/\vs=(es.map bj).map (·.2):=by
  rcases hk with ⟨kvs,e,_⟩|⟨kvs,as,e,h1,h2,h3⟩
  .cases e
  cases e;show⟨as,h1,h2,h3⟩
 have lk:as.length=es.length:=by rw[<-aH pa,ay]
 have a9:Sm H H3:=(Sm.of (s1.trans s2)).trans hz.sm;have ba:H3 S=some (.dK (([]:List (Nat×Addr)).map stV)):=by rw[hz.ne (λz=>by rw[z,Y] at y1;cases y1)];show s2 _ _ y1
 show Dj (d:=D) (o:=o) (u:=.dT (es.map bj)) (ks:=as.map V.ref) (vs:=(es.map bj).map (·.2)) (λi Z H'=>∃v2 v3 v4 v5 L,Z=[some (.ref D),some (.ref S),v2,v3,v4,v5]/\Sm H H'/\H' D=some (.frz o (.dT (es.map bj)))/\(∀a xs,H2 a=some (.tup xs)->H' a=some (.tup xs))/\StAt H H' S (es.take i) L)
  ⟨none,none,none,none,[],rfl,a9,hz.at,λa xs e=>hz.sm.keep e (λz=>z),⟨ba,bE _,jq,jq,∅,∅,∅⟩⟩ (λi Z H' _ ⟨_,_,_,_,_,_,_,e,_⟩=>e) ?_ ?_
 .rintro i x y pr Z H' hx hy ⟨v2,v3,v4,v5,L,rfl,sm,am,ag,st⟩ bb;rw[bf] at hx hy;obtain⟨a,ha,rfl⟩:=cw.mp hx;rw[bf] at hy;obtain⟨kv,bd,rfl⟩:=cw.mp hy;obtain⟨⟨⟨c,p⟩,O⟩,he,rfl⟩:=cw.mp bd;have be:H2 a=some (.tup [.int (c:Int),.int (p:Int)]):=by
   obtain⟨bN,h1,h2⟩:=cj pa (show (es.map bj)[i]?=some (bj ((c,p),O)) by rw[bf,he];rfl);rw[ha] at h1;cases h1;show h2
  have m:es.take (i+1)=es.take i++[((c,p),O)]:=by rw[bG,he];rfl
  have bS:i<es.length:=(aI.mp he).1;have a2:((es.take (i+1)).map (·.1)).Nodup:=by rw[<-ig (i+1) es,aL,bV] at aS;show aS.1
  rw[m] at a2;obtain⟨bX,bi⟩:=oB a2;have bl:p∉(abt (es.take i) c).map (·.1):=λz=>bi (xr z);rw[show (bj ((c,p),O)).2=V.int (O:Int) from rfl];walk_at"H' pr bb H4 J y4";show⟨pr,_,rfl,SqT.of y4,rfl,_,_,rfl,a,_,rfl,SqT.of (J _ _ (ag _ _ be)),rfl,_,_,rfl,_,_,rfl,rfl,_,_,rfl,rfl,?_⟩;have an:=J _ _ st.at_;have lt:(es.take i).length<=1200:=by rw[bu];lia
  show⟨_,rfl,.inr (.inr (.inl ⟨rfl,.inl ⟨_,an⟩⟩)),_,rfl,λz H5 R s5 y5=>?_⟩;have a3:=s5 _ _ an;have a4:Sm H H5:=(sm.trans (Sm.of J)).trans (Sm.of s5);have zH:H z=none:=(sm.trans (Sm.of J)).free R;have ap:H' z=none:=J.free R;have C:=J.trans s5;have la:=tu (es.take i) c;show⟨S,_,Sum.inl (c:Int),.ref z,rfl,rfl,a3,by rw[ay];have:=st.len;lia,λu al=>?_,λhn=>?_⟩
  .have M:c∈L.map (·.1):=qA λg=>by rw[y_ g] at al;cases al
   obtain⟨ad,hL,bm⟩:=lV M;rw[bm] at al;cases al;have a5:H5 ad=some (.dK ((abt (es.take i) c).map nmV)):=C _ _ (st.ab _ hL);obtain⟨a6,bn⟩:H ad=none/\ad≠S:=st.fr _ hL;show⟨_,rfl,_,rfl,_,rfl,ad,_,rfl,DPut.k (k:=Sum.inl (p:Int)) a5 (by rw[ay];lia),?_⟩;rw[pH bl];walk_at"H5 ad H6 j y6";show⟨_,_,_,_,L,rfl,λb o e=>?_,?_,λb xs e=>?_,⟨(j S bn.symm).trans a3,?_,st.nk,st.na,st.fr,λx I=>?_,λT=>?_⟩⟩
   .rw[j b (au e a6)];show a4 b o e
   .rw[j D (λg=>by rw[g,a6] at B;cases B)];show C _ _ am
   .have n:=C _ _ (ag b xs e);rw[j b (λg=>by rw[g,a5] at n;cases n)];show n
   .rw[m,aU];have:=st.len;lia
   .obtain⟨T,b⟩:=x;rw[m,sr];by_cases aM:c=T
    .subst aM;rw[OU rfl];have:b=ad:=v8 st.nk I hL;subst this;show y6
    rw[OT aM];have nb:b≠ad:=λg=>aM (by subst g;show G_ st.nk st.na hL I);rw[j b nb];show C _ _ (st.ab _ I)
   rw[st.key T,m];constructor
   .rintro⟨p1,l,h1⟩;show⟨p1,l,dD _ h1⟩
   rintro⟨p1,l,h1⟩;rcases a_.mp h1 with h1|h1
   .exact⟨p1,l,h1⟩
   rw[aQ] at h1;cases h1;show (st.key _).mp M
  have M:c∉L.map (·.1):=λg=>by
   obtain⟨_,_,h⟩:=lV g;rw[hn] at h;cases h
  have bt:cn (L.map stV) (Sum.inl (c:Int):Key) (V.ref z)=(L++[(c,z)]).map stV:=by rw[om _ hn,aL];rfl
  rw[bt];have zS:z≠S:=λg=>by rw[g,N] at zH;rw[g] at R;rw[an] at R;cases R
  walk_at"H5 S H6 j y6";have a0:abt (es.take i) c=[]:=by
   cases e:abt (es.take i) c with
   |nil=>rfl
   |cons x r=>
    obtain⟨p1,l⟩:=x;have:(p1,l)∈abt (es.take i) c:=by rw[e];simp
    show (M ((st.key c).mpr ⟨p1,l,jT.mp this⟩)).elim
  have bv:H6 z=some (.dK (([]:List (Nat×Nat)).map nmV)):=(j z zS).trans y5;show⟨_,rfl,_,rfl,_,rfl,z,_,rfl,DPut.k (k:=Sum.inl (p:Int)) bv (by simp;lia),?_⟩;rw[pH ∅];walk_at"H6 z H7 X y7";have b0:∀b,H b≠none->b≠S:=λb h g=>h (by rw[g];show N);show⟨_,_,_,_,L++[(c,z)],rfl,λb o e=>?_,?_,λb xs e=>?_,⟨(X S zS.symm).trans y6,?_,?_,?_,λx I=>?_,λx I=>?_,λT=>?_⟩⟩
  .rw[X b (au e zH),j b (au e N)];show a4 b o e
  .have e1:=C _ _ am;rw[X D (λg=>by rw[g,zH] at B;cases B),j D (λg=>by rw[g,N] at B;cases B)];show e1
  .have n:=ag b xs e;rw[X b (au n ap),j b (λg=>by rw[g,st.at_] at n;cases n)];show C _ _ n
  .rw[m,aU,aU];have:=st.len;simp only[bY];lia
  .rw[aL,bV];show⟨st.nk,∅,λa1 h1 b1 h2=>?_⟩;simp at h2;subst h2;rintro rfl;show M h1
  .rw[aL,bV];show⟨st.na,∅,λa1 h1 b1 h2=>?_⟩;simp at h2;subst h2;rintro rfl;obtain⟨x,bw,bA⟩:=ar.mp h1;have:=st.ab x bw;rw[bA,ap] at this;cases this
  .rcases a_.mp I with h|h
   .exact st.fr x h
   rw[aQ.mp h];show⟨zH,zS⟩
  .rcases a_.mp I with h|h
   .have bK:x.1≠c:=λg=>M (ar.mpr ⟨x,h,g⟩);rw[m,sr,OT (λg=>bK g.symm)];have e1:=st.ab x h;rw[X x.2 (au e1 ap),j x.2 (st.fr x h).2];show C _ _ e1
   rw[aQ.mp h,m,sr,OU rfl,a0];show y7
  rw[aL,a_,st.key T,m];constructor
  .rintro (⟨p1,l,h1⟩|h1)
   .exact⟨p1,l,dD _ h1⟩
   simp at h1;subst h1;show⟨p,O,∅⟩
  rintro⟨p1,l,h1⟩;rcases a_.mp h1 with h1|h1
  .exact .inl ⟨p1,l,h1⟩
  rw[aQ] at h1;cases h1;show .inr ∅
 rintro Z H' ⟨v2,v3,v4,v5,L,rfl,sm,am,ag,st⟩;rw[ay,lk,cX] at st;show⟨_,rfl,q S L H' N sm st⟩
end
end K15
end
section
namespace L2
open PySem PySem.Spec PyProof.Rows
section
variable {M:Model}{env:Env}
variable {nm q:Str}{C N:Addr}{bs bm:List Value}{hdct:Bool}{sn:List Str}{sub:List Value}{ab:Bool}{col:Option Bool}{dd:Option Addr}{k0 k1 k2 k3 k5:Option Value}{newId:String}
theorem Cc{x:Sem Value}{Q:Flow->Shared->Prop}(b:bm.contains (.type "BaseException")=true)(c:A.handled=none)
  (h:wpAny M A x (λv s₁=>∃e d vs sl,v=.ref e/\s₁.heap.get? C=some (excClassObj nm q C N bs bm hdct sn sub ab col dd k0 k1 k2 k3 k5 newId)/\
   s₁.heap.get? e=some {cls:=.ref C,dict:=d,data:=.fields vs,slots:=sl}/\vs[1]?=some .none/\E (.ref e) s₁) E s) :
  wpAny M A (raiseStmt env (some x) none) Q E s:=by
 have f:(Value.ref C::bm).contains (.type "BaseException")=true:=by rw[qH,b,uC]
 unfold raiseStmt;show aa (bF h (λv s₁ h₁=>?_) λ_ _ x=>x);obtain⟨e,d,vs,sl,rfl,a,he,i,j⟩:=h₁;obtain⟨l,g,m,tk,os⟩:=s₁;show aa (af (aa (cL ?_)));unfold excFromValue
 repeat (first|with_reducible show fB he ?_|with_reducible show fB a ?_|(with_reducible show kP a ?_;rw[f])|wp_step)
 rw[i];show af ?_;rw[OT ⋯];show af (wpAny_raiseNew_none c j)
end
section
variable {prog:Program}{h:Heap}{g:Array GenState}{d:Drawn}{t:Nat}{os:OsState}
variable {nm q:Str}{C N:Addr}{bs bm bmB:List Value}{hdct:Bool}{sn:List Str}{sub:List Value}{ab:Bool}{col:Option Bool}{dd:Option Addr}{k0 k1 k2 k3 k5:Option Value}{B newId initId:String}
theorem Dd(F:ExcBaseFacts B newId initId bmB)(T:OwnTail h bmB bm){rest:List Value}{f:Addr}{Q:Fin->Shared->Prop}(X:K.In h)
  (a:h.get? C=some (excClassObj nm q C N bs bm hdct sn sub ab col dd k0 k1 k2 k3 k5 newId)) (hi:W.findIn K (.ref C) "__init__" = some (some (.ref f))) (hf:W.typeIn K (.ref f)=some (.type "function"))
  (l:∀h' e,Heap.MadeExcOf h h' e (.ref C) rest->wpAny (model prog w) A (call (.ref f) (.ref e::rest)) (λr s'=>r=.none/\Q (.done (.ret (.ref e))) s') E ⟨h',g,d,t,os⟩) (m:rest.length<=sizeLine) :
  wpAny (model prog w) A (Builtin.«type.__call__» ⟨.ref C::rest,[]⟩) Q E ⟨h,g,d,t,os⟩:=by
 repeat (first|with_reducible show fB a ?_|with_reducible show wpAny_madeBy_exc a ?_|wp_step)
 show codeAny_call_builtin_code (Ly _ F.quiet) (wpAny_check_new_subT F T a (codeAny_exc_new_subT F T a ?_ m));change wpAny _ _ _ _ _ _;generalize i:({cls:=.ref C,data:=.fields #[.ref h.objs.size,.none,.none,.none,.bool false,.none]}:Obj)=c;have kp:∀b o,h.get? b=some o->((h.push {cls:=.type "tuple",data:=.seq rest.toArray}).push c).get? b=some o:=λb o e=>aE _ (aE _ e);have a₁:=kp _ _ a;have j:((h.push {cls:=.type "tuple",data:=.seq rest.toArray}).push c).get? (h.objs.size+1)=some c:=by subst i;heap_get
 have n:c.cls=.ref C:=by subst i;rfl
 have p:(Value.ref C::bm).contains (.ref C)=true:=∅;unfold isInstance
 repeat (first|(with_reducible show fB j ?_;rw[n])|(with_reducible show kP a₁ ?_;rw[p])|wp_step)
 change wpAny _ _ (typeLookup (.ref C) _) _ _ _;show AY X hi _ _ _ _ kp ?_;show cL (aa (MR X _ hf _ _ _ _ kp ?_));show aa (bF (l _ (h.objs.size+1) ⟨kp,jl (qO _),h.objs.size,by subst i;show j,jl (aq _),?_⟩) (λr s' s=>?_) λ_ _ x=>x)
 .exact aE _ (LB rfl rfl)
 obtain⟨rfl,u⟩:=s
 wp_walk
 show u
theorem Dz(F:ExcBaseFacts B newId initId bmB)(T:OwnTail h bmB bm){rest:List Value}{b:Addr}{Q:Value->Shared->Prop}(X:K.In h)
  (a:h.get? C=some (excClassObj nm q C N bs bm hdct sn sub ab col dd k0 k1 k2 k3 k5 newId)) (hi:W.findIn K (.ref C) "__init__" = some (some (.ref b))) (hf:W.typeIn K (.ref b)=some (.type "function"))
  (c:∀h' e,Heap.MadeExcOf h h' e (.ref C) rest->wpAny (model prog w) (A.under (.builtin "type.__call__" ⟨.ref C::rest,[]⟩)) (call (.ref b) (.ref e::rest)) (λr s'=>r=.none/\Q (.ref e) s') E ⟨h',g,d,t,os⟩) (f:rest.length<=sizeLine) :
  wpAny (model prog w) A (call (.ref C) rest) Q E ⟨h,g,d,t,os⟩:=by
 have i:=tc_lookup;have j:=tc_bind (.ref C);have l:(⟨h,g,d,t,os⟩:Shared).TypeIs (.ref C) "type":=⟨_,a,rfl⟩;show m7 (codeAny_of_tree ?_);change wpAny _ _ (callAny (.ref C) _) _ _ _
 repeat (any_goals (first|assumption|with_reducible show fB a ?_|wp_step))
 show⟨rfl,?_⟩;show codeAny_call_builtin_at (Ly _ ⋯) entry_typeCall (wpAny_check_type_call_sub a (Dd F T X a hi hf (λh' e hm=>c h' e hm) f))
end
end L2
end
section
namespace L2
open PySem PySem.Spec PyProof.Rows
section
variable {prog:Program}{h:Heap}{g:Array GenState}{d:Drawn}{t:Nat}{os:OsState}
variable {nm q:Str}{C N:Addr}{bs bm bmB:List Value}{hdct:Bool}{sn:List Str}{sub:List Value}{ab:Bool}{col:Option Bool}{dd:Option Addr}{k0 k1 k2 k3 k5:Option Value}{B newId initId:String}
theorem DA(F:ExcBaseFacts B newId initId bmB)(T:OwnTail h bmB bm){e:Addr}{dx:Option Addr}{vs:Array Value}{sl:Array (Option Value)}{rest:List Value}{Q:Value->Shared->Prop}
  (f:h.get? C=some (excClassObj nm q C N bs bm hdct sn sub ab col dd k0 k1 k2 k3 k5 newId)) (he:h.get? e=some ⟨.ref C,dx,.fields vs,sl⟩) {t0:Addr} (a:vs[0]?=some (.ref t0)) (n:rest.length<=sizeLine)
  (i:∀h' (j:Addr),(∀b o,b≠e->h.get? b=some o->h'.get? b=some o)->h'.get? e=some ⟨.ref C,dx,.fields (vs.setIfInBounds 0 (.ref j)),sl⟩->Q .none ⟨h',g,d,t,os⟩) :
  wpAny (model prog w) A (call (.builtin initId) (.ref e::rest)) Q E ⟨h,g,d,t,os⟩:=by
 show m7 (A2 F.init.plain F.initEntry (wpAny_check_init_subT F T f he rfl ?_))
 wp_walk
 rw[a];show af (aa ?_);have c:(h.push {cls:=.type "tuple",data:=.seq rest.toArray}).get? e=some ⟨.ref C,dx,.fields vs,sl⟩:=aE _ he;show fC c rfl (gg.mp a).1 ?_
 wp_walk
 show i _ h.objs.size (λb o l m=>?_) ?_
 .rw[di _ _ (ax l)];show aE _ m
 show d_ _ c rfl
end
def oS:List Value->Bool
 |.ref _::r=>oS r
 |l=>l==bmV
theorem vq(self:Value):∀{l:List Value},oS l=true->refuseLoop self "__setattr__" l=pure .unit
 |.ref c::r,e=>by rw[refuseLoop_ref];show vq self e
 |.type n::r,e=>by rw[show Value.type n::r=bmV from beq_iff_eq.mp e];show PySem.F.store_ValueError.passes self
 | [],e=>by cases e
structure eS(K:W.Frag)(C:Addr)(name:Str):Prop where
 sa:W.findIn K (.ref C) "__setattr__" = some (some (.builtin "object.__setattr__"))
 mo:W.mroIn K C (.type "object")=some true
 ov:(W.clsIn K C).any (λcd=>oS cd.mro)=true
 no:W.findIn K (.ref C) name=some none
 hd:(W.clsIn K C).any (·.hasDict)=true
section
variable {prog:Program}{x C:Addr}{vs:Array Value}{sl:Array (Option Value)}{name:Str}{v:Value}
theorem HA{Q:Unit->Shared->Prop}(X:K.In s.heap)(hx:s.heap.get? x=some ⟨.ref C,none,.fields vs,sl⟩)(c:eS K C name)
  (q:∀h' dx tk,s.heap.get? dx=none->dx≠x->(∀b o,b≠x->s.heap.get? b=some o->h'.get? b=some o)->h'.get? x=some ⟨.ref C,some dx,.fields vs,sl⟩->h'.Ns1 dx (λy=>if y=name then some v else none)->Q .unit {s with heap:=h',toks:=tk}) :
  wpAny (model prog w) A (setAttr (.ref x) name v) Q E s:=by
 have I:W.InstAt s.heap x ⟨.ref C,none,.fields vs,sl⟩ C none:=⟨hx,rfl,rfl,trivial⟩;show MY X I c.sa ?_;obtain⟨a,g,d,t,os⟩:=s;have f:=PySem.F.store_object;obtain⟨cd,h,r⟩:=AU c.ov;obtain⟨O,l,hd⟩:=AU c.hd;rw[h] at l;cases l;have i:=I.type (M:=model prog w);have u:W.Looks (model prog w) a (isInstance (.ref x) (.type "object")) true:=i.andThen (W.looks_mroIn X c.mo);show A2 f.slot.plain f.entry (@W.check_slot (model prog w) _ _ ⟨a,g,d,t+1,os⟩ "object.__setattr__" "object" "__setattr__" (.ref x) [.str name t,v] [] _ f.kind f.split u (f.args (.ref x) (.str name t) v) ?_);have hm:W.Looks (model prog w) a (mroOf (.ref C)) cd.mro:=(AX X h).andThen .now;have ha:=AY (M:=model prog w) X c.no;have z:=AX (M:=model prog w) X h;rw[W.osa_eq,refuse_eq];show aa (aa (i.at (aa (hm.at ?_))));rw[vq _ r];show af (aa (i.at (aa (ha.at (aa (af ?_))))));change wpAny _ _ (Builtin.ObjectAttr.storeInOwnDict _ _ _ _ _ _) _ _ _;unfold Builtin.ObjectAttr.storeInOwnDict Builtin.ObjectAttr.ownDictForStores;show aa (af ?_);dsimp only;rw[OT (show ¬((Value.ref C==Value.type "module")=true) by simp)];unfold instanceDict;show aa (aa (u4 hx ?_));show aa (z.at ?_);rw[hd];have m:(a.push {cls:=.type "dict",data:=.dict #[]}).get? x=some ⟨.ref C,none,.fields vs,sl⟩:=aE _ hx;have j:x≠a.objs.size:=bo (aF hx);show aa (wpAny_alloc' ?_);show aa (wpAny_update' m ?_);show af ?_;have B:((a.push {cls:=.type "dict",data:=.dict #[]}).update x λo=>{cls:=o.cls,dict:=some a.objs.size,data:=o.data,slots:=o.slots}).get? x=some ⟨.ref C,some a.objs.size,.fields vs,sl⟩:=d_ _ m rfl;have D:((a.push {cls:=.type "dict",data:=.dict #[]}).update x λo=>{cls:=o.cls,dict:=some a.objs.size,data:=o.data,slots:=o.slots}).Ns a.objs.size (λ_=>none):=
  ⟨_,#[],_,(qB _ _ _ _ j.symm).trans (LB rfl rfl),rfl,λe he=>absurd he ∅,λ_=>rfl⟩
 change wpAny _ _ (Builtin.ObjectAttr.storeInDict a.objs.size (.str name t) name v) _ _ _;unfold Builtin.ObjectAttr.storeInDict Builtin.ObjectAttr.newKeyGuard;show aa (af (aa (wpAny_nsSet1 (LA D) λh' n p=>?_)));obtain⟨P,R,S,H,J,L⟩:=n.count (Within.cons name v Within.nil);show aa (ND H (by rw[J];show Nf (dn L (by rw[cE,kI,cK];lia))) ?_);show af ?_;show q h' a.objs.size _ (jl (aq _)) j.symm (λb o N e=>?_) ((p.2 x j).trans B) n;show (p.2 b (bo (aF e))).trans ((qB _ _ _ _ N).trans (aE _ e))
end
end L2
end
section
namespace L2
open PySem PySem.Spec PyProof.Rows PySem.W
section
variable {prog:Program}{x D:Addr}{ox od:Obj}{name:Str}{v:Value}{expr:Bool}
theorem HC{Q:Value->Shared->Prop}(X:K.In s.heap)(c:pX K D)(e:eS K D name)(I:W.InstAt s.heap x ox D (some od))(i:lookIn name od=some (some v))(j:handedIn v=true)
  (h:Q v {s with toks:=s.toks+1}):wpAny (model prog w) A (getAttr (.ref x) name expr) Q E s:=by
 obtain⟨f,g,d,t,os⟩:=s;have b:=I.type (M:=model prog w);have l:=looks_findIn (M:=model prog w) X c.ga;have L2:=looks_findIn (M:=model prog w) X c.ha;have hf:findObj K D (some od) name=some (.value v):=findObj_own e.hd e.no rfl i;have n:=looks_find (M:=model prog w) X I hf;have o:=looks_mroIn (M:=model prog w) X c.mb;have p:(onTheHeap (Value.ref D)&&Value.builtin "BaseException.__getattribute__"==Value.builtin "object.__getattribute__")=false:=by have:(Value.builtin "BaseException.__getattribute__"==Value.builtin "object.__getattribute__")=false:=⋯;rw[this];rfl
 unfold getAttr getAttrBy;show aa (wpAny_mkText (cL (aa (b.at (aa (l.at ?_))))));dsimp only;rw[p];change wpAny _ _ (getAttrByItsOwn _ _ _ _ _ _) _ _ _;unfold getAttrByItsOwn hookBefore;show aa ?_;change wpAny _ _ (typeLookup (.ref D) "__getattr__") _ _ _;show L2.at (aa (jz (cL ?_)));unfold callGetattribute;rw[show (expr&&onTheHeap (Value.builtin "BaseException.__getattribute__"))=false from Bool.and_false _,OT ⋯];unfold boundAndCalled;rw[F.excAttr_ValueError.ga.bind (.ref x)];show aa (af ?_);show m7 (A2 F.excAttr_ValueError.ga.plain F.entry_bexc_ga ?_);have q:builtinKind "BaseException.__getattribute__" = some .slot:=⋯;have r:splitId "BaseException.__getattribute__" = some ("BaseException","__getattribute__"):=⋯;have u:Looks (model prog w) f (isInstance (.ref x) (.type "BaseException")) true:=b.andThen o;show @check_slot (model prog w) _ _ ⟨f,g,d,t+1,os⟩ "BaseException.__getattribute__" "BaseException" "__getattribute__" (.ref x) [.str name t] [] _ q r u (F.args_bexc_ga (.ref x) (.str name t)) ?_;unfold Builtin.«object.__getattribute__»;show aa (m:=slotArgs _ _ _) (qY (a:=(.ref x,[.str name t])) rfl ?_);show aa (qY (a:=name) rfl ?_);show aa (b.at (aa (n.at ?_)));show af ?_;show handed_on j h
end
def cu(x C:Addr)(d:Option Addr):HO:=.ext λh=>∃(vs:Array Value)(sl:Array (Option Value))(t0:Addr),h.get? x=some ⟨.ref C,d,.fields vs,sl⟩/\vs[0]?=some (.ref t0)/\vs[1]?=some .none/\vs[2]?=some .none
theorem tq{h:Heap}{x C:Addr}{d:Option Addr}{vs:Array Value}{sl:Array (Option Value)}{t0:Addr}(e:h.get? x=some ⟨.ref C,d,.fields vs,sl⟩)(c:vs[0]?=some (.ref t0))(h1:vs[1]?=some .none)(h2:vs[2]?=some .none) :
  aV P w H h x (cu x C d):=by
 show⟨⟨vs,sl,t0,e,c,h1,h2⟩,⟨_,e⟩,λa b p k=>?_⟩;obtain⟨vs,sl,t0,e,r⟩:=p;show⟨vs,sl,t0,k _ e,r⟩
def jc(K:W.Frag)(C:Addr):Bool:=(L2.clsIn K C).any λbm=>tailIn K bmV bm
theorem w9{C:Addr}{h:Heap}(X:K.In h)(q:jc K C=true) :
  ∃bm N nm q bs hdct sn sub ab col dd k0 k1 k2 k3 k5,h.get? C=some (excClassObj nm q C N bs bm hdct sn sub ab col dd k0 k1 k2 k3 k5 "ValueError.__new__")/\OwnTail h bmV bm:=by
 unfold jc at q;cases e:L2.clsIn K C with
 |none=>rw[e] at q;cases q
 |some bm=>
  rw[e] at q;obtain⟨N,nm,a,bs,hd,sn,sub,ab,col,dd,k0,k1,k2,k3,k5,b⟩:=oX X e;show⟨bm,N,nm,a,bs,hd,sn,sub,ab,col,dd,k0,k1,k2,k3,k5,b,tail_of_in X q⟩
structure BInit(K:W.Frag)(S:Addr):Prop where
 sp:specialIn K (.ref S) "__getattribute__" = some (some (.builtin "type.__getattribute__"))
 rd:readsIn K S (.type "type")=true
 fd:findCls K (.ref S) (.type "type") "__init__" = some (.val (.builtin "ValueError.__init__"))
section
variable {y:Str}{S:Addr}{p apos pos:Pos}{e o value:Expr}{es:List Expr}{t:TA}{ta tv:TE}{f:Str}
def Iv(K:W.Frag)(t:TA):TE:=λZ H Q=>t Z H λvs H1=>∃(x C:Addr)(rest:List V),vs=.ref x::rest/\H1 x=some (cu x C none)/\jc K C=true/\rest.length<=sizeLine/\Q .non H1
theorem w8{pl:Sem Bool}(hg:Gl X y)(hm:X.mg y=some (.ref S))(b:BInit X.K S)(ha:PA X (e::es) t)(hdb:(y==("__debug__" : Str))=false:=by decide)
  (hst:starEach (e::es) X.env=(false,eval e X.env)::starEach es X.env:=by rfl) (hpl:(backTo pos (starEach es X.env)).any (·.1)=false:=by rfl)
  (ht:eval (.Call (.Attribute (.Name y p) "__init__" apos) (e::es) [] pos) X.env=(do
   let ov <-eval (.Name y p) X.env
   standAt apos.atName
   let (f,first) <-holding [ov] (getMethod ov "__init__" pl)
   callWith pos f first (backTo pos (starEach (e::es) X.env)) (backToKw pos (keywordEach [] X.env))):=by rfl) :
  PE X (.Call (.Attribute (.Name y p) "__init__" apos) (e::es) [] pos) (Iv X.K t):=by
 intro OY s Z H Q I h;show methodCall_KW (pl:=pl) (gW I hg hm ?_ hdb) ht;show method_cls I.kIn b.sp (cls_value I.kIn b.rd b.fd rfl ?_);have hA:=ha pos OY {s with toks:=s.toks+1} Z H _ (I.tok _) h;change wpAny _ _ (callWith pos (.builtin "ValueError.__init__") [] _ []) _ _ _;rw[hst] at hA |-;show kD (by change (false||(backTo pos (starEach es X.env)).any (·.1))=false;rw[hpl]<;>rfl) (kE ?_);show thn hA λus s1 ⟨vs,H1,I1,r1,x,C,rest,ev,hx,hov,hz,q1⟩=>?_;subst ev
 match us,r1 with
 |u::us',.cons ru rr=>
  obtain rfl:u=Value.ref x:=ru;obtain⟨bm,N,nm,q',bs,hd,sn,sub,ab,col,dd,k0,k1,k2,k3,k5,hC,T⟩:=w9 I1.kIn hov;obtain⟨⟨wv,sl,t0,hxo,h0,h1,h2⟩,_⟩:=(show aV X.prog X.w H1 s1.heap x (cu x C none) from I1.hok x _ hx);obtain⟨hh,g,d,tk,os⟩:=s1;show DA qU T hC hxo h0 (by rw[<-rr.length];show hz) λh' v0 keep here=>?_;have z0:(0:Nat)<wv.size:=(gg.mp h0).1;have I2:=I1.write (x:=x) (e:=x) (o:=cu x C none) (h':=h') (t':=tk) (by rw[hx];show True.intro) (.inl rfl) keep ⟨_,here⟩
   (tq here (t0:=v0) (by simp[z0]) (by rw[qy ⋯];show h1) (by rw[qy ⋯];show h2))
  have e1:upd H1 x (cu x C none)=H1:=by
   funext b;by_cases hb:b=x
   .subst hb;rw[aN,hx]
   rw[av hb]
  rw[e1] at I2;show⟨.non,H1,I2,rfl,q1⟩
def KC(K:W.Frag)(ta tv:TE)(f:Str):TS:=λD Z H=>tv Z H λy H1=>ta Z H1 λx H2=>∃a C,x=.ref a/\H2 a=some (cu a C none)/\eS K C f/\
 ∀dx,H2 dx=none->dx≠a->D.nx Z (upd (upd H2 a (cu a C (some dx))) dx (.xd [(f,y)]))
theorem yq(ha:PE X o ta)(E:PE X value tv)(J:swapsWith value (some (.Attribute o f apos)) pos.line X.env=pure false):PS X (.Assign [.Attribute o f apos] value pos) (KC X.K ta tv f):=by
 intro OY s Z H D I h;show Ng (thn (E OY s Z H _ I h) λu s1 ⟨y,H1,L,M,q⟩=>thn (ha OY s1 Z H1 _ L q) λov s2 ⟨x,H2,j,N,a,C,ex,i,O,P⟩=>?_) J;subst ex;obtain rfl:ov=Value.ref a:=N;obtain⟨⟨wv,sl,t0,Q,R,h1,h2⟩,_⟩:=(show aV X.prog X.w H2 s2.heap a (cu a C none) from j.hok a _ i);show HA j.kIn Q O λh' dx tk A S keep here T=>?_;have B:H2 dx=none:=j.hok.none_of' A;have nd:∀b ob,s2.heap.get? b=some ob->b≠dx:=λb ob e z=>by rw[z,A] at e;cases e
 have l:∀b ob,H2 b=some ob->b≠dx:=λb ob e z=>by rw[z,B] at e;cases e
 have na:∀b,H2 b=none->b≠a:=λb e z=>by rw[z,i] at e;cases e
 have up:∀b,b≠dx->b≠a->upd (upd H2 a (cu a C (some dx))) dx (.xd [(f,y)]) b=H2 b:=λb U Y=>by rw[av U,av Y]
 have un:Un X.fs [] H2 (upd (upd H2 a (cu a C (some dx))) dx (.xd [(f,y)])) s2.heap h':=by
  show⟨λb ob e n _ _=>keep b ob (na b n) e,λb ob e n _ _=>⟨ob.slots,keep b ob (na b n) e⟩,λb ob e n _=>by rw[up b (nd b ob e) (na b n)];show n,λb ob e _=>?_,λb xs e=>?_,λb ob xs e=>?_,λb ps e=>⟨#[],?_⟩⟩
  .by_cases d:b=a
   .rw[d];show⟨_,here⟩
   show⟨_,keep b ob d e⟩
  .rw[up b (l b _ e) (λz=>by rw[z,i] at e;cases e)];show e
  .rw[up b (l b _ e) (λz=>by rw[z,i] at e;cases e)];show e
  rw[up b (l b _ e) (λz=>by rw[z,i] at e;cases e),e];simp
 have hok:HOk X.prog X.w (upd (upd H2 a (cu a C (some dx))) dx (.xd [(f,y)])) h':=λb ob e=>by
  by_cases d:b=dx
  .subst d;rw[aN] at e;cases e;show⟨_,T,λg=>?_⟩;change c6 (List.lookup g [(f,y)]) (if g=f then some u else none);by_cases m:g=f
   .have d:(g==f)=true:=beq_iff_eq.mpr m;simp only[List.lookup,d,OU m];show M
   have d:(g==f)=false:=beq_eq_false_iff_ne.mpr m;simp only[List.lookup,d,OT m];trivial
  by_cases v:b=a
  .subst v;rw[av d,aN] at e;cases e;show tq here R h1 h2
  rw[up b d v] at e;show (j.hok b ob e).stay (λc w' hc r=>keep c w' (λz=>?_) r) (λc r=>?_) λc xs r=>?_
  .rcases hc with p | p
   .exact v (p.symm.trans z)
   rw[z,i] at p;cases p
  .rw[up c (l c _ r) (λz=>by rw[z,i] at r;cases r)];show r
  rw[up c (l c _ r) (λz=>by rw[z,i] at r;cases r)];show r
 show⟨Z,_,j.un (t':=tk) un hok,P dx B S⟩
def zQ(K:W.Frag)(ta:TE)(f:Str):TE:=λZ H Q=>ta Z H λx H1=>∃a C dx fs v,x=.ref a/\H1 a=some (eF a (.ref C) (some dx))/\H1 dx=some (.xd fs)/\pX K C/\eS K C f/\fs.lookup f=some v/\Q v H1
theorem Gq(he:PE X e ta)(g:attributeBase e f X.env (eval e X.env)=eval e X.env):PE X (.Attribute e f pos) (zQ X.K ta f):=by
 intro OY s Z H Q I h;show yU g (thn (he OY s Z H _ I h) λu s1 ⟨x,H1,b,i,a,C,dx,fs,v,ex,j,m,c,n,l,q⟩=>?_);subst ex;obtain rfl:u=Value.ref a:=i;obtain⟨⟨E,vs,h1,h2,p,r,_⟩,_⟩:=(show aV X.prog X.w H1 s1.heap a (eF a (.ref C) (some dx)) from b.hok a _ j);obtain⟨mA,y,z⟩:=(show aV X.prog X.w H1 s1.heap dx (.xd fs) from b.hok dx _ m);obtain⟨od,A,B⟩:=wc y;obtain⟨J,D,d⟩:=c6.some_of (v:=v) (o:=mA f) (by rw[<-l];show z f);show HC b.kIn c n ⟨h1,h2,?_,?_⟩ (by rw[B f,D]) (wk d) ⟨v,H1,b.tok _,d,q⟩
 .unfold W.notCls;rw[r]
 rw[p];show A
end
structure hU(K:W.Frag)(C f:Addr):Prop where
 over:jc K C=true
 init:findIn K (.ref C) "__init__" = some (some (.ref f))
 fn:typeIn K (.ref f)=some (.type "function")
 kp:keepIn K (.ref C)=true
def del(H:Hp)(x:Addr):Hp:=λb=>if b=x then none else H b
theorem dZ{x b:Addr}(h:b≠x):del H x b=H b:=by unfold del;rw[OT h]
theorem xn{x:Addr}:del H x x=none:=by unfold del;rw[OU rfl]
section
variable {E:XK}{k:Nat}{x:Str}{C f:Addr}{ps:List Str}{sp:Sp}{np cpos pos:Pos}{e:Expr}{es:List Expr}{t:TA}
def xB(E:XK)(C:Addr)(sp:Sp)(t:TA):TS:=λ_ Z H=>t Z H λvs H1=>vs.length<=sizeLine/\∀x,H1 x=none->sp (.ref x::vs) (upd H1 x (cu x C none)) (λv H2=>v=.non/\∃d,H2 x=some (cu x C d)/\E (.ref C) d (del H2 x)) E0
def REnds(X:Cx)(E:XK):Prop:=∀{x:Sem Value}{Q:Flow->Shared->Prop}{s:Shared}{nm q:Str}{C N:Addr}{bs bm:List Value}{hdct:Bool}{sn:List Str}{sub:List Value}{ab:Bool}{col:Option Bool}{dd:Option Addr}{k0 k1 k2 k3 k5:Option Value}{newId:String},bm.contains (.type "BaseException")=true->X.Ok->
 wpAny ⇑X X.A x (λv s₁=>∃e d vs sl OY Z H,v=.ref e/\s₁.heap.get? C=some (excClassObj nm q C N bs bm hdct sn sub ab col dd k0 k1 k2 k3 k5 newId)/\s₁.heap.get? e=some {cls:=.ref C,dict:=d,data:=.fields vs,slots:=sl}/\vs[1]?=some .none/\vs[2]?=some .none/\
  Inv X OY Z H s₁/\X.s₀.heap.get? e=none/\(∀p∈X.pn++OY,p.1≠e)/\H e=none/\E (.ref C) d H) X.xe s->wpAny ⇑X X.A (raiseStmt X.env (some x) none) Q X.xe s
theorem rh(c:Lets X E)(f:X.calm=true):REnds X E:=λg ok h=>Cc g (ok.hd f) (bF h (λv s₁ ⟨e,d,vs,sl,OY,Z,H,i,j,a,b,l,I,m,n,o,p⟩=>⟨e,d,vs,sl,i,j,a,b,c OY Z H s₁ e _ d I ⟨_,vs,a,rfl,rfl,rfl,⟨_,l,rfl⟩,.inl b⟩ m n o p⟩) λ_ _ z=>z)
theorem vZ(hE:REnds X E)(hnx:X.ex=[])(M:hU X.K C f)(Fl:∀vs H Q E,sp vs H Q E->vs.length=ps.length)(Fr:∀(us0:List Value)(outer:List Env)(s:Shared)(H:Hp)(args:Args)(us:List Value)(vs:List V)(Q:VK),fk X.prog X.w X.K X.mg X.base (X.A.under (.builtin "type.__call__" ⟨.ref C::us0,[]⟩)) outer s H->BindsTo s fd args (ps.zip us)->Vals vs us->sp vs H Q E0->codeAny ⇑X (X.A.under (.builtin "type.__call__" ⟨.ref C::us0,[]⟩)) (.call (.ref f) args) (CR CX0 outer X.prog X.w H s Q E0) s)(hb:Binds X.K fd ps [])(hg:Gl X x)(hm:X.mg x=some (.ref C))(ha:PA X (e::es) t)
  (he:starEach (e::es) X.env=(false,eval e X.env)::starEach es X.env:=by rfl) (hpl:(backTo cpos (starEach es X.env)).any (·.1)=false:=by rfl) (hd:(x==("__debug__" : Str))=false:=by decide) :
  PS X (.Raise (some (.Call (.Name x np) (e::es) [] cpos)) none pos) (xB E C sp t):=by
 intro OY s Z H D I h;obtain⟨bm,N,nm,q',bs,hdc,sn,sub,ab,col,dd,k0,k1,k2,k3,k5,hC,T⟩:=w9 I.ok.mod.kin M.over;rw[arm_exec_Raise];change wpAny _ _ (do standAt pos;raiseStmt X.env (some (do let v <-eval (.Call (.Name x np) (e::es) [] cpos) X.env;standAt pos;pure v)) none) _ _ _;show aa (kU (hE (nm:=nm) (q:=q') (C:=C) (N:=N) (bs:=bs) (bm:=bm) (hdct:=hdc) (sn:=sn) (sub:=sub) (ab:=ab) (col:=col) (dd:=dd) (k0:=k0) (k1:=k1) (k2:=k2) (k3:=k3) (k5:=k5) (newId:="ValueError.__new__") (T.hasType qU.hasBase) I.ok ?_));show aa (bF (m6 (gW I hg hm ?_ hd)) (λv s₃ h₃=>aa (kU (af h₃))) λ_ _ z=>z);show callWith_K (h₀:=X.base) I.ok.mod.kin M.kp (thn (ha cpos OY s Z H _ I h) λus s1 ⟨vs,H1,I1,r,hz,q⟩=>⟨I1.kIn,?_⟩) he hpl;obtain⟨hh,g,d,tk,os⟩:=s1;change wpAny _ _ (call (.ref C) us) _ _ _;show Dz qU (T.keeps I1.bk) I1.kIn (I1.bk _ _ hC) M.init M.fn (λh' x' me=>?_) (by rw[<-r.length];show hz);obtain⟨tt,hx',_,_⟩:=me.there;have hnew:hh.get? x'=none:=me.new;have hxH:H1 x'=none:=I1.hok.none_of' hnew;have hok1:HOk X.prog X.w (upd H1 x' (cu x' C none)) h':=λb ob e=>by
  by_cases hb:b=x'
  .subst hb;rw[aN] at e;cases e;show tq hx' rfl rfl rfl
  rw[av hb] at e;show (I1.hok b ob e).stay (λc w' _ r=>me.keeps c w' r) (λc r=>by rw[av (au r hxH)];show r) λc xs r=>by rw[av (au r hxH)];show r
 have e0:fk X.prog X.w X.K X.mg X.base X.A X.stack ⟨h',g,d,tk,os⟩ (upd H1 x' (cu x' C none)):=by
  have E1:=I1.env0;show⟨E1.frames,E1.mod,λb ob e=>?_,?_,E1.funs.of_keeps λb o hb _=>⟨o,me.keeps _ _ hb,rfl⟩,λb hb=>?_,hok1,E1.bare⟩
  .obtain⟨a1,a2⟩:=E1.bs b ob e;show⟨me.keeps _ _ a1,by rw[av (λz=>by rw[z] at a1;have a1:hh.get? x'=_:=a1;rw[hnew] at a1;cases a1)];show a2⟩
  .obtain⟨m,⟨o,es,ep,ho,_⟩,_⟩:=I1.loc;show dn I1.ok.bsz (dn I1.ok.above (qM (aF (me.keeps _ _ ho))))
  rw[av (λz=>?_)];show E1.frf b hb;obtain⟨_,o,ho,_⟩:=E1.funs.mem hb;rw[z] at ho;have ho:hh.get? x'=_:=ho;rw[hnew] at ho;cases ho
 have hl:(Value.ref x'::us++[]).length=ps.length:=by have e:=(show Vals (V.ref x'::vs) (Value.ref x'::us) from .cons rfl r).length;rw[Fl _ _ _ _ (q x' hxH)] at e;rw[eG];show e.symm
 have kin':X.K.In h':=I1.kIn.keeps me.keeps;have bb:=hb ⟨h',g,d,tk,os⟩ (Value.ref x'::us) kin' hl;rw[eG] at bb;show m7 (mY (Fr us X.stack _ _ ⟨Value.ref x'::us,[]⟩ (Value.ref x'::us) (V.ref x'::vs) _ (e0.make C us []) bb (.cons rfl r) (q x' hxH)) λr' s' hq'=>?_);cases r' with
 |error e=>show hq'.elim
 |ok fl=>
  cases fl with
  |next=>show hq'.elim
  |brk=>show hq'.elim
  |cont=>show hq'.elim
  |ret u=>
   obtain⟨v,H',os',bare',un',hok',rv,ev,d',hx2,q2⟩:=hq';subst ev;have os':s'.os=os:=os';show⟨rv,?_⟩;have nx:∀b ob,hh.get? b=some ob->b≠x':=λb ob e z=>by rw[z,hnew] at e;cases e
   have nxH:∀b ob,H1 b=some ob->b≠x':=λb ob e z=>by rw[z,hxH] at e;cases e
   have un:Un (frs X.stack) [] H1 (del H' x') hh s'.heap:=by
    show⟨λb ob e n hb hx=>un'.keep b ob (me.keeps _ _ e) (by rw[av (nx b ob e)];show n) hb hx,λb ob e n hb hx=>un'.slot b ob (me.keeps _ _ e) (by rw[av (nx b ob e)];show n) hb hx,
     λb ob e n hx=>by rw[dZ (nx b ob e)];show un'.free b ob (me.keeps _ _ e) (by rw[av (nx b ob e)];show n) hx,λb ob e hx=>un'.there b ob (me.keeps _ _ e) hx,
     λb xs e=>by rw[dZ (nxH b _ e)];show un'.tups b xs (by rw[av (nxH b _ e)];show e),λb ob xs e=>by rw[dZ (nxH b _ e)];show un'.frzs b ob xs (by rw[av (nxH b _ e)];show e),λb ps e=>?_⟩
    obtain⟨more,z⟩:=un'.tbls b ps (by rw[av (nxH b _ e)];show e);show⟨more,by rw[dZ (nxH b _ e)];show z⟩
   have hok2:HOk X.prog X.w (del H' x') s'.heap:=λb ob e=>by
    have hb:b≠x':=λz=>by rw[z,xn] at e;cases e
    rw[dZ hb] at e;show (hok' b ob e).stay (λ_ _ _ r=>r) (λc r=>?_) λc xs r=>?_
    .rw[dZ (λz=>by rw[z,hx2] at r;cases r)];show r
    rw[dZ (λz=>by rw[z,hx2] at r;cases r)];show r
   have I3:=I1.call' (ch:=[]) os' un hok2 bare' (λb z=>absurd z ∅);obtain⟨⟨wv,sl,t0,hxo,h0,h1,h2⟩,_⟩:=(show aV X.prog X.w H' s'.heap x' (cu x' C d') from hok' x' _ hx2);show⟨x',d',wv,sl,OY,Z,_,rfl,I3.bk _ _ hC,hxo,h1,h2,I3,I1.oldNone hnew (by rw[hnx];simp),λp hp z=>?_,xn,q2⟩;have e:=(I1.pin p hp).1;rw[z] at e;have e:hh.get? x'=_:=e;rw[hnew] at e;cases e
theorem rC(b:REnds X E)(c:X.ex=[])(M:hU X.K C f)(F:ai X.prog X.w X.K X.mg X.base CX0 k f fd ps sp)(d:Room (k+1) X.A)(a:Binds X.K fd ps [])(g:Gl X x)(hm:X.mg x=some (.ref C))(ha:PA X (e::es) t)
  (he:starEach (e::es) X.env=(false,eval e X.env)::starEach es X.env:=by rfl) (i:(backTo cpos (starEach es X.env)).any (·.1)=false:=by rfl) (hd:(x==("__debug__" : Str))=false:=by decide) :
  PS X (.Raise (some (.Call (.Name x np) (e::es) [] cpos)) none pos) (xB E C sp t):=vZ b c M F.len (λj outer s H args us vs Q l a m h=>F.run _ outer s H args us vs Q E0 (d.make C j []) l a m h) a g hm ha he i hd
end
end L2
end
section
namespace L2
open PySem PySem.Spec PyProof.Rows
section
def KQ(K:W.Frag):V->Hp->VK->Prop:=λx H Q=>∃d:PyData,Dt K H x d/\d.showable=true/\d.depth<=60/\d.shown.length<=sizeLine/\Q (.str d.shown) H
theorem yx{e:Expr}{te:TE}{pos:Pos}(o:X.A.units+64<cLine)(j:X.A.guards=some [])(he:PE X e te):PE X (.FormattedValue e 114 none pos) (tUn (KQ []) te):=by
 intro OY s Z H Q I h;show wpAny_FormattedValue_repr (thn (he OY s Z H _ I h) λu s1 ⟨x,H1,a,c,d,hd,g,hz,f,q⟩=>?_);obtain⟨as,l⟩:=Dt.reads a d x u hd c;have m:=PyData.hasDict_of_canLay d (Dt.can d x hd);have fin:∀(s2:Shared)(t:Tok),Inv X OY Z H1 s2->wpAny ⇑X X.A (formatField (.str d.shown t) Str.empty) (EP X OY Z Q) X.xe s2:=λs2 t n=>
  wpAny_formatField_str ⟨.str d.shown,H1,n,⟨_,rfl⟩,q⟩ ⟨.str d.shown,H1,n.tok _,⟨_,rfl⟩,q⟩ f
 cases hd with
 |non=>cases c;show pyReprObj_none (fin _ _ (a.tok _))
 |bl b=>cases c;show pyReprObj_bool (fin _ _ (a.tok _))
 |int i=>obtain⟨t,rfl⟩:=c;show pyReprObj_int (by simpa [PyData.showable] using g) (fin _ _ (a.tok _))
 |str y p=>obtain⟨t,rfl⟩:=c;show pyReprObj_str (fin _ _ (a.tok _)) (hx:=f)
 |lst h1 h2=>
  cases c;show Nh l g (Mt m) j () (λ_ _ z=>z) (λh' u tk k=>fin _ _ (a.kept k)) (hsz:=f)
 |tup h1 h2=>
  cases c;show Nh l g (Mt m) j () (λ_ _ z=>z) (λh' u tk k=>fin _ _ (a.kept k)) (hsz:=f)
end
end L2
end
section
namespace K15
open PySem L2 K51 K31
def CJ(K:W.Frag)(vs:List V)(H:Hp)(Q:VK)(x C:Addr)(v:V)(d:PyData):Prop:=vs=[.ref x,v]/\H x=some (cu x C none)/\jc K C=true/\eS K C "fault"/\
 (Dt [] H v d/\d.showable=true/\d.depth<=60/\d.shown.length<=10000)/\∀dx,H dx=none->dx≠x->Q .non (upd (upd H x (cu x C (some dx))) dx (.xd [("fault",v)]))
def lB(K:W.Frag):Sp:=λvs H Q _=>Exists (Ex4 (CJ K vs H Q))
section
theorem Ea:aK ["self","fault"] ["self","fault"] (ao lI):=⟨rfl,rfl,rfl,⋯,rfl,⋯,⋯⟩
theorem C5{f S:Addr}(U:Fun K "__init__" "NoSkin.__init__" lI f fd)(c:mg "ShapeError" = some (.ref S))(b:BInit K S):ai P w K mg base CX0 1 f fd ["self","fault"] (lB K):=by
 show U.ok Ea (by rintro _ _ _ _ ⟨_,_,_,_,rfl,_⟩;rfl) λl A outer s H vs Q E a h=>?_
 obtain⟨x,C,v,d,rfl,hx,e,hf,⟨g,i,j,m⟩,q⟩:=h;show⟨_,ah (du (w8 rfl c b (ae (pv 0) (pa1 (yw (oR de (oR (yx a.units a.gu (pv 1)) zo))))))) (ak (yq (pv 0) (pv 1) rfl)),?_⟩;have n:(Str.empty++("no skin: " : Str)).length<=20:=⋯;have hz:10020<=sizeLine:=by rw[cK];lia
 have l1:((Str.empty++("no skin: " : Str))++d.shown).length<=sizeLine:=by rw[jy];lia
 show⟨_,rfl,_,rfl,(),_,rfl,d,g,i,j,(),_,rfl,l1,l1,x,C,_,rfl,hx,e,by change 1<=sizeLine;lia,?_⟩;show⟨_,rfl,_,rfl,x,C,rfl,hx,hf,λdx h1 h2=>q dx h1 h2⟩
end
def qw(c:Nat):PyData:=.tuple [.str "round",.int (c:Int)]
theorem Fb{c:Nat}(h:c<10 ^ 160):(qw c).showable=true/\(qw c).depth<=60/\(qw c).shown.length<=10000:=by
 show⟨?_,?_,?_⟩
 .change (true&&(decide (((c:Nat):Int).natAbs.log2<1920)&&true))=true;rw[OV (lq h)];rfl
 .change max 0 (max 0 0)+1<=60;decide
 have h1:((toString ((c:Nat):Int):String):Str).length<=160:=by rw[sF,su];show nN 159 c h
 change (tupleText [reprText "round",(toString ((c:Nat):Int):String)]).length<=10000;have h2:(reprText "round").length<=20:=⋯;unfold tupleText;rw[jy,jy];have a:=A7 [reprText "round",(toString ((c:Nat):Int):String)] ∅;have b:(("(" : Str)).length=1:=⋯;have d:(Str.ofString ")").length=1:=⋯;have e:piled [reprText "round",((toString ((c:Nat):Int):String):Str)]<=300:=by generalize ((toString ((c:Nat):Int):String):Str)=z at h1;simp[piled];lia
 change _+_+(Str.ofString ")").length<=_;lia
def FR(C:Addr)(vs:List V)(H:Hp)(Q:VK)(E:XK)(S:Addr)(ts:List Tri)(L:List (Nat×Addr)):Prop:=vs=[.ref S]/\H S=some (.dK (L.map stV))/\(L.map (·.1)).Nodup/\(∀x∈L,Rd H x.2 (.dK ((abt (ents ts) x.1).map nmV)))/\
 (∀c,c∈L.map (·.1)↔Co ts c)/\L.length<64/\ts.length<=63/\Good ts/\((∀c,Co ts c->One (En ts) c)\/∀c,Co ts c->c<10 ^ 160)/\
 (∀H',Sm H H'->(∀c,Co ts c->One (En ts) c)->Q .non H')/\
 ∀(c:Nat) d t H',Sm H H'->H' d=some (.xd [("fault",.ref t)])->H' t=some (.tup [.str "round",.int (c:Int)])->Co ts c->¬One (En ts) c->(∀a,Co ts a->a<c->One (En ts) a)->E (.ref C) (some d) H'
def zg(C:Addr):Sp:=λvs H Q E=>Exists (Ex3 (FR C vs H Q E))
theorem JT{ts:List Tri}(g:Good ts)(c:Nat):Abt (En ts) c (abt (ents ts) c):=⟨zN g.nd c,λ_ _=>jT⟩
section
theorem xX:aK ["steps","corner"] ["steps"] (ao pz):=⟨rfl,rfl,rfl,⋯,rfl,⋯,⋯⟩
theorem EH{f f1 O C:Addr}{fd d1 R:FuncData}(U:Fun K "look_rounds_through" "look_rounds_through" pz f fd)(mS:mg "sorted" = none)(G:Use P w K mg base 2 "hang_together" ["about"] zi f1 d1)
  (M:hU K C O) (cf:eS K C "fault") (F:ai P w K mg base CX0 1 O R ["self","fault"] (lB K)) (b2:Binds K R ["self","fault"] []) (mC:mg "NoSkin" = some (.ref C)) :
  ai P w K mg base (CX1 P w) 3 f fd ["steps"] (zg C):=by
 show U.ok1 xX (λvs H Q E h=>?_) (λOZ A outer s H vs Q E y h=>?_)
 .obtain⟨S,ts,L,rfl,_⟩:=h;rfl
 obtain⟨S,ts,L,rfl,r,nk,al,B,hL,hl,g,am,q1,q2⟩:=h;have hu:=cU y;show⟨_,ak (cR uR rfl (bW (cz (kZ rfl) (by rfl) mS ik (pa1 (pv 0)))) (gx 1 xX.nd)
  (ak (bq (dI (dg (uc G y (pa1 (iC hu (pv 0) (pv 1) (λ_ _=>rfl)))))) (ak (rC (rh lets1 rfl) rfl M F y b2 rfl mC (pa1 (aJ (ae de (pa1 (pv 1))))))) bp))),?_⟩
 have a5:=line5000;show⟨_,rfl,S,rfl,.inl ⟨_,r⟩,λks vs hk=>.inl ⟨(L.map (·.1)).map (λc:Nat=>(c:Int)),?_,by rw[ay,ay];show hL,λp ms hp pm ps=>?_⟩⟩
 .rcases hk with ⟨kvs,e,rfl,_⟩|⟨kvs,as,e,_⟩
  .rw[r] at e;cases e;rw[bC,bC,bC];rfl
  rw[r] at e;cases e
 obtain⟨cs,rfl,pl,pc⟩:=rg nk pm ps;have e:(cs.map (λc:Nat=>(c:Int))).map V.int=nV cs:=by rw[bC];rfl
 rw[e];walk_at"H p hp H1 s1 T";show⟨p,rfl,⟨_,SqL.of T⟩,eL (K:=[]) (a:=p) (xs:=nV cs) (λi Z H'=>∃D,Z=[some (.ref S),D]/\Sm H1 H'/\∀c∈cs.take i,One (En ts) c) ⟨none,rfl,Sm.refl _,∅⟩ (λi Z H' _ ⟨_,_,e,_⟩=>SqL.of (e.keep T (λz=>z))) ?_ ?_⟩
 .rintro i x Z H2 hi ⟨D,rfl,sm,m⟩;rw[nV,bf] at hi;obtain⟨c,d,rfl⟩:=cw.mp hi;have X:c∈L.map (·.1):=pc.mem_iff.mp (aZ d);have u:Co ts c:=(B c).mp X;obtain⟨a,ha,an⟩:=lV X;have Y:Sm H H2:=(Sm.of s1).trans sm;have ap:=Y.rd (al _ ha);have et:cs.take (i+1)=cs.take i++[c]:=by rw[bG,d];rfl
  have aM:abt (ents ts) c≠[]:=λz=>by
   obtain⟨p',q',h⟩:=u;have:=jT.mpr h;rw[z] at this;cases this
  have hlen:(abt (ents ts) c).length<=1000:=by have:=tu (ents ts) c;rw[dA] at this;lia
  show⟨_,rfl,_,rfl,S,_,rfl,.inl ⟨_,Sum.inl (c:Int),Y.rd (.inl r),rfl,an.symm⟩,a,_,En ts,c,rfl,ap,aM,hlen,g.sk,JT g c,λb H3 ab hb=>?_⟩;show⟨_,rfl,?_⟩;cases b with
  |true=>
   show iL ⟨_,rfl,sm.trans ab,λn v=>?_⟩;rw[et] at v;rcases a_.mp v with h|h
   .exact m n h
   rw[aQ.mp h];show hb.mp rfl
  |false=>
   have ad:¬One (En ts) c:=λz=>by have:=hb.mpr z;cases this
   have aS:c<10 ^ 160:=(am.resolve_left λz=>ad (z c u)) c u;obtain⟨a0,a1,a2⟩:=Fb aS;show zP ⟨_,rfl,lit2,λt H4 ht s4 l=>?_⟩;show⟨lit1,λx hx=>?_⟩;show⟨x,C,.ref t,qw c,rfl,aN,M.over,cf,⟨.tup (SqT.of (bL hx _ _ l)) (.cons (.str _ ⋯) (.cons (.int _) .nil)),a0,a1,a2⟩,λdx ag I=>⟨rfl,some dx,?_,?_⟩⟩
   .rw[av (ax I),aN]
   have J:H4 dx=none:=by rw[av I] at ag;show ag
   show q2 c dx t _ (λb o e=>?_) ?_ ?_ u ad λn v a6=>m n ?_
   .rcases ((Sm.of s1).trans (sm.trans (ab.trans (Sm.of s4)))) b o e with z|⟨z1,ob,z⟩
    .refine .inl ?_;rw[dZ (au z hx),av (au z J),av (au z hx),av (au z hx)];show z
    show .inr ⟨z1,ob,?_⟩;rw[dZ (au z hx),av (au z J),av (au z hx),av (au z hx)];show z
   .rw[dZ I,aN]
   .rw[dZ (au l hx),av (au l J),av (au l hx),av (au l hx)];show l
   have hm:n∈cs:=pc.mem_iff.mpr ((B n).mpr v);obtain⟨j,q⟩:=eI hm;have a3:=(aI.mp q).1;have a4:=(aI.mp d).1;have N:j<i:=by
    show qA λz=>?_;by_cases N:j=i
    .subst N;rw[d] at q;cases q;lia
    have:=L_.mp pl i j a4 a3 ();rw[(aI.mp d).2,(aI.mp q).2] at this;lia
   show aZ (by rw[List.getElem?_take,OU N];show q)
 rintro Z H2 ⟨D,rfl,sm,m⟩;rw[bz,cX] at m;show q1 H2 ((Sm.of s1).trans sm) λc d=>m c (pc.mem_iff.mpr ((B c).mpr d))
end
theorem wU{C g t:Addr}{d:PyData}{a:Hp}{E:XK}(M:hU K C g)(h:eS K C "fault")(j:a t=some (.tup xs))(hd:∀H',Same a H'->Dt [] H' (.ref t) d)
  (c:d.showable=true/\d.depth<=60/\d.shown.length<=10000) (q:∀dx H',Same a H'->H' dx=some (.xd [("fault",.ref t)])->E (.ref C) (some dx) H') :
  [V.ref t].length<=sizeLine/\∀x,a x=none->lB K [.ref x,.ref t] (upd a x (cu x C none)) (λv H2=>v=.non/\∃d,H2 x=some (cu x C d)/\E (.ref C) d (del H2 x)) E0:=by
 show⟨lit1,λx hx=>?_⟩;show⟨x,C,.ref t,d,rfl,aN,M.over,h,⟨hd _ (bL hx),c.1,c.2.1,c.2.2⟩,λdx f e=>⟨rfl,some dx,?_,?_⟩⟩
 .rw[av (ax e),aN]
 have i:a dx=none:=by rw[av e] at f;show f
 show q dx _ (λb o z=>?_) ?_
 .rw[dZ (au z hx),av (au z i),av (au z hx),av (au z hx)];show z
 rw[dZ e,aN]
def pY(k:Nat):PyData:=.tuple [.str "triple",.int (k:Int)]
theorem CF{c:Nat}(h:c<10 ^ 160):(pY c).showable=true/\(pY c).depth<=60/\(pY c).shown.length<=10000:=by
 show⟨?_,?_,?_⟩
 .change (true&&(decide (((c:Nat):Int).natAbs.log2<1920)&&true))=true;rw[OV (lq h)];rfl
 .change max 0 (max 0 0)+1<=60;decide
 have h1:((toString ((c:Nat):Int):String):Str).length<=160:=by rw[sF,su];show nN 159 c h
 change (tupleText [reprText "triple",(toString ((c:Nat):Int):String)]).length<=10000;have h2:(reprText "triple").length<=20:=⋯;unfold tupleText;rw[jy,jy];have a:=A7 [reprText "triple",(toString ((c:Nat):Int):String)] ∅;have b:(("(" : Str)).length=1:=⋯;have d:(Str.ofString ")").length=1:=⋯;have e:piled [reprText "triple",((toString ((c:Nat):Int):String):Str)]<=300:=by generalize ((toString ((c:Nat):Int):String):Str)=z at h1;simp[piled];lia
 change _+_+(Str.ofString ")").length<=_;lia
theorem vX{n:Nat}(h:n<=1000):n<10 ^ 160:=AI h ⋯
def ent3(t:Tri):List Ent:=[((t.1,t.2.1),t.2.2),((t.2.1,t.2.2),t.1),((t.2.2,t.1),t.2.1)]
def SdF(ts:List Tri)(k:Nat)(s:Nat×Nat):Prop:=((ents (ts.take k)).map (·.1)).Nodup/\∃t j,ts[k]?=some t/\((ent3 t).map (·.1))[j]?=some s/\s∈(ents (ts.take k)).map (·.1)/\∀s'∈((ent3 t).map (·.1)).take j,s'∉(ents (ts.take k)).map (·.1)
def FltS(H:Hp)(d:Addr)(k m n:Nat):Prop:=∃t u,H d=some (.xd [("fault",.ref t)])/\H t=some (.tup [.str "side",.int (k:Int),.ref u])/\H u=some (.tup [.int (m:Int),.int (n:Int)])
def B7(C:Addr)(vs:List V)(H:Hp)(Q:VK)(E:XK)(T:Addr)(a:List V)(ts:List Tri):Prop:=vs=[.ref T]/\H T=some (.lst a)/\aA H a ts/\ts.length<=400/\(∀t∈ts,t.1≠t.2.1/\t.2.1≠t.2.2/\t.2.2≠t.1)/\(((ents ts).map (·.1)).Nodup\/∀t∈ts,t.1<10 ^ 160/\t.2.1<10 ^ 160/\t.2.2<10 ^ 160)/\
 (∀D H',((ents ts).map (·.1)).Nodup->H D=none->Same H H'->H' D=some (.dT ((ents ts).map bj))->Q (.ref D) H')/\
 ∀k m n d H',SdF ts k (m,n)->Same H H'->FltS H' d k m n->E (.ref C) (some d) H'
def vW(C:Addr):Sp:=λvs H Q E=>Exists (Ex3 (B7 C vs H Q E))
theorem Dm(ts:List Tri)(t:Tri):ents (ts++[t])=ents ts++ent3 t:=by rw[fJ];simp[ents,ent3]
theorem SdF.not{ts:List Tri}{k:Nat}{s:Nat×Nat}(h:SdF ts k s):¬((ents ts).map (·.1)).Nodup:=λnd=>by
 obtain⟨_,t,j,a,b,c,_⟩:=h;rw[<-ig (k+1) ts,fJ,aL,bV] at nd;have nd:=nd.1;rw[bG,a] at nd;have nd:((ents (ts.take k++[t])).map (·.1)).Nodup:=nd;rw[Dm,aL,bV] at nd;show nd.2.2 _ c _ (aZ b) rfl
theorem HF{t:Tri}(h:t.1≠t.2.1/\t.2.1≠t.2.2/\t.2.2≠t.1):((ent3 t).map (·.1)).Nodup:=by obtain⟨a,b,c⟩:=t;obtain⟨h1,h2,d⟩:=h;have h1:a≠b:=h1;have h2:b≠c:=h2;have d:c≠a:=d;simp[ent3];lia
def p6(k m n:Nat):PyData:=.tuple [.str "side",.int (k:Int),.tuple [.int (m:Int),.int (n:Int)]]
theorem tj{c:Nat}(h:c<10 ^ 160):((toString ((c:Nat):Int):String):Str).length<=160:=by rw[sF,su];show nN 159 c h
theorem wY{n:Nat}:∀{xs:List Str},(∀x∈xs,x.length<=n)->piled xs<=xs.length*(n+2)
 | [],_=>by simp[piled]
 |x::xs,h=>by
  have h1:=h x ∅;have h2:=wY (n:=n) (xs:=xs) λy a=>h y (by simp[a]);have b:piled (x::xs)=x.length+2+piled xs:=by simp[piled]
  rw[b,cE,Nat.succ_mul];lia
theorem xy{xs:List Str}{n:Nat}(h1:2<=xs.length)(h:∀x∈xs,x.length<=n):(tupleText xs).length<=xs.length*(n+2)+3:=by unfold tupleText;rw[jy,jy];have a:=A7 xs (λz=>by rw[z] at h1;simp at h1);have b:(("(" : Str)).length=1:=⋯;have c:(Str.ofString ")").length=1:=⋯;have d:=wY h;rw[OT (by simp;lia)];change _+_+(Str.ofString ")").length<=_;lia
theorem CP{k m n:Nat}(a:k<10 ^ 160)(hm:m<10 ^ 160)(b:n<10 ^ 160):(p6 k m n).showable=true/\(p6 k m n).depth<=60/\(p6 k m n).shown.length<=10000:=by
 show⟨?_,?_,?_⟩
 .change (true&&(decide (((k:Nat):Int).natAbs.log2<1920)&&((decide (((m:Nat):Int).natAbs.log2<1920)&&(decide (((n:Nat):Int).natAbs.log2<1920)&&true))&&true)))=true;rw[OV (lq a),OV (lq hm),OV (lq b)];rfl
 .change max 0 (max 0 (max (max 0 (max 0 0)+1) 0))+1<=60;decide
 change (tupleText [reprText "side",(toString ((k:Nat):Int):String),tupleText [(toString ((m:Nat):Int):String),(toString ((n:Nat):Int):String)]]).length<=10000;have h2:(reprText "side").length<=20:=⋯;have i1:=tj a;have i2:=tj hm;have c:=tj b;have h1:(tupleText [((toString ((m:Nat):Int):String):Str),((toString ((n:Nat):Int):String):Str)]).length<=2*(160+2)+3:=xy ∅ λx hx=>by
  rcases aG.mp hx with rfl|hx
  .exact i2
  rw[aQ.mp hx];show c
 show dn (xy (n:=400) ∅ λx hx=>?_) (by change 3*(400+2)+3<=10000;decide);rcases aG.mp hx with rfl|hx
 .lia
 rcases aG.mp hx with rfl|hx
 .lia
 rw[aQ.mp hx];lia
section
theorem Ck{f f2 C:Addr}{fd d2:FuncData}(U:Fun K "thirds_by_side" "thirds_by_side" oM f fd)(T:cq mg)
  (MX:hU K C f2) (cf:eS K C "fault") (F:ai P w K mg base CX0 1 f2 d2 ["self","fault"] (lB K)) (b2:Binds K d2 ["self","fault"] []) (mC:mg "NoSkin" = some (.ref C)):ai P w K mg base (CX1 P w) 3 f fd ["triples"] (vW C):=by
 show U.ok1 iq (λvs H Q E h=>?_) (λOZ A outer s H vs Q E hr h=>?_)
 .obtain⟨T,vt,ts,rfl,_⟩:=h;rfl
 obtain⟨T0,vt,ts,rfl,hT,ht,hl,a1,a2,q,qE⟩:=h;have hu:=cU hr;show⟨_,ah (sx 1 iq.nd w4)
  (ah (cR uR rfl (sW rfl T.enum (pa1 (pv 0))) (cT rfl (aR (gx 2 iq.nd) (aR (cT rfl (aR (gx 3 iq.nd) (aR (gx 4 iq.nd) (aR (gx 5 iq.nd) cP)))) cP)))
   (ak (cR uR rfl (bW (bT (ae (aJ (ae (aJ (ae (pv 3) (pa1 (pv 4)))) (pa1 (pv 5)))) (ae (aJ (ae (aJ (ae (pv 4) (pa1 (pv 5)))) (pa1 (pv 3)))) (pa1 (aJ (ae (aJ (ae (pv 5) (pa1 (pv 3)))) (pa1 (pv 4))))))))) (cT rfl (aR (gx 6 iq.nd) (aR (gx 7 iq.nd) cP)))
    (ah (bq (gB (pJ hu (pv 6) (pv 1))) (ak (rC (rh lets1 rfl) rfl MX F hr b2 rfl mC (pa1 (aJ (ae de (ae (pv 2) (pa1 (pv 6)))))))) bp)
    (ak (i7 hu (pv 1) (pv 6) (pv 7) rfl))))))
  (ak (aD (pv 1)))),?_⟩
 have bd:=line5000;have hlen:=aH ht;show λD H1 h1 s1 y1=>?_;show⟨_,rfl,T0,vt,rfl,SqL.of (s1 _ _ hT),rX (K:=[]) (a:=T0) (xs:=vt) (λi Z H2=>∃v2 v3 v4 v5 v6 v7,Z=[some (.ref T0),some (.ref D),v2,v3,v4,v5,v6,v7]/\Same H H2/\H2 D=some (.dT ((ents (ts.take i)).map bj))/\((ents (ts.take i)).map (·.1)).Nodup)
  ⟨none,none,none,none,none,none,rfl,s1,y1,List.Pairwise.nil⟩ (λi Z H2 _ ⟨_,_,_,_,_,_,_,e,_⟩=>SqL.of (e _ _ hT)) ?_ ?_⟩
 .rintro i x p Z H2 hi ⟨v2,v3,v4,v5,v6,v7,rfl,sm,hD,I⟩ hp;obtain⟨⟨a,b,c⟩,J,t,rfl,hb⟩:=cj ht hi;have hb:H t=some (.tup [.int (a:Int),.int (b:Int),.int (c:Int)]):=hb;have et:ts.take (i+1)=ts.take i++[(a,b,c)]:=by rw[bG,J];rfl
  walk_at"H2 p hp H3 s3 y3";show⟨p,_,rfl,SqT.of y3,rfl,_,_,rfl,_,_,rfl,t,_,rfl,SqT.of (s3 _ _ (sm _ _ hb)),rfl,_,_,rfl,_,_,rfl,_,_,rfl,rfl,rfl,?_⟩;show⟨_,rfl,_,rfl,lit2,λsa H4 ga s4 y4=>?_⟩;show⟨_,rfl,lit2,λua H5 be R S=>?_⟩;show⟨_,rfl,_,rfl,lit2,λsb H6 gb y y6=>?_⟩;show⟨_,rfl,lit2,λub H7 bi s7 y7=>?_⟩;show⟨_,rfl,_,rfl,lit2,λsc H8 gc s8 y8=>?_⟩;show⟨_,rfl,lit2,λuc H9 bl s9 y9=>?_⟩;show⟨lit3,λM r gM sA yM=>?_⟩;have a3:Same H3 H7:=((s4.trans R).trans y).trans s7;have X:Same H7 r:=(s8.trans s9).trans sA;have al:Same H3 r:=a3.trans X;have en:Paired (EnAt r) [V.ref ua,.ref ub,.ref uc] [((a,b),c),((b,c),a),((c,a),b)]:=
   .cons ⟨ua,sa,rfl,X _ _ (s7 _ _ (y _ _ S)),X _ _ (s7 _ _ (y _ _ (R _ _ y4)))⟩ (.cons ⟨ub,sb,rfl,X _ _ y7,X _ _ (s7 _ _ y6)⟩ (.cons ⟨uc,sc,rfl,sA _ _ y9,sA _ _ (s9 _ _ y8)⟩ .nil))
  have ag:r D=some (.dT ((ents (ts.take i)).map bj)):=al _ _ (s3 _ _ hD);have ee:ents (ts.take (i+1))=ents (ts.take i)++[((a,b),c),((b,c),a),((c,a),b)]:=by rw[et,fJ];simp[ents]
  have L:=HF (a1 _ (aZ J));have L:(([((a,b),c),((b,c),a),((c,a),b)]:List Ent).map (·.1)).Nodup:=L;have Y:ent3 (a,b,c)=[((a,b),c),((b,c),a),((c,a),b)]:=rfl;have bm:i<ts.length:=(aI.mp J).1;have l0:=dA (ts.take i);rw[bu] at l0;have am:Same H r:=(sm.trans s3).trans al;generalize an:[((a,b),c),((b,c),a),((c,a),b)]=g at en L ee Y;have a4:g.length=3:=by rw[<-an];rfl
  have a5:M≠D:=λz=>by rw[z,ag] at yM;cases yM
  show⟨M,rfl,⟨_,SqL.of yM⟩,eL (K:=[]) (a:=M) (xs:=[V.ref ua,.ref ub,.ref uc]) (λj Z H'=>∃w6 w7,Z=[some (.ref T0),some (.ref D),some (.int (i:Int)),some (.int (a:Int)),some (.int (b:Int)),some (.int (c:Int)),w6,w7]/\(∀l o,l≠D->r l=some o->H' l=some o)/\H' D=some (.dT ((ents (ts.take i)++g.take j).map bj))/\∀s'∈(g.take j).map (·.1),s'∉(ents (ts.take i)).map (·.1))
   ⟨v6,v7,rfl,λ_ _ _ e=>e,by rw[AD,eG];show ag,∅⟩ (λj Z H' _ ⟨_,_,_,e,_⟩=>SqL.of (e _ _ a5 yM)) ?_ ?_⟩
  .rintro j x Z H' hj ⟨w6,w7,rfl,but,N,O⟩;obtain⟨⟨⟨m,n⟩,o⟩,ho,u,B,rfl,ab,v⟩:=cj en hj;have ab:r u=some (.tup [.ref B,.int (o:Int)]):=ab;have v:r B=some (.tup ((ky m n).map kV)):=v;have ej:g.take (j+1)=g.take j++[((m,n),o)]:=by rw[bG,ho];rfl
   have bn:j<g.length:=(aI.mp ho).1;have nu:u≠D:=λz=>by rw[z,ag] at ab;cases ab
   have ns:B≠D:=λz=>by rw[z,ag] at v;cases v
   show⟨u,_,rfl,SqT.of (but _ _ nu ab),rfl,_,_,rfl,_,_,rfl,rfl,?_⟩;have a6:Same H H':=λl o e=>but l o (au e h1) (am _ _ e);by_cases ad:(m,n)∈(ents (ts.take i)).map (·.1)
   .have a8:∀t∈ts,t.1<10 ^ 160/\t.2.1<10 ^ 160/\t.2.2<10 ^ 160:=a2.resolve_left λnd=>by
     have B:SdF ts i (m,n):=⟨I,(a,b,c),j,J,by rw[Y,bf,ho];rfl,ad,by rw[Y,<-mJ];show O⟩;show B.not nd
    have a9:SdF ts i (m,n):=⟨I,(a,b,c),j,J,by rw[Y,bf,ho];rfl,ad,by rw[Y,<-mJ];show O⟩;have hc:=a8 _ (aZ J);have ap:m<10 ^ 160/\n<10 ^ 160:=by
     have hm:=aZ ho;rw[<-an] at hm;obtain⟨c1,c2,c3⟩:=hc;simp at hm;rcases hm with ⟨⟨rfl,rfl⟩,_⟩|⟨⟨rfl,rfl⟩,_⟩|⟨⟨rfl,rfl⟩,_⟩
     .exact⟨c1,c2⟩
     .exact⟨c2,c3⟩
     show⟨c3,c1⟩
    obtain⟨x,hx⟩:∃x,bh ((ents (ts.take i)++g.take j).map bj) (ky m n)=some x:=by
     cases hv:bh ((ents (ts.take i)++g.take j).map bj) (ky m n) with
     |some x=>show⟨x,rfl⟩
     |none=>show absurd (by rw[aL];show dD _ ad) (fE.mp hv)
    show⟨_,rfl,_,rfl,D,_,rfl,DGet.t (k:=ky m n) N (but _ _ ns v),true,by rw[hx];rfl,aO ?_⟩;show⟨_,rfl,_,rfl,lit3,λt5 H5 g5 R S=>?_⟩;have aM:H5 B=some (.tup [.int (m:Int),.int (n:Int)]):=R _ _ (but _ _ ns v);show wU (d:=p6 i m n) MX cf S (λH' s'=>.tup (SqT.of (s' _ _ S)) (.cons (.str _ ⋯) (.cons (.int _) (.cons (.tup (SqT.of (s' _ _ aM)) (.cons (.int _) (.cons (.int _) .nil))) .nil)))) (CP (vX ()) ap.1 ap.2) λdx H6 y e6=>?_;show qE i m n dx H6 a9 ((a6.trans R).trans y) ⟨t5,B,e6,y _ _ S,y _ _ aM⟩
   have aS:(m,n)∉(ents (ts.take i)++g.take j).map (·.1):=by
    rw[aL,a_];rintro (z|z)
    .exact ad z
    rw[<-ig (j+1) g,ej,Am,aL,bV] at L;show L.2.2 _ z (m,n) ∅ rfl
   show⟨_,rfl,_,rfl,D,_,rfl,DGet.t (k:=ky m n) N (but _ _ ns v),false,by rw[fE.mpr aS];rfl,aB ?_⟩;show⟨_,rfl,_,rfl,_,rfl,D,_,rfl,DPut.t (k:=ky m n) N (but _ _ ns v) (by rw[ay,aU,bu];lia),?_⟩;rw[oO aS];walk_at"H' D Hb kb yb";show⟨_,_,rfl,λl o e1 e2=>(kb l e1).trans (but l o e1 e2),by rw[yb,ej,Am],λs' a0=>?_⟩;rw[ej,aL] at a0;rcases a_.mp a0 with z|z
   .exact O s' z
   rw[aQ.mp z];show ad
  rintro Z H' ⟨w6,w7,rfl,but,N,O⟩;have:g.take [V.ref ua,.ref ub,.ref uc].length=g:=iR (by rw[a4];show aq 3);rw[this] at N O;show⟨_,_,_,_,_,_,rfl,λl o e=>but l o (au e h1) (am _ _ e),by rw[N,ee],?_⟩;rw[ee,aL,bV];show⟨I,L,λa' ba l bb z=>O l bb (z ▸ ba)⟩
 rintro Z H2 ⟨v2,v3,v4,v5,v6,v7,rfl,sm,hD,I⟩;rw[hlen,cX] at hD I;show⟨_,rfl,q D H2 I h1 sm hD⟩
end
structure ia(CX:CXT)(P:Program)(w:World)(K:W.Frag)(mg:Str->Option Value)(base:Heap)(n:Nat)(x:Str)(ps:List Str)(sp:Sp)(f:Addr)(fd:FuncData):Prop where
 g:ai P w K mg base CX n f fd ps sp
 b:Binds K fd ps []
 m:mg x=some (.ref f)
 k:W.keepIn K (.ref f)=true
def uz(H:Hp)(d:Addr):Prop:=∃t k xs,H d=some (.xd [("fault",.ref t)])/\H t=some (.tup (.str k::xs))/\(k = "triple"\/k = "side"\/k = "round")
abbrev tri3(t:Tri):HO:=.tup [.int (t.1:Int),.int (t.2.1:Int),.int (t.2.2:Int)]
def DX(vs:List V)(H:Hp)(Q:VK)(t:Addr)(x:Tri):Prop:=vs=[.ref t]/\H t=some (tri3 x)/\Q (.bl (decide (Ne3 x))) H
def xO:Sp:=λvs H Q _=>Exists (Ex2 (DX vs H Q))
def D6(C:Addr)(vs:List V)(H:Hp)(Q:VK)(E:XK)(T:Addr)(a:List V)(ts:List Tri):Prop:=vs=[.ref T]/\H T=some (.lst a)/\aA H a ts/\ts.length<=400/\
 (∀r vr H',H r=none->Same H H'->H' r=some (.lst vr)->aA H' vr ts->(∀t∈ts,Ne3 t)->Q (.ref r) H')/\
 ∀d H',Same H H'->uz H' d->(¬∀t∈ts,Ne3 t)->E (.ref C) (some d) H'
def xS(C:Addr):Sp:=λvs H Q E=>Exists (Ex3 (D6 C vs H Q E))
section
theorem EJ{f j:Addr}{fd l:FuncData}(U:Fun K "is_triple" "is_triple" nU f fd)(T:cq mg)(F:mv K)(G:Use P w K mg base 2 "is_corner" ["thing"] lj j l) :
  ai P w K mg base CX0 3 f fd ["thing"] xO:=by
 show U.ok nG (by rintro _ _ _ _ ⟨_,_,rfl,_⟩;rfl) λm A outer s H vs Q E g h=>?_
 obtain⟨t,⟨a,b,c⟩,rfl,i,q⟩:=h;show⟨_,ah (bq (PW.pt (fT (dI (dg (cz (jF (c:="tuple")) (by rfl) T.isi mQ (ae (pv 0) (pa1 (jQ (v:=.ty "tuple") rfl T.tuple jw rfl))))))
    (gA (a7 ke (pln T.len (pv 0)) aj (nomark _))))) (ak (aD fj)) bp)
  (ah (ff (pv 0) (cT rfl (aR (gx 1 nG.nd) (aR (gx 2 nG.nd) (aR (gx 3 nG.nd) cP)))))
  (ah (bq (PW.pt (fT (dI (dg (uc G g (pa1 (pv 1))))) (fT (dI (dg (uc G g (pa1 (pv 2))))) (gA (dI (dg (uc G g (pa1 (pv 3))))))))) (ak (aD fj)) bp)
  (ak (aD (j1 (fP ke (pv 1) (pv 2) (nomark _)) (j1 (fP ke (pv 2) (pv 3) (nomark _)) (j0 (fP ke (pv 3) (pv 1) (nomark _))))))))),?_⟩
 show⟨_,rfl,_,_,true,rfl,.tup i,F.t,_,rfl,gG ?_⟩;show⟨_,rfl,t,_,rfl,.inr (SqT.of i),rfl,_,rfl,?_⟩;show aB ⟨_,rfl,t,_,rfl,SqT.of i,rfl,_,_,rfl,_,_,rfl,_,_,rfl,rfl,?_⟩;show⟨_,rfl,a,rfl,_,rfl,gG ⟨_,rfl,b,rfl,_,rfl,gG ⟨_,rfl,c,rfl,_,rfl,iL ?_⟩⟩⟩;have ne:∀x y:Nat,(!decide (V.int (x:Int)=V.int (y:Int)))=decide (x≠y):=λx y=>by
  rw[kq,fm];simp;lia
 show⟨_,rfl,_,rfl,rfl,_,rfl,?_⟩;rw[ne];by_cases d:a=b
 .rw[OW (λz=>z d)];show aB ?_;rw[OW (λz:Ne3 (a,b,c)=>z.1 d)] at q;show q
 rw[OV d];show aO ⟨_,rfl,_,rfl,rfl,_,rfl,?_⟩;rw[ne];by_cases e:b=c
 .rw[OW (λz=>z e)];show aB ?_;rw[OW (λz:Ne3 (a,b,c)=>z.2.1 e)] at q;show q
 rw[OV e];show aO ⟨_,rfl,_,rfl,rfl,?_⟩;rw[ne,show decide (c≠a)=decide (Ne3 (a,b,c)) from decide_eq_decide.mpr ⟨λz=>⟨d,e,z⟩,λz=>z.2.2⟩];show q
theorem ER{f f1 Y C:Addr}{fd d1 d2:FuncData}(U:Fun K "checked_triples" "checked_triples" lD f fd)(T:cq mg)(G:Use P w K mg base 3 "is_triple" ["thing"] xO f1 d1)
  (M:hU K C Y) (cf:eS K C "fault") (F:ai P w K mg base CX0 1 Y d2 ["self","fault"] (lB K)) (b2:Binds K d2 ["self","fault"] []) (mC:mg "NoSkin" = some (.ref C)) :
  ai P w K mg base (CX1 P w) 4 f fd ["things"] (xS C):=by
 show U.ok1 iV (λvs H Q E h=>?_) (λOZ A outer s H vs Q E hr h=>?_)
 .obtain⟨T,y,ts,rfl,_⟩:=h;rfl
 obtain⟨B,y,ts,rfl,hT,ht,hl,q,qE⟩:=h;have al:Room 2 (A.deeper (PyProof.Rows.envOfC "checked_triples" (ao lD) ↥s f OZ)):=hr.mono ⋯;show⟨_,ah (sx 1 iV.nd (bT fg))
  (ah (cR uR rfl (sW rfl T.enum (pa1 (pv 0))) (cT rfl (aR (gx 2 iV.nd) (aR (gx 3 iV.nd) cP)))
   (ah (bq (dI (dg (uc G hr (pa1 (pv 3))))) (ak (rC (rh lets1 rfl) rfl M F al b2 rfl mC (pa1 (aJ (ae de (pa1 (pv 2))))))) bp)
   (ah (ff (pv 3) (cT rfl (aR (gx 4 iV.nd) (aR (gx 5 iV.nd) (aR (gx 6 iV.nd) cP)))))
   (ak (du (dJ eJ gK gL eZ (pv 1) (pa1 (aJ (ae (c_ gv (by rfl) T.int gJ (pa1 (pv 4))) (ae (c_ gv (by rfl) T.int gJ (pa1 (pv 5))) (pa1 (c_ gv (by rfl) T.int gJ (pa1 (pv 6))))))))))))))
  (ak (aD (pv 1)))),?_⟩
 have am:=line5000;have hlen:=aH ht;show⟨bE _,λr H1 ab s1 y1=>?_⟩;show⟨_,rfl,B,y,rfl,SqL.of (s1 _ _ hT),rX (K:=[]) (a:=B) (xs:=y) (λi Z H'=>∃D I J L N vr,Z=[some (V.ref B),some (.ref r),D,I,J,L,N]/\Same H H'/\H' r=some (.lst vr)/\aA H' vr (ts.take i)/\∀t∈ts.take i,Ne3 t)
  ⟨none,none,none,none,none,[],rfl,s1,y1,.nil,∅⟩ (λi Z H' _ ⟨_,_,_,_,_,_,_,e,_⟩=>SqL.of (e _ _ hT)) ?_ ?_⟩
 .rintro i x p Z H2 hi ⟨D,I,J,L,N,vr,rfl,sm,m,tr,u⟩ hp;obtain⟨⟨a,b,c⟩,O,t,rfl,R⟩:=cj ht hi;have R:H t=some (tri3 (a,b,c)):=R;have an:i<ts.length:=(aI.mp O).1;have et:ts.take (i+1)=ts.take i++[(a,b,c)]:=by rw[bG,O];rfl
  walk_at"H2 p hp H3 g y3";have ad:=g _ _ (sm _ _ R);show⟨p,_,rfl,SqT.of y3,rfl,_,_,rfl,_,_,rfl,rfl,?_⟩;show⟨_,rfl,t,(a,b,c),rfl,ad,_,rfl,?_⟩;by_cases v:Ne3 (a,b,c)
  .rw[OV v];show iL ⟨_,rfl,t,_,rfl,SqT.of ad,rfl,_,_,rfl,_,_,rfl,_,_,rfl,rfl,?_⟩;show⟨_,rfl,.inl ⟨rfl,_,SqL.of (g _ _ m)⟩,_,rfl,.inl ⟨_,rfl,_,rfl,.inl ⟨_,rfl,_,rfl,.inl ⟨_,rfl,lit3,λt1 H4 g1 n j=>?_⟩⟩⟩⟩;have S:=n _ _ (g _ _ m);have l1:=aH tr;rw[bu] at l1;show⟨r,_,_,rfl,rfl,S,(),λH5 k5 y5=>?_⟩;have n1:∀l o,H l=some o->l≠r:=λl o e=>au e ab;show⟨_,_,_,_,_,_,rfl,λl o e=>(k5 l (n1 l o e)).trans (n _ _ (g _ _ (sm _ _ e))),y5,?_,?_⟩
   .rw[et];show cD (Paired.imp' (λv' t' ⟨a',e,X⟩=>⟨a',e,(k5 a' (λz=>by rw[z,m] at X;cases X)).trans (n _ _ (g _ _ X))⟩) tr) (.cons ⟨t1,rfl,(k5 t1 (λz=>by rw[<-z,j] at S;cases S)).trans j⟩ .nil)
   intro t ag;rw[et] at ag;rcases a_.mp ag with z|z
   .exact u t z
   rw[aQ.mp z];show v
  rw[OW v];show zP ⟨_,rfl,lit2,λt' H4 ap n j=>?_⟩;show wU (d:=pY i) M cf j (λH' s'=>.tup (SqT.of (s' _ _ j)) (.cons (.str _ ⋯) (.cons (.int _) .nil))) (CF (vX ())) λdx H' s5 e5=>?_;show qE dx H' (((sm.trans g).trans n).trans s5) ⟨t',_,_,e5,s5 _ _ j,.inl rfl⟩ λz=>v (z _ (aZ O))
 rintro Z H2 ⟨D,I,J,L,N,vr,rfl,sm,m,tr,u⟩;rw[hlen,cX] at tr u;show⟨_,rfl,q r vr H2 ab sm m tr u⟩
end
structure SCls(K:W.Frag)(C:Addr):Prop where
 cl:Cls K C
 ordered:gC K C "ordered"
 rising:gC K C "rising"
 thirds:gC K C "thirds"
 steps:gC K C "steps"
def sflds(O R D S:Addr):List (Str×V):=[("ordered",.ref O),("rising",.ref R),("thirds",.ref D),("steps",.ref S)]
def Srt(us:List Tri):Prop:=us.Pairwise (λa b=>HT.lexLt [(b.1:Int),(b.2.1:Int),(b.2.2:Int)] [(a.1:Int),(a.2.1:Int),(a.2.2:Int)]=false)
structure SkIn(C:Addr)(H:Hp)(x:Addr)(ts us:List Tri)(dx O R D S:Addr)(vo:List V)(L:List (Nat×Addr)):Prop where
 ob:H x=some (.ins C dx (sflds O R D S))
 od:H O=some (.lst vo)
 tr:aA H vo us
 th:Rd H D (.dT ((ents ts).map bj))
 st:Rd H S (.dK (L.map stV))
 ab:∀z∈L,Rd H z.2 (.dK ((abt (ents ts) z.1).map nmV))
structure SkT(ts us:List Tri):Prop where
 sk:Skn ts
 al:Alike us ts
 so:Srt us
 ln:ts.length<=63
 bd:∀c,Co ts c->c<10 ^ 160
def bU(C:Addr)(H:Hp)(x:Addr)(ts us:List Tri):Prop:=SkT ts us/\∃(dx O R D S:Addr)(a:List V)(L:List (Nat×Addr)),SkIn C H x ts us dx O R D S a L/\(L.map (·.1)).Nodup/\∀c,c∈L.map (·.1)↔Co ts c
theorem bU.sm{C:Addr}{x:Addr}{ts us:List Tri}(s:Sm H H')(h:bU C H x ts us):bU C H' x ts us:=by obtain⟨t,dx,O,R,D,S,b,L,h,r⟩:=h;show⟨t,dx,O,R,D,S,b,L,⟨s.keep h.ob (λz=>z),s.keep h.od (λz=>z),Paired.imp' (λ_ _ ⟨a,c,d⟩=>⟨a,c,s.keep d (λz=>z)⟩) h.tr,s.rd h.th,s.rd h.st,λz hz=>s.rd (h.ab z hz)⟩,r⟩
def SmB(x:Addr)(H H':Hp):Prop:=∀b o,b≠x->H b=some o->H' b=some o\/(dP o/\∃ob,H' b=some (.frz ob o))
def Few(ts:List Tri):Prop:=ts.length<=63/\(∀l:List Nat,l.Nodup->(∀c∈l,Co ts c)->l.length<64)/\∀t∈ts,t.1<10 ^ 160/\t.2.1<10 ^ 160/\t.2.2<10 ^ 160
def FP(Cs C:Addr)(vs:List V)(H:Hp)(Q:VK)(E:XK)(x dx T:Addr)(a:List V)(ts:List Tri):Prop:=vs=[.ref x,.ref T]/\H x=some (.ins Cs dx [])/\H T=some (.lst a)/\aA H a ts/\Few ts/\
 (∀us H',SmB x H H'->bU Cs H' x ts us->Q .non H')/\∀d H',¬Skn ts->Sm H H'->uz H' d->E (.ref C) (some d) H'
def tH(Cs C:Addr):Sp:=λvs H Q E=>Exists (Ex5 (FP Cs C vs H Q E))
theorem Ah{t u:Tri}(n:Ne3 t)(h:Bg t u):u=bg t:=by
 obtain⟨a,b,c⟩:=t;obtain⟨d,e,f⟩:a≠b/\b≠c/\c≠a:=n;obtain⟨h,h1,h2⟩:=h;rcases h with rfl|rfl|rfl
 .exact (ql ⟨h1,h2⟩).symm
 .rw[<-eR ⟨d,e,f⟩];show (ql ⟨h1,h2⟩).symm
 rw[eR (a:=c) (b:=a) (c:=b) ⟨f,d,e⟩];show (ql ⟨h1,h2⟩).symm
theorem tZ:∀{ts us:List Tri},(∀t∈ts,Ne3 t)->Paired Bg ts us->us=ts.map bg
 |_,_,_,.nil=>rfl
 |_,_,n,.cons h r=>by rw[Ah (n _ gq) h,tZ (λt a=>n t (bJ _ a)) r];rfl
section
theorem pb:aK ["self","triples","checked","thirds","steps"] ["self","triples"] (ao jg):=⟨rfl,rfl,rfl,⋯,rfl,⋯,⋯⟩
theorem GH{f f1 f2 f3 f4 f5 Cs C:Addr}{fd d1 d2 d3 d4 d5:FuncData}(U:Fun K "__init__" "Skin.__init__" jg f fd)(T:cq mg)(mS:mg "sorted" = none){tM:Tok}(mM:mg "MOST_TRIPLES" = some (.int 200 tM))(X:SCls K Cs)
  (G1:ia (CX1 P w) P w K mg base 4 "checked_triples" ["things"] (xS C) f1 d1) (G2:ia (CX1 P w) P w K mg base 3 "thirds_by_side" ["triples"] (vW C) f2 d2) (G3:Use P w K mg base 1 "steps_by_corner" ["thirds"] xE f3 d3)
  (G4:ia (CX1 P w) P w K mg base 3 "look_rounds_through" ["steps"] (zg C) f4 d4) (G5:Use P w K mg base 1 "begun_least" ["triple"] sM f5 d5) :
  ai P w K mg base (CX1 P w) 5 f fd ["self","triples"] (tH Cs C):=by
 show U.ok1 pb (λvs H Q E h=>?_) (λOZ A outer s H vs Q E hr h=>?_)
 .obtain⟨x,dx,T,vt,ts,rfl,_⟩:=h;rfl
 obtain⟨x,dx,T0,vt,ts,rfl,hx,hT,ht,⟨hl,bn,al⟩,q1,qE⟩:=h;have a1:Room 1 (A.deeper (PyProof.Rows.envOfC "Skin.__init__" (ao jg) ↥s f OZ)):=hr.mono ⋯;have a2:Room 3 (A.deeper (PyProof.Rows.envOfC "Skin.__init__" (ao jg) ↥s f OZ)):=hr.mono ⋯;show⟨_,ah (bq (a7 Ab (pln T.len (pv 1)) (lO (v:=.int 200) rfl mM ⟨_,rfl⟩) (nomark _)) jE bp)
  (ah (sx 2 pb.nd (fe G1.g hr rfl G1.m G1.k G1.b .nil pass1 (pa1 (pv 1))))
  (ah (sx 3 pb.nd (fe G2.g a2 rfl G2.m G2.k G2.b .nil pass1 (pa1 (pv 2))))
  (ah (sx 4 pb.nd (uc G3 a1 (pa1 (pv 3))))
  (ah (du (fe G4.g a2 rfl G4.m G4.k G4.b .nil pass1 (pa1 (pv 4))))
  (ah (pI (pv 0) (cz vn (by rfl) mS ik (pa1 (dB (N:=["triple"]) (fr:=[none]) (vP ⋯ rfl ⋯ ⋯) rfl (bW (pv 2))
    (λC s H fp OY=>⟨gx 0 (⋯:(["triple"]:List Str).Nodup),eO,uc G5 a1 (pa1 (pv 0))⟩)))) rfl)
  (ah (pI (pv 0) (cz (Bp rfl) (by rfl) mS ik (pa1 (pv 4))) rfl)
  (ah (pI (pv 0) (pv 3) rfl)
  (ak (pI (pv 0) (pv 4) rfl))))))))),?_⟩
 have b3:=line5000;have hlen:=aH ht;show⟨_,rfl,T0,_,rfl,.inl (SqL.of hT),_,_,rfl,rfl,_,rfl,?_⟩;change if decide ((vt.length:Int)>200)=true then _ else _
 rw[OW ()];show aB ⟨_,rfl,T0,vt,ts,rfl,hT,ht,(),λr vr H1 b4 s1 y1 tr1 an=>?_,λd H1 s1 y e2=>qE d H1 (λz=>e2 λt ht=>z.g.ne t ht) (Sm.of s1) y⟩;show⟨_,rfl,r,vr,ts,rfl,y1,tr1,(),an,.inr al,λD H2 bt b5 s2 y2=>?_,λk m n d H2 y s2 ⟨t,u,M,e4,_⟩=>qE d H2 (λz=>y.not z.g.nd) (Sm.of (s1.trans s2)) ⟨t,_,_,M,e4,.inr (.inl rfl)⟩⟩;have g:Good ts:=⟨an,bt⟩;have a3:∀c,Co ts c->c<10 ^ 160:=λc hc=>by
  obtain⟨p',q',bv⟩:=hc;rcases cG.mp bv with z|z|z
  .exact (al _ z).1
  .exact (al _ z).2.1
  show (al _ z).2.2
 show⟨_,rfl,D,ents ts,rfl,y2,g.nd,by rw[dA];lia,λS L H3 b6 ap st=>?_⟩;have lL:L.length<64:=by have:=bn _ st.nk λc hc=>(st.key c).mp hc;rw[ay] at this;show this
 show⟨_,rfl,S,ts,L,rfl,st.at_,st.nk,λz hz=>.inl (st.ab z hz),st.key,lL,(),g,.inr a3,λl Y bw=>?_,λc d t l Y y e2 M e4 e5=>qE d l (λz=>e4 (z.o c M)) (((Sm.of (s1.trans s2)).trans ap).trans Y) ⟨t,_,_,y,e2,.inr (.inr rfl)⟩⟩
 have a4:Sm H l:=((Sm.of (s1.trans s2)).trans ap).trans Y;have a5:l x=some (.ins Cs dx []):=a4.keep hx (λz=>z);have aM:Sm H2 l:=ap.trans Y;have a6:l r=some (.lst vr):=aM.keep (s2 _ _ y1) (λz=>z);have a8:aA l vr ts:=Paired.imp' (λv' t' ⟨a',e,B⟩=>⟨a',e,aM.keep (s2 _ _ B) (λz=>z)⟩) tr1;have bA:=aH a8;show⟨_,rfl,r,rfl,⟨_,SqL.of a6⟩,λZ_ hZ=>dH (K:=[]) (a:=r) (xs:=vr) (λi Z ys H'=>∃o us,Z=[o]/\Same l H'/\H' Z_=some (.lst ys)/\aA H' ys us/\Paired Bg (ts.take i) us) ⟨none,[],rfl,bL hZ,aN,.nil,.nil⟩
  (λi Z ys H' _ ⟨_,_,_,e,_⟩=>SqL.of (e _ _ a6)) ?_ ?_⟩
 .rintro i v Z ys H' hi ⟨o,us,rfl,sm,a9,tr,bg⟩;obtain⟨t3,hs,t,rfl,p⟩:=cj a8 hi;have ba:i<ts.length:=(aI.mp hs).1;have ly:ys.length<=63:=by rw[aH tr,<-aH bg,bu];lia
  show⟨_,rfl,t,t3,rfl,sm _ _ p,λr' u H5 s5 y5 bK=>⟨s5 _ _ a9,(),λHn kn yn=>⟨some (.ref t),us++[u],rfl,λb o e=>(kn b (au e hZ)).trans (s5 _ _ (sm _ _ e)),yn,?_,by rw[bG,hs];show cD bg (.cons bK .nil)⟩⟩⟩;have bM:=s5 _ _ a9;have tn:∀{b':Addr}{xs:List V},H5 b'=some (.tup xs)->b'≠Z_:=λe=>bZ e bM ∅;show cD (Paired.imp' (λ_ _ ⟨b',y,e2⟩=>⟨b',y,by have M:=s5 _ _ e2;show (kn _ (tn M)).trans M⟩) tr) (.cons ⟨r',rfl,(kn _ (tn y5)).trans y5⟩ .nil)
 rintro Z ys H5 ⟨o,ws,rfl,s5,bN,ag,bg⟩;rw[bA,cX] at bg;have b7:ys.length=ts.length:=by rw[aH ag,<-aH bg]
 have ly:ys.length<=63:=();show⟨Z_,ys,ws.map kyT,rfl,SqL.of bN,rH ag,(),λO I hO pm ps=>?_⟩;have bb:∀i∈I,i<ys.length:=λi hi=>ic.mp (pm.mem_iff.mp hi);have aS:=rJ ag I bb;have perm:(I.map λi=>ws.getD i (0,0,0)).Perm ws:=vH (by rw[<-aH ag];show pm);have bd:Srt (I.map λi=>ws.getD i (0,0,0)):=by
  unfold Srt;rw[ie] at ps |-;show ps.imp_of_mem λ{i j} hi hj h=>?_;have gt:∀i,i∈I->(ws.map kyT).getD i []=kyT (ws.getD i (0,0,0)):=λi hi=>by
   have ba:i<ws.length:=by rw[<-aH ag];show bb i hi
   simp[List.getD,aX ba]
  rw[gt i hi,gt j hj] at h;show h
 generalize (I.map λi=>ws.getD i (0,0,0))=us at aS perm bd;generalize (I.map λi=>ys.getD i .non)=vo at aS |-;walk_at"H5 O hO q s6 y6";have J:Same l q:=s5.trans s6;have bS:aA q vo us:=Paired.imp' (λv' t' ⟨a',e,B⟩=>⟨a',e,s6 _ _ B⟩) aS;show⟨_,rfl,x,Cs,dx,_,rfl,J _ _ a5,X.cl,X.ordered,(by change 0<1000;decide),?_⟩;have be:Rd q S (.dK (L.map stV)):=(Sm.of J).rd (Y.rd (.inl st.at_));have am:=J _ _ a5;walk_at"q x H7 k7 y7";have bi:∀{b:Addr}{u:HO},dP u->Rd q b u->b≠x:=λ{b u} hu p z=>by
  subst z;rcases p with e|⟨ob,e⟩
  .rw[am] at e;cases e;show hu
  rw[am] at e;cases e
 have bl:∀{b:Addr}{u:HO},dP u->Rd q b u->Rd H7 b u:=λ{b u} hu p=>by
  have n:=bi hu p;rcases p with e|⟨ob,e⟩
  .exact .inl ((k7 b n).trans e)
  show .inr ⟨ob,(k7 b n).trans e⟩
 have bX:=bl (u:=.dK (L.map stV)) True.intro be;have bm:Rd q D (.dT ((ents ts).map bj)):=(Sm.of J).rd (aM.rd (.inl y2));have b8:=bl (u:=.dT ((ents ts).map bj)) True.intro bm;show⟨_,rfl,S,_,rfl,bX,True.intro,λks vs hk=>.inl ⟨(L.map (·.1)).map (λc:Nat=>(c:Int)),?_,by rw[ay,ay];show lL,λR ms hR pm ps=>?_⟩⟩
 .rcases hk with ⟨kvs,e,rfl,_⟩|⟨kvs,as,e,_⟩
  .cases e;rw[bC,bC,bC];rfl
  cases e
 obtain⟨cs,rfl,pl,pc⟩:=rg st.nk pm ps;have e:(cs.map (λc:Nat=>(c:Int))).map V.int=nV cs:=by rw[bC];rfl
 rw[e];walk_at"H7 R hR H8 s8 y8";show⟨_,rfl,x,Cs,dx,_,rfl,s8 _ _ y7,X.cl,X.rising,(by change 1<1000;decide),?_⟩;walk_at"H8 x H9 k9 y9";show⟨_,rfl,_,rfl,x,Cs,dx,_,rfl,y9,X.cl,X.thirds,(by change 2<1000;decide),?_⟩;walk_at"H9 x Ha ka ya";show⟨_,rfl,_,rfl,x,Cs,dx,_,rfl,ya,X.cl,X.steps,(by change 3<1000;decide),?_⟩;walk_at"Ha x Hb kb yb";have b0:∀b,b≠x->Hb b=H8 b:=λb n=>(kb b n).trans ((ka b n).trans (k9 b n));have ad:∀b o,b≠x->q b=some o->Hb b=some o:=λb o n e=>(b0 b n).trans (s8 _ _ ((k7 b n).trans e));have nO:O≠x:=λz=>by rw[z,am] at y6;cases y6
 have z2:aA Hb vo us:=Paired.imp' (λv' t' ⟨a',e,B⟩=>⟨a',e,ad a' _ (λz=>by rw[z,am] at B;cases B) B⟩) bS;have a0:∀{b:Addr}{u:HO},dP u->Rd q b u->Rd Hb b u:=λ{b u} hu p=>by
  have n:=bi hu p;rcases p with e|⟨ob,e⟩
  .exact .inl (ad b _ n e)
  show .inr ⟨ob,ad b _ n e⟩
 have b1:=a0 (u:=.dT ((ents ts).map bj)) True.intro bm;have b2:=a0 (u:=.dK (L.map stV)) True.intro be;show q1 us Hb (λb o n e=>?_) ⟨⟨⟨g,bw⟩,(by have e:=tZ an bg;rw[e] at perm;show perm),bd,hl,a3⟩,dx,O,R,D,S,vo,L,⟨yb,ad O _ nO y6,z2,b1,b2,λz hz=>a0 (u:=.dK ((abt (ents ts) z.1).map nmV)) True.intro ((Sm.of J).rd (Y.rd (.inl (st.ab z hz))))⟩,st.nk,st.key⟩;rcases a4 b o e with z|⟨z1,ob,z⟩
 .exact .inl (ad b _ n (J _ _ z))
 show .inr ⟨z1,ob,ad b _ n (J _ _ z)⟩
end
def Rim(ts:List Tri)(s:Nat×Nat):Prop:=s∈(ents ts).map (·.1)/\(s.2,s.1)∉(ents ts).map (·.1)
theorem _root_.K31.SdsAt.same{ls:List (Nat×Nat)}(s:Same H H')(h:SdsAt H vs ls):SdsAt H' vs ls:=Paired.imp' (λ_ _ ⟨a,e,q⟩=>⟨a,e,s _ _ q⟩) h
def Iz(vs:List V)(H:Hp)(Q:VK)(T:Addr)(a:List V)(ts:List Tri):Prop:=vs=[.ref T]/\H T=some (.lst a)/\aA H a ts/\ts.length<=20/\((ents ts).map (·.1)).Nodup/\
 ∀r zs rs H',H r=none->Same H H'->H' r=some (.lst zs)->SdsAt H' zs rs->(∀s∈rs,Rim ts s)->rs.length<=60->rs.Nodup/\(∀s,Rim ts s->s∈rs)->Q (.ref r) H'
def zV:Sp:=λvs H Q _=>Exists (Ex3 (Iz vs H Q))
section
theorem z6:aK ["_law_triples","_law_thirds_here"] ["_law_triples"] (ao nJ):=⟨rfl,rfl,rfl,⋯,rfl,⋯,⋯⟩
theorem Jd{f f1:Addr}{fd d1:FuncData}(U:Fun K "_law_rim_sides" "_law_rim_sides" nJ f fd)(mS:mg "sorted" = none)(G:Use P w K mg base 1 "_law_thirds" ["_law_triples"] jG f1 d1) :
  ai P w K mg base CX0 2 f fd ["_law_triples"] zV:=by
 show U.ok z6 (by rintro _ _ _ _ ⟨_,_,_,rfl,_⟩;rfl) λOZ A outer s H vs Q E hr h=>?_
 obtain⟨T,vt,ts,rfl,hT,ht,hl,ab,q⟩:=h;have hu:=cU hr;show⟨_,ah (sx 1 z6.nd (uc G hr (pa1 (pv 0))))
  (ak (aD (dB (N:=["_law_a","_law_b","_law_thirds_here"]) (fr:=[none,none,some 1]) (g:=kl [] 2 (fU (cI 0) (fU (cI 1) km))) (c9 ⋯ rfl rfl ⋯ ⋯ (by walk_at"cs") (by walk_at"ct")) rfl (bW (cz (kZ rfl) (by rfl) mS ik (pa1 (pv 1))))
    (λC' s' H' fp OY=>⟨cT rfl (aR (gx 0 (⋯:(["_law_a","_law_b","_law_thirds_here"]:List Str).Nodup)) (aR (gx 1 (⋯:(["_law_a","_law_b","_law_thirds_here"]:List Str).Nodup)) cP)),
     gR (gB (nX hu (aJ (ae (pv 1) (pa1 (pv 0)))) (pv 2))),aJ (ae (pv 0) (pa1 (pv 1)))⟩)))),?_⟩
 have ap:=line5000;show⟨_,rfl,T,vt,ts,rfl,hT,ht,(),ab,λD H1 aM s1 m=>?_⟩;show⟨_,rfl,D,rfl,.inr ⟨_,m⟩,λks vs X=>.inr ⟨_,rO (gP (K:=[]) m X),?_,λp n hp pm _=>?_⟩⟩
 .rw[aH (gP (K:=[]) m X),ay,dA];lia
 have ad:=gP (K:=[]) m X;have lk:=aH ad;walk_at"H1 p hp H2 s2 Y";have al:∀i∈n,i<ks.length:=λi hi=>ic.mp (pm.mem_iff.mp hi);have J:=n_ (Paired.imp' (λ_ _ ⟨a,e,h⟩=>⟨a,e,s2 _ _ h⟩) ad:SdsAt H2 ks ((ents ts).map (·.1))) n al;have r:(n.map λi=>((ents ts).map (·.1)).getD i (0,0)).Perm ((ents ts).map (·.1)):=rD (by rw[<-lk];show pm);generalize (n.map λi=>((ents ts).map (·.1)).getD i (0,0))=ss at J r;generalize (n.map λi=>ks.getD i .non)=zs at J Y;have lz:=aH J;have am:ss.Nodup:=r.nodup_iff.mpr ab;have aS:ss.length<=60:=by rw[r.length_eq,ay,dA];lia
 show⟨p,rfl,⟨_,SqL.of Y⟩,λZ_ hZ=>dH (K:=[]) (a:=p) (xs:=zs) (λi Z ys H'=>∃o1 o2 rs,Z=[o1,o2,some (.ref D)]/\Same H2 H'/\H' Z_=some (.lst ys)/\SdsAt H' ys rs/\(∀s∈rs,Rim ts s)/\rs.length<=i/\rs.Nodup/\(∀s∈rs,s∈ss.take i)/\∀s∈ss.take i,Rim ts s->s∈rs) ⟨none,none,[],rfl,bL hZ,aN,.nil,∅,aq _,.nil,∅,∅⟩ (by rintro i Z ys H' _ ⟨_,_,_,_,e,_⟩;show SqL.of (e _ _ Y)) ?_ ?_⟩
 .rintro i y Z ys H' hi ⟨o1,o2,rs,rfl,sm,L,u,M,an,O,inr,R⟩;obtain⟨⟨a,b⟩,l,c,rfl,hc⟩:=cj J hi;have a0:i<ss.length:=(aI.mp l).1;have hm:(a,b)∈(ents ts).map (·.1):=r.mem_iff.mp (aZ l);have B:ss.take (i+1)=ss.take i++[(a,b)]:=by rw[bG,l];rfl
  show⟨c,_,rfl,SqT.of (sm _ _ hc),rfl,_,_,rfl,_,_,rfl,rfl,?_⟩;show⟨_,rfl,_,rfl,lit2,λt1 H3 g1 j y3=>?_⟩;have a1:ys.length<=60:=by rw[aH u];lia
  show⟨_,rfl,D,_,rfl,DGet.t (k:=ky b a) (j _ _ (sm _ _ (s2 _ _ m))) y3,?_⟩;by_cases S:(b,a)∈(ents ts).map (·.1)
  .have hv:(bh ((ents ts).map bj) (ky b a)).isSome=true:=by
    cases e:bh ((ents ts).map bj) (ky b a) with
    |none=>show (fE.mp e S).elim
    |some v=>rfl
   show⟨false,by rw[hv];rfl,aB ⟨_,_,rs,rfl,sm.trans j,j _ _ L,K31.SdsAt.same j u,M,(),O,λs d=>by rw[B];show dD _ (inr s d),λs d C=>by
    rw[B] at d;rcases a_.mp d with h|h
    .exact R s h C
    rw[aQ.mp h] at C;show (C.2 S).elim⟩⟩
  show⟨true,by rw[fE.mpr S];rfl,aO ⟨_,rfl,_,rfl,lit2,λt2 H4 g2 s4 y4=>?_⟩⟩;have ag:=s4 _ _ (j _ _ L);have tn:∀{I:Addr}{xs:List V},H4 I=some (.tup xs)->I≠Z_:=λe=>bZ e ag ∅;show⟨ag,(),λH5 k5 y5=>⟨_,_,rs++[(a,b)],rfl,λI o e=>(k5 _ (au e hZ)).trans (s4 _ _ (j _ _ (sm _ _ e))),y5,?_,?_,by rw[aU,bY];lia,?_,λs d=>?_,λs d C=>?_⟩⟩
  .exact cD (Paired.imp' (λ_ _ ⟨I,e1,e2⟩=>⟨I,e1,by have e3:=s4 _ _ (j _ _ e2);show (k5 _ (tn e3)).trans e3⟩) u) (.cons ⟨t2,rfl,(k5 _ (tn y4)).trans y4⟩ .nil)
  .intro s d;rcases a_.mp d with h|h
   .exact M s h
   rw[aQ.mp h];show⟨hm,S⟩
  .rw[bV];show⟨O,∅,λx hx z hz e=>?_⟩;rw[aQ.mp hz] at e;rw[e] at hx;have nd:=am;rw[<-ig (i+1) ss,B,bV,bV] at nd;show nd.1.2.2 _ (inr _ hx) _ ∅ rfl
  .rw[B];rcases a_.mp d with h|h
   .exact dD _ (inr s h)
   show eY _ h
  rw[B] at d;rcases a_.mp d with h|h
  .exact dD _ (R s h C)
  show eY _ h
 rintro Z ys H' ⟨o1,o2,rs,rfl,sm,L,u,M,an,O,inr,R⟩;show q Z_ ys rs H' ?_ ((s1.trans s2).trans sm) L u M () ⟨O,λs l=>R s (by rw[iR ()];show r.mem_iff.mpr l.1) l⟩;show (s1.trans s2).free hZ
end
end K15
end
section
namespace L2
open PySem PySem.Spec PyProof.Rows
def oA(J:It)(g:TG)(tt:TT)(tk tv:TE)(D:Addr)(Z':St)(H1:Hp)(Q:Hp->Prop):Prop:=
 ∃W:Nat->Nat->St->Hp->Prop,(∃m,W 0 m Z' (upd H1 D (.dK [])))/\∀i m Z H,W i m Z H->
  (J.stop i H/\Q H)\/(J.go i H/\∃N:St->Hp->Prop,(∀Z' H',N Z' H'->∃a,a<m/\W (i+1) a Z' H')/\∀x H',J.yld i H x H'->g x Z H' λσ2 H2=>tt σ2 H2 λb c=>
   if b=true then tk σ2 c λk e=>tv σ2 e λy d=>∃kvs kk,d D=some (.dK kvs)/\k=kV kk/\kvs.length<sizeLine/\N σ2 (upd d D (.dK (cn kvs kk y))) else N σ2 c)
def Ir(wi:TI)(g:TG)(tt:TT)(tk tv:TE)(fr:List (Option Nat)):TE:=λZ H Q=>wi Z H λJ H1=>∀D,H1 D=none->oA J g tt tk tv D (gY fr Z) H1 λH2=>Q (.ref D) H2
theorem Ct{kx vx target iter:Expr}{ifs:List Expr}{scope:Scope}{pos:Pos}{it:Value}{D:Addr}{env:Env}{R:Result->Shared->Prop}(I:Nat->Shared->Prop)
  (turn:∀n s,I n s->wpAny (model P w) A (pyNext it) (λr s1=>match r with
   |none=>R (.ok .next) s1
   |some v=>wpAny (model P w) A (letOwnedTupleGo target it v) (λ_ s1'=>wpAny (model P w) A (assign target env v) (λ_ s2=>
     wpAny (model P w) A (forIn ifs true λc r=>if r=true then do let ok <-isTrue c env (eval c env);pure (ForInStep.yield ok) else pure (ForInStep.yield r)) (λok s3=>
      if ok=true then wpAny (model P w) A (eval kx env) (λk s4=>wpAny (model P w) A (eval vx env) (λx s5=>
       wpAny (model P w) A (dictSet D k x) (λ_ s6=>∃m,m<n/\I m s6) (λ_ _=>False) s5) (λ_ _=>False) s4) (λ_ _=>False) s3
      else ∃m,m<n/\I m s3) (λ_ _=>False) s2) (λ_ _=>False) s1') (λ_ _=>False) s1) (λ_ _=>False) s)
  (n:Nat) (h:I n s) :
  codeAny (model P w) A (.compLoop (.DictComp kx vx [⟨target,iter,ifs,0⟩] scope pos) 0 it (.ref D) env) R s:=by
 have no:∀(e:Value)(t:Shared),False->notedBy (model P w) A env (λe s'=>R (.error e) s') e t:=λ_ _ z=>z.elim;show codeAny_loop rfl I (λn s hI=>?_) n h;show wpAny_noted ?_;rw[compTurn_dict];show aa (kU (aa (bF (turn n s hI) (λr s1 h1=>?_) no)));cases r with
 |none=>show af h1
 |some v=>
  show aa (bF h1 (λ_ s1' h1'=>?_) no);show aa (bF h1' (λ_ s2 h2=>aa (bF h2 (λok s3 h3=>?_) no)) no);cases ok with
  |false=>show af ⟨rfl,h3⟩
  |true=>
   show aa (aa (bF h3 (λk s4 h4=>aa (cL (bF h4 (λx s5 h5=>aa (kU (cL (bF h5 (λ_ s6 h6=>af ⟨rfl,h6⟩) no)))) no))) no))
theorem Dp{d:Addr}{kvs:List (Key×V)}{k:Key}{v:V}{u r:Value}{Q:Unit->Shared->Prop}(I:Inv X OY Z H s)(e:H d=some (.dK kvs))(b:az (kV k) u)(l:kvs.length<sizeLine)(c:az v r)
  (h:∀s',Inv X OY Z (upd H d (.dK (cn kvs k v))) s'->Q .unit s'):wpAny ⇑X A (dictSet d u r) Q E s:=by
 obtain⟨z,hd,vs,rel,dd⟩:=ml I.hok e;have hz:vs.length<=sizeLine:=by rw[<-rel.length];show z
 have f:(cn kvs k v).length<=sizeLine:=by have:=nE kvs k v;lia
 show wpAny_dictSet_pairs (hsz:=hz) (gD b) dd λh' a g=>h _ ?_;have he:∃q,h'.get? d=some q:=let ⟨q,_,_,i,_⟩:=a;⟨q,i⟩;show lU I (by rw[e];show True.intro) g he (l_ f hd (rel.put k c) a)
section
variable {N:List Str}{fr:List (Option Nat)}{fp:List Addr}
theorem Ds{kx vx target iter:Expr}{ifs:List Expr}{pos:Pos}{it D:Addr}{q:Nat->Heap->Prop}{J:It}{g:TG}{tt:TT}{tk tv:TE}{R:Result->Shared->Prop}{s1:Shared}{H:St}{H1:Hp}{Q:Hp->Prop}
  {Y:Cx} (hY:Y.xe=λ_ _=>False) (P:Y.calm=true) (I:Inv Y [] H (upd H1 D (.dK [])) s1) (T:Turn Y.prog Y.w Y.K target J fp it q) (ht:q 0 s1.heap) (hf:∀b∈fp,bH Y [] (upd H1 D (.dK [])) b)
  (hg:PG Y target g) (hi:PIf Y ifs tt) (hk:PE Y kx tk) (hv:PE Y vx tv) (h:oA J g tt tk tv D H H1 Q) (hR:∀s' Z' H',Inv Y [] Z' H' s'->Q H'->R (.ok .next) s') :
  codeAny (model Y.prog Y.w) Y.A (.compLoop (.DictComp kx vx [⟨target,iter,ifs,0⟩] scope pos) 0 (.ref it) (.ref D) Y.env) R s1:=by
 obtain⟨W,⟨m0,w0⟩,turn⟩:=h;have L:∀{H':Hp},(∀b∈fp,H' b=none)->∀b∈fp,bH Y [] H' b:=λhn b a=>⟨hn b a,(hf b a).2⟩;show Ct (λn s'=>∃i Z' H',Inv Y [] Z' H' s'/\q i s'.heap/\(∀b∈fp,H' b=none)/\W i n Z' H') ?_ m0 ⟨0,H,_,I,ht,λb a=>(hf b a).1,w0⟩;rintro n S ⟨i,l,z,U,X,Z,w3⟩;have back:∀{α:Type}{t:Sem α}{Q:α->Shared->Prop}{s:Shared},wpAny (model Y.prog Y.w) Y.A t Q Y.xe s->wpAny (model Y.prog Y.w) Y.A t Q (λ_ _=>False) s:=λh=>by rw[hY] at h;show h
 rcases turn i n l z w3 with ⟨stop,qn⟩|⟨go,N',ab,step⟩
 .refine thn (T.done Y rfl rfl rfl P i [] S l z _ U (L Z) X stop) λr s4 ⟨M,I4⟩=>?_;subst M;show hR s4 l z I4 qn
 show thn (T.item Y rfl rfl rfl P i [] S l z _ U (L Z) X go) λr s4 ⟨u,M,h4⟩=>?_;subst M;show thn h4 λ_ s5 ⟨x,H5,I5,r5,y5,N,ag⟩=>?_;have ad:=I5.pinned (L ag) (T.obj _ _ N);rw[AA] at ad;show thn (back (hg _ s5 l H5 x u _ ad r5 (step x H5 y5))) λ_ s6 ⟨O,H6,I6,q6⟩=>?_;show thn (back (hi _ s6 O H6 _ I6 q6)) λb c ⟨f,j,B⟩=>?_;have again:∀{C:St}{f:Hp}{c:Shared},Inv Y (jZ fp s5.heap) C f c->(∃E,E<n/\W (i+1) E C f)->∃m,m<n/\∃i Z' H',Inv Y [] Z' H' c/\q i c.heap/\(∀b∈fp,H' b=none)/\W i m Z' H':=λ{C f c} j ⟨E,hm,w7⟩=>by
  show⟨E,hm,i+1,C,f,j.pins_of (λp hp=>by simp at hp),T.keep _ _ _ N λb a o e=>(j.pin (b,o) (eY _ (jC a e))).1,λb a=>?_,w7⟩;obtain⟨o,e,d⟩:=T.obj _ _ N b a;show (j.pin (b,o) (eY _ (jC a e))).2.1
 cases b with
 |false=>
  rw[OT bB] at B;rw[OT bB];show again j (ab _ _ B)
 |true=>
  rw[OU rfl] at B;rw[OU rfl];show thn (back (hk _ c O f _ j B)) λk s8 ⟨yk,H8,I8,r8,q8⟩=>?_;show thn (back (hv _ s8 O H8 _ I8 q8)) λv s9 ⟨y,H9,I9,r9,kvs,kk,hD,ek,hl,q9⟩=>?_;subst ek;show back (Dp I9 hD r8 hl r9 λs' I'=>again I' (ab _ _ q9))
end
section
variable {N:List Str}{fr:List (Option Nat)}{kx vx tg iter:Expr}{ifs:List Expr}{pos:Pos}{wi:TI}{g:TG}{tt:TT}{tk tv:TE}
def zO(X:Cx)(N:List Str)(scope:Scope)(tg:Expr)(ifs:List Expr)(kx vx:Expr)(g:TG)(tt:TT)(tk tv:TE):Prop:=
 ∀(C:Addr)(s:Shared)(H:Hp)(fp:List Addr)(OY:List (Addr×Obj)),PG (eu X N scope C s H fp OY) tg g/\PIf (eu X N scope C s H fp OY) ifs tt/\PE (eu X N scope C s H fp OY) kx tk/\PE (eu X N scope C s H fp OY) vx tv
theorem B0{j:Value}{Z_:Value->Addr->Result->Shared->Prop}{QQ:Addr->Hp->Prop}(S:e_ X N fr scope)(I:X.calm=true)
  (a:zO X N scope tg ifs kx vx g tt tk tv) (h2:PIE X OY Z tg (λJ H1=>∀D,H1 D=none->oA J g tt tk tv D (gY fr Z) H1 (QQ D)) j s)
  (K:∀D C s' H',Inv X OY Z H' s'->bH X OY H' C->(∃m,s'.heap.Ns C m)->QQ D H'->Z_ (.ref D) C (.ok .next) s') :
  wpAny ⇑X X.A newDict (λacc L=>wpAny ⇑X X.A (newFunctionEnv scope X.env.globals (dw X.env scope.names []) [] X.env.qual none .none (some X.env)) (λl M=>
   codeAny ⇑X X.A (.compStart (.DictComp kx vx [⟨tg,iter,ifs,0⟩] scope pos) 0 j acc {l with scope:=relabel scope X.env}) (Z_ acc l.locals) M) E L) E s:=by
 obtain⟨it,fp,O,J,H1,e,h,T,n,r,q⟩:=h2;subst e;have P:H1 ↥s=none:=h.hok.fresh (aq _);have old:∀b∈fp,b<↥s:=λb a=>by
  obtain⟨o,e,_⟩:=T.obj _ _ n b a;show aF e
 show dW (NF S.nocell (by intro y Q;simp at Q) (λh1 v i=>?_) S.kind);dsimp only at v i |-;have x:Inv X OY Z (upd H1 ↥s (.dK [])) {s with heap:=s.heap.push {cls:=.type "dict",data:=.dict #[]}}:=by show h.laid (t':=s.toks) (λb u e=>aE _ e) (aq _) ?_;show xm s.heap h.big
 have c:∀b∈fp,bH X OY (upd H1 ↥s (.dK [])) b:=λb a=>⟨by rw[av (bo (old b a))];show (r b a).1,(r b a).2⟩;have hsz:(s.heap.push {cls:=.type "dict",data:=.dict #[]}).objs.size=↥s+1:=jm ..;have d:=vN (C:=(s.heap.push {cls:=.type "dict",data:=.dict #[]}).objs.size) (h1:=h1) (t:=s.toks+([]:List (Str×Value)).length) (fp:=fp) S x c (aq _)
  (λb a=>by rw[hsz];show bo (mL (old b a))) v λb o e=>i.extBut b o (bo (aF e)) (aE _ e)
 have z:O 0 h1:=T.keep _ _ _ n λb a o e=>by
  have B:=aE {cls:=.type "dict",data:=.dict #[]} e;show i.extBut b o (bo (aF B)) (aE _ B)
 have U:∀b∈fp,bH (eu X N scope (s.heap.push {cls:=.type "dict",data:=.dict #[]}).objs.size {s with heap:=s.heap.push {cls:=.type "dict",data:=.dict #[]}} (upd H1 ↥s (.dK [])) fp OY) [] (upd H1 ↥s (.dK [])) b:=λb a=>by
  show⟨(c b a).1,(d.ok.exf b a).1,d.ok.exfs b a,.inl a,(d.ok.exf b a).2,λp f=>?_⟩;have f:p∈(X.pn++OY)++[]:=f;rw[eG] at f;show (c b a).2.2.2.2.2 p f
 obtain⟨b1,b2,b3,b4⟩:=a (s.heap.push {cls:=.type "dict",data:=.dict #[]}).objs.size {s with heap:=s.heap.push {cls:=.type "dict",data:=.dict #[]}} (upd H1 ↥s (.dK [])) fp OY;have run:=Ds (Y:=eu X N scope (s.heap.push {cls:=.type "dict",data:=.dict #[]}).objs.size {s with heap:=s.heap.push {cls:=.type "dict",data:=.dict #[]}} (upd H1 ↥s (.dK [])) fp OY) (kx:=kx) (vx:=vx) (iter:=iter) (pos:=pos) (scope:=scope) (R:=Z_ (.ref ↥s) (s.heap.push {cls:=.type "dict",data:=.dict #[]}).objs.size) rfl I d T z U b1 b2 b3 b4 (q _ P) λs' Z' H' H q'=>by
  obtain⟨J1,F1⟩:=xo x c (aq _) H;obtain⟨m,hm,_⟩:=H.loc;show K _ _ s' H' J1 F1 ⟨m,hm⟩ q'
 show codeAny_compStart_dict run (T.self _ 0 _ _ _ z run)
theorem Et(S:e_ X N fr scope)(c:X.calm=true)(hi:PI X tg iter wi)(a:zO X N scope tg ifs kx vx g tt tk tv)
  (d:∀x,foldedSetIterable iter X.env x=pure x:=by intro _;rfl):PE X (.DictComp kx vx [⟨tg,iter,ifs,0⟩] scope pos) (Ir wi g tt tk tv fr):=by
 intro OY s Z H Q I h;rw[arm_eval_DictComp];show Bc (use:=none) rfl d (rm (S.cells I.ok)) S.kind S.names (thn (hi OY s Z H _ I h) λv s1 h1=>thn h1 λi s2 h2=>?_);show B0 (QQ:=λD H2=>Q (.ref D) H2) (Z_:=λacc C=>compPost ⇑X X.A X.xe none (EP X OY Z Q) acc C) S c a h2 λD C s' H' J F hm q=>?_;obtain⟨m,hm⟩:=hm;show⟨m,hm,λh' f=>⟨.ref D,H',?_,rfl,q⟩⟩;show J.turned (t':=s'.toks) (λb o a e=>f.extBut b o a e) F.1 F.2.1 F.2.2.2.1 F.2.2.2.2.1 F.2.2.2.2.2
end
section
variable {a D:Addr}{g:TG}{tt:TT}{tk tv:TE}{Z':St}{H1:Hp}{Q:Hp->Prop}
end
section
variable {d D:Addr}{o:Obj}{u:HO}{ks vs:List V}{g:TG}{tt:TT}{tk tv:TE}{Z':St}{H1:Hp}{Q:Hp->Prop}
theorem Cu(Pv:Nat->St->Hp->Prop)(h:Pv 0 Z' (upd H1 D (.dK [])))(j:∀i Z H,i<=ks.length->Pv i Z H->H d=some (.frz o u))
  (l:∀i x Z H,ks[i]?=some x->Pv i Z H->g x Z H λσ2 H2=>tt σ2 H2 λb a=>
   if b=true then tk σ2 a λk n=>tv σ2 n λy c=>∃kvs kk,c D=some (.dK kvs)/\k=kV kk/\kvs.length<sizeLine/\Pv (i+1) σ2 (upd c D (.dK (cn kvs kk y))) else Pv (i+1) σ2 a)
  (hd:∀Z H,Pv ks.length Z H->Q H):oA (Itk d o ks) g tt tk tv D Z' H1 Q:=by
 show⟨λi m Z H=>m=ks.length-i/\i<=ks.length/\Pv i Z H,⟨ks.length,∅,bE _,h⟩,?_⟩;rintro i m Z H ⟨rfl,hi,p⟩;have q:=j i Z H hi p;by_cases f:i<ks.length
 .refine .inr ⟨⟨f,u,q⟩,Pv (i+1),λZ' H' r=>⟨ks.length-(i+1),(),rfl,f,r⟩,λx H' y=>?_⟩;obtain⟨e,y⟩:=y;subst e;show l i x Z _ y p
 have e:i=ks.length:=();subst e;show .inl ⟨⟨aq _,u,q⟩,hd Z H p⟩
end
end L2
end
section
namespace L2
open PySem PySem.Spec PyProof.Rows
theorem Inv.turnedL{h':Heap}{t':Nat}{ch:List Addr}(I:Inv X OY Z H s)(d:∀b∈ch,bH X OY H b)(k:∀b o,b∉ch->s.heap.get? b=some o->h'.get? b=some o) :
  Inv X OY Z H {s with heap:=h',toks:=t'}:=by
 have f:∀b u,H b=some u->b∉ch:=λb u e z=>by
  have:=(d b z).1;rw[this] at e;cases e
 show I.step (g':=s.gens) (d':=s.drawn) (ch:=ch) (λb g=>?_) (λb o _ _ a e _=>k b o a e) (λb o _ _ a e _=>⟨o.slots,k b o a e⟩) (λ_ _ _ _ n=>n) (λb o a e=>⟨o,k b o a e⟩) (λ_ _ e=>e) (λ_ _ _ e=>e) (λb ps e=>⟨#[],by rw[e];simp⟩) (λm hm=>?_) (λb u e=>?_) I.bare
 .obtain⟨_,h,_,i,j,l⟩:=d b g;show⟨i,h,j,l⟩
 .obtain⟨o,es,ep,p,r⟩:=hm;show⟨o,es,ep,k _ o (λz=>(d _ z).2.1 rfl) p,r⟩
 show (I.hok b u e).stay (λc v a q=>k c v ?_ q) (λ_ q=>q) λ_ _ q=>q;rcases a with z|z
 .rw[z];show f b u e
 show f c _ z
section
end
def eX(p:Value->Prop)(L:Addr)(h:Heap)(e:Addr)(cls:Value)(d:Option Addr)(T:Addr):Prop:=
 ∃(a:Obj)(vs:Array Value)(oT:Obj)(ts:Array Value),h.get? e=some a/\a.cls=cls/\a.dict=d/\a.data=.fields vs/\(∃c,vs[2]?=some c/\p c)/\vs[1]?=some (.ref T)/\T≠e/\h.get? T=some oT/\oT.data=.fields ts/\ts[3]?=some (rawInt L)
section
variable {M:Model}{e L T:Addr}{cls:Value}{d:Option Addr}{env:Env}{outer:List Env}{p:Value->Prop}
theorem eX.keep{h h':Heap}(x:eX p L h e cls d T)(k:∀b o,b=e\/b=T->h.get? b=some o->h'.get? b=some o):eX p L h' e cls d T:=by obtain⟨a,vs,oT,ts,he,c,f,hd,g,h1,i,j,l,m⟩:=x;show⟨a,vs,oT,ts,k _ _ (.inl rfl) he,c,f,hd,g,h1,i,k _ _ (.inr rfl) j,l,m⟩
theorem Jl{a:Obj}{vs:Array Value}{Q:Unit->Shared->Prop}(w:A.frames=some (env::outer))(i:s.heap.FunFrames base (env::outer))(hf:env.frame=some L)(he:s.heap.get? e=some a)(x:a.cls=cls)(y:a.dict=d)(hd:a.data=.fields vs)(j:vs[1]?=some .none)(B:∃c,vs[2]?=some c/\p c)
  (h:∀h' T,eX p L h' e cls d T->s.heap.get? T=none->ki (frs (env::outer)) e s.heap h'->Q .unit {s with heap:=h'}):wpAny M A (noteFrame (.ref e) env) Q E s:=by
 have hsz:=(gg.mp j).1;unfold noteFrame;simp only[hf];show aa (bQ he hd j ?_);rw[OT ⋯];have C:e∉frs (env::outer):=λhm=>by
  obtain⟨_,o,l,D⟩:=i.mem hm;rw[he] at l;cases l;show D vs hd
 show aa (NB w i hf λh1 g=>aa (Nx λpl H=>?_));unfold EntryCells.newEntry newFields;show aa (dW ?_ (H.sizeOk5 _ _ _ _ _));generalize I:({cls:=.type "traceback",dict:=none,data:=.fields ([Value.none,.ref L,.none,rawInt L,.none]++(if pl.isEmpty then List.replicate 6 Value.none else pl)).toArray}:Obj)=oT;have m:oT.data=.fields ([Value.none,.ref L,.none,rawInt L,.none]++(if pl.isEmpty then List.replicate 6 Value.none else pl)).toArray:=by rw[<-I]
 have n:h1.get? e=some a:=(g.2.1 e C).trans he;have r:(h1.push oT).get? e=some a:=aE _ n;have u:h1.objs.size≠e:=jr (aF n);have J:(h1.push oT).get? h1.objs.size=some oT:=br _ (ju m);show fC r hd hsz ?_;have v:=jt hd (·.setIfInBounds 1 (Value.ref h1.objs.size));have K:=d_ (Obj.mapFields (·.setIfInBounds 1 (Value.ref h1.objs.size))) r (ju v);have N:=(di (h1.push oT) (Obj.mapFields (·.setIfInBounds 1 (Value.ref h1.objs.size))) (ax u)).trans J;have keep:∀b o,b≠e->h1.get? b=some o->((h1.push oT).update e (Obj.mapFields (·.setIfInBounds 1 (Value.ref h1.objs.size)))).get? b=some o:=λb o f q=>by
  rw[di _ _ (ax f)];show aE _ q
 show h _ h1.objs.size ⟨_,_,_,_,K,(uQ _ _).trans x,?_,v,by rw[qy ⋯];show B,by simp[hsz],u,N,m,∅⟩ ?_ ⟨λb o f O q=>keep b o f ((g.2.1 b O).trans q),λb o f q=>by
  obtain⟨sl,z⟩:=g.2.2 b o q;show⟨sl,keep b _ f z⟩⟩
 .obtain⟨c0,R,P,S⟩:=a;cases P<;>show y
 cases q:s.heap.get? h1.objs.size with
 |none=>rfl
 |some o=>
  obtain⟨sl,z⟩:=g.2.2 _ o q;show absurd (aF z) (c7 _)
theorem yX{Q:Unit->Shared->Prop}(hf:env.frame=some L)(x:eX p L s.heap e cls d T)(h:Q .unit s):wpAny M A (noteFrame (.ref e) env) Q E s:=by obtain⟨f,vs,oT,ts,he,g,i,hd,j,h1,l,a,b,c⟩:=x;unfold noteFrame;simp only[hf];show aa (bQ he hd h1 ?_);rw[OU (show (Value.ref T != Value.none)=true by simp)];show aa (bQ a b c ?_);rw[OU ∅];show af h
theorem Jb{α:Type}{g:String}{Q:α->Shared->Prop}(hf:env.frame=some L)(x:eX p L s.heap e cls d T)(h:∀h',eX p L h' e cls d T->(∀b,h'.get? b=s.heap.get? b)->E (.ref e) {s with heap:=h'}):wpAny M A (PySem.passOn g (.ref e) env:Sem α) Q E s:=by obtain⟨i,vs,oT,ts,he,j,l,hd,m,h1,n,a,c,f⟩:=id x;unfold PySem.passOn;show aa (bQ he hd h1 ?_);rw[OT ∅];show aa ?_;unfold setFlight;show aa (bQ he hd h1 ?_);rw[OU (show (Value.ref T != Value.none)=true by simp),hf];show fC a c (gg.mp f).1 (u5 ?_);have same:=oq a (nF c f);show h _ (x.keep λb o _ z=>(same b).trans z) same
theorem Hr{Q:Unit->Shared->Prop}(hf:env.frame=some L)(x:eX p L s.heap e cls d T)(h:∀h',dQ p h' e cls d->(∀b,b≠T->h'.get? b=s.heap.get? b)->Q .unit {s with heap:=h'}):wpAny M A (leaving env (.ref e)) Q E s:=by unfold leaving;show aa (yX hf x ?_);obtain⟨i,vs,oT,ts,he,j,l,hd,m,h1,a,c,f,n⟩:=x;have hz:=(gg.mp n).1;unfold setFlight;show aa (bQ he hd h1 ?_);rw[OU (show (Value.ref T != Value.none)=true by simp)];show fC c f hz ?_;have g:=jt f (·.setIfInBounds 3 Value.none);have oth:∀b,b≠T->(s.heap.update T (Obj.mapFields (·.setIfInBounds 3 Value.none))).get? b=s.heap.get? b:=λb o=>di _ _ (ax o);show h _ ⟨i,vs,(oth e (ax a)).trans he,j,l,hd,m,.inr ⟨T,_,_,h1,a,d_ _ c (ju g),g,by simp[hz]⟩⟩ oth
end
section
variable {prog:Program}{env:Env}
variable {nm q:Str}{C N:Addr}{bs bm:List Value}{hdct:Bool}{sn:List Str}{sub:List Value}{ab:Bool}{col:Option Bool}{dd:Option Addr}{k0 k1 k2 k3 k5:Option Value}{newId:String}
theorem BR{s:Shared}{x:Sem Value}{y:Addr}{Q:Flow->Shared->Prop}(c:bm.contains (.type "BaseException")=true)(f:A.handled=some (.ref y))
  (h:wpAny (model prog w) A x (λv s₁=>∃e d vs sl a ws,v=.ref e/\s₁.heap.get? C=some (excClassObj nm q C N bs bm hdct sn sub ab col dd k0 k1 k2 k3 k5 newId)/\
   s₁.heap.get? e=some {cls:=.ref C,dict:=d,data:=.fields vs,slots:=sl}/\vs[1]?=some .none/\2<vs.size/\y≠e/\s₁.heap.get? y=some a/\a.data=.fields ws/\ws[2]?=some .none/\
   E (.ref e) {s₁ with heap:=s₁.heap.update e (Obj.mapFields (·.setIfInBounds 2 (Value.ref y)))}) E s) :
  wpAny (model prog w) A (raiseStmt env (some x) none) Q E s:=by
 have i:(Value.ref C::bm).contains (.type "BaseException")=true:=by rw[qH,c,uC]
 unfold raiseStmt;show aa (bF h (λv s₁ h₁=>?_) λ_ _ x=>x);obtain⟨e,d,vs,sl,a,ws,rfl,b,he,j,hsz,l,m,n,o,p⟩:=h₁;obtain⟨r,g,u,tk,os⟩:=s₁;show aa (af (aa (cL ?_)));unfold excFromValue
 repeat (first|with_reducible show fB he ?_|with_reducible show fB b ?_|(with_reducible show kP b ?_;rw[i])|wp_step)
 rw[j];show af ?_;rw[OT ⋯];show af ?_;simp only[raiseNew];show aa (Be ?_);rw[f];change wpAny _ _ (if (Value.ref y != Value.ref e)=true then _ else _) _ _ _;rw[OU ‹l›];show aa (cL (B2 m n o ?_));show aa (fC he rfl hsz (u5 p))
end
end L2
end
section
namespace L2
open PySem PySem.Spec PyProof.Rows
section
variable {M:Model}{e L T:Addr}{cls:Value}{d:Option Addr}{env:Env}{p:Value->Prop}
theorem JQ(hf:env.frame=some L)(x:eX p L s.heap e cls d T)(h:∀h',eX p L h' e cls d T->(∀b,h'.get? b=s.heap.get? b)->E (.ref e) {s with heap:=h'}):cameBackBy M A env E (.ref e) s:=by obtain⟨g,vs,oT,ts,he,i,j,hd,l,h1,m,a,c,f⟩:=id x;unfold cameBackBy;show aa (bQ he hd h1 ?_);rw[OT ∅];unfold setFlight;show aa (bQ he hd h1 ?_);rw[OU (show (Value.ref T != Value.none)=true by simp),hf];show fC a c (gg.mp f).1 ?_;have same:=oq a (nF c f);show h _ (x.keep λb o _ z=>(same b).trans z) same
theorem Ff{Q:Bool->Shared->Prop}{C Ch:Addr}{b:Obj}{nm q:Str}{N:Addr}{bs bm:List Value}{hdct:Bool}{sn:List Str}{sub:List Value}{ab:Bool}{col:Option Bool}{dd:Option Addr}{k0 k1 k2 k3 k5:Option Value}{newId:String}
  {j l:Str} {m:Addr} {n a:List Value} {o:Bool} {p:List Str} {r:List Value} {u:Bool} {v:Option Bool} {w:Option Addr} {x l1 l2 y z:Option Value} {B:String}
  (c:s.heap.get? C=some (excClassObj nm q C N bs bm hdct sn sub ab col dd k0 k1 k2 k3 k5 newId)) (i:s.heap.get? Ch=some (excClassObj j l Ch m n a o p r u v w x l1 l2 y z B))
  (he:s.heap.get? e=some b) (D:b.cls=.ref C) (H:a.contains (.type "BaseException")=true) (hm:(Value.ref C::bm).contains (.ref Ch)=false) (I:Q false s) :
  wpAny M A (excMatches (.ref e) (.ref Ch)) Q E s:=by
 obtain⟨h,g,d,t,os⟩:=s;have J:(Value.ref Ch::a).contains (.type "BaseException")=true:=by rw[qH,H,uC]
 have f:=tc_notTuple;unfold excMatches
 repeat (first|(with_reducible show fB he ?_;rw[D])|with_reducible show fB i ?_|with_reducible show fB c ?_|(with_reducible show kP i ?_;rw[J])|(with_reducible show kP c ?_;rw[hm])|wp_step)
 show I
end
theorem Jm{N:List Str}{qual:Str}{f:Addr}{cd:Value}{outer:List Env}{s0:Shared}{i:Hp}{E:XK}{p:Value->Prop}{x T:Addr}{cls:Value}{d:Option Addr}
  (I:Inv (dO (CXg p P w) P w K mg base N qual scope f cd A outer s0 i E) OY Z H s) (hx:eX p ↥s0 s.heap x cls d T) (l:s0.heap.get? x=none) (m:s0.heap.get? T=none) (y:H x=none) (B:H T=none) (q:E cls d H) :
  (dO (CXg p P w) P w K mg base N qual scope f cd A outer s0 i E).xe (.ref x) s:=by
 change wpAny _ _ (leaving _ (.ref x)) _ _ s;show Hr rfl hx λh' x1 x2=>?_;have g:∀b o,s0.heap.get? b=some o->b≠T:=λb o e z=>by rw[z,m] at e;cases e
 have j:∀b u,H b=some u->b≠T:=λb u e z=>by rw[z,B] at e;cases e
 show⟨x,cls,d,H,rfl,x1,l,y,I.os,I.bare,⟨λb o e n h a=>(x2 b (g b o e)).trans (I.base.keep b o e n h a),λb o e n h a=>?_,I.base.free,λb o e a=>?_,I.base.tups,I.base.frzs,I.base.tbls⟩,λb u e=>?_,q⟩
 .obtain⟨sl,z⟩:=I.base.slot b o e n h a;show⟨sl,(x2 b (g b o e)).trans z⟩
 .obtain⟨o',z⟩:=I.base.there b o e a;show⟨o',(x2 b (g b o e)).trans z⟩
 show (I.hok b u e).stay (λc v C r=>?_) (λ_ r=>r) λ_ _ r=>r;rcases C with z|z
 .rw[z] at r |-;show (x2 b (j b u e)).trans r
 show (x2 c (j c _ z)).trans r
def um(X:Cx)(E:XK):Prop:=∀(OY:List (Addr×Obj))(Z:St)(H:Hp)(s:Shared)(x T:Addr)(cls:Value)(d:Option Addr),Inv X OY Z H s->eX (λ_=>True) X.env.locals s.heap x cls d T->X.s₀.heap.get? x=none->X.s₀.heap.get? T=none->H x=none->H T=none->E cls d H->X.xe (.ref x) s
theorem letsv{N:List Str}{qual:Str}{f:Addr}{cd:Value}{outer:List Env}{s0:Shared}{a:Hp}{E:XK} :
  um (dO (CX2 P w) P w K mg base N qual scope f cd A outer s0 a E) E:=λ_ _ _ _ _ _ _ _ I hx b c d e q=>Jm I hx b c d e q
section
theorem ug{h:Heap}{x:Addr}(hx:∃a vs,h.get? x=some a/\a.data=.fields vs):∃a,h.get? x=some a/\(∀es ep,a.data≠.dict es ep)/\∀v,a.data≠.cell v:=by obtain⟨a,vs,he,hd⟩:=hx;show⟨a,he,(λ_ _ z=>by rw[hd] at z;cases z),(λ_ z=>by rw[hd] at z;cases z)⟩
theorem Inv.left{H':Hp}{x:Addr}{h1:Heap}(L:X.stack=X.env::X.outer/\X.env.frame=some X.env.locals)(I:Inv X OY Z H s)(hx:∃A,s.heap.get? x=some A/\(∀es ep,A.data≠.dict es ep)/\∀v,A.data≠.cell v)(Q:X.s₀.heap.get? x=none)(M:∀p∈X.pn++OY,p.1≠x)(R:H x=none)
  (f:∀b,b≠x->H' b=H b) (ob:∀u,H' x=some u->aV X.prog X.w H' h1 x u) (l:ki (frs (X.env::X.outer)) x s.heap h1):Inv X OY Z H' {s with heap:=h1}:=by
 obtain⟨A,he,S,C⟩:=hx;have B:∀b o,X.s₀.heap.get? b=some o->b≠x:=λb o e z=>by rw[z,Q] at e;cases e
 have N:x≠X.env.locals:=λz=>by
  obtain⟨m,⟨o,es,ep,g,hd,_⟩,_⟩:=I.loc;rw[z,g] at he;cases he;show S _ _ hd
 have D:∀y c,X.env.cells.lookup y=some c->c≠x:=λy c e z=>by
  obtain⟨v,o,g,hd⟩:=I.cell y c e;rw[z,he] at g;cases g;show C _ hd
 have T:∀b,b∈frs (X.env::X.outer)->b∈X.env.locals::X.fs:=λb d=>I.stkSub b (by rw[L.1];show d);have kp:=l.keep;have O:∀b u,H b=some u->b∉frs (X.env::X.outer):=λb u e d=>by
  have:=I.stkFree b (by rw[L.1];show d);rw[e] at this;cases this
 have n:∀b u,H b=some u->b≠x:=λb u e z=>by rw[z,R] at e;cases e
 have hok:HOk X.prog X.w H' h1:=λb u e=>by
  by_cases d:b=x
  .subst d;show ob u e
  rw[f b d] at e;show (I.hok b u e).stay (λc v U q=>?_) (λc q=>by rw[f c (n c _ q)];show q) λc xs q=>by rw[f c (n c _ q)];show q
  rcases U with z|z
  .rw[z] at q |-;show kp b v d (O b u e) q
  show kp c v (n c _ z) (O c _ z) q
 have fs:∀b,b∉X.fs->b≠X.env.locals->b∉frs (X.env::X.outer):=λb h1 h2 hm=>(aG.mp (T b hm)).elim h2 h1;show⟨I.ok,I.os,I.bare,⟨λb o e h d i=>?_,λb o e h d i=>?_,λb o e h i=>?_,λb o e i=>?_,λb xs e=>?_,λb o u e=>?_,λb ps e=>?_⟩,?_,λy c e=>?_,?_,λy c e=>?_,λp E=>?_,hok,I.len⟩
 .exact kp b o (B b o e) (fs b d λz=>absurd (b_ (aF e) I.ok.above) (by rw[z];show c7 _)) (I.base.keep b o e h d i)
 .obtain⟨sl,z⟩:=I.base.slot b o e h d i;obtain⟨Y,J⟩:=l.slot b _ (B b o e) z;show⟨Y,J⟩
 .rw[f b (B b o e)];show I.base.free b o e h i
 .obtain⟨o',z⟩:=I.base.there b o e i;obtain⟨sl,J⟩:=l.slot b _ (B b o e) z;show⟨_,J⟩
 .have q:=I.base.tups b xs e;rw[f b (n b _ q)];show q
 .have q:=I.base.frzs b o u e;rw[f b (n b _ q)];show q
 .obtain⟨more,q⟩:=I.base.tbls b ps e;show⟨more,by rw[f b (n b _ q)];show q⟩
 .obtain⟨m,⟨o,es,ep,g,r⟩,ab⟩:=I.loc;obtain⟨sl,z⟩:=l.slot _ o (ax N) g;show⟨m,⟨_,es,ep,z,r⟩,λj y v e1 e2 e3=>?_⟩;obtain⟨u,r1,K⟩:=ab j y v e1 e2 e3;show⟨u,r1,?_⟩;rcases K with K|⟨a,c,b,o2,ad,C⟩
  .exact .inl K
  obtain⟨sl,z⟩:=l.slot c o2 (D _ c b) ad;show .inr ⟨a,c,b,_,z,C⟩
 .obtain⟨v,o,g,hd⟩:=I.cell y c e;obtain⟨sl,z⟩:=l.slot c o (D y c e) g;show⟨v,_,z,hd⟩
 .rw[f _ (ax N)];show I.free
 .rw[f _ (D y c e)];show I.freeC y c e
 obtain⟨e,h,ne,P,dd⟩:=I.pin p E;show⟨kp p.1 p.2 (M p E) (fs _ P ne) e,by rw[f _ (M p E)];show h,ne,P,dd⟩
end
abbrev cxS(X:Cx)(x:Addr)(xe:Value->Shared->Prop):Cx:={oW X x with xe:=xe}
def XWith(x:Addr)(E:XK):XK:=λcls d H=>(∃c d',H x=some (eF x c d'))/\E cls d H
abbrev DF:Ends:=⟨λ_ _=>False,λ_ _=>False,λ_ _=>False,λ_ _=>False⟩
section
variable {body suite suite0:List Stmt}{b0 c0:Stmt}{cx1 cx n:Str}{np1 np hpos1 hpos pos:Pos}{c1 Ch:Addr}{bm1 bmh:List Value}{i:Nat}{tb:XK->TS}{ts:Addr->TS}{E2:XK}
theorem Inv.toS(I:Inv X OY Z H s)(x:Addr)(xe:Value->Shared->Prop):Inv (cxS X x xe) OY Z H s:=by have J:=I.suite x;show⟨⟨J.ok.mod,J.ok.kind,J.ok.glob,J.ok.blt,J.ok.above,J.ok.inj,J.ok.has,J.ok.cab,J.ok.hd,J.ok.frames,J.ok.stk,J.ok.exf,J.ok.bs,J.ok.bsz,J.ok.noex,J.ok.exfs,J.ok.funs,J.ok.frf⟩,J.os,J.bare,J.base,J.loc,J.cell,J.free,J.freeC,J.pin,J.hok,J.len⟩
theorem Inv.ofS{x:Addr}{xe:Value->Shared->Prop}(J:Inv (cxS X x xe) OY Z H s)(ok:X.Ok):Inv X OY Z H s:=⟨ok,J.os,J.bare,J.base,J.loc,J.cell,J.free,J.freeC,J.pin,J.hok,J.len⟩
theorem Ga{x:Addr}{xe:Value->Shared->Prop}(ok:X.Ok) (h:∀(OY:List (Addr×Obj))(Z:St)(H:Hp)(s:Shared)(e:Addr)(cls:Value)(d:Option Addr)(a:Obj)(vs:Array Value),Inv X OY Z H s->s.heap.get? e=some a->a.cls=cls->a.dict=d->a.data=.fields vs->vs[1]?=some .none->2<vs.size->
  X.s₀.heap.get? e=none->(∀p∈X.pn++OY,p.1≠e)->H e=none->E2 cls d H->xe (.ref e) {s with heap:=s.heap.update e (Obj.mapFields (·.setIfInBounds 2 (Value.ref x)))}):REnds (cxS X x xe) (XWith x E2):=λ{_ _ _ nm i C N bs bm hdct sn sub ab col dd k0 k1 k2 k3 k5 newId} j _ q=>by
 show BR (nm:=nm) (q:=i) (C:=C) (N:=N) (bs:=bs) (hdct:=hdct) (sn:=sn) (sub:=sub) (ab:=ab) (col:=col) (dd:=dd) (k0:=k0) (k1:=k1) (k2:=k2) (k3:=k3) (k5:=k5) (newId:=newId) (y:=x) j rfl (bF q (λv s₁ ⟨e,d,vs,sl,OY,Z,H,l,m,b,f,n,I,o,r,g,⟨c,d',ex⟩,u⟩=>?_) λ_ _ z=>z);obtain⟨⟨A,ws,B,_,_,D,E⟩,_⟩:=(show aV X.prog X.w H s₁.heap x (eF x c d') from I.hok x _ ex);have h2:=(gg.mp n).1;show⟨e,d,vs,sl,A,ws,l,m,b,f,h2,(λz=>by rw[z,g] at ex;cases ex),B,D,E,h OY Z H s₁ e _ d _ vs (I.ofS ok) b rfl rfl rfl f h2 o r g u⟩
def JX(K:W.Frag)(len:Nat)(c1 Ch:Addr)(i:Nat)(tb:XK->TS)(ts:Addr->TS):TS:=λD Z H=>∃E:XK,tb E D Z H/\∀cls d H',E cls d H'->
 ∃a bm,cls=.ref a/\clsIn K a=some bm/\(Value.ref a::bm).contains (.ref c1)=false/\(Value.ref a::bm).contains (.ref Ch)=true/\∀x,H' x=none->ts x DF ((List.replicate len none).set i (some (.ref x))) (upd H' x (eF x cls d))
theorem K7{D:Ends}{x:Addr}{cls:Value}{d:Option Addr}(c:X.stack=X.env::X.outer/\X.env.frame=some X.env.locals)(aS:X.ex=[])(hN:X.N.Nodup)(hi:X.N[i]?=some n)(E:X.env.scope.names.lookup n=some .local)
  (a4:Gl X cx1) (a6:X.mg cx1=some (.ref c1)) (a8:clsIn X.K c1=some bm1) (a9:bm1.contains (.type "BaseException")=true) (hg:Gl X cx) (hm:X.mg cx=some (.ref Ch)) (ba:clsIn X.K Ch=some bmh) (bb:bmh.contains (.type "BaseException")=true)
  (hs:∀x xe,REnds (cxS X x xe) (XWith x E2)->PSs (cxS X x xe) (b0::suite) (ts x)) (hE:um X E2) (bd:(cx1==("__debug__" : Str))=false) (be:(cx==("__debug__" : Str))=false)
  (I:Inv X OY Z H s) (hx:Exc s.heap x cls d) (hn:X.s₀.heap.get? x=none) (bi:∀p∈X.pn++OY,p.1≠x) (hH:H x=none)
  (hq:∃h bm,cls=.ref h/\clsIn X.K h=some bm/\(Value.ref h::bm).contains (.ref c1)=false/\(Value.ref h::bm).contains (.ref Ch)=true/\∀x,H x=none->ts x DF ((List.replicate X.N.length none).set i (some (.ref x))) (upd H x (eF x cls d))) :
  wpAny ⇑X X.A (noteFrame (.ref x) X.env) (λ_ s2=>wpAny ⇑X X.A (setFlight (.ref x) none) (λ_ L=>wpAny ⇑X X.A (handleBy (.ref x) X.env [.ExceptHandler (some (.Name cx1 np1)) none (c0::suite0) hpos1,.ExceptHandler (some (.Name cx np)) (some n) (b0::suite) hpos]) (SP X OY D) X.xe L) X.xe s2) X.xe s:=by
 obtain⟨h,bm,rfl,bl,bn,bt,bv⟩:=hq;have bw:X.A.frames=some (X.env::X.outer):=by rw[<-c.1];show I.ok.frames
 have bA:s.heap.FunFrames X.base (X.env::X.outer):=by rw[<-c.1];show I.stack
 have bK:∃l vs,s.heap.get? x=some l/\l.data=.fields vs:=by obtain⟨l,vs,he,_,_,hd,_⟩:=hx;show⟨l,vs,he,hd⟩
 show sX bw bA c.2 hx λh1 x1 L1=>?_;have j:Inv X OY (List.replicate X.N.length none) (upd H x (eF x (.ref h) d)) {s with heap:=h1}:=I.forget.left c (ug bK) hn bi hH (λb a=>av a) (λu e=>by rw[aN] at e;cases e;show HD x1) L1;obtain⟨N1,ch,q1,ci,cl,co,cp,cr,cs,ct,a0,a1,a2,a3,a5,hC⟩:=oX j.kIn bl;obtain⟨N2,cv,q2,cy,cB,cC,cM,cS,c2,c3,c4,b1,b2,b3,b5,bM⟩:=oX j.kIn ba;obtain⟨N3,c5,q3,c8,da,db,dc,dd,dj,dk,d0,d1,d2,d3,d5,bN⟩:=oX j.kIn a8;obtain⟨l,vs,he,ab,_⟩:=id x1;show Bd (A3 (gW (j.suite x) a4 a6 (Ff hC bN he ab a9 bn ?_) bd)) (λz=>nomatch z);change wpAny _ _ (handleBy _ _ _) _ _ _;show Bd (A3 (gW (j.suite x) hg hm (Dl hC bM he ab bb bt ?_) be)) (λz=>nomatch z);change codeAny _ _ (.handlers (.ref x) [.ExceptHandler none (some n) (b0::suite) hpos] X.env) _ _;show codeAny_handlers_suite_as (wq x1 λh2 x2 same=>?_);have I2:Inv X OY (List.replicate X.N.length none) (upd H x (eF x (.ref h) d)) {s with heap:=h2}:=j.kept (t':=s.toks) λb o e=>(same b).trans e;show n9 I2 hN hi (.inl E) (v:=.ref x) rfl (λL I3=>?_) (.inr E);show bF (hs x _ (Ga I.ok ?_) OY L _ _ DF (I3.toS x _) (bv x hH)) (λf M r=>?_) λ_ _ z=>z
 .intro bS Z' H' s1 e ad d' ag bX J ge gc gd y g1 g2 gn gp B gE;have al:=jt y (·.setIfInBounds 2 (Value.ref x));have e2:=d_ (Obj.mapFields (·.setIfInBounds 2 (Value.ref x))) ge (ju al);have oth:∀b,b≠e->(s1.heap.update e (Obj.mapFields (·.setIfInBounds 2 (Value.ref x)))).get? b=s1.heap.get? b:=λb a=>di _ _ (ax a);have b4:s1.heap.FunFrames X.base (X.env::X.outer):=by rw[<-c.1];show J.stack
  have b6:(s1.heap.update e (Obj.mapFields (·.setIfInBounds 2 (Value.ref x)))).FunFrames X.base (X.env::X.outer):=b4.of_keeps λb o a O=>by
   by_cases am:b=e
   .subst am;rw[ge] at a;cases a;show absurd y (O bX)
   show⟨o,(oth b am).trans a,rfl⟩
  show Jl (s:={s1 with heap:=s1.heap.update e (Obj.mapFields (·.setIfInBounds 2 (Value.ref x)))}) (p:=λ_=>True) (by have:=(J.suite x).ok.frames;rw[c.1] at this;show this) b6 c.2 e2 (uQ _ _) rfl al (by rw[qy ⋯];show g1) ⟨.ref x,by simp[g2],trivial⟩ λP T xv Q lb=>?_;have b7:(Obj.mapFields (·.setIfInBounds 2 (Value.ref x)) ag).dict=d':=by obtain⟨c0,d0,b8,dl⟩:=ag;cases b8<;>show gd
  rw[b7,gc] at xv;have b9:ki (frs (X.env::X.outer)) e s1.heap P:=⟨λb o a hf R=>lb.keep b o a hf ((oth b a).trans R),λb o a R=>lb.slot b o a ((oth b a).trans R)⟩;have S:s1.heap.get? T=none:=by
   by_cases a:T=e
   .subst a;rw[e2] at Q;cases Q
   rw[<-oth T a];show Q
  have an:H' T=none:=J.hok.none_of' S;have T0:X.s₀.heap.get? T=none:=J.oldNone S (by rw[aS];simp);have J3:Inv X bS Z' H' {s1 with heap:=P}:=J.left c (ug ⟨_,_,ge,y⟩) gn gp B (λb a=>rfl) (λu z=>by rw[B] at z;cases z) b9;obtain⟨U,ca,Y,cb,f1,f2,f3,f4,f5,f6,f7,f8,f9,cc⟩:=id xv;have nl:∀{b:Addr},(∀o,s1.heap.get? b=some o->∃ws,o.data=.fields ws)->b≠X.env.locals/\b∉X.fs:=λ{b} a=>by
   show⟨λz=>?_,λhm=>?_⟩
   .obtain⟨m,⟨o,es,ep,g,hd,_⟩,_⟩:=J.loc;obtain⟨ws,C⟩:=a o (by rw[z];show g);rw[hd] at C;cases C
   obtain⟨_,o,g,O⟩:=J.funs.mem hm;obtain⟨ws,C⟩:=a o g;show O ws C
  have ne:=nl (b:=e) λo g=>by rw[ge] at g;cases g;show⟨_,y⟩
  have ap:=nl (b:=T) λo g=>by rw[S] at g;cases g
  have J4:Inv X [(e,U),(T,Y)] Z' H' {s1 with heap:=P}:=J3.pins_of λp hp=>by
   rcases aG.mp hp with rfl|hp
   .exact⟨f1,B,ne.1,ne.2,λv z=>by rw[f4] at z;cases z⟩
   cases aQ.mp hp;show⟨f8,an,ap.1,ap.2,λv z=>by rw[f9] at z;cases z⟩
  show J4.unname hN hi E λM K4=>?_;have cd:eX (λ_=>True) X.env.locals M.heap e ad d' T:=⟨U,ca,Y,cb,(K4.pin (e,U) ∅).1,f2,f3,f4,f5,f6,f7,(K4.pin (T,Y) ∅).1,f9,cc⟩;show Jb c.2 cd λh5 aM ce=>?_;change wpAny _ _ (noteFrame (.ref e) X.env) _ _ _;show yX c.2 aM ?_;show JQ c.2 aM λh6 cf cg=>?_;show hE _ _ H' _ e T ad d' (K4.kept (t':=M.toks) λb o z=>(cg b).trans ((ce b).trans z)) cf gn T0 B an gE
 cases f with
 |next=>obtain⟨_,_,_,q⟩:=r;show q.elim
 |brk=>obtain⟨_,_,_,q⟩:=r;show q.elim
 |cont=>obtain⟨_,_,_,q⟩:=r;show q.elim
 |ret v=>obtain⟨_,_,_,_,_,q⟩:=r;show q.elim
theorem Gm(h:X.stack=X.env::X.outer/\X.env.frame=some X.env.locals)(c:X.ex=[])(j:X.N.Nodup)(hi:X.N[i]?=some n)(l:X.env.scope.names.lookup n=some .local)
  (m:Gl X cx1) (o:X.mg cx1=some (.ref c1)) (u:clsIn X.K c1=some bm1) (y:bm1.contains (.type "BaseException")=true) (A:Gl X cx) (hm:X.mg cx=some (.ref Ch)) (B:clsIn X.K Ch=some bmh) (C:bmh.contains (.type "BaseException")=true)
  (L:∀(OY:List (Addr×Obj))(xe:Value->Shared->Prop)(E:XK),Passes (CX1 X.prog X.w) (j7 X OY xe) E->PSs (j7 X OY xe) body (tb E))
  (M:∀x xe,REnds (cxS X x xe) (XWith x E2)->PSs (cxS X x xe) (b0::suite) (ts x)) (O:um X E2) (P:(cx1==("__debug__" : Str))=false:=by decide) (Q:(cx==("__debug__" : Str))=false:=by decide) :
  PS X (.Try body [.ExceptHandler (some (.Name cx1 np1)) none (c0::suite0) hpos1,.ExceptHandler (some (.Name cx np)) (some n) (b0::suite) hpos] [] [] pos) (JX X.K X.N.length c1 Ch i tb ts):=by
 rintro OY s Z H D I ⟨E,R,S⟩;show Nu ?_;show bF (L OY _ E ?_ [] s Z H D I.toBody R) (λf s1 a=>?_) λ_ _ z=>z
 .rintro ab Z' H' s' e ad J ⟨x,cls,d,H2,rfl,hx,g,T,os,bare,un,hok,q⟩;have U:=J.call' (ch:=[]) os un hok bare (λb z=>absurd z ∅);show K7 h c j hi l m o u y A hm B C M O P Q U.ofBody hx (J.ofBody.oldNone g (by rw[c];simp)) (λp Y z=>?_) T (S _ _ _ q);have e:=(J.pin p (dD _ Y)).1;rw[z,g] at e;cases e
 cases f with
 |next=>
  obtain⟨Z',H',J,q⟩:=a;show m_ ⟨Z',H',J.ofBody,q⟩
 |brk=>obtain⟨Z',H',J,q⟩:=a;show⟨Z',H',J.ofBody,q⟩
 |cont=>obtain⟨Z',H',J,q⟩:=a;show⟨Z',H',J.ofBody,q⟩
 |ret v=>obtain⟨w',Z',H',J,r,q⟩:=a;show⟨w',Z',H',J.ofBody,r,q⟩
end
end L2
end
section
namespace L2
open PySem PySem.Spec PyProof.Rows
abbrev kB(h:Heap)(z TI TO T:Addr)(b:Bool):Prop:=h.get? z=some {cls:=.type "zip",dict:=none,data:=.fields #[rawInt T,.bool b,.bool false,.ref TI,.ref TO],slots:=#[]}
section
variable {prog:Program}{z TI TO T i1 i2 l1 l2:Addr}{k1 k2:Nat}{xs ys:Array Value}{b:Bool}{oT:Obj}
theorem FC{M:Model}{a:Addr}{Q:Option Obj->Shared->Prop}(h:Q (s.heap.get? a) s):wpAny M A (loadIfAlive a) Q E s:=λ_ _ _=>h
theorem vR{Q:Bool->Shared->Prop}(hz:kB s.heap z TI TO T b)(a:s.heap.get? T=some oT)(h:∀h',kB h' z TI TO T true->(∀c o,c≠z->s.heap.get? c=some o->h'.get? c=some o)->Q false {s with heap:=h'}) :
  wpAny (model prog w) A (Builtin.SmallTypes.ownedTupleIsFree (.ref z)) Q E s:=by
 unfold Builtin.SmallTypes.ownedTupleIsFree;show aa (bQ hz rfl (x:=rawInt T) rfl ?_);change wpAny _ _ (loadIfAlive (T:Int).toNat >>= _) _ _ _;rw[kG];show aa (FC ?_);rw[a];show aa (bQ hz rfl (x:=.bool b) rfl ?_);cases b with
 |true=>show af (h s.heap hz λ_ _ _ e=>e)
 |false=>
  show aa (nh hz ∅ λh₁ hz₁ d₁=>af (h h₁ hz₁ λc o f e=>d₁.extBut c o f e))
theorem Cz{x y:Value}{Q:Option Value->Shared->Prop}(D:ZipApart z TI TO i1 i2 l1 l2)(hz:kB s.heap z TI TO T b)(j:IsPair s.heap TI (.ref i1) (.ref i2))(l:s.heap.get? T=some oT)
  (h1:s.heap.IsListIter i1 l1 k1) (h2:s.heap.IsListIter i2 l2 k2) (m:s.heap.IsList l1 xs) (n:s.heap.IsList l2 ys) (hx:xs[k1]?=some x) (p:ys[k2]?=some y)
  (r:∀h' t,kB h' z TI TO T true->h'.IsListIter i1 l1 (k1+1)->h'.IsListIter i2 l2 (k2+1)->s.heap.get? t=none->IsPair h' t x y->(∀c o,c≠z->c≠i1->c≠i2->s.heap.get? c=some o->h'.get? c=some o)->Q (some (.ref t)) {s with heap:=h'}) :
  wpAny (model prog w) A (pyNext (.ref z)) Q E s:=by
 have i:s.TypeIs (.ref z) "zip":=⟨_,hz,rfl⟩;unfold pyNext;show aa (jz (iS (name:=Str.ofString "__next__") i F.slot_zip_next (fu F.slot_zip_next i F.entry_zip_next ?_ (F.args_zip_next_1 _))));change wpAny _ _ (field (.ref z) 2 >>= _) _ _ _;show aa (bQ hz rfl (x:=.bool false) rfl ?_);change wpAny _ _ (field (.ref z) 3 >>= _) _ _ _;show aa (bQ hz rfl (x:=.ref TI) rfl ?_);show aa (kT j rfl ?_);change wpAny _ _ (Builtin.SmallTypes.ownedTupleIsFree (.ref z) >>= _) _ _ _;show aa (vR hz l λh₁ hz₁ d₁=>?_);simp only[iM,if_false];show aa ?_;change wpAny _ _ (forIn (#[Value.ref i1,.ref i2]:Array Value) _ _) _ _ _;rw[<-Lp];simp only[mG,Av];show aa (aa (cL ?_));change wpAny _ _ (Builtin.SmallTypes.nextOf (.ref i1) >>= _) _ _ _;have u:h₁.IsListIter i1 l1 k1:=h1.at λo e=>d₁ i1 o D.i1z e;have v:h₁.IsListIter i2 l2 k2:=h2.at λo e=>d₁ i2 o D.i2z e;have B:h₁.IsList l1 xs:=m.at λo e=>d₁ l1 o D.l1z e;have C:h₁.IsList l2 ys:=n.at λo e=>d₁ l2 o D.l2z e;show aa (NH u B hx λh₂ h1₂ a₂=>af (af ?_));show aa (aa (cL ?_));change wpAny _ _ (Builtin.SmallTypes.nextOf (.ref i2) >>= _) _ _ _;show aa (NH (v.extBut a₂.extBut D.i12.symm) (C.extBut a₂.extBut D.l2i1) p λh₃ h2₃ a₃=>af (af (af ?_)));have kp:∀c o,c≠z->c≠i1->c≠i2->s.heap.get? c=some o->h₃.get? c=some o:=λc o c1 c2 f e=>a₃.extBut c o f (a₂.extBut c o c2 (d₁ c o c1 e));show aa (Bj (af ⟨_,rfl,af (r _ h₃.objs.size ?_ ?_ ?_ ?_ ?_ ?_)⟩) (by change 2<=sizeLine;rw[cK];decide))
 .exact aE _ (a₃.extBut z _ D.i2z.symm (a₂.extBut z _ D.i1z.symm hz₁))
 .exact (h1₂.extBut a₃.extBut D.i12).at λo e=>aE _ e
 .exact h2₃.at λo e=>aE _ e
 .cases q:s.heap.get? h₃.objs.size with
  |none=>rfl
  |some o=>
   have H:h₃.objs.size≠z:=λe=>absurd (aF (a₃.extBut z _ D.i2z.symm (a₂.extBut z _ D.i1z.symm hz₁))) (by rw[<-e];show c7 _);have I:h₃.objs.size≠i1:=λe=>by
    obtain⟨o',g,_⟩:=h1₂.extBut a₃.extBut D.i12;show absurd (aF g) (by rw[<-e];show c7 _)
   have J:h₃.objs.size≠i2:=λe=>by
    obtain⟨o',g,_⟩:=h2₃;show absurd (aF g) (by rw[<-e];show c7 _)
   show absurd (aF (kp _ o H I J q)) (c7 _)
 .exact br _ rfl
 show λc o c1 c2 f e=>aE _ (kp c o c1 c2 f e)
theorem DC{Q:Option Value->Shared->Prop}(f:A.handled=none)(D:ZipApart z TI TO i1 i2 l1 l2)(hz:kB s.heap z TI TO T b)(g:IsPair s.heap TI (.ref i1) (.ref i2))(i:s.heap.get? T=some oT)
  (h1:s.heap.IsListIter i1 l1 k1) (j:s.heap.IsList l1 xs) (hx:xs[k1]?=none) (l:∀h',(∀c o,c≠z->c≠i1->c≠i2->s.heap.get? c=some o->h'.get? c=some o)->Q none {s with heap:=h'}) :
  wpAny (model prog w) A (pyNext (.ref z)) Q E s:=by
 have d:s.TypeIs (.ref z) "zip":=⟨_,hz,rfl⟩;unfold pyNext;show aa (jz (iS (name:=Str.ofString "__next__") d F.slot_zip_next (fu F.slot_zip_next d F.entry_zip_next ?_ (F.args_zip_next_1 _))));change wpAny _ _ (field (.ref z) 2 >>= _) _ _ _;show aa (bQ hz rfl (x:=.bool false) rfl ?_);change wpAny _ _ (field (.ref z) 3 >>= _) _ _ _;show aa (bQ hz rfl (x:=.ref TI) rfl ?_);show aa (kT g rfl ?_);change wpAny _ _ (Builtin.SmallTypes.ownedTupleIsFree (.ref z) >>= _) _ _ _;show aa (vR hz i λh₁ hz₁ a₁=>?_);simp only[iM,if_false];show aa ?_;change wpAny _ _ (forIn (#[Value.ref i1,.ref i2]:Array Value) _ _) _ _ _;rw[<-Lp];simp only[mG,Av];show aa (aa (cL ?_));change wpAny _ _ (Builtin.SmallTypes.nextOf (.ref i1) >>= _) _ _ _;show aa (wpAny_nextOf_list_end f (h1.at λo e=>a₁ i1 o D.i1z e) (j.at λo e=>a₁ l1 o D.l1z e) hx λh₂ e m₂ he=>?_);obtain⟨o,n,p⟩:=he;show aa (Bf (T:="StopIteration") (b:=true) ⟨o,n,p⟩ A6 ?_);show af (l _ λc o c1 c2 _ x=>m₂ c o c2 (a₁ c o c1 x))
end
theorem B1:typeLookup (.type "zip") "__len__" = pure none:=by rw[Nn,M9];kernel_rfl
theorem BN:typeLookup (.type "zip") "__length_hint__" = pure none:=by rw[Nn,M9];kernel_rfl
theorem wV{α β:Type}{F:α->β->Prop}{x:α}{y:β}(q:F x y):∀{xs:List α}{ys:List β},Paired F xs ys->Paired F (xs++[x]) (ys++[y])
 |_,_,.nil=>.cons q .nil
 |_,_,.cons h r=>.cons h (wV q r)
def gF(H:Hp)(v:V)(p:V×V):Prop:=∃t,v=.ref t/\H t=some (.tup [p.1,p.2])
theorem gF.same(s:Same H H'){v:V}{p:V×V}(h:gF H v p):gF H' v p:=by obtain⟨t,e,h⟩:=h;show⟨t,e,s _ _ h⟩
section
variable {z TI TO T i1 i2 a b S:Addr}{xs ys:List V}{tt:List V}
theorem bH.other{c t:Addr}{o:HO}(f:bH X OY H c)(h:c≠t):bH X OY (upd H t o) c:=⟨by rw[av h];show f.1,f.2⟩
abbrev mq(acc:Array Value)(c:Nat):Obj:={cls:=.type "list",dict:=none,data:=.seq acc c,slots:=#[]}
theorem wC{A:Around}{R:Result->Shared->Prop}{res:Value}{h1:Heap}{acc:Array Value}{c i:Nat}{vr:List V}{t:Addr}{x y:V}{u v:Value}(I:Inv X OY Z H s)(hf:∀c∈[z,TI,TO,i1,i2,S],bH X OY H c)(ex:∀c∈[z,TI,TO,i1,i2,S],∃o,s.heap.get? c=some o)
  (C:s.heap.get? S=some (mq acc c)) (d:S≠z/\S≠TO/\S≠i1/\S≠i2) (l:Vals vr acc.toList) (D:Paired (gF H) vr ((xs.zip ys).take i)) (hx:xs[i]?=some x) (E:ys[i]?=some y) (J:az x u) (K:az y v) (O:acc.size<=1000)
  (h:s.heap.get? t=none) (m:IsPair h1 t u v) (kp:∀c o,c≠z->c≠TO->c≠i1->c≠i2->s.heap.get? c=some o->h1.get? c=some o)
  (next:∀h2 j g n,Inv X OY Z (upd H t (.tup [x,y])) {s with heap:=h2}->(∀c∈[z,TI,TO,i1,i2,S],bH X OY (upd H t (.tup [x,y])) c)->h2.get? S=some (mq j g)->j.size=acc.size+1->Vals n j.toList->Paired (gF (upd H t (.tup [x,y]))) n ((xs.zip ys).take (i+1))->(∀c o,c≠S->h1.get? c=some o->h2.get? c=some o)->
   codeAny ⇑X A (.builtin "list.extend.loop" ⟨[.ref S,.ref z,res],[]⟩) R {s with heap:=h2}) :
  wpAny ⇑X A.in1 (updateSeq S (·.push (.ref t)) >>= λ_=>again (.builtin "list.extend.loop" ⟨[.ref S,.ref z,res],[]⟩)) (λfin s'=>match fin with | .done f=>R (.ok f) s' | .again g=>g.quiet=true/\codeAny ⇑X A g R s') (λe s'=>R (.error e) s') {s with heap:=h1}:=by
 have L:H t=none:=I.hok.none_of h;have hz:1001<=sizeLine:=by rw[cK];decide
 have p:h1.get? S=some (mq acc c):=kp S _ d.1 d.2.1 d.2.2.1 d.2.2.2 C;have r:∀c∈[z,TI,TO,i1,i2,S],bH X OY (upd H t (.tup [x,y])) c:=λc B=>(hf c B).other λq=>by
  obtain⟨o,e⟩:=ex c B;rw[q,h] at e;cases e
 have M:Inv X OY Z (upd H t (.tup [x,y])) {s with heap:=h1,toks:=s.toks}:=I.turnLaid (ch:=[z,TI,TO,i1,i2,S]) hf (λb o a q=>kp b o (λe=>a (by simp[e])) (λe=>a (by simp[e])) (λe=>a (by simp[e])) (λe=>a (by simp[e])) q) h λH'=>⟨⟨by simp;lia,_,m,rfl⟩,[u,v],.cons J (.cons K .nil),⟨_,m,rfl,_,rfl⟩⟩;have N:=l.length;rw[qz] at N;show aa (kW p rfl (af ⟨m4 F.plain_extend_loop _,next _ (acc.push (.ref t)) _ (vr++[.ref t]) ?_ r (d_ _ p rfl) (Lu _) ?_ ?_ λb o a e=>(di _ _ (ax a)).trans e⟩) () (by change (acc.push _).size<=_;rw[Lu];lia))
 .exact Inv.turnedL (s:={s with heap:=h1}) (t':=s.toks) (ch:=[S]) M (λb a=>r b (by simp at a;simp[a])) λb o a e=>(di _ _ (λq=>a (by simp[q]))).trans e
 .rw[Array.toList_push];show l.append (.cons rfl .nil)
 rw[bG,qK (z:=(x,y)) |>.mpr ⟨hx,E⟩];show wV ⟨t,rfl,aN⟩ (Paired.imp' (λ_ _ q=>q.same λb o e=>by rw[av (au e L)];show e) D)
theorem DB(hh:A.in1.handled=none){R:Result->Shared->Prop}{res:Value}(D:ZipApart z TI TO i1 i2 a b)(d:S≠z/\S≠TO/\S≠i1/\S≠i2)(P:S≠TI)(hl:xs.length=ys.length)(hn:xs.length<=1000):∀(k i:Nat)(s:Shared)(H:Hp)(acc:Array Value)(c:Nat)(vr:List V)(r:Bool),xs.length-i=k->i<=xs.length->
  Inv X OY Z H s->(∀c∈[z,TI,TO,i1,i2,S],bH X OY H c)->(∀c∈[z,TI,TO,i1,i2,S],∃o,s.heap.get? c=some o)->kB s.heap z TI TO T r->IsPair s.heap TI (.ref i1) (.ref i2)->H T=some (.tup tt)->s.heap.IsListIter i1 a i->s.heap.IsListIter i2 b i->H a=some (.lst xs)->H b=some (.lst ys)->
  s.heap.get? S=some (mq acc c)->acc.size=i->Vals vr acc.toList->Paired (gF H) vr ((xs.zip ys).take i)->
  (∀s' H' f h g,Inv X OY Z H' s'->Same H H'->bH X OY H' S->s'.heap.get? S=some (mq f h)->f.size=xs.length->Vals g f.toList->Paired (gF H') g (xs.zip ys)->R (.ok (.ret res)) s')->
  codeAny ⇑X A (.builtin "list.extend.loop" ⟨[.ref S,.ref z,res],[]⟩) R s:=by
 intro k;induction k with
 |zero=>
  intro i s H acc c vr r hk hi I hf ex hz j l v Q m B C ha E n J;obtain rfl:i=xs.length:=();show kO F.entry_extend_loop ?_;rw[my F.plain_extend_loop _];change wpAny _ A.in1 (pyNext (.ref z) >>= _) _ _ s;obtain⟨al,K,p,_⟩:=I.list (SqL.of m);obtain⟨oT,L⟩:=(I.hok T _ l).there;have a5:=K.length;show aa (DC hh D hz j L v p.isList (by simp;lia) λh' kp=>af ?_);rw[iR (by rw[L6];lia)] at n;show J {s with heap:=h'} H acc c vr (I.turnedL (t':=s.toks) (ch:=[z,TI,TO,i1,i2,S]) hf λb o M e=>kp b o (λq=>M (by simp[q])) (λq=>M (by simp[q])) (λq=>M (by simp[q])) e) (λ_ _ e=>e) (hf S ∅) (kp S _ d.1 d.2.2.1 d.2.2.2 C) ha E n
 |succ k ih=>
  intro i s H acc c vr r hk hi I hf ex hz j l v Q m B C ha E n J;have U:i<xs.length:=();have am:i<ys.length:=();show kO F.entry_extend_loop ?_;rw[my F.plain_extend_loop _];change wpAny _ A.in1 (pyNext (.ref z) >>= _) _ _ s;obtain⟨al,K,p,_⟩:=I.list (SqL.of m);obtain⟨its',an,p',_⟩:=I.list (SqL.of B);obtain⟨oT,L⟩:=(I.hok T _ l).there;have hx:xs[i]?=some xs[i]:=aX U;have Y:ys[i]?=some ys[i]:=aX am;obtain⟨u,hu,ru⟩:=K.get hx;obtain⟨u',ap,aM⟩:=an.get Y;show aa (Cz D hz j L v Q p.isList p'.isList (x:=u) (y:=u') ‹hu› ‹ap› λh1 t z1 ab ad nt tp kp=>?_);show wC (xs:=xs) (ys:=ys) (i:=i) I hf ex C d E n hx Y ru aM () nt tp (λc o c1 _ N O e=>kp c o c1 N O e) λh2 f h g I2 aS ag a6 a0 a3 k2=>?_;have hH:H t=none:=I.hok.none_of nt;have sm:Same H (upd H t (.tup [xs[i],ys[i]])):=λb o e=>by rw[av (au e hH)];show e
  have old:∀c o,c≠z->c≠i1->c≠i2->c≠S->s.heap.get? c=some o->h2.get? c=some o:=λc o c1 c2 N O e=>k2 c o O (kp c o c1 c2 N e);have a4:∀c∈[z,TI,TO,i1,i2,S],∃o,h2.get? c=some o:=λc hc=>by
   simp only[aG,dS,or_false] at hc;rcases hc with rfl|rfl|rfl|rfl|rfl|rfl
   .exact⟨_,k2 _ _ (ax d.1) z1⟩
   .exact⟨_,old _ _ D.TIz D.TIi1 D.TIi2 (ax P) j⟩
   .obtain⟨o,e⟩:=ex c ∅;show⟨_,old _ _ D.TOz D.TOi1 D.TOi2 (ax d.2.1) e⟩
   .obtain⟨o,e,_⟩:=ab;show⟨_,k2 _ _ (ax d.2.2.1) e⟩
   .obtain⟨o,e,_⟩:=ad;show⟨_,k2 _ _ (ax d.2.2.2) e⟩
   show⟨_,ag⟩
  show ih (i+1) {s with heap:=h2} _ f h g true () U I2 aS a4 (k2 z _ (ax d.1) z1) (old TI _ D.TIz D.TIi1 D.TIi2 (ax P) j) (sm _ _ l) (ab.at λo e=>k2 i1 o (ax d.2.2.1) e) (ad.at λo e=>k2 i2 o (ax d.2.2.2) e) (sm _ _ m) (sm _ _ B) ag () a0 a3 λs' H' f h g a1 a2=>J s' H' f h g a1 (sm.trans a2)
theorem EX{u0 v0:Value}{Q:VK}(hc:X.calm=true)(hst:X.stack=X.env::X.outer/\X.env.frame=some X.env.locals)(hnx:X.ex=[])(D:ZipApart z TI TO i1 i2 a b)(hl:xs.length=ys.length)(h0:0<xs.length)(hn:xs.length<=1000)(I:Inv X OY Z H s)(hf:∀c∈[z,TI,TO,i1,i2],bH X OY H c)
  (hz:IsZip s.heap z TI TO .none) (hTI:IsPair s.heap TI (.ref i1) (.ref i2)) (hTO:IsPair s.heap TO u0 v0) (g1:s.heap.IsListIter i1 a 0) (g2:s.heap.IsListIter i2 b 0) (qa:H a=some (.lst xs)) (qb:H b=some (.lst ys))
  (q:∀l vl H',H l=none->Same H H'->H' l=some (.lst vl)->Paired (gF H') vl (xs.zip ys)->Q (.ref l) H'):wpAny ⇑X X.A (call (.type "list") [.ref z]) (EP X OY Z Q) X.xe s:=by
 have lt:∀c o,s.heap.get? c=some o->c≠↥s:=λc o e=>bo (aF e);have hh:=I.ok.hd hc;show callType_codes (Q₁:=λobj s₁=>obj=.ref ↥s/\s₁={s with heap:=s.heap.push {cls:=.type "list",data:=.seq #[]}}) F.called_list (F.typeCall_list_1 _) F.entry_list_init (code_list_new _ ⟨rfl,rfl⟩) λobj s₁ h₁=>?_;obtain⟨rfl,rfl⟩:=h₁;have hS:(s.heap.push {cls:=.type "list",data:=.seq #[]}).get? ↥s=some {cls:=.type "list",data:=.seq #[]}:=br _ rfl;show⟨⟨_,hS,rfl⟩,F.args_list_init_2 _ _,?_⟩;have nz:=lt _ _ hz;have nTI:=lt _ _ hTI;have nTO:=lt _ _ hTO;have n1:i1≠↥s:=by obtain⟨o,e,_⟩:=g1;show lt _ _ e
 have n2:i2≠↥s:=by obtain⟨o,e,_⟩:=g2;show lt _ _ e
 have fS:bH X OY H ↥s:=I.fpOk (aq _) (I.hok.fresh (aq _));have s0:X.s₀.heap.get? ↥s=none:=I.oldNone (jl (aq _)) (by rw[hnx];simp);have hHS:H ↥s=none:=fS.1;generalize hSS:↥s=S at hS nz nTI nTO n1 n2 fS s0 hHS;have I1:Inv X OY Z H {s with heap:=s.heap.push {cls:=.type "list",data:=.seq #[]}}:=I.kept (t':=s.toks) λb o e=>aE _ e;change wpAny _ X.A.in1.in1 (do let old <-Builtin.List.listItems (.ref S);Builtin.List.listUpdate (.ref S) (λ_=>#[]);letGo old.toList.reverse;Builtin.List.listExtendWith (.ref S) (.ref z) .none) _ _ _;show aa ?_;unfold Builtin.List.listItems;show aa (kT hS rfl (af ?_));change wpAny _ _ (updateSeq S (λ_=>#[]) >>= λ_=>letGo (#[]:Array Value).toList.reverse >>= λ_=>Builtin.List.listExtendWith (.ref S) (.ref z) .none) _ _ _;show aa (kW hS rfl ?_);have hS2:=d_ (Obj.mapSeq (λ_=>(#[]:Array Value))) hS rfl;show aa (ng ?_);have oth:∀c o,c≠S->s.heap.get? c=some o->((s.heap.push {cls:=.type "list",data:=.seq #[]}).update S (Obj.mapSeq (λ_=>(#[]:Array Value)))).get? c=some o:=λc o hc e=>(di _ _ (ax hc)).trans (aE _ e);generalize (s.heap.push {cls:=.type "list",data:=.seq #[]}).update S (Obj.mapSeq (λ_=>(#[]:Array Value)))=h2 at hS2 oth |-;have hz2:=oth z _ nz hz;have hTy:Shared.TypeIs {s with heap:=h2} (.ref z) "zip":=⟨_,hz2,rfl⟩;unfold Builtin.List.listExtendWith;show aa (qZ hTy ?_);have e1:Builtin.List.listSameRef (.ref S) (.ref z)=false:=by simp[Builtin.List.listSameRef,ax nz]
 have e2:(Value.type "zip"==Value.type "list")=false:=⋯;have e3:(Value.type "zip"==Value.type "tuple")=false:=⋯;simp only[e1,e2,e3,Bool.or_false,iM,if_false];show aa (wpAny_pyIter_zip hz2 ?_);show aa (cL ?_);unfold Builtin.List.listLengthHint;show aa (Bo hTy B1 ?_);change wpAny _ _ (specialOf (Value.ref z) (Str.ofString "__length_hint__") >>= _) _ _ _;show aa (Bo hTy BN ?_);show af ?_;change wpAny _ _ (rule "list.extend.makes-room" >>= λ_=>Builtin.List.listTouch (.ref S) >>= λ_=>again (.builtin "list.extend.loop" ⟨[.ref S,.ref z,.none],[]⟩)) _ _ _;show aa (Bm ?_);show aa ?_;change wpAny _ _ (updateSeq S (·.push .none) >>= λ_=>updateSeq S (·.pop)) _ _ _;show aa (kW hS2 rfl ?_);have hS3:=d_ (Obj.mapSeq (·.push Value.none)) hS2 rfl;show kW (hz:=by seq_fits) hS3 rfl ?_;have hS4:=d_ (Obj.mapSeq (·.pop)) hS3 rfl;have oth4:∀c o,c≠S->s.heap.get? c=some o->((h2.update S (Obj.mapSeq (·.push Value.none))).update S (Obj.mapSeq (·.pop))).get? c=some o:=λc o hc e=>(di _ _ (ax hc)).trans ((di _ _ (ax hc)).trans (oth c o hc e));generalize (h2.update S (Obj.mapSeq (·.push Value.none))).update S (Obj.mapSeq (·.pop))=h4 at hS4 oth4 |-;have I4:Inv X OY Z H {s with heap:=h4}:=I.turnedL (t':=s.toks) (ch:=[S]) (λb hb=>by rw[aQ.mp hb];show fS) λb o hb e=>oth4 b o (λq=>hb (by simp[q])) e;have nS:S≠z/\S≠TO/\S≠i1/\S≠i2:=⟨ax nz,ax nTO,ax n1,ax n2⟩;have hf6:∀c∈[z,TI,TO,i1,i2,S],bH X OY H c:=λc hc'=>by
  rcases a_.mp (show c∈[z,TI,TO,i1,i2]++[S] from hc') with m|m
  .exact hf c m
  rw[aQ.mp m];show fS
 have g14:h4.IsListIter i1 a 0:=g1.at λo e=>oth4 i1 o n1 e;have g24:h4.IsListIter i2 b 0:=g2.at λo e=>oth4 i2 o n2 e;have ex:∀c∈[z,TI,TO,i1,i2,S],∃o,h4.get? c=some o:=λc hc'=>by
  simp only[aG,dS,or_false] at hc';rcases hc' with rfl|rfl|rfl|rfl|rfl|rfl
  .exact⟨_,oth4 _ _ nz hz⟩
  .exact⟨_,oth4 _ _ nTI hTI⟩
  .exact⟨_,oth4 _ _ nTO hTO⟩
  .obtain⟨o,e,_⟩:=g14;show⟨_,e⟩
  .obtain⟨o,e,_⟩:=g24;show⟨_,e⟩
  show⟨_,hS4⟩
 show af ⟨m4 F.plain_extend_loop _,kO F.entry_extend_loop ?_⟩;rw[my F.plain_extend_loop _];change wpAny _ _ (pyNext (.ref z) >>= _) _ _ _;obtain⟨its,rv,p,_⟩:=I4.list (SqL.of qa);obtain⟨its',rv',p',_⟩:=I4.list (SqL.of qb);have hx:xs[0]?=some xs[0]:=aX h0;have hy:ys[0]?=some (ys[0]'()):=aX ();obtain⟨u,hu,ru⟩:=rv.get hx;obtain⟨u',hu',ru'⟩:=rv'.get hy;show aa (wpAny_pyNext_zip_item (s:={s with heap:=h4}) D (oth4 _ _ nz hz) (oth4 _ _ nTI hTI) (oth4 _ _ nTO hTO) g14 g24 p.isList p'.isList (x:=u) (y:=u') ‹hu› ‹hu'› λh5 a1 a2 a3 a4 a5 a6 kp=>?_);show wC (xs:=xs) (ys:=ys) (i:=0) (vr:=[]) I4 hf6 ex hS4 nS (by simp;show .nil) (by rw[AD];show .nil) hx hy ru ru' ∅ (jl (aq _)) a5 kp λh6 acc' c' vr' I6 hf7 hS6 ha6 hv6 hp6 k6=>?_;have hHt:H h4.objs.size=none:=I4.hok.fresh (aq _);have sm:Same H (upd H h4.objs.size (.tup [xs[0],ys[0]'()])):=λb o e=>by rw[av (au e hHt)];show e
 have k46:∀c o,c≠z->c≠TO->c≠i1->c≠i2->c≠S->h4.get? c=some o->h6.get? c=some o:=λc o c1 c2 c3 c4 c5 e=>k6 c o c5 (kp c o c1 c2 c3 c4 e);show DB (A:=X.A.in1) (T:=h4.objs.size) (xs:=xs) (ys:=ys) hh D nS (ax nTI) hl hn _ 1 {s with heap:=h6} _ acc' c' vr' false rfl h0 I6 hf7 (λc hc'=>?_) (k6 z _ nz a1) (k46 TI _ D.TIz D.TITO D.TIi1 D.TIi2 nTI (oth4 _ _ nTI hTI)) aN (a3.at λo e=>k6 i1 o n1 e) (a4.at λo e=>k6 i2 o n2 e) (sm _ _ qa) (sm _ _ qb) hS6 ‹ha6› hv6 hp6 λs' H' acc c vr I' sm' fS' hS' ha' hv' hp'=>?_
 .simp only[aG,dS,or_false] at hc';rcases hc' with rfl|rfl|rfl|rfl|rfl|rfl
  .exact⟨_,k6 _ _ nz a1⟩
  .exact⟨_,k46 _ _ D.TIz D.TITO D.TIi1 D.TIi2 nTI (oth4 _ _ nTI hTI)⟩
  .exact⟨_,k6 _ _ nTO a2⟩
  .obtain⟨o,e,_⟩:=a3;show⟨_,k6 _ _ n1 e⟩
  .obtain⟨o,e,_⟩:=a4;show⟨_,k6 _ _ n2 e⟩
  show⟨_,hS6⟩
 show⟨rfl,.ref S,upd H' S (.lst vr),?_,rfl,q S vr _ hHS (λb o e=>?_) aN (Paired.imp' (λ_ _ z=>z.same λb o e=>?_) hp')⟩
 .refine I'.left hst ⟨_,hS',(λ_ _ z=>by cases z),(λ_ z=>by cases z)⟩ s0 (λp hp=>fS'.2.2.2.2.2 p hp) fS'.1 (λb hb=>av hb) (λu e=>?_) ⟨λ_ _ _ _ e=>e,λb o _ e=>⟨o.slots,e⟩⟩;rw[aN] at e;cases e;have e1:=hv'.length;have e2:acc.toList.length=acc.size:=qz;show⟨by rw[cK];lia,acc.toList,c,hv',by rw[hS']⟩
 .rw[av (λz=>by rw[z,hHS] at e;cases e)];show sm' _ _ (sm _ _ e)
 rw[av (λz=>by rw[z,fS'.1] at e;cases e)];show e
def tLZB(Q:VK)(vs:List V)(H1:Hp)(a b:Addr)(xs ys:List V):Prop:=vs=[.ref a,.ref b]/\H1 a=some (.lst xs)/\H1 b=some (.lst ys)/\xs.length=ys.length/\0<xs.length/\xs.length<=1000/\∀l c H',H1 l=none->Same H1 H'->H' l=some (.lst c)->Paired (gF H') c (xs.zip ys)->Q (.ref l) H'
def tLZ(ta:TA):TE:=λZ H Q=>ta Z H λvs H1=>Exists (Ex4 (tLZB Q vs H1))
theorem Gs{f d:Expr}{ta:TA}{p p2 pos i:Pos}(v:X.calm=true)(w:X.stack=X.env::X.outer/\X.env.frame=some X.env.locals)(x:X.ex=[])(y:Gl X "list")(z:X.mg "list" = none)(A:Gl X "zip")(hm:X.mg "zip" = none)(ha:PA X [f,d] ta)(B:starEach [f,d] X.env=[(false,eval f X.env),(false,eval d X.env)]:=by rfl)(j:starEach [d] X.env=[(false,eval d X.env)]:=by rfl) :
  PE X (.Call (.Name "list" p) [.Call (.Name "zip" p2) [f,d] [] i] [] pos) (tLZ ta):=by
 intro OY s Z H Q I h;show m6 (je I y z uS ?_);show qT ?_ rfl rfl;change wpAny _ _ (spliced ((false,eval (.Call (.Name "zip" p2) [f,d] [] i) X.env)::backTo pos (starEach [] X.env))) _ _ _;show kF ?_;show Call_ (je I A hm boot_zip (qT (thn (ha i OY s Z H _ I h) λus s1 ⟨vs,H1,g,C,D⟩=>?_) (by rw[B,j]) (by rw[j];rfl)));obtain⟨a,b,xs,ys,rfl,l,m,E,J,K,q⟩:=D;obtain⟨_,_,rfl,L,M⟩:=C.two;cases L;cases M;obtain⟨Y,rv,pl,hz⟩:=g.list (SqL.of l);obtain⟨its',ab,n,ad⟩:=g.list (SqL.of m);have N:a<↥s1:=by obtain⟨o,e,_⟩:=pl.isList;show aF e
 have O:b<↥s1:=by obtain⟨o,e,_⟩:=n.isList;show aF e
 show call_zip_2 pl.isList n.isList λh' h1 h2 P R S hsz T=>mz ?_;have U:Inv X OY Z H1 {s1 with heap:=h'}:=g.kept (t':=s1.toks) T;show EX v w x (zipApart_new N O) E J K U (λc r=>?_) h1 h2 P R S l m q;have u:↥s1<=c:=by
  simp only[aG,dS,or_false] at r;rcases r with rfl|rfl|rfl|rfl|rfl
  all_goals first|show aq _|show AF _ _
 show g.fpOk u (g.hok.fresh u)
end
end L2
end
section
namespace K15
open PySem L2 K51 K31
theorem Hs{ps:List Nat}{p:Nat}(h:ps[ps.length-1]?=some p):atI (nV ps) (-1)=some (V.int (p:Int)):=by have a:=(aI.mp h).1;unfold atI ixN;rw[bz,OT ⋯,OU ()];change (nV ps)[_]?=_;rw[show (-1+(ps.length:Int)).toNat=ps.length-1 by lia];show zu h
theorem E3{l:List Ent}{ks vs:List V}(b:DKV H (.dT (l.map bj)) ks vs):SdsAt H ks (l.map (·.1)):=by
 rcases b with ⟨kvs,e,_⟩|⟨kvs,as,e,a,rfl,_⟩
 .cases e
 cases e;rename_i c;clear c;induction l generalizing as with
 |nil=>cases a;show .nil
 |cons x l d=>
  cases a with
  |cons h t=>show .cons ⟨_,rfl,h⟩ (d _ t)
structure mf(R:Nat->Nat->Prop)(l:List (Nat×Nat)):Prop where
 nd:(l.map (·.1)).Nodup
 mem:∀p q,(p,q)∈l↔R p q
theorem mf.key{R:Nat->Nat->Prop}{l:List (Nat×Nat)}(h:mf R l)(p:Nat):p∈l.map (·.1)↔∃q,R p q:=by
 constructor
 .intro z;obtain⟨⟨a,b⟩,h1,rfl⟩:=ar.mp z;show⟨b,(h.mem _ _).mp h1⟩
 rintro⟨q,c⟩;show ar.mpr ⟨_,(h.mem _ _).mpr c,rfl⟩
def B6(vs:List V)(H:Hp)(Q:VK)(d:Addr)(l:List (Nat×Nat))(R:Nat->Nat->Prop)(s:Nat):Prop:=vs=[.ref d,.int (s:Int)]/\Rd H d (.dK (l.map nmV))/\l.length<=1000/\(∀a b c,R a c->R b c->a=b)/\mf R l/\s∈l.map (·.1)/\
 ∀r ps H',H r=none->Same H H'->H' r=some (.lst (nV ps))->ps.length<=1001->Path R ps->ps[0]?=some s->(∀z,ps[ps.length-1]?=some z->(∀q,¬R z q)\/R z s)->Q (.ref r) H'
def rB:Sp:=λvs H Q _=>Exists (Ex4 (B6 vs H Q))
def dh(ts:List Tri)(es:List Ent):List (Nat×Nat):=(es.map (·.1)).filter λs=>decide ((s.2,s.1)∉(ents ts).map (·.1))
theorem zB{ts:List Tri}{a b:Nat}:(a,b)∈(ents ts).map (·.1)↔∃c,En ts a b c:=by
 constructor
 .intro h;obtain⟨⟨⟨x,y⟩,c⟩,h1,h2⟩:=ar.mp h;cases h2;show⟨c,h1⟩
 rintro⟨c,h⟩;show ar.mpr ⟨_,h,rfl⟩
theorem sV{ts:List Tri}{a b:Nat}:bc (En ts) a b↔Rim ts (a,b):=by unfold bc Rim;rw[zB,zB]
theorem wQ{ts:List Tri}{a b:Nat}:(a,b)∈dh ts (ents ts)↔bc (En ts) a b:=by unfold dh;rw[sV,dG,decide_eq_true_eq];rfl
theorem Ee{ts:List Tri}{es:List Ent}{a b:Nat}(c:∀e∈es,e∈ents ts)(h:(a,b)∈dh ts es):bc (En ts) a b:=by unfold dh at h;obtain⟨h1,h2⟩:=dG.mp h;obtain⟨e,he,d⟩:=ar.mp h1;show sV.mpr ⟨ar.mpr ⟨e,c e he,d⟩,OX h2⟩
theorem G8{R:Nat->Nat->Prop}(one:∀a b c,R a b->R a c->b=c){l:List (Nat×Nat)}(nd:l.Nodup)(h:∀p∈l,R p.1 p.2):(l.map (·.1)).Nodup:=by
 induction l with
 |nil=>show jq
 |cons x l f=>
  rw[cJ] at nd;rw[aY,cJ];show⟨λz=>?_,f nd.2 λp g=>h p (bJ _ g)⟩;obtain⟨y,d,e⟩:=ar.mp z;have h1:=h x gq;have h2:=h y (bJ _ d);rw[e] at h2;have:y=x:=kL e (one _ _ _ h2 h1);rw[this] at d;show nd.1 d
theorem rA{ts:List Tri}(g:Good ts)(o:∀c,Co ts c->One (En ts) c):(∀a b c,bc (En ts) a b->bc (En ts) a c->b=c)/\(∀a b c,bc (En ts) a c->bc (En ts) b c->a=b)/\(∀a b,bc (En ts) a b->∃c,bc (En ts) b c):=by have co1:∀{a b},bc (En ts) a b->Co ts a:=λ⟨⟨q,d⟩,_⟩=>⟨_,q,d⟩;have e:∀{a b},bc (En ts) a b->Co ts b:=λ⟨⟨q,d⟩,_⟩=>⟨q,_,g.sk.rot d⟩;show⟨λa b c h1 h2=>sT g.sk (o a (co1 h1)) h1 h2,λa b c h1 h2=>sU g.sk (o c (e h1)) h1 h2,λa b h=>Ed g.sk (o b (e h)) h⟩
theorem F_{ts:List Tri}(g:Good ts)(o:∀c,Co ts c->One (En ts) c):mf (bc (En ts)) (dh ts (ents ts)):=
 ⟨G8 (rA g o).1 (g.nd.filter _) λp a=>wQ.mp a,λ_ _=>wQ⟩
theorem wR(ts:List Tri)(es:List Ent):(dh ts es).length<=es.length:=by unfold dh;have:=eg (λs:Nat×Nat=>decide ((s.2,s.1)∉(ents ts).map (·.1))) (es.map (·.1));rw[ay] at this;show this
theorem wW{α β γ:Type}{F:α->γ->Prop}{f:β->γ}:∀{xs:List α}{ys:List β},Paired F xs (ys.map f)->Paired (λx y=>F x (f y)) xs ys
 | [],[],_=>.nil
 |_::_,_::_,.cons h r=>.cons h (wW r)
theorem iW{r:Addr}(s:Same H H')(h:H' r=none):H r=none:=by
 cases e:H r with
 |none=>rfl
 |some o=>rw[s _ _ e] at h;cases h
def BO(Cs:Addr)(vs:List V)(H:Hp)(Q:VK)(x:Addr)(ts us:List Tri):Prop:=vs=[.ref x]/\bU Cs H x ts us/\
 ∀D H',H D=none->Sm H H'->H' D=some (.dK ((dh ts (ents ts)).map nmV))->Q (.ref D) H'
def vF(Cs:Addr):Sp:=λvs H Q _=>Exists (Ex3 (BO Cs vs H Q))
def DM(C:Addr)(vs:List V)(H:Hp)(Q:VK)(x:Addr)(ts us:List Tri)(a b:Nat):Prop:=vs=[.ref x,.int (a:Int),.int (b:Int)]/\bU C H x ts us/\
 ∀H',Same H H'->(∀c,En ts a b c->Q (.int (c:Int)) H')/\((∀c,¬En ts a b c)->Q .non H')
def iZ(C:Addr):Sp:=λvs H Q _=>Exists (Ex5 (DM C vs H Q))
def Iy(C:Addr)(vs:List V)(H:Hp)(Q:VK)(x:Addr)(ts us:List Tri):Prop:=vs=[.ref x]/\bU C H x ts us/\∀l a H',H l=none->Same H H'->H' l=some (.lst a)->aA H' a us->Q (.ref l) H'
def gZ(C:Addr):Sp:=λvs H Q _=>Exists (Ex3 (Iy C vs H Q))
def DR(vs:List V)(H:Hp)(Q:VK)(a:Addr)(l:List Nat):Prop:=vs=[.ref a]/\H a=some (.lst (nV l))/\l≠[]/\l.length<=1000/\
 ∀r vr H',H r=none->Same H H'->H' r=some (.lst vr)->SdsAt H' vr (prs l)->Q (.ref r) H'
def xH:Sp:=λvs H Q _=>Exists (Ex2 (DR vs H Q))
section
theorem F2:aK ["self","a","b"] ["self","a","b"] (ao lW):=⟨rfl,rfl,rfl,⋯,rfl,⋯,⋯⟩
theorem Ex{f C:Addr}(U:Fun K "third" "Skin.third" lW f fd)(X:SCls K C):ai P w K mg base CX0 1 f fd ["self","a","b"] (iZ C):=by
 show U.ok F2 (by rintro _ _ _ _ ⟨_,_,_,_,_,rfl,_⟩;rfl) λl A outer s H vs Q E e h=>?_
 obtain⟨x,ts,us,a,b,rfl,⟨kt,dx,O,R,D,S,m,L,sk,_⟩,q⟩:=h;have i:=cU e;show⟨_,ak (aD (w5 i (jb (pv 0) rfl) (aJ (ae (pv 1) (pa1 (pv 2)))) ⟨rfl,rfl,rfl,rfl⟩)),?_⟩;show⟨_,rfl,x,C,dx,_,_,rfl,sk.ob,X.cl,X.thirds,rfl,D,rfl,.inr ⟨_,sk.th⟩,_,rfl,_,rfl,lit2,λt H1 n s1 j=>?_⟩;show⟨_,.inr ⟨_,ky a b,t,(Sm.of s1).rd sk.th,rfl,j,rfl⟩,?_⟩;have q:=q _ s1;by_cases d:∃c,En ts a b c
 .obtain⟨c,d⟩:=d;rw[(wF kt.sk.g.nd).mpr d];show q.1 c d
 rw[fE.mpr λz=>d (by
  obtain⟨⟨⟨o,p⟩,c⟩,h1,h2⟩:=ar.mp z;cases h2;show⟨c,h1⟩)]
 show q.2 λc z=>d ⟨c,z⟩
theorem BQ:aK ["self"] ["self"] (ao lp):=⟨rfl,rfl,rfl,⋯,rfl,⋯,⋯⟩
theorem Jc{f C:Addr}(U:Fun K "triangles" "Skin.triangles" lp f fd)(X:SCls K C)(T:cq mg):ai P w K mg base CX0 1 f fd ["self"] (gZ C):=by
 show U.ok BQ (by rintro _ _ _ _ ⟨_,_,_,rfl,_⟩;rfl) λc A outer s H vs Q E d h=>?_
 obtain⟨x,ts,us,rfl,⟨kt,dx,O,R,D,S,e,L,sk,_⟩,q⟩:=h;show⟨_,ak (aD (c_ BL (by rfl) T.list uS (pa1 (jb (pv 0) rfl)))),?_⟩;show⟨_,rfl,x,C,dx,_,_,rfl,sk.ob,X.cl,X.ordered,rfl,O,_,rfl,.inl (SqL.of sk.od),λl H1 a s1 b=>q l _ _ a s1 b (sk.tr.same s1)⟩
theorem F3:aK ["ring"] ["ring"] (ao nC):=⟨rfl,rfl,rfl,⋯,rfl,⋯,⋯⟩
theorem EC{f:Addr}(U:Fun K "pairs_about" "pairs_about" nC f fd)(T:cq mg)(j:mg "zip" = none):ai P w K mg base CX0 1 f fd ["ring"] xH:=by
 show U.ok F3 (by rintro _ _ _ _ ⟨_,_,rfl,_⟩;rfl) λB A outer s H vs Q E C h=>?_
 obtain⟨a,l,rfl,ha,m,D,q⟩:=h;show⟨_,ak (aD (Gs rfl ⟨rfl,rfl⟩ rfl rfl T.list rfl j (ae (pv 0) (pa1 (aC fh (iu jL (pv 0) (iA aj) iB) (iu jL (pv 0) iB (iA aj))))))),?_⟩;show⟨_,rfl,_,rfl,1,rfl,a,_,rfl,SqL.of ha,λp H1 I s1 c=>?_⟩;show⟨_,rfl,1,rfl,a,_,rfl,SqL.of (s1 _ _ ha),λp2 H2 J s2 d=>?_⟩;rw[show eA (nV l) (some 1) none=(nV l).drop 1 from rZ (nV l) 1] at c;rw[show eA (nV l) none (some 1)=(nV l).take 1 from zJ (nV l) 1] at d;have hz:=line5000;have ll:=bz l;have L:=ib.mpr m;show⟨p,p2,_,_,rfl,rfl,s2 _ _ c,d,by rw[cF,bu];lia,λn M N b o=>?_⟩;show⟨a,n,nV l,_,rfl,(s2.trans b) _ _ (s1 _ _ ha),o,by rw[aU,cF,bu];lia,(),(),λr vr g u v x i=>?_⟩;show q r vr g (iW (s1.trans (s2.trans b)) u) (((s1.trans s2).trans b).trans v) x ?_;have e:(nV l).zip ((nV l).drop 1++(nV l).take 1)=(prs l).map λs:Nat×Nat=>(V.int (s.1:Int),V.int (s.2:Int)):=by unfold nV prs;rw[<-uL,<-mJ,<-aL,List.zip_map];rfl
 rw[e] at i;show Paired.imp' (λ_ _ ⟨t,y,z⟩=>⟨t,y,z⟩) (wW (F:=gF g) (f:=λs:Nat×Nat=>(V.int (s.1:Int),V.int (s.2:Int))) i)
end
section
theorem wN:aK ["onward","begin","row"] ["onward","begin"] (ao oH):=⟨rfl,rfl,rfl,⋯,rfl,⋯,⋯⟩
theorem Ci{f:Addr}(U:Fun K "walked" "walked" oH f fd):ai P w K mg base CX0 1 f fd ["onward","begin"] rB:=by
 show U.ok wN (by rintro _ _ _ _ ⟨_,_,_,_,rfl,_⟩;rfl) λOZ A outer s0 H vs Q E0 T h=>?_
 obtain⟨d,l,R,s,rfl,hd,hl,inj,ab,hs,q⟩:=h;have L:=cU T;show⟨_,ah (sx 2 wN.nd (bT (pa1 (pv 1))))
  (ah (lE cY (a7 ke (Es L (pv 0) (ixx cQ (pv 2) (jh ja aj)) (pv 1) ⟨rfl,rfl,rfl,rfl⟩) (pv 1) (nomark _))
   (ak (du (dJ eJ gK gL eZ (pv 2) (pa1 (iC L (pv 0) (ixx cQ (pv 2) (jh ja aj)) (λ_ _=>rfl)))))))
  (ak (aD (pv 2)))),?_⟩
 have ap:=line5000;have key:∀p,p∈l.map (·.1)↔∃q,R p q:=λp=>by
  constructor
  .intro h;obtain⟨⟨a,b⟩,h1,rfl⟩:=ar.mp h;show⟨b,(ab.mem _ _).mp h1⟩
  rintro⟨q,g⟩;show ar.mpr ⟨_,(ab.mem _ _).mpr g,rfl⟩
 show⟨_,rfl,lit1,λr H1 X s1 Y=>?_⟩;show⟨λm Z H'=>∃ps:List Nat,Z=[some (.ref d),some (.int (s:Int)),some (.ref r)]/\m=l.length+1-ps.length/\Same H H'/\H' r=some (.lst (nV ps))/\ps.length<=l.length+1/\ps.Nodup/\ps[0]?=some s/\(∀i p q,ps[i]?=some p->ps[i+1]?=some q->R p q),
  ⟨_,[s],rfl,rfl,s1,Y,∅,∅,rfl,λi p q h1 h2=>by simp at h2⟩,?_⟩
 rintro m Z H' ⟨ps,rfl,rfl,sm,j,aM,nd,u,ch⟩;have v:=(aI.mp u).1;obtain⟨z,hz⟩:∃z,ps[ps.length-1]?=some z:=⟨_,aX ()⟩;have C:Rd H' d (.dK (l.map nmV)):=(Sm.of sm).rd hd;have M:=Hs hz;have D:H r=none:=X;show⟨_,rfl,d,rfl,.inl ⟨_,C⟩,_,rfl,_,rfl,r,_,_,_,rfl,rfl,SqL.of j,M,_,rfl,_,.inl ⟨_,Sum.inl (z:Int),C,rfl,rfl⟩,?_⟩;by_cases B:z∈l.map (·.1)
 .obtain⟨i,x,h1,h2,_⟩:=j3 B;have hx:(z,x)∈l:=aZ h1;have E:R z x:=(ab.mem _ _).mp hx;rw[h2];show⟨_,rfl,rfl,_,rfl,?_⟩;change if (!decide (V.int (x:Int)=V.int (s:Int)))=true then _ else _
  rw[kq];by_cases N:x=s
  .subst N;rw[OV rfl];show aB ⟨_,rfl,q r ps H' D sm j () ⟨λz=>by rw[z] at v;simp at v,nd,ch⟩ u λz' y=>.inr (by rw[hz] at y;cases y;show E)⟩
  rw[OW ()];have ad:∀p∈ps,p∈l.map (·.1):=λp n=>by
   obtain⟨i,hi⟩:=eI n;have ag:=(aI.mp hi).1;by_cases al:i+1<ps.length
   .exact (key p).mpr ⟨_,ch i p _ hi (aX al)⟩
   rw[show i=ps.length-1 by lia,hz] at hi;cases hi;show B
  have hlen:=lx nd ad;rw[ay] at hlen;show aO ⟨λZ' I=>∃c:List Nat,Z'=[some (.ref d),some (.int (s:Int)),some (.ref r)]/\c.length=ps.length+1/\Same H I/\I r=some (.lst (nV c))/\c.Nodup/\c[0]?=some s/\(∀i p q,c[i]?=some p->c[i+1]?=some q->R p q),
   λZ' I ⟨c,e,h1,h2,h3,h4,h5,h6⟩=>⟨l.length+1-c.length,(),c,e,rfl,h2,h3,(),h4,h5,h6⟩,?_⟩
  show⟨_,rfl,.inl ⟨rfl,_,SqL.of j⟩,_,rfl,_,rfl,_,rfl,r,_,_,_,rfl,rfl,SqL.of j,M,d,V.int (x:Int),rfl,.inl ⟨_,Sum.inl (z:Int),C,rfl,h2.symm⟩,r,_,_,rfl,rfl,j,by rw[bz];lia,λH2 k2 y2=>?_⟩;show⟨ps++[x],rfl,by rw[aU,bY],λb' o e=>?_,by rw[y2,pN,fi],?_,?_,λi p J n g=>?_⟩
  .rw[k2 _ (au e D)];show sm _ _ e
  .rw[bV];show⟨nd,∅,λa ha b O=>?_⟩;rw[aQ] at O;rintro rfl;subst O;obtain⟨i,hi⟩:=eI ha;cases i with
   |zero=>rw[u] at hi;cases hi;show N rfl
   |succ i=>
    have ag:=(aI.mp hi).1;obtain⟨o,S⟩:∃o,ps[i]?=some o:=⟨_,aX ()⟩;have:=inj _ _ _ (ch i o a S hi) E;subst this;have:=gQ nd S hz;lia
  .rw[ef v];show u
  by_cases hi:i+1<ps.length
  .rw[ef ()] at n;rw[ef hi] at g;show ch i p J n g
  have am:=(aI.mp g).1;rw[aU,bY] at am;rw[ef (),show i=ps.length-1 by lia,hz] at n;rw[iO (),show i+1-ps.length=0 by lia] at g;cases n;cases g;show E
 rw[tD B];show⟨_,rfl,rfl,_,rfl,?_⟩;change if (!decide (V.int (s:Int)=V.int (s:Int)))=true then _ else _
 rw[kq,OV rfl];show aB ⟨_,rfl,q r ps H' D sm j () ⟨λz=>by rw[z] at v;simp at v,nd,ch⟩ u λz' y=>.inl λJ an=>B ((key z).mpr ⟨J,by rw[hz] at y;cases y;show an⟩)⟩
theorem Ca:aK ["skin"] ["skin"] (ao nQ):=⟨rfl,rfl,rfl,⋯,rfl,⋯,⋯⟩
theorem BS{f Cs:Addr}(U:Fun K "rim_steps" "rim_steps" nQ f fd)(X:SCls K Cs):ai P w K mg base CX0 1 f fd ["skin"] (vF Cs):=by
 show U.ok Ca (by rintro _ _ _ _ ⟨_,_,_,rfl,_⟩;rfl) λOZ A outer s H vs Q E hr h=>?_
 obtain⟨x,ts,us,rfl,sk,q⟩:=h;obtain⟨kt,dx,O,R,p,S,vo,L,sk,_⟩:=sk;have g:=kt.sk.g;have ab:=kt.sk.o;have hl:=kt.ln;have hx:=sk.ob;have hD:=sk.th;have hu:=cU hr;have al:=line5000;show⟨_,ak (aD (Et (N:=["a","b","skin"]) (fr:=[none,none,some 0]) (g:=kl [] 2 (fU (cI 0) (fU (cI 1) km))) (tt:=tB (xC (qm (dv (aW 1) (dv (aW 0) eV))) (tFld K (aW 2) "thirds"))) (c9 ⋯ rfl rfl ⋯ ⋯ (by walk_at"cs") (by walk_at"ct")) rfl (yu (jb (pv 0) rfl))
    (λC' s' H' fp OY=>⟨cT rfl (aR (gx 0 (⋯:(["a","b","skin"]:List Str).Nodup)) (aR (gx 1 (⋯:(["a","b","skin"]:List Str).Nodup)) cP)),
     gR (gB (nX hu (aJ (ae (pv 1) (pa1 (pv 0)))) (jb (pv 2) rfl))),pv 0,pv 1⟩))),?_⟩
 show⟨_,rfl,x,Cs,dx,_,_,rfl,hx,X.cl,X.thirds,rfl,p,_,rfl,hD,True.intro,λks vs o H2 hk fz=>?_⟩;have M:=E3 hk;have lk:=aH M;have m:Sm H H2:=fz.sm;have ad:=m.keep hx (λz=>z);have T:=fz.at;have ag:SdsAt H2 ks ((ents ts).map (·.1)):=Paired.imp' (λ_ _ ⟨a,e,h⟩=>⟨a,e,m.keep h (λz=>z)⟩) M;intro D r;show Cu (d:=p) (o:=o) (u:=.dT ((ents ts).map bj)) (ks:=ks) (λi Z H'=>∃B C,Z=[B,C,some (.ref x)]/\Same H2 H'/\H' D=some (.dK ((dh ts ((ents ts).take i)).map nmV))) ⟨none,none,rfl,bL r,aN⟩ (λi Z H' _ ⟨_,_,_,e,_⟩=>e _ _ T) ?_ ?_
 .rintro i y Z H' hi ⟨B,C,rfl,sm,n⟩;obtain⟨⟨a,b⟩,Y,c,rfl,hc⟩:=cj ag hi;rw[bf] at Y;obtain⟨⟨⟨a',b'⟩,w'⟩,he,hh⟩:=cw.mp Y;cases hh;have I:(ents ts).take (i+1)=(ents ts).take i++[((a,b),w')]:=by rw[bG,he];rfl
  show⟨c,_,rfl,SqT.of (sm _ _ hc),rfl,_,_,rfl,_,_,rfl,rfl,?_⟩;show⟨_,rfl,_,rfl,lit2,λt1 H3 g1 j y3=>?_⟩;show⟨_,rfl,x,Cs,dx,_,_,rfl,j _ _ (sm _ _ ad),X.cl,X.thirds,rfl,p,_,rfl,.inr ⟨_,ky b a,t1,.inr ⟨o,j _ _ (sm _ _ T)⟩,rfl,y3,rfl⟩,?_⟩;have ll:=wR ts ((ents ts).take i);have lt:((ents ts).take i).length<=600:=by rw[bu,dA];lia
  by_cases l:(b,a)∈(ents ts).map (·.1)
  .have hv:(bh ((ents ts).map bj) (ky b a)).isSome=true:=by
    cases e:bh ((ents ts).map bj) (ky b a) with
    |none=>show (fE.mp e l).elim
    |some v=>rfl
   have J:dh ts ((ents ts).take (i+1))=dh ts ((ents ts).take i):=by rw[I];unfold dh;rw[aL,fq];change _++List.filter _ [(a,b)]=_;rw[List.filter_cons_of_neg ‹l›];simp
   show⟨false,by rw[hv];rfl,aB ⟨_,_,rfl,sm.trans j,by rw[J];show j _ _ n⟩⟩
  have J:dh ts ((ents ts).take (i+1))=dh ts ((ents ts).take i)++[(a,b)]:=by rw[I];unfold dh;rw[aL,fq];change _++List.filter _ [(a,b)]=_;rw[List.filter_cons_of_pos ‹l›];rfl
  have hn:a∉(dh ts ((ents ts).take i)).map (·.1):=λz=>by
   obtain⟨⟨a2,b2⟩,h1,h2⟩:=ar.mp z;have h2:a2=a:=h2;subst h2;have r1:=Ee (λe he=>List.mem_of_mem_take he) h1;have r2:bc (En ts) a2 b:=sV.mpr ⟨ar.mpr ⟨_,aZ he,rfl⟩,l⟩;have eb:=(rA g ab).1 _ _ _ r1 r2;subst eb;unfold dh at h1;have h3:=(dG.mp h1).1;have nd:=g.nd;rw[<-ig (i+1) (ents ts),I,aL,aL,bV,bV] at nd;show nd.1.2.2 _ h3 _ ∅ rfl
  show⟨true,by rw[fE.mpr l];rfl,aO ⟨_,rfl,_,rfl,_,Sum.inl (a:Int),j _ _ n,rfl,by rw[ay];lia,_,_,rfl,λb' o' e=>?_,?_⟩⟩
  .rw[av (au e r)];show j _ _ (sm _ _ e)
  rw[aN];change some (HO.dK (cn _ (Sum.inl (a:Int)) (V.int (b:Int))))=_;rw[pH hn,J]
 rintro Z H' ⟨B,C,rfl,sm,n⟩;show q D H' (m.free r) (m.trans (Sm.of sm)) ?_;rw[n,iR (by rw[lk,ay];show aq _)]
end
end K15
end
section
namespace L2
open PySem PySem.Spec PyProof.Rows
def KTup(K:W.Frag)(p:Addr)(xs:List V):Prop:=∃(o:Obj)(a:Array Value)(n:Nat),K.lookup p=some o/\o.cls=.type "tuple"/\o.data=.seq a n/\Vals xs a.toList
def KO(K:W.Frag)(x y:V)(H:Hp)(Q:VK)(p:Addr)(xs:List V):Prop:=y=.ref p/\KTup K p xs/\fV x=true/\xs.all fV=true/\Q (.bl (inV x xs)) H
def rInK(K:W.Frag):R2:=λx y H Q=>Exists (Ex2 (KO K x y H Q))
theorem pL:OpR X (compareOp .In) (rInK X.K):=by intro OY s Z H x y v u Q I b c h;obtain⟨p,xs,rfl,⟨o,a,n,lk,d,hd,r⟩,f,fs,q⟩:=h;cases c;have e:=I.kIn p o lk;show M6 (eqU x) (items:=a) ⟨o,e,d,n,hd⟩ (λw hw=>jJ b f r fs w ‹hw›) ⟨.bl _,H,I,rfl,?_⟩;rw[show a.any (eqU x)=a.toList.any (eqU x) by simp,jS r fs];show q
end L2
end
section
namespace K15
open PySem L2 K51 K31
abbrev sdT(m n:Nat):HO:=.tup [.int (m:Int),.int (n:Int)]
inductive Kd
 |turn|out|draw|inn|on|close
def Kd.sgn:Kd->Str
 |.turn=>"turn" | .out=>"out" | .draw=>"draw" | .inn=>"in" | .on=>"on" | .close=>"close"
def Kd.wis:Kd->Bool
 |.turn=>false | .out=>false | .draw=>false | .inn=>true | .on=>true | .close=>true
def f_(H:Hp)(d:Addr)(k:Kd)(m n x:Nat):Prop:=∃a,H a=some (sdT m n)/\H d=some (.tup (.str k.sgn::.ref a::if k.wis then [.int (x:Int)] else []))
theorem f_.same(s:Same H H'){d:Addr}{k:Kd}{m n x:Nat}(h:f_ H d k m n x):f_ H' d k m n x:=by obtain⟨a,h1,h2⟩:=h;show⟨a,s _ _ h1,s _ _ h2⟩
abbrev z5:List V:=[.str "turn",.str "out",.str "draw"]
abbrev qk:List V:=[.str "in",.str "on",.str "close"]
abbrev rimK:List V:=[.str "on",.str "close"]
def CK(vs:List V)(H:Hp)(Q:VK)(a:Addr)(m n:Nat):Prop:=vs=[.ref a]/\H a=some (sdT m n)/\Q (.bl true) H
def wI:Sp:=λvs H Q _=>Exists (Ex3 (CK vs H Q))
def CL(vs:List V)(H:Hp)(Q:VK)(d:Addr)(k:Kd)(m n x:Nat):Prop:=vs=[.ref d]/\f_ H d k m n x/\∀H',Same H H'->Q (.bl true) H'
def wJ:Sp:=λvs H Q _=>Exists (Ex5 (CL vs H Q))
def CN(vs:List V)(H:Hp)(Q:VK)(d:Addr)(k:Kd)(m n x:Nat):Prop:=vs=[.ref d]/\f_ H d k m n x/\∀d' H',Same H H'->f_ H' d' k m n x->Q (.ref d') H'
def wK:Sp:=λvs H Q _=>Exists (Ex5 (CN vs H Q))
section
theorem rP:aK ["thing","a","b"] ["thing"] (ao oK):=⟨rfl,rfl,rfl,⋯,rfl,⋯,⋯⟩
theorem C6{f d:Addr}{fd e:FuncData}(U:Fun K "is_pair" "is_pair" oK f fd)(T:cq mg)(F:mv K)(G:Use P w K mg base 2 "is_corner" ["thing"] lj d e) :
  ai P w K mg base CX0 3 f fd ["thing"] wI:=by
 show U.ok rP (by rintro _ _ _ _ ⟨_,_,_,rfl,_⟩;rfl) λg A outer s H vs Q E b h=>?_
 obtain⟨a,m,n,rfl,ha,q⟩:=h;show⟨_,ah (bq (PW.pt (fT (dI (dg (cz (jF (c:="tuple")) (by rfl) T.isi mQ (ae (pv 0) (pa1 (jQ (v:=.ty "tuple") rfl T.tuple jw rfl))))))
    (gA (a7 ke (pln T.len (pv 0)) aj (nomark _))))) (ak (aD fj)) bp)
  (ah (ff (pv 0) (cT rfl (aR (gx 1 rP.nd) (aR (gx 2 rP.nd) cP))))
  (ak (aD (j1 (uc G b (pa1 (pv 1))) (j0 (uc G b (pa1 (pv 2)))))))),?_⟩
 show⟨_,rfl,_,_,true,rfl,.tup ha,F.t,_,rfl,gG ?_⟩;show⟨_,rfl,a,_,rfl,.inr (SqT.of ha),rfl,_,rfl,?_⟩;show aB ⟨_,rfl,a,_,rfl,SqT.of ha,rfl,_,_,rfl,_,_,rfl,rfl,?_⟩;show⟨_,rfl,m,rfl,_,rfl,aO ⟨_,rfl,n,rfl,q⟩⟩
theorem Eb:aK ["thing"] ["thing"] (ao jO):=⟨rfl,rfl,rfl,⋯,rfl,⋯,⋯⟩
theorem C7{f r u b e:Addr}{fd y z:FuncData}(U:Fun K "is_deed" "is_deed" jO f fd)(T:cq mg)(F:mv K)(l:W.kitOne K (.type "str") (.type "str")=some true)(G:Use P w K mg base 2 "is_corner" ["thing"] lj r y)(B:Use P w K mg base 3 "is_pair" ["thing"] wI u z)
  (C:mg "AT_A_SIDE" = some (.ref b)) (D:KTup K b z5) (I:mg "WITH_A_CORNER" = some (.ref e)) (J:KTup K e qk):ai P w K mg base CX0 4 f fd ["thing"] wJ:=by
 show U.ok Eb (by rintro _ _ _ _ ⟨_,_,_,_,_,rfl,_⟩;rfl) λo A outer s H vs Q E p h=>?_
 obtain⟨d,k,m,n,x,rfl,⟨g,h1,h2⟩,q⟩:=h;have L:Room 3 (A.deeper (PyProof.Rows.envOfC "is_deed" (ao jO) ↥s f o)):=p.mono ⋯;have M:Room 2 (A.deeper (PyProof.Rows.envOfC "is_deed" (ao jO) ↥s f o)):=p.mono ⋯;show⟨_,ah (bq (PW.pt (fT (dI (dg (cz (jF (c:="tuple")) (by rfl) T.isi mQ (ae (pv 0) (pa1 (jQ (v:=.ty "tuple") rfl T.tuple jw rfl))))))
    (gA (a7 ij (pln T.len (pv 0)) (aJ (ae aj (pa1 aj))) rfl)))) (ak (aD fj)) bp)
  (ah (bq (PW.pt (fT (dI (dg (cz (jF (c:="str")) (by rfl) T.isi mQ (ae (ixx bD (pv 0) aj) (pa1 (jQ (v:=.ty "str") rfl T.str NV rfl))))))
    (gA (dI (dg (uc B L (pa1 (ixx bD (pv 0) aj)))))))) (ak (aD fj)) bp)
  (ah (bq (a7 dM (pln T.len (pv 0)) aj (nomark _)) (ak (aD (fP pL (ixx bD (pv 0) aj) (lO (v:=.ref b) rfl C rfl) rfl))) bp)
  (ak (aD (j1 (fP pL (ixx bD (pv 0) aj) (lO (v:=.ref e) rfl I rfl) rfl) (j0 (uc G M (pa1 (ixx bD (pv 0) aj))))))))),?_⟩
 have kw:∀k:Kd,inV (.str k.sgn) z5=!k.wis/\inV (.str k.sgn) qk=k.wis:=λk=>by cases k<;>show⟨⋯,⋯⟩
 cases hw:k.wis with
 |true=>
  rw[hw] at h2;have h2:H d=some (.tup [.str k.sgn,.ref g,.int (x:Int)]):=h2;show⟨_,rfl,_,_,true,rfl,.tup h2,F.t,_,rfl,gG ?_⟩;show⟨_,rfl,d,_,rfl,.inr (SqT.of h2),lit2,λi H1 N s1 j=>?_⟩;have a:=s1 _ _ h2;show⟨i,_,rfl,.inr (SqT.of j),rfl,rfl,_,rfl,aB ?_⟩;show⟨_,rfl,d,_,_,_,rfl,rfl,SqT.of a,rfl,_,_,true,rfl,.str _,l,_,rfl,gG ?_⟩;show⟨_,rfl,d,_,_,_,rfl,rfl,SqT.of a,rfl,g,m,n,rfl,s1 _ _ h1,_,rfl,iL ?_⟩;show⟨_,rfl,d,_,rfl,.inr (SqT.of a),rfl,_,rfl,aB ?_⟩;show⟨_,rfl,d,_,_,_,rfl,rfl,SqT.of a,rfl,e,_,rfl,J,rfl,rfl,_,rfl,?_⟩;rw[(kw k).2,hw];show aO ⟨_,rfl,d,_,_,_,rfl,rfl,SqT.of a,rfl,x,rfl,q _ s1⟩
 |false=>
  rw[hw] at h2;have h2:H d=some (.tup [.str k.sgn,.ref g]):=h2;show⟨_,rfl,_,_,true,rfl,.tup h2,F.t,_,rfl,gG ?_⟩;show⟨_,rfl,d,_,rfl,.inr (SqT.of h2),lit2,λi H1 N s1 j=>?_⟩;have a:=s1 _ _ h2;show⟨i,_,rfl,.inr (SqT.of j),rfl,rfl,_,rfl,aB ?_⟩;show⟨_,rfl,d,_,_,_,rfl,rfl,SqT.of a,rfl,_,_,true,rfl,.str _,l,_,rfl,gG ?_⟩;show⟨_,rfl,d,_,_,_,rfl,rfl,SqT.of a,rfl,g,m,n,rfl,s1 _ _ h1,_,rfl,iL ?_⟩;show⟨_,rfl,d,_,rfl,.inr (SqT.of a),rfl,_,rfl,aO ?_⟩;show⟨_,rfl,d,_,_,_,rfl,rfl,SqT.of a,rfl,b,_,rfl,D,rfl,rfl,?_⟩;rw[(kw k).1,hw];show q _ s1
theorem rQ:aK ["thing","a","b"] ["thing"] (ao nB):=⟨rfl,rfl,rfl,⋯,rfl,⋯,⋯⟩
theorem C8{f l:Addr}{fd o:FuncData}(U:Fun K "checked_deed" "checked_deed" nB f fd)(T:cq mg)(G:Use P w K mg base 4 "is_deed" ["thing"] wJ l o):ai P w K mg base CX0 5 f fd ["thing"] wK:=by
 show U.ok rQ (by rintro _ _ _ _ ⟨_,_,_,_,_,rfl,_⟩;rfl) λv A outer s H vs Q E p h=>?_
 obtain⟨d,k,m,n,x,rfl,dd,q⟩:=h;show⟨_,ah (bq (dI (dg (uc G p (pa1 (pv 0))))) jE bp)
  (ah (ff (ixx bD (pv 0) aj) (cT rfl (aR (gx 1 rQ.nd) (aR (gx 2 rQ.nd) cP))))
  (ah (bq (a7 dM (pln T.len (pv 0)) aj (nomark _)) (ak (aD (aJ (ae (ixx bD (pv 0) aj) (pa1 (aJ (ae (c_ gv (by rfl) T.int gJ (pa1 (pv 1))) (pa1 (c_ gv (by rfl) T.int gJ (pa1 (pv 2))))))))))) bp)
  (ak (aD (aJ (ae (ixx bD (pv 0) aj) (ae (aJ (ae (c_ gv (by rfl) T.int gJ (pa1 (pv 1))) (pa1 (c_ gv (by rfl) T.int gJ (pa1 (pv 2)))))) (pa1 (c_ gv (by rfl) T.int gJ (pa1 (ixx bD (pv 0) aj))))))))))),?_⟩
 show⟨_,rfl,d,k,m,n,x,rfl,dd,λH1 s1=>⟨_,rfl,iL ?_⟩⟩;obtain⟨b,h1,h2⟩:=dd.same s1;cases hw:k.wis with
 |true=>
  rw[hw] at h2;have h2:H1 d=some (.tup [.str k.sgn,.ref b,.int (x:Int)]):=h2;show⟨_,rfl,d,_,_,_,rfl,rfl,SqT.of h2,rfl,b,_,rfl,SqT.of h1,rfl,_,_,rfl,_,_,rfl,rfl,?_⟩;show⟨_,rfl,d,_,rfl,.inr (SqT.of h2),rfl,_,rfl,aB ?_⟩;show⟨_,rfl,d,_,_,_,rfl,rfl,SqT.of h2,rfl,_,rfl,.inl ⟨_,rfl,_,rfl,.inl ⟨_,rfl,lit2,λc H2 r s2 e=>?_⟩⟩⟩;show⟨_,rfl,d,_,_,_,rfl,rfl,SqT.of (s2 _ _ h2),rfl,.inl ⟨_,rfl,lit3,λg i u a j=>?_⟩⟩;show q g i ((s1.trans s2).trans a) ⟨c,a _ _ e,by rw[hw];show j⟩
 |false=>
  rw[hw] at h2;have h2:H1 d=some (.tup [.str k.sgn,.ref b]):=h2;show⟨_,rfl,d,_,_,_,rfl,rfl,SqT.of h2,rfl,b,_,rfl,SqT.of h1,rfl,_,_,rfl,_,_,rfl,rfl,?_⟩;show⟨_,rfl,d,_,rfl,.inr (SqT.of h2),rfl,_,rfl,aO ?_⟩;show⟨_,rfl,d,_,_,_,rfl,rfl,SqT.of h2,rfl,_,rfl,.inl ⟨_,rfl,_,rfl,.inl ⟨_,rfl,lit2,λc H2 r s2 e=>?_⟩⟩⟩;show⟨lit2,λg i u a j=>q g i ((s1.trans s2).trans a) ⟨c,a _ _ e,by rw[hw];show j⟩⟩
end
theorem bU.obj{C:Addr}{x:Addr}{ts us:List Tri}(h:bU C H x ts us):∃dx O R D S,H x=some (.ins C dx (sflds O R D S)):=by obtain⟨_,dx,O,R,D,S,a,L,h,_⟩:=h;show⟨dx,O,R,D,S,h.ob⟩
theorem uh{u:TT}{Q:Bool->Hp->Prop}(h:u Z H Q):ue u Z Q true H:=aO (B:=Q false H) h
theorem Ac{u:TT}{Q:Bool->Hp->Prop}(h:Q false H):ue u Z Q false H:=aB (A:=u Z H Q) h
def Kd.rim:Kd->Bool
 |.on=>true | .close=>true|_=>false
def Kx(Cs:Addr)(vs:List V)(H:Hp)(Q:VK)(x:Addr)(ts us:List Tri)(n:Nat):Prop:=vs=[.ref x,.int (n:Int)]/\bU Cs H x ts us/\Co ts n/\Q (.int (n:Int)) H
def spCC(Cs:Addr):Sp:=λvs H Q _=>Exists (Ex4 (Kx Cs vs H Q))
def DQ(Cs:Addr)(vs:List V)(H:Hp)(Q:VK)(x:Addr)(ts us:List Tri)(n:Nat):Prop:=vs=[.ref x,.int (n:Int)]/\bU Cs H x ts us/\Co ts n/\
 ∀r ps H',H r=none->Sm H H'->H' r=some (.lst (nV ps))->ps.length<=1001->Path (En ts n) ps->(∀z,ps[ps.length-1]?=some z->∀b,ps[0]?=some b->(∀q,¬En ts n z q)\/En ts n z b)->(∀b,ps[0]?=some b->∃q,En ts n b q)->Q (.ref r) H'
def xG(Cs:Addr):Sp:=λvs H Q _=>Exists (Ex4 (DQ Cs vs H Q))
def DT(Cs a:Addr)(vs:List V)(H:Hp)(Q:VK)(E:XK)(x d:Addr)(ts us:List Tri)(k:Kd)(m n y:Nat):Prop:=vs=[.ref x,.ref d]/\bU Cs H x ts us/\f_ H d k m n y/\(∃c,En ts m n c)/\(k.rim=true->∀c,¬En ts n m c)/\
 (∀H',Same H H'->(k=.turn->∃c,En ts n m c)->Q .non H')/\∀H',Same H H'->k=.turn->(∀c,¬En ts n m c)->E (.ref a) none H'
def xJ(Cs a:Addr):Sp:=λvs H Q E=>Exists (Ex8 (DT Cs a vs H Q E))
def DU(Cs:Addr)(vs:List V)(H:Hp)(Q:VK)(x d:Addr)(ts us:List Tri)(k:Kd)(m n y:Nat):Prop:=vs=[.ref x,.ref d]/\bU Cs H x ts us/\f_ H d k m n y/\(k.wis=true->¬Co ts y)/\Q .non H
def xK(Cs:Addr):Sp:=λvs H Q _=>Exists (Ex8 (DU Cs vs H Q))
section
theorem scCC:aK ["skin","thing"] ["skin","thing"] (ao nv):=⟨rfl,rfl,rfl,⋯,rfl,⋯,⋯⟩
theorem K3{f c Cs:Addr}{fd d:FuncData}(U:Fun K "checked_corner" "checked_corner" nv f fd)(T:cq mg)(X:SCls K Cs)(G:Use P w K mg base 2 "is_corner" ["thing"] lj c d):ai P w K mg base CX0 3 f fd ["skin","thing"] (spCC Cs):=by
 show U.ok scCC (by rintro _ _ _ _ ⟨_,_,_,_,rfl,_⟩;rfl) λl A outer s H vs Q E b h=>?_
 obtain⟨x,ts,us,n,rfl,⟨kt,dx,O,R,D,S,m,L,sk,nk,e⟩,g,q⟩:=h;have i:=cU b;show⟨_,ah (bq (PW.pt (fT (dI (dg (uc G b (pa1 (pv 1))))) (gA (gB (nX i (pv 1) (jb (pv 0) rfl)))))) jE bp)
  (ak (aD (c_ gv (by rfl) T.int gJ (pa1 (pv 1))))),?_⟩
 obtain⟨a,_,j⟩:=lV ((e n).mpr g);show⟨_,rfl,n,rfl,_,rfl,gG ?_⟩;show⟨_,rfl,_,rfl,x,Cs,dx,_,_,rfl,sk.ob,X.cl,X.steps,rfl,S,_,rfl,.inl ⟨_,Sum.inl (n:Int),sk.st,rfl,j.symm⟩,false,rfl,aB ⟨_,rfl,.inl ⟨_,rfl,q⟩⟩⟩
theorem xW:aK ["skin","corner","about"] ["skin","corner"] (ao og):=⟨rfl,rfl,rfl,⋯,rfl,⋯,⋯⟩
theorem EB{f p u v Cs:Addr}{fd y B C:FuncData}(U:Fun K "round_of" "round_of" og f fd)(X:SCls K Cs)
  (I:Use P w K mg base 3 "checked_corner" ["skin","thing"] (spCC Cs) p y) (J:Use P w K mg base 3 "first_of" ["onward"] sL u B) (M:Use P w K mg base 3 "walked" ["onward","begin"] rB v C) :
  ai P w K mg base CX0 4 f fd ["skin","corner"] (xG Cs):=by
 show U.ok xW (by rintro _ _ _ _ ⟨_,_,_,_,rfl,_⟩;rfl) λOZ A outer s H vs Q E e h=>?_
 obtain⟨x,ts,us,n,rfl,l,i,q⟩:=h;obtain⟨kt,dx,O,R,D,S,vo,L,sk,nk,N⟩:=id l;have g:=kt.sk.g;have T:=cU e;show⟨_,ah (sx 2 xW.nd (iC T (jb (pv 0) rfl) (uc I e (ae (pv 0) (pa1 (pv 1)))) (λ_ _=>rfl)))
  (ak (aD (uc M e (ae (pv 2) (pa1 (uc J e (pa1 (pv 2)))))))),?_⟩
 show⟨_,rfl,x,Cs,dx,_,_,rfl,sk.ob,X.cl,X.steps,rfl,_,rfl,_,rfl,x,ts,us,n,rfl,l,i,?_⟩;obtain⟨a,ha,Y⟩:=lV ((N n).mpr i);have m:=sk.ab _ ha;have Z:abt (ents ts) n≠[]:=λz=>by
  obtain⟨p',q',h⟩:=i;have:=jT.mpr h;rw[z] at this;cases this
 have an:=kt.ln;have hlen:(abt (ents ts) n).length<=1000:=by have:=tu (ents ts) n;rw[dA] at this;lia
 have st:mf (En ts n) (abt (ents ts) n):=⟨zN g.nd n,λ_ _=>jT⟩;show⟨S,_,rfl,.inl ⟨_,Sum.inl (n:Int),sk.st,rfl,Y.symm⟩,_,rfl,_,rfl,a,_,rfl,m,Z,hlen,λs' H1 j o _=>?_⟩;show⟨a,_,En ts n,s',rfl,j.rd m,hlen,λa b c h1 h2=>g.sk.inj h1 h2,st,o,λr ps H' ad s2 ag al am hd en=>q r ps H' (j.free ad) (j.trans (Sm.of s2)) ag al am (λz hz b d=>?_) λb d=>?_⟩
 .rw[hd] at d;cases d;show en z hz
 rw[hd] at d;cases d;show (st.key s').mp o
theorem oE:aK ["skin","deed","a","b","at_rim"] ["skin","deed"] (ao kY):=⟨rfl,rfl,rfl,⋯,rfl,⋯,⋯⟩
theorem EG{f B Cs l i:Addr}{fd C:FuncData}(U:Fun K "look_side_through" "look_side_through" kY f fd)(X:SCls K Cs)(M:eB P w K mg base Cs 1 "third" ["self","a","b"] (iZ Cs) B C)
  (mN:mg "NoSide" = some (.ref l)) (I:W.excIn K l bmV "ValueError.__new__" = true) (J:mg "AT_A_RIM" = some (.ref i)) (L:KTup K i rimK):ai P w K mg base (CX1 P w) 2 f fd ["skin","deed"] (xJ Cs l):=by
 show U.ok1 oE (λvs H Q E h=>?_) (λN A outer s H vs Q E o h=>?_)
 .obtain⟨x,d,ts,us,k,m,n,y,rfl,_⟩:=h;rfl
 obtain⟨x,d,ts,us,k,m,n,y,rfl,sk,dd,⟨c,T⟩,Y,q,Z⟩:=h;have r:Room 1 (A.deeper (PyProof.Rows.envOfC "look_side_through" (ao kY) ↥s f N)):=o.mono ⋯;show⟨_,ah (ff (ixx bD (pv 1) aj) (cT rfl (aR (gx 2 oE.nd) (aR (gx 3 oE.nd) cP))))
  (ah (bq (gB (l6 (gU (pv 0) X.cl M.m M.g r M.b .nil pass0 (ae (pv 2) (pa1 (pv 3)))))) jE bp)
  (ah (sx 4 oE.nd (tU (l6 (gU (pv 0) X.cl M.m M.g r M.b .nil pass0 (ae (pv 3) (pa1 (pv 2)))))))
  (ah (bq (PW.pt (iF (dg (pv 4)) (iy (a7 dM (ixx bD (pv 1) aj) de (nomark _))))) (ak (El lets1 rfl rfl rfl mN I (pa1 de))) bp)
  (ak (bq (PW.pt (iF (dI (dg (pv 4))) (iy (a7 pL (ixx bD (pv 1) aj) (lO (v:=.ref i) rfl J rfl) rfl)))) jE bp))))),?_⟩
 obtain⟨sd,h1,h2⟩:=id dd;obtain⟨dx,O,R,D,S,hx⟩:=sk.obj;show⟨_,rfl,d,_,_,_,rfl,rfl,SqT.of h2,bO (j:=1) rfl,sd,_,rfl,SqT.of h1,rfl,_,_,rfl,_,_,rfl,rfl,?_⟩;show⟨_,rfl,x,dx,_,rfl,hx,rfl,_,rfl,_,rfl,x,ts,us,m,n,rfl,sk,λH1 s1=>⟨λc' ad=>?_,λz=>(z c T).elim⟩⟩;show⟨_,rfl,aB ?_⟩;show⟨_,rfl,x,dx,_,rfl,s1 _ _ hx,rfl,_,rfl,_,rfl,x,ts,us,n,m,rfl,sk.sm (Sm.of s1),λH2 s2=>⟨λc2 u=>?_,λab=>?_⟩⟩
 .refine⟨_,rfl,_,rfl,aB ⟨_,rfl,_,rfl,?_⟩⟩;show uh ⟨_,rfl,d,_,_,_,rfl,rfl,SqT.of (s2 _ _ (s1 _ _ h2)),bO (j:=0) rfl,i,_,rfl,L,rfl,rfl,_,rfl,?_⟩;have e:inV (.str k.sgn) rimK=false:=by
   have o:k.rim=false:=by
    cases z:k.rim with
    |false=>rfl
    |true=>show (Y z c2 u).elim
   cases k<;>first|decide +kernel|cases o
  rw[e];show aB (q H2 (s1.trans s2) λ_=>⟨c2,u⟩)
 show⟨_,rfl,_,rfl,uh ⟨_,rfl,d,_,_,_,rfl,rfl,SqT.of (s2 _ _ (s1 _ _ h2)),bO (j:=0) rfl,rfl,_,rfl,?_⟩⟩;by_cases p:k=.turn
 .subst p;show aO ⟨lit1,?_⟩;show Z H2 (s1.trans s2) rfl ab
 have e:decide (V.str k.sgn=V.str "turn")=false:=by cases k<;>first|show absurd rfl p|decide +kernel
 rw[e];show aB ⟨_,rfl,_,rfl,Ac (aB (q H2 (s1.trans s2) λz=>(p z).elim))⟩
theorem F4:aK ["skin","deed"] ["skin","deed"] (ao nr):=⟨rfl,rfl,rfl,⋯,rfl,⋯,⋯⟩
theorem EI{f Cs a:Addr}(U:Fun K "look_corner_through" "look_corner_through" nr f fd)(X:SCls K Cs)(b:mg "WITH_A_CORNER" = some (.ref a))(c:KTup K a qk):ai P w K mg base CX0 1 f fd ["skin","deed"] (xK Cs):=by
 show U.ok F4 (by rintro _ _ _ _ ⟨_,_,_,_,_,_,_,_,rfl,_⟩;rfl) λp A outer s H vs Q E g h=>?_
 obtain⟨x,d,ts,us,k,m,n,y,rfl,⟨kt,dx,O,R,D,S,r,L,sk,nk,i⟩,dd,l,q⟩:=h;have o:=cU g;show⟨_,ak (bq (PW.pt (iF (a7 pL (ixx bD (pv 1) aj) (lO (v:=.ref a) rfl b rfl) rfl) (iy (gB (pJ o (ixx bD (pv 1) aj) (jb (pv 0) rfl)))))) jE bp),?_⟩;obtain⟨u,h1,h2⟩:=dd;show⟨_,rfl,d,_,_,_,rfl,rfl,SqT.of h2,bO (j:=0) rfl,a,_,rfl,c,rfl,rfl,_,rfl,?_⟩;have e:inV (.str k.sgn) qk=k.wis:=by cases k<;>decide +kernel
 rw[e];cases hw:k.wis with
 |false=>show Ac (aB q)
 |true=>
  rw[hw] at h2;show uh ⟨_,rfl,d,_,_,_,rfl,rfl,SqT.of h2,rfl,_,rfl,x,Cs,dx,_,_,rfl,sk.ob,X.cl,X.steps,rfl,S,_,rfl,.inl ⟨_,Sum.inl (y:Int),sk.st,rfl,(y_ λz=>l hw ((i y).mp z)).symm⟩,false,rfl,aB q⟩
end
def cW(u:Tri):PyData:=.tuple [.int (u.1:Int),.int (u.2.1:Int),.int (u.2.2:Int)]
theorem za{a:Addr}{u:Tri}(h:H a=some (tri3 u)):Dt [] H (.ref a) (cW u):=.tup (SqT.of h) (.cons (.int _) (.cons (.int _) (.cons (.int _) .nil)))
theorem tE{us:List Tri}(h:aA H vs us):Dts [] H vs (us.map cW):=by
 induction h with
 |nil=>show .nil
 |cons q _ b=>
  obtain⟨a,rfl,ha⟩:=q;show .cons (za ha) b
theorem rK(u v:Tri):PyData.eqv (cW u) (cW v)=decide (u=v):=by obtain⟨a,b,c⟩:=u;obtain⟨d,e,f⟩:=v;rw[fm];simp[cW,PyData.eqv,PyData.eqvAll];lia
theorem FB(u:Tri)(us:List Tri):((us.map cW).any λz=>PyData.eqv z (cW u))=decide (u∈us):=by
 rw[uG,fm,decide_eq_true_eq,qG];constructor
 .rintro⟨x,hx,e⟩;have e:PyData.eqv (cW x) (cW u)=true:=e;rw[rK,decide_eq_true_eq] at e;show e ▸ hx
 show λh=>⟨u,h,by change PyData.eqv (cW u) (cW u)=true;rw[rK];simp⟩
def Kt(C:Addr)(vs:List V)(H:Hp)(Q:VK)(x G:Addr)(a:List V)(ts us gone:List Tri):Prop:=vs=[.ref x,.ref G]/\bU C H x ts us/\H G=some (.lst a)/\aA H a gone/\(∀t∈gone,Ne3 t)/\gone.length<=10/\
 ∀r vr H',H r=none->Same H H'->H' r=some (.lst vr)->aA H' vr (wo us gone)->Q (.ref r) H'
def qr(C:Addr):Sp:=λvs H Q _=>Exists (Ex6 (Kt C vs H Q))
section
theorem scWo:aK ["skin","gone","leaving"] ["skin","gone"] (ao kX):=⟨rfl,rfl,rfl,⋯,rfl,⋯,⋯⟩
theorem KZ{f f1 f2 C:Addr}{fd d1 d2:FuncData}(U:Fun K "triangles_without" "triangles_without" kX f fd)(X:SCls K C)(GB:Use P w K mg base 1 "begun_least" ["triple"] sM f1 d1)(M:eB P w K mg base C 1 "triangles" ["self"] (gZ C) f2 d2) :
  ai P w K mg base CX0 2 f fd ["skin","gone"] (qr C):=by
 show U.ok scWo (by rintro _ _ _ _ ⟨_,_,_,_,_,_,rfl,_⟩;rfl) λOZ A outer s H vs Q E hr h=>?_
 obtain⟨x,G,vg,ts,us,gone,rfl,sk,hG,hg,an,hl,q⟩:=h;have ad:Room 1 (A.deeper (PyProof.Rows.envOfC "triangles_without" (ao kX) ↥s f OZ)):=hr.mono ⋯;show⟨_,ah (sx 2 scWo.nd (dB (N:=["triple"]) (fr:=[none]) (vP ⋯ rfl ⋯ ⋯) rfl (bW (pv 1))
    (λC s H fp OY=>⟨gx 0 (⋯:(["triple"]:List Str).Nodup),eO,uc GB ad (pa1 (pv 0))⟩)))
  (ak (aD (dB (N:=["triangle","leaving"]) (fr:=[none,some 2]) (tt:=iI (tOp (mn [] true) (aW 0) (aW 1))) (c9 ⋯ rfl rfl ⋯ ⋯ (by walk_at"cs") (by walk_at"ct")) rfl (bW (eK (pv 0) X.cl M.m M.g ad M.b .nil pass0))
    (λC s H fp OY=>⟨gx 0 (⋯:(["triangle","leaving"]:List Str).Nodup),gR (a7 (CZ hr.units) (pv 0) (pv 1) rfl),pv 0⟩)))),?_⟩
 obtain⟨dx,O,R,D,S,hx⟩:=sk.obj;have hlen:=aH hg;have hz:=line5000;have a3:=sk.1.ln;have a4:us.length<=63:=by have:=sk.1.al.length_eq;rw[ay] at this;lia
 show⟨_,rfl,G,rfl,⟨_,SqL.of hG⟩,λZ_ hZ=>dH (K:=[]) (a:=G) (xs:=vg) (λi Z ys H'=>∃o,Z=[o]/\Same H H'/\H' Z_=some (.lst ys)/\aA H' ys ((gone.take i).map bg)) ⟨none,rfl,bL hZ,aN,.nil⟩
   (λi Z ys H' _ ⟨_,_,e,_⟩=>SqL.of (e _ _ hG)) ?_ ?_⟩
 .rintro i v Z ys H' hi ⟨o,rfl,sm,n,tr⟩;obtain⟨d,I,t,rfl,r⟩:=cj hg hi;have ly:ys.length<=10:=by rw[aH tr,ay,bu];lia
  show⟨_,rfl,t,d,rfl,sm _ _ r,λr' u H5 J L ap=>⟨J _ _ n,(),λHn j T=>⟨some (.ref t),rfl,λb o e=>(j b (au e hZ)).trans (J _ _ (sm _ _ e)),T,?_⟩⟩⟩;have aM:=J _ _ n;have y:∀{c:Addr}{xs:List V},H5 c=some (.tup xs)->c≠Z_:=λe=>bZ e aM ∅;rw[bG,I,aL];rw[Ah (an d (aZ I)) ap] at L;show cD (Paired.imp' (λ_ _ ⟨c,B,p⟩=>⟨c,B,by have e3:=J _ _ p;show (j _ (y e3)).trans e3⟩) tr) (.cons ⟨r',rfl,(j _ (y L)).trans L⟩ .nil)
 rintro Z ys H1 ⟨o,rfl,s1,aS,tr1⟩;rw[hlen,cX] at tr1;show⟨_,rfl,x,dx,_,rfl,s1 _ _ hx,rfl,x,ts,us,rfl,sk.sm (Sm.of s1),λl vo H2 a5 s2 y2 ag=>?_⟩;have a0:=aH ag;show⟨l,rfl,⟨_,SqL.of y2⟩,λY ab=>dH (K:=[]) (a:=l) (xs:=vo) (λi Z zs H'=>∃o,Z=[o,some (.ref Z_)]/\Same H2 H'/\H' Y=some (.lst zs)/\aA H' zs (wo (us.take i) gone)) ⟨none,rfl,bL ab,aN,.nil⟩
  (λi Z ys H' _ ⟨_,_,e,_⟩=>SqL.of (e _ _ y2)) ?_ ?_⟩
 .rintro i v Z zs H' hi ⟨o,rfl,sm,n,tr⟩;obtain⟨d,I,t,rfl,r⟩:=cj ag hi;have ew:wo (us.take (i+1)) gone=wo (us.take i) gone++wo [d] gone:=by rw[bG,I];unfold wo;rw[fq];rfl
  have lz:zs.length<=63:=by have h1:=eg (λt=>!decide (t∈gone.map bg)) (us.take i);have h2:(wo (us.take i) gone).length<=(us.take i).length:=h1;rw[bu] at h2;rw[aH tr];lia
  have a1:H' Z_=some (.lst ys):=sm _ _ (s2 _ _ aS);show⟨_,rfl,_,rfl,cW d,Z_,ys,_,za (sm _ _ r),rfl,.inl (SqL.of a1),tE (Paired.imp' (λ_ _ ⟨c,B,p⟩=>⟨c,B,sm _ _ (s2 _ _ p)⟩) tr1),by simp[cW,PyData.depth,PyData.depthAll],_,rfl,?_⟩;rw[FB,OU rfl];by_cases hm:d∈gone.map bg
  .rw[OV hm];show aB ⟨_,rfl,sm,n,?_⟩;rw[ew,show wo [d] gone=[] from LP.mpr λz hz=>by rw[aQ.mp hz,OV hm];simp,eG];show tr
  rw[OW hm];show aO ⟨_,rfl,n,(),λHn j T=>⟨_,rfl,λb o e=>(j b (au e ab)).trans (sm _ _ e),T,?_⟩⟩;rw[ew,show wo [d] gone=[d] from Au.mpr λz hz=>by rw[aQ.mp hz,OW hm];rfl];have y:∀{c:Addr}{xs:List V},H' c=some (.tup xs)->c≠Y:=λe=>bZ e n ∅;show cD (Paired.imp' (λ_ _ ⟨c,B,p⟩=>⟨c,B,(j _ (y p)).trans p⟩) tr) (.cons ⟨t,rfl,(j _ (y (sm _ _ r))).trans (sm _ _ r)⟩ .nil)
 rintro Z zs H3 ⟨o,rfl,s3,a2,am⟩;rw[a0,cX] at am;show q Y zs H3 (iW (s1.trans s2) ab) ((s1.trans s2).trans s3) a2 am
end
def Outs(H:Hp)(Q:VK)(rs:List Tri):Prop:=∀r vr H',H r=none->Same H H'->H' r=some (.lst vr)->aA H' vr rs->Q (.ref r) H'
def FN(C:Addr)(vs:List V)(H:Hp)(Q:VK)(x:Addr)(ts us:List Tri)(a b c d:Nat):Prop:=vs=[.ref x,.int (a:Int),.int (b:Int)]/\bU C H x ts us/\En ts a b c/\En ts b a d/\Outs H Q (turned us a b c d)
def zd(C:Addr):Sp:=λvs H Q _=>Exists (Ex7 (FN C vs H Q))
def IB(C:Addr)(vs:List V)(H:Hp)(Q:VK)(x:Addr)(ts us:List Tri)(a b c:Nat):Prop:=vs=[.ref x,.int (a:Int),.int (b:Int)]/\bU C H x ts us/\En ts a b c/\Outs H Q (wo us [(a,b,c)])
def zX(C:Addr):Sp:=λvs H Q _=>Exists (Ex6 (IB C vs H Q))
def Kv(C:Addr)(vs:List V)(H:Hp)(Q:VK)(x:Addr)(ts us:List Tri)(a b c y:Nat):Prop:=vs=[.ref x,.int (a:Int),.int (b:Int),.int (y:Int)]/\bU C H x ts us/\En ts a b c/\Outs H Q (inn us a b c y)
def spIn(C:Addr):Sp:=λvs H Q _=>Exists (Ex7 (Kv C vs H Q))
def Ku(C:Addr)(vs:List V)(H:Hp)(Q:VK)(x:Addr)(ts us:List Tri)(a b y:Nat):Prop:=vs=[.ref x,.int (a:Int),.int (b:Int),.int (y:Int)]/\bU C H x ts us/\Outs H Q (us++[(b,a,y)])
def spOn(C:Addr):Sp:=λvs H Q _=>Exists (Ex6 (Ku C vs H Q))
section
theorem tr1{t:Addr}{x:Tri}(h:H t=some (tri3 x)):aA H [.ref t] [x]:=.cons ⟨t,rfl,h⟩ .nil
theorem tJ:aK ["skin","a","b","c","d"] ["skin","a","b"] (ao jB):=⟨rfl,rfl,rfl,⋯,rfl,⋯,⋯⟩
theorem Gz{f N T C:Addr}{fd Y Z:FuncData}(U:Fun K "turned_over" "turned_over" jB f fd)(X:SCls K C)(GW:Use P w K mg base 2 "triangles_without" ["skin","gone"] (qr C) N Y)(M:eB P w K mg base C 1 "third" ["self","a","b"] (iZ C) T Z) :
  ai P w K mg base CX0 3 f fd ["skin","a","b"] (zd C):=by
 show U.ok tJ (by rintro _ _ _ _ ⟨_,_,_,_,_,_,_,rfl,_⟩;rfl) λu A outer s H vs Q E v h=>?_
 obtain⟨x,ts,us,a,b,c,d,rfl,sk,e,i,q⟩:=h;have y:Room 1 (A.deeper (PyProof.Rows.envOfC "turned_over" (ao jB) ↥s f u)):=v.mono ⋯;have ab:Room 2 (A.deeper (PyProof.Rows.envOfC "turned_over" (ao jB) ↥s f u)):=v.mono ⋯;show⟨_,ah (sx 3 tJ.nd (gU (pv 0) X.cl M.m M.g y M.b .nil pass0 (ae (pv 1) (pa1 (pv 2)))))
  (ah (sx 4 tJ.nd (gU (pv 0) X.cl M.m M.g y M.b .nil pass0 (ae (pv 2) (pa1 (pv 1)))))
  (ak (aD (aC fh (uc GW ab (ae (pv 0) (pa1 (bT (ae (aJ (ae (pv 1) (ae (pv 2) (pa1 (pv 3))))) (pa1 (aJ (ae (pv 2) (ae (pv 1) (pa1 (pv 4)))))))))))
   (bT (ae (aJ (ae (pv 1) (ae (pv 4) (pa1 (pv 3))))) (pa1 (aJ (ae (pv 4) (ae (pv 2) (pa1 (pv 3)))))))))))),?_⟩
 obtain⟨dx,O,R,D,S,hx⟩:=sk.obj;have g:=sk.1.sk.g;have n1:=ne3 g e;have n2:=ne3 g i;have hz:=line5000;have am:us.length<=63:=by have:=sk.1.al.length_eq;have:=sk.1.ln;rw[ay] at *;lia
 show⟨_,rfl,x,dx,_,rfl,hx,rfl,_,rfl,_,rfl,x,ts,us,a,b,rfl,sk,λH1 s1=>⟨λc' ad=>?_,λz=>(z c e).elim⟩⟩;cases g.sk.one ad e;show⟨_,rfl,x,dx,_,rfl,s1 _ _ hx,rfl,_,rfl,_,rfl,x,ts,us,b,a,rfl,sk.sm (Sm.of s1),λH2 s2=>⟨λd' ag=>?_,λz=>(z d i).elim⟩⟩;cases g.sk.one ag i;show⟨_,rfl,_,rfl,_,rfl,_,rfl,lit3,λt1 H3 g3 s3 y3=>?_⟩;show⟨_,rfl,_,rfl,_,rfl,lit3,λt2 H4 g4 B y4=>?_⟩;show⟨lit2,λG H5 g5 j y5=>?_⟩;have I:=(s3.trans B).trans j;show⟨x,G,_,ts,us,[(a,b,c),(b,a,d)],rfl,sk.sm (Sm.of ((s1.trans s2).trans I)),y5,.cons ⟨t1,rfl,j _ _ (B _ _ y3)⟩ (tr1 (j _ _ y4)),?_,∅,λr vr H6 an s6 y6 J=>?_⟩
 .intro t l;rcases aG.mp l with rfl|l
  .exact n1
  rw[aQ.mp l];show n2
 show⟨_,rfl,_,rfl,_,rfl,lit3,λt3 H7 g7 s7 y7=>?_⟩;show⟨_,rfl,_,rfl,_,rfl,lit3,λt4 H8 g8 L y8=>?_⟩;show⟨lit2,λG2 H9 g9 n y9=>?_⟩;have o:=(s7.trans L).trans n;have ll:=aH J;have lw:(wo us [(a,b,c),(b,a,d)]).length<=us.length:=eg _ _;show⟨r,G2,_,_,rfl,rfl,o _ _ y6,y9,by simp;lia,λp Ha ga sa ya=>?_⟩;have all:=((((s1.trans s2).trans I).trans s6).trans o);show q p _ Ha (iW all ga) (all.trans sa) ya (cD ((J.same o).same sa) (.cons ⟨t3,rfl,sa _ _ (n _ _ (L _ _ y7))⟩ (tr1 (sa _ _ (n _ _ y8)))))
theorem KB:aK ["skin","a","b"] ["skin","a","b"] (ao jD):=⟨rfl,rfl,rfl,⋯,rfl,⋯,⋯⟩
theorem Jf{f l n C:Addr}{fd o p:FuncData}(U:Fun K "taken_out" "taken_out" jD f fd)(X:SCls K C)(u:Use P w K mg base 2 "triangles_without" ["skin","gone"] (qr C) l o)(M:eB P w K mg base C 1 "third" ["self","a","b"] (iZ C) n p) :
  ai P w K mg base CX0 3 f fd ["skin","a","b"] (zX C):=by
 show U.ok KB (by rintro _ _ _ _ ⟨_,_,_,_,_,_,rfl,_⟩;rfl) λe A outer s H vs Q E i h=>?_
 obtain⟨x,ts,us,a,b,c,rfl,sk,d,q⟩:=h;have v:Room 1 (A.deeper (PyProof.Rows.envOfC "taken_out" (ao jD) ↥s f e)):=i.mono ⋯;have y:Room 2 (A.deeper (PyProof.Rows.envOfC "taken_out" (ao jD) ↥s f e)):=i.mono ⋯;show⟨_,ak (aD (uc u y (ae (pv 0) (pa1 (bT (pa1 (aJ (ae (pv 1) (ae (pv 2) (pa1 (gU (pv 0) X.cl M.m M.g v M.b .nil pass0 (ae (pv 1) (pa1 (pv 2)))))))))))))),?_⟩;obtain⟨dx,O,R,D,S,hx⟩:=sk.obj;have g:=sk.1.sk.g;show⟨_,rfl,_,rfl,_,rfl,_,rfl,x,dx,_,rfl,hx,rfl,_,rfl,_,rfl,x,ts,us,a,b,rfl,sk,λH1 s1=>⟨λc' B=>?_,λz=>(z c d).elim⟩⟩;cases g.sk.one B d;show⟨lit3,λt1 H3 g3 I J=>⟨lit1,λG H5 g5 j L=>?_⟩⟩;have all:=(s1.trans I).trans j;show⟨x,G,_,ts,us,[(a,b,c)],rfl,sk.sm (Sm.of all),L,tr1 (j _ _ J),?_,∅,λr vr N T Y Z ab=>q r vr N (iW all T) (all.trans Y) Z ab⟩;intro t ht;rw[aQ.mp ht];show ne3 g d
theorem scIn:aK ["skin","a","b","x","c"] ["skin","a","b","x"] (ao jY):=⟨rfl,rfl,rfl,⋯,rfl,⋯,⋯⟩
theorem K1{f B I C:Addr}{fd J L:FuncData}(U:Fun K "put_in" "put_in" jY f fd)(X:SCls K C)(N:Use P w K mg base 2 "triangles_without" ["skin","gone"] (qr C) B J)(M:eB P w K mg base C 1 "third" ["self","a","b"] (iZ C) I L) :
  ai P w K mg base CX0 3 f fd ["skin","a","b","x"] (spIn C):=by
 show U.ok scIn (by rintro _ _ _ _ ⟨_,_,_,_,_,_,_,rfl,_⟩;rfl) λj A outer s H vs Q E l h=>?_
 obtain⟨x,ts,us,a,b,c,y,rfl,sk,d,q⟩:=h;have T:Room 1 (A.deeper (PyProof.Rows.envOfC "put_in" (ao jY) ↥s f j)):=l.mono ⋯;have Y:Room 2 (A.deeper (PyProof.Rows.envOfC "put_in" (ao jY) ↥s f j)):=l.mono ⋯;show⟨_,ah (sx 4 scIn.nd (gU (pv 0) X.cl M.m M.g T M.b .nil pass0 (ae (pv 1) (pa1 (pv 2)))))
  (ak (aD (aC fh (uc N Y (ae (pv 0) (pa1 (bT (pa1 (aJ (ae (pv 1) (ae (pv 2) (pa1 (pv 4))))))))))
   (bT (ae (aJ (ae (pv 1) (ae (pv 2) (pa1 (pv 3))))) (ae (aJ (ae (pv 2) (ae (pv 4) (pa1 (pv 3))))) (pa1 (aJ (ae (pv 4) (ae (pv 1) (pa1 (pv 3)))))))))))),?_⟩
 obtain⟨dx,O,R,D,S,hx⟩:=sk.obj;have g:=sk.1.sk.g;have hz:=line5000;have ab:us.length<=63:=by have:=sk.1.al.length_eq;have:=sk.1.ln;rw[ay] at *;lia
 show⟨_,rfl,x,dx,_,rfl,hx,rfl,_,rfl,_,rfl,x,ts,us,a,b,rfl,sk,λH1 s1=>⟨λc' Z=>?_,λz=>(z c d).elim⟩⟩;cases g.sk.one Z d;show⟨_,rfl,_,rfl,_,rfl,_,rfl,lit3,λt1 H3 g3 s3 y3=>⟨lit1,λG H5 g5 n y5=>?_⟩⟩;have o:=(s1.trans s3).trans n;show⟨x,G,_,ts,us,[(a,b,c)],rfl,sk.sm (Sm.of o),y5,tr1 (n _ _ y3),λt ht=>by rw[aQ.mp ht];show ne3 g d,∅,λr vr H6 ad s6 y6 u=>?_⟩;show⟨_,rfl,_,rfl,_,rfl,lit3,λt3 H7 g7 s7 y7=>?_⟩;show⟨_,rfl,_,rfl,_,rfl,lit3,λt4 H8 g8 v y8=>?_⟩;show⟨_,rfl,_,rfl,_,rfl,lit3,λt5 H9 g9 e y9=>?_⟩;show⟨lit3,λG2 Ha ga sa ya=>?_⟩;have i:=((s7.trans v).trans e).trans sa;have ll:=aH u;have lw:(wo us [(a,b,c)]).length<=us.length:=eg _ _;show⟨r,G2,_,_,rfl,rfl,i _ _ y6,ya,by simp;lia,λp Hb gb sb yb=>?_⟩;have all:=(o.trans s6).trans i;show q p _ Hb (iW all gb) (all.trans sb) yb (cD ((u.same i).same sb) (.cons ⟨t3,rfl,sb _ _ (sa _ _ (e _ _ (v _ _ y7)))⟩ (.cons ⟨t4,rfl,sb _ _ (sa _ _ (e _ _ y8))⟩ (tr1 (sb _ _ (sa _ _ y9))))))
theorem scOn:aK ["skin","a","b","x"] ["skin","a","b","x"] (ao lX):=⟨rfl,rfl,rfl,⋯,rfl,⋯,⋯⟩
theorem K0{f e C:Addr}{fd i:FuncData}(U:Fun K "put_on" "put_on" lX f fd)(X:SCls K C)(M:eB P w K mg base C 1 "triangles" ["self"] (gZ C) e i):ai P w K mg base CX0 2 f fd ["skin","a","b","x"] (spOn C):=by
 show U.ok scOn (by rintro _ _ _ _ ⟨_,_,_,_,_,_,rfl,_⟩;rfl) λj A outer s H vs Q E l h=>?_
 obtain⟨x,ts,us,a,b,y,rfl,sk,q⟩:=h;have n:Room 1 (A.deeper (PyProof.Rows.envOfC "put_on" (ao lX) ↥s f j)):=l.mono ⋯;show⟨_,ak (aD (aC fh (eK (pv 0) X.cl M.m M.g n M.b .nil pass0) (bT (pa1 (aJ (ae (pv 2) (ae (pv 1) (pa1 (pv 3))))))))),?_⟩;obtain⟨dx,O,R,D,S,hx⟩:=sk.obj;have hz:=line5000;have N:us.length<=63:=by have:=sk.1.al.length_eq;have:=sk.1.ln;rw[ay] at *;lia
 show⟨_,rfl,x,dx,_,rfl,hx,rfl,x,ts,us,rfl,sk,λr vr T Y o u d=>?_⟩;show⟨_,rfl,_,rfl,_,rfl,lit3,λZ H7 g7 c v=>⟨lit1,λz Ha ga sa B=>?_⟩⟩;have ll:=aH d;show⟨r,z,_,_,rfl,rfl,sa _ _ (c _ _ u),B,by simp;lia,λp I J sb L=>?_⟩;have all:=(o.trans c).trans sa;show q p _ I (iW all J) (all.trans sb) L (cD (((d.same c).same sa).same sb) (tr1 (sb _ _ (sa _ _ v))))
end
def clo(y:Nat)(rim:List Nat):List Tri:=(prs rim).map λs=>(s.2,s.1,y)
def D5(C:Addr)(vs:List V)(H:Hp)(Q:VK)(x:Addr)(ts us:List Tri)(a y:Nat):Prop:=vs=[.ref x,.int (a:Int),.int (y:Int)]/\bU C H x ts us/\(∃b,bc (En ts) a b)/\
 ∀rim,Cy (bc (En ts)) rim->rim[0]?=some a->∀r vr H',H r=none->Sm H H'->H' r=some (.lst vr)->aA H' vr (us++clo y rim)->Q (.ref r) H'
def xR(C:Addr):Sp:=λvs H Q _=>Exists (Ex5 (D5 C vs H Q))
section
theorem x_:aK ["skin","a","x","rim"] ["skin","a","x"] (ao lJ):=⟨rfl,rfl,rfl,⋯,rfl,⋯,⋯⟩
theorem EO{f f1 f2 f3 f4 C:Addr}{fd d1 d2 d3 d4:FuncData}(U:Fun K "closed" "closed" lJ f fd)(X:SCls K C)(GR:Use P w K mg base 1 "rim_steps" ["skin"] (vF C) f1 d1)(GW:Use P w K mg base 1 "walked" ["onward","begin"] rB f2 d2)(GP:Use P w K mg base 1 "pairs_about" ["ring"] xH f3 d3)(M:eB P w K mg base C 1 "triangles" ["self"] (gZ C) f4 d4) :
  ai P w K mg base CX0 2 f fd ["skin","a","x"] (xR C):=by
 show U.ok x_ (by rintro _ _ _ _ ⟨_,_,_,_,_,rfl,_⟩;rfl) λOZ A outer s H vs Q E hr h=>?_
 obtain⟨x,ts,us,a,y,rfl,sk,⟨b,ag⟩,q⟩:=h;have j:Room 1 (A.deeper (PyProof.Rows.envOfC "closed" (ao lJ) ↥s f OZ)):=hr.mono ⋯;show⟨_,ah (sx 3 x_.nd (uc GW j (ae (uc GR j (pa1 (pv 0))) (pa1 (pv 1)))))
  (ak (aD (aC fh (eK (pv 0) X.cl M.m M.g j M.b .nil pass0) (dB (N:=["p","q","x"]) (fr:=[none,none,some 2]) (g:=kl [] 2 (fU (cI 0) (fU (cI 1) km))) (te:=qm (dv (aW 1) (dv (aW 0) (dv (aW 2) eV)))) (c9 ⋯ rfl rfl ⋯ ⋯ (by walk_at"cs") (by walk_at"ct")) rfl (bW (uc GP j (pa1 (pv 3))))
    (λC s H fp OY=>⟨cT rfl (aR (gx 0 (⋯:(["p","q","x"]:List Str).Nodup)) (aR (gx 1 (⋯:(["p","q","x"]:List Str).Nodup)) cP)),eO,aJ (ae (pv 1) (ae (pv 0) (pa1 (pv 2))))⟩))))),?_⟩
 obtain⟨dx,O,R,D,S,hx⟩:=sk.obj;have g:=sk.1.sk.g;have o:=sk.1.sk.o;have a5:=sk.1.ln;have hz:=line5000;have a6:us.length<=63:=by have:=sk.1.al.length_eq;rw[ay] at this;lia
 have st:=F_ g o;obtain⟨one,inj,aS⟩:=rA g o;show⟨_,rfl,x,ts,us,rfl,sk,λD1 H1 h1 a0 y1=>?_⟩;have a8:(dh ts (ents ts)).length<=189:=by have:=wR ts (ents ts);rw[dA] at this;lia
 show⟨_,rfl,D1,_,bc (En ts),a,rfl,.inl y1,(),inj,st,(st.key a).mpr ⟨b,ag⟩,λr ps H2 a9 s2 y2 ba n hd en=>?_⟩;have I:Cy (bc (En ts)) ps:=Ag n λz s' u am=>by
  rw[hd] at am;cases am;show (en z u).resolve_left λhn=>?_;have:∃c,bc (En ts) z c:=by
   by_cases c1:ps.length=1
   .rw[c1,hd] at u;cases u;show⟨b,ag⟩
   have hl:0<ps.length:=ib.mpr n.ne;have h3:ps[ps.length-2]?=some (ps[ps.length-2]'()):=aX _;show aS _ _ (n.ch (ps.length-2) _ z h3 (by rw[show ps.length-2+1=ps.length-1 by lia];show u))
  obtain⟨c,J⟩:=this;show hn c J
 have bb:ps.length<=189:=by have:=lx (m:=(dh ts (ents ts)).map (·.1)) I.nd λp hp=>(st.key p).mpr (by obtain⟨q',a1⟩:=oQ hp;show⟨q',I.st _ _ a1⟩);rw[ay] at this;lia
 have L:=a0.trans (Sm.of s2);show⟨_,rfl,x,dx,_,rfl,L.keep hx (λz=>z),rfl,x,ts,us,rfl,sk.sm L,λl vo H3 bd s3 y3 an=>?_⟩;show⟨_,rfl,r,ps,rfl,s3 _ _ y2,n.ne,(),λr2 a2 H4 be s4 y4 ap=>?_⟩;have l4:=aH ap;rw[gz] at l4;show⟨r2,rfl,⟨_,SqL.of y4⟩,λZ_ hZ=>dH (K:=[]) (a:=r2) (xs:=a2) (λi Z ys H'=>∃T Y,Z=[T,Y,some (.int (y:Int))]/\Same H4 H'/\H' Z_=some (.lst ys)/\aA H' ys (((prs ps).take i).map λs=>(s.2,s.1,y))) ⟨none,none,rfl,bL hZ,aN,.nil⟩
   (λi Z ys H' _ ⟨_,_,_,e,_⟩=>SqL.of (e _ _ y4)) ?_ ?_⟩
 .rintro i v Z ys H' hi ⟨T,Y,rfl,sm,aM,tr⟩;obtain⟨⟨p,q'⟩,hs,c,rfl,J⟩:=cj ap hi;have ly:ys.length<=189:=by rw[aH tr,ay,bu,gz];lia
  show⟨c,_,rfl,SqT.of (sm _ _ J),rfl,_,_,rfl,_,_,rfl,rfl,?_⟩;show⟨_,rfl,_,rfl,_,rfl,lit3,λt H5 g5 d y5=>⟨d _ _ aM,(),λHn kn yn=>⟨_,_,rfl,λb o e=>(kn b (au e hZ)).trans (d _ _ (sm _ _ e)),yn,?_⟩⟩⟩;have a3:=d _ _ aM;have tn:∀{B:Addr}{xs:List V},H5 B=some (.tup xs)->B≠Z_:=λe=>bZ e a3 ∅;rw[bG,hs,aL];show cD (Paired.imp' (λ_ _ ⟨B,e1,e2⟩=>⟨B,e1,by have e3:=d _ _ e2;show (kn _ (tn e3)).trans e3⟩) tr) (.cons ⟨t,rfl,(kn _ (tn y5)).trans y5⟩ .nil)
 rintro Z ys H5 ⟨T,Y,rfl,d,a4,ab⟩;rw[l4,<-gz,cX] at ab;have ly:ys.length=ps.length:=by rw[aH ab,ay,gz]
 have lo:=aH an;have ad:=s4.trans d;show⟨l,Z_,_,_,rfl,rfl,ad _ _ y3,a4,(),λp H6 g6 s6 y6=>?_⟩;have all:Sm H H5:=L.trans (Sm.of (s3.trans ad));show q ps I hd p _ H6 (all.free g6) (all.trans (Sm.of s6)) y6 (cD ((an.same ad).same s6) (ab.same s6))
end
theorem goOr{u:TT}{Q:Bool->Hp->Prop}(h:Q true H):qo u Z Q true H:=aO (B:=u Z H Q) h
theorem skOr{u:TT}{Q:Bool->Hp->Prop}(h:u Z H Q):qo u Z Q false H:=aB (A:=Q true H) h
def FW(C:Addr)(vs:List V)(H:Hp)(Q:VK)(x:Addr)(ts us:List Tri)(a b:Nat):Prop:=vs=[.ref x,.int (a:Int),.int (b:Int)]/\bU C H x ts us/\Outs H Q (dwn us a b)
def zk(C:Addr):Sp:=λvs H Q _=>Exists (Ex5 (FW C vs H Q))
section
theorem zl:aK ["skin","a","b","left"] ["skin","a","b"] (ao lH):=⟨rfl,rfl,rfl,⋯,rfl,⋯,⋯⟩
theorem GZ{f f4 C:Addr}{fd d4:FuncData}(U:Fun K "drawn" "drawn" lH f fd)(X:SCls K C)(T:cq mg)(M:eB P w K mg base C 1 "triangles" ["self"] (gZ C) f4 d4) :
  ai P w K mg base CX0 2 f fd ["skin","a","b"] (zk C):=by
 show U.ok zl (by rintro _ _ _ _ ⟨_,_,_,_,_,rfl,_⟩;rfl) λOZ A outer s H vs Q E hr h=>?_
 obtain⟨x,ts,us,a,b,rfl,sk,q⟩:=h;have a5:Room 1 (A.deeper (PyProof.Rows.envOfC "drawn" (ao lH) ↥s f OZ)):=hr.mono ⋯;show⟨_,ah (oP (i:=3) (N:=["triangle","a","b"]) (fr:=[none,some 1,some 2]) (tt:=tOr (iI (tOp (rIn [] true) (aW 1) (aW 0))) (iI (tOp (rIn [] true) (aW 2) (aW 0)))) (c9 ⋯ rfl rfl ⋯ ⋯ (by walk_at"cs") (by walk_at"ct")) rfl (bW (eK (pv 0) X.cl M.m M.g a5 M.b .nil pass0))
    (λC s H fp OY=>⟨gx 0 (⋯:(["triangle","a","b"]:List Str).Nodup),gR (PW.pt (fT (a7 ij (pv 1) (pv 0) rfl) (gA (a7 ij (pv 2) (pv 0) rfl)))),pv 0⟩) zl.nd rfl (.inl rfl))
  (ak (aD (dB (N:=["triangle","a","b"]) (fr:=[none,some 1,some 2]) (te:=tCB (λxs H Q=>∃p ys,xs=[.ref p]/\((SqL [] H p ys/\∀l,H l=none->Q (.ref l) (upd H l (.tup ys)))\/(SqT [] H p ys/\Q (.ref p) H))) (dv (mj (qv [] (aW 0)) (cI 0) (λ_ H Q=>Q true H) (tIf (iI (tOp rEq (aW 0) (aW 2))) (aW 1) (aW 0)) [none,some 1,some 2]) eV)) (c9 ⋯ rfl rfl ⋯ ⋯ (by walk_at"cs") (by walk_at"ct")) rfl (bW (pv 3))
    (λC' s' H' fp OY=>⟨gx 0 (⋯:(["triangle","a","b"]:List Str).Nodup),eO,c_ lg (by rfl) T.tuple jw (pa1 (dB (N:=["corner","a","b"]) (fr:=[none,some 1,some 2]) (te:=tIf (iI (tOp rEq (aW 0) (aW 2))) (aW 1) (aW 0)) (c9 ⋯ rfl rfl ⋯ ⋯ (by walk_at"cs") (by walk_at"ct")) rfl (lZ (pv 0))
    (λC2 s2 H2 bb bd=>⟨gx 0 (⋯:(["corner","a","b"]:List Str).Nodup),eO,wZ (a7 dM (pv 0) (pv 2) (nomark _)) (pv 1) (pv 0)⟩)))⟩)))),?_⟩
 obtain⟨dx,O,R,D,S,hx⟩:=sk.obj;have be:=sk.1.ln;have hz:=line5000;have bi:us.length<=63:=by have:=sk.1.al.length_eq;rw[ay] at this;lia
 show⟨_,rfl,x,dx,_,rfl,hx,rfl,x,ts,us,rfl,sk,λl vo H1 bl s1 y1 tr1=>?_⟩;have a6:=aH tr1;show⟨l,rfl,⟨_,SqL.of y1⟩,λZ_ hZ=>dH (K:=[]) (a:=l) (xs:=vo) (λi Z ys H'=>∃o,Z=[o,some (.int (a:Int)),some (.int (b:Int))]/\Same H1 H'/\H' Z_=some (.lst ys)/\aA H' ys ((us.take i).filter (both a b))) ⟨none,rfl,bL hZ,aN,.nil⟩
   (λi Z ys H' _ ⟨_,_,e,_⟩=>SqL.of (e _ _ y1)) ?_ ?_⟩
 .rintro i v Z ys H' hi ⟨o,rfl,sm,ap,tr⟩;obtain⟨d,hs,t,rfl,I⟩:=cj tr1 hi;have B:=sm _ _ I;have ew:(us.take (i+1)).filter (both a b)=(us.take i).filter (both a b)++[d].filter (both a b):=by rw[bG,hs,fq];rfl
  have ly:ys.length<=63:=by have h2:=eg (both a b) (us.take i);rw[bu] at h2;rw[aH tr];lia
  have yes:both a b d=true->H' Z_=some (.lst ys)/\ys.length<sizeLine/\∀j,(∀c,c≠Z_->j c=H' c)->j Z_=some (.lst (ys++[V.ref t]))->∃o,([some (V.ref t),some (.int (a:Int)),some (.int (b:Int))]:St)=[o,some (.int (a:Int)),some (.int (b:Int))]/\Same H1 j/\j Z_=some (.lst (ys++[V.ref t]))/\aA j (ys++[V.ref t]) ((us.take (i+1)).filter (both a b)):=λhy=>by
   show⟨ap,(),λj J yn=>⟨_,rfl,λb o e=>(J b (au e hZ)).trans (sm _ _ e),yn,?_⟩⟩;have L:∀{n:Addr}{xs:List V},H' n=some (.tup xs)->n≠Z_:=λe=>bZ e ap ∅;rw[ew,dR,OU hy];show cD (Paired.imp' (λ_ _ ⟨n,e1,e2⟩=>⟨n,e1,(J _ (L e2)).trans e2⟩) tr) (.cons ⟨t,rfl,(J _ (L B)).trans B⟩ .nil)
  have iv:∀c:Nat,inV (V.int (c:Int)) [V.int (d.1:Int),V.int (d.2.1:Int),V.int (d.2.2:Int)]=decide (c∈[d.1,d.2.1,d.2.2]):=λc=>gX c [d.1,d.2.1,d.2.2];show⟨_,rfl,_,rfl,t,_,rfl,.inr (SqT.of B),rfl,rfl,_,rfl,?_⟩;rw[OU rfl,iv];by_cases ha:a∈[d.1,d.2.1,d.2.2]
  .rw[OV ha];show skOr ⟨_,rfl,_,rfl,t,_,rfl,.inr (SqT.of B),rfl,rfl,_,rfl,?_⟩;rw[OU rfl,iv];by_cases ag:b∈[d.1,d.2.1,d.2.2]
   .rw[OV ag];have e:both a b d=false:=by unfold both;rw[OV ha,OV ag];rfl
    show aB ⟨_,rfl,sm,ap,?_⟩;rw[ew,dR,OT (by rw[e];simp),jo,eG];show tr
   rw[OW ag];show aO ⟨_,rfl,yes (by unfold both;rw[OW ag];simp)⟩
  rw[OW ha];show goOr (aO ⟨_,rfl,yes (by unfold both;rw[OW ha];rfl)⟩)
 rintro Z ys H2 ⟨o,rfl,s2,a2,aM⟩;rw[a6,cX] at aM;have a8:=aH aM;have lf:=eg (both a b) us;show⟨_,rfl,Z_,rfl,⟨_,SqL.of a2⟩,λY hY=>dH (K:=[]) (a:=Z_) (xs:=ys) (λi Z zs H'=>∃o,Z=[o,some (.int (a:Int)),some (.int (b:Int))]/\aA H' zs (((us.filter (both a b)).take i).map (rep a b))/\Same H2 H'/\H' Y=some (.lst zs)) ⟨none,rfl,.nil,bL hY,aN⟩ (λi Z zs H' _ ⟨_,_,_,e,_⟩=>SqL.of (e _ _ a2)) ?_ ?_⟩
 .rintro i v Z zs H' hi ⟨o,rfl,ab,am,aS⟩;obtain⟨⟨p,u,r⟩,hs,t,rfl,I⟩:=cj aM hi;have I:H2 t=some (.tup (nV [p,u,r])):=I;have B:=am _ _ I;have bm:zs.length<=63:=by rw[aH ab,ay,bu];lia
  show⟨_,rfl,t,rfl,⟨_,SqT.of B⟩,λW hW=>ou (K:=[]) (a:=t) (xs:=nV [p,u,r]) (λk Z ad y=>∃o,Z=[o,some (.int (a:Int)),some (.int (b:Int))]/\ad=nV (([p,u,r].take k).map (onto a b))/\Same H' y/\y W=some (.lst ad)) ⟨none,rfl,rfl,bL hW,aN⟩ (by rintro k Z ad y _ ⟨_,_,_,e,_⟩;show SqT.of (e _ _ B)) ?_ ?_⟩
  .rintro k x' Z ad y hk ⟨o,rfl,rfl,sY,a0⟩;rw[nV,bf] at hk;obtain⟨z,a3,rfl⟩:=cw.mp hk;have bn:k<3:=(aI.mp a3).1;have fin:y W=some (.lst (nV (([p,u,r].take k).map (onto a b))))/\(nV (([p,u,r].take k).map (onto a b))).length<sizeLine/\∀j,(∀c,c≠W->j c=y c)->j W=some (.lst (nV (([p,u,r].take k).map (onto a b))++[V.int (onto a b z:Int)]))->∃o,([some (V.int (z:Int)),some (.int (a:Int)),some (.int (b:Int))]:St)=[o,some (.int (a:Int)),some (.int (b:Int))]/\nV (([p,u,r].take k).map (onto a b))++[V.int (onto a b z:Int)]=nV (([p,u,r].take (k+1)).map (onto a b))/\Same H' j/\j W=some (.lst (nV (([p,u,r].take k).map (onto a b))++[V.int (onto a b z:Int)])):=by
    show⟨a0,?_,λj J yn=>⟨_,rfl,?_,λn o e=>(J n (au e hW)).trans (sY _ _ e),yn⟩⟩
    .rw[bz,ay,bu];have:([p,u,r]:List Nat).length=3:=rfl;lia
    rw[bG,a3,aL,<-fi];rfl
   show⟨_,rfl,_,rfl,rfl,_,rfl,?_⟩;by_cases an:z=b
   .rw[show decide (V.int (z:Int)=V.int (b:Int))=true from by rw[an];simp];have e:onto a b z=a:=OU an;rw[e] at fin;show aO ⟨_,rfl,fin⟩
   rw[show decide (V.int (z:Int)=V.int (b:Int))=false from OW λe=>an (by have:=V.int.inj e;lia)];have e:onto a b z=z:=OT an;rw[e] at fin;show aB ⟨_,rfl,fin⟩
  rintro Z ad y ⟨o,rfl,rfl,sY,a0⟩;show⟨W,_,rfl,.inl ⟨SqL.of a0,λt' a9=>?_⟩⟩;walk_at"y t' a9 H9 s9 y9";have a4:=s9 _ _ (sY _ _ aS);have L:∀{n:Addr}{xs:List V},H9 n=some (.tup xs)->n≠Y:=λe=>bZ e a4 ∅;show⟨a4,(),λbt a1 ba=>⟨_,rfl,?_,λn o e=>(a1 _ (au e hY)).trans (s9 _ _ (sY _ _ (am _ _ e))),ba⟩⟩;rw[bG,hs,aL];show cD (Paired.imp' (λ_ _ ⟨n,e1,e2⟩=>⟨n,e1,by have e3:=s9 _ _ (sY _ _ e2);show (a1 _ (L e3)).trans e3⟩) ab) (.cons ⟨t',rfl,(a1 _ (L y9)).trans y9⟩ .nil)
 rintro Z zs H' ⟨o,rfl,ab,am,aS⟩;rw[a8,cX] at ab;show q Y zs H' (iW (s1.trans s2) hY) ((s1.trans s2).trans am) aS ab
end
end K15
end
section
namespace L2
open PySem PySem.Spec PyProof.Rows
theorem Fg{M:Model}{Q:Bool->Shared->Prop}{e b:Addr}{j d:Obj}{cls c1 c2:Value}{n:Nat}{f g:Bool}(X:K.In s.heap)(he:s.heap.get? e=some j)(o:j.cls=cls)
  (l:s.heap.get? b=some d) (p:d.cls=.type "tuple") (hd:d.data=.seq [c1,c2].toArray n) (h1:W.exmOne K cls c1=some f) (h2:W.exmOne K cls c2=some g) (r:(f||g)=true) (q:Q true s):wpAny M A (excMatches (.ref e) (.ref b)) Q E s:=by
 have u:W.Looks M s.heap (isInstance (.ref b) (.type "tuple")) true:=by intro v m E' s' h a;unfold isInstance typeOf;show aa (aa (u4 (h _ _ l) (af ?_)));rw[p,isSubtype_tuple_tuple];show af a
 have ty:W.Looks M s.heap (typeOf (.ref e)) cls:=by intro v m E' s' h a;unfold typeOf;show aa (u4 (h _ _ he) (af ?_));rw[o];show a
 unfold excMatches;show aa (u.here ?_);rw[OU rfl];show aa (kT l hd (aa (af ?_)));show aa (wb (λc i m a=>?_) ?_)
 .have i:c=c1\/c=c2:=‹i›
  rcases i with rfl|rfl
  .exact aa ((uV (M:=M) X h1).1.here (af a))
  show aa ((uV (M:=M) X h2).1.here (af a))
 show aa (ty.here ?_);show aa ?_;change wpAny _ _ (forIn [c1,c2] _ _) _ _ _;rw[mG];show aa (aa ((uV (M:=M) X h1).2.here ?_));cases f with
 |true=>show af (af (af q))
 |false=>
  show af ?_;change wpAny _ _ (forIn [c2] _ _) _ _ _;rw[mG];show aa (aa ((uV (M:=M) X h2).2.here ?_));obtain rfl:g=true:=r;show af (af (af q))
section
variable {body suite:List Stmt}{b0:Stmt}{x1 x2:Str}{p1 p2 tpos hpos pos:Pos}{kk:Nat}{c1 c2:Addr}{tb:XK->TS}{ts:TS}{p:Value->Prop}
def JW(K:W.Frag)(len:Nat)(c1 c2:Addr)(tb:XK->TS)(ts:TS):TS:=λD Z H=>∃E:XK,tb E D Z H/\∀cls d H',E cls d H'->
 ∃a b,W.exmOne K cls (.ref c1)=some a/\W.exmOne K cls (.ref c2)=some b/\(a||b)=true/\ts D (List.replicate len none) H'
theorem Gk(h:X.stack=X.env::X.outer/\X.env.frame=some X.env.locals)(O:X.ex=[])(P:Gl X x1)(Q:X.mg x1=some (.ref c1))(R:Gl X x2)(S:X.mg x2=some (.ref c2))
  (y:∀(OY:List (Addr×Obj))(xe:Value->Shared->Prop)(E:XK),Passes (CXg p X.prog X.w) (j7 X OY xe) E->PSs (j7 X OY xe) body (tb E)) (U:∀x,PSs (oW X x) (b0::suite) ts) (Y:(x1==("__debug__" : Str))=false:=by decide) (ab:(x2==("__debug__" : Str))=false:=by decide) :
  PS X (.Try body [.ExceptHandler (some (.Tuple [.Name x1 p1,.Name x2 p2] kk tpos)) none (b0::suite) hpos] [] [] pos) (JW X.K X.N.length c1 c2 tb ts):=by
 rintro OY s Z H D I ⟨E,q0,hq⟩;show Nu ?_;show bF (y OY _ E ?_ [] s Z H D I.toBody q0) (λf s1 i=>?_) λ_ _ z=>z
 .rintro a3 Z' H' s' e a J ⟨x,cls,d,H2,rfl,hx,B,C,os,bare,un,hok,q⟩;have l:=(J.call' (ch:=[]) os un hok bare (λb z=>absurd z ∅)).ofBody;obtain⟨b1,b2,h1,h2,ad,q⟩:=hq _ _ _ q;have ag:∀p∈X.pn++OY,p.1≠x:=λp hp z=>by
   have e:=(J.pin p (dD _ hp)).1;rw[z,B] at e;cases e
  have al:=J.ofBody.oldNone B (by rw[O];simp);have am:∃c vs,a.heap.get? x=some c/\c.data=.fields vs:=by obtain⟨c,vs,he,_,_,hd,_⟩:=hx;show⟨c,vs,he,hd⟩
  have an:X.A.frames=some (X.env::X.outer):=by rw[<-h.1];show l.ok.frames
  have ap:a.heap.FunFrames X.base (X.env::X.outer):=by rw[<-h.1];show l.stack
  show sX an ap h.2 hx λg y1 L1=>?_;have m:Inv X OY (List.replicate X.N.length none) H2 {a with heap:=g}:=l.forget.left h (ug am) al ag C (λb y=>rfl) (λu e=>by rw[C] at e;cases e) L1;show Bd (A3 ?_) (λz=>nomatch z);show Nv (bF ((wB (m.suite x) P Q (wB (m.suite x) R S FA ab) Y) tpos (λus t=>us=[.ref c1,.ref c2]/\t={a with heap:=g}) ⟨rfl,rfl⟩) (λus s2 q2=>?_) λ_ _ z=>z.elim);obtain⟨rfl,rfl⟩:=q2;show⟨by change 2<=sizeLine;rw[cK];decide,?_⟩;obtain⟨c,vs,he,L,aM,aS,a0,a1⟩:=id y1;have kp:∀b u,g.get? b=some u->(g.push {cls:=.type "tuple",data:=.seq [Value.ref c1,.ref c2].toArray}).get? b=some u:=λb u e=>aE _ e;have y2:dQ p (g.push {cls:=.type "tuple",data:=.seq [Value.ref c1,.ref c2].toArray}) x cls d:=by
   show⟨c,vs,kp _ _ he,L,aM,aS,a0,?_⟩;rcases a1 with z|⟨T,oT,a2,z1,z2,z3,z4⟩
   .exact .inl z
   show .inr ⟨T,oT,a2,z1,z2,kp _ _ z3,z4⟩
  have M:Inv X OY (List.replicate X.N.length none) H2 {a with heap:=g.push {cls:=.type "tuple",data:=.seq [Value.ref c1,.ref c2].toArray}}:=m.kept (t':=a.toks) kp;show Fg (K:=X.K) M.kIn (kp _ _ he) L (br _ rfl) rfl rfl h1 h2 ad ?_;change codeAny _ _ (.handlers (.ref x) [.ExceptHandler none none (b0::suite) hpos] X.env) _ _;show codeAny_handlers_suite (wq y2 λg3 y3 same=>?_);have I3:Inv X OY (List.replicate X.N.length none) H2 {a with heap:=g3}:=M.kept (t':=a.toks) λb o e=>(same b).trans e;show bF (U x OY _ _ _ D (I3.suite x) q) (λf s4 j=>?_) λ_ _ z=>z.elim;cases f with
  |next=>obtain⟨Z',H',J,q⟩:=j;show⟨Z',H',J.unsuite I.ok,q⟩
  |brk=>obtain⟨Z',H',J,q⟩:=j;show⟨Z',H',J.unsuite I.ok,q⟩
  |cont=>obtain⟨Z',H',J,q⟩:=j;show⟨Z',H',J.unsuite I.ok,q⟩
  |ret v=>obtain⟨n,Z',H',J,r,q⟩:=j;show⟨n,Z',H',J.unsuite I.ok,r,q⟩
 cases f with
 |next=>
  obtain⟨Z',H',J,q⟩:=i;show m_ ⟨Z',H',J.ofBody,q⟩
 |brk=>obtain⟨Z',H',J,q⟩:=i;show⟨Z',H',J.ofBody,q⟩
 |cont=>obtain⟨Z',H',J,q⟩:=i;show⟨Z',H',J.ofBody,q⟩
 |ret v=>obtain⟨n,Z',H',J,r,q⟩:=i;show⟨n,Z',H',J.ofBody,r,q⟩
end
theorem Fun.ok2{x qual:Str}{st:Stmt}{f:Addr}{N ps:List Str}{k:Nat}{sp:Sp}(F:Fun K x qual st f fd)(S:aK N ps (ao st))(len:∀vs H Q E,sp vs H Q E->vs.length=ps.length)
  (b:∀(a:Value)(A:Around)(outer:List Env)(s:Shared)(H:Hp)(vs:List V)(Q:VK)(E:XK),Room k (A.deeper (envOfC qual (ao st) ↥s f a))->sp vs H Q E->
   ∃t,PSs (dO (CX2 P w) P w K mg base N qual (ao st) f a A outer s H E) (df st) t/\t {nx:=λ_ H'=>Q .non H',rt:=Q} (start N vs) H):ai P w K mg base (CX2 P w) (k+1) f fd ps sp:=by
 obtain⟨g,od,kV,doc,pm,an,a,ct,h,rfl,lk,c⟩:=F.ex;show uj lk c S len λA outer s H vs Q E d e=>b a A outer s H vs Q E d e
theorem j_{p:Value->Prop}:Passes (CXg p X.prog X.w) X E0:=by rintro _ _ _ _ _ _ _ ⟨_,_,_,_,_,_,_,_,_,_,_,_,q⟩;show q.elim
end L2
end
section
namespace K15
open PySem L2 K51 K31
theorem xT{x dx:Addr}{Cs:Addr}(h1:H x=none)(h2:H dx=none)(s:SmB x (upd (upd H dx (.own x)) x (.ins Cs dx [])) H'):Sm H H':=λb o e=>by
 have a:=au e h1;have c:=au e h2;show s b o a (by rw[av a,av c];show e)
theorem vY{x dx:Addr}{Cs:Addr}(h1:H x=none)(h2:H dx=none):Same H (upd (upd H dx (.own x)) x (.ins Cs dx [])):=λb o e=>by
 rw[av (au e h1),av (au e h2)];show e
def Beh(ts us:List Tri)(m n y:Nat)(rs:List Tri):Kd->Prop
 |.turn=>∃c d,En ts m n c/\En ts n m d/\rs=turned us m n c d
 |.out=>∃c,En ts m n c/\rs=wo us [(m,n,c)]
 |.draw=>rs=dwn us m n
 |.inn=>∃c,En ts m n c/\rs=inn us m n c y
 |.on=>rs=us++[(n,m,y)]
 |.close=>∃rim,Cy (bc (En ts)) rim/\rim[0]?=some m/\rs=us++clo y rim
abbrev KdK(k:Str):Prop:=k = "triple"\/k = "side"\/k = "round"
def CI(K:W.Frag)(vs:List V)(H:Hp)(Q:VK)(x C:Addr)(k:Str):Prop:=vs=[.ref x,.str k]/\H x=some (cu x C none)/\jc K C=true/\eS K C "kind"/\KdK k/\∀dx,H dx=none->dx≠x->Q .non (upd (upd H x (cu x C (some dx))) dx (.xd [("kind",.str k)]))
def wH(K:W.Frag):Sp:=λvs H Q _=>Exists (Ex3 (CI K vs H Q))
def IF(Cs:Addr)(vs:List V)(H:Hp)(Q:VK)(x d:Addr)(ts us:List Tri)(k:Kd)(m n y:Nat):Prop:=vs=[.ref x,.ref d]/\bU Cs H x ts us/\f_ H d k m n y/\(∃c,En ts m n c)/\(k=.turn->∃c,En ts n m c)/\(k.rim=true->∀c,¬En ts n m c)/\
 ∀rs r vr H',H r=none->Sm H H'->H' r=some (.lst vr)->aA H' vr rs->Beh ts us m n y rs k->Q (.ref r) H'
def zZ(Cs:Addr):Sp:=λvs H Q _=>Exists (Ex8 (IF Cs vs H Q))
def Kw(Cs a SP:Addr)(vs:List V)(H:Hp)(Q:VK)(E:XK)(x d:Addr)(ts us:List Tri)(k:Kd)(m n y:Nat):Prop:=vs=[.ref x,.ref d]/\bU Cs H x ts us/\f_ H d k m n y/\(∃c,En ts m n c)/\(k.rim=true->∀c,¬En ts n m c)/\(k.wis=true->¬Co ts y)/\(∀rs,Beh ts us m n y rs k->Few rs)/\
 (∀rs b z H',Beh ts us m n y rs k->Sm H H'->bU Cs H' z rs b->Q (.ref z) H')/\(∀H',Sm H H'->k=.turn->(∀c,¬En ts n m c)->E (.ref a) none H')/\∀d' rs H',Sm H H'->Beh ts us m n y rs k->¬Skn rs->E (.ref SP) d' H'
def kj(Cs a SP:Addr):Sp:=λvs H Q E=>Exists (Ex8 (Kw Cs a SP vs H Q E))
section
theorem D_:aK ["self","kind"] ["self","kind"] (ao lh):=⟨rfl,rfl,rfl,⋯,rfl,⋯,⋯⟩
theorem C4{f S ex:Addr}(U:Fun K "__init__" "Spoilt.__init__" lh f fd)(c:mg "ShapeError" = some (.ref S))(b:BInit K S):uo P w K mg base 1 f fd ["self","kind"] ex (wH K):=by
 show U.okH D_ (λvs H Q E h=>?_) (λl A outer s H vs Q E a h=>?_)
 .obtain⟨x,C,k,rfl,_⟩:=h;rfl
 obtain⟨x,C,k,rfl,hx,d,hf,e,q⟩:=h;show⟨_,ah (du (w8 rfl c b (ae (pv 0) (pa1 (yw (oR de (oR (yx a.units a.gu (pv 1)) zo))))))) (ak (yq (pv 0) (pv 1) rfl)),?_⟩;have hz:10020<=sizeLine:=by rw[cK];lia
 have m:(Str.empty++("the deed leaves no skin: " : Str)).length<=40:=⋯;obtain⟨g,i,j,n⟩:(PyData.str k).canLay0=true/\(PyData.str k).showable=true/\(PyData.str k).depth<=60/\(PyData.str k).shown.length<=40:=by rcases e with rfl|rfl|rfl<;>decide +kernel
 have l1:((Str.empty++("the deed leaves no skin: " : Str))++(PyData.str k).shown).length<=sizeLine:=by rw[jy];lia
 show⟨_,rfl,_,rfl,(),_,rfl,.str k,.str k g,i,j,(),_,rfl,l1,l1,x,C,_,rfl,hx,d,by change 1<=sizeLine;lia,?_⟩;show⟨_,rfl,_,rfl,x,C,rfl,hx,hf,λdx h1 h2=>q dx h1 h2⟩
theorem uf:aK ["skin","deed","a","b"] ["skin","deed"] (ao k_):=⟨rfl,rfl,rfl,⋯,rfl,⋯,⋯⟩
theorem Jj{f v z B C D I Cs:Addr}{fd J L M N O R:FuncData}(U:Fun K "triples_behind" "triples_behind" k_ f fd)(S:Use P w K mg base 3 "turned_over" ["skin","a","b"] (zd Cs) v J)(T:Use P w K mg base 3 "taken_out" ["skin","a","b"] (zX Cs) z L)(X:Use P w K mg base 2 "drawn" ["skin","a","b"] (zk Cs) B M)
  (Y:Use P w K mg base 3 "put_in" ["skin","a","b","x"] (spIn Cs) C N) (Z:Use P w K mg base 2 "put_on" ["skin","a","b","x"] (spOn Cs) D O) (G6:Use P w K mg base 2 "closed" ["skin","a","x"] (xR Cs) I R) :
  ai P w K mg base CX0 4 f fd ["skin","deed"] (zZ Cs):=by
 show U.ok uf (by rintro _ _ _ _ ⟨_,_,_,_,_,_,_,_,rfl,_⟩;rfl) λOZ A outer s H vs Q E p h=>?_
 obtain⟨x,d,ts,us,k,m,n,y,rfl,sk,⟨sd,h1,h2⟩,⟨c,o⟩,ht,hk,q⟩:=h;have u:Room 2 (A.deeper (PyProof.Rows.envOfC "triples_behind" (ao k_) ↥s f OZ)):=p.mono ⋯;show⟨_,ah (ff (ixx bD (pv 1) aj) (cT rfl (aR (gx 2 uf.nd) (aR (gx 3 uf.nd) cP))))
  (ah (bq (a7 dM (ixx bD (pv 1) aj) de (nomark _)) (ak (aD (uc S p (ae (pv 0) (ae (pv 2) (pa1 (pv 3))))))) bp)
  (ah (bq (a7 dM (ixx bD (pv 1) aj) de (nomark _)) (ak (aD (uc T p (ae (pv 0) (ae (pv 2) (pa1 (pv 3))))))) bp)
  (ah (bq (a7 dM (ixx bD (pv 1) aj) de (nomark _)) (ak (aD (uc X u (ae (pv 0) (ae (pv 2) (pa1 (pv 3))))))) bp)
  (ah (bq (a7 dM (ixx bD (pv 1) aj) de (nomark _)) (ak (aD (uc Y p (ae (pv 0) (ae (pv 2) (ae (pv 3) (pa1 (ixx bD (pv 1) aj)))))))) bp)
  (ah (bq (a7 dM (ixx bD (pv 1) aj) de (nomark _)) (ak (aD (uc Z u (ae (pv 0) (ae (pv 2) (ae (pv 3) (pa1 (ixx bD (pv 1) aj)))))))) bp)
  (ak (aD (uc G6 u (ae (pv 0) (ae (pv 2) (pa1 (ixx bD (pv 1) aj)))))))))))),?_⟩
 show⟨_,rfl,d,_,_,_,rfl,rfl,SqT.of h2,bO (j:=1) rfl,sd,_,rfl,SqT.of h1,rfl,_,_,rfl,_,_,rfl,rfl,?_⟩;have i:=SqT.of (K:=[]) h2;cases k with
 |turn=>
  obtain⟨e,he⟩:=ht rfl;show⟨_,rfl,d,_,_,_,rfl,rfl,i,rfl,rfl,_,rfl,aO ⟨_,rfl,_,rfl,_,rfl,x,ts,us,m,n,c,e,rfl,sk,o,he,λr vr H' g s l t=>q _ r vr H' g (Sm.of s) l t ⟨c,e,o,he,rfl⟩⟩⟩
 |out=>show⟨_,rfl,d,_,_,_,rfl,rfl,i,rfl,rfl,_,rfl,aB ⟨_,rfl,d,_,_,_,rfl,rfl,i,rfl,rfl,_,rfl,aO ⟨_,rfl,_,rfl,_,rfl,x,ts,us,m,n,c,rfl,sk,o,λr vr H' g s l t=>q _ r vr H' g (Sm.of s) l t ⟨c,o,rfl⟩⟩⟩⟩
 |draw=>show⟨_,rfl,d,_,_,_,rfl,rfl,i,rfl,rfl,_,rfl,aB ⟨_,rfl,d,_,_,_,rfl,rfl,i,rfl,rfl,_,rfl,aB ⟨_,rfl,d,_,_,_,rfl,rfl,i,rfl,rfl,_,rfl,aO ⟨_,rfl,_,rfl,_,rfl,x,ts,us,m,n,rfl,sk,λr vr H' g s l t=>q _ r vr H' g (Sm.of s) l t rfl⟩⟩⟩⟩
 |inn=>show⟨_,rfl,d,_,_,_,rfl,rfl,i,rfl,rfl,_,rfl,aB ⟨_,rfl,d,_,_,_,rfl,rfl,i,rfl,rfl,_,rfl,aB ⟨_,rfl,d,_,_,_,rfl,rfl,i,rfl,rfl,_,rfl,aB ⟨_,rfl,d,_,_,_,rfl,rfl,i,rfl,rfl,_,rfl,aO ⟨_,rfl,_,rfl,_,rfl,_,rfl,d,_,_,_,rfl,rfl,i,rfl,x,ts,us,m,n,c,y,rfl,sk,o,λr vr H' g s l t=>q _ r vr H' g (Sm.of s) l t ⟨c,o,rfl⟩⟩⟩⟩⟩⟩
 |on=>show⟨_,rfl,d,_,_,_,rfl,rfl,i,rfl,rfl,_,rfl,aB ⟨_,rfl,d,_,_,_,rfl,rfl,i,rfl,rfl,_,rfl,aB ⟨_,rfl,d,_,_,_,rfl,rfl,i,rfl,rfl,_,rfl,aB ⟨_,rfl,d,_,_,_,rfl,rfl,i,rfl,rfl,_,rfl,aB ⟨_,rfl,d,_,_,_,rfl,rfl,i,rfl,rfl,_,rfl,aO ⟨_,rfl,_,rfl,_,rfl,_,rfl,d,_,_,_,rfl,rfl,i,rfl,x,ts,us,m,n,y,rfl,sk,λr vr H' g s l t=>q _ r vr H' g (Sm.of s) l t rfl⟩⟩⟩⟩⟩⟩
 |close=>show⟨_,rfl,d,_,_,_,rfl,rfl,i,rfl,rfl,_,rfl,aB ⟨_,rfl,d,_,_,_,rfl,rfl,i,rfl,rfl,_,rfl,aB ⟨_,rfl,d,_,_,_,rfl,rfl,i,rfl,rfl,_,rfl,aB ⟨_,rfl,d,_,_,_,rfl,rfl,i,rfl,rfl,_,rfl,aB ⟨_,rfl,d,_,_,_,rfl,rfl,i,rfl,rfl,_,rfl,aB ⟨_,rfl,_,rfl,_,rfl,d,_,_,_,rfl,rfl,i,rfl,x,ts,us,m,y,rfl,sk,⟨n,⟨c,o⟩,λ⟨r,p⟩=>hk rfl r p⟩,λrim cy r0 r vr H' g s l t=>q _ r vr H' g s l t ⟨rim,cy,r0,rfl⟩⟩⟩⟩⟩⟩⟩
end
section
theorem qt:aK ["skin","deed","checked","triples","e"] ["skin","deed"] (ao ir):=⟨rfl,rfl,rfl,⋯,rfl,⋯,⋯⟩
theorem K2{f f1 f2 f3 f4 T X Cs C Y SP B:Addr}{fd d1 d2 d3 d4 Z d6:FuncData}{p bM:List Value}(U:Fun K "changed" "changed" ir f fd)(G1:Use P w K mg base 5 "checked_deed" ["thing"] wK f1 d1)(u:ia (CX1 P w) P w K mg base 2 "look_side_through" ["skin","deed"] (xJ Cs Y) f2 d2)(G3:Use P w K mg base 1 "look_corner_through" ["skin","deed"] (xK Cs) f3 d3)(G4:Use P w K mg base 4 "triples_behind" ["skin","deed"] (zZ Cs) f4 d4)
  (MK:Mk K Cs T) (GK:ai P w K mg base (CX1 P w) 5 T Z ["self","triples"] (tH Cs C)) (bK:Binds K Z ["self","triples"] []) (mK:mg "Skin" = some (.ref Cs)) (mM:mg "TooMany" = some (.ref B)) (cM:clsIn K B=some bM) (am:bM.contains (.type "BaseException")=true) (mN:mg "NoSkin" = some (.ref C)) (cN:clsIn K C=some p) (an:p.contains (.type "BaseException")=true)
  (nM:(Value.ref C::p).contains (.ref B)=false) (MX:hU K SP X) (GX:∀x,uo P w K mg base 1 X d6 ["self","kind"] x (wH K)) (bX:Binds K d6 ["self","kind"] []) (mX:mg "Spoilt" = some (.ref SP)) (xc:pX K C) (xf:eS K C "fault") (xk:eS K SP "kind") :
  ai P w K mg base (CX2 P w) 7 f fd ["skin","deed"] (kj Cs Y SP):=by
 show U.ok2 qt (λvs H Q E h=>?_) (λv A outer s H vs Q E l h=>?_)
 .obtain⟨x,d,ts,us,k,m,n,y,rfl,_⟩:=h;rfl
 obtain⟨x,d,ts,us,k,m,n,y,rfl,sk,dd,hc,hk,hw,few,q,qN,qS⟩:=h;have ap:Room 5 (A.deeper (PyProof.Rows.envOfC "changed" (ao ir) ↥s f v)):=l.mono ⋯;have aM:Room 4 (A.deeper (PyProof.Rows.envOfC "changed" (ao ir) ↥s f v)):=l.mono ⋯;have ab:Room 2 (A.deeper (PyProof.Rows.envOfC "changed" (ao ir) ↥s f v)):=l.mono ⋯;have aS:Room 1 (A.deeper (PyProof.Rows.envOfC "changed" (ao ir) ↥s f v)):=l.mono ⋯;show⟨_,ah (sx 2 qt.nd (uc G1 ap (pa1 (pv 1))))
  (ah (du (fe u.g.weak ab rfl u.m u.k u.b .nil pass1 (ae (pv 0) (pa1 (pv 2)))))
  (ah (du (uc G3 aS (ae (pv 0) (pa1 (pv 2)))))
  (ah (sx 3 qt.nd (uc G4 aM (ae (pv 0) (pa1 (pv 2)))))
  (ak (Gm (i:=4) ⟨rfl,rfl⟩ rfl qt.nd rfl rfl rfl mM cM am rfl mN cN an (λOY xe E hp=>ak (aD (yv MK GK l rfl mK bK .nil hp (pa1 (pv 3)))))
   (λx xe hR=>ak (vZ hR rfl MX (GX x).len (λa0 outer s H args us vs Q e0 D hv h=>(GX x).run _ outer s H args us vs Q E0 ((ab.suite x).make SP a0 []) e0 D hv h) bX rfl mX (pa1 (ixx bD (show PE _ _ (zQ K (aW 4) "fault") from Gq (pv 4) rfl) aj)))) letsv))))),?_⟩
 show⟨_,rfl,d,k,m,n,y,rfl,dd,λd' H1 s1 I=>?_⟩;show⟨_,rfl,_,rfl,x,d',ts,us,k,m,n,y,rfl,sk.sm (Sm.of s1),I,hc,hk,λH2 s2 ht=>?_,λH2 s2 J L=>qN H2 (Sm.of (s1.trans s2)) J L⟩;have M:=Sm.of (s1.trans s2);show⟨_,rfl,_,rfl,x,d',ts,us,k,m,n,y,rfl,sk.sm M,I.same s2,hw,?_⟩;show⟨_,rfl,_,rfl,x,d',ts,us,k,m,n,y,rfl,sk.sm M,I.same s2,hc,ht,hk,λrs r vr H3 g3 s3 y3 t3 N=>?_⟩;have ad:=M.trans s3;show⟨λcls d H'=>cls=.ref C/\∃a,d=some a/\¬Skn rs/\Sm H3 H'/\uz H' a,?_,?_⟩
 .refine⟨_,rfl,λz dx hz ag al=>?_⟩;have O:=vY (Cs:=Cs) hz ag;show⟨z,dx,r,vr,rs,rfl,aN,O _ _ y3,t3.same O,few rs N,λa1 H' sm a2=>⟨rfl,q rs a1 z H' N (ad.trans (xT hz ag sm)) a2⟩,λa H' R sm fl=>⟨rfl,a,rfl,R,(Sm.of O).trans sm,fl⟩⟩
 rintro cls d H' ⟨rfl,a,rfl,R,sm,t,kk,xs,J,L,e3⟩;show⟨C,p,rfl,cN,nM,by rw[qH];simp,λe he=>?_⟩;have S:=bL (o:=eF e (.ref C) (some a)) he;show⟨_,rfl,e,C,a,_,_,rfl,aN,S _ _ J,xc,xf,rfl,t,_,_,_,rfl,rfl,SqT.of (S _ _ L),bO (j:=0) rfl,?_⟩;show⟨by change 1<=sizeLine;rw[cK];decide,λz hz=>⟨z,SP,kk,rfl,aN,MX.over,xk,e3,λdx hx al=>⟨rfl,some dx,?_,?_⟩⟩⟩
 .rw[av (ax al),aN]
 have fin:Same H' (del (upd (upd (upd (upd H' e (eF e (.ref C) (some a))) z (cu z SP none)) z (cu z SP (some dx))) dx (.xd [("kind",.str kk)])) z):=λb o D=>by
  have h1:=S _ _ D;have c:=au h1 hz;have h2:upd (upd H' e (eF e (.ref C) (some a))) z (cu z SP none) b=some o:=by rw[av c];show h1
  rw[dZ c,av (au h2 hx),av c];show h2
 show⟨⟨.ref C,some a,?_⟩,qS _ rs _ (ad.trans (sm.trans (Sm.of fin))) N R⟩;have c:e≠z:=λw=>by rw[<-w,aN] at hz;cases hz
 have h2:upd (upd H' e (eF e (.ref C) (some a))) z (cu z SP none) e=some (eF e (.ref C) (some a)):=by rw[av c,aN]
 rw[dZ c,av (au h2 hx),av c];show h2
end
section
variable {ts us rs vs:List Tri}{x k:Nat}{S:Nat->Prop}
def In3(S:Nat->Prop)(rs:List Tri):Prop:=∀t∈rs,S t.1/\S t.2.1/\S t.2.2
theorem l8(h:Alike us rs)(i:In3 S rs):In3 S us:=λt b=>by
 obtain⟨u,c,rfl⟩:=ar.mp (h.mem_iff.mp b);obtain⟨h1,h2,a⟩:=i u c;rcases jj u with z|z|z<;>rw[z]
 .exact⟨h1,h2,a⟩
 .exact⟨h2,a,h1⟩
 show⟨a,h1,h2⟩
theorem j6{g:List Tri}(i:In3 S us):In3 S (wo us g):=λt a=>i t (dG.mp a).1
theorem iD(i:In3 S us)(j:In3 S vs):In3 S (us++vs):=λt a=>(a_.mp a).elim (i t) (j t)
theorem fH{a b c:Nat}(ha:S a)(d:S b)(f:S c)(i:In3 S us):In3 S ((a,b,c)::us):=λt g=>(aG.mp g).elim (λe=>by rw[e];show⟨ha,d,f⟩) (i t)
theorem jR:In3 S []:=λt a=>by cases a
theorem Hu(i:In3 S us)(e:S k):In3 S (dwn us k x):=λt a=>by
 obtain⟨u,b,rfl⟩:=ar.mp a;obtain⟨h1,h2,d⟩:=i u (dG.mp b).1;have o:∀c,S c->S (onto k x c):=λc f=>by unfold onto;split<;>assumption
 show⟨o _ h1,o _ h2,o _ d⟩
structure Bs(ts us:List Tri)(x:Nat):Prop where
 t:SkT ts us
 l:ts.length<=16
 hx:¬Co ts x
 b:x<10 ^ 160
abbrev Sx(ts:List Tri)(x:Nat):Nat->Prop:=λc=>c=x\/Co ts c
theorem jU(us g:List Tri):(wo us g).length<=us.length:=eg _ _
theorem iH(h:Alike us rs):us.length=rs.length:=by rw[h.length_eq,ay]
theorem Bs.co1(B:Bs ts us x){a b c:Nat}(e:En ts a b c):Sx ts x a/\Sx ts x b/\Sx ts x c:=by have r:=B.t.sk.g.sk;show⟨.inr ⟨_,_,e⟩,.inr ⟨_,_,r.rot e⟩,.inr ⟨_,_,r.rot (r.rot e)⟩⟩
theorem Bs.in3(B:Bs ts us x):In3 (Sx ts x) us:=l8 B.t.al λt a=>B.co1 (cG.mpr (.inl a))
theorem Bs.few(B:Bs ts us x)(l:rs.length<=63)(i:In3 (Sx ts x) rs):Few rs:=by
 have b:∀c,Sx ts x c->c<10 ^ 160:=λc a=>a.elim (λe=>by rw[e];show B.b) (B.t.bd c);show⟨l,λm nd hm=>?_,λt d=>⟨b _ (i t d).1,b _ (i t d).2.1,b _ (i t d).2.2⟩⟩;have h:∀c,Co rs c->c=x\/Co ts c:=λc a=>by
  obtain⟨g,j,f⟩:=a;rcases cG.mp f with z|z|z
  .exact (i _ z).1
  .exact (i _ z).2.1
  show (i _ z).2.2
 have:=zL h nd hm;have:=B.l;lia
theorem lex3{a b:Tri}(h1:HT.lexLt [(b.1:Int),(b.2.1:Int),(b.2.2:Int)] [(a.1:Int),(a.2.1:Int),(a.2.2:Int)]=false)(h2:HT.lexLt [(a.1:Int),(a.2.1:Int),(a.2.2:Int)] [(b.1:Int),(b.2.1:Int),(b.2.2:Int)]=false):a=b:=by
 obtain⟨c,d,e⟩:=a;obtain⟨f,g,h⟩:=b;simp[HT.lexLt] at h1 h2;have i:c=f:=by split at h1<;>split at h2<;>lia
 subst i;rw[OU rfl] at h1 h2;have j:d=g:=by split at h1<;>split at h2<;>lia
 subst j;rw[OU rfl] at h1 h2;have l:e=h:=();rw[l]
theorem rL(p:us.Perm vs)(h1:Srt us)(h2:Srt vs):us=vs:=List.Perm.eq_of_pairwise (λa b _ _ x y=>lex3 x y) h1 h2 p
theorem Bs.same(B:Bs ts us x)(h:Alike us rs)(t:SkT rs vs):vs=us:=rL (t.al.trans h.symm) t.so B.t.so
theorem Bs.skn(B:Bs ts us x)(h:Alike us rs):Skn rs:=B.t.sk.pm (h.ents.symm.trans B.t.al.ents)
theorem CG(us:List Tri):PyData.depthAll (us.map cW)<=1:=by
 induction us with
 |nil=>show bE _
 |cons u us a=>
  rw[aY];change max (cW u).depth _<=1;have:(cW u).depth=1:=by simp[cW,PyData.depth,PyData.depthAll]
  lia
theorem DG(us:List Tri):PyData.eqv (.list (us.map cW)) (.list (us.map cW))=true:=by
 change PyData.eqvAll _ _=true;induction us with
 |nil=>rfl
 |cons u us a=>
  rw[aY];change (PyData.eqv (cW u) (cW u)&&_)=true;rw[rK,a];simp
theorem lQ{l m:Addr}{a b:List V}{neg:Bool}{Q:VK}(h1:H l=some (.lst a))(c:aA H a us)(h2:H m=some (.lst b))(d:aA H b us)(q:Q (.bl (!neg)) H):uw [] neg (.ref l) (.ref m) H Q:=by
 show⟨_,_,.lst (SqL.of h1) (tE c),.lst (SqL.of h2) (tE d),?_,?_⟩
 .have:=CG us;change PyData.depthAll (us.map cW)+1<=60;lia
 rw[DG];cases neg<;>show q
theorem JO(rim:List Nat):(ents (clo x rim)).Perm (ents (caps x ((prs rim).map swp))):=by
 unfold clo caps;rw[bC];induction prs rim with
 |nil=>show .refl _
 |cons s l a=>
  rw[aY,aY];change (([((s.2,s.1),x),((s.1,x),s.2),((x,s.2),s.1)]:List _)++ents _).Perm ([((x,s.2),s.1),((s.2,s.1),x),((s.1,x),s.2)]++ents _);show .append ?_ a;show (ft (l₁:=[((s.2,s.1),x),((s.1,x),s.2)]) (l₂:=[((x,s.2),s.1)]))
end
end K15
end
section
namespace K15
open PySem L2 K51 K31
def IE(Cs:Addr)(vs:List V)(H:Hp)(Q:VK)(x d:Addr)(ts us:List Tri)(k:Kd)(m n y:Nat):Prop:=vs=[.ref x,.ref d]/\bU Cs H x ts us/\f_ H d k m n y/\(∃c,En ts m n c)/\(k.rim=true->∀c,¬En ts n m c)/\(k.wis=true->¬Co ts y)/\(∀rs,Beh ts us m n y rs k->Few rs)/\
 (∀rs a z H',Beh ts us m n y rs k->Sm H H'->bU Cs H' z rs a->Q (.ref z) H')/\∀H',Sm H H'->(k=.turn\/∃rs,Beh ts us m n y rs k/\¬Skn rs)->Q .non H'
def p5(Cs:Addr):Sp:=λvs H Q _=>Exists (Ex8 (IE Cs vs H Q))
def DV(Cs:Addr)(vs:List V)(H:Hp)(Q:VK)(x a:Addr)(ts us:List Tri)(m n y:Nat):Prop:=vs=[.ref x,.ref a]/\bU Cs H x ts us/\Bs ts us y/\H a=some (sdT m n)/\(∃c,En ts m n c)/\∀H',Sm H H'->Q (.bl true) H'
def xM(Cs:Addr):Sp:=λvs H Q _=>Exists (Ex7 (DV Cs vs H Q))
def ID(Cs:Addr)(vs:List V)(H:Hp)(Q:VK)(x a:Addr)(ts us:List Tri)(m n y:Nat):Prop:=vs=[.ref x,.ref a,.int (y:Int)]/\bU Cs H x ts us/\Bs ts us y/\H a=some (sdT m n)/\(∃c,En ts m n c)/\∀H',Sm H H'->Q (.bl true) H'
def zY(Cs:Addr):Sp:=λvs H Q _=>Exists (Ex7 (ID Cs vs H Q))
section
theorem p9:aK ["_law_skin_here","_law_deed","_law_made"] ["_law_skin_here","_law_deed"] (ao nR):=⟨rfl,rfl,rfl,⋯,rfl,⋯,⋯⟩
theorem Jh{f i Cs a SP:Addr}{fd j:FuncData}(U:Fun K "_law_changed" "_law_changed" nR f fd)(G:ia (CX2 P w) P w K mg base 7 "changed" ["skin","deed"] (kj Cs a SP) i j)(mN:mg "NoSide" = some (.ref a))(l:mg "Spoilt" = some (.ref SP))
  (x1:W.exmOne K (.ref a) (.ref a)=some true) (x2:W.exmOne K (.ref a) (.ref SP)=some false) (o:W.exmOne K (.ref SP) (.ref a)=some false) (p:W.exmOne K (.ref SP) (.ref SP)=some true):ai P w K mg base CX0 8 f fd ["_law_skin_here","_law_deed"] (p5 Cs):=by
 show U.ok p9 (by rintro _ _ _ _ ⟨_,_,_,_,_,_,_,_,rfl,_⟩;rfl) λJ A outer s H vs Q E r h=>?_
 obtain⟨x,d,ts,us,k,m,n,y,rfl,sk,dd,u,v,hw,few,q,c⟩:=h;show⟨_,ah (sx 2 p9.nd zp)
  (ah (Gk ⟨rfl,rfl⟩ rfl rfl mN rfl l (λOY xe E B=>ak (sx 2 p9.nd (fe G.g r rfl G.m G.k G.b .nil B (ae (pv 0) (pa1 (pv 1))))))
   (λx=>ak (sx 2 p9.nd zp)))
  (ak (aD (pv 2)))),?_⟩
 show⟨λcls d H'=>Sm H H'/\(cls=.ref a/\k=.turn\/cls=.ref SP/\∃rs,Beh ts us m n y rs k/\¬Skn rs),?_,?_⟩
 .exact⟨_,rfl,_,rfl,x,d,ts,us,k,m,n,y,rfl,sk,dd,u,v,hw,few,λrs C z H' b s D=>⟨_,rfl,q rs C z H' b s D⟩,λH' s e _=>⟨s,.inl ⟨rfl,e⟩⟩,λd' rs H' s b I=>⟨s,.inr ⟨rfl,rs,b,I⟩⟩⟩
 rintro cls d' H' ⟨s,⟨rfl,e⟩|⟨rfl,e⟩⟩
 .exact⟨_,_,x1,x2,rfl,_,rfl,c H' s (.inl e)⟩
 show⟨_,_,o,p,rfl,_,rfl,c H' s (.inr e)⟩
theorem oF:aK ["_law_skin_here","_law_side","_law_c","_law_d","_law_made"] ["_law_skin_here","_law_side"] (ao jH):=⟨rfl,rfl,rfl,⋯,rfl,⋯,⋯⟩
theorem EE{f f1 f2 f3 f4 Cs NS SP:Addr}{fd d1 d2 d3 d4:FuncData}(U:Fun K "_law_turned" "_law_turned" jH f fd)(X:SCls K Cs)(G:ia (CX2 P w) P w K mg base 7 "changed" ["skin","deed"] (kj Cs NS SP) f1 d1)(GL:Use P w K mg base 8 "_law_changed" ["_law_skin_here","_law_deed"] (p5 Cs) f2 d2)(M:eB P w K mg base Cs 1 "third" ["self","a","b"] (iZ Cs) f3 d3)(r:eB P w K mg base Cs 1 "triangles" ["self"] (gZ Cs) f4 d4) :
  ai P w K mg base CX0 9 f fd ["_law_skin_here","_law_side"] (xM Cs):=by
 show U.ok oF (by rintro _ _ _ _ ⟨_,_,_,_,_,_,_,rfl,_⟩;rfl) λOZ A outer s H vs Q E hr h=>?_
 obtain⟨x,i,ts,us,m,n,y,rfl,sk,B,o,⟨c,p⟩,q⟩:=h;have ad:Room 1 (A.deeper (PyProof.Rows.envOfC "_law_turned" (ao jH) ↥s f OZ)):=hr.mono ⋯;have ap:Room 7 (A.deeper (PyProof.Rows.envOfC "_law_turned" (ao jH) ↥s f OZ)):=hr.mono ⋯;show⟨_,ah (sx 2 oF.nd (gU (pv 0) X.cl M.m M.g ad M.b .nil pass0 (ae (ixx bD (pv 1) aj) (pa1 (ixx bD (pv 1) aj)))))
  (ah (sx 3 oF.nd (gU (pv 0) X.cl M.m M.g ad M.b .nil pass0 (ae (ixx bD (pv 1) aj) (pa1 (ixx bD (pv 1) aj)))))
  (ah (sx 4 oF.nd (uc GL hr (ae (pv 0) (pa1 (aJ (ae de (pa1 (pv 1))))))))
  (ak (aD (KW (tU (l6 (pv 4))) (j0 (fP (pM hr.units) (eK (fe G.g ap rfl G.m G.k G.b .nil j_ (ae (pv 4) (pa1 (aJ (ae de (pa1 (aJ (ae (pv 3) (pa1 (pv 2)))))))))) X.cl r.m r.g ad r.b .nil pass0) (eK (pv 0) X.cl r.m r.g ad r.b .nil pass0) (nomark _)))))))),?_⟩
 obtain⟨dx,O,R,D,S,hx⟩:=sk.obj;have g:=B.t.sk.g;have i3:=B.in3;have lu:=iH B.t.al;have a1:=B.l;obtain⟨sa,sb,sc⟩:=B.co1 p;show⟨_,rfl,x,dx,_,rfl,hx,rfl,_,rfl,i,_,_,_,rfl,rfl,SqT.of o,bO (j:=0) rfl,_,rfl,i,_,_,_,rfl,rfl,SqT.of o,bO (j:=1) rfl,x,ts,us,m,n,rfl,sk,λH1 s1=>⟨λc' aM=>?_,λz=>(z c p).elim⟩⟩;cases g.sk.one aM p;by_cases hd:∃d,En ts n m d
 .obtain⟨d,hd⟩:=hd;obtain⟨_,_,C⟩:=B.co1 hd;show⟨_,rfl,x,dx,_,rfl,s1 _ _ hx,rfl,_,rfl,i,_,_,_,rfl,rfl,SqT.of (s1 _ _ o),bO (j:=1) rfl,_,rfl,i,_,_,_,rfl,rfl,SqT.of (s1 _ _ o),bO (j:=0) rfl,x,ts,us,n,m,rfl,sk.sm (Sm.of s1),λH2 s2=>⟨λd' ag=>?_,λz=>(z d hd).elim⟩⟩;cases g.sk.one ag hd;have I:=s1.trans s2;show⟨_,rfl,_,rfl,lit2,λt3 H3 g3 J y3=>?_⟩;have u:=Sm.of (I.trans J);show⟨x,t3,ts,us,.turn,m,n,0,rfl,sk.sm u,⟨i,J _ _ (I _ _ o),y3⟩,⟨c,p⟩,(λz=>nomatch z),(λz=>nomatch z),λrs b=>?_,λrs v z L b4 N am=>?_,λL N _=>⟨_,rfl,_,rfl,aO (q L (u.trans N))⟩⟩
  .obtain⟨c1,d1,Y,Z,rfl⟩:=b;cases g.sk.one Y p;cases g.sk.one Z hd;have:=jU us [(m,n,c),(n,m,d)];show B.few (by unfold turned;rw[aU];change _+2<=_;lia) (iD (j6 i3) (fH sa C sc (fH C sb sc jR)))
  obtain⟨c1,d1,Y,Z,rfl⟩:=b4;cases g.sk.one Y p;cases g.sk.one Z hd;have T:=am.1;obtain⟨k1,k2,k3⟩:=CD g B.t.al p hd T.sk.g T.al;show⟨_,rfl,_,rfl,aB ⟨_,rfl,_,rfl,_,rfl,lit2,λt5 H5 g5 s5 y5=>⟨lit2,λt6 H6 g6 s6 y6=>?_⟩⟩⟩;have an:=s5.trans s6;have Bk:∀rs,Beh (turned us m n c d) v d c 0 rs .turn->rs=turned v d c m n:=λrs b=>by
   obtain⟨c1,d1,Y,Z,rfl⟩:=b;rw[T.sk.g.sk.one Y k1,T.sk.g.sk.one Z k2]
  show⟨z,t6,_,v,.turn,d,c,0,rfl,am.sm (Sm.of an),⟨t5,s6 _ _ y5,y6⟩,⟨m,k1⟩,(λz=>nomatch z),(λz=>nomatch z),λrs b=>?_,λrs a2 z2 H7 b7 s7 ab=>?_,λH' _ _ z=>(z n k2).elim,λd' rs H' _ b hn=>?_⟩
  .rw[Bk rs b];have l1:=jU us [(m,n,c),(n,m,d)];have l2:=jU v [(d,c,m),(c,d,n)];have l3:=iH T.al;have l4:(turned us m n c d).length=(wo us [(m,n,c),(n,m,d)]).length+2:=aU;have i4:In3 (Sx ts y) v:=l8 T.al (iD (j6 i3) (fH sa C sc (fH C sb sc jR)));show B.few (by unfold turned;rw[aU];change _+2<=_;lia) (iD (j6 i4) (fH C sb sa (fH sb sc sa jR)))
  .rw[Bk rs b7] at ab;rw[B.same k3 ab.1] at ab;obtain⟨aS,O2,R2,D2,S2,a0⟩:=ab.obj;show⟨z2,aS,_,rfl,a0,rfl,z2,_,us,rfl,ab,λl1 a3 H8 a4 s8 y8 t8=>?_⟩;have all:=((u.trans N).trans (Sm.of an)).trans (s7.trans (Sm.of s8));show⟨_,rfl,x,dx,_,rfl,all.keep hx (λz=>z),rfl,x,ts,us,rfl,sk.sm all,λl2 a5 H9 a6 s9 y9 t9=>?_⟩;show lQ (s9 _ _ y8) (t8.same s9) y9 t9 (q H9 (all.trans (Sm.of s9)))
  show (hn (by rw[Bk rs b];show B.skn k3)).elim
 show⟨_,rfl,x,dx,_,rfl,s1 _ _ hx,rfl,_,rfl,i,_,_,_,rfl,rfl,SqT.of (s1 _ _ o),bO (j:=1) rfl,_,rfl,i,_,_,_,rfl,rfl,SqT.of (s1 _ _ o),bO (j:=0) rfl,x,ts,us,n,m,rfl,sk.sm (Sm.of s1),λH2 s2=>⟨λd' ag=>(hd ⟨_,ag⟩).elim,λz=>?_⟩⟩;have I:=s1.trans s2;show⟨_,rfl,_,rfl,lit2,λt3 H3 g3 J y3=>?_⟩;have u:=Sm.of (I.trans J);show⟨x,t3,ts,us,.turn,m,n,0,rfl,sk.sm u,⟨i,J _ _ (I _ _ o),y3⟩,⟨c,p⟩,(λz=>nomatch z),(λz=>nomatch z),λrs ⟨_,_,_,e,_⟩=>(hd ⟨_,e⟩).elim,λrs v z L ⟨_,_,_,e,_⟩ _ _=>(hd ⟨_,e⟩).elim,λL N _=>⟨_,rfl,_,rfl,aO (q L (u.trans N))⟩⟩
end
section
theorem p7:aK ["_law_skin_here","_law_side","_law_x","_law_made","_law_corner","_law_back"] ["_law_skin_here","_law_side","_law_x"] (ao jN):=⟨rfl,rfl,rfl,⋯,rfl,⋯,⋯⟩
theorem Jg{f f1 f2 f3 f4 Cs NS SP:Addr}{fd d1 d2 d3 d4:FuncData}(U:Fun K "_law_put_in" "_law_put_in" jN f fd)(X:SCls K Cs)(G:ia (CX2 P w) P w K mg base 7 "changed" ["skin","deed"] (kj Cs NS SP) f1 d1)(GL:Use P w K mg base 8 "_law_changed" ["_law_skin_here","_law_deed"] (p5 Cs) f2 d2)(M:eB P w K mg base Cs 1 "third" ["self","a","b"] (iZ Cs) f3 d3)(p:eB P w K mg base Cs 1 "triangles" ["self"] (gZ Cs) f4 d4) :
  ai P w K mg base CX0 9 f fd ["_law_skin_here","_law_side","_law_x"] (zY Cs):=by
 show U.ok p7 (by rintro _ _ _ _ ⟨_,_,_,_,_,_,_,rfl,_⟩;rfl) λOZ A outer s H vs Q E J h=>?_
 obtain⟨x,d,ts,us,m,n,y,rfl,sk,B,hs,⟨c,o⟩,q⟩:=h;have ab:Room 1 (A.deeper (PyProof.Rows.envOfC "_law_put_in" (ao jN) ↥s f OZ)):=J.mono ⋯;have ap:Room 7 (A.deeper (PyProof.Rows.envOfC "_law_put_in" (ao jN) ↥s f OZ)):=J.mono ⋯;show⟨_,ah (sx 3 p7.nd (fe G.g ap rfl G.m G.k G.b .nil j_ (ae (pv 0) (pa1 (aJ (ae de (ae (pv 1) (pa1 (pv 2)))))))))
  (ah (cR cY rfl (bW (bT (ae (ixx bD (pv 1) aj) (ae (ixx bD (pv 1) aj) (pa1 (gU (pv 0) X.cl M.m M.g ab M.b .nil pass0 (ae (ixx bD (pv 1) aj) (pa1 (ixx bD (pv 1) aj))))))))) (gx 4 p7.nd)
   (ah (sx 5 p7.nd (uc GL J (ae (pv 3) (pa1 (aJ (ae de (pa1 (aJ (ae (pv 4) (pa1 (pv 2)))))))))))
   (ak (bq (PW.pt (fT (gB (l6 (pv 5))) (gA (a7 (tV J.units) (eK (pv 5) X.cl p.m p.g ab p.b .nil pass0) (eK (pv 0) X.cl p.m p.g ab p.b .nil pass0) (nomark _))))) (ak (aD fj)) bp))))
  (ak (aD fj))),?_⟩
 obtain⟨dx,O,R,D,S,hx⟩:=sk.obj;have g:=B.t.sk.g;have i3:=B.in3;have lu:=iH B.t.al;have a4:=B.l;obtain⟨sa,sb,sc⟩:=B.co1 o;have sy:Sx ts y y:=.inl rfl;have lw:=jU us [(m,n,c)];have li:(inn us m n c y).length<=19:=by unfold inn;rw[aU];change _+3<=_;lia
 have ii:In3 (Sx ts y) (inn us m n c y):=iD (j6 i3) (fH sa sb sy (fH sb sc sy (fH sc sa sy jR)));have Bk:∀rs,Beh ts us m n y rs .inn->rs=inn us m n c y:=λrs b=>by
  obtain⟨c1,e1,rfl⟩:=b;rw[g.sk.one e1 o]
 show⟨_,rfl,_,rfl,_,rfl,lit3,λt1 H1 g1 s1 y1=>?_⟩;have am:=Sm.of s1;show⟨x,t1,ts,us,.inn,m,n,y,rfl,sk.sm am,⟨d,s1 _ _ hs,y1⟩,⟨c,o⟩,(λz=>nomatch z),(λ_=>B.hx),λrs b=>?_,λrs u z H2 b2 s2 ad=>?_,(λH' _ z=>nomatch z),λd' rs H' _ b hn=>(hn (by rw[Bk rs b];show yH B.t.sk B.t.al o B.hx)).elim⟩
 .rw[Bk rs b];show B.few () ii
 rw[Bk rs b2] at ad;clear b2;have C:=am.trans s2;have N:H2 d=some (sdT m n):=C.keep hs (λz=>z);have aM:H2 x=some (.ins Cs dx (sflds O R D S)):=C.keep hx (λz=>z);show⟨_,rfl,d,_,_,_,rfl,rfl,SqT.of N,bO (j:=0) rfl,_,rfl,d,_,_,_,rfl,rfl,SqT.of N,bO (j:=1) rfl,_,rfl,x,dx,_,rfl,aM,rfl,_,rfl,d,_,_,_,rfl,rfl,SqT.of N,bO (j:=0) rfl,_,rfl,d,_,_,_,rfl,rfl,SqT.of N,bO (j:=1) rfl,x,ts,us,m,n,rfl,sk.sm C,λH3 s3=>⟨λc' aS=>?_,λz=>(z c o).elim⟩⟩;cases g.sk.one aS o;show⟨lit3,λL H4 g4 s4 y4=>⟨L,rfl,⟨_,SqL.of y4⟩,eL (K:=[]) (a:=L) (xs:=[V.int (m:Int),.int (n:Int),.int (c:Int)]) (λi Z H'=>∃o4 o5,Z=[some (.ref x),some (.ref d),some (.int (y:Int)),some (.ref z),o4,o5]/\Sm H4 H') ⟨_,_,rfl,Sm.refl _⟩
  (λi Z H' _ ⟨_,_,_,e⟩=>SqL.of (e.keep y4 (λz=>z))) ?_ ?_⟩⟩
 .rintro i v Z H5 hi ⟨o4,o5,rfl,Y⟩;obtain⟨k,rfl,hk⟩:∃k:Nat,v=.int (k:Int)/\(k=m\/k=n\/k=c):=by
   have:=aZ hi;simp only[aG,dS,or_false] at this;rcases this with rfl|rfl|rfl
   .exact⟨m,rfl,.inl rfl⟩
   .exact⟨n,rfl,.inr (.inl rfl)⟩
   show⟨c,rfl,.inr (.inr rfl)⟩
  have a0:Sx ts y k:=by rcases hk with rfl|rfl|rfl<;>assumption
  have T:=ad.1;obtain⟨⟨r,k1⟩,k2⟩:=E5 B.t.sk B.t.al o B.hx T.al hk;have a1:=((Sm.of s3).trans (Sm.of s4)).trans Y;show⟨_,rfl,_,rfl,_,rfl,lit2,λt6 H6 g6 s6 y6=>⟨lit2,λt7 H7 g7 s7 y7=>?_⟩⟩;have an:=a1.trans (Sm.of (s6.trans s7));show⟨z,t7,_,u,.draw,k,y,0,rfl,ad.sm an,⟨t6,s7 _ _ y6,y7⟩,⟨r,k1⟩,(λz=>nomatch z),(λz=>nomatch z),λrs b=>?_,λrs a5 z2 H8 b8 s8 I=>?_,λH8 s8 h8=>?_⟩
  .rw[show rs=dwn u k y from b];have l1:=iH T.al;have l2:(dwn u k y).length<=u.length:=by unfold dwn;rw[ay];show eg _ _
   show B.few () (Hu (l8 T.al ii) a0)
  .rw[show rs=dwn u k y from b8] at I;rw[B.same k2 I.1] at I;obtain⟨a2,O2,R2,D2,S2,a3⟩:=I.obj;have all:=(C.trans an).trans s8;show⟨_,rfl,_,rfl,skOr ⟨_,rfl,z2,a2,_,rfl,a3,rfl,z2,_,us,rfl,I,λl1 a6 H9 a8 s9 y9 t9=>?_⟩⟩;have a9:=all.trans (Sm.of s9);show⟨_,rfl,x,dx,_,rfl,a9.keep hx (λz=>z),rfl,x,ts,us,rfl,sk.sm a9,λl2 ba Ha bb ag ya ta=>?_⟩;show lQ (ag _ _ y9) (t9.same ag) ya ta ⟨_,rfl,aB ⟨_,_,rfl,?_⟩⟩;show ((Y.trans (Sm.of (s6.trans s7))).trans s8).trans (Sm.of (s9.trans ag))
  rcases h8 with h8|⟨rs,b,hn⟩
  .cases h8
  show (hn (by rw[show rs=dwn u k y from b];show B.skn k2)).elim
 rintro Z H5 ⟨o4,o5,rfl,Y⟩;show q H5 (((C.trans (Sm.of s3)).trans (Sm.of s4)).trans Y)
end
section
variable {ts us rs vs:List Tri}{x k:Nat}{rim d:List Nat}
theorem Bs.rim_l(B:Bs ts us x)(a:Cy (bc (En ts)) rim):rim.length<=47:=by have:=B.l;rcases F9 B.t.sk a with h|h<;>lia
theorem Bs.rimS(B:Bs ts us x){p q:Nat}(h:bc (En ts) p q):Sx ts x p/\Sx ts x q:=by obtain⟨⟨c,h⟩,_⟩:=h;show⟨(B.co1 h).1,(B.co1 h).2.1⟩
theorem Bs.rim_few(B:Bs ts us x)(a:Cy (bc (En ts)) rim):Few (us++clo x rim):=by have h1:=B.rim_l a;have h2:=iH B.t.al;have d:=B.l;show B.few (by unfold clo;rw[aU,ay,gz];lia) (iD B.in3 λt b=>?_);obtain⟨⟨p,q⟩,c,rfl⟩:=ar.mp b;obtain⟨h1,h2⟩:=B.rimS (a.st p q c);show⟨h2,h1,.inl rfl⟩
theorem Bs.rim_pm(B:Bs ts us x):(ents (us++clo x rim)).Perm (ents (ts++caps x ((prs rim).map swp))):=by rw[fJ,fJ];show B.t.al.ents.append (JO rim)
theorem Bs.rim_sk(B:Bs ts us x)(a:Cy (bc (En ts)) rim):Skn (us++clo x rim):=(yi B.t.sk B.hx a).pm B.rim_pm
theorem Bs.rim_al(B:Bs ts us x)(b:Cy (bc (En ts)) rim)(h:Alike vs (us++clo x rim)):Alike vs (ts++caps x ((prs rim).map swp)):=by
 show List.Perm.trans h ?_;rw[aL,aL];show .append ?_ (.of_eq ?_)
 .exact (mB ((iQ λt c=>oN B.t.al c).trans (mI _))).trans B.t.al
 unfold clo caps;rw[bC,bC,bC];show iQ λs d=>?_;obtain⟨e,f,i⟩:=(B.rim_sk b).g.ne (s.2,s.1,x) (eY _ (ar.mpr ⟨s,d,rfl⟩));show eR (a:=x) ⟨i,e,f⟩
structure Cap(ts:List Tri)(d:List Nat):Prop where
 nd:d.Nodup
 st:∀q p,(q,p)∈prs d->bc (En ts) p q
 l:d.length<=47
abbrev Wd(ts:List Tri)(x:Nat)(d:List Nat)(i:Nat):List Tri:=ts++caps x ((prs d).drop i)
theorem Bs.wd_sk(B:Bs ts us x)(c:Cap ts d)(i:Nat):Skn (Wd ts x d i):=HR B.t.sk B.hx c.nd c.st i
theorem Bs.wd_few(B:Bs ts us x)(c:Cap ts d){i:Nat}(h:Alike vs (Wd ts x d i))(g:List Tri):Few (wo vs g):=by have h1:=c.l;have h2:=iH h;have e:=B.l;have f:=jU vs g;rw[aU,show (caps x ((prs d).drop i)).length=_ from ay _,cF,gz] at h2;show B.few () (j6 (l8 h (iD (λt a=>B.co1 (cG.mpr (.inl a))) λt a=>?_)));obtain⟨⟨q,p⟩,b,rfl⟩:=ar.mp a;obtain⟨h1,h2⟩:=B.rimS (c.st q p (L8 b));show⟨.inl rfl,h2,h1⟩
theorem Fu(c:Cap ts d){i p:Nat}(hi:d[i]?=some p):∃q,(prs d).drop i=(p,q)::(prs d).drop (i+1):=by
 have e:(prs d)[i]?.map (·.1)=some p:=by rw[<-bf,iz];show hi
 obtain⟨⟨a,q⟩,h1,rfl⟩:=cw.mp e;obtain⟨b,h2⟩:=aI.mp h1;show⟨q,by rw[An b,h2]⟩
theorem Bs.cap(B:Bs ts us x)(d:Cy (bc (En ts)) rim)(i:rim≠[]){cs:List Nat}(f:Path (En (us++clo x rim) x) cs)(he:∀z,cs[cs.length-1]?=some z->∀b,cs[0]?=some b->(∀q,¬En (us++clo x rim) x z q)\/En (us++clo x rim) x z b)(g:∀b,cs[0]?=some b->∃q,En (us++clo x rim) x b q)(k:Nat) :
  Cap ts (cs.drop k++cs.take k)/\∀{vs},Alike vs (us++clo x rim)->Alike vs (Wd ts x (cs.drop k++cs.take k) 0):=by
 have e:En (us++clo x rim)=En (ts++caps x ((prs rim).map swp)):=by funext a b c;show propext B.rim_pm.mem_iff
 rw[e] at f he g;have pm:=CS B.t.sk B.hx d i f he g k;have j:(cs.drop k++cs.take k).Perm cs:=ft.trans (.of_eq (ig k cs));show⟨⟨j.nodup_iff.mpr f.nd,λq p h=>d.st p q (fK.mp (pm.mem_iff.mpr h)),?_⟩,λ{vs} h=>(B.rim_al d h).trans ?_⟩
 .have:=pm.length_eq;rw[ay,gz,gz] at this;have:=B.rim_l d;lia
 rw[aL,aL];show .append (.refl _) ((pm.map _).map _)
end
end K15
end
section
namespace K15
open PySem L2 K51 K31
def FS(Cs:Addr)(vs:List V)(H:Hp)(Q:VK)(x b:Addr)(ts us:List Tri)(m n y a:Nat):Prop:=vs=[.ref x,.ref b,.int (y:Int),.int (a:Int)]/\bU Cs H x ts us/\Bs ts us y/\H b=some (sdT m n)/\(∃c,En ts m n c)/\(∀c,¬En ts n m c)/\∀H',Sm H H'->Q (.bl true) H'
def zh(Cs:Addr):Sp:=λvs H Q _=>Exists (Ex8 (FS Cs vs H Q))
section
theorem jW:aK ["_law_skin_here","_law_side","_law_x","_law_at_here","_law_made","_law_around","_law_p"] ["_law_skin_here","_law_side","_law_x","_law_at_here"] (ao iY):=⟨rfl,rfl,rfl,⋯,rfl,⋯,⋯⟩
theorem GM{f f1 f2 f3 f4 Cs NS SP:Addr}{fd d1 d2 d3 d4:FuncData}(U:Fun K "_law_closed" "_law_closed" iY f fd)(T:cq mg)(X:SCls K Cs)(G:ia (CX2 P w) P w K mg base 7 "changed" ["skin","deed"] (kj Cs NS SP) f1 d1)(GL:Use P w K mg base 8 "_law_changed" ["_law_skin_here","_law_deed"] (p5 Cs) f2 d2)(GR:Use P w K mg base 4 "round_of" ["skin","corner"] (xG Cs) f3 d3)(C:eB P w K mg base Cs 1 "triangles" ["self"] (gZ Cs) f4 d4) :
  ai P w K mg base CX0 9 f fd ["_law_skin_here","_law_side","_law_x","_law_at_here"] (zh Cs):=by
 show U.ok jW (by rintro _ _ _ _ ⟨_,_,_,_,_,_,_,_,rfl,_⟩;rfl) λOZ A outer s H vs Q E N h=>?_
 obtain⟨x,sd,ts,us,m,n,y,a,rfl,sk,B,hs,hc,a3,q⟩:=h;have am:Room 1 (A.deeper (PyProof.Rows.envOfC "_law_closed" (ao iY) ↥s f OZ)):=N.mono ⋯;have a4:Room 4 (A.deeper (PyProof.Rows.envOfC "_law_closed" (ao iY) ↥s f OZ)):=N.mono ⋯;have a5:Room 7 (A.deeper (PyProof.Rows.envOfC "_law_closed" (ao iY) ↥s f OZ)):=N.mono ⋯;show⟨_,ah (sx 4 jW.nd (fe G.g a5 rfl G.m G.k G.b .nil j_ (ae (pv 0) (pa1 (aJ (ae de (ae (pv 1) (pa1 (pv 2)))))))))
  (ah (sx 5 jW.nd (uc GR a4 (ae (pv 4) (pa1 (pv 2)))))
  (ah (sx 3 jW.nd (aC eP (pv 3) (pln T.len (pv 5))))
  (ah (cR cY rfl (bW (aC fh (iu jL (pv 5) (iA (pv 3)) iB) (iu jL (pv 5) iB (iA (pv 3))))) (gx 6 jW.nd)
   (ah (sx 4 jW.nd (uc GL N (ae (pv 4) (pa1 (aJ (ae de (pa1 (aJ (ae (pv 2) (pa1 (pv 6)))))))))))
   (ak (bq (gB (l6 (pv 4))) (ak (aD fj)) bp))))
  (ak (aD (fP (pM N.units) (eK (pv 4) X.cl C.m C.g am C.b .nil pass0) (eK (pv 0) X.cl C.m C.g am C.b .nil pass0) (nomark _))))))),?_⟩
 obtain⟨dx,O,R,D,S,hx⟩:=sk.obj;have hz:=line5000;show⟨_,rfl,_,rfl,_,rfl,lit3,λt1 H1 g1 s1 y1=>?_⟩;have an:=Sm.of s1;show⟨x,t1,ts,us,.close,m,n,y,rfl,sk.sm an,⟨sd,s1 _ _ hs,y1⟩,hc,(λ_=>a3),(λ_=>B.hx),λrs ⟨rim,Y,_,e⟩=>by rw[e];show B.rim_few Y,λrs ap z H2 ⟨rim,Y,r0,e⟩ s2 ab=>?_,(λH' _ z=>nomatch z),λd' rs H' _ ⟨rim,Y,_,e⟩ hn=>(hn (by rw[e];show B.rim_sk Y)).elim⟩;subst e;have h0:rim≠[]:=λz=>by rw[z] at r0;cases r0
 have aM:Co (us++clo y rim) y:=by obtain⟨q',a6⟩:=oQ (aZ r0);show⟨q',m,B.rim_pm.mem_iff.mpr (eQ.mpr (.inr (i_.mpr ⟨(q',m),fK.mpr a6,.inl ⟨rfl,rfl,rfl⟩⟩)))⟩
 have a9:=an.trans s2;show⟨_,rfl,_,rfl,z,_,ap,y,rfl,ab,aM,λr ps H3 bw s3 y3 bb ad en be=>?_⟩;have bd:0<ps.length:=ib.mpr ad.ne;have ll:=bz ps;show⟨_,rfl,_,rfl,r,_,rfl,.inl (SqL.of y3),_,_,rfl,rfl,(),?_⟩;rw[ll,show ((λi j:Int=>V.int (i%j)) (a:Int) (ps.length:Int))=V.int ((a%ps.length:Nat):Int) from congrArg V.int (Int.natCast_emod a ps.length).symm];generalize a%ps.length=k;obtain⟨cap,al⟩:=B.cap Y h0 ad en be k;show⟨_,rfl,_,rfl,(k:Int),rfl,r,_,rfl,SqL.of y3,λp H4 hp s4 y4=>?_⟩;show⟨_,rfl,_,rfl,(k:Int),rfl,r,_,rfl,SqL.of (s4 _ _ y3),λp2 H5 bA s5 y5=>?_⟩;rw[show eA (nV ps) (some (k:Int)) none=(nV ps).drop k from rZ (nV ps) k] at y4;rw[show eA (nV ps) none (some (k:Int))=(nV ps).take k from zJ (nV ps) k] at y5;show⟨p,p2,_,_,rfl,rfl,s5 _ _ y4,y5,by rw[cF,bu];lia,λL H6 hL s6 y6=>?_⟩;have ed:(nV ps).drop k++(nV ps).take k=nV (ps.drop k++ps.take k):=by unfold nV;rw[<-uL,<-mJ,<-aL]
 rw[ed] at y6;have aS:=Sm.of ((s4.trans s5).trans s6);have bi:=(a9.trans s3).trans aS;have bl:=ab.sm (s3.trans aS);have bm:=al ab.1.al;clear y4 y5 y3 ed ll bd bb ad en be al aM r0;generalize ps.drop k++ps.take k=d at *;show⟨L,rfl,⟨_,SqL.of y6⟩,eL (K:=[]) (a:=L) (xs:=nV d) (λi Z H'=>∃o6 z o l,Z=[some (.ref x),some (.ref sd),some (.int (y:Int)),some (.int (k:Int)),some (.ref z),some (.ref r),o6]/\Sm H6 H'/\bU Cs H' z o l/\Alike l (Wd ts y d i)) ⟨_,z,_,ap,rfl,Sm.refl _,bl,bm⟩
  (λi Z H' _ ⟨_,_,_,_,_,e,_⟩=>SqL.of (e.keep y6 (λz=>z))) ?_ ?_⟩
 .rintro i v Z H7 hi ⟨o6,z,o,l,rfl,s7,u,I⟩;rw[nV,bf] at hi;obtain⟨p,hp,rfl⟩:=cw.mp hi;obtain⟨J,ep⟩:=Fu cap hp;have g7:=(B.wd_sk cap i).g;have T7:=u.1;have a0:En o y p J:=(T7.al.en _ _ _).mp ((I.en _ _ _).mpr (eQ.mpr (.inr (i_.mpr ⟨(p,J),by rw[ep];show gq,.inl ⟨rfl,rfl,rfl⟩⟩))));have a1:Alike (wo l [(y,p,J)]) (Wd ts y d (i+1)):=by
   have h1:Alike l (ts++caps y ((p,J)::(prs d).drop (i+1))):=by rw[<-ep];show I
   show HJ (by rw[<-ep];show g7) h1
  have Bk:∀rs,Beh o l y p 0 rs .out->rs=wo l [(y,p,J)]:=λrs ⟨c,e1,e2⟩=>by rw[e2,T7.sk.g.sk.one e1 a0]
  show⟨_,rfl,_,rfl,_,rfl,lit2,λt8 H8 g8 s8 y8=>⟨lit2,λt9 H9 g9 M y9=>?_⟩⟩;have a2:=Sm.of (s8.trans M);show⟨z,t9,o,l,.out,y,p,0,rfl,u.sm a2,⟨t8,M _ _ y8,y9⟩,⟨J,a0⟩,(λz=>nomatch z),(λz=>nomatch z),λrs b=>by rw[Bk rs b];show B.wd_few cap I _,λrs bn z2 Ha ba sa ag=>?_,λHa sa ha=>?_⟩
  .rw[Bk rs ba] at ag;show⟨_,rfl,_,rfl,aB ⟨_,z2,_,bn,rfl,s7.trans (a2.trans sa),ag,?_⟩⟩;show ag.1.al.trans ((mB (mi T7.al _)).trans a1)
  rcases ha with ha|⟨rs,b,hn⟩
  .cases ha
  show (hn (by rw[Bk rs b];show (B.wd_sk cap (i+1)).pm a1.ents)).elim
 rintro Z H7 ⟨o6,z,o,l,rfl,s7,u,I⟩;rw[bz,Wd,Ao (by rw[gz];show aq _),show ts++caps y []=ts from eG _] at I;rw[rL (I.trans B.t.al.symm) u.1.so B.t.so] at u;obtain⟨bt,O2,R2,D2,S2,bv⟩:=u.obj;have all:=bi.trans s7;show⟨_,rfl,z,bt,_,rfl,bv,rfl,z,o,us,rfl,u,λl1 bK H8 bM s8 y8 t8=>?_⟩;have a8:=all.trans (Sm.of s8);show⟨_,rfl,x,dx,_,rfl,a8.keep hx (λz=>z),rfl,x,ts,us,rfl,sk.sm a8,λl2 bN H9 bS M y9 t9=>?_⟩;show lQ (M _ _ y8) (t8.same M) y9 t9 (q H9 (a8.trans (Sm.of M)))
end
theorem Le{g:TG}{x:V}{tb:TS}{rt:VK}{bk P:St->Hp->Prop}(h:∀N:St->Hp->Prop,(∀Z' H',P Z' H'->N Z' H')->g x Z H (tb ⟨N,rt,bk,N⟩)):g x Z H λσ2 H2=>tb ⟨P,rt,bk,P⟩ σ2 H2:=h P λ_ _ z=>z
def DY(vs:List V)(H:Hp)(Q:VK)(p:Addr)(q:Int×Int)(m:Nat):Prop:=vs=[.ref p,.int (m:Int)]/\H p=some (.lst (bI q))/\cm q/\m<=16/\
 ∀r vr ts a H',H r=none->But p H H'->H' p=some (.lst (bI a))->cm a->H' r=some (.lst vr)->aA H' vr ts->ts.length<=m->Good ts->Q (.ref r) H'
def xP:Sp:=λvs H Q _=>Exists (Ex3 (DY vs H Q))
def Cov(ts:List Tri)(n:Nat):Prop:=∀c,Co ts c↔c<n
theorem JN{ts:List Tri}{cs:List Nat}{n:Nat}(h:Cs ts cs)(b:Cov ts n):cs.length=n:=by
 have nd:cs.Nodup:=h.1.imp λc=>bo c;have:cs.Perm (List.range n):=(Mb nd L9).mpr λa=>by
  rw[ic,h.2 a];show Iff.trans ?_ (b a);rw[ck];unfold flat;rw[gI];constructor
  .rintro⟨t,h1,h2⟩;show⟨t,h1,‹h2›⟩
  rintro⟨t,h1,h2⟩;show⟨t,h1,‹h2›⟩
 rw[this.length_eq,qL]
theorem Fq{ts:List Tri}{n a b x:Nat}(d:Cov ts n)(ha:a<n)(e:b<n)(hx:x<n\/x=n):Cov (ts++[(b,a,x)]) (if x=n then n+1 else n):=λc=>by
 have:Co (ts++[(b,a,x)]) c↔Co ts c\/c=b\/c=a\/c=x:=by
  rw[ck,ck];constructor
  .rintro⟨t,h1,h2⟩;rcases a_.mp h1 with h|h
   .exact .inl ⟨t,h,h2⟩
   rw[aQ] at h;subst h;show .inr h2
  rintro (⟨t,h1,h2⟩|h)
  .exact⟨t,dD _ h1,h2⟩
  show⟨(b,a,x),∅,h⟩
 rw[this,d c]
 split<;>lia
theorem HI{ts:List Tri}{n:Nat}(a:Cov ts n):Cov (ts++[(n,n+1,n+2)]) (n+3):=λc=>by
 have:Co (ts++[(n,n+1,n+2)]) c↔Co ts c\/c=n\/c=n+1\/c=n+2:=by
  rw[ck,ck];constructor
  .rintro⟨t,h1,h2⟩;rcases a_.mp h1 with h|h
   .exact .inl ⟨t,h,h2⟩
   rw[aQ] at h;subst h;show .inr h2
  rintro (⟨t,h1,h2⟩|h)
  .exact⟨t,dD _ h1,h2⟩
  show⟨(n,n+1,n+2),∅,h⟩
 rw[this,a c];lia
def sdD(s:Nat×Nat):PyData:=.tuple [.int (s.1:Int),.int (s.2:Int)]
theorem oZ{ss:List (Nat×Nat)}(h:SdsAt H vs ss):Dts K H vs (ss.map sdD):=by
 induction h with
 |nil=>show .nil
 |cons q _ b=>
  obtain⟨a,rfl,ha⟩:=q;show .cons (.tup (SqT.of ha) (.cons (.int _) (.cons (.int _) .nil))) b
theorem D9(ss:List (Nat×Nat)):(PyData.list (ss.map sdD)).depth<=60:=by
 have:PyData.depthAll (ss.map sdD)<=1:=by
  induction ss with
  |nil=>show bE _
  |cons u us a=>
   rw[aY];change max (sdD u).depth _<=1;have:(sdD u).depth=1:=by simp[sdD,PyData.depth,PyData.depthAll]
   lia
 change PyData.depthAll _+1<=60;lia
theorem HE(ds:List PyData):PyData.eqv (.list ds) (.list [])=ds.isEmpty:=by cases ds<;>simp[PyData.eqv,PyData.eqvAll]
theorem free_of{ts:List Tri}(g:Good ts){x:Tri}(h:∀s∈fc x,∀c,¬En ts s.1 s.2 c):iJ ts x=true:=by unfold iJ;rw[kH];intro s d;show OV λz=>?_;obtain⟨⟨⟨a,b⟩,c⟩,h1,rfl⟩:=ar.mp z;show h (a,b) d c h1
section
theorem fM:aK ["_law_pot_here","_law_most","_law_triples","_law_k","_law_rim","_law_come","_law_new","_law_a","_law_b","_law_thirds_here","_law_some","_law_near"] ["_law_pot_here","_law_most"] (ao oJ):=⟨rfl,rfl,rfl,⋯,rfl,⋯,⋯⟩
theorem EK{f f1 f2 f3 f4 f5:Addr}{fd d1 d2 d3 d4 d5:FuncData}(U:Fun K "_law_grown" "_law_grown" oJ f fd)(T:cq mg)
  (GD:Use P w K mg base 2 "_law_digit" ["_law_pot_here","_law_base"] i5 f1 d1)
  (GT:Use P w K mg base 2 "_law_thirds" ["_law_triples"] jG f2 d2)
  (GF:Use P w K mg base 2 "_law_free" ["_law_thirds_here","_law_triple"] tI f3 d3)
  (GR:Use P w K mg base 2 "_law_rim_sides" ["_law_triples"] zV f4 d4)
  (GC:Use P w K mg base 2 "_law_corners" ["_law_triples"] iU f5 d5) :
  ai P w K mg base CX0 3 f fd ["_law_pot_here","_law_most"] xP:=by
 show U.ok fM (by rintro _ _ _ _ ⟨_,_,_,rfl,_⟩;rfl) λOZ A outer s H vs Q E C h=>?_
 obtain⟨p,q,m,rfl,hp,bn,hm,Qq⟩:=h;have hu:=cU C;show⟨_,(ah (sx 2 fM.nd (bT fg))
  (ah (cR cY rfl (lr rfl T.range (pa1 (uc GD C (ae (pv 0) (pa1 (aC cZ (pv 1) aj)))))) (gx 3 fM.nd)
   (ah (sx 4 fM.nd (uc GR C (pa1 (pv 2))))
  (ah (sx 5 fM.nd (uc GC C (pa1 (pv 2))))
  (ah (sx 6 fM.nd (pln T.len (pv 5)))
  (ah (bq (a7 (pM C.units) (pv 4) (bT fg) (nomark _)) (ah (du (dJ eJ gK gL eZ (pv 2) (pa1 (aJ (ae (pv 6) (ae (aC cZ (pv 6) aj) (pa1 (aC cZ (pv 6) aj))))))))
  (ak vv)) bp)
  (ah (ff (ixx cQ (pv 4) (uc GD C (ae (pv 0) (pa1 (pln T.len (pv 4)))))) (cT rfl (aR (gx 7 fM.nd) (aR (gx 8 fM.nd) cP))))
  (ah (sx 9 fM.nd (uc GT C (pa1 (pv 2))))
  (ah (tO (i:=10) fM.nd rfl (.inl rfl) (aC fh (dB (N:=["_law_x","_law_a","_law_b","_law_thirds_here"]) (fr:=[none,some 7,some 8,some 9])  (c9 ⋯ rfl rfl ⋯ ⋯ (by walk_at"cs") (by walk_at"ct")) rfl (bW (pv 5))
    (λC' s' H' fp OY=>⟨(gx 0 (⋯:(["_law_x","_law_a","_law_b","_law_thirds_here"]:List Str).Nodup)),gR (PW.pt (iF (a7 (show OpR _ (compareOp .NotIn) (rIn [] true) from ij) (pv 0) (aJ (ae (pv 1) (pa1 (pv 2)))) rfl) (iy (dg (uc GF C (ae (pv 3) (pa1 (aJ (ae (pv 2) (ae (pv 1) (pa1 (pv 0)))))))))))),(pv 0)⟩)) (bT (pa1 (pv 6)))))
  (ah (tO (i:=11) fM.nd rfl (.inl rfl) (aC fh (dB (N:=["_law_x","_law_a","_law_b","_law_rim"]) (fr:=[none,some 7,some 8,some 4])  (c9 ⋯ rfl rfl ⋯ ⋯ (by walk_at"cs") (by walk_at"ct")) rfl (bW (pv 10))
    (λC' s' H' fp OY=>⟨(gx 0 (⋯:(["_law_x","_law_a","_law_b","_law_rim"]:List Str).Nodup)),gR (PW.pt (fT (a7 (show OpR _ (compareOp .In) (mn [] false) from tW C.units) (aJ (ae (pv 2) (pa1 (pv 0)))) (pv 3) rfl) (gA (a7 (show OpR _ (compareOp .In) (mn [] false) from tW C.units) (aJ (ae (pv 0) (pa1 (pv 1)))) (pv 3) rfl)))),(pv 0)⟩)) (pv 10)))
  (ak (du (dJ eJ gK gL eZ (pv 2) (pa1 (aJ (ae (pv 8) (ae (pv 7) (pa1 (ixx cQ (pv 11) (uc GD C (ae (pv 0) (pa1 (pln T.len (pv 11)))))))))))))))))))))))
  (ak (aD (pv 2))))),?_⟩
 have dj:=line5000;show⟨bE _,λl H1 a3 s1 y1=>?_⟩;obtain⟨d3,d4⟩:=dX (q:=q) (b:=(m:Int)+1) ();show⟨_,rfl,_,rfl,_,_,rfl,rfl,p,q,_,rfl,s1 _ _ hp,bn,(),lg20 (),λH2 k2 y2=>⟨_,rfl,(),(),?_⟩⟩;have a4:l≠p:=λz=>by rw[z,hp] at a3;cases a3
 have hN:(digO q ((m:Int)+1)).toNat<=m:=();generalize (digO q ((m:Int)+1)).toNat=N at hN;show lA (lo:=0) (n:=N) (λi Z H'=>∃o3 o4 o5 o6 o7 o8 o9 oa ob v g q' n,Z=[some (V.ref p),some (.int (m:Int)),some (.ref l),o3,o4,o5,o6,o7,o8,o9,oa,ob]/\But p H H'/\H' p=some (.lst (bI q'))/\cm q'/\H' l=some (.lst v)/\aA H' v g/\g.length<=i/\Good g/\Cov g n)
  ⟨none,none,none,none,none,none,none,none,none,[],[],_,0,rfl,λd o nb e=>(k2 d nb).trans (s1 _ _ e),y2,cH bn,(k2 l a4).trans y1,.nil,aq _,⟨∅,by simp[ents]⟩,λc=>by simp[ck]⟩ ?_ ?_
 .rintro i Z H4 hi ⟨o3,o4,o5,o6,o7,o8,o9,oa,ob,v,g,O,n,rfl,sm,ad,ap,ab,ag,cf,I,al⟩;show Le λNX hN=>?_;have dk:g.length<=16:=();have dl:=aH ag;have fin:∀(t:Addr)(u:Tri)(r:Hp)(q8:Int×Int)(n':Nat)(x3 x4 x5 x6 x7 x8 x9 xa xb:Option V),But p H r->r p=some (.lst (bI q8))->cm q8->r l=some (.lst v)->aA r v g->r t=some (.tup [.int (u.1:Int),.int (u.2.1:Int),.int (u.2.2:Int)])->Good (g++[u])->Cov (g++[u]) n'->∀B:Hp,(∀d,d≠l->B d=r d)->B l=some (.lst (v++[V.ref t]))->
    ∃o3 o4 o5 o6 o7 o8 o9 oa ob bt a5 q' n',[some (V.ref p),some (.int (m:Int)),some (.ref l),x3,x4,x5,x6,x7,x8,x9,xa,xb]=[some (V.ref p),some (.int (m:Int)),some (.ref l),o3,o4,o5,o6,o7,o8,o9,oa,ob]/\But p H B/\B p=some (.lst (bI q'))/\cm q'/\B l=some (.lst bt)/\aA B bt a5/\a5.length<=i+1/\Good a5/\Cov a5 n':=by
   intro t u r q8 n' x3 x4 x5 x6 x7 x8 x9 xa xb b8 p8 k8 f8 a6 ht g8 c8 B k9 y9;have tn:∀{d:Addr}{xs:List V},r d=some (.tup xs)->d≠l:=λe=>bZ e f8 ∅;show⟨_,_,_,_,_,_,_,_,_,_,g++[u],q8,n',rfl,λd o nb e=>(k9 d (au e a3)).trans (b8 d o nb e),(k9 p (ax a4)).trans p8,k8,y9,?_,by rw[aU,bY];lia,g8,c8⟩;show cD (Paired.imp' (λ_ _ ⟨d,R,S⟩=>⟨d,R,(k9 _ (tn S)).trans S⟩) a6) (.cons ⟨t,rfl,(k9 _ (tn ht)).trans ht⟩ .nil)
  have bb:∀{a b c:Nat},En g a b c->a<n/\b<n:=λ{a b c} e=>⟨(al a).mp ⟨b,c,e⟩,(al b).mp ⟨c,a,I.sk.rot e⟩⟩;show⟨_,rfl,l,v,g,rfl,ab,ag,(),I.nd,λX zs rs H5 cg s5 y5 sd ch dm _=>?_⟩;show⟨_,rfl,l,v,g,rfl,s5 _ _ ab,ag.same s5,(),λL cs H6 bv s6 y6 bw lcs=>?_⟩;have bA:=JN bw al;show⟨_,rfl,L,_,rfl,.inl (SqL.of y6),?_⟩;rw[bz,bA];have ci:=s5.trans s6;show⟨_,rfl,bE _,λz H7 hz s7 y7=>?_⟩;have am:=ci.trans s7;show⟨.list (rs.map sdD),.list [],.lst (SqL.of (s7 _ _ (s6 _ _ y5))) (oZ (K31.SdsAt.same s7 (K31.SdsAt.same s6 sd))),.lst (SqL.of y7) .nil,D9 rs,_,rfl,?_⟩;rw[OT bB,HE];cases rs with
  |nil=>
   show aO ⟨_,rfl,.inl ⟨rfl,_,SqL.of (am _ _ ab)⟩,_,rfl,_,rfl,_,_,rfl,rfl,_,rfl,_,_,rfl,rfl,lit3,λt r ht s8 y8=>?_⟩;have aM:=am.trans s8;show⟨l,v,_,rfl,rfl,aM _ _ ab,(),λB k9 y9=>hN _ _ ?_⟩;show fin t (n,n+1,n+2) r O (n+3) _ _ _ _ _ _ _ _ _ (sm.same aM) (aM _ _ ad) ap (aM _ _ ab) (ag.same aM) y8 (nY I ⟨by change n≠n+1;lia,by change n+1≠n+2;lia,by change n+2≠n;lia⟩ (free_of I λs hs c e=>?_)) (HI al) B k9 y9;have:=bb e;simp only[fc,aG,dS,or_false] at hs;rcases hs with rfl|rfl|rfl<;>simp only at this<;>lia
  |cons r0 rs=>
   show aB ?_;generalize cl:r0::rs=rl at *;have dp:0<rl.length:=by rw[<-cl];simp
   have dr:=aH sd;obtain⟨R,S⟩:=dX (q:=O) (b:=(zs.length:Int)) ();obtain⟨k,hk⟩:∃k:Nat,digO O (zs.length:Int)=(k:Int):=⟨_,(iN R).symm⟩;have co:k<rl.length:=();obtain⟨⟨a,b⟩,bK⟩:∃s,rl[k]?=some s:=⟨_,aX co⟩;obtain⟨zv,cp,tt,rfl,cr⟩:=tS sd bK;obtain⟨bM,cv⟩:=ch (a,b) (aZ bK);show⟨_,rfl,_,rfl,_,rfl,X,_,rfl,.inl (SqL.of (s7 _ _ (s6 _ _ y5))),p,O,_,rfl,am _ _ ad,ap,(),iX () (),λr k8 y8=>?_⟩;rw[hk];have cx:∀{d:Addr}{o:HO},H4 d=none->H7 d=some o->d≠p:=λh0 h1 z=>by rw[z,ad] at h0;cases h0
   have an:∀d o,d≠p->H7 d=some o->r d=some o:=λd o nb e=>(k8 d nb).trans e;have bN:H7 X=some (.lst zs):=s7 _ _ (s6 _ _ y5);have bS:=an _ _ (cx cg bN) bN;have bX:H7 tt=some (.tup [.int (a:Int),.int (b:Int)]):=s7 _ _ (s6 _ _ cr);have bd:=am _ _ ad;have cy:=an _ _ (bZ bX bd ∅) bX;have cB:SdsAt r zs rl:=Paired.imp' (λ_ _ ⟨d,R,S⟩=>⟨d,R,by have J:=s7 _ _ (s6 _ _ S);show an _ _ (bZ J bd ∅) J⟩) sd;have be:=an _ _ a4 (am _ _ ab);have a6:aA r v g:=Paired.imp' (λ_ _ ⟨d,R,S⟩=>⟨d,R,by have J:=am _ _ S;show an _ _ (bZ J bd ∅) J⟩) ag;have cC:H7 L=some (.lst (nV cs)):=s7 _ _ y6;have cM:L≠p:=λzz=>by rw[zz,s5 _ _ ad] at bv;cases bv
   have b0:=an _ _ cM cC;have cS:But p H r:=λd o nb e=>an _ _ nb (am _ _ (sm d o nb e));obtain⟨c0,c1⟩:a<n/\b<n:=by obtain⟨⟨⟨x,y⟩,c⟩,h1,h2⟩:=ar.mp bM;cases h2;show bb h1
   have b3:a≠b:=by obtain⟨⟨⟨x,y⟩,c⟩,h1,h2⟩:=ar.mp bM;cases h2;show I.sk.ne h1
   show⟨X,zs,(k:Int),_,rfl,rfl,SqL.of bS,bO cp,tt,_,rfl,SqT.of cy,rfl,_,_,rfl,_,_,rfl,rfl,?_⟩;show⟨_,rfl,l,v,g,rfl,be,a6,(),I.nd,λD B ds s9 y9=>?_⟩;show⟨_,rfl,L,rfl,⟨_,SqL.of (s9 _ _ b0)⟩,λZ_ hZ=>dH (K:=[]) (a:=L) (xs:=nV cs) (λi Z ys H'=>∃o sl,Z=[o,some (.int (a:Int)),some (.int (b:Int)),some (.ref D)]/\Same B H'/\H' Z_=some (.lst ys)/\ys=nV sl/\(∀x∈sl,x<n/\x≠a/\x≠b/\iJ g (b,a,x)=true)/\sl.length<=i)
    ⟨none,[],rfl,bL hZ,aN,rfl,∅,aq _⟩ (by rintro i Z ys H' _ ⟨_,_,_,e,_⟩;show SqL.of (e _ _ (s9 _ _ b0))) ?_ ?_⟩
   .rintro j y Z ys H' hj ⟨o,sl,rfl,sj,b4,rfl,aS,b5⟩;rw[nV,bf] at hj;obtain⟨x,hx,rfl⟩:=cw.mp hj;have b6:=(aI.mp hx).1;have c2:x<n:=by
     show (al x).mp ?_;have:=(bw.2 x).mp (aZ hx);rw[ck];unfold flat at this;rw[gI] at this;obtain⟨t,h1,h2⟩:=this;show⟨t,h1,‹h2›⟩
    show⟨_,rfl,_,rfl,_,rfl,lit2,λt1 Ha g1 sA yA=>?_⟩;show⟨t1,_,rfl,.inr (SqT.of yA),rfl,rfl,_,rfl,?_⟩;change if (if true=true then !inV (V.int (x:Int)) (nV [a,b]) else _)=true then _ else _
    rw[OU rfl,gX];by_cases a0:x∈[a,b]
    .rw[OV a0];show aB (aB ⟨_,sl,rfl,sj.trans sA,sA _ _ b4,rfl,aS,()⟩)
    rw[OW a0];show aO ⟨_,rfl,_,rfl,_,rfl,_,rfl,lit3,λt2 Hb g2 sB yB=>?_⟩;show⟨D,t2,g,(b,a,x),rfl,sB _ _ (sA _ _ (sj _ _ y9)),yB,λHc sC=>?_⟩;have b7:=((sj.trans sA).trans sB).trans sC;have b9:=sC _ _ (sB _ _ (sA _ _ b4));show⟨_,rfl,?_⟩;by_cases bi:iJ g (b,a,x)=true
    .rw[bi];show aO ⟨_,rfl,b9,by rw[bz];lia,λH3 k3 y3=>⟨_,sl++[x],rfl,λd o e=>(k3 d (au e hZ)).trans (b7 _ _ e),y3,by rw[pN,fi],λy hy=>?_,by rw[aU,bY];lia⟩⟩
     .rcases a_.mp hy with h|h
      .exact aS y h
      rw[aQ.mp h];simp at a0;show⟨c2,a0.1,a0.2,bi⟩
    rw[Bool.eq_false_iff.mpr bi];show aB ⟨_,sl,rfl,b7,b9,rfl,aS,()⟩
   rintro Z ys Ha ⟨o,sl,rfl,sA,c3,rfl,aS,b5⟩;rw[bz,bA] at b5;show⟨_,rfl,lit1,λl1 Hb g1 sB yB=>?_⟩;show⟨Z_,l1,_,_,rfl,rfl,sB _ _ c3,yB,by rw[bz];simp only[bY];lia,λSo Hc g2 sC yC=>?_⟩;rw[pN,fi] at yC;have a8:=(sA.trans sB).trans sC;show⟨_,rfl,So,rfl,⟨_,SqL.of yC⟩,λY hY=>dH (K:=[]) (a:=So) (xs:=nV (sl++[n])) (λi Z ys H'=>∃o nl,Z=[o,some (.int (a:Int)),some (.int (b:Int)),some (.ref X)]/\Same Hc H'/\H' Y=some (.lst ys)/\ys=nV nl/\(∀x∈nl,x∈sl++[n])/\nl.length<=i)
    ⟨none,[],rfl,bL hY,aN,rfl,∅,aq _⟩ (by rintro i Z ys H' _ ⟨_,_,_,e,_⟩;show SqL.of (e _ _ yC)) ?_ ?_⟩
   .rintro j y Z ys H' hj ⟨o,nl,rfl,sj,ca,rfl,a9,cb⟩;rw[nV,bf] at hj;obtain⟨x,hx,rfl⟩:=cw.mp hj;have b6:=(aI.mp hx).1;rw[aU,bY] at b6;have c4:=aZ hx;have cc:∀{Hx:Hp},Same H' Hx->Hx X=some (.lst zs)/\SdsAt Hx zs rl:=λsx=>⟨sx _ _ (sj _ _ (a8 _ _ (s9 _ _ bS))),K31.SdsAt.same (((s9.trans a8).trans sj).trans sx) cB⟩;have take:∀Hx:Hp,Same H' Hx->Hx Y=some (.lst (nV nl))/\(nV nl).length<sizeLine/\∀H3:Hp,(∀d,d≠Y->H3 d=Hx d)->H3 Y=some (.lst (nV nl++[V.int (x:Int)]))->∃o bl,[some (V.int (x:Int)),some (.int (a:Int)),some (.int (b:Int)),some (.ref X)]=[o,some (.int (a:Int)),some (.int (b:Int)),some (.ref X)]/\Same Hc H3/\H3 Y=some (.lst (nV nl++[V.int (x:Int)]))/\nV nl++[V.int (x:Int)]=nV bl/\(∀y∈bl,y∈sl++[n])/\bl.length<=j+1:=λHx sx=>by
     show⟨sx _ _ ca,by rw[bz];lia,λH3 k3 y3=>⟨_,nl++[x],rfl,λd o e=>(k3 d (au e hY)).trans (sx _ _ (sj _ _ e)),y3,by rw[pN,fi],λy hy=>?_,by rw[aU,bY];lia⟩⟩
     rcases a_.mp hy with h|h
     .exact a9 y h
     rw[aQ.mp h];show c4
    show⟨_,rfl,_,rfl,lit2,λt1 Hd g1 M yD=>?_⟩;obtain⟨r1,r2⟩:=cc M;show⟨_,rfl,sdD (b,x),X,zs,_,.tup (SqT.of yD) (.cons (.int _) (.cons (.int _) .nil)),rfl,.inl (SqL.of r1),oZ r2,by change max 0 (max 0 0)+1<=60;decide,_,rfl,?_⟩;rw[OT bB];generalize (rl.map sdD).any _=b1;cases b1 with
    |true=>show aO (aO ⟨_,rfl,take Hd M⟩)
    |false=>
     show aB ⟨_,rfl,_,rfl,lit2,λt2 He g2 sE yE=>?_⟩;obtain⟨r1,r2⟩:=cc (M.trans sE);show⟨_,rfl,sdD (x,a),X,zs,_,.tup (SqT.of yE) (.cons (.int _) (.cons (.int _) .nil)),rfl,.inl (SqL.of r1),oZ r2,by change max 0 (max 0 0)+1<=60;decide,_,rfl,?_⟩;rw[OT bB];generalize (rl.map sdD).any _=b2;cases b2 with
     |true=>show aO ⟨_,rfl,take He (M.trans sE)⟩
     |false=>show aB ⟨_,nl,rfl,sj.trans (M.trans sE),sE _ _ (M _ _ ca),rfl,a9,()⟩
   rintro Z ys Hd ⟨o,nl,rfl,M,c5,rfl,a9,cb⟩;rw[bz,aU,bY] at cb;show⟨_,rfl,Y,So,_,_,rfl,rfl,c5,M _ _ yC,by rw[bz,bz,aU,bY];lia,λNr He g3 sE yE=>?_⟩;rw[fi] at yE;have a1:Same r He:=((s9.trans a8).trans M).trans sE;have cd:He p=some (.lst (bI (nxt O (zs.length:Int)))):=a1 _ _ y8;obtain⟨J,e4⟩:=dX (q:=nxt O (zs.length:Int)) (b:=((nV (nl++(sl++[n]))).length:Int)) (by rw[bz];simp only[aU,bY];lia);obtain⟨a2,da⟩:∃k:Nat,digO (nxt O (zs.length:Int)) ((nV (nl++(sl++[n]))).length:Int)=(k:Int):=⟨_,(iN J).symm⟩;have dt:(nV (nl++(sl++[n]))).length=nl.length+(sl.length+1):=by rw[bz];simp
   have db:a2<(nl++(sl++[n])).length:=by have l2:=bz (nl++(sl++[n]));lia
   have bm:(nl++(sl++[n]))[a2]?=some (nl++(sl++[n]))[a2]:=aX db;generalize (nl++(sl++[n]))[a2]=x at bm;have dc:x∈sl++[n]:=by
    rcases a_.mp (aZ bm) with h|h
    .exact a9 x h
    show h
   show⟨_,rfl,.inl ⟨rfl,_,SqL.of (a1 _ _ be)⟩,_,rfl,_,rfl,_,rfl,_,rfl,_,rfl,Nr,_,rfl,.inl (SqL.of yE),p,_,_,rfl,cd,cH ap,(),iX () (),λHf kf yf=>?_⟩;rw[da];have ba:∀d o,d≠p->He d=some o->Hf d=some o:=λd o nb e=>(kf d nb).trans e;have dd:Nr≠p:=λzz=>by rw[zz,M _ _ (a8 _ _ (s9 _ _ y8))] at g3;cases g3
   show⟨Nr,_,(a2:Int),_,rfl,rfl,SqL.of (ba _ _ dd yE),bO (zu bm),lit3,λt Hg ht sG yG=>?_⟩;have ce:=sG _ _ (ba _ _ a4 (a1 _ _ be));show⟨l,v,_,rfl,rfl,ce,(),λB k9 y9=>hN _ _ ?_⟩;have good:Good (g++[(b,a,x)])/\(x<n\/x=n):=by
    rcases a_.mp dc with h|h
    .obtain⟨h1,h2,h3,h4⟩:=aS x h;show⟨nY I ⟨ax b3,ax h2,h3⟩ h4,.inl h1⟩
    rw[aQ.mp h];show⟨nY I ⟨ax b3,by change a≠n;lia,by change n≠b;lia⟩ (free_of I λs hs c e=>?_),.inr rfl⟩;have hn:=bb e;simp only[fc,aG,dS,or_false] at hs;rcases hs with rfl|rfl|rfl
    .exact cv (ar.mpr ⟨_,e,rfl⟩)
    .simp only at hn;lia
    simp only at hn;lia
   show fin t (b,a,x) Hg _ _ _ _ _ _ _ _ _ _ _ (λd o nb e=>sG _ _ (ba _ _ nb (a1 _ _ (cS d o nb e)))) (sG _ _ yf) (cH (cH ap)) ce (Paired.imp' (λ_ _ ⟨d,R,S⟩=>⟨d,R,by have J:=a1 _ _ S;show sG _ _ (ba _ _ (bZ J cd ∅) J)⟩) a6) yG good.1 (Fq al c0 c1 good.2) B k9 y9
 rintro Z H4 ⟨o3,o4,o5,o6,o7,o8,o9,oa,ob,v,g,O,n,rfl,sm,ad,ap,ab,ag,cf,I,al⟩;show⟨_,rfl,Qq l v g O H4 a3 sm ad ap ab ag () I⟩
end
section
variable {ts us vs:List Tri}{x m n:Nat}
theorem Bs.on_sk(B:Bs ts us x)(h:bc (En ts) m n):Skn (us++[(n,m,x)]):=by have s:Skn (ts++caps x [(n,m)]):=rM (F:=[n]) B.t.sk B.hx ∅ (λq p z=>by cases aQ.mp z;show h) ∅ (λq=>∅) trivial;show s.pm ?_;rw[fJ,fJ];show B.t.al.ents.append (ft (l₁:=[((n,m),x),((m,x),n)]) (l₂:=[((x,n),m)]))
theorem Bs.on_back(B:Bs ts us x)(T:SkT (us++[(n,m,x)]) vs):Alike us (wo vs [(n,m,x)]):=by unfold Alike;rw[mi T.al];show (mh (lK T.sk.g T.al) (T.al.trans ?_)).symm;rw[aL,(iQ λt a=>oN B.t.al a:us.map bg=us.map id),mI];show ft
end
theorem HS(s:Nat×Nat)(ss:List (Nat×Nat)):((ss.map sdD).any λz=>PyData.eqv z (sdD s))=decide (s∈ss):=by
 have e:∀z:Nat×Nat,PyData.eqv (sdD z) (sdD s)=decide (z=s):=λz=>by
  obtain⟨a,b⟩:=z;obtain⟨c,d⟩:=s;rw[fm];simp[sdD,PyData.eqv,PyData.eqvAll];lia
 rw[uG,fm,decide_eq_true_eq,qG];constructor
 .rintro⟨z,hz,h⟩;have h:PyData.eqv (sdD z) (sdD s)=true:=h;rw[e,decide_eq_true_eq] at h;show h ▸ hz
 show λh=>⟨s,h,by change PyData.eqv (sdD s) (sdD s)=true;rw[e];simp⟩
end K15
end
section
namespace HT
open PySem PySem.Spec PyProof.Rows
section
variable {prog:Program}
theorem getItem_tuple_all{t sl:Addr}{items:Array Value}{b c:Value}{lo hi:Option Int}{Q:Value->Shared->Prop}(a:IsTup s.heap t items)(d:s.heap.IsSliceOf sl b c .none)(pl:IsPart b lo)(pu:IsPart c hi)
  (hw:sIx items.size 0 lo=0/\sIx items.size items.size hi=items.size) (h:Q (.ref t) s):wpAny (model prog w) A (getItem (.ref t) (.ref sl)) Q E s:=by
 obtain⟨os,e,f,i⟩:=id d;have g:s.TypeIs (.ref sl) "slice":=⟨os,e,f⟩;unfold getItem
 try with_reducible show cL ?_
 first|show aa (af ?_)|skip
 show aa (Bn a.typeIs ⋯ ?_);show aa (iS (name:=Str.ofString "__getitem__") a.typeIs jx
  (fu jx a.typeIs A4 ?_ (A1 _ _)))
 change wpAny _ _ (Builtin.Tuple.tupleItemsOf (.ref t) >>= _) _ _ s;show aa (A_ a ?_);show aa (qZ g ?_);rw[OU ⋯];show aa (vh d pl pu ?_);have yes:(((sIx items.size 0 lo:Nat):Int)==0&&(1:Int)==1&&(sIx items.size items.size hi-sIx items.size 0 lo)==items.size)=true:=by rw[hw.1,hw.2];simp
 change wpAny _ _ (if (((sIx items.size 0 lo:Nat):Int)==0&&(1:Int)==1&&(sIx items.size items.size hi-sIx items.size 0 lo)==items.size)=true then _ else _) _ _ s;rw[OU yes];unfold Builtin.Tuple.tupleIsExact;show aa (aa (qZ a.typeIs (af ?_)));rw[OU ⋯];show aa (Bm (af ⟨_,rfl,af h⟩))
end
end HT
namespace L2
open PySem PySem.Spec PyProof.Rows
section
def rSlW(K:W.Frag):V->Option Int->Option Int->Hp->VK->Prop:=λx lo hi H Q=>∃a xs,x=.ref a/\SqT K H a xs/\
 ((HT.sIx xs.length 0 lo=0/\HT.sIx xs.length xs.length hi=xs.length)->Q (.ref a) H)/\(¬(HT.sIx xs.length 0 lo=0/\HT.sIx xs.length xs.length hi=xs.length)->∀p,H p=none->Q (.ref p) (upd H p (.tup (eA xs lo hi))))
theorem xU:SlR X (rSlW []):=by
 intro OY s Z H x v e f lo hi sl Q I b c pl pu h;obtain⟨a,xs,ex,hx,g,i⟩:=h;by_cases hw:HT.sIx xs.length 0 lo=0/\HT.sIx xs.length xs.length hi=xs.length
 .subst ex;cases b;obtain⟨j,r,d,hz⟩:=I.tuple hx;have hlen:j.toArray.size=xs.length:=by rw[bx];show r.length.symm
  show⟨"tuple",_,jx.lookup,d.typeIs,?_⟩;show HT.getItem_tuple_all d c pl pu (by rw[hlen];show hw) ⟨.ref a,H,I,rfl,g hw⟩
 show IG OY s Z H x v e f lo hi sl Q I b c pl pu ⟨a,xs,ex,hx,hw,i hw⟩
end
end L2
end
section
namespace K15
open PySem L2 K51 K31
def FO(vs:List V)(H:Hp)(Q:VK)(T:Addr)(c:List V)(ts:List Tri):Prop:=vs=[.ref T]/\H T=some (.lst c)/\aA H c ts/\ts.length<=63/\(∀t∈ts,t.1≠t.2.1/\t.2.1≠t.2.2/\t.2.2≠t.1)/\
 ∀r vr us ws H',H r=none->Same H H'->H' r=some (.lst vr)->aA H' vr us->us.Perm ws->Paired Bg ts ws->us.Pairwise (λa b=>HT.lexLt [(b.1:Int),(b.2.1:Int),(b.2.2:Int)] [(a.1:Int),(a.2.1:Int),(a.2.2:Int)]=false)->Q (.ref r) H'
def ze:Sp:=λvs H Q _=>Exists (Ex3 (FO vs H Q))
section
theorem o_:aK ["_law_triples","_law_found","_law_triple","_law_at_here"] ["_law_triples"] (ao p_):=⟨rfl,rfl,rfl,⋯,rfl,⋯,⋯⟩
theorem GE{f:Addr}(U:Fun K "_law_told" "_law_told" p_ f fd)(mN:mg "min" = none)(mS:mg "sorted" = none):ai P w K mg base CX0 1 f fd ["_law_triples"] ze:=by
 show U.ok o_ (by rintro _ _ _ _ ⟨_,_,_,rfl,_⟩;rfl) λOZ A outer s H vs Q E hr h=>?_
 obtain⟨C,vt,ts,rfl,hT,ht,hl,aS,Qq⟩:=h;have hu:=cU hr;show⟨_,(ah (sx 1 o_.nd (bT fg))
  (ah (cR cY rfl (bW (pv 0)) (gx 2 o_.nd) (ah (sx 3 o_.nd (z_ MC AS MQ (v_ hr.units) (pv 2) (pa1 (cz (BK rfl) (by rfl) mN nZ (pa1 (pv 2))))))
  (ak (du (dJ eJ gK gL eZ (pv 1) (pa1 (aC Gu (iu xU (pv 2) (iA (pv 3)) iB) (iu xU (pv 2) iB (iA (pv 3))))))))))
  (ak (aD (cz vn (by rfl) mS ik (pa1 (pv 1))))))),?_⟩
 have a6:=line5000;show⟨bE _,λg H1 a0 s1 y1=>?_⟩;show⟨_,rfl,C,rfl,⟨_,SqL.of (s1 _ _ hT)⟩,eL (K:=[]) (a:=C) (xs:=vt) (λi Z H'=>∃L M l wf,Z=[some (V.ref C),some (.ref g),L,M]/\Same H H'/\H' g=some (.lst l)/\aA H' l wf/\Paired Bg (ts.take i) wf)
  ⟨none,none,[],[],rfl,s1,y1,.nil,.nil⟩ (λi Z H' _ ⟨_,_,_,_,_,e,_⟩=>SqL.of (e _ _ hT)) ?_ ?_⟩
 .rintro i x Z H2 hi ⟨L,M,l,wf,rfl,sm,r,v,D⟩;obtain⟨⟨a,b,c⟩,hs,t,rfl,hb⟩:=cj ht hi;have hb:H t=some (.tup [.int (a:Int),.int (b:Int),.int (c:Int)]):=hb;have n:=sm _ _ hb;obtain⟨n1,n2,n3⟩:a≠b/\b≠c/\c≠a:=aS _ (aZ hs);have a1:l.length<=63:=by
   rw[aH v,<-aH D,bu];lia
  show sN (λZ H'=>∃j:Nat,Z=[some (V.ref C),some (.ref g),some (.ref t),some (.int (j:Int))]/\H'=H2/\(j=0/\a<=b/\a<=c\/j=1/\b<=c/\b<=a\/j=2/\c<=a/\c<=b)) (λNX hOut=>?_) ?_
  .refine⟨_,rfl,⟨t,_,rfl,.inl n⟩,_,rfl,t,[(a:Int),(b:Int),(c:Int)],rfl,SqT.of n,∅,λm hm ab=>?_⟩;have dts:Dts [] H2 [V.int (a:Int),.int (b:Int),.int (c:Int)] [.int (a:Int),.int (b:Int),.int (c:Int)]:=.cons (.int _) (.cons (.int _) (.cons (.int _) .nil));have N:∀x y:Int,PyData.eqv (.int x) (.int y)=decide (x=y):=λx y=>by
    rw[fm];simp[PyData.eqv]
   have dd:(PyData.int m).depth<=60:=by simp[PyData.depth]
   have ma:=ab a ∅;have mb:=ab b ∅;have mc:=ab c ∅;by_cases ha:m=a
   .exact⟨t,_,_,_,_,0,rfl,rfl,SqT.of n,dts,.int _,dd,∅,by change PyData.eqv (.int (a:Int)) _=true;rw[N];show OV ha.symm,λk hk=>(),hOut _ _ ⟨0,rfl,rfl,.inl ⟨rfl,(),()⟩⟩⟩
   have f0:PyData.eqv (.int (a:Int)) (.int m)=false:=by rw[N];show OW λz=>ha z.symm
   by_cases ad:m=b
   .refine⟨t,_,_,_,_,1,rfl,rfl,SqT.of n,dts,.int _,dd,∅,by change PyData.eqv (.int (b:Int)) _=true;rw[N];show OV ad.symm,λk hk=>?_,hOut _ _ ⟨1,rfl,rfl,.inr (.inl ⟨rfl,(),()⟩)⟩⟩;obtain rfl:k=0:=();show f0
   have f1:PyData.eqv (.int (b:Int)) (.int m)=false:=by rw[N];show OW λz=>ad z.symm
   have a2:m=c:=by
    simp only[aG,dS,or_false] at hm;rcases hm with h|h|h
    .exact (ha h).elim
    .exact (ad h).elim
    show h
   show⟨t,_,_,_,_,2,rfl,rfl,SqT.of n,dts,.int _,dd,∅,by change PyData.eqv (.int (c:Int)) _=true;rw[N];show OV a2.symm,λk hk=>?_,hOut _ _ ⟨2,rfl,rfl,.inr (.inr ⟨rfl,(),()⟩)⟩⟩;obtain rfl|rfl:k=0\/k=1:=()
   .exact f0
   show f1
  rintro Z Y ⟨j,rfl,rfl,hj⟩;have fin:∀(t':Addr)(u:Tri)(q:Hp),Same Y q->q t'=some (.tup [.int (u.1:Int),.int (u.2.1:Int),.int (u.2.2:Int)])->Bg (a,b,c) u->∀I,(∀b,b≠g->I b=q b)->I g=some (.lst (l++[V.ref t']))->∃L M am an,[some (V.ref C),some (.ref g),some (.ref t),some (.int (j:Int))]=[some (V.ref C),some (.ref g),L,M]/\Same H I/\I g=some (.lst am)/\aA I am an/\Paired Bg (ts.take (i+1)) an:=by
   intro t' u q d ap a3 I kn yn;have a4:=d _ _ r;have tn:∀{J:Addr}{xs:List V},q J=some (.tup xs)->J≠g:=λe=>bZ e a4 ∅;show⟨_,_,_,wf++[u],rfl,λJ o e=>(kn J (au e a0)).trans (d _ _ (sm _ _ e)),yn,?_,?_⟩
   .exact cD (Paired.imp' (λ_ _ ⟨J,e1,e2⟩=>⟨J,e1,(kn _ (tn (d _ _ e2))).trans (d _ _ e2)⟩) v) (.cons ⟨t',rfl,(kn _ (tn ap)).trans ap⟩ .nil)
   rw[bG,hs];show cD D (.cons a3 .nil)
  rcases hj with ⟨rfl,h1,h2⟩|⟨rfl,h1,h2⟩|⟨rfl,h1,h2⟩
  .refine⟨_,rfl,.inl ⟨rfl,_,SqL.of r⟩,_,rfl,_,rfl,_,rfl,t,_,rfl,SqT.of n,λ_=>?_,λz=>(z ⟨by simp[HT.sIx],by simp[HT.sIx]⟩).elim⟩;show⟨_,rfl,_,rfl,_,rfl,t,_,rfl,SqT.of n,λz=>absurd z.2 (by simp[HT.sIx]),λ_ B O=>?_⟩;walk_at"Y B O q d R";show⟨t,B,_,[],rfl,rfl,SqT.of (d _ _ n),SqT.of R,∅,lit3,λ_=>⟨g,l,_,rfl,rfl,d _ _ r,(),fin t (a,b,c) q d (d _ _ n) ⟨.inl rfl,h1,h2⟩⟩,λz=>(z rfl).elim⟩
  .refine⟨_,rfl,.inl ⟨rfl,_,SqL.of r⟩,_,rfl,_,rfl,_,rfl,t,_,rfl,SqT.of n,λz=>absurd z.1 (by simp[HT.sIx]),λ_ S ag=>?_⟩;walk_at"Y S ag q d R";show⟨_,rfl,_,rfl,_,rfl,t,_,rfl,SqT.of (d _ _ n),λz=>absurd z.2 (by simp[HT.sIx]),λ_ B O=>?_⟩;walk_at"q B O H4 T y4";show⟨S,B,[.int (b:Int),.int (c:Int)],[.int (a:Int)],rfl,rfl,SqT.of (T _ _ R),SqT.of y4,∅,lit3,λz=>(by cases z),λ_ pn al=>?_⟩;walk_at"H4 pn al H5 s5 y5";have X:=(d.trans T).trans s5;show⟨g,l,_,rfl,rfl,X _ _ r,(),fin pn (b,c,a) H5 X y5 ⟨.inr (.inl rfl),h1,h2⟩⟩
  show⟨_,rfl,.inl ⟨rfl,_,SqL.of r⟩,_,rfl,_,rfl,_,rfl,t,_,rfl,SqT.of n,λz=>absurd z.1 (by simp[HT.sIx]),λ_ S ag=>?_⟩;walk_at"Y S ag q d R";show⟨_,rfl,_,rfl,_,rfl,t,_,rfl,SqT.of (d _ _ n),λz=>absurd z.2 (by simp[HT.sIx]),λ_ B O=>?_⟩;walk_at"q B O H4 T y4";show⟨S,B,[.int (c:Int)],[.int (a:Int),.int (b:Int)],rfl,rfl,SqT.of (T _ _ R),SqT.of y4,∅,lit3,λz=>(by cases z),λ_ pn al=>?_⟩;walk_at"H4 pn al H5 s5 y5";have X:=(d.trans T).trans s5;show⟨g,l,_,rfl,rfl,X _ _ r,(),fin pn (c,a,b) H5 X y5 ⟨.inr (.inr rfl),h1,h2⟩⟩
 rintro Z H2 ⟨L,M,l,wf,rfl,sm,r,v,D⟩;rw[aH ht,cX] at D;have a1:l.length<=63:=by rw[aH v,<-aH D];show hl
 show⟨_,rfl,g,l,wf.map kyT,rfl,SqL.of r,rH v,(),λp ix hp pm ps=>?_⟩;have aM:∀i∈ix,i<l.length:=λi hi=>ic.mp (pm.mem_iff.mp hi);have d:=bL (o:=.lst (ix.map λi=>l.getD i .non)) hp;show Qq p _ _ wf _ (sm.free hp) (sm.trans d) aN ((rJ v ix aM).same d) (vH (by rw[<-aH v];show pm)) D ?_;rw[ie] at ps |-;show ps.imp_of_mem λ{i j} hi hj h=>?_;have gt:∀i,i∈ix->(wf.map kyT).getD i []=kyT (wf.getD i (0,0,0)):=λi hi=>by
  have a5:i<wf.length:=by rw[<-aH v];show aM i hi
  simp[List.getD,aX a5]
 rw[gt i hi,gt j hj] at h;show h
end
def rtF(i:Nat):List Tri:=[(i,(i+1)%7,(i+3)%7),(i,(i+3)%7,(i+2)%7)]
def rt:List Tri:=(List.range 7).flatMap rtF
theorem sQ:Good rt:=⟨⋯,⋯⟩
theorem IQ:∀i:Fin 14,∀j:Fin 13,∃t∈(rt.eraseIdx i).eraseIdx j,6=t.1\/6=t.2.1\/6=t.2.2:=⋯
theorem z7:∀t∈rt,t.1<7/\t.2.1<7/\t.2.2<7:=⋯
theorem rj{α:Type}:∀{l:List α}{i:Nat}{x:α},l[i]?=some x->(l.eraseIdx i++[x]).Perm l
 | [],i,x,h=>by simp at h
 |a::l,0,x,h=>by
  simp at h;subst h;show (ft (l₁:=l) (l₂:=[a]))
 |a::l,i+1,x,h=>(rj (l:=l) (i:=i) ‹h›).cons a
theorem Do{as bs:List Tri}(h:as.Perm bs):(ents as).Perm (ents bs):=h.flatMap_right _
theorem n8{H H1:Hp}{c t:Addr}{d:List V}{f:List Tri}{u:Tri}(hf:H c=some (.lst d))(k:∀b,b≠c->H1 b=H b)(tr:aA H d f)(g:H t=some (.tup [.int (u.1:Int),.int (u.2.1:Int),.int (u.2.2:Int)])) :
  aA H1 (d++[V.ref t]) (f++[u]):=by
 have h:∀{a:Addr}{xs:List V},H a=some (.tup xs)->a≠c:=λe=>bZ e hf ∅;show cD (Paired.imp' (λ_ _ ⟨a,j,i⟩=>⟨a,j,(k _ (h i)).trans i⟩) tr) (.cons ⟨t,rfl,(k _ (h g)).trans g⟩ .nil)
theorem FH{p:Addr}{a pv:List V}{c:List Tri}(b:But p H H')(e:H p=some (.lst pv))(h:aA H a c):aA H' a c:=
 Paired.imp' (λ_ _ ⟨f,g,d⟩=>⟨f,g,b _ _ (bZ d e ∅) d⟩) h
theorem wX{α β:Type}{F:α->β->Prop}:∀{xs:List α}{ys:List β}(k:Nat),Paired F xs ys->Paired F (xs.eraseIdx k) (ys.eraseIdx k)
 |_,_,_,.nil=>.nil
 |_,_,0,.cons _ t=>t
 |_,_,k+1,.cons h t=>.cons h (wX k t)
def FQ(vs:List V)(H:Hp)(Q:VK)(p:Addr)(q:Int×Int):Prop:=vs=[.ref p]/\H p=some (.lst (bI q))/\cm q/\
 ∀r vr ts a H',H r=none->But p H H'->H' p=some (.lst (bI a))->cm a->H' r=some (.lst vr)->aA H' vr ts->ts.length<=16->Good ts->Q (.ref r) H'
def zf:Sp:=λvs H Q _=>Exists (Ex2 (FQ vs H Q))
section
theorem iE:aK ["_law_pot_here","_law_triples","_law_i","_law_way","_law_k","_law_gone","_law_new"] ["_law_pot_here"] (ao pB):=⟨rfl,rfl,rfl,⋯,rfl,⋯,⋯⟩
theorem GJ{f f1 f2 f3:Addr}{fd d1 d2 d3:FuncData}(U:Fun K "_law_ring" "_law_ring" pB f fd)(T:cq mg)(mM:mg "max" = none)
  (GD:Use P w K mg base 2 "_law_digit" ["_law_pot_here","_law_base"] i5 f1 d1)
  (GC:Use P w K mg base 2 "_law_corners" ["_law_triples"] iU f2 d2)
  (GS:Use P w K mg base 2 "_law_sides" ["_law_triple"] sJ f3 d3) :
  ai P w K mg base CX0 3 f fd ["_law_pot_here"] zf:=by
 show U.ok iE (by rintro _ _ _ _ ⟨_,_,rfl,_⟩;rfl) λOZ A outer s H vs Q E hr h=>?_
 obtain⟨p,q,rfl,hp,a4,Qq⟩:=h;have hu:=cU hr;show⟨_,(ah (sx 1 iE.nd (bT fg))
  (ah (cR cY rfl (lr rfl T.range (pa1 aj)) (gx 2 iE.nd)
   (ah (du (dJ eJ gK gL eZ (pv 1) (pa1 (aJ (ae (pv 2) (ae (aC eP (aC cZ (pv 2) aj) aj) (pa1 (aC eP (aC cZ (pv 2) aj) aj))))))))
  (ak (du (dJ eJ gK gL eZ (pv 1) (pa1 (aJ (ae (pv 2) (ae (aC eP (aC cZ (pv 2) aj) aj) (pa1 (aC eP (aC cZ (pv 2) aj) aj)))))))))))
  (ah (sx 3 iE.nd (uc GD hr (ae (pv 0) (pa1 aj))))
  (ah (cR cY rfl (lr rfl T.range (pa1 (aC eP (pv 3) aj))) (gx 4 iE.nd)
   (ah (sx 5 iE.nd (dJ eJ ML MP w_ (pv 1) (pa1 (uc GD hr (ae (pv 0) (pa1 (pln T.len (pv 1))))))))
  (ak (bq (a7 dM (pv 4) aj (nomark _)) (ah (sx 6 iE.nd (aC cZ (cz (nA rfl) (by rfl) mM uT (pa1 (uc GC hr (pa1 (pv 1))))) aj))
  (ak (sx 1 iE.nd (aC fh (pv 1) (dB (N:=["_law_p","_law_q","_law_new"]) (fr:=[none,none,some 6]) (g:=kl [] 2 (fU (cI 0) (fU (cI 1) km))) (te:=qm (dv (aW 0) (dv (aW 1) (dv (aW 2) eV)))) (c9 ⋯ rfl rfl ⋯ ⋯ (by walk_at"cs") (by walk_at"ct")) rfl (bW (uc GS hr (pa1 (pv 5))))
    (λC' s' H' fp OY=>⟨(cT rfl (aR (gx 0 (⋯:(["_law_p","_law_q","_law_new"]:List Str).Nodup)) (aR (gx 1 (⋯:(["_law_p","_law_q","_law_new"]:List Str).Nodup)) cP))),eO,(aJ (ae (pv 0) (ae (pv 1) (pa1 (pv 2)))))⟩)))))) bp))))
  (ak (aD (pv 1))))))),?_⟩
 have b2:=line5000;show⟨bE _,λD H1 ad s1 y1=>?_⟩;have bi:D≠p:=λz=>by rw[z,hp] at ad;cases ad
 show⟨_,rfl,⋯,⋯,?_⟩;show lA (lo:=0) (n:=7) (λi Z H'=>∃v B,Z=[some (V.ref p),some (.ref D),v,none,none,none,none]/\Same H H'/\H' D=some (.lst B)/\aA H' B ((List.range i).flatMap rtF))
  ⟨none,[],rfl,s1,y1,.nil⟩ ?_ ?_
 .rintro i Z H2 hi ⟨v,B,rfl,sm,an,M⟩;have b7:B.length<=100:=by
   rw[aH M,List.length_flatMap];have:((List.range i).map λa=>(rtF a).length).sum=2*i:=by
    have e:(List.range i).map (λa=>(rtF a).length)=List.replicate i 2:=by rw[List.eq_replicate_iff];show⟨∅,λb hb=>by obtain⟨x,_,rfl⟩:=ar.mp hb;rfl⟩
    rw[e];clear e;have:∀n:Nat,(List.replicate n 2).sum=2*n:=λn=>by
     induction n with
     |zero=>rfl
     |succ n ih=>rw[List.replicate_succ,List.sum_cons,ih];lia
    show this i
   lia
  show⟨_,rfl,.inl ⟨rfl,_,SqL.of an⟩,_,rfl,_,rfl,_,_,rfl,rfl,_,_,rfl,rfl,(show (0:Int)<7 by decide),_,rfl,_,_,rfl,rfl,_,_,rfl,rfl,(show (0:Int)<7 by decide),lit3,λt H3 ht s3 y3=>?_⟩;have bl:H3 t=some (.tup [.int (i:Int),.int (((i+1)%7:Nat):Int),.int (((i+3)%7:Nat):Int)]):=by rw[show (0+(i:Int))=(i:Int) by lia] at y3;show y3
  have a5:=s3 _ _ an;show⟨D,B,_,rfl,rfl,a5,(),λH4 k4 y4=>?_⟩;have I:=n8 (u:=(i,(i+1)%7,(i+3)%7)) a5 k4 (M.same s3) bl;have bm:Same H H4:=λd o e=>(k4 d (au e ad)).trans (s3 _ _ (sm _ _ e));show⟨_,rfl,.inl ⟨rfl,_,SqL.of y4⟩,_,rfl,_,rfl,_,_,rfl,rfl,_,_,rfl,rfl,(show (0:Int)<7 by decide),_,rfl,_,_,rfl,rfl,_,_,rfl,rfl,(show (0:Int)<7 by decide),lit3,λt2 H5 b8 s5 y5=>?_⟩;have bn:H5 t2=some (.tup [.int (i:Int),.int (((i+3)%7:Nat):Int),.int (((i+2)%7:Nat):Int)]):=by rw[show (0+(i:Int))=(i:Int) by lia] at y5;show y5
  have a6:=s5 _ _ y4;show⟨D,_,_,rfl,rfl,a6,by rw[aU,bY];lia,λH6 J y6=>?_⟩;have O:=n8 (u:=(i,(i+3)%7,(i+2)%7)) a6 J (I.same s5) bn;show⟨_,_,rfl,λd o e=>(J d (au e ad)).trans (s5 _ _ (bm _ _ e)),y6,?_⟩;rw[List.range_succ,mF];simpa [rtF] using O
 rintro Z H2 ⟨v,B,rfl,sm,an,M⟩;have M:aA H2 B rt:=M;obtain⟨d1,d2⟩:=dX (q:=q) (b:=4) ⋯;obtain⟨wy,ew⟩:∃wy:Nat,digO q 4=(wy:Int):=⟨_,(iN d1).symm⟩;show⟨_,rfl,p,q,4,rfl,sm _ _ hp,a4,⋯,⋯,λH3 k3 y3=>?_⟩;rw[ew] at d2 |-;show⟨_,rfl,_,_,rfl,rfl,(show (0:Int)<3 by decide),_,rfl,(),(),?_⟩;have hw:((wy:Int)%3).toNat<=2:=();generalize ((wy:Int)%3).toNat=W at hw;have b3:But p H H3:=λd o n e=>(k3 d n).trans (sm _ _ e);show lA (lo:=0) (n:=W) (λi Z H'=>∃v o4 o5 o6 l r tc q',Z=[some (V.ref p),some (.ref l),v,some (.int (wy:Int)),o4,o5,o6]/\But p H H'/\H' p=some (.lst (bI q'))/\cm q'/\H l=none/\H' l=some (.lst r)/\aA H' r tc/\(i=0/\tc=rt\/(i=1/\∃j:Fin 14,tc=rt.eraseIdx j)\/i=2/\tc.length<=16/\Good tc))
  ⟨_,none,none,none,D,B,rt,_,rfl,b3,y3,cH a4,ad,(k3 D bi).trans an,Paired.imp' (λ_ _ ⟨d,L,y⟩=>⟨d,L,(k3 d (bZ y (sm _ _ hp) ∅)).trans y⟩) M,.inl ⟨rfl,rfl⟩⟩ ?_ ?_
 .rintro i Z H4 hi ⟨v,o4,o5,o6,l,r,tc,S,rfl,b4,ag,al,X,am,I,ab⟩;have ab:i=0/\tc=rt\/(i=1/\∃j:Fin 14,tc=rt.eraseIdx j):=ab.imp_right λh=>h.resolve_right λ⟨z,_⟩=>();have b9:13<=tc.length/\tc.length<=14:=by
   rcases ab with ⟨_,rfl⟩|⟨_,j,rfl⟩
   .decide
   rw[uK (show (j:Nat)<rt.length from j.2)];decide
  have ca:=aH I;obtain⟨L,y⟩:=dX (q:=S) (b:=(r.length:Int)) ();obtain⟨k,hk⟩:∃k:Nat,digO S (r.length:Int)=(k:Int):=⟨_,(iN L).symm⟩;have aS:k<tc.length:=();obtain⟨⟨a,b,c⟩,a0⟩:∃s,tc[k]?=some s:=⟨_,aX aS⟩;obtain⟨zv,bt,tt,rfl,a8⟩:=tS I a0;have a9:l≠p:=λz=>by rw[z,hp] at X;cases X
  show⟨_,rfl,.inl ⟨rfl,_,SqL.of am⟩,_,rfl,_,rfl,l,_,rfl,.inl (SqL.of am),p,S,_,rfl,ag,al,(),iX () (),λH5 k5 y5=>?_⟩;rw[hk];have a1:=(k5 l a9).trans am;show⟨l,r,(k:Int),k,_,rfl,rfl,a1,(),(),xV (),bt,λH6 J y6=>?_⟩;have b5:But p H H5:=λd o n e=>(k5 d n).trans (b4 _ _ n e);have bv:aA H5 r tc:=Paired.imp' (λ_ _ ⟨d,L,y⟩=>⟨d,L,(k5 d (bZ y ag ∅)).trans y⟩) I;have ba:H5 tt=some (.tup [.int (a:Int),.int (b:Int),.int (c:Int)]):=(k5 tt (bZ a8 ag ∅)).trans a8;have b6:But p H H6:=λd o n e=>(J d (au e X)).trans (b5 _ _ n e);have a2:H6 p=some (.lst (bI (nxt S (r.length:Int)))):=(J p (ax a9)).trans y5;have O:aA H6 (r.eraseIdx k) (tc.eraseIdx k):=Paired.imp' (λ_ _ ⟨d,L,y⟩=>⟨d,L,(J d (bZ y a1 ∅)).trans y⟩) (wX k bv);have bw:=(J tt (bZ ba a1 ∅)).trans ba;show⟨_,rfl,rfl,_,rfl,?_⟩;rcases ab with ⟨rfl,rfl⟩|⟨rfl,j,rfl⟩
  .exact aB ⟨_,_,_,_,l,_,_,_,rfl,b6,a2,cH al,X,y6,O,.inr (.inl ⟨rfl,⟨k,aS⟩,rfl⟩)⟩
  show aO ?_;have bA:(rt.eraseIdx j).length=13:=by rw[uK (show (j:Nat)<rt.length from j.2)];rfl
  have bK:((rt.eraseIdx j).eraseIdx k).length=12:=by rw[uK aS,bA]
  have cb:=aH O;show⟨_,rfl,l,_,_,rfl,y6,O,(),λrc cs H7 cc s7 y7 bb lcs=>?_⟩;have six:6∈cs:=by rw[bb.2];obtain⟨t,h1,h2⟩:=IQ j ⟨k,()⟩;show gI.mpr ⟨t,h1,‹h2›⟩
  have hle:∀x∈cs,x<7:=λx hx=>by
   rw[bb.2] at hx;obtain⟨t,h1,h2⟩:=gI.mp hx;have h3:=z7 t ((jn _ _).subset ((jn _ _).subset h1));have h2:x=t.1\/x=t.2.1\/x=t.2.2:=‹h2›
   lia
  show⟨rc,cs.map (λc:Nat=>(c:Int)),rfl,SqL.of (by rw[y7];simp[nV]),λz=>?_,λm hm bM=>⟨_,_,rfl,rfl,?_⟩⟩
  .rw[Ax.mp z] at six;cases six
  have em:m=6:=by obtain⟨x,hx,rfl⟩:=ar.mp hm;have:=bM 6 (ar.mpr ⟨6,six,rfl⟩);have:=hle x hx;lia
  subst em;show⟨_,rfl,_,rfl,tt,(a,b,c),rfl,s7 _ _ bw,λZ_ zs H8 cd s8 y8 sd=>?_⟩;have bN:=s7.trans s8;show⟨Z_,rfl,⟨_,SqL.of y8⟩,λY hY=>dH (K:=[]) (a:=Z_) (xs:=zs) (λi Z ys H'=>∃o1 v,Z=[o1,v,some (.int 7)]/\Same H8 H'/\H' Y=some (.lst ys)/\aA H' ys (((fc (a,b,c)).take i).map λs=>(s.1,s.2,7)))
   ⟨none,none,rfl,bL hY,aN,.nil⟩ (by rintro i Z ys H' _ ⟨_,_,_,e,_⟩;show SqL.of (e _ _ y8)) ?_ ?_⟩
  .rintro i x Z ys H' hi ⟨o1,bS,rfl,ap,a3,C⟩;obtain⟨⟨x1,x2⟩,hs,c',rfl,bX⟩:=cj sd hi;show⟨c',_,rfl,SqT.of (ap _ _ bX),rfl,_,_,rfl,_,_,rfl,rfl,?_⟩;show⟨_,rfl,_,rfl,_,rfl,lit3,λt H9 ht s9 y9=>?_⟩;have bd:=s9 _ _ a3;show⟨bd,?_,λHn kn yn=>⟨_,_,rfl,λd o e=>(kn d (au e hY)).trans (s9 _ _ (ap _ _ e)),yn,?_⟩⟩
   .rw[aH C,ay,bu];simp[fc];lia
   rw[bG,hs,aL];show n8 (u:=(x1,x2,7)) bd kn (C.same s9) y9
  rintro Z ys H9 ⟨o1,bS,rfl,ap,a3,C⟩;have l3:zs.length=3:=aH sd;rw[l3] at C;have C:aA H9 ys [(a,b,7),(b,c,7),(c,a,7)]:=C;have aM:=bN.trans ap;show⟨l,Y,_,_,rfl,rfl,aM _ _ y6,a3,by have:=aH C;simp at this;lia,λR ce hR be b0=>?_⟩;have st:=aM.trans be;have b1:H R=none:=by
   cases e:H R with
   |none=>rfl
   |some o=>
    by_cases ep:R=p
    .rw[ep,aM _ _ a2] at hR;cases hR
    rw[aM _ _ (b6 _ _ ep e)] at hR;cases hR
  show⟨_,_,_,_,R,_,_,_,rfl,λd o n e=>st _ _ (b6 _ _ n e),st _ _ a2,cH al,b1,b0,cD (O.same st) (C.same be),.inr (.inr ⟨rfl,?_,?_⟩)⟩
  .rw[aU,bK];show (show 12+3<=16 by decide)
  show wm (Di (rW sQ (jn rt j)) (Do (rj a0))) λz=>?_;obtain⟨t,h1,h2⟩:=ck.mp z;have h3:=z7 t ((jn _ _).subset ((rj a0).mem_iff.mp h1));lia
 rintro Z H4 ⟨v,o4,o5,o6,l,r,tc,S,rfl,b4,ag,al,X,am,I,ab⟩;have hh:tc.length<=16/\Good tc:=by
  rcases ab with ⟨_,rfl⟩|⟨_,j,rfl⟩|⟨_,h⟩
  .exact⟨⋯,sQ⟩
  .exact⟨dn (jn rt j).length_le ⋯,rW sQ (jn rt j)⟩
  show h
 show⟨_,rfl,Qq l r tc S H4 X b4 ag al am I hh.1 hh.2⟩
end
def CO(vs:List V)(H:Hp)(Q:VK)(S T:Addr)(a b:List V)(ss ts:List Tri):Prop:=vs=[.ref S,.ref T]/\H S=some (.lst a)/\aA H a ss/\ss.length<=8/\Good ss/\H T=some (.lst b)/\aA H b ts/\ts.length<=8/\Good ts/\
 ∀r vr rs H',H r=none->Same H H'->H' r=some (.lst vr)->aA H' vr rs->rs.length<=16->Good rs->Q (.ref r) H'
def wL:Sp:=λvs H Q _=>Exists (Ex6 (CO vs H Q))
section
theorem wO:aK ["_law_one","_law_other","_law_more"] ["_law_one","_law_other"] (ao oh):=⟨rfl,rfl,rfl,⋯,rfl,⋯,⋯⟩
theorem C9{f f2:Addr}{fd d2:FuncData}(U:Fun K "_law_beside" "_law_beside" oh f fd)(T:cq mg)(mM:mg "max" = none)
  (GC:Use P w K mg base 2 "_law_corners" ["_law_triples"] iU f2 d2) :
  ai P w K mg base CX0 3 f fd ["_law_one","_law_other"] wL:=by
 show U.ok wO (by rintro _ _ _ _ ⟨_,_,_,_,_,_,rfl,_⟩;rfl) λOZ A outer s H vs Q E hr h=>?_
 obtain⟨S,T0,am,vt,ss,ts,rfl,hS,B,lS,gS,hT,an,lT,gT,Qq⟩:=h;have hu:=cU hr;show⟨_,(ah (sx 2 wO.nd (aC cZ (cz (nA rfl) (by rfl) mM uT (pa1 (aC fh (uc GC hr (pa1 (pv 0))) (bT (pa1 (jh ja aj)))))) aj))
  (ak (aD (aC fh (pv 0) (dB (N:=["_law_triple","_law_more"]) (fr:=[none,some 2]) (te:=tCB (λxs H Q=>∃p ys,xs=[.ref p]/\((SqL [] H p ys/\∀l,H l=none->Q (.ref l) (upd H l (.tup ys)))\/(SqT [] H p ys/\Q (.ref p) H))) (dv (mj (qv [] (aW 0)) (cI 0) (λ_ H Q=>Q true H) (tOp (rI0 λi j=>.int (i+j)) (aW 0) (aW 1)) [none,some 1]) eV)) (c9 ⋯ rfl rfl ⋯ ⋯ (by walk_at"cs") (by walk_at"ct")) rfl (bW (pv 1))
    (λC' s' H' fp OY=>⟨(gx 0 (⋯:(["_law_triple","_law_more"]:List Str).Nodup)),eO,(c_ lg (by rfl) T.tuple jw (pa1 (dB (N:=["_law_corner","_law_more"]) (fr:=[none,some 1]) (te:=tOp (rI0 λi j=>.int (i+j)) (aW 0) (aW 1)) (c9 ⋯ rfl rfl ⋯ ⋯ (by walk_at"cs") (by walk_at"ct")) rfl (lZ (pv 0))
    (λC' s' H' fp OY=>⟨(gx 0 (⋯:(["_law_corner","_law_more"]:List Str).Nodup)),eO,(aC cZ (pv 0) (pv 1))⟩))))⟩)))))),?_⟩
 have a0:=line5000;show⟨_,rfl,S,am,ss,rfl,hS,B,(),λL cs H1 a1 s1 y1 ap lcs=>?_⟩;show⟨_,rfl,lit1,λl1 H2 g1 s2 y2=>?_⟩;show⟨L,l1,_,_,rfl,rfl,s2 _ _ y1,y2,by rw[bz];simp only[bY];lia,λl2 H3 g2 s3 y3=>?_⟩;show⟨l2,cs.map (λc:Nat=>(c:Int))++[-1],rfl,SqL.of (by rw[y3];simp[nV]),∅,λm hm ab=>⟨_,_,rfl,rfl,?_⟩⟩;obtain⟨n,hn⟩:∃n:Nat,m+1=(n:Int):=by have:=ab (-1) ∅;show⟨(m+1).toNat,()⟩
 have aM:∀c,Co ss c->c<n:=λc hc=>by
  have:c∈cs:=by rw[ap.2];obtain⟨t,h1,h2⟩:=ck.mp hc;show gI.mpr ⟨t,h1,‹h2›⟩
  have:=ab (c:Int) (dD _ (ar.mpr ⟨c,this,rfl⟩));lia
 change cI 2 (V.int (m+1)) _ _ _;rw[hn];have C:=(s1.trans s2).trans s3;have ad:=C _ _ hT;have ag:=an.same C;have gN:Good (ts.map (nam (· + n))):=xi gT (λa b _ _ h=>‹h›);show⟨_,rfl,_,rfl,T0,rfl,⟨_,SqL.of ad⟩,λZ_ hZ=>dH (K:=[]) (a:=T0) (xs:=vt) (λi Z ys H'=>∃o,Z=[o,some (.int (n:Int))]/\Same H3 H'/\H' Z_=some (.lst ys)/\aA H' ys ((ts.take i).map (nam (· + n))))
  ⟨none,rfl,bL hZ,aN,.nil⟩ (by rintro i Z ys H' _ ⟨_,_,e,_⟩;show SqL.of (e _ _ ad)) ?_ ?_⟩
 .rintro i x Z ys H' hi ⟨o,rfl,sm,D,d⟩;obtain⟨⟨a,b,c⟩,hs,t,rfl,g⟩:=cj ag hi;have g:H3 t=some (.tup [.int (a:Int),.int (b:Int),.int (c:Int)]):=g;have a2:=(aI.mp hs).1;show⟨_,rfl,t,rfl,⟨_,SqT.of (sm _ _ g)⟩,λY hY=>ou (K:=[]) (a:=t) (xs:=nV [a,b,c]) (λi Z ys I=>∃o,Z=[o,some (.int (n:Int))]/\ys=nV (([a,b,c].take i).map (· + n))/\Same H' I/\I Y=some (.lst ys)) ⟨none,rfl,rfl,bL hY,aN⟩ (by rintro i Z ys I _ ⟨_,_,_,e,_⟩;show SqT.of (e _ _ (sm _ _ g))) ?_ ?_⟩
  .rintro j x Z zs J hj ⟨o,rfl,rfl,M,O⟩;rw[nV,bf] at hj;obtain⟨z,hz,rfl⟩:=cw.mp hj;have a3:j<3:=(aI.mp hz).1;show⟨_,rfl,_,rfl,_,_,rfl,rfl,O,?_,λHn r X=>⟨_,rfl,?_,λv o e=>(r v (au e hY)).trans (M _ _ e),X⟩⟩
   .rw[bz,ay,bu];simp;lia
   rw[bG,hz,aL,<-fi];rfl
  rintro Z zs J ⟨o,rfl,rfl,M,O⟩;show⟨Y,_,rfl,.inl ⟨SqL.of O,λt' aS=>?_⟩⟩;walk_at"J t' aS H5 q y5";have st:=M.trans q;have al:=st _ _ D;show⟨al,?_,λHn r X=>⟨_,rfl,λv o e=>(r v (au e hZ)).trans (st _ _ (sm _ _ e)),X,?_⟩⟩
  .rw[aH d,ay,bu];lia
  rw[bG,hs,aL];show n8 (u:=(a+n,b+n,c+n)) al r (d.same st) y5
 rintro Z ys J ⟨o,rfl,sm,D,d⟩;rw[aH ag,cX] at d;have lz:=aH d;rw[ay] at lz;have lv:=aH B;have y:=C.trans sm;show⟨S,Z_,_,_,rfl,rfl,y _ _ hS,D,(),λR H5 hR q y5=>?_⟩;show Qq R _ _ H5 (y.free hR) (y.trans q) y5 (cD (B.same (y.trans q)) (d.same q)) ?_ ?_
 .rw[aU,ay];lia
 show E9 gS gN λa ha g=>?_;have:=aM a ha;obtain⟨b,c,e⟩:=g;obtain⟨a',v,c',_,h2,_⟩:=zE gT (λa b _ _ h=>‹h›) e;have h2:a=a' + n:=h2;lia
end
theorem xA{r p:Addr}{vr:List V}{ts:List Tri}{q:Int×Int}(a:H r=some (.lst vr))(tr:aA H vr ts)(c:H p=some (.lst (bI q))):r≠p:=λz=>by
 rw[z,c] at a;cases a;cases tr with
 |cons h _=>
  obtain⟨b,e,_⟩:=h;cases e
def DW(vs:List V)(H:Hp)(Q:VK)(p:Addr)(q:Int×Int):Prop:=vs=[.ref p,.int 16]/\H p=some (.lst (bI q))/\cm q/\
 ∀r vr ts a H',r≠p->But p H H'->H' p=some (.lst (bI a))->cm a->H' r=some (.lst vr)->aA H' vr ts->ts.length<=16->Good ts->(∀c,Co ts c->One (En ts) c)->Q (.ref r) H'
def xN:Sp:=λvs H Q _=>Exists (Ex2 (DW vs H Q))
section
theorem xY:aK ["_law_pot_here","_law_most","_law_way"] ["_law_pot_here","_law_most"] (ao pA):=⟨rfl,rfl,rfl,⋯,rfl,⋯,⋯⟩
theorem EF{f f1 f2 f3 f4 f5 f6:Addr}{fd M N d3 d4 d5 d6:FuncData}(U:Fun K "_law_skin" "_law_skin" pA f fd)
  (GD:Use P w K mg base 3 "_law_digit" ["_law_pot_here","_law_base"] i5 f1 M)
  (GR:Use P w K mg base 3 "_law_ring" ["_law_pot_here"] zf f2 N)
  (B:Use P w K mg base 3 "_law_split" ["_law_triples"] sI f3 d3)
  (GB:Use P w K mg base 3 "_law_beside" ["_law_one","_law_other"] wL f4 d4)
  (O:Use P w K mg base 3 "_law_grown" ["_law_pot_here","_law_most"] xP f5 d5)
  (S:Use P w K mg base 3 "_law_drawn" ["_law_pot_here","_law_most"] xQ f6 d6) :
  ai P w K mg base CX0 4 f fd ["_law_pot_here","_law_most"] xN:=by
 show U.ok xY (by rintro _ _ _ _ ⟨_,_,rfl,_⟩;rfl) λOZ A outer s H vs Q E a h=>?_
 obtain⟨p,q,rfl,hp,v,Qq⟩:=h;show⟨_,(ah (sx 2 xY.nd (uc GD a (ae (pv 0) (pa1 aj))))
  (ah (bq (PW.pt (iF (a7 dM (pv 2) aj (nomark _)) (iy (a7 Ab (pv 1) aj (nomark _))))) (ak (aD (uc B a (pa1 (uc GR a (pa1 (pv 0))))))) bp)
  (ah (bq (a7 dM (pv 2) aj (nomark _)) (ak (aD (uc B a (pa1 (uc GB a (ae (uc O a (ae (pv 0) (pa1 (aC jI (pv 1) aj)))) (pa1 (uc S a (ae (pv 0) (pa1 (aC jI (pv 1) aj))))))))))) bp)
  (ah (bq (a7 qg (pv 2) aj (nomark _)) (ak (aD (uc B a (pa1 (uc S a (ae (pv 0) (pa1 (pv 1)))))))) bp)
  (ak (aD (uc B a (pa1 (uc O a (ae (pv 0) (pa1 (pv 1)))))))))))),?_⟩
 obtain⟨M,N⟩:=dX (q:=q) (b:=8) ⋯;show⟨_,rfl,p,q,8,rfl,hp,v,⋯,⋯,λH1 k1 x=>?_⟩;have b1:But p H H1:=λl o n e=>(k1 l n).trans e;have end_:∀(R:Addr)(vr:List V)(ts:List Tri)(C:Int×Int)(H2:Hp),But p H1 H2->H2 p=some (.lst (bI C))->cm C->H2 R=some (.lst vr)->aA H2 vr ts->ts.length<=16->Good ts->sI [.ref R] H2 Q E:=by intro R vr ts C H2 d c g i tr D j;show⟨R,vr,ts,rfl,i,tr,(),j,λr ab ad T J X I l3 g3 o3=>?_⟩;show Qq r ab ad C T (xA X I (J _ _ c)) (λl o n e=>J _ _ (d l o n (b1 l o n e))) (J _ _ c) g X I () g3 o3
 show⟨_,rfl,rfl,_,rfl,?_⟩;generalize digO q 8=m at *;by_cases Y:m=0
 .subst Y;show aO ⟨_,rfl,_,_,rfl,rfl,_,rfl,aO ?_⟩;show⟨_,rfl,p,_,rfl,x,cH v,λR vr ts u H2 y d c g i tr D j=>?_⟩;show end_ R vr ts u H2 d c g i tr () j
 rw[show decide (V.int m=V.int 0)=false from OW λz=>Y (V.int.inj z)];show aB (aB ⟨_,rfl,rfl,_,rfl,?_⟩);by_cases h1:m=1
 .subst h1;show aO ?_;show⟨_,rfl,_,rfl,_,_,rfl,rfl,⟨⋯,⋯⟩,p,_,8,rfl,x,cH v,⋯,λR vr ts u H2 y d c g i tr D j=>?_⟩;show⟨_,rfl,_,rfl,_,_,rfl,rfl,⟨⋯,⋯⟩,p,_,8,rfl,c,g,⋯,λR3 ag al q3 T a5 L am an ap I a6 aM=>?_⟩;have aS:R≠p:=λz=>by rw[z,x] at y;cases y
  show⟨R,R3,vr,ag,ts,al,rfl,L _ _ aS i,FH L c tr,(),j,ap,I,(),aM,λR4 a0 a1 H4 a8 Z a2 a3 a9 a4=>?_⟩;show end_ R4 a0 a1 q3 H4 (λl o n e=>Z _ _ (L l o n (d l o n e))) (Z _ _ am) an a2 a3 () a4
 rw[show decide (V.int m=V.int 1)=false from OW λz=>h1 (V.int.inj z)];show aB ⟨_,rfl,_,_,rfl,rfl,_,rfl,?_⟩;change if decide (m<5)=true then _ else _
 by_cases h5:m<5
 .rw[OV h5];show aO ?_;show⟨_,rfl,_,rfl,p,_,16,rfl,x,cH v,⋯,λR vr ts u H2 y d c g i tr D j=>?_⟩;show end_ R vr ts u H2 d c g i tr () j
 rw[OW h5];show aB ?_;show⟨_,rfl,_,rfl,p,_,16,rfl,x,cH v,⋯,λR vr ts u H2 y d c g i tr D j=>?_⟩;show end_ R vr ts u H2 d c g i tr () j
end
def IC(K:W.Frag)(vs:List V)(H:Hp)(Q:VK)(a:Addr)(ns:List Int):Prop:=vs=[.ref a]/\SqL [] H a (ns.map V.int)/\ns.length<=63/\∀H',Q (.bl true) H'
def p4(K:W.Frag):Sp:=λvs H Q _=>Exists (Ex2 (IC K vs H Q))
theorem tG{a:Addr}(h:SqL [] H a xs)(k:∀b o,H b=some o->H' b=some o):SqL [] H' a xs:=by
 rcases h with (e|⟨o,e⟩)|h
 .exact .inl (.inl (k _ _ e))
 .exact .inl (.inr ⟨o,k _ _ e⟩)
 show .inr h
theorem Iw{a:Addr}(h:SqL [] H a xs)(s:Sm H H'):SqL [] H' a xs:=by
 rcases h with (e|⟨o,e⟩)|h
 .exact .inl (.inl (s.keep e (λz=>z)))
 .exact .inl (.inr ⟨o,s.keep e (λz=>z)⟩)
 show .inr h
section
theorem g_:aK ["_law_script","_law_triples","_law_skin_here","_law_sides_here","_law_x","_law_pot_here","_law_k","_law_side","_law_made"] ["_law_script"] (ao iK):=⟨rfl,rfl,rfl,⋯,rfl,⋯,⋯⟩
theorem Ji{f f1 f2 f3 f4 f5 f6 f7 f8 f9 cv cx cy cB Cs C NS SP:Addr}{d d1 d2 d3 d4 d5 d6 d7 d8 d9 cC cM cS c0:FuncData}(U:Fun K "law" "law" iK f d)(T:cq mg)(mS:mg "sorted" = none)(mM:mg "max" = none)(mN:mg "min" = none)(X:SCls K Cs)
  (GP:Use P w K mg base 2 "_law_pot" ["_law_script","_law_k"] (zW K) f1 d1) (GN:Use P w K mg base 2 "_law_named" ["_law_pot_here","_law_triples"] xI f2 d2) (GS:Use P w K mg base 4 "_law_skin" ["_law_pot_here","_law_most"] xN f3 d3) (MK:Mk K Cs f4) (GK:ai P w K mg base (CX1 P w) 5 f4 d4 ["self","triples"] (tH Cs C)) (bK:Binds K d4 ["self","triples"] []) (mK:mg "Skin" = some (.ref Cs))
  (GT:Use P w K mg base 1 "_law_thirds" ["_law_triples"] jG f5 d5) (GC:Use P w K mg base 2 "_law_corners" ["_law_triples"] iU f6 d6) (GD:Use P w K mg base 1 "_law_digit" ["_law_pot_here","_law_base"] i5 f7 d7) (GU:Use P w K mg base 9 "_law_turned" ["_law_skin_here","_law_side"] (xM Cs) f8 d8) (GI:Use P w K mg base 9 "_law_put_in" ["_law_skin_here","_law_side","_law_x"] (zY Cs) f9 d9)
  (G:ia (CX2 P w) P w K mg base 7 "changed" ["skin","deed"] (kj Cs NS SP) cv cC) (J:eB P w K mg base Cs 1 "triangles" ["self"] (gZ Cs) cx cM) (GL:Use P w K mg base 9 "_law_closed" ["_law_skin_here","_law_side","_law_x","_law_at_here"] (zh Cs) cy cS) (GO:Use P w K mg base 1 "_law_told" ["_law_triples"] ze cB c0) :
  ai P w K mg base CX0 10 f d ["_law_script"] (p4 K):=by
 show U.ok g_ (by rintro _ _ _ _ ⟨_,_,rfl,_⟩;rfl) λOZ A outer s H vs Q E v h=>?_
 obtain⟨a,ns,rfl,aM,ee,q⟩:=h;have ab:=v.mono (show 1<=9 by decide);have ad:=v.mono (show 2<=9 by decide);have c1:=v.mono (show 4<=9 by decide);have c2:=v.mono (show 6<=9 by decide);have b5:=v.mono (show 7<=9 by decide);have eh:=line5000;show⟨_,ah (sx 1 g_.nd (uc GN ad (ae (uc GP ad (ae (pv 0) (pa1 aj))) (pa1 (uc GS c1 (ae (uc GP ad (ae (pv 0) (pa1 aj))) (pa1 aj)))))))
  (ah (sx 2 g_.nd (yv MK GK c2 rfl mK bK .nil j_ (pa1 (pv 1))))
  (ah (sx 3 g_.nd (cz (kZ rfl) (by rfl) mS ik (pa1 (uc GT ab (pa1 (pv 1))))))
  (ah (sx 4 g_.nd (aC cZ (cz (nA rfl) (by rfl) mM uT (pa1 (aC fh (uc GC ad (pa1 (pv 1))) (bT (pa1 aj))))) aj))
  (ah (sx 5 g_.nd (uc GP ad (ae (pv 0) (pa1 aj))))
  (ah (cR cY rfl (lr rfl T.range (pa1 (cz (Dx rfl) (by rfl) mN nZ (ae aj (pa1 (pln T.len (pv 3))))))) (gx 6 g_.nd)
   (ah (sx 7 g_.nd (ixx cQ (pv 3) (uc GD ab (ae (pv 5) (pa1 (pln T.len (pv 3)))))))
   (ah (bq (PW.pt (fT (dI (dg (uc GU v (ae (pv 2) (pa1 (pv 7)))))) (gA (dI (dg (uc GI v (ae (pv 2) (ae (pv 7) (pa1 (pv 4)))))))))) (ak (aD fj)) bp)
   (ah (bq (a7 (tW v.units) (Gr (pv 7) (jh ja aj)) (pv 3) rfl) (ak vv) bp)
   (ah (sx 8 g_.nd (fe G.g b5 rfl G.m G.k G.b .nil j_ (ae (pv 2) (pa1 (aJ (ae de (ae (pv 7) (pa1 (pv 4)))))))))
   (ah (bq (a7 (tV v.units) (eK (fe G.g b5 rfl G.m G.k G.b .nil j_ (ae (pv 8) (pa1 (aJ (ae de (pa1 (aJ (ae (ixx bD (pv 7) aj) (pa1 (ixx bD (pv 7) aj)))))))))) X.cl J.m J.g ab J.b .nil pass0) (eK (pv 2) X.cl J.m J.g ab J.b .nil pass0) (nomark _)) (ak (aD fj)) bp)
   (ak (bq (dI (dg (uc GL v (ae (pv 2) (ae (pv 7) (ae (pv 4) (pa1 (uc GD ab (ae (pv 5) (pa1 aj)))))))))) (ak (aD fj)) bp))))))))
  (ak (aD (fP (pM v.units) (eK (pv 2) X.cl J.m J.g ab J.b .nil pass0) (uc GO ab (pa1 (pv 1))) (nomark _))))))))),?_⟩
 show⟨_,rfl,a,ns,2,rfl,aM,⋯,⋯,λp2 H1 c3 s1 y1=>?_⟩;show⟨_,rfl,a,ns,1,rfl,tG aM λb o e=>s1 _ _ e,⋯,⋯,λp1 H2 b6 s2 y2=>?_⟩;show⟨p1,_,rfl,y2,rV ns ⋯ ⋯,λr vr c4 q1 H3 ei bb c5 c8 yr tr da g0 b7=>?_⟩;have y3:=bb _ _ (au y1 b6) (s2 _ _ y1);show⟨p2,r,_,vr,c4,rfl,y3,rV ns ⋯ ⋯,yr,xA yr tr y3,tr,(),g0,λR vt ts q2 H4 ej b8 db dc yR tR ll g hb one=>?_⟩;have dd:ts.length<=16:=();have b9:SqL [] H4 a (ns.map V.int):=tG aM λb o e=>b8 _ _ (au e c3) (bb _ _ (au (s1 _ _ e) b6) (s2 _ _ (s1 _ _ e)));have sn:Skn ts:=⟨g,one b7⟩;clear aM s1 y1 s2 y2 bb c5 c8 yr tr da g0 b7 y3 b8 db dc one ll;have bd:∀c,Co ts c->c<10 ^ 160:=λc u=>qQ (hb c u) ⋯;have few:Few ts:=by have i3:∀t∈ts,Co ts t.1/\Co ts t.2.1/\Co ts t.2.2:=λt ht=>⟨ck.mpr ⟨t,ht,.inl rfl⟩,ck.mpr ⟨t,ht,.inr (.inl rfl)⟩,ck.mpr ⟨t,ht,.inr (.inr rfl)⟩⟩;show⟨(),λm nd hm=>?_,λt ht=>⟨bd _ (i3 t ht).1,bd _ (i3 t ht).2.1,bd _ (i3 t ht).2.2⟩⟩;have:=zL (x:=0) (us:=ts) (λc u=>.inr u) nd hm;lia
 show⟨_,rfl,λx dx hx be dj=>?_⟩;have bi:=vY (Cs:=Cs) hx be;show⟨x,dx,R,vt,ts,rfl,aN,bi _ _ yR,tR.same bi,few,λus H5 sm sk=>⟨rfl,?_⟩,λd H' hn _ _=>(hn sn).elim⟩;have aS:=xT hx be sm;have a0:H5 R=some (.lst vt):=aS.keep yR (λz=>z);have a1:aA H5 vt ts:=Paired.imp' (λ_ _ ⟨b',e1,e2⟩=>⟨b',e1,aS.keep e2 (λz=>z)⟩) tR;have ca:SqL [] H5 a (ns.map V.int):=Iw b9 aS;clear few bi sm hx be dj aS yR tR b9;show⟨_,rfl,R,vt,ts,rfl,a0,a1,(),g.nd,λD H6 ek s6 hD=>?_⟩;show⟨D,rfl,.inr ⟨_,hD⟩,λks vs hk=>.inr ⟨_,rO (gP (K:=[]) hD hk),?_,λL ix hL pm _=>?_⟩⟩
 .rw[aH (gP (K:=[]) hD hk),ay,dA];lia
 have bm:=gP (K:=[]) hD hk;have lk:=aH bm;walk_at"H6 L hL H7 s7 y7";have cb:∀i∈ix,i<ks.length:=λi hi=>ic.mp (pm.mem_iff.mp hi);have ag:=n_ (Paired.imp' (λ_ _ ⟨a,e,h⟩=>⟨a,e,s7 _ _ h⟩) bm:SdsAt H7 ks ((ents ts).map (·.1))) ix cb;have bn:(ix.map λi=>((ents ts).map (·.1)).getD i (0,0)).Perm ((ents ts).map (·.1)):=rD (by rw[<-lk];show pm);generalize (ix.map λi=>((ents ts).map (·.1)).getD i (0,0))=ss at ag bn;generalize (ix.map λi=>ks.getD i .non)=zs at ag y7;have lz:=aH ag;have el:ss.length<=48:=by rw[bn.length_eq,ay,dA];lia
 have a2:=s6.trans s7;have cc:∀m n,(m,n)∈ss↔∃c,En ts m n c:=λm n=>by
  rw[bn.mem_iff,ar];constructor
  .rintro⟨⟨⟨a',b'⟩,c⟩,h,e⟩;cases e;show⟨c,h⟩
  rintro⟨c,h⟩;show⟨_,h,rfl⟩
 show⟨_,rfl,R,vt,ts,rfl,a2 _ _ a0,a1.same a2,(),λLc cs H8 em s8 y8 cd lcs=>⟨lit1,λl1 H9 g9 s9 y9=>?_⟩⟩;show⟨Lc,l1,_,_,rfl,rfl,s9 _ _ y8,y9,by rw[bz];simp only[bY];lia,λl2 Ha ga sa ya=>?_⟩;show⟨l2,cs.map (λc:Nat=>(c:Int))++[0],rfl,SqL.of (by rw[ya];simp[nV]),∅,λmx hm bt=>⟨_,_,rfl,rfl,?_⟩⟩;have h0:=bt 0 ∅;obtain⟨y,hy⟩:∃y:Nat,mx+1=(y:Int):=⟨(mx+1).toNat,()⟩;have bv:∀c,c∈cs↔Co ts c:=λc=>by
  rw[cd.2,ck];show⟨λh=>by obtain⟨t,h1,h2⟩:=gI.mp h;show⟨t,h1,‹h2›⟩,λ⟨t,h1,h2⟩=>gI.mpr ⟨t,h1,‹h2›⟩⟩
 have ce:¬Co ts y:=λu=>by
  have:=bt (y:Int) (dD _ (ar.mpr ⟨y,(bv y).mpr u,rfl⟩));lia
 have dk:y<10 ^ 160:=by
  have dl:(10:Nat) ^ 60+1<10 ^ 160:=⋯;have:y<10 ^ 60+1:=by
   rcases a_.mp hm with h|h
   .obtain⟨c,h1,h2⟩:=ar.mp h;have:=hb c ((bv c).mp h1);lia
   have:=aQ.mp h;have e:y=1:=();rw[e];decide
  show qQ this dl
 change cI 4 (V.int (mx+1)) _ _ _;rw[hy];have am:=a2.trans ((s8.trans s9).trans sa);have B:Bs ts us y:=⟨sk.1,dd,ce,dk⟩;have M:=sk.sm (Sm.of am);have dm:=am _ _ a0;have dp:=a1.same am;have bw:=(s8.trans s9).trans sa;have a3:=bw _ _ y7;have cf:=K31.SdsAt.same bw ag;have dr:SqL [] Ha a (ns.map V.int):=tG ca λb o e=>am _ _ e;clear bt hm h0 hy ya sa y9 s9 y8 s8 ag y7 s7 hD s6 bm cb pm a2 a1 a0 sk ca am bw cd bv;show⟨_,rfl,a,ns,3,rfl,dr,⋯,⋯,λp Hb hp sb yb=>?_⟩;have ds:cm (potOf ns 3):=rV ns ⋯ ⋯;generalize potOf ns 3=q0 at *;show⟨_,rfl,L,_,rfl,.inl (SqL.of (sb _ _ a3)),12,_,rfl,?_⟩;obtain⟨N,hN,eo⟩:∃N:Nat,(if ((zs.length:Nat):Int)<12 then ((zs.length:Nat):Int) else 12)=(N:Int)/\N<=zs.length:=by
  by_cases h:((zs.length:Nat):Int)<12
  .exact⟨zs.length,OU h,aq _⟩
  show⟨12,OT h,()⟩
 rw[hN];show⟨_,rfl,(),(),lA (lo:=0) (n:=((N:Nat):Int).toNat) (λi Z H'=>∃o6 o7 o8 q,Z=[some (.ref a),some (.ref R),some (.ref x),some (.ref L),some (.int (y:Int)),some (.ref p),o6,o7,o8]/\Sm Ha H'/\H' p=some (.lst (bI q))/\cm q) ⟨_,_,_,q0,rfl,Sm.of sb,yb,ds⟩ ?_ ?_⟩
 .rintro i Z Hc hi ⟨o6,o7,o8,qq,rfl,sc,bA,a4⟩;have ep:0<zs.length:=();have dt:Ha p=none:=hp;obtain⟨w1,w2⟩:=dX (q:=qq) (b:=(zs.length:Int)) ();obtain⟨j,hj⟩:∃j:Nat,digO qq (zs.length:Int)=(j:Int):=⟨(digO qq (zs.length:Int)).toNat,()⟩;have cg:j<zs.length:=();obtain⟨⟨m,n⟩,hs,I,ez,Y⟩:=cj cf (aX cg);have Y:Ha I=some (sdT m n):=Y;obtain⟨c,u⟩:=(cc m n).mp (aZ hs);have wr:∀{G G':Hp},Sm Ha G->(∀b,b≠p->G' b=G b)->Sm Ha G':=λ{G G'} s k b o e=>by rw[k b (au e dt)];show s b o e
  show⟨_,rfl,_,rfl,_,rfl,L,_,rfl,.inl (SqL.of (sc.keep a3 (λz=>z))),p,qq,_,rfl,bA,a4,(),iX () (uE (show ((zs.length:Nat):Int)<=48 by lia) ⋯),λHd kd yd=>?_⟩;have an:=wr sc kd;have a5:=cH (b:=(zs.length:Int)) a4;generalize nxt qq (zs.length:Int)=q4 at yd a5;rw[hj];show⟨L,_,_,_,rfl,rfl,SqL.of (an.keep a3 (λz=>z)),bO (j:=j) (by rw[aX cg,ez]),?_⟩;clear hj w1 w2 kd bA a4 sc;show⟨_,rfl,_,rfl,x,I,ts,us,m,n,y,rfl,M.sm an,B,an.keep Y (λz=>z),⟨c,u⟩,λHe se=>⟨_,rfl,gG ?_⟩⟩;have a6:=an.trans se;show⟨_,rfl,_,rfl,_,rfl,x,I,ts,us,m,n,y,rfl,M.sm a6,B,a6.keep Y (λz=>z),⟨c,u⟩,λHf sf=>⟨_,rfl,iL ?_⟩⟩;have bM:=a6.trans sf;have bN:Hf p=some (.lst (bI q4)):=(se.trans sf).keep yd (λz=>z);clear a6 an se sf yd;show⟨_,rfl,_,rfl,rfl,I,_,_,rfl,SqT.of (bM.keep Y (λz=>z)),λpr dy=>?_⟩;walk_at"Hf pr dy Hg sg yg";have a8:=bM.trans (Sm.of sg);have ch:Hg L=some (.lst zs):=a8.keep a3 (λz=>z);have ci:SdsAt Hg zs ss:=Paired.imp' (λ_ _ ⟨b',e1,e2⟩=>⟨b',e1,a8.keep e2 (λz=>z)⟩) cf;show⟨_,rfl,sdD (n,m),L,zs,_,.tup (SqT.of yg) (.cons (.int _) (.cons (.int _) .nil)),rfl,.inl (SqL.of ch),oZ ci,by change max 0 (max 0 0)+1<=60;decide,_,rfl,?_⟩;rw[OT ⋯,HS];by_cases bS:(n,m)∈ss
  .rw[OV bS];show aO ⟨_,_,_,q4,rfl,a8,sg _ _ bN,a5⟩
  rw[OW bS];show aB ?_;have bX:∀c,¬En ts n m c:=λc h=>bS ((cc n m).mpr ⟨c,h⟩);have dF:bc (En ts) m n:=⟨⟨c,u⟩,λ⟨r,h⟩=>bX r h⟩;obtain⟨s1,s2,s3⟩:=B.co1 u;have lu:=iH B.t.al;have dK:=sg _ _ bN;clear ch ci yg sg bN bM;show⟨_,rfl,_,rfl,_,rfl,lit3,λt1 Hh gh sh yh=>?_⟩;have b0:=a8.trans (Sm.of sh);show⟨x,t1,ts,us,.on,m,n,y,rfl,M.sm b0,⟨I,b0.keep Y (λz=>z),yh⟩,⟨c,u⟩,(λ_=>bX),(λ_=>ce),λrs b=>?_,λrs a9 z Hi b si b1=>?_,(λH' _ z=>nomatch z),λd' rs H' _ b hn=>(hn (by rw[show rs=_ from b];show B.on_sk dF)).elim⟩
  .rw[show rs=_ from b];show B.few (by rw[aU,bY];lia) (iD B.in3 (fH s2 s1 (.inl rfl) jR))
  rw[show rs=_ from b] at b1;clear b;have T1:=b1.1;have ho:=B.on_back T1;have co:En (us++[(n,m,y)]) n m y:=eQ.mpr (.inr (dC.mpr (.inl (.inl ⟨rfl,rfl,rfl⟩))));have Bk:∀rs,Beh (us++[(n,m,y)]) a9 n m 0 rs .out->rs=wo a9 [(n,m,y)]:=λrs ⟨c,e1,e2⟩=>by rw[e2,T1.sk.g.sk.one e1 co]
  have cp:=b0.trans si;have cr:=cp.keep Y (λz=>z);have dL:Hi p=some (.lst (bI q4)):=si.keep (sh _ _ dK) (λz=>z);show⟨_,rfl,_,rfl,I,_,_,_,rfl,rfl,SqT.of cr,bO (j:=1) rfl,_,rfl,I,_,_,_,rfl,rfl,SqT.of cr,bO (j:=0) rfl,lit2,λt2 Hj gj sj yj=>⟨lit2,λt3 Hk gk ct yk=>?_⟩⟩;have b2:=Sm.of (sj.trans ct);show⟨z,t3,_,a9,.out,n,m,0,rfl,b1.sm b2,⟨t2,ct _ _ yj,yk⟩,⟨y,co⟩,(λz=>nomatch z),(λz=>nomatch z),λrs b=>?_,λrs eq z2 Hl bl sl ap=>?_,(λH' _ z=>nomatch z),λd' rs H' _ b hn=>(hn (by rw[Bk rs b];show B.skn ho)).elim⟩
  .rw[Bk rs b];have l1:=iH T1.al;rw[aU,bY] at l1;have l2:=jU a9 [(n,m,y)];show B.few () (j6 (l8 T1.al (iD B.in3 (fH s2 s1 (.inl rfl) jR))))
  rw[Bk rs bl] at ap;rw[B.same ho ap.1] at ap;obtain⟨dT,O2,R2,D2,S2,dV⟩:=ap.obj;obtain⟨dx,O,RR,DD,S,hx⟩:=M.obj;have d0:=cp.trans (b2.trans sl);show⟨z2,dT,_,rfl,dV,rfl,z2,_,us,rfl,ap,λl3 er Hm hm sm ym tm=>?_⟩;have b3:=d0.trans (Sm.of sm);show⟨_,rfl,x,dx,_,rfl,b3.keep hx (λz=>z),rfl,x,ts,us,rfl,M.sm b3,λl4 es Hn et ba yn tn=>?_⟩;show lQ (ba _ _ ym) (tm.same ba) yn tn ⟨_,rfl,aB ?_⟩;have ea:=b3.trans (Sm.of ba);have eb:Hn p=some (.lst (bI q4)):=(b2.trans (sl.trans (Sm.of (sm.trans ba)))).keep dL (λz=>z);show⟨_,rfl,_,rfl,_,rfl,_,rfl,p,q4,50,rfl,eb,a5,⋯,⋯,λHo ko yo=>?_⟩;have b4:=wr ea ko;obtain⟨v1,v2⟩:=dX (q:=q4) (b:=50) ⋯;obtain⟨k,hk⟩:∃k:Nat,digO q4 50=(k:Int):=⟨(digO q4 50).toNat,()⟩;rw[hk];show⟨x,I,ts,us,m,n,y,k,rfl,M.sm b4,B,b4.keep Y (λz=>z),⟨c,u⟩,bX,λev sp=>⟨_,rfl,iL ⟨_,_,_,_,rfl,b4.trans sp,sp.keep yo (λz=>z),cH a5⟩⟩⟩
 rintro Z Hc ⟨o6,o7,o8,qq,rfl,sc,bA,a4⟩;obtain⟨dx,O,RR,DD,S,hx⟩:=M.obj;show⟨_,rfl,x,dx,_,rfl,sc.keep hx (λz=>z),rfl,x,ts,us,rfl,M.sm sc,λl vo Hd hl I yd td=>?_⟩;have sm:=sc.trans (Sm.of I);show⟨_,rfl,R,vt,ts,rfl,sm.keep dm (λz=>z),Paired.imp' (λ_ _ ⟨b',e1,e2⟩=>⟨b',e1,sm.keep e2 (λz=>z)⟩) dp,(),g.ne,λr vr ew ws He ex se ye te pm ec ed=>?_⟩;rw[tZ g.ne ec] at pm;rw[rL (pm.trans B.t.al.symm) ed B.t.so] at te;show lQ (se _ _ yd) (td.same se) ye te (q He)
end
theorem len1(h:us.length=1):∃a,us=[a]:=List.length_eq_one_iff.mp h
theorem len2(h:us.length=2):∃a b,us=[a,b]:=by obtain⟨a,r,rfl⟩:=Ap h;obtain⟨b,rfl⟩:=len1 (AL h);show⟨a,b,rfl⟩
theorem len3(h:us.length=3):∃a b c,us=[a,b,c]:=by obtain⟨a,r,rfl⟩:=Ap h;obtain⟨b,c,rfl⟩:=len2 (AL h);show⟨a,b,c,rfl⟩
theorem len4(h:us.length=4):∃a b c d,us=[a,b,c,d]:=by obtain⟨a,r,rfl⟩:=Ap h;obtain⟨b,c,d,rfl⟩:=len3 (AL h);show⟨a,b,c,d,rfl⟩
def bdA(x q:Str)(st:Stmt)(us:List Value)(kV doc pm:Value)(an:Option Addr)(a ct:Value):=bindArgs (W.fnOf x q (dY st) (df st) (ao st) .none kV doc pm an a ct) ⟨us,[]⟩
section
variable {x q:Str}{st:Stmt}{f:Addr}(F:Fun K x q st f fd)
include F
theorem bd1(a:Str)(h:(λu=>bdA x q st [u])=λu _ _ _ _ _ _=>pure [(a,u)]):Binds K fd [a] []:=F.binds λk d p n c t us b=>by
 obtain⟨u,rfl⟩:=len1 b;show congrArg (· u k d p n c t) h
theorem bd2(a b:Str)(h:(λu v=>bdA x q st [u,v])=λu v _ _ _ _ _ _=>pure [(a,u),(b,v)]):Binds K fd [a,b] []:=F.binds λk d p n c t us e=>by
 obtain⟨u,v,rfl⟩:=len2 e;show congrArg (· u v k d p n c t) h
theorem bd3(a b e:Str)(h:(λu v w=>bdA x q st [u,v,w])=λu v w _ _ _ _ _ _=>pure [(a,u),(b,v),(e,w)]):Binds K fd [a,b,e] []:=F.binds λk d p n c t us f=>by
 obtain⟨u,v,w,rfl⟩:=len3 f;show congrArg (· u v w k d p n c t) h
theorem bd4(a b e g:Str)(h:(λu v w y=>bdA x q st [u,v,w,y])=λu v w y _ _ _ _ _ _=>pure [(a,u),(b,v),(e,w),(g,y)]):Binds K fd [a,b,e,g] []:=F.binds λk d p n c t us f=>by
 obtain⟨u,v,w,y,rfl⟩:=len4 f;show congrArg (· u v w y k d p n c t) h
end
structure Top(K:W.Frag)(mg:Str->Option Value)(x:Str)(st:Stmt)(f:Addr)(fd:FuncData):Prop where
 u:Fun K x x st f fd
 m:mg x=some (.ref f)
structure InC(K:W.Frag)(C:Addr)(x q:Str)(st:Stmt)(f:Addr)(fd:FuncData):Prop where
 u:Fun K x q st f fd
 m:Meth K C x f
theorem zc{h:Heap}{x:Str}{st:Stmt}{f:Addr}{d:Value}{od an:Option Addr}{e:Array (Option Value)}{kV doc pm b ct:Value}(X:K.In h)(G:h.Ns mainGlobals mg)
  (a:W.nsIn K mainGlobals x=some (some (.ref f))) (l:K.lookup f=some ⟨d,od,.func (W.fnOf x x (dY st) (df st) (ao st) .none kV doc pm an b ct),e⟩) (c:W.codeIn K b x=true) (k:W.keepIn K (.ref f)=true) :
  Top K mg x st f (W.fnOf x x (dY st) (df st) (ao st) .none kV doc pm an b ct):=⟨zC (st:=st) l c k,gr X G a⟩
theorem l7{C:Addr}{x q:Str}{st:Stmt}{f:Addr}{d:Value}{od an:Option Addr}{e:Array (Option Value)}{kV doc pm b ct:Value}
  (a:W.findIn K (.ref C) x=some (some (.ref f))) (i:W.isFn K (.ref f)=true) (l:K.lookup f=some ⟨d,od,.func (W.fnOf x q (dY st) (df st) (ao st) .none kV doc pm an b ct),e⟩) (c:W.codeIn K b q=true) (k:W.keepIn K (.ref f)=true) :
  InC K C x q st f (W.fnOf x q (dY st) (df st) (ao st) .none kV doc pm an b ct):=⟨zC (st:=st) l c k,⟨a,i,k⟩⟩
def aP(K:W.Frag)(x:Str)(st:Stmt):Prop:=∃(f:Addr)(a:Value)(od an:Option Addr)(sl:Array (Option Value))(kV b pm cd ct:Value),W.nsIn K mainGlobals x=some (some (.ref f))/\K.lookup f=some ⟨a,od,.func (W.fnOf x x (dY st) (df st) (ao st) .none kV b pm an cd ct),sl⟩/\W.codeIn K cd x=true/\W.keepIn K (.ref f)=true
theorem top_in{x:Str}{st:Stmt}{f:Addr}{b:Value}{od an:Option Addr}{sl:Array (Option Value)}{kV d pm cd ct:Value}(a:W.nsIn K mainGlobals x=some (some (.ref f)))(l:K.lookup f=some ⟨b,od,.func (W.fnOf x x (dY st) (df st) (ao st) .none kV d pm an cd ct),sl⟩)(c:W.codeIn K cd x=true)(k:W.keepIn K (.ref f)=true):aP K x st:=⟨f,b,od,an,sl,kV,d,pm,cd,ct,a,l,c,k⟩
theorem aT{h:Heap}{x:Str}{st:Stmt}(X:K.In h)(G:h.Ns mainGlobals mg)(t:aP K x st):∃f d,Top K mg x st f d:=by obtain⟨f,b,od,an,sl,kV,e,pm,cd,ct,a,l,c,k⟩:=t;show⟨_,_,zc (st:=st) X G a l c k⟩
def InK(K:W.Frag)(C:Addr)(x q:Str)(st:Stmt):Prop:=∃(f:Addr)(a:Value)(od an:Option Addr)(sl:Array (Option Value))(kV b pm cd ct:Value),W.findIn K (.ref C) x=some (some (.ref f))/\W.isFn K (.ref f)=true/\K.lookup f=some ⟨a,od,.func (W.fnOf x q (dY st) (df st) (ao st) .none kV b pm an cd ct),sl⟩/\W.codeIn K cd q=true/\W.keepIn K (.ref f)=true
theorem in_in{C:Addr}{x q:Str}{st:Stmt}{f:Addr}{b:Value}{od an:Option Addr}{sl:Array (Option Value)}{kV d pm cd ct:Value}(a:W.findIn K (.ref C) x=some (some (.ref f)))(i:W.isFn K (.ref f)=true)(l:K.lookup f=some ⟨b,od,.func (W.fnOf x q (dY st) (df st) (ao st) .none kV d pm an cd ct),sl⟩)(c:W.codeIn K cd q=true)(k:W.keepIn K (.ref f)=true):InK K C x q st:=⟨f,b,od,an,sl,kV,d,pm,cd,ct,a,i,l,c,k⟩
def ckF(K:W.Frag)(D:Addr)(f:Str):Bool:=W.findIn K (.ref D) "__setattr__"==some (some (.builtin "object.__setattr__"))&&(W.mroIn K D (.type "object")==some true&&((W.clsIn K D).any (λcd=>oS cd.mro)&&(W.findIn K (.ref D) f==some none&&(W.clsIn K D).any (·.hasDict))))
def ckM(K:W.Frag)(D:Addr):Bool:=jc K D&&W.keepIn K (.ref D)
def ckS(K:W.Frag)(S:Addr):Bool:=W.specialIn K (.ref S) "__getattribute__"==some (some (.builtin "type.__getattribute__"))&&W.readsIn K S (.type "type")
def ckC(K:W.Frag)(C M:Addr):Bool:=W.findIn K (.ref C) "__getattribute__"==some (some (.builtin "BaseException.__getattribute__"))&&(W.findIn K (.ref C) "__getattr__"==some none&&(W.findIn K (.ref C) "__class__"==some (some (.builtin "object.__class__"))&&(W.mroIn K C (.type "object")==some true&&(W.mroIn K C (.type "BaseException")==some true&&((W.clsIn K C).isSome &&
 (W.specialIn K (.builtin "object.__class__") "__get__"==some (some (.builtin "getset_descriptor.__get__"))&&(W.takesIn K (.builtin "object.__class__")==some true&&(L2.clsIn K C).any λbm=>bm.contains (.type "BaseException")&&!(Value.ref C::bm).contains (.ref M))))))))
def ckB(K:W.Frag)(M:Addr):Bool:=(L2.clsIn K M).any λbm=>bm.contains (.type "BaseException")
def ckX(K:W.Frag)(a b:Addr)(r:Bool):Bool:=W.exmOne K (.ref a) (.ref b)==some r
def zU:Value->Option Str
 |.str x _=>some x
 |_=>none
def KA:Data->Option (List Value)
 |.seq a _=>some a.toList
 |_=>none
def ckT(K:W.Frag)(p:Addr)(ks:List Str):Bool:=(K.lookup p).any λo=>o.cls==.type "tuple"&&(KA o.data).any λus=>us.map zU==ks.map some
section
variable {C M D:Addr}
theorem pW{α:Type}{o:Option α}{p:α->Bool}(h:o.any p=true):∃a,o=some a/\p a=true:=by
 cases o with
 |none=>cases h
 |some a=>show⟨a,rfl,h⟩
theorem zM{f:Str}(h:ckF K D f=true):eS K D f:=by simp only[ckF,gH,beq_iff_eq] at h;show⟨h.1,h.2.1,h.2.2.1,h.2.2.2.1,h.2.2.2.2⟩
theorem JP(h:ckC K C M=true):pX K C/\∃bm,L2.clsIn K C=some bm/\bm.contains (.type "BaseException")=true/\(Value.ref C::bm).contains (.ref M)=false:=by simp only[ckC,gH,beq_iff_eq] at h;obtain⟨h1,h2,a,b,c,d,f,g,i⟩:=h;obtain⟨bm,e,h⟩:=pW i;obtain⟨x,y⟩:=uB.mp h;show⟨⟨h1,h2,a,f,g,b,c,d⟩,bm,e,x,‹y›⟩
theorem wD:∀{us:List Value}{ks:List Str},us.map zU=ks.map some->Vals (ks.map V.str) us
 | [],[],_=>.nil
 | [],_::_,h=>by cases h
 |_::_,[],h=>by cases h
 |u::us,k::ks,h=>by
  rw[aY,aY] at h;obtain⟨h1,h2⟩:=List.cons.inj h;show .cons ?_ (wD h2);cases u<;>first|cases h1;done|(cases h1;show⟨_,rfl⟩)
theorem pV{ks:List Str}(h:ckT K D ks=true):KTup K D (ks.map V.str):=by
 obtain⟨o,e,h⟩:=pW h;obtain⟨h1,h2⟩:=uB.mp h;obtain⟨us,a,b⟩:=pW h2;cases d:o.data with
 |seq c n=>rw[d] at a;cases a;show⟨o,c,n,e,beq_iff_eq.mp h1,d,wD (beq_iff_eq.mp b)⟩
 |_=>rw[d] at a;cases a
end
section
end
theorem all_mk{h:Heap}{fa Cs S c1 c2 n A t1 t2 t3:Addr}{tM:Tok}(Y:K.In h)(G:h.Ns mainGlobals mg)(dF:mg "law" = some (.ref fa))
  (dK:W.nsIn K mainGlobals "Skin" = some (some (.ref Cs)))
  (aS:W.nsIn K mainGlobals "ShapeError" = some (some (.ref S)))
  (dL:W.nsIn K mainGlobals "TooMany" = some (some (.ref c1)))
  (dT:W.nsIn K mainGlobals "NoSkin" = some (some (.ref c2)))
  (dV:W.nsIn K mainGlobals "Spoilt" = some (some (.ref n)))
  (d0:W.nsIn K mainGlobals "NoSide" = some (some (.ref A)))
  (d1:W.nsIn K mainGlobals "AT_A_SIDE" = some (some (.ref t1)))
  (d2:W.nsIn K mainGlobals "WITH_A_CORNER" = some (some (.ref t2)))
  (d3:W.nsIn K mainGlobals "AT_A_RIM" = some (some (.ref t3)))
  (aM:W.nsIn K mainGlobals "MOST_TRIPLES" = some (some (.int 200 tM)))
  (h1:aP K "is_whole" ph)
  (h2:aP K "is_corner" nW)
  (h3:aP K "first_of" pD)
  (h4:aP K "walked" oH)
  (h5:aP K "pairs_about" nC)
  (h6:aP K "rim_steps" nQ)
  (h7:aP K "checked_corner" nv)
  (h8:aP K "is_pair" oK)
  (h9:aP K "is_triple" nU)
  (d4:aP K "checked_triples" lD)
  (d5:aP K "thirds_by_side" oM)
  (d6:aP K "steps_by_corner" pj)
  (d7:aP K "hang_together" qc)
  (d8:aP K "look_rounds_through" pz)
  (d9:aP K "begun_least" pG)
  (ea:aP K "is_deed" jO)
  (eb:aP K "checked_deed" nB)
  (ec:aP K "look_side_through" kY)
  (ed:aP K "look_corner_through" nr)
  (ee:aP K "triangles_without" kX)
  (eh:aP K "turned_over" jB)
  (ei:aP K "taken_out" jD)
  (ej:aP K "drawn" lH)
  (ek:aP K "put_in" jY)
  (el:aP K "put_on" lX)
  (em:aP K "closed" lJ)
  (eo:aP K "triples_behind" k_)
  (ep:aP K "changed" ir)
  (eq:aP K "round_of" og)
  (er:aP K "_law_at" sAt)
  (es:aP K "_law_pot" qu)
  (et:aP K "_law_digit" pF)
  (ev:aP K "_law_sides" pq)
  (ew:aP K "_law_thirds" oI)
  (ex:aP K "_law_free" qd)
  (ey:aP K "_law_corners" oi)
  (ez:aP K "_law_fans" qe)
  (eE:aP K "_law_split" pk)
  (eH:aP K "_law_drawn" pE)
  (eT:aP K "_law_rim_sides" nJ)
  (e0:aP K "_law_grown" oJ)
  (e1:aP K "_law_ring" pB)
  (e2:aP K "_law_beside" oh)
  (e3:aP K "_law_skin" pA)
  (e4:aP K "_law_named" px)
  (e5:aP K "_law_told" p_)
  (e6:aP K "_law_changed" nR)
  (e7:aP K "_law_turned" jH)
  (e8:aP K "_law_put_in" jN)
  (e9:aP K "_law_closed" iY)
  (fb:aP K "law" iK)
  (fl:InK K Cs "__init__" "Skin.__init__" jg)
  (fn:InK K c2 "__init__" "NoSkin.__init__" lI)
  (fo:InK K n "__init__" "Spoilt.__init__" lh)
  (fp:InK K Cs "triangles" "Skin.triangles" lp)
  (fv:InK K Cs "third" "Skin.third" lW)
  (pg:W.plainGet K Cs Str.empty=true)
  (hd:W.hasDictIn K Cs=true)
  (po:W.plainOver K Cs=true)
  (sa:W.findIn K (.ref Cs) "__setattr__" = some (some (.builtin "object.__setattr__")))
  (mk:W.makesIn K Cs=true)
  (kc:W.keepIn K (.ref Cs)=true)
  (fw:W.findIn K (.ref Cs) "ordered" = some none)
  (fx:W.findIn K (.ref Cs) "rising" = some none)
  (fy:W.findIn K (.ref Cs) "thirds" = some none)
  (fA:W.findIn K (.ref Cs) "steps" = some none)
  (fF:W.nsIn K mainGlobals "len" = some none)
  (fI:W.nsIn K mainGlobals "int" = some none)
  (fS:W.nsIn K mainGlobals "str" = some none)
  (fW:W.nsIn K mainGlobals "isinstance" = some none)
  (f0:W.nsIn K mainGlobals "range" = some none)
  (f1:W.nsIn K mainGlobals "list" = some none)
  (f2:W.nsIn K mainGlobals "tuple" = some none)
  (f3:W.nsIn K mainGlobals "bool" = some none)
  (f4:W.nsIn K mainGlobals "all" = some none)
  (f5:W.nsIn K mainGlobals "ValueError" = some none)
  (f6:W.nsIn K mainGlobals "reversed" = some none)
  (f7:W.nsIn K mainGlobals "enumerate" = some none)
  (f8:W.nsIn K mainGlobals "sorted" = some none)
  (f9:W.nsIn K mainGlobals "min" = some none)
  (ga:W.nsIn K mainGlobals "max" = some none)
  (gb:W.nsIn K mainGlobals "dict" = some none)
  (gc:W.nsIn K mainGlobals "zip" = some none)
  (y3:W.findCls K (.ref S) (.type "type") "__init__" = some (.val (.builtin "ValueError.__init__")))
  (cS:ckS K S=true)
  (cC:ckC K c2 c1=true)
  (cB:ckB K c1=true)
  (o2:ckF K c2 "fault" = true)
  (o3:ckF K n "kind" = true)
  (r2:ckM K c2=true)
  (r3:ckM K n=true)
  (n4:W.excIn K A bmV "ValueError.__new__" = true)
  (x1:ckX K A A true=true)
  (x2:ckX K A n false=true)
  (x3:ckX K n A false=true)
  (x4:ckX K n n true=true)
  (gd:ckT K t1 ["turn","out","draw"]=true)
  (cr:ckT K t2 ["in","on","close"]=true)
  (ge:ckT K t3 ["on","close"]=true)
  : ∃fd:FuncData,(∀(s:Shared)(v:Value),BindsTo s fd ⟨[v],[]⟩ [("_law_script",v)])/\∀base:Heap,K.In base->base.Ns mainGlobals mg->ai P w K mg base CX0 10 fa fd ["_law_script"] (p4 K):=by
 obtain⟨kS,oc,od,an,sl,kV,dc,pm,cd,ct,a,lk,c,k⟩:=fb;have e:=dF.symm.trans (gr Y G a);cases e;have T:cq mg:=⟨dU Y G fF,dU Y G fI,dU Y G fS,dU Y G fW,dU Y G f0,dU Y G f1,dU Y G f2,dU Y G f3,dU Y G f4,dU Y G f5,dU Y G f6,dU Y G f7⟩;have X:SCls K Cs:=⟨⟨pg,hd,po,sa⟩,fw,fx,fy,fA⟩;simp only[ckM,gH] at r2 r3;obtain⟨_,_,U1⟩:=aT Y G h1;obtain⟨_,_,j⟩:=aT Y G h2;obtain⟨_,_,B⟩:=aT Y G h3;obtain⟨_,_,C⟩:=aT Y G h4;obtain⟨_,_,U5⟩:=aT Y G h5;obtain⟨_,_,U6⟩:=aT Y G h6;obtain⟨_,_,U7⟩:=aT Y G h7;obtain⟨_,_,U8⟩:=aT Y G h8;obtain⟨_,_,U9⟩:=aT Y G h9;obtain⟨_,_,ab⟩:=aT Y G d4;obtain⟨_,_,ad⟩:=aT Y G d5;obtain⟨_,_,ag⟩:=aT Y G d6;obtain⟨_,_,al⟩:=aT Y G d7;obtain⟨_,_,am⟩:=aT Y G d8;obtain⟨_,_,D⟩:=aT Y G d9;obtain⟨_,_,ap⟩:=aT Y G ea;obtain⟨_,_,a0⟩:=aT Y G eb;obtain⟨_,_,a1⟩:=aT Y G ec;obtain⟨_,_,a2⟩:=aT Y G ed;obtain⟨_,_,o⟩:=aT Y G ee;obtain⟨_,_,a3⟩:=aT Y G eh;obtain⟨_,_,a4⟩:=aT Y G ei;obtain⟨_,_,a5⟩:=aT Y G ej;obtain⟨_,_,a6⟩:=aT Y G ek;obtain⟨_,_,a8⟩:=aT Y G el;obtain⟨_,_,a9⟩:=aT Y G em;obtain⟨_,_,ba⟩:=aT Y G eo;obtain⟨_,_,g⟩:=aT Y G ep;obtain⟨_,_,bb⟩:=aT Y G eq;obtain⟨_,_,bd⟩:=aT Y G er;obtain⟨_,_,be⟩:=aT Y G es;obtain⟨_,_,d⟩:=aT Y G et;obtain⟨_,_,E⟩:=aT Y G ev;obtain⟨_,_,i⟩:=aT Y G ew;obtain⟨_,_,H⟩:=aT Y G ex;obtain⟨_,_,f⟩:=aT Y G ey;obtain⟨_,_,bi⟩:=aT Y G ez;obtain⟨_,_,bl⟩:=aT Y G eE;obtain⟨_,_,bm⟩:=aT Y G eH;obtain⟨_,_,bn⟩:=aT Y G eT;obtain⟨_,_,bt⟩:=aT Y G e0;obtain⟨_,_,bv⟩:=aT Y G e1;obtain⟨_,_,bw⟩:=aT Y G e2;obtain⟨_,_,bA⟩:=aT Y G e3;obtain⟨_,_,bK⟩:=aT Y G e4;obtain⟨_,_,bX⟩:=aT Y G e5;obtain⟨_,_,p⟩:=aT Y G e6;obtain⟨_,_,b0⟩:=aT Y G e7;obtain⟨_,_,ca⟩:=aT Y G e8;obtain⟨_,_,cb⟩:=aT Y G e9;obtain⟨gf,k0,k1,k2,k3,k4,k5,k6,k7,k8,cs,cv,gh,gj,gk⟩:=fl;obtain⟨gl,k9,la,lb,lc,ld,le,lf,li,ll,cx,cy,gm,gn,go⟩:=fn;obtain⟨gp,lm,ln,lo,ls,lu,lv,lw,ly,lz,cM,c0,gs,gt,gu⟩:=fo;obtain⟨lL,lS,lT,l0,l1,l2,l3,l4,l5,ma,gE,gM,gN,gS,gT⟩:=fp;obtain⟨mb,mc,md,me,mo,ms,mt,mu,mx,mA,gV,g0,ha,hb,hc⟩:=fv;have z:=dU Y G f8;have cc:=dU Y G f9;have ce:=dU Y G ga;have he:=dU Y G gb;have hf:=dU Y G gc;have c5:=gr Y G dK;have mS:=gr Y G aS;have hg:=gr Y G dL;have cf:=gr Y G dT;have c8:=gr Y G dV;have da:=gr Y G d0;have hh:=gr Y G d1;have db:=gr Y G d2;have hi:=gr Y G d3;have mM:=gr Y G aM;have hj:=zc (st:=iK) Y G a lk c k;have dd:=l7 (st:=jg) cs cv gh gj gk;have dj:=l7 (st:=lI) cx cy gm gn go;have dk:=l7 (st:=lh) cM c0 gs gt gu;have l:=l7 (st:=lp) gE gM gN gS gT;have q:=l7 (st:=lW) gV g0 ha hb hc;have MF:Mk K Cs gf:=⟨mk,cs,cv,kc⟩;have M2:hU K c2 gl:=⟨r2.1,cx,beq_iff_eq.mp cy,r2.2⟩;have M3:hU K n gp:=⟨r3.1,cM,beq_iff_eq.mp c0,r3.2⟩;show⟨W.fnOf "law" "law" (dY iK) (df iK) (ao iK) .none kV dc pm an cd ct,λs v=>.of_eq rfl,λbase _ _=>?_⟩;have b1:=bd1 U1.u "thing" rfl;have b2:=bd1 j.u "thing" rfl;have b3:=bd1 B.u "onward" rfl;have b4:=bd2 C.u "onward" "begin" rfl;have b5:=bd1 U5.u "ring" rfl;have b6:=bd1 U6.u "skin" rfl;have b7:=bd2 U7.u "skin" "thing" rfl;have b8:=bd1 U8.u "thing" rfl;have b9:=bd1 U9.u "thing" rfl;have hk:=bd1 ab.u "things" rfl;have hl:=bd1 ad.u "triples" rfl;have hm:=bd1 ag.u "thirds" rfl;have hn:=bd1 al.u "about" rfl;have ho:=bd1 am.u "steps" rfl;have dl:=bd1 D.u "triple" rfl;have hp:=bd1 ap.u "thing" rfl;have hq:=bd1 a0.u "thing" rfl;have hr:=bd2 a1.u "skin" "deed" rfl;have hs:=bd2 a2.u "skin" "deed" rfl;have cg:=bd2 o.u "skin" "gone" rfl;have ht:=bd3 a3.u "skin" "a" "b" rfl;have hu:=bd3 a4.u "skin" "a" "b" rfl;have hv:=bd3 a5.u "skin" "a" "b" rfl;have hw:=bd4 a6.u "skin" "a" "b" "x" rfl;have hx:=bd4 a8.u "skin" "a" "b" "x" rfl;have hy:=bd3 a9.u "skin" "a" "x" rfl;have hz:=bd2 ba.u "skin" "deed" rfl;have Q:=bd2 g.u "skin" "deed" rfl;have hA:=bd2 bb.u "skin" "corner" rfl;have hB:=bd2 bd.u "_law_script" "_law_k" rfl;have hC:=bd2 be.u "_law_script" "_law_k" rfl;have I:=bd2 d.u "_law_pot_here" "_law_base" rfl;have dm:=bd1 E.u "_law_triple" rfl;have R:=bd1 i.u "_law_triples" rfl;have dp:=bd2 H.u "_law_thirds_here" "_law_triple" rfl;have J:=bd1 f.u "_law_triples" rfl;have hD:=bd2 bi.u "_law_triples" "_law_corner" rfl;have hE:=bd1 bl.u "_law_triples" rfl;have hF:=bd2 bm.u "_law_pot_here" "_law_most" rfl;have hG:=bd1 bn.u "_law_triples" rfl;have hH:=bd2 bt.u "_law_pot_here" "_law_most" rfl;have hI:=bd1 bv.u "_law_pot_here" rfl;have hK:=bd2 bw.u "_law_one" "_law_other" rfl;have hL:=bd2 bA.u "_law_pot_here" "_law_most" rfl;have hM:=bd2 bK.u "_law_pot_here" "_law_triples" rfl;have hN:=bd1 bX.u "_law_triples" rfl;have ch:=bd2 p.u "_law_skin_here" "_law_deed" rfl;have hO:=bd2 b0.u "_law_skin_here" "_law_side" rfl;have hP:=bd3 ca.u "_law_skin_here" "_law_side" "_law_x" rfl;have hQ:=bd4 cb.u "_law_skin_here" "_law_side" "_law_x" "_law_at_here" rfl;have dr:=bd2 dd.u "self" "triples" rfl;have ci:=bd2 dj.u "self" "fault" rfl;have hR:=bd2 dk.u "self" "kind" rfl;have r:=bd1 l.u "self" rfl;have L:=bd3 q.u "self" "a" "b" rfl;have kt:mv K:=⟨rfl,rfl,rfl⟩;obtain⟨xc,bN,eN,hS,hT⟩:=JP cC;obtain⟨bM,eM,hW⟩:=pW cB;have xf:=zM o2;simp only[ckS,gH,beq_iff_eq] at cS;have bS:BInit K S:=⟨cS.1,cS.2,y3⟩;have g1:ai P w K mg base CX0 _ _ _ _ _:=Ew U1.u T kt;have g2:ai P w K mg base CX0 _ _ _ _ _:=BU j.u ⟨g1,b1,U1.m,U1.u.kp⟩;have g3:ai P w K mg base CX0 _ _ _ _ _:=EL B.u T cc;have g4:ai P w K mg base CX0 _ _ _ _ _:=Ci C.u;have g5:ai P w K mg base CX0 _ _ _ _ _:=EC U5.u T hf;have g6:ai P w K mg base CX0 _ _ _ _ _:=BS U6.u X;have g7:ai P w K mg base CX0 _ _ _ _ _:=K3 U7.u T X ⟨g2,b2,j.m,j.u.kp⟩;have g8:ai P w K mg base CX0 _ _ _ _ _:=C6 U8.u T kt ⟨g2,b2,j.m,j.u.kp⟩;have g9:ai P w K mg base CX0 _ _ _ _ _:=EJ U9.u T kt ⟨g2,b2,j.m,j.u.kp⟩;have cl:ai P w K mg base CX0 _ _ _ _ _:=C5 dj.u mS bS;have hY:ai P w K mg base (CX1 P w) _ _ _ _ _:=ER ab.u T ⟨g9,b9,U9.m,U9.u.kp⟩ M2 xf cl ci cf;have hZ:ai P w K mg base (CX1 P w) _ _ _ _ _:=Ck ad.u T M2 xf cl ci cf;have h0:ai P w K mg base CX0 _ _ _ _ _:=Ey ag.u;have ih:ai P w K mg base CX0 _ _ _ _ _:=GQ al.u T he ⟨g3,b3,B.m,B.u.kp⟩;have ii:ai P w K mg base (CX1 P w) _ _ _ _ _:=EH am.u z ⟨ih,hn,al.m,al.u.kp⟩ M2 xf cl ci cf;have ds:ai P w K mg base CX0 _ _ _ _ _:=ES D.u cc;have dt:ai P w K mg base (CX1 P w) _ _ _ _ _:=GH dd.u T z mM X ⟨hY,hk,ab.m,ab.u.kp⟩ ⟨hZ,hl,ad.m,ad.u.kp⟩ ⟨h0,hm,ag.m,ag.u.kp⟩ ⟨ii,ho,am.m,am.u.kp⟩ ⟨ds,dl,D.m,D.u.kp⟩;have y:ai P w K mg base CX0 _ _ _ _ _:=Jc l.u X T;have M:ai P w K mg base CX0 _ _ _ _ _:=Ex q.u X;have im:ai P w K mg base CX0 _ _ _ _ _:=C7 ap.u T kt rfl ⟨g2,b2,j.m,j.u.kp⟩ ⟨g8,b8,U8.m,U8.u.kp⟩ hh (pV gd) db (pV cr);have io:ai P w K mg base CX0 _ _ _ _ _:=C8 a0.u T ⟨im,hp,ap.m,ap.u.kp⟩;have it:ai P w K mg base (CX1 P w) _ _ _ _ _:=EG a1.u X ⟨M,L,q.m⟩ da n4 hi (pV ge);have iv:ai P w K mg base CX0 _ _ _ _ _:=EI a2.u X db (pV cr);have co:ai P w K mg base CX0 _ _ _ _ _:=KZ o.u X ⟨ds,dl,D.m,D.u.kp⟩ ⟨y,r,l.m⟩;have ix:ai P w K mg base CX0 _ _ _ _ _:=Gz a3.u X ⟨co,cg,o.m,o.u.kp⟩ ⟨M,L,q.m⟩;have i0:ai P w K mg base CX0 _ _ _ _ _:=Jf a4.u X ⟨co,cg,o.m,o.u.kp⟩ ⟨M,L,q.m⟩;have i1:ai P w K mg base CX0 _ _ _ _ _:=GZ a5.u X T ⟨y,r,l.m⟩;have i2:ai P w K mg base CX0 _ _ _ _ _:=K1 a6.u X ⟨co,cg,o.m,o.u.kp⟩ ⟨M,L,q.m⟩;have i3:ai P w K mg base CX0 _ _ _ _ _:=K0 a8.u X ⟨y,r,l.m⟩;have i4:ai P w K mg base CX0 _ _ _ _ _:=EO a9.u X ⟨g6,b6,U6.m,U6.u.kp⟩ ⟨g4,b4,C.m,C.u.kp⟩ ⟨g5,b5,U5.m,U5.u.kp⟩ ⟨y,r,l.m⟩;have jp:ai P w K mg base CX0 _ _ _ _ _:=Jj ba.u ⟨ix,ht,a3.m,a3.u.kp⟩ ⟨i0,hu,a4.m,a4.u.kp⟩ ⟨i1,hv,a5.m,a5.u.kp⟩ ⟨i2,hw,a6.m,a6.u.kp⟩ ⟨i3,hx,a8.m,a8.u.kp⟩ ⟨i4,hy,a9.m,a9.u.kp⟩;have U:ai P w K mg base (CX2 P w) _ _ _ _ _:=K2 g.u ⟨io,hq,a0.m,a0.u.kp⟩ ⟨it,hr,a1.m,a1.u.kp⟩ ⟨iv,hs,a2.m,a2.u.kp⟩ ⟨jp,hz,ba.m,ba.u.kp⟩ MF dt dr c5 hg eM hW cf eN hS hT M3 (λx=>C4 dk.u mS bS) hR c8 xc xf (zM o3);have js:ai P w K mg base CX0 _ _ _ _ _:=EB bb.u X ⟨g7,b7,U7.m,U7.u.kp⟩ ⟨g3.mono ⋯,b3,B.m,B.u.kp⟩ ⟨g4.mono ⋯,b4,C.m,C.u.kp⟩;have ka:ai P w K mg base CX0 _ _ _ _ _:=Je be.u bd.u hB bd.m bd.u.kp T;have N:ai P w K mg base CX0 _ _ _ _ _:=EN d.u;have dx:ai P w K mg base CX0 _ _ _ _ _:=EA E.u;have Z:ai P w K mg base CX0 _ _ _ _ _:=C3 i.u;have dy:ai P w K mg base CX0 _ _ _ _ _:=GV H.u T ⟨dx,dm,E.m,E.u.kp⟩;have O:ai P w K mg base CX0 _ _ _ _ _:=Cj f.u z;have kd:ai P w K mg base CX0 _ _ _ _ _:=GY bi.u z ⟨Z,R,i.m,i.u.kp⟩;have kk:ai P w K mg base CX0 _ _ _ _ _:=Ez bl.u T ce ⟨O.mono ⋯,J,f.m,f.u.kp⟩ ⟨kd,hD,bi.m,bi.u.kp⟩;have kn:ai P w K mg base CX0 _ _ _ _ _:=EM bm.u T ⟨N.mono ⋯,I,d.m,d.u.kp⟩ ⟨Z.mono ⋯,R,i.m,i.u.kp⟩ ⟨dy,dp,H.m,H.u.kp⟩;have ko:ai P w K mg base CX0 _ _ _ _ _:=Jd bn.u z ⟨Z,R,i.m,i.u.kp⟩;have ks:ai P w K mg base CX0 _ _ _ _ _:=EK bt.u T ⟨N.mono ⋯,I,d.m,d.u.kp⟩ ⟨Z.mono ⋯,R,i.m,i.u.kp⟩ ⟨dy,dp,H.m,H.u.kp⟩ ⟨ko,hG,bn.m,bn.u.kp⟩ ⟨O.mono ⋯,J,f.m,f.u.kp⟩;have ku:ai P w K mg base CX0 _ _ _ _ _:=GJ bv.u T ce ⟨N.mono ⋯,I,d.m,d.u.kp⟩ ⟨O.mono ⋯,J,f.m,f.u.kp⟩ ⟨dx.mono ⋯,dm,E.m,E.u.kp⟩;have kv:ai P w K mg base CX0 _ _ _ _ _:=C9 bw.u T ce ⟨O.mono ⋯,J,f.m,f.u.kp⟩;have kw:ai P w K mg base CX0 _ _ _ _ _:=EF bA.u ⟨N.mono ⋯,I,d.m,d.u.kp⟩ ⟨ku,hI,bv.m,bv.u.kp⟩ ⟨kk,hE,bl.m,bl.u.kp⟩ ⟨kv,hK,bw.m,bw.u.kp⟩ ⟨ks,hH,bt.m,bt.u.kp⟩ ⟨kn,hF,bm.m,bm.u.kp⟩;have kx:ai P w K mg base CX0 _ _ _ _ _:=ED bK.u T ⟨N,I,d.m,d.u.kp⟩ ⟨O,J,f.m,f.u.kp⟩;have kz:ai P w K mg base CX0 _ _ _ _ _:=GE bX.u cc z;have cp:ai P w K mg base CX0 _ _ _ _ _:=Jh p.u ⟨U,Q,g.m,g.u.kp⟩ da c8 (beq_iff_eq.mp x1) (beq_iff_eq.mp x2) (beq_iff_eq.mp x3) (beq_iff_eq.mp x4);have kA:ai P w K mg base CX0 _ _ _ _ _:=EE b0.u X ⟨U,Q,g.m,g.u.kp⟩ ⟨cp,ch,p.m,p.u.kp⟩ ⟨M,L,q.m⟩ ⟨y,r,l.m⟩;have kC:ai P w K mg base CX0 _ _ _ _ _:=Jg ca.u X ⟨U,Q,g.m,g.u.kp⟩ ⟨cp,ch,p.m,p.u.kp⟩ ⟨M,L,q.m⟩ ⟨y,r,l.m⟩;have kR:ai P w K mg base CX0 _ _ _ _ _:=GM cb.u T X ⟨U,Q,g.m,g.u.kp⟩ ⟨cp,ch,p.m,p.u.kp⟩ ⟨js,hA,bb.m,bb.u.kp⟩ ⟨y,r,l.m⟩;show Ji hj.u T z ce cc X ⟨ka,hC,be.m,be.u.kp⟩ ⟨kx,hM,bK.m,bK.u.kp⟩ ⟨kw,hL,bA.m,bA.u.kp⟩ MF dt dr c5 ⟨Z,R,i.m,i.u.kp⟩ ⟨O.mono ⋯,J,f.m,f.u.kp⟩ ⟨N,I,d.m,d.u.kp⟩ ⟨kA,hO,b0.m,b0.u.kp⟩ ⟨kC,hP,ca.m,ca.u.kp⟩ ⟨U,Q,g.m,g.u.kp⟩ ⟨y,r,l.m⟩ ⟨kR,hQ,cb.m,cb.u.kp⟩ ⟨kz,hN,bX.m,bX.u.kp⟩
theorem walk{l:W.OpenLaw}{q:Program}{loose:List Str}{XP:(Str->Option Value)->Heap->Prop}{YP:World->Heap->Prop}{d:DefRec}{K:Params->W.Frag}(c:l.most=some 63)(e:d.params.defaults=[])
  (g:∀(w:World)(h:Heap),YP w h->(K w.params).In h) (i:∀(w:World)(a:Addr)(o:Obj),(K w.params).lookup a=some o->o.cls≠.type "list")
  (F:∀(w:World)(mg:Str->Option Value)(b:Addr)(h:Heap),(K w.params).In h->h.Ns mainGlobals mg->mg d.name=some (.ref b)->
   ∃fd:FuncData,(∀(s:Shared)(u:Value),BindsTo s fd ⟨[u],[]⟩ [("_law_script",u)])/\∀base:Heap,(K w.params).In base->base.Ns mainGlobals mg->ai l.prog w (K w.params) mg base CX0 10 b fd ["_law_script"] (p4 (K w.params))) :
  W.WalkO q loose XP YP l.row.toRowW d [] (λf vs=>PySem.call f vs):=
 L2.walk_of (n:=63) (k:=10) (x:="_law_script") (CX:=λ_=>CX0) (sp:=λw=>p4 (K w.params)) c ⋯ e ⟨rfl,⋯,⋯,rfl⟩ g F i (λ_ _ a ns j _ m=>⟨a,ns,rfl,m,j,λ_=>rfl⟩) λ_ _ _ _ _ z=>z
end K15
end
namespace K15
open PySem L2 PySem.W K51
theorem kf_nl(P:Params)(a:Addr)(o:Obj)(h:(kf P).lookup a=some o):o.cls≠.type "list":=Ad (show _=true by kernel_rfl) h
end K15
def PySem.W.Fast.tw8764889785960270401:PySem.Program:=PySem.Challenge.pw_shapestring_k64_whole_there_and_back
theorem PySem.W.Fast.te8764889785960270401:PySem.Challenge.pw_shapestring_k64_whole_there_and_back=PySem.W.Fast.tw8764889785960270401:=rfl
open PySem PySem.W PyProof.Rows
set_option maxRecDepth 100000 in
set_option maxHeartbeats 0 in
theorem PySem.Challenge.cw_shapestring_k64_whole_there_and_back_holds : PySem.Challenge.rw_shapestring_k64_whole_there_and_back.Holds := by
 w_on;o_law
 show W.holds_open (q:=K15.view) (loose:=[]) (Xt:=λs=>xlAt K15.view [] s&&recOk [] s) (XP:=XL K15.view []) (Yf:=Hook.obs (kHook K15.kf K15.ads (λ_=>by kernel_rfl))) (Ya:=Hook.val (kHook K15.kf K15.ads (λ_=>by kernel_rfl))) (YP:=Hook.says (kHook K15.kf K15.ads (λ_=>by kernel_rfl))) (N:=7656) K15.left (Hook.of _) (Hook.keeps _)
  (λs e=>xl_of s (uB.mp e).1) XL.keeps (by rfl) (by rfl) (by rfl) (λs e=>recFacts_of (uB.mp e).2) (by rfl) (by assumption) ⋯ ⟨rfl,rfl,rfl,rfl,rfl,⋯⟩ ?hw ?hc
 case hw=>w_witness2
 k_fill
 show K15.walk (l:=PySem.Challenge.rw_shapestring_k64_whole_there_and_back) rfl rfl (λw h Y=>W.kIn_of Y) (λw=>K15.kf_nl w.params) ?F
 case F=>
  intro w mg fa h KX G hmg
  refine' K15.all_mk KX G hmg ?aCs ?aS ?ac1 ?ac2 ?ac3 ?ac4 ?at1 ?at2 ?at3 ?aM ?_ ?_ ?_ ?_ ?_ ?_ ?_ ?_ ?_ ?_ ?_ ?_ ?_ ?_ ?_ ?_ ?_ ?_ ?_ ?_ ?_ ?_ ?_ ?_ ?_ ?_ ?_ ?_ ?_ ?_ ?_ ?_ ?_ ?_ ?_ ?_ ?_ ?_ ?_ ?_ ?_ ?_ ?_ ?_ ?_ ?_ ?_ ?_ ?_ ?_ ?_ ?_ ?_ ?_ ?_ ?_ ?_ ?_ ?_ ?_ ?_ ?_ ?_ ?_ ?_ ?_ ?_ ?_ ?_ ?_ ?_ ?_ ?_ ?_ ?_ ?_ ?_ ?_ ?_ ?_ ?_ ?_ ?_ ?_ ?_ ?_ ?_ ?_ ?_ ?_ ?_ ?_ ?_ ?_ ?_ ?_ ?_ ?_ ?_
  (case aCs=>k_is);(case aS=>k_is);(case ac1=>k_is);(case ac2=>k_is);(case ac3=>k_is);(case ac4=>k_is);(case at1=>k_is);(case at2=>k_is);(case at3=>k_is);(case aM=>k_is)
  all_goals first|k_is|(refine' K15.top_in ?a ?l ?c ?k;(case a=>k_is);(case l=>k_is);(case c=>k_is);(case k=>k_is))|(refine' K15.in_in ?a ?i ?l ?c ?k;(case a=>k_is);(case i=>k_is);(case l=>k_is);(case c=>k_is);(case k=>k_is))|kernel_rfl
#print axioms PySem.Challenge.cw_shapestring_k64_whole_there_and_back_holds

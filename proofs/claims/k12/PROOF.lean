import PyProof.Rows.All
import Wide.All
import OpenK.AllK
import Wide.FinOn
import Lean
import PyProof.EqAt
import PyProof.EqKinds
import PyProof.TupleCall
import PyProof.NeData
import PyProof.P3In
import PyProof.DictItems
import KE.KPairComp
import PyProof.Rows.CountFlat
import Open.Pieces
import KE.KRevIter
import KE.KRevSl
import PyProof.Draws
import PyProof.EnumMake
import KE.KItemsList
import PyProof.Rows.Chain
import PyProof.ReprRoads
import KE.KTryMore
import PySem.Challenge.RW_shapestring_k12_faults
set_option Elab.async false
set_option linter.all false
set_option maxRecDepth 100000
set_option maxHeartbeats 0
open Array renaming length_toList->gB,toList_push->gC,getElem?_toList->iu,getElem?_eq_some_iff->i7,toList_inj->mH,toList_extract->rH,toList_map->rJ,getElem?_eq_getElem->xB,getElem?_setIfInBounds_ne->xC,getElem?_eq_none->Hr,getElem_setIfInBounds->Hs,perm_iff_toList_perm->Hu,size_setIfInBounds->Hv,toList_append->Hw,toList_reverse->Hy
open Array.Perm renaming refl->Hq
open Bool renaming false_ne_true->bN,and_eq_true->eC,false_and->eX,eq_iff_iff->iw,eq_false_iff->jU,false_eq_true->mJ,and_false->oY,or_true->xD,and_eq_true_iff->Hz,not_eq_true'->HA
open Classical renaming byContradiction->mO,byCases->HC
open Int renaming toNat_of_nonneg->dM,toNat_natCast->mU,emod_lt_of_pos->o_,emod_nonneg->pb,le_trans->rK,natCast_mul->HG
open List renaming length_map->aC,mem_map->aD,getElem?_eq_some_iff->aJ,mem_cons->aT,mem_singleton->aV,length_append->aZ,map_cons->a8,map_append->bf,mem_append->bh,getElem?_map->bp,mem_of_getElem?->bE,length_cons->bQ,size_toArray->bU,take_add_one->bV,getElem?_eq_getElem->bZ,map_map->cq,length_take->cE,length_singleton->cM,mem_cons_of_mem->cN,take_length->c7,nodup_append->dq,mem_append_left->dQ,nodup_cons->d_,append_nil->eL,filter_cons->eM,getElem?_of_mem->fu,mem_append_right->fU,mem_flatMap->fV,append_assoc->gD,getElem?_append_left->gE,mem_cons_self->gF,mem_filter->gG,perm_append_comm->gH,take_append_drop->gI,lookup_cons->iz,eraseIdx_sublist->i8,length_drop->i9,length_filter_le->i_,length_nil->ja,take_of_length_le->jb,all_eq_true->jV,filter_append->jW,getElem?_append_right->jX,mem_range->jY,nodup_nil->jZ,pairwise_map->j3,filter_nil->mV,find?_cons->mX,length_range->mY,not_mem_nil->mZ,any_cons->pd,drop_eq_getElem_cons->pf,getElem?_take->ph,getElem_mem->pj,getLast?_eq_getElem?->pk,mem_filterMap->pq,any_eq_true->rL,exists_mem_of_ne_nil->rM,extract_eq_take_drop->rN,getElem?_set_ne->rO,getElem?_set_self->rP,length_eraseIdx_of_lt->rQ,length_pos_iff->rR,map_congr_left->rS,map_take->rT,mem_iff_getElem?->rV,pairwise_cons->rW,pairwise_iff_getElem->rX,pairwise_singleton->rY,all_cons->xI,drop_zero->xJ,ext_getElem->xK,ext_getElem?->xM,filterMap_cons->xN,foldl_cons->xO,getElem?_replicate->xP,getElem?_take_of_lt->xQ,head?_eq_getElem?->xR,map_eq_nil_iff->xS,map_nil->xU,of_mem_zip->xV,pairwise_append->xW,set_comm->xX,take_zero->xY,all_map->HQ,any_eq_false->HR,any_map->HS,contains_cons->HU,drop_drop->HV,drop_length->HW,drop_of_length_le->HX,foldl_append->HY,foldl_nil->HZ,getElem?_cons_succ->H_,getElem?_drop->Ia,getElem?_eq_none->Ib,getElem?_eq_none_iff->Ic,length_eq_zero_iff->Ie,length_replicate->Ig,map_id->Ih,nodup_range->Ii,zip_cons_cons->Ij
open List.Pairwise renaming imp_of_mem->HK
open List.Perm renaming of_eq->xH,append_left->HL,refl->HM
open List.Sublist renaming map->HN,refl->HP,append->JL
open Nat renaming le_refl->ar,zero_le->aU,ne_of_lt->bJ,lt_of_lt_of_le->b_,le_trans->cF,lt_irrefl->ef,lt_succ_self->fW,le_of_lt->jc,le_succ->jd,ne_of_gt->j4,zero_add->j5,min_eq_left->pA,mod_lt->pB,add_sub_cancel->rZ,le_add_right->r9,le_of_eq->r_,lt_of_le_of_lt->se,lt_succ_of_lt->sf,max_eq_right->si,add_le_add_left->xZ,add_sub_cancel_left->x_,log2_lt->yc,lt_trans->yd,mul_le_mul->ye,pow_le_pow_right->yg,sub_self->yh,add_assoc->Ik,add_lt_add_left->Il,add_zero->Im,le_of_lt_succ->Io,mul_pos->Ip,not_lt_zero->Iq,sub_zero->Ir
open Ne renaming symm->av
open Option renaming map_eq_some_iff->cT,isSome_iff_exists->je,map_some->m_,isSome_map->yi,bind_some->Iv,getD_none->Iw,getD_some->Iy
open Option.some renaming inj->dh,injEq->JM
open Prod renaming ext->pD
open Prod.mk renaming inj->jf,injEq->IA
open PyProof.Rows renaming wpS_bind->au,wpS_pure->aB,boot_isinstance->du,wpS_forRange->el,wpS_mono->eD,wpS_get->gK,wpS_modify->iD,boot_tuple->j6,boot_int->nh,callWith_type1->sv,assignInOrder_cons->sF,reverseSlice'_eq->sM,boot_list->yj,boot_max->yk,Subscript_->yy,boot_bool->IC,boot_repr->ID,args_list_sort->Jc,assignInOrder_nil->Jd,entry_list_sort->Je,slot_list_sort->Jl,subscriptTail_builtinR->Jm,boot_dict->JN,boot_range->JO,callWith_builtin1->JP,floordiv_int->JQ,lt_int->JR
open PyProof.Rows.IsTup renaming new->HJ
open PySem renaming wpAny_bind->af,wpAny_pure->aq,boot_len->di,wpAny_mono->dn,sizeLine_eq->dv,wpAny_holding->eg,wpAny_newObj_type->fX,wpAny_field->gJ,wpAny_call->iC,wpAny_attempt->jg,wpAny_call_entry->jh,wpAny_fieldsOf->ji,wpAny_loadPart_at->jj,wpAny_setField->jk,wpAny_truthy_bool->jl,wpAny_Call_Name_kw->j_,wpAny_of_eq->kd,wpAny_passesOwn->ke,mem_of_lookup->nj,codeAny_mono->nr,wpAny_dictEntries->nv,wpAny_dictEpoch->ny,wpAny_standAt->nz,call_meetsIn->pG,tupleKind_room_in1->pH,wpAny_execs_nil->pI,wpAny_letGo->pJ,wpAny_setField_rec->pK,codeAny_call_builtin->sI,plainId_quiet->sL,wpAny_bindName->sN,wpAny_callSpecial?_slot->sO,wpAny_isOneOf_itemiter->sP,wpAny_isSubtype_exc->sQ,wpAny_tryCatch->sR,wpAny_typeNameOfWhole_itemiter->sS,wpAny_typeNameOfWhole_keyiter->sT,wpAny_typeNameOf_itemiter->sU,wpAny_typeNameOf_keyiter->sV,call_meets->yx,codeAny_builtin->yH,join_length_add->yI,seqIndex_neg->yJ,seqIndex_of->yK,wpAny_Name->yN,wpAny_isOneOf_keyiter->yO,wpAny_loadPart->yP,wpAny_loadPart'->yQ,wpAny_pyIter_list->yS,wpAny_seqItems->yT,wpAny_updateSeq->yU,fitsIndex_both->Jf,isSubtype_stop->Jg,pastItsLine_dict->Jh,plainObj_wpAny_Assign_Attribute->Ji,pyReprObj_of_reads->Jj,slot_list_getitem->Jk,wpAny_Call_method->Jn,wpAny_Call_method_late->Jo,wpAny_Compare1->Jp,wpAny_Dict_empty->Jq,wpAny_assign_Name->Jr,wpAny_comprehension_free->Js,wpAny_eqBool_int->Jt,wpAny_execs_cons->Ju,wpAny_forIn_list->Jv,wpAny_formatField_str->Jw,wpAny_isInstance->Jx,wpAny_isTrue_Compare1->Jy,wpAny_lookBehind->Jz,wpAny_newTuple->JA,wpAny_notOrdered_dict->JB,wpAny_pyIter_enum->JC,wpAny_pyIter_keyiter->JD,wpAny_pyIter_range->JE,wpAny_pyIter_rangeiter->JF,wpAny_pyIter_slot->JG,wpAny_pyNext_range_end->JI
open PySem.Around renaming under_plainId->xA
open PySem.AutoSeq1 renaming list_insert_list_int_val_1->JS,wpAny_loadPart'->JT
open PySem.Calls renaming callWith_builtin->mK,evalArgs_plain->mL,spliced_cons->xE,spliced_nil->xF,Name_function_global->HB
open PySem.Code renaming quiet_builtin->HD
open PySem.EqMixed renaming eq_bool_str->JU,eq_int_str->JV,eq_str_bool->JW,eq_str_int->JX,ne_bool_str->JY,ne_int_str->JZ,ne_str_bool->J3,ne_str_int->J4
open PySem.EqNone renaming eq_bool_none->J5,eq_int_none->J6,eq_none_bool->J7,eq_none_int->J8,eq_none_none->J9,eq_none_str->J_,eq_str_none->Ka,ne_bool_none->Kb,ne_int_none->Kc,ne_none_bool->Kd,ne_none_int->Ke,ne_none_none->Kf,ne_none_str->Kg,ne_str_none->Kh
open PySem.F renaming plainAttrs_list->dG,slot_list_append->iA,type_list_append->iB,excBase_ValueError->j7,plain_min_loop->j8,slot_list_insert->j9,type_list_insert->ni,slot_dict_itemiterator_next->pE,slot_dict_keyiterator_next->pF,plainAttrs_dict->sy,entry_min_loop->ym,slot_dict_get->yo,slot_list_pop->yp,type_list_pop->yq,args_dict_get_2->IE,args_dict_itemiterator_next_1->IF,args_dict_keyiterator_next_1->IG,entry_dict_get->IH,entry_dict_itemiterator_next->II,entry_dict_keyiterator_next->IJ,slot_dict_items->IK,slot_dict_items_iter->IL,slot_dict_iter->IM,slot_dict_pop->IP,slot_dict_setdefault->IQ,slot_dict_values->IR,slot_tuple_index->IS
open PySem.Heap renaming lt_size->aK,get?_push_of_some->aR,get?_push_size->bP,get?_update_other->fT,get?_update_self->iy,get?_none_of_le->mP,size_push->mQ,get?_update_ne->oZ,get?_push_at->HF
open PySem.Heap.DictOf renaming new->JJ
open PySem.Heap.IsSliceOf renaming new->JK
open PySem.Heap.Ns1 renaming of_empty->HE
open PySem.Heap.SameBut renaming update->xG
open PySem.IsRange renaming new->HH
open PySem.Obj renaming data_mapFields->pC,isFreed_of_fields->sq,cls_mapFields->Iu
open PySem.Paired renaming length->ng,snoc->Iz
open PySem.PassesOwn renaming never->cI,leaving->su
open PySem.PyData renaming noDict_hsm->IB
open PySem.SeqAt renaming compareEq_reads->Kj,compareNe_reads->Kk,eqAt_reads->Kl,in_list_reads->Km,in_tuple_reads->Kn
open PySem.SeqAt.EqAt renaming int_int->IZ,int_str->I0,str_int->I_,bool_bool->Kr,bool_int->Ks,bool_none->Kt,bool_str->Ku,int_bool->Kv,int_none->Kw,none_bool->Kx,none_int->Kz,none_str->KA,same->KB,str_bool->KC,str_none->KD,str_str->KF
open PySem.SeqAt.ReadsAll renaming length->Ki
open PySem.Str renaming length_append->eN
open PySem.W renaming mg_of->dH,mg_none_of->dR,kia_one->eY,looks_findIn->sJ,any_some->yu,looks_clsIn->yv,looks_findIn->yw,callWith_K->yz,bind_fn->IT,callWith_K->IU,cellsFrom_some->IV,kitx_dict->IW,kitx_list->IX,set_plain->IY
open PySem.W.KIN renaming signs_num->Ko
open PySem.W.Looks renaming here->Kp
open PySem.Walks renaming list->Ja,range->Jb
open PySem.Within renaming cons->Kq
open Std.Legacy.Range renaming forIn_eq_forIn_range'->KG
open Sum.inl renaming inj->nq
theorem KH.{u} {c : Prop} {h : Decidable c} (hnc : ¬c) {α : Sort u} {t e : α} : (if c then t else e)=e := if_neg hnc
theorem KI.{u} {c : Prop} {h : Decidable c} (hc : c) {α : Sort u} {t e : α} : (if c then t else e)=t := if_pos hc
theorem KJ {p : Prop} [h : Decidable p] (hp : p) : decide p=true := decide_eq_true hp
theorem KL {p : Prop} [h : Decidable p] (hp : ¬p) : decide p=false := decide_eq_false hp
theorem KM {p : Prop} [h : Decidable p] (hp : decide p=true) : p := of_decide_eq_true hp
variable {pins:List (PySem.Addr×PySem.Obj)} {s:PySem.Shared} {P:PySem.Program} {w:PySem.World} {A:PySem.Around} {mg:PySem.Str->Option PySem.Value} {base:PySem.Heap} {us:List PySem.Value} {E:PySem.Value->PySem.Shared->Prop} {fd:PySem.FuncData} {K:PySem.W.Frag} {scope:PySem.Scope}
section
namespace L2
open PySem
def dw (s:Stmt):Arguments:=match s with
 |.FunctionDef _ a _ _ _ _ _ _ _ _=>a
 |_=>{posonlyargs:=[],args:=[],vararg:=none,kwonlyargs:=[],kw_defaults:=[],kwarg:=none,defaults:=[]}
def cW (s:Stmt):List Stmt:=match s with
 |.FunctionDef _ _ b _ _ _ _ _ _ _=>b
 |_=>[]
def aE (s:Stmt):Scope:=match s with
 |.FunctionDef _ _ _ _ _ _ sc _ _ _=>sc
 |_=>{kind:=.function,names:=[],isGenerator:=false,isCoroutine:=false}
end L2
namespace K51
open PySem L2
def GX:Nat:=33
def aF (i:Nat):Stmt:=PySem.Challenge.pw_shapestring_k12_faults.main.body.getD i (.Pass ⟨0,0,0,0⟩)
def top (i:Nat):Stmt:=aF (GX+i)
def og (c j:Nat):Stmt:=match aF c with
 |.ClassDef _ _ _ body _ _ _ _ _ _ _=>body.getD j (.Pass ⟨0,0,0,0⟩)
 |_=>.Pass ⟨0,0,0,0⟩
abbrev gY:Stmt:=og 14 0
abbrev gL:Stmt:=og 15 0
abbrev gO:Stmt:=og 16 0
abbrev lC:Stmt:=aF 18
abbrev ko:Stmt:=aF 19
abbrev lK:Stmt:=aF 21
abbrev km:Stmt:=aF 24
abbrev jv:Stmt:=aF 25
abbrev lb:Stmt:=aF 26
abbrev lD:Stmt:=aF 27
abbrev lZ:Stmt:=aF 28
abbrev lH:Stmt:=aF 29
abbrev lO:Stmt:=aF 30
abbrev fQ:Stmt:=og 31 0
abbrev sAt:Stmt:=top 0
abbrev mq:Stmt:=top 1
abbrev lN:Stmt:=top 2
abbrev lF:Stmt:=top 3
abbrev kY:Stmt:=top 4
abbrev l8:Stmt:=top 5
abbrev kL:Stmt:=top 6
abbrev l_:Stmt:=top 7
abbrev lE:Stmt:=top 8
abbrev lM:Stmt:=top 9
abbrev kj:Stmt:=top 10
abbrev kZ:Stmt:=top 11
abbrev lJ:Stmt:=top 12
abbrev kJ:Stmt:=top 13
abbrev lI:Stmt:=top 14
abbrev lG:Stmt:=top 15
abbrev k_:Stmt:=top 16
abbrev kl:Stmt:=top 18
abbrev jJ:Stmt:=top 19
abbrev kH:Stmt:=top 20
abbrev kK:Stmt:=top 21
abbrev jI:Stmt:=top 22
abbrev gr:Stmt:=top 23
end K51
end
section
namespace K15
open PySem L2 PySem.W K51
noncomputable def cO (x:Str) (t l n a b:Nat):Obj:=⟨.type "code",none,.fields #[.str x t,.str x (t+1),.str "/claim/cut.py" (t+2),.int l 0,.int n 0,.int 0 0,.int 0 0,.int 3 0,.ref a,.bool true,.int 181 0,.ref (a+1),.none,.ref (a+2),.ref (a+3),.ref (a+4),.int b 0,.int l 0,.str "/claim/cut.py" (b+1)],#[]⟩
noncomputable def fO (x:Str) (s:Stmt) (m:Str) (t c:Nat):Obj:=⟨.type "function",none,.func (fnOf x x (dw s) (cW s) (aE s) .none .none .none (.str m t) none (.ref c) .none),#[]⟩
noncomputable def dE (P:Params) (x:Str) (t:Nat) (v:Value):DictEntry:=PySem.DictEntry.mk (PySem.PyData.keyHash P x) (.str x t) v
noncomputable def fL (x:Str) (s:Stmt) (c:Nat):Obj:=fO x s "law_shapestring_k12_faults" 622 c
noncomputable def kf:Params->Frag:=λP=>
 (nat_lit 1,((boot_heap P).get? 1).getD ⟨.none,none,.fields #[],#[]⟩) ::
 (nat_lit 2,⟨.none,none,(.dict #[] 0),#[]⟩) ::
 (nat_lit 3,⟨(.type "dict"),none,(.dict #[(dE P "__name__" 165 (.str "law_shapestring_k12_faults" 622)),(dE P "__doc__" 166 .none),(dE P "__package__" 167 .none),(dE P "__loader__" 168 (.builtin "__main__.__loader__#opaque")),(dE P "__spec__" 169 .none),(dE P "__annotations__" 170 (.ref 6)),(dE P "__builtins__" 171 (.ref 4)),(dE P "__file__" 173 (.str "/claim/cut.py" 172)),(dE P "__cached__" 174 .none),(dE P "_wall" 193 (.ref 21)),(dE P "ShapeError" 213 (.ref 31)),(dE P "TooMany" 229 (.ref 44)),(dE P "NoText" 245 (.ref 56)),(dE P "NoCorner" 261 (.ref 68)),(dE P "NoSide" 277 (.ref 80)),(dE P "NoLetter" 293 (.ref 92)),(dE P "NoCaps" 309 (.ref 104)),(dE P "NoCode" 325 (.ref 116)),(dE P "NoDeed" 341 (.ref 128)),(dE P "Taken" 357 (.ref 140)),(dE P "Gone" 373 (.ref 152)),(dE P "NoPast" 389 (.ref 164)),(dE P "NoSkin" 414 (.ref 183)),(dE P "Spoilt" 439 (.ref 202)),(dE P "NoWord" 464 (.ref 221)),(dE P "is_whole" 473 (.ref 230)),(dE P "is_corner" 480 (.ref 237)),(dE P "first_of" 488 (.ref 242)),(dE P "MOST_TRIPLES" 492 (.int 200 491)),(dE P "is_triple" 502 (.ref 249)),(dE P "checked_triples" 515 (.ref 256)),(dE P "thirds_by_side" 529 (.ref 263)),(dE P "steps_by_corner" 541 (.ref 270)),(dE P "hang_together" 550 (.ref 277)),(dE P "look_rounds_through" 558 (.ref 284)),(dE P "begun_least" 568 (.ref 291)),(dE P "Skin" 621 (.ref 327)),(dE P "_law_at" 631 (.ref 338)),(dE P "_law_pot" 642 (.ref 345)),(dE P "_law_digit" 651 (.ref 352)),(dE P "_law_sides" 661 (.ref 359)),(dE P "_law_thirds" 672 (.ref 366)),(dE P "_law_free" 678 (.ref 371)),(dE P "_law_corners" 688 (.ref 378)),(dE P "_law_fans" 694 (.ref 383)),(dE P "_law_split" 700 (.ref 388)),(dE P "_law_drawn" 706 (.ref 393)),(dE P "_law_rim_sides" 712 (.ref 398)),(dE P "_law_grown" 718 (.ref 403)),(dE P "_law_ring" 724 (.ref 408)),(dE P "_law_beside" 730 (.ref 413)),(dE P "_law_skin" 739 (.ref 420)),(dE P "_law_named" 745 (.ref 425)),(dE P "_law_handed" 758 (.ref 432)),(dE P "_law_told" 768 (.ref 439)),(dE P "_law_is_triple" 776 (.ref 446)),(dE P "_law_fault" 789 (.ref 453)),(dE P "_law_spoilt" 795 (.ref 458)),(dE P "_law_answer" 805 (.ref 465)),(dE P "_law_made" 811 (.ref 470)),(dE P "law" 817 (.ref 475))] 61),#[]⟩) ::
 (nat_lit 30,⟨(.type "dict"),none,(.dict #[(dE P "__module__" 203 (.str "shapestring.errors" 194)),(dE P "__firstlineno__" 207 (.int 5 206)),(dE P "__static_attributes__" 208 (.ref 29)),(dE P "__weakref__" 210 (.ref 32)),(dE P "__doc__" 211 .none)] 3),#[]⟩) ::
 (nat_lit 31,⟨(.type "type"),none,(.cls (PySem.ClassData.mk "ShapeError" [(.type "ValueError")] [(.ref 31),(.type "ValueError"),(.type "Exception"),(.type "BaseException"),(.type "object")] 30 "ShapeError" Bool.true [] [(.ref 44),(.ref 56),(.ref 68),(.ref 80),(.ref 92),(.ref 104),(.ref 116),(.ref 128),(.ref 140),(.ref 152),(.ref 164),(.ref 183),(.ref 202),(.ref 221)] Bool.false none Bool.false)),#[(Option.some (.ref 22)),none,(Option.some (.str "ShapeError" 196)),(Option.some (.str "ShapeError" 204)),(Option.some (.builtin "ValueError.__new__")),(Option.some (.bool Bool.true))]⟩) ::
 (nat_lit 32,⟨(.type "getset_descriptor"),none,(.fields #[(.str "__weakref__" 209),(.ref 31),(.builtin "ExceptionGroup.__weakref__"),.none]),#[]⟩) ::
 (nat_lit 43,⟨(.type "dict"),none,(.dict #[(dE P "__module__" 221 (.str "shapestring.errors" 194)),(dE P "__firstlineno__" 225 (.int 7 224)),(dE P "__static_attributes__" 226 (.ref 42)),(dE P "__doc__" 227 .none)] 2),#[]⟩) ::
 (nat_lit 44,⟨(.type "type"),none,(.cls (PySem.ClassData.mk "TooMany" [(.ref 31)] [(.ref 44),(.ref 31),(.type "ValueError"),(.type "Exception"),(.type "BaseException"),(.type "object")] 43 "TooMany" Bool.true [] [] Bool.false none Bool.false)),#[(Option.some (.ref 35)),none,(Option.some (.str "TooMany" 214)),(Option.some (.str "TooMany" 222)),(Option.some (.builtin "ValueError.__new__")),(Option.some (.bool Bool.true))]⟩) ::
 (nat_lit 55,⟨(.type "dict"),none,(.dict #[(dE P "__module__" 237 (.str "shapestring.errors" 194)),(dE P "__firstlineno__" 241 (.int 9 240)),(dE P "__static_attributes__" 242 (.ref 54)),(dE P "__doc__" 243 .none)] 2),#[]⟩) ::
 (nat_lit 56,⟨(.type "type"),none,(.cls (PySem.ClassData.mk "NoText" [(.ref 31)] [(.ref 56),(.ref 31),(.type "ValueError"),(.type "Exception"),(.type "BaseException"),(.type "object")] 55 "NoText" Bool.true [] [] Bool.false none Bool.false)),#[(Option.some (.ref 47)),none,(Option.some (.str "NoText" 230)),(Option.some (.str "NoText" 238)),(Option.some (.builtin "ValueError.__new__")),(Option.some (.bool Bool.true))]⟩) ::
 (nat_lit 67,⟨(.type "dict"),none,(.dict #[(dE P "__module__" 253 (.str "shapestring.errors" 194)),(dE P "__firstlineno__" 257 (.int 11 256)),(dE P "__static_attributes__" 258 (.ref 66)),(dE P "__doc__" 259 .none)] 2),#[]⟩) ::
 (nat_lit 68,⟨(.type "type"),none,(.cls (PySem.ClassData.mk "NoCorner" [(.ref 31)] [(.ref 68),(.ref 31),(.type "ValueError"),(.type "Exception"),(.type "BaseException"),(.type "object")] 67 "NoCorner" Bool.true [] [] Bool.false none Bool.false)),#[(Option.some (.ref 59)),none,(Option.some (.str "NoCorner" 246)),(Option.some (.str "NoCorner" 254)),(Option.some (.builtin "ValueError.__new__")),(Option.some (.bool Bool.true))]⟩) ::
 (nat_lit 79,⟨(.type "dict"),none,(.dict #[(dE P "__module__" 269 (.str "shapestring.errors" 194)),(dE P "__firstlineno__" 273 (.int 13 272)),(dE P "__static_attributes__" 274 (.ref 78)),(dE P "__doc__" 275 .none)] 2),#[]⟩) ::
 (nat_lit 80,⟨(.type "type"),none,(.cls (PySem.ClassData.mk "NoSide" [(.ref 31)] [(.ref 80),(.ref 31),(.type "ValueError"),(.type "Exception"),(.type "BaseException"),(.type "object")] 79 "NoSide" Bool.true [] [] Bool.false none Bool.false)),#[(Option.some (.ref 71)),none,(Option.some (.str "NoSide" 262)),(Option.some (.str "NoSide" 270)),(Option.some (.builtin "ValueError.__new__")),(Option.some (.bool Bool.true))]⟩) ::
 (nat_lit 91,⟨(.type "dict"),none,(.dict #[(dE P "__module__" 285 (.str "shapestring.errors" 194)),(dE P "__firstlineno__" 289 (.int 15 288)),(dE P "__static_attributes__" 290 (.ref 90)),(dE P "__doc__" 291 .none)] 2),#[]⟩) ::
 (nat_lit 92,⟨(.type "type"),none,(.cls (PySem.ClassData.mk "NoLetter" [(.ref 31)] [(.ref 92),(.ref 31),(.type "ValueError"),(.type "Exception"),(.type "BaseException"),(.type "object")] 91 "NoLetter" Bool.true [] [] Bool.false none Bool.false)),#[(Option.some (.ref 83)),none,(Option.some (.str "NoLetter" 278)),(Option.some (.str "NoLetter" 286)),(Option.some (.builtin "ValueError.__new__")),(Option.some (.bool Bool.true))]⟩) ::
 (nat_lit 103,⟨(.type "dict"),none,(.dict #[(dE P "__module__" 301 (.str "shapestring.errors" 194)),(dE P "__firstlineno__" 305 (.int 17 304)),(dE P "__static_attributes__" 306 (.ref 102)),(dE P "__doc__" 307 .none)] 2),#[]⟩) ::
 (nat_lit 104,⟨(.type "type"),none,(.cls (PySem.ClassData.mk "NoCaps" [(.ref 31)] [(.ref 104),(.ref 31),(.type "ValueError"),(.type "Exception"),(.type "BaseException"),(.type "object")] 103 "NoCaps" Bool.true [] [] Bool.false none Bool.false)),#[(Option.some (.ref 95)),none,(Option.some (.str "NoCaps" 294)),(Option.some (.str "NoCaps" 302)),(Option.some (.builtin "ValueError.__new__")),(Option.some (.bool Bool.true))]⟩) ::
 (nat_lit 115,⟨(.type "dict"),none,(.dict #[(dE P "__module__" 317 (.str "shapestring.errors" 194)),(dE P "__firstlineno__" 321 (.int 19 320)),(dE P "__static_attributes__" 322 (.ref 114)),(dE P "__doc__" 323 .none)] 2),#[]⟩) ::
 (nat_lit 116,⟨(.type "type"),none,(.cls (PySem.ClassData.mk "NoCode" [(.ref 31)] [(.ref 116),(.ref 31),(.type "ValueError"),(.type "Exception"),(.type "BaseException"),(.type "object")] 115 "NoCode" Bool.true [] [] Bool.false none Bool.false)),#[(Option.some (.ref 107)),none,(Option.some (.str "NoCode" 310)),(Option.some (.str "NoCode" 318)),(Option.some (.builtin "ValueError.__new__")),(Option.some (.bool Bool.true))]⟩) ::
 (nat_lit 127,⟨(.type "dict"),none,(.dict #[(dE P "__module__" 333 (.str "shapestring.errors" 194)),(dE P "__firstlineno__" 337 (.int 21 336)),(dE P "__static_attributes__" 338 (.ref 126)),(dE P "__doc__" 339 .none)] 2),#[]⟩) ::
 (nat_lit 128,⟨(.type "type"),none,(.cls (PySem.ClassData.mk "NoDeed" [(.ref 31)] [(.ref 128),(.ref 31),(.type "ValueError"),(.type "Exception"),(.type "BaseException"),(.type "object")] 127 "NoDeed" Bool.true [] [] Bool.false none Bool.false)),#[(Option.some (.ref 119)),none,(Option.some (.str "NoDeed" 326)),(Option.some (.str "NoDeed" 334)),(Option.some (.builtin "ValueError.__new__")),(Option.some (.bool Bool.true))]⟩) ::
 (nat_lit 139,⟨(.type "dict"),none,(.dict #[(dE P "__module__" 349 (.str "shapestring.errors" 194)),(dE P "__firstlineno__" 353 (.int 23 352)),(dE P "__static_attributes__" 354 (.ref 138)),(dE P "__doc__" 355 .none)] 2),#[]⟩) ::
 (nat_lit 140,⟨(.type "type"),none,(.cls (PySem.ClassData.mk "Taken" [(.ref 31)] [(.ref 140),(.ref 31),(.type "ValueError"),(.type "Exception"),(.type "BaseException"),(.type "object")] 139 "Taken" Bool.true [] [] Bool.false none Bool.false)),#[(Option.some (.ref 131)),none,(Option.some (.str "Taken" 342)),(Option.some (.str "Taken" 350)),(Option.some (.builtin "ValueError.__new__")),(Option.some (.bool Bool.true))]⟩) ::
 (nat_lit 151,⟨(.type "dict"),none,(.dict #[(dE P "__module__" 365 (.str "shapestring.errors" 194)),(dE P "__firstlineno__" 369 (.int 25 368)),(dE P "__static_attributes__" 370 (.ref 150)),(dE P "__doc__" 371 .none)] 2),#[]⟩) ::
 (nat_lit 152,⟨(.type "type"),none,(.cls (PySem.ClassData.mk "Gone" [(.ref 31)] [(.ref 152),(.ref 31),(.type "ValueError"),(.type "Exception"),(.type "BaseException"),(.type "object")] 151 "Gone" Bool.true [] [] Bool.false none Bool.false)),#[(Option.some (.ref 143)),none,(Option.some (.str "Gone" 358)),(Option.some (.str "Gone" 366)),(Option.some (.builtin "ValueError.__new__")),(Option.some (.bool Bool.true))]⟩) ::
 (nat_lit 163,⟨(.type "dict"),none,(.dict #[(dE P "__module__" 381 (.str "shapestring.errors" 194)),(dE P "__firstlineno__" 385 (.int 27 384)),(dE P "__static_attributes__" 386 (.ref 162)),(dE P "__doc__" 387 .none)] 2),#[]⟩) ::
 (nat_lit 164,⟨(.type "type"),none,(.cls (PySem.ClassData.mk "NoPast" [(.ref 31)] [(.ref 164),(.ref 31),(.type "ValueError"),(.type "Exception"),(.type "BaseException"),(.type "object")] 163 "NoPast" Bool.true [] [] Bool.false none Bool.false)),#[(Option.some (.ref 155)),none,(Option.some (.str "NoPast" 374)),(Option.some (.str "NoPast" 382)),(Option.some (.builtin "ValueError.__new__")),(Option.some (.bool Bool.true))]⟩) ::
 (nat_lit 179,⟨(.type "code"),none,(.fields #[(.str "__init__" 402),(.str "NoSkin.__init__" 403),(.str "/claim/cut.py" 404),(.int 31 0),(.int 2 0),(.int 0 0),(.int 0 0),(.int 3 0),(.ref 174),(.bool Bool.true),(.int 181 0),(.ref 175),.none,(.ref 176),(.ref 177),(.ref 178),(.int 407 0),(.int 31 0),(.str "/claim/cut.py" 408)]),#[]⟩) ::
 (nat_lit 180,⟨(.type "function"),none,(.func (fnOf "__init__" "NoSkin.__init__" (dw gY) (cW gY) (aE gY) .none .none .none (.str "shapestring.errors" 194) none (.ref 179) .none)),#[]⟩) ::
 (nat_lit 182,⟨(.type "dict"),none,(.dict #[(dE P "__module__" 397 (.str "shapestring.errors" 194)),(dE P "__firstlineno__" 401 (.int 29 400)),(dE P "__init__" 409 (.ref 180)),(dE P "__static_attributes__" 411 (.ref 181)),(dE P "__doc__" 412 .none)] 2),#[]⟩) ::
 (nat_lit 183,⟨(.type "type"),none,(.cls (PySem.ClassData.mk "NoSkin" [(.ref 31)] [(.ref 183),(.ref 31),(.type "ValueError"),(.type "Exception"),(.type "BaseException"),(.type "object")] 182 "NoSkin" Bool.true [] [] Bool.false none Bool.false)),#[(Option.some (.ref 167)),none,(Option.some (.str "NoSkin" 390)),(Option.some (.str "NoSkin" 398)),(Option.some (.builtin "ValueError.__new__")),(Option.some (.bool Bool.true))]⟩) ::
 (nat_lit 198,⟨(.type "code"),none,(.fields #[(.str "__init__" 427),(.str "Spoilt.__init__" 428),(.str "/claim/cut.py" 429),(.int 36 0),(.int 2 0),(.int 0 0),(.int 0 0),(.int 3 0),(.ref 193),(.bool Bool.true),(.int 181 0),(.ref 194),.none,(.ref 195),(.ref 196),(.ref 197),(.int 432 0),(.int 36 0),(.str "/claim/cut.py" 433)]),#[]⟩) ::
 (nat_lit 199,⟨(.type "function"),none,(.func (fnOf "__init__" "Spoilt.__init__" (dw gL) (cW gL) (aE gL) .none .none .none (.str "shapestring.errors" 194) none (.ref 198) .none)),#[]⟩) ::
 (nat_lit 201,⟨(.type "dict"),none,(.dict #[(dE P "__module__" 422 (.str "shapestring.errors" 194)),(dE P "__firstlineno__" 426 (.int 34 425)),(dE P "__init__" 434 (.ref 199)),(dE P "__static_attributes__" 436 (.ref 200)),(dE P "__doc__" 437 .none)] 2),#[]⟩) ::
 (nat_lit 202,⟨(.type "type"),none,(.cls (PySem.ClassData.mk "Spoilt" [(.ref 31)] [(.ref 202),(.ref 31),(.type "ValueError"),(.type "Exception"),(.type "BaseException"),(.type "object")] 201 "Spoilt" Bool.true [] [] Bool.false none Bool.false)),#[(Option.some (.ref 186)),none,(Option.some (.str "Spoilt" 415)),(Option.some (.str "Spoilt" 423)),(Option.some (.builtin "ValueError.__new__")),(Option.some (.bool Bool.true))]⟩) ::
 (nat_lit 217,⟨(.type "code"),none,(.fields #[(.str "__init__" 452),(.str "NoWord.__init__" 453),(.str "/claim/cut.py" 454),(.int 41 0),(.int 2 0),(.int 0 0),(.int 0 0),(.int 3 0),(.ref 212),(.bool Bool.true),(.int 181 0),(.ref 213),.none,(.ref 214),(.ref 215),(.ref 216),(.int 457 0),(.int 41 0),(.str "/claim/cut.py" 458)]),#[]⟩) ::
 (nat_lit 218,⟨(.type "function"),none,(.func (fnOf "__init__" "NoWord.__init__" (dw gO) (cW gO) (aE gO) .none .none .none (.str "shapestring.errors" 194) none (.ref 217) .none)),#[]⟩) ::
 (nat_lit 220,⟨(.type "dict"),none,(.dict #[(dE P "__module__" 447 (.str "shapestring.errors" 194)),(dE P "__firstlineno__" 451 (.int 39 450)),(dE P "__init__" 459 (.ref 218)),(dE P "__static_attributes__" 461 (.ref 219)),(dE P "__doc__" 462 .none)] 2),#[]⟩) ::
 (nat_lit 221,⟨(.type "type"),none,(.cls (PySem.ClassData.mk "NoWord" [(.ref 31)] [(.ref 221),(.ref 31),(.type "ValueError"),(.type "Exception"),(.type "BaseException"),(.type "object")] 220 "NoWord" Bool.true [] [] Bool.false none Bool.false)),#[(Option.some (.ref 205)),none,(Option.some (.str "NoWord" 440)),(Option.some (.str "NoWord" 448)),(Option.some (.builtin "ValueError.__new__")),(Option.some (.bool Bool.true))]⟩) ::
 (nat_lit 229,cO "is_whole" 467 45 1 224 471) ::
 (nat_lit 230,fO "is_whole" lC "shapestring.kinds" 465 229) ::
 (nat_lit 236,cO "is_corner" 474 47 1 231 478) ::
 (nat_lit 237,fO "is_corner" ko "shapestring.kinds" 465 236) ::
 (nat_lit 241,⟨(.type "code"),none,(.fields #[(.str "first_of" 483),(.str "first_of" 484),(.str "/claim/cut.py" 485),(.int 50 0),(.int 1 0),(.int 0 0),(.int 0 0),(.int 3 0),(.ref 238),(.bool Bool.true),(.int 181 0),(.ref 239),.none,.none,.none,(.ref 240),(.int 486 0),(.int 50 0),(.str "/claim/cut.py" 487)]),#[]⟩) ::
 (nat_lit 242,fO "first_of" lK "shapestring.rings" 481 241) ::
 (nat_lit 248,cO "is_triple" 493 56 1 243 500) ::
 (nat_lit 249,fO "is_triple" km "shapestring.skins" 489 248) ::
 (nat_lit 255,cO "checked_triples" 503 63 1 250 513) ::
 (nat_lit 256,fO "checked_triples" jv "shapestring.skins" 489 255) ::
 (nat_lit 262,cO "thirds_by_side" 516 71 1 257 527) ::
 (nat_lit 263,fO "thirds_by_side" lb "shapestring.skins" 489 262) ::
 (nat_lit 269,cO "steps_by_corner" 530 79 1 264 539) ::
 (nat_lit 270,fO "steps_by_corner" lD "shapestring.skins" 489 269) ::
 (nat_lit 276,cO "hang_together" 542 85 1 271 548) ::
 (nat_lit 277,fO "hang_together" lZ "shapestring.skins" 489 276) ::
 (nat_lit 283,cO "look_rounds_through" 551 91 1 278 556) ::
 (nat_lit 284,fO "look_rounds_through" lH "shapestring.skins" 489 283) ::
 (nat_lit 290,cO "begun_least" 559 95 1 285 566) ::
 (nat_lit 291,fO "begun_least" lO "shapestring.skins" 489 290) ::
 (nat_lit 302,⟨(.type "code"),none,(.fields #[(.str "__init__" 581),(.str "Skin.__init__" 582),(.str "/claim/cut.py" 583),(.int 100 0),(.int 2 0),(.int 0 0),(.int 0 0),(.int 3 0),(.ref 299),(.bool Bool.true),(.int 181 0),(.ref 300),.none,.none,.none,(.ref 301),(.int 584 0),(.int 100 0),(.str "/claim/cut.py" 585)]),#[]⟩) ::
 (nat_lit 303,⟨(.type "function"),none,(.func (fnOf "__init__" "Skin.__init__" (dw fQ) (cW fQ) (aE fQ) .none .none .none (.str "shapestring.skins" 489) none (.ref 302) .none)),#[]⟩) ::
 (nat_lit 326,⟨(.type "dict"),none,(.dict #[(dE P "__module__" 576 (.str "shapestring.skins" 489)),(dE P "__firstlineno__" 580 (.int 98 579)),(dE P "__init__" 586 (.ref 303)),(dE P "triangles" 593 (.ref 310)),(dE P "corners" 600 (.ref 317)),(dE P "third" 609 (.ref 324)),(dE P "__static_attributes__" 614 (.ref 325)),(dE P "__dict__" 616 (.ref 328)),(dE P "__weakref__" 618 (.ref 329)),(dE P "__doc__" 619 .none)] 4),#[]⟩) ::
 (nat_lit 327,⟨(.type "type"),none,(.cls (PySem.ClassData.mk "Skin" [(.type "object")] [(.ref 327),(.type "object")] 326 "Skin" Bool.true [] [] Bool.false none Bool.false)),#[none,none,(Option.some (.str "Skin" 569)),(Option.some (.str "Skin" 577)),(Option.some (.builtin "object.__new__")),(Option.some (.bool Bool.true))]⟩) ::
 (nat_lit 328,⟨(.type "getset_descriptor"),none,(.fields #[(.str "__dict__" 615),(.ref 327),(.builtin "function.__dict__"),(.builtin "function.__dict__#set")]),#[]⟩) ::
 (nat_lit 329,⟨(.type "getset_descriptor"),none,(.fields #[(.str "__weakref__" 617),(.ref 327),(.builtin "ExceptionGroup.__weakref__"),.none]),#[]⟩) ::
 (nat_lit 337,cO "_law_at" 624 121 2 332 629) ::
 (nat_lit 338,fL "_law_at" sAt 337) ::
 (nat_lit 344,cO "_law_pot" 632 125 2 339 640) ::
 (nat_lit 345,fL "_law_pot" mq 344) ::
 (nat_lit 351,cO "_law_digit" 643 133 2 346 649) ::
 (nat_lit 352,fL "_law_digit" lN 351) ::
 (nat_lit 358,cO "_law_sides" 652 140 1 353 659) ::
 (nat_lit 359,fL "_law_sides" lF 358) ::
 (nat_lit 365,cO "_law_thirds" 662 143 1 360 670) ::
 (nat_lit 366,fL "_law_thirds" kY 365) ::
 (nat_lit 370,⟨(.type "code"),none,(.fields #[(.str "_law_free" 673),(.str "_law_free" 674),(.str "/claim/cut.py" 675),(.int 150 0),(.int 2 0),(.int 0 0),(.int 0 0),(.int 3 0),(.ref 367),(.bool Bool.true),(.int 181 0),(.ref 368),.none,.none,.none,(.ref 369),(.int 676 0),(.int 150 0),(.str "/claim/cut.py" 677)]),#[]⟩) ::
 (nat_lit 371,fL "_law_free" l8 370) ::
 (nat_lit 377,cO "_law_corners" 679 152 1 372 686) ::
 (nat_lit 378,fL "_law_corners" kL 377) ::
 (nat_lit 382,⟨(.type "code"),none,(.fields #[(.str "_law_fans" 689),(.str "_law_fans" 690),(.str "/claim/cut.py" 691),(.int 158 0),(.int 2 0),(.int 0 0),(.int 0 0),(.int 3 0),(.ref 379),(.bool Bool.true),(.int 181 0),(.ref 380),.none,.none,.none,(.ref 381),(.int 692 0),(.int 158 0),(.str "/claim/cut.py" 693)]),#[]⟩) ::
 (nat_lit 383,fL "_law_fans" l_ 382) ::
 (nat_lit 387,⟨(.type "code"),none,(.fields #[(.str "_law_split" 695),(.str "_law_split" 696),(.str "/claim/cut.py" 697),(.int 171 0),(.int 1 0),(.int 0 0),(.int 0 0),(.int 3 0),(.ref 384),(.bool Bool.true),(.int 181 0),(.ref 385),.none,.none,.none,(.ref 386),(.int 698 0),(.int 171 0),(.str "/claim/cut.py" 699)]),#[]⟩) ::
 (nat_lit 388,fL "_law_split" lE 387) ::
 (nat_lit 392,⟨(.type "code"),none,(.fields #[(.str "_law_drawn" 701),(.str "_law_drawn" 702),(.str "/claim/cut.py" 703),(.int 185 0),(.int 2 0),(.int 0 0),(.int 0 0),(.int 3 0),(.ref 389),(.bool Bool.true),(.int 181 0),(.ref 390),.none,.none,.none,(.ref 391),(.int 704 0),(.int 185 0),(.str "/claim/cut.py" 705)]),#[]⟩) ::
 (nat_lit 393,fL "_law_drawn" lM 392) ::
 (nat_lit 397,⟨(.type "code"),none,(.fields #[(.str "_law_rim_sides" 707),(.str "_law_rim_sides" 708),(.str "/claim/cut.py" 709),(.int 195 0),(.int 1 0),(.int 0 0),(.int 0 0),(.int 3 0),(.ref 394),(.bool Bool.true),(.int 181 0),(.ref 395),.none,.none,.none,(.ref 396),(.int 710 0),(.int 195 0),(.str "/claim/cut.py" 711)]),#[]⟩) ::
 (nat_lit 398,fL "_law_rim_sides" kj 397) ::
 (nat_lit 402,⟨(.type "code"),none,(.fields #[(.str "_law_grown" 713),(.str "_law_grown" 714),(.str "/claim/cut.py" 715),(.int 198 0),(.int 2 0),(.int 0 0),(.int 0 0),(.int 3 0),(.ref 399),(.bool Bool.true),(.int 181 0),(.ref 400),.none,.none,.none,(.ref 401),(.int 716 0),(.int 198 0),(.str "/claim/cut.py" 717)]),#[]⟩) ::
 (nat_lit 403,fL "_law_grown" kZ 402) ::
 (nat_lit 407,⟨(.type "code"),none,(.fields #[(.str "_law_ring" 719),(.str "_law_ring" 720),(.str "/claim/cut.py" 721),(.int 213 0),(.int 1 0),(.int 0 0),(.int 0 0),(.int 3 0),(.ref 404),(.bool Bool.true),(.int 181 0),(.ref 405),.none,.none,.none,(.ref 406),(.int 722 0),(.int 213 0),(.str "/claim/cut.py" 723)]),#[]⟩) ::
 (nat_lit 408,fL "_law_ring" lJ 407) ::
 (nat_lit 412,⟨(.type "code"),none,(.fields #[(.str "_law_beside" 725),(.str "_law_beside" 726),(.str "/claim/cut.py" 727),(.int 225 0),(.int 2 0),(.int 0 0),(.int 0 0),(.int 3 0),(.ref 409),(.bool Bool.true),(.int 181 0),(.ref 410),.none,.none,.none,(.ref 411),(.int 728 0),(.int 225 0),(.str "/claim/cut.py" 729)]),#[]⟩) ::
 (nat_lit 413,fL "_law_beside" kJ 412) ::
 (nat_lit 419,cO "_law_skin" 731 228 2 414 737) ::
 (nat_lit 420,fL "_law_skin" lI 419) ::
 (nat_lit 424,⟨(.type "code"),none,(.fields #[(.str "_law_named" 740),(.str "_law_named" 741),(.str "/claim/cut.py" 742),(.int 237 0),(.int 2 0),(.int 0 0),(.int 0 0),(.int 3 0),(.ref 421),(.bool Bool.true),(.int 181 0),(.ref 422),.none,.none,.none,(.ref 423),(.int 743 0),(.int 237 0),(.str "/claim/cut.py" 744)]),#[]⟩) ::
 (nat_lit 425,fL "_law_named" lG 424) ::
 (nat_lit 431,cO "_law_handed" 746 247 2 426 756) ::
 (nat_lit 432,fL "_law_handed" k_ 431) ::
 (nat_lit 445,cO "_law_is_triple" 769 259 1 440 774) ::
 (nat_lit 446,fL "_law_is_triple" kl 445) ::
 (nat_lit 452,cO "_law_fault" 777 266 1 447 787) ::
 (nat_lit 453,fL "_law_fault" jJ 452) ::
 (nat_lit 457,⟨(.type "code"),none,(.fields #[(.str "_law_spoilt" 790),(.str "_law_spoilt" 791),(.str "/claim/cut.py" 792),(.int 282 0),(.int 2 0),(.int 0 0),(.int 0 0),(.int 3 0),(.ref 454),(.bool Bool.true),(.int 181 0),(.ref 455),.none,.none,.none,(.ref 456),(.int 793 0),(.int 282 0),(.str "/claim/cut.py" 794)]),#[]⟩) ::
 (nat_lit 458,fL "_law_spoilt" kH 457) ::
 (nat_lit 464,cO "_law_answer" 796 298 1 459 803) ::
 (nat_lit 465,fL "_law_answer" kK 464) ::
 (nat_lit 469,⟨(.type "code"),none,(.fields #[(.str "_law_made" 806),(.str "_law_made" 807),(.str "/claim/cut.py" 808),(.int 312 0),(.int 2 0),(.int 0 0),(.int 0 0),(.int 3 0),(.ref 466),(.bool Bool.true),(.int 181 0),(.ref 467),.none,.none,.none,(.ref 468),(.int 809 0),(.int 312 0),(.str "/claim/cut.py" 810)]),#[]⟩) ::
 (nat_lit 470,fL "_law_made" jI 469) ::
 (nat_lit 474,⟨(.type "code"),none,(.fields #[(.str "law" 812),(.str "law" 813),(.str "/claim/cut.py" 814),(.int 328 0),(.int 1 0),(.int 0 0),(.int 0 0),(.int 3 0),(.ref 471),(.bool Bool.true),(.int 181 0),(.ref 472),.none,.none,.none,(.ref 473),(.int 815 0),(.int 328 0),(.str "/claim/cut.py" 816)]),#[]⟩) ::
 (nat_lit 475,fL "law" gr 474)::[]
end K15
end
section
namespace L2
open PySem PySem.W PySem.Calls PyProof.Rows
def kX (tb:String->Option Builtin) (p:Program) (w:World) (n₀:Nat) (ann:Option Value):Nat->SharedT->Thread->Option SharedT
 |0,_,_=>none
 |n+1,s,t=>match through t with
  |true=>some s
  |false=>match stepOk n₀ ann t with
   |false=>none
   |true=>match stepT (denote tb) p w s t with
    |some (s',t')=>kX tb p w n₀ ann n s' t'
    |none=>none
theorem tH {tb:String->Option Builtin} {p:Program} {n₀:Nat} {ann:Option Value}:∀{n:Nat} {s s':SharedT} {t:Thread},kX tb p w n₀ ann n s t=some s'->topRun tb p w n₀ ann n s.abs t=some s'.abs
 |0,_,_,_,h=>by cases h
 |n+1,s,s',t,h=>by
  unfold kX at h;unfold topRun;cases ht:through t with
  |true=>rw[ht] at h;cases h;rfl
  |false=>
   rw[ht] at h;cases hk:stepOk n₀ ann t with
   |false=>rw[hk] at h;cases h
   |true=>
    rw[hk] at h;cases hs:stepT (denote tb) p w s t with
    |none=>rw[hs] at h;cases h
    |some r=>obtain⟨s₂,t₂⟩:=r;rw[hs] at h;rw[stepT_spec hs];exact tH h
def wu:List Obj->Nat->BT->BT
 | [],_,t=>t
 |o::os,n,t=>wu os (n+1) (t.ins n o)
noncomputable def st0 (w:World) (os:OsState):SharedT:=⟨wu (boot_heap w.params).objs.toList 0 .nil,(boot_heap w.params).objs.size,(boot_heap w.params).life,Array.mk [],boot_drawn,boot_toks,os⟩
theorem CU (w:World) (os:OsState):(st0 w os).abs=⟨boot_heap w.params,Array.mk [],boot_drawn,boot_toks,os⟩:=by kernel_rfl
theorem DV (w:World):((boot_heap w.params).isNs mainGlobals&&(Array.mk []:Array GenState).size==0)=true:=by kernel_rfl
theorem FG (w:World):(boot_heap w.params).objs.size=11:=by kernel_rfl
theorem CC (w:World):(boot_heap w.params).nsMap mainGlobals "__annotations__" = some (.ref 6):=by kernel_rfl
noncomputable def qk (p:Program) (w:World) (s:Shared):Bool:=staticsOk (importedModules p.main.body) (boot_heap w.params) s.heap&&namesBound p s.heap&&gensDone s&&laidKept (boot_heap w.params) s.heap
theorem DI {p q:Program} {loose:List Str} {Xt:Shared->Bool} {α:Type} {Yf:Shared->α} {Ya:World->α} {N:Nat} {g0:Bool} {run:World->OsState->Option SharedT} (hr:∀w os,run w os=kX treeTable p w 11 (some (.ref 6)) N (st0 w os) (topStub p)) (hN:Nat.ble 600 N=true)
  (e:opening p=plainProg p.main.scope.names) (f:∀s,fenceModules? p s=some s)
  (a:∀(w:World) (os:OsState),(run w os).map (λs=>(openSeen q loose (importedModules p.main.body) Xt g0 s.abs).1)=some (openGood q loose).1)
  (a2:∀(w:World) (os:OsState),(run w os).map (λs=>((openSeen q loose (importedModules p.main.body) Xt g0 s.abs).2.1,(openSeen q loose (importedModules p.main.body) Xt g0 s.abs).2.2.1))=some ((openGood q loose).2.1,(openGood q loose).2.2.1))
  (a3:∀(w:World) (os:OsState),(run w os).map (λs=>(openSeen q loose (importedModules p.main.body) Xt g0 s.abs).2.2.2)=some (openGood q loose).2.2.2)
  (b:∀(w:World) (os:OsState),(run w os).map (λs=>(qk p w s.abs,Yf s.abs))=some (true,Ya w)):LeftO p q loose Xt Yf Ya N g0:=λw=>by
 obtain⟨⟨h,gs,d,k,os⟩,e1,e'⟩:=cT.mp (boot_open e hN f w);obtain⟨rfl,rfl,rfl,rfl⟩:h=boot_heap w.params/\gs=Array.mk []/\d=boot_drawn/\k=boot_toks:=by simpa using e'
 obtain⟨s1,r1,o1⟩:=cT.mp (a w os);have a2:=a2 w os;have a3:=a3 w os;have b:=b w os;rw[r1,m_] at a2 a3 b;have a2:=jf (dh a2);have a3:=dh a3;obtain⟨l1,o2⟩:=jf (dh b);have l2:openSeen q loose (importedModules p.main.body) Xt g0 s1.abs=openGood q loose:=pD o1 (pD a2.1 (pD a2.2 a3));rw[hr] at r1;have r:=tH r1;rw[CU] at r;have t:topFrom treeTable p w N ⟨boot_heap w.params,Array.mk [],boot_drawn,boot_toks,os⟩=some s1.abs:=by unfold topFrom;dsimp only;rw[DV,FG,CC,r];unfold qk at l1;show (match staticsOk (importedModules p.main.body) (boot_heap w.params) s1.abs.heap&&namesBound p s1.abs.heap&&gensDone s1.abs&&laidKept (boot_heap w.params) s1.abs.heap with|true=>_|false=>_)=_;rw[l1]
 unfold openEnds;rw[e1];show (topFrom treeTable p w N _).map _=_;rw[t];exact congrArg some (pD l2 o2)
end L2
end
section
namespace K15
open PySem L2 PySem.W K51
def ads:List Addr:=[1,2,3,30,31,32,43,44,55,56,67,68,79,80,91,92,103,104,115,116,127,128,139,140,151,152,163,164,179,180,182,183,198,199,201,202,217,218,220,221,229,230,236,237,241,242,248,249,255,256,262,263,269,270,276,277,283,284,290,291,302,303,326,327,328,329,337,338,344,345,351,352,358,359,365,366,370,371,377,378,382,383,387,388,392,393,397,398,402,403,407,408,412,413,419,420,424,425,431,432,445,446,452,453,457,458,464,465,469,470,474,475]
noncomputable def view:Program:={PySem.Challenge.pw_shapestring_k12_faults with main:={(PySem.Challenge.pw_shapestring_k12_faults).main with body:=[aF 0,aF 2,aF 3,aF 4,aF 5,aF 6,aF 7,aF 8,aF 9,aF 10,aF 11,aF 12,aF 13,aF 14,aF 15,aF 16,aF 18,aF 19,aF 21,aF 23,aF 24,aF 25,aF 26,aF 27,aF 28,aF 29,aF 30,aF 31,aF 33,aF 34,aF 35,aF 36,aF 37,aF 38,aF 39,aF 40,aF 41,aF 42,aF 43,aF 44,aF 45,aF 46,aF 47,aF 48,aF 49,aF 50,aF 51,aF 52,aF 53,aF 54,aF 55,aF 56]}}
noncomputable abbrev run (w:World) (os:OsState):Option SharedT:=kX treeTable PySem.Challenge.pw_shapestring_k12_faults w 11 (some (.ref 6)) 9476 (st0 w os) (topStub PySem.Challenge.pw_shapestring_k12_faults)
noncomputable abbrev seenAt (s:SharedT):=openSeen view [] (importedModules (PySem.Challenge.pw_shapestring_k12_faults).main.body) (λs=>xlAt view [] s&&recOk [] s) true s.abs
theorem leftA (w:World) (os:OsState):(run w os).map (λs=>(seenAt s).1)=some (openGood view []).1:=by kernel_rfl
theorem leftA2 (w:World) (os:OsState):(run w os).map (λs=>((seenAt s).2.1,(seenAt s).2.2.1))=some ((openGood view []).2.1,(openGood view []).2.2.1):=by kernel_rfl
theorem leftA3 (w:World) (os:OsState):(run w os).map (λs=>(seenAt s).2.2.2)=some (openGood view []).2.2.2:=by kernel_rfl
theorem leftB (w:World) (os:OsState):(run w os).map (λs=>(qk PySem.Challenge.pw_shapestring_k12_faults w s.abs,Hook.obs (kHook K15.kf K15.ads (λ_=>by kernel_rfl)) s.abs))=some (true,Hook.val (kHook K15.kf K15.ads (λ_=>by kernel_rfl)) w):=by kernel_rfl
theorem left:LeftO PySem.Challenge.pw_shapestring_k12_faults view [] (λs=>xlAt view [] s&&recOk [] s) (Hook.obs (kHook K15.kf K15.ads (λ_=>by kernel_rfl))) (Hook.val (kHook K15.kf K15.ads (λ_=>by kernel_rfl))) 9476:=
 DI (run:=run) (λ_ _=>rfl) (by decide) (by kernel_rfl) (λs=>by kernel_rfl) leftA leftA2 leftA3 leftB
end K15
end
section
namespace L2
open PySem PySem.Spec PyProof.Rows
abbrev Key:=Sum Int Str
def jQ:Key->Value->Bool
 |.inl k,v=>Value.isInt k v
 |.inr x,v=>Value.isStrOf x v
def keyH (w:World):Key->Int
 |.inl k=>hashInt k
 |.inr x=>hashStr w x
theorem eZ:∀{k:Key} {v:Value},jQ k v=true->(∃i t,k=Sum.inl i/\v=Value.int i t)\/(∃x t,k=Sum.inr x/\v=Value.str x t)
 |.inl i,v,h=>by
  obtain⟨t,e⟩:=Value.isInt_shape (k:=i) (v:=v) h;exact .inl ⟨i,t,rfl,e⟩
 |.inr x,v,h=>by
  obtain⟨t,e⟩:=Value.isStrOf_shape (x:=x) (v:=v) h;exact .inr ⟨x,t,rfl,e⟩
theorem AW (i:Int) (t:Tok):jQ (.inl i) (.int i t)=true:=by simp[jQ,Value.isInt]
theorem AV (x:Str) (t:Tok):jQ (.inr x) (.str x t)=true:=by simp[jQ,Value.isStrOf]
theorem Fg (a b:Int):decide ((Sum.inl a:Key)=Sum.inl b)=(a==b):=by
 by_cases e:a=b
 .subst e;simp
 .have h:¬(Sum.inl a:Key)=Sum.inl b:=λq=>e (nq q);rw[KL h];exact (beq_eq_false_iff_ne.mpr e).symm
theorem Fc (a b:Str):decide ((Sum.inr a:Key)=Sum.inr b)=decide (a=b):=by
 by_cases e:a=b
 .subst e;simp
 .have h:¬(Sum.inr a:Key)=Sum.inr b:=λq=>e (Sum.inr.inj q);rw[KL h,KL e]
theorem Ff (a:Int) (b:Str):decide ((Sum.inl a:Key)=Sum.inr b)=false:=KL (λq=>nomatch q)
theorem Fe (a:Str) (b:Int):decide ((Sum.inr a:Key)=Sum.inl b)=false:=KL (λq=>nomatch q)
def cV (prog:Program) (w:World):PySem.KeyKind prog w Key where
 is:=jQ
 hash:=keyH w
 inj:=λv a b ha hb=>by
  rcases eZ ha with ⟨i,t,rfl,rfl⟩|⟨x,t,rfl,rfl⟩
  .rcases eZ hb with ⟨j,u,rfl,e⟩|⟨y,u,rfl,e⟩
   .injection e with e1 _;rw[e1]
   .exact nomatch e
  .rcases eZ hb with ⟨j,u,rfl,e⟩|⟨y,u,rfl,e⟩
   .exact nomatch e
   .injection e with e1 _;rw[e1]
 byValue:=λk v h=>by
  rcases eZ h with ⟨i,t,rfl,rfl⟩|⟨x,t,rfl,rfl⟩<;>rfl
 pyHash:=λhv h=>by
  rcases eZ hv with ⟨i,t,rfl,rfl⟩|⟨x,t,rfl,rfl⟩
  .exact wpAny_pyHash_int h
  .exact wpAny_pyHash_str h
 eqBool:=λhu hv h=>by
  rcases eZ hu with ⟨i,t,rfl,rfl⟩|⟨x,t,rfl,rfl⟩
  .rcases eZ hv with ⟨j,u,rfl,rfl⟩|⟨y,u,rfl,rfl⟩
   .rw[Fg] at h;exact Jt h
   .rw[Ff] at h;exact I0 i t y u _ _ _ _ h
  .rcases eZ hv with ⟨j,u,rfl,rfl⟩|⟨y,u,rfl,rfl⟩
   .rw[Fe] at h;exact I_ x t j u _ _ _ _ h
   .rw[Fc] at h;exact wpAny_eqBool_str h
 «strs»:=λk x t v h=>by
  rcases eZ h with ⟨i,u,rfl,e⟩|⟨y,u,rfl,e⟩
  .exact nomatch e
  .injection e with e1 _;subst e1;cases v<;>rfl
theorem zE (prog:Program) (w:World) (i:Int) (t:Tok):(cV prog w).is (.inl i) (.int i t)=true:=AW i t
theorem zD (prog:Program) (w:World) (x:Str) (t:Tok):(cV prog w).is (.inr x) (.str x t)=true:=AV x t
end L2
namespace L2
open PySem PySem.Spec PyProof.Rows
inductive V where
 |non|bl (b:Bool)|int (i:Int)|str (x:Str)|byt (b:Array UInt8)|flt (b:UInt64)|ref (a:Addr)|ty (n:String)
 deriving DecidableEq
def ax:V->Value->Prop
 |.non,u=>u=Value.none
 |.bl b,u=>u=Value.bool b
 |.int i,u=>∃t,u=Value.int i t
 |.str x,u=>∃t,u=Value.str x t
 |.byt b,u=>∃t,u=Value.bytes b t
 |.flt b,u=>∃t,u=Value.float b t
 |.ref a,u=>u=Value.ref a
 |.ty n,u=>u=Value.type n
abbrev Vals:List V->List Value->Prop:=Paired ax
theorem Vals.length {xs:List V} (r:Vals xs us):xs.length=us.length:=ng r
theorem Vals.get:∀{xs:List V} {us:List Value} {i:Nat} {x:V},Vals xs us->xs[i]?=some x->∃u,us[i]?=some u/\ax x u
 |_,_,_,_,.nil,e=>by simp at e
 |_,_,0,_,.cons r _,e=>by simp at e;subst e;exact⟨_,rfl,r⟩
 |_,_,i+1,x,.cons _ t,e=>by
  obtain⟨u,h1,h2⟩:=Vals.get (i:=i) (x:=x) t (by simpa using e);exact⟨u,by simpa using h1,h2⟩
theorem Vals.set {x:V} {u:Value} (r:ax x u):∀{xs:List V} {us:List Value} (i:Nat),Vals xs us->Vals (xs.set i x) (us.set i u)
 |_,_,_,.nil=>.nil
 |_,_,0,.cons _ t=>.cons r t
 |_,_,i+1,.cons q t=>.cons q (Vals.set r i t)
theorem Vals.append {xs ys:List V} {us ws:List Value} (h:Vals xs us) (s:Vals ys ws):Vals (xs++ys) (us++ws):=by
 induction h with
 |nil=>exact s
 |cons r t ih=>exact .cons r ih
theorem Vals.take:∀{xs:List V} {us:List Value} (n:Nat),Vals xs us->Vals (xs.take n) (us.take n)
 |_,_,0,_=>.nil
 |_,_,_+1,.nil=>.nil
 |_,_,n+1,.cons r t=>.cons r (Vals.take n t)
theorem Vals.drop:∀{xs:List V} {us:List Value} (n:Nat),Vals xs us->Vals (xs.drop n) (us.drop n)
 |_,_,0,r=>r
 |_,_,_+1,.nil=>.nil
 |_,_,n+1,.cons _ t=>Vals.drop n t
def dB:Option V->Option Value->Prop
 |some v,some u=>ax v u
 |none,none=>True
 |_,_=>False
def KV {κ:Type}:List (κ×V)->List (κ×Value)->Prop:=Paired λ(p:κ×V) (q:κ×Value)=>p.1=q.1/\ax p.2 q.2
def kV:Key->V
 |.inl i=>.int i
 |.inr x=>.str x
inductive HO where
 |lst (xs:List V)
 |tup (xs:List V)
 |dK (kvs:List (Key×V))|dT (kvs:List (List Key×V))
 |set (S:Int->Bool) (n:Nat)
 |ins (C dx:Addr) (fs:List (Str×V))
 |own (x:Addr)
 |xd (fs:List (Str×V))
 |met (f x:Addr)
 |rng (lo hi:Int)
 |frz (o:Obj) (u:HO)
 |tbl (ps:Array Value)
 |ext (φ:Heap->Prop)
abbrev Hp:=Addr->Option HO
def upd (H:Hp) (a:Addr) (o:HO):Hp:=λb=>if b=a then some o else H b
theorem aO {H:Hp} {a:Addr} {o:HO}:upd H a o a=some o:=by unfold upd;rw[KI rfl]
theorem aj {H:Hp} {a b:Addr} {o:HO} (h:b≠a):upd H a o b=H b:=by unfold upd;rw[KH h]
theorem vy {H:Hp} {a:Addr} {o u:HO}:upd (upd H a o) a u=upd H a u:=by funext b;unfold upd;split<;>rfl
theorem cK {H:Hp} {a b:Addr} {o u:HO} (h:H a=some o) (h':H b=some u) (d:o≠u):a≠b:=by intro e;subst e;rw[h] at h';exact d (dh h')
theorem ak {H:Hp} {a b:Addr} {o:HO} (h:H a=some o) (h':H b=none):a≠b:=by intro e;subst e;rw[h] at h';cases h'
section
variable (P:Program) (w:World)
def aQ (H:Hp) (h:Heap) (a:Addr):HO->Prop
 |.lst xs=>xs.length<=sizeLine/\∃(its:List Value) (n:Nat),Vals xs its/\h.get? a=some {cls:=.type "list",data:=.seq its.toArray n}
 |.tup xs=>(xs.length<=sizeLine/\∃o,h.get? a=some o/\o.dict=none)/\∃its:List Value,Vals xs its/\IsTup h a its.toArray
 |.dK kvs=>kvs.length<=sizeLine/\(a==sysModules)=false/\∃vs,KV kvs vs/\h.DictOf (cV P w) a vs
 |.dT kvs=>kvs.length<=sizeLine/\(a==sysModules)=false/\∃xs:List (List Key×Addr×Value),
   Paired (λ(p:List Key×V) (q:List Key×Addr×Value)=>p.1=q.1/\H q.2.1=some (.tup (p.1.map kV))/\ax p.2 q.2.2) kvs xs/\
   ∃o es ep,h.get? a=some o/\o.ExactDict/\o.data=.dict es ep/\es.toList=xs.map (entryOfKey (tupleKind (cV P w)))/\(xs.map (·.1)).Nodup
 |.set S n=>h.SetOf (intKind P w) a S n
 |.ins C dx fs=>H dx=some (.own a)/\fs.length<=1000/\dx≠a/\h.get? a=some (W.instObj C dx)/\
   ∃mA,h.Ns1 dx mA/\(∀f,dB (fs.lookup f) (mA f))/\PySem.Within mA (fs.map (·.1))
 |.own _=>∃o,h.get? a=some o
 |.xd fs=>∃mA,h.Ns1 a mA/\∀f,dB (fs.lookup f) (mA f)
 |.rng lo hi=>∃t u v,h.get? a=some {cls:=.type "range",data:=.fields #[.int lo t,.int hi u,.int 1 v]}
 |.frz o u=>h.get? a=some o/\aQ H h a u
 |.tbl ps=>h.get? a=some {cls:=.none,data:=.fields ps}
 |.met f x=>h.get? a=some (W.methodObj (.ref f) (.ref x))
 |.ext φ=>φ h/\(∃o,h.get? a=some o)/\∀h1 h2:Heap,φ h1->(∀o,h1.get? a=some o->h2.get? a=some o)->φ h2
def HOk (H:Hp) (h:Heap):Prop:=∀a o,H a=some o->aQ P w H h a o
end
section
variable {H H':Hp} {h h':Heap} {a:Addr} {o:HO}
theorem aQ.lt (x:aQ P w H h a o):a<h.objs.size:=by
 cases o with
 |lst xs=>obtain⟨_,_,_,_,e⟩:=x;exact aK e
 |tup xs=>obtain⟨_,_,_,p⟩:=x;exact p.lt
 |dK kvs=>obtain⟨_,_,_,_,o,_,_,e,_⟩:=x;exact aK e
 |dT kvs=>obtain⟨_,_,_,_,o,_,_,e,_⟩:=x;exact aK e
 |set S n=>obtain⟨o,_,_,_,e,_⟩:=x;exact aK e
 |ins C dx fs=>obtain⟨_,_,_,e,_⟩:=x;exact aK e
 |own y=>obtain⟨_,e⟩:=x;exact aK e
 |xd fs=>obtain⟨_,⟨_,_,_,e,_⟩,_⟩:=x;exact aK e
 |rng lo hi=>obtain⟨_,_,_,e⟩:=x;exact aK e
 |frz ob u=>obtain⟨e,_⟩:=x;exact aK e
 |tbl ps=>exact aK (show h.get? a=some _ from x)
 |met f y=>exact aK (show h.get? a=some _ from x)
 |ext φ=>obtain⟨_,⟨_,e⟩,_⟩:=x;exact aK e
theorem Paired.mapP {α β:Type} {F G:α->β->Prop}:∀{l₁:List α} {l₂:List β},Paired F l₁ l₂->(∀a b,F a b->G a b)->Paired G l₁ l₂
 |_,_,.nil,_=>.nil
 |_,_,.cons r t,f=>.cons (f _ _ r) (Paired.mapP t f)
theorem Paired.imp' {α β:Type} {F G:α->β->Prop} (f:∀a b,F a b->G a b) {l₁:List α} {l₂:List β} (r:Paired F l₁ l₂):Paired G l₁ l₂:=Paired.mapP r f
theorem aQ.stay (x:aQ P w H h a o) (k:∀b u,(b=a\/H b=some (.own a))->h.get? b=some u->h'.get? b=some u)
  (ho:∀b,H b=some (.own a)->H' b=some (.own a)) (ht:∀b xs,H b=some (.tup xs)->H' b=some (.tup xs)):aQ P w H' h' a o:=by
 induction o with
 |lst xs=>obtain⟨z,its,n,r,e⟩:=x;exact⟨z,its,n,r,k _ _ (.inl rfl) e⟩
 |tup xs=>obtain⟨⟨z,o',e',d'⟩,its,r,ob,e,c⟩:=x;exact⟨⟨z,o',k _ _ (.inl rfl) e',d'⟩,its,r,ob,k _ _ (.inl rfl) e,c⟩
 |dK kvs=>obtain⟨z,y,vs,r,ob,es,ep,e,c⟩:=x;exact⟨z,y,vs,r,ob,es,ep,k _ _ (.inl rfl) e,c⟩
 |dT kvs=>
  obtain⟨z,y,xs,r,ob,es,ep,e,c⟩:=x;exact⟨z,y,xs,Paired.mapP r λp q z=>⟨z.1,ht _ _ z.2.1,z.2.2⟩,ob,es,ep,k _ _ (.inl rfl) e,c⟩
 |set S n=>obtain⟨ob,es,ep,t,e,c⟩:=x;exact⟨ob,es,ep,t,k _ _ (.inl rfl) e,c⟩
 |ins C dx fs=>
  obtain⟨d,z,ne,e,mA,⟨od,es,ep,e2,c⟩,r⟩:=x;exact⟨ho _ d,z,ne,k _ _ (.inl rfl) e,mA,⟨od,es,ep,k _ _ (.inr d) e2,c⟩,r⟩
 |own y=>obtain⟨ob,e⟩:=x;exact⟨ob,k _ _ (.inl rfl) e⟩
 |xd fs=>obtain⟨mA,⟨od,es,ep,e,c⟩,r⟩:=x;exact⟨mA,⟨od,es,ep,k _ _ (.inl rfl) e,c⟩,r⟩
 |rng lo hi=>obtain⟨t,u,v,e⟩:=x;exact⟨t,u,v,k _ _ (.inl rfl) e⟩
 |frz ob u ih=>obtain⟨e,q⟩:=x;exact⟨k _ _ (.inl rfl) e,ih q⟩
 |tbl ps=>
  have e:h.get? a=some {cls:=.none,data:=.fields ps}:=x;show h'.get? a=some {cls:=.none,data:=.fields ps};exact k a _ (.inl rfl) e
 |met f y=>
  have e:h.get? a=some (W.methodObj (.ref f) (.ref y)):=x;show h'.get? a=some (W.methodObj (.ref f) (.ref y));exact k a _ (.inl rfl) e
 |ext φ=>obtain⟨p,⟨o,e⟩,st⟩:=x;exact⟨st _ _ p λo q=>k _ _ (.inl rfl) q,⟨o,k _ _ (.inl rfl) e⟩,st⟩
theorem HOk.lt (x:HOk P w H h) (e:H a=some o):a<h.objs.size:=(x a o e).lt
theorem HOk.fresh (x:HOk P w H h) (e:h.objs.size<=a):H a=none:=by
 cases q:H a with
 |none=>rfl
 |some u=>exact absurd (b_ (x.lt q) e) (ef _)
theorem HOk.kept (x:HOk P w H h) (k:∀b u,h.get? b=some u->h'.get? b=some u):HOk P w H h':=λa o e=>
 (x a o e).stay (λb u _ q=>k b u q) (λ_ q=>q) λ_ _ q=>q
theorem HOk.laid (x:HOk P w H h) (k:∀b u,h.get? b=some u->h'.get? b=some u) (hp:h.objs.size<=a) (new:aQ P w (upd H a o) h' a o):HOk P w (upd H a o) h':=λb u e=>by
 have hn:=x.fresh hp;by_cases hb:b=a
 .subst hb;rw[aO] at e;cases e;exact new
 .rw[aj hb] at e;exact (x b u e).stay (λc v _ q=>k c v q) (λc q=>by rw[aj (ak q hn)];exact q) λc xs q=>by rw[aj (ak q hn)];exact q
end
def Rd (H:Hp) (a:Addr) (u:HO):Prop:=H a=some u\/∃o,H a=some (.frz o u)
theorem Rd.ok {H:Hp} {h:Heap} {a:Addr} {u:HO} (r:Rd H a u) (x:HOk P w H h):aQ P w H h a u:=by
 rcases r with r|⟨o,r⟩
 .exact x a u r
 .obtain⟨_,q⟩:=x a _ r;exact q
def Mut:Option HO->Prop
 |some (.lst _)=>True
 |some (.dK _)=>True
 |some (.dT _)=>True
 |some (.set _ _)=>True
 |some (.ins _ _ _)=>True
 |some (.ext _)=>True
 |_=>False
section
variable {H:Hp} {h h':Heap} {x e:Addr} {o':HO}
theorem HOk.write (ok:HOk P w H h) (mu:Mut (H x)) (he:e=x\/H e=some (.own x)) (k:∀b u,b≠e->h.get? b=some u->h'.get? b=some u) (heo:∃u,h'.get? e=some u)
  (new:aQ P w (upd H x o') h' x o'):HOk P w (upd H x o') h':=λb u q=>by
 have nown:∀c y,H c=some (.own y)->c≠x:=λc y r z=>by subst z;rw[r] at mu;exact mu
 have ntup:∀c xs,H c=some (.tup xs)->c≠x:=λc xs r z=>by subst z;rw[r] at mu;exact mu
 by_cases hb:b=x
 .subst hb;rw[aO] at q;cases q;exact new
 .rw[aj hb] at q;by_cases hbe:b=e
  .have q':H b=some (.own x):=by
    rcases he with z|z
    .exact absurd (hbe.trans z) hb
    .rw[hbe];exact z
   rw[q] at q';cases q';obtain⟨v,hv⟩:=heo;exact⟨v,by rw[hbe];exact hv⟩
  .refine (ok b u q).stay (λc v hc r=>k c v ?_ r) (λc r=>by rw[aj (nown c b r)];exact r) λc xs r=>by rw[aj (ntup c xs r)];exact r
   rcases hc with rfl|hc
   .exact hbe
   .rintro rfl;rcases he with z|z
    .exact nown c b hc z
    .rw[hc] at z;cases z;exact hb rfl
end
structure Un (fs ex:List Addr) (H H':Hp) (h h':Heap):Prop where
 keep:∀b o,h.get? b=some o->H b=none->b∉fs->b∉ex->h'.get? b=some o
 slot:∀b o,h.get? b=some o->H b=none->b∈fs->b∉ex->∃sl,h'.get? b=some {o with slots:=sl}
 free:∀b o,h.get? b=some o->H b=none->b∉ex->H' b=none
 there:∀b o,h.get? b=some o->b∉ex->∃o',h'.get? b=some o'
 tups:∀b xs,H b=some (.tup xs)->H' b=some (.tup xs)
 frzs:∀b o u,H b=some (.frz o u)->H' b=some (.frz o u)
 tbls:∀b ps,H b=some (.tbl ps)->∃more,H' b=some (.tbl (ps++more))
section
variable {fs fs' ex ex':List Addr} {H H1 H2:Hp} {h h1 h2 h':Heap} {a x e:Addr} {o:HO}
theorem Un.any (u:Un fs ex H H1 h h1) {b:Addr} {ob:Obj} (q:h.get? b=some ob) (n:H b=none) (hx:b∉ex):∃sl,h1.get? b=some {ob with slots:=sl}:=by
 by_cases hb:b∈fs
 .exact u.slot b ob q n hb hx
 .exact⟨ob.slots,u.keep b ob q n hb hx⟩
theorem Un.kept (k:∀b u,h.get? b=some u->h'.get? b=some u):Un fs ex H H h h':=
 ⟨λb ob q _ _ _=>k b ob q,λb ob q _ _ _=>⟨ob.slots,k b ob q⟩,λ_ _ _ n _=>n,λb ob q _=>⟨ob,k b ob q⟩,λ_ _ q=>q,λ_ _ _ q=>q,λ_ ps q=>⟨#[],by rw[q];simp⟩⟩
theorem Un.refl:Un fs ex H H h h:=Un.kept λ_ _ q=>q
theorem Un.laid (k:∀b u,h.get? b=some u->h'.get? b=some u) (hp:h.objs.size<=a) (hn:H a=none):Un fs ex H (upd H a o) h h' where
 keep:=λb u q _ _ _=>k b u q
 slot:=λb u q _ _ _=>⟨u.slots,k b u q⟩
 free:=λb u q n _=>by rw[aj (bJ (b_ (aK q) hp))];exact n
 there:=λb u q _=>⟨u,k b u q⟩
 tups:=λb xs q=>by rw[aj (ak q hn)];exact q
 frzs:=λb u xs q=>by rw[aj (ak q hn)];exact q
 tbls:=λb ps q=>⟨#[],by rw[aj (ak q hn),q];simp⟩
theorem Un.write (mu:Mut (H x)) (he:e=x\/H e=some (.own x)) (k:∀b u,b≠e->h.get? b=some u->h'.get? b=some u) (heo:∃u,h'.get? e=some u):Un fs ex H (upd H x o) h h':=by
 have hx:∀b,H b=none->b≠x:=λb n z=>by subst z;rw[n] at mu;exact mu
 have hb:∀b,H b=none->b≠e:=λb n z=>by
  subst z;rcases he with r|r
  .exact hx b n r
  .rw[n] at r;cases r
 have hm:∀b u,H b=some u->¬Mut (some u)->b≠x:=λb u q nm z=>by subst z;rw[q] at mu;exact nm mu
 refine⟨λb u q n _ _=>k b u (hb b n) q,λb u q n _ _=>⟨u.slots,k b u (hb b n) q⟩,λb u q n _=>by rw[aj (hx b n)];exact n,λb u q _=>?_,
  λb xs q=>by rw[aj (hm b _ q λz=>z)];exact q,λb u xs q=>by rw[aj (hm b _ q λz=>z)];exact q,λb ps q=>⟨#[],by rw[aj (hm b _ q λz=>z),q];simp⟩⟩
 by_cases hbe:b=e
 .subst hbe;exact heo
 .exact⟨u,k b u hbe q⟩
end
def trk (h:Heap) (H:Hp):List Addr:=(List.range h.objs.size).filter λa=>(H a).isSome
def gw (h:Heap) (H:Hp):Heap:=W.hideAll h (trk h H)
theorem AZ (h:Heap) (H:Hp):(gw h H).objs.size=h.objs.size:=W.hideAll_size _ _
theorem Cb {h:Heap} {H:Hp} {b:Addr} {o:Obj} (e:h.get? b=some o) (n:H b=none):(gw h H).get? b=some o:=
 W.hideAll_get _ e λhm=>by
  have q:(H b).isSome=true:=(gG.mp hm).2;rw[n] at q;simp at q
theorem DD {h:Heap} {H:Hp} {b:Addr} {o:Obj} (e:(gw h H).get? b=some o):h.get? b=some o/\H b=none:=by
 have e':h.get? b=some o:=W.of_hideAll (trk h H) e;refine⟨e',?_⟩;cases q:H b with
 |none=>rfl
 |some x=>
  have hm:b∈trk h H:=gG.mpr ⟨jY.mpr (aK e'),by simp[q]⟩;have z:(gw h H).get? b=none:=W.hideAll_none (trk h H) hm;rw[z] at e;cases e
def oj (g h:Heap) (L:Addr):List (Addr×Obj):=(List.range h.objs.size).filterMap λa=>if a=L\/(g.get? a).isSome=true then none else (h.get? a).map λo=>(a,o)
theorem pN {g h:Heap} {L a:Addr} {o:Obj} (h1:a≠L) (h2:g.get? a=none) (h3:h.get? a=some o):(a,o)∈oj g h L:=
 pq.mpr ⟨a,jY.mpr (aK h3),by simp[h1,h2,h3]⟩
theorem y_ {g h:Heap} {L:Addr} {p:Addr×Obj} (hp:p∈oj g h L):p.1≠L/\g.get? p.1=none/\h.get? p.1=some p.2:=by
 obtain⟨b,_,e⟩:=pq.mp hp
 split at e
 .cases e
 .rename_i hn;cases q:h.get? b with
  |none=>rw[q] at e;simp at e
  |some u=>
   rw[q] at e;simp only[m_,JM] at e;subst e;refine⟨λz=>hn (.inl z),?_,q⟩;show g.get? b=none;cases r:g.get? b with
   |none=>rfl
   |some v=>exact (hn (.inr (by simp[r]))).elim
theorem qa {g h:Heap} {L:Addr}:News g L h (oj g h L):=λp hp=>let ⟨a,b,c⟩:=y_ hp;⟨c,a,b⟩
end L2
namespace L2
open PySem PySem.Spec PyProof.Rows
structure Mod (K:W.Frag) (mg:Str->Option Value) (base:Heap):Prop where
 kin:K.In base
 glob:base.Ns mainGlobals mg
 blt:∃mb,base.Ns builtinsNs mb/\∀x:Str,x≠"__name__"->mb x=bootBuiltins x
 nolimit:base.NoLimit
structure Cx where
 prog:Program
 w:World
 K:W.Frag
 mg:Str->Option Value
 base:Heap
 A:Around
 N:List Str
 s₀:Shared
 H₀:Hp
 env:Env
 outer:List Env
 stack:List Env
 ex:List Addr
 fn:Str->Bool
 calm:Bool
 pn:List (Addr×Obj)
 xe:Value->Shared->Prop
def frs (l:List Env):List Addr:=l.filterMap (·.frame)
abbrev Cx.fs (X:Cx):List Addr:=frs X.outer
def Vis (sc:Scope) (x:Str):Prop:=sc.names.lookup x=some .local\/sc.names.lookup x=some .cell\/sc.names.lookup x=some .free
def Loc (sc:Scope) (x:Str):Prop:=sc.names.lookup x=some .local\/sc.names.lookup x=some .cell
def Look (env:Env) (h:Heap) (m:Str->Option Value) (x:Str) (u:Value):Prop:=
 (env.kindOf x=some .local/\m x=some u)\/((env.kindOf x=some .cell\/env.kindOf x=some .free)/\∃c,env.cells.lookup x=some c/\h.IsCell c (some u))
structure Cx.Ok (X:Cx):Prop where
 mod:Mod X.K X.mg X.base
 kind:X.env.scope.kind=.function
 glob:X.env.globals=mainGlobals
 blt:X.env.builtins=builtinsNs
 above:X.s₀.heap.objs.size<=X.env.locals
 inj:∀x y c,X.env.cells.lookup x=some c->X.env.cells.lookup y=some c->x=y
 has:∀x,(X.env.kindOf x=some .cell\/X.env.kindOf x=some .free)->∃c,X.env.cells.lookup x=some c
 cab:∀x c,X.fn x=true->X.env.cells.lookup x=some c->X.s₀.heap.objs.size<=c
 hd:X.calm=true->X.A.handled=none
 frames:X.A.frames=some X.stack
 stk:X.stack=X.outer\/(X.stack=X.env::X.outer/\X.env.frame=some X.env.locals)
 exf:∀b∈X.ex,b≠X.env.locals/\∀x c,X.env.cells.lookup x=some c->c≠b
 bs:∀b o,X.base.get? b=some o->X.s₀.heap.get? b=some o/\X.H₀ b=none
 bsz:X.base.objs.size<=X.s₀.heap.objs.size
 noex:∀b o,X.base.get? b=some o->b∉X.ex
 exfs:∀b∈X.ex,b∉X.fs
 funs:X.s₀.heap.FunFrames X.base X.outer
 frf:∀b∈X.fs,X.H₀ b=none
structure Inv (X:Cx) (pins:List (Addr×Obj)) (Z:List (Option V)) (H:Hp) (s:Shared):Prop where
 ok:X.Ok
 os:s.os=X.s₀.os
 bare:AllBare s.gens
 base:Un X.fs X.ex X.H₀ H X.s₀.heap s.heap
 loc:∃m,s.heap.Ns X.env.locals m/\∀(i:Nat) (x:Str) (v:V),X.N[i]?=some x->Z[i]?=some (some v)->Vis X.env.scope x->∃u,ax v u/\Look X.env s.heap m x u
 cell:∀x c,X.env.cells.lookup x=some c->∃v,s.heap.IsCell c v
 free:H X.env.locals=none
 freeC:∀x c,X.env.cells.lookup x=some c->H c=none
 pin:∀p∈X.pn++pins,s.heap.get? p.1=some p.2/\H p.1=none/\p.1≠X.env.locals/\p.1∉X.fs/\∀v,p.2.data≠.cell v
 hok:HOk X.prog X.w H s.heap
 len:Z.length=X.N.length
section
variable {X:Cx} {Z:List (Option V)} {H H':Hp} {h':Heap}
theorem Cx.Ok.nofr (ok:X.Ok) {b:Addr} {o:Obj} (e:X.base.get? b=some o):b∉X.fs:=λhb=>by
 have:=(ok.funs.mem hb).1;rw[e] at this;cases this
theorem Inv.bs (I:Inv X pins Z H s):∀b o,X.base.get? b=some o->s.heap.get? b=some o/\H b=none:=λb o e=>
 ⟨I.base.keep b o (I.ok.bs b o e).1 (I.ok.bs b o e).2 (I.ok.nofr e) (I.ok.noex b o e),I.base.free b o (I.ok.bs b o e).1 (I.ok.bs b o e).2 (I.ok.noex b o e)⟩
theorem Inv.bk (I:Inv X pins Z H s):∀b o,X.base.get? b=some o->s.heap.get? b=some o:=λb o e=>(I.bs b o e).1
theorem Inv.mod (I:Inv X pins Z H s):Mod X.K X.mg X.base:=I.ok.mod
theorem Inv.kIn (I:Inv X pins Z H s):X.K.In s.heap:=I.ok.mod.kin.keeps I.bk
theorem Inv.fr (I:Inv X pins Z H s):∃m,Fr X.base X.env.locals s.heap m:=
 let ⟨m,hn,_⟩:=I.loc
 ⟨m,hn,I.bk,cF I.ok.bsz I.ok.above⟩
theorem Inv.lt (I:Inv X pins Z H s):X.env.locals<s.heap.objs.size:=let ⟨_,hn,_⟩:=I.loc;hn.lt
theorem Inv.sz (I:Inv X pins Z H s):X.s₀.heap.objs.size<=s.heap.objs.size:=cF I.ok.above (jc I.lt)
theorem Inv.nofs (I:Inv X pins Z H s) {a:Addr} (h:s.heap.objs.size<=a):a∉X.fs:=λhb=>by
 obtain⟨_,o,ho,_⟩:=I.ok.funs.mem hb;exact absurd (b_ (aK ho) (cF I.sz h)) (ef _)
theorem Inv.cne (I:Inv X pins Z H s):∀x c,X.env.cells.lookup x=some c->c≠X.env.locals:=λx c e z=>by
 obtain⟨v,o,ho,hd⟩:=I.cell x c e;obtain⟨m,⟨o',es,ep,ho',hd',_⟩,_⟩:=I.loc;rw[z,ho'] at ho;cases ho;rw[hd'] at hd;cases hd
theorem Inv.funs (I:Inv X pins Z H s):s.heap.FunFrames X.base X.outer:=by
 have all:∀(l:List Env),(∀b∈frs l,b∈X.fs)->X.s₀.heap.FunFrames X.base l->s.heap.FunFrames X.base l:=by
  intro l;induction l with
  |nil=>intro _ _;trivial
  |cons env r ih=>
   intro hs hl;obtain⟨hk,⟨L,o,hf,hn,ho,hd⟩,hr⟩:=hl;have hL:L∈X.fs:=hs L (by unfold frs;rw[xN,hf];exact gF);obtain⟨sl,e⟩:=I.base.slot L o ho (I.ok.frf L hL) hL λz=>I.ok.exfs L z hL;exact⟨hk,⟨L,_,hf,hn,e,hd⟩,ih (λb hb=>hs b (by unfold frs;rw[xN,hf];exact cN _ hb)) hr⟩
 exact all X.outer (λ_ hb=>hb) I.ok.funs
theorem Inv.stack (I:Inv X pins Z H s):s.heap.FunFrames X.base X.stack:=by
 rcases I.ok.stk with e|⟨e,hf⟩
 .rw[e];exact I.funs
 .rw[e];obtain⟨m,hn,_⟩:=I.loc;refine .cons (by rw[I.ok.kind];decide) hf hn ?_ I.funs;exact mP (cF I.ok.bsz I.ok.above)
theorem Inv.stkSub (I:Inv X pins Z H s):∀b∈frs X.stack,b∈X.env.locals::X.fs:=λb hb=>by
 rcases I.ok.stk with e|⟨e,hf⟩
 .rw[e] at hb;exact cN _ hb
 .rw[e] at hb;unfold frs at hb;rw[xN,hf] at hb;exact hb
theorem Inv.stkFree (I:Inv X pins Z H s):∀b∈frs X.stack,H b=none:=λb hb=>by
 rcases aT.mp (I.stkSub b hb) with e|hb
 .rw[e];exact I.free
 .obtain⟨_,o,ho,_⟩:=I.ok.funs.mem hb;exact I.base.free b o ho (I.ok.frf b hb) λz=>I.ok.exfs b z hb
theorem Inv.step {g':Array GenState} {t':Nat} {d':Drawn} {ch:List Addr} (I:Inv X pins Z H s)
  (hch:∀b∈ch,(b∈X.ex\/X.s₀.heap.objs.size<=b)/\b≠X.env.locals/\(∀x c,X.env.cells.lookup x=some c->c≠b)/\∀p∈X.pn++pins,p.1≠b)
  (keep:∀b o,b≠X.env.locals->b∉X.fs->b∉ch->s.heap.get? b=some o->H b=none->h'.get? b=some o)
  (slot:∀b o,b≠X.env.locals->b∈X.fs->b∉ch->s.heap.get? b=some o->H b=none->∃sl,h'.get? b=some {o with slots:=sl}) (free:∀b o,b∉ch->s.heap.get? b=some o->H b=none->H' b=none)
  (there:∀b o,b∉ch->s.heap.get? b=some o->∃o',h'.get? b=some o')
  (tups:∀b xs,H b=some (.tup xs)->H' b=some (.tup xs)) (frzs:∀b o u,H b=some (.frz o u)->H' b=some (.frz o u)) (tbls:∀b ps,H b=some (.tbl ps)->∃more,H' b=some (.tbl (ps++more)))
  (ns:∀m,s.heap.Ns X.env.locals m->h'.Ns X.env.locals m) (hok:HOk X.prog X.w H' h') (hg:AllBare g') :
  Inv X pins Z H' {s with heap:=h',gens:=g',drawn:=d',toks:=t'}:=by
 have neL:∀b o,X.s₀.heap.get? b=some o->b≠X.env.locals:=λb o e=>bJ (b_ (aK e) I.ok.above);have neC:∀b o,X.s₀.heap.get? b=some o->b∉X.ex->b∉ch:=λb o e hx hb=>by
  rcases (hch b hb).1 with z|z
  .exact hx z
  .exact absurd (b_ (aK e) z) (ef _)
 have cellK:∀x c,X.env.cells.lookup x=some c->∀v,s.heap.IsCell c v->h'.IsCell c v:=λx c e v ⟨o,ho,hd⟩=>by
  have nch:c∉ch:=λz=>(hch c z).2.2.1 x c e rfl;by_cases hc:c∈X.fs
  .obtain⟨sl,q⟩:=slot c o (I.cne x c e) hc nch ho (I.freeC x c e);exact⟨_,q,hd⟩
  .exact⟨o,keep c o (I.cne x c e) hc nch ho (I.freeC x c e),hd⟩
 refine⟨I.ok,I.os,hg,⟨λb o e n hb hx=>?_,λb o e n hb hx=>?_,λb o e n hx=>?_,λb o e hx=>?_,λb xs e=>tups b xs (I.base.tups b xs e),λb o xs e=>frzs b o xs (I.base.frzs b o xs e),λb ps e=>?_⟩,?_,λx c e=>?_,?_,λx c e=>?_,λp hp=>?_,hok,I.len⟩
 .exact keep b o (neL b o e) hb (neC b o e hx) (I.base.keep b o e n hb hx) (I.base.free b o e n hx)
 .obtain⟨sl,e1⟩:=I.base.slot b o e n hb hx;obtain⟨sl',e2⟩:=slot b _ (neL b o e) hb (neC b o e hx) e1 (I.base.free b o e n hx);exact⟨sl',e2⟩
 .obtain⟨o',e1⟩:=I.base.there b o e hx;exact free b o' (neC b o e hx) e1 (I.base.free b o e n hx)
 .obtain⟨o',e1⟩:=I.base.there b o e hx;exact there b o' (neC b o e hx) e1
 .obtain⟨m1,e1⟩:=I.base.tbls b ps e;obtain⟨m2,e2⟩:=tbls b _ e1;exact⟨m1++m2,by rw[e2,Array.append_assoc]⟩
 .obtain⟨m,hn,hl⟩:=I.loc;refine⟨m,ns m hn,λi x v e1 e2 e3=>?_⟩;obtain⟨u,r,l⟩:=hl i x v e1 e2 e3;refine⟨u,r,?_⟩;rcases l with l|⟨k,c,e,z⟩
  .exact .inl l
  .exact .inr ⟨k,c,e,cellK x c e _ z⟩
 .obtain⟨v,z⟩:=I.cell x c e;exact⟨v,cellK x c e v z⟩
 .obtain⟨m,⟨o,_,_,ho,_⟩,_⟩:=I.loc;exact free _ o (λz=>(hch _ z).2.1 rfl) ho I.free
 .obtain⟨v,o,ho,hd⟩:=I.cell x c e;exact free c o (λz=>(hch c z).2.2.1 x c e rfl) ho (I.freeC x c e)
 .obtain⟨e,n,ne,nf,d⟩:=I.pin p hp;have nch:p.1∉ch:=λz=>(hch p.1 z).2.2.2 p hp rfl;exact⟨keep p.1 p.2 ne nf nch e n,free p.1 p.2 nch e n,ne,nf,d⟩
theorem Inv.un {t':Nat} (I:Inv X pins Z H s) (u:Un X.fs [] H H' s.heap h') (hok:HOk X.prog X.w H' h'):Inv X pins Z H' {s with heap:=h',toks:=t'}:=by
 obtain⟨m,⟨o,es,ep,ho,r⟩,_⟩:=id I.loc;obtain⟨sl,hL⟩:=u.any ho I.free (by simp);exact I.step (g':=s.gens) (d':=s.drawn) (ch:=[]) (λ_ z=>nomatch z) (λb o _ hb _ e n=>u.keep b o e n hb (by simp)) (λb o _ hb _ e n=>u.slot b o e n hb (by simp)) (λb o _ e n=>u.free b o e n (by simp)) (λb o _ e=>u.there b o e (by simp)) u.tups u.frzs u.tbls (λm' hm=>by
  obtain⟨o',es',ep',ho',r'⟩:=hm;rw[ho] at ho';cases ho';exact⟨_,es',ep',hL,r'⟩) hok I.bare
theorem Inv.call {g':Array GenState} {t':Nat} {d':Drawn} {ch:List Addr} (I:Inv X pins Z H s) (u:Un (frs X.stack) ch H H' s.heap h') (hok:HOk X.prog X.w H' h') (hg:AllBare g')
  (hch:∀b∈ch,(b∈X.ex\/X.s₀.heap.objs.size<=b)/\b≠X.env.locals/\(∀x c,X.env.cells.lookup x=some c->c≠b)/\∀p∈X.pn++pins,p.1≠b) :
  Inv X pins Z H' {s with heap:=h',gens:=g',drawn:=d',toks:=t'}:=by
 obtain⟨m,⟨o,es,ep,ho,r⟩,_⟩:=id I.loc;obtain⟨sl,hL⟩:=u.any ho I.free λz=>(hch _ z).2.1 rfl;exact I.step (ch:=ch) hch (λb o hL hb hc e n=>u.keep b o e n (λz=>(aT.mp (I.stkSub b z)).elim hL hb) hc) (λb o _ _ hc e n=>u.any e n hc) (λb o hc e n=>u.free b o e n hc) (λb o hc e=>u.there b o e hc) u.tups u.frzs u.tbls (λm' hm=>by
  obtain⟨o',es',ep',ho',r'⟩:=hm;rw[ho] at ho';cases ho';exact⟨_,es',ep',hL,r'⟩) hok hg
theorem Inv.turned {t':Nat} {it:Addr} (I:Inv X pins Z H s) (k:∀b o,b≠it->s.heap.get? b=some o->h'.get? b=some o) (hn:H it=none) (hL:it≠X.env.locals)
  (h1:it∈X.ex\/X.s₀.heap.objs.size<=it) (h2:∀x c,X.env.cells.lookup x=some c->c≠it) (h3:∀p∈X.pn++pins,p.1≠it):Inv X pins Z H {s with heap:=h',toks:=t'}:=by
 have nit:∀b u,H b=some u->b≠it:=λb u e z=>by rw[z,hn] at e;cases e
 refine I.step (g':=s.gens) (d':=s.drawn) (ch:=[it]) (λb hb=>?_) (λb o _ _ hc e _=>k b o (λz=>hc (by simp[z])) e) (λb o _ _ hc e _=>⟨o.slots,k b o (λz=>hc (by simp[z])) e⟩) (λ_ _ _ _ n=>n)
  (λb o hc e=>⟨o,k b o (λz=>hc (by simp[z])) e⟩) (λ_ _ e=>e) (λ_ _ _ e=>e) (λb ps e=>⟨#[],by rw[e];simp⟩) (λm hm=>?_) (λb u e=>?_) I.bare
 .have e:b=it:=by simpa using hb
  subst e;exact⟨h1,hL,h2,h3⟩
 .obtain⟨o,es,ep,ho,r⟩:=hm;exact⟨o,es,ep,k _ o (av hL) ho,r⟩
 .refine (I.hok b u e).stay (λc v hc q=>k c v ?_ q) (λ_ q=>q) λ_ _ q=>q;rcases hc with z|z
  .rw[z];exact nit b u e
  .exact nit c _ z
theorem Inv.tok (I:Inv X pins Z H s) (t:Nat):Inv X pins Z H {s with toks:=t}:=I.un (h':=s.heap) (t':=t) Un.refl I.hok
theorem Inv.kept {t':Nat} (I:Inv X pins Z H s) (k:∀b u,s.heap.get? b=some u->h'.get? b=some u):Inv X pins Z H {s with heap:=h',toks:=t'}:=I.un (Un.kept k) (I.hok.kept k)
theorem Inv.laid {a:Addr} {o:HO} {t':Nat} (I:Inv X pins Z H s) (k:∀b u,s.heap.get? b=some u->h'.get? b=some u) (hp:s.heap.objs.size<=a) (new:aQ X.prog X.w (upd H a o) h' a o) :
  Inv X pins Z (upd H a o) {s with heap:=h',toks:=t'}:=I.un (Un.laid k hp (I.hok.fresh hp)) (I.hok.laid k hp new)
theorem Inv.write {x e:Addr} {o:HO} {t':Nat} (I:Inv X pins Z H s) (mu:Mut (H x)) (he:e=x\/H e=some (.own x)) (k:∀b u,b≠e->s.heap.get? b=some u->h'.get? b=some u) (heo:∃u,h'.get? e=some u)
  (new:aQ X.prog X.w (upd H x o) h' x o):Inv X pins Z (upd H x o) {s with heap:=h',toks:=t'}:=I.un (Un.write mu he k heo) (I.hok.write mu he k heo new)
theorem Inv.pins_of {pins':List (Addr×Obj)} (I:Inv X pins Z H s) (h:∀p∈pins',s.heap.get? p.1=some p.2/\H p.1=none/\p.1≠X.env.locals/\p.1∉X.fs/\∀v,p.2.data≠.cell v):Inv X pins' Z H s:=
 ⟨I.ok,I.os,I.bare,I.base,I.loc,I.cell,I.free,I.freeC,λp hp=>(bh.mp hp).elim (λz=>I.pin p (dQ _ z)) (h p),I.hok,I.len⟩
theorem p_ {N:List Str} (hN:N.Nodup) {i j:Nat} {x:Str} (a:N[i]?=some x) (b:N[j]?=some x):i=j:=by obtain⟨h1,e1⟩:=aJ.mp a;obtain⟨h2,e2⟩:=aJ.mp b;exact (List.getElem_inj hN).mp (e1.trans e2.symm)
theorem t_ {M:Model} {i:Nat} {x:Str} {v:V} {u:Value} {Q:Unit->Shared->Prop} (I:Inv X pins Z H s) (hN:X.N.Nodup) (hi:X.N[i]?=some x) (hx:Loc X.env.scope x) (r:ax v u)
  (h:∀s',Inv X pins (Z.set i (some v)) H s'->(∃a,Heap.SameBut a s.heap s'.heap/\(a=X.env.locals\/X.env.cells.lookup x=some a))->Q () s') (hf:X.fn x=true\/X.env.scope.names.lookup x=some .local:=by first|exact .inl rfl|exact .inr rfl|assumption):wpAny M A (storeName X.env x u) Q E s:=by
 obtain⟨m,hn,hl⟩:=id I.loc;have hcls:(X.env.scope.kind==.class||(X.env.scope.kind==.module&&X.env.locals != X.env.globals))=false:=by rw[I.ok.kind];rfl
 have hiσ:i<Z.length:=by rw[I.len];exact (aJ.mp hi).1
 have cne:=I.cne;have tracked:∀{a:Addr} {h':Heap},(∃o,s.heap.get? a=some o/\H a=none)->Heap.SameBut a s.heap h'->HOk X.prog X.w H h':=λ{a h'} ha hs b ob e=>by
  obtain⟨_,_,hfree⟩:=ha;refine (I.hok b ob e).stay (λc w' hc q=>(hs.2 c ?_).trans q) (λ_ q=>q) λ_ _ q=>q;rintro rfl;rcases hc with rfl|hc
  .rw[hfree] at e;cases e
  .rw[hfree] at hc;cases hc
 rcases hx with hk|hk
 .refine wpAny_storeName_local hk hn (λh' hn' hs=>?_) hcls;obtain⟨oL,_,_,hoL,_⟩:=id hn;refine h _ ⟨I.ok,I.os,I.bare,⟨λb o e n hb hx=>?_,λb o e n hb hx=>?_,I.base.free,λb o e hx=>?_,I.base.tups,I.base.frzs,I.base.tbls⟩,⟨_,hn',λj y v' e1 e2 e3=>?_⟩,λy c e=>?_,I.free,I.freeC,λp hp=>?_,tracked ⟨oL,hoL,I.free⟩ hs,by simpa using I.len⟩ ⟨_,hs,.inl rfl⟩
  .exact (hs.2 b (bJ (b_ (aK e) I.ok.above))).trans (I.base.keep b o e n hb hx)
  .obtain⟨sl,e1⟩:=I.base.slot b o e n hb hx;exact⟨sl,(hs.2 b (bJ (b_ (aK e) I.ok.above))).trans e1⟩
  .obtain⟨o',e1⟩:=I.base.there b o e hx;exact⟨o',(hs.2 b (bJ (b_ (aK e) I.ok.above))).trans e1⟩
  .by_cases hj:j=i
   .subst hj;rw[hi] at e1;cases e1;rw[rP hiσ] at e2;cases e2;exact⟨u,r,.inl ⟨hk,by simp⟩⟩
   .rw[rO (av hj)] at e2;obtain⟨u',r',q⟩:=hl j y v' e1 e2 e3;refine⟨u',r',?_⟩;rcases q with ⟨k,e⟩|⟨k,c,e,z⟩
    .refine .inl ⟨k,?_⟩;have:y≠x:=λe=>hj (p_ hN e1 (e ▸ hi));simp[this,e]
    .exact .inr ⟨k,c,e,z.sameBut hs (cne y c e)⟩
  .obtain⟨w',z⟩:=I.cell y c e;exact⟨w',z.sameBut hs (cne y c e)⟩
  .obtain⟨e,n,ne,nf,d⟩:=I.pin p hp;exact⟨(hs.2 p.1 ne).trans e,n,ne,nf,d⟩
 .have hfn:X.fn x=true:=by
   rcases hf with z|z
   .exact z
   .rw[z] at hk;cases hk
  obtain⟨c,hc⟩:=I.ok.has x (.inl hk);obtain⟨w',z⟩:=I.cell x c hc;refine wpAny_storeName_cell I.ok.kind hk hc z (λh' hc' hs=>?_);obtain⟨oc,hoc,hocd⟩:=id z;refine h {s with heap:=h'} ⟨I.ok,I.os,I.bare,⟨λb o e n hb hx=>?_,λb o e n hb hx=>?_,I.base.free,λb o e hx=>?_,I.base.tups,I.base.frzs,I.base.tbls⟩,⟨m,hn.sameBut hs (av (cne x c hc)),λj y v' e1 e2 e3=>?_⟩,λy c' e=>?_,I.free,I.freeC,λp hp=>?_,tracked ⟨oc,hoc,I.freeC x c hc⟩ hs,by simpa using I.len⟩ ⟨c,hs,.inr hc⟩
  .exact (hs.2 b (bJ (b_ (aK e) (I.ok.cab x c hfn hc)))).trans (I.base.keep b o e n hb hx)
  .obtain⟨sl,e1⟩:=I.base.slot b o e n hb hx;exact⟨sl,(hs.2 b (bJ (b_ (aK e) (I.ok.cab x c hfn hc)))).trans e1⟩
  .obtain⟨o',e1⟩:=I.base.there b o e hx;exact⟨o',(hs.2 b (bJ (b_ (aK e) (I.ok.cab x c hfn hc)))).trans e1⟩
  .by_cases hj:j=i
   .subst hj;rw[hi] at e1;cases e1;rw[rP hiσ] at e2;cases e2;exact⟨u,r,.inr ⟨.inl hk,c,hc,hc'⟩⟩
   .rw[rO (av hj)] at e2;obtain⟨u',r',q⟩:=hl j y v' e1 e2 e3;refine⟨u',r',?_⟩;rcases q with q|⟨k,c',e,z'⟩
    .exact .inl q
    .refine .inr ⟨k,c',e,z'.sameBut hs ?_⟩;rintro rfl;exact hj (p_ hN e1 (I.ok.inj _ _ _ e hc ▸ hi))
  .by_cases hcc:c'=c
   .subst hcc;exact⟨_,hc'⟩
   .obtain⟨w2,z2⟩:=I.cell y c' e;exact⟨w2,z2.sameBut hs hcc⟩
  .obtain⟨e,n,ne,nf,d⟩:=I.pin p hp;refine⟨(hs.2 p.1 ?_).trans e,n,ne,nf,d⟩;intro q;rw[q,hoc] at e;have q':oc=p.2:=dh e;exact d w' (by rw[<-q'];exact hocd)
theorem iH {M:Model} {i:Nat} {x:Str} {v:V} {u:Value} {Q:Unit->Shared->Prop} (I:Inv X pins Z H s) (hN:X.N.Nodup) (hi:X.N[i]?=some x) (hx:Loc X.env.scope x) (r:ax v u)
  (h:∀s',Inv X pins (Z.set i (some v)) H s'->Q () s') (hf:X.fn x=true\/X.env.scope.names.lookup x=some .local:=by first|exact .inl rfl|exact .inr rfl|assumption):wpAny M A (storeName X.env x u) Q E s:=
 t_ I hN hi hx r (λs' I' _=>h s' I') hf
theorem Inv.call' {s':Shared} {ch:List Addr} (I:Inv X pins Z H s) (ho:s'.os=s.os) (u:Un (frs X.stack) ch H H' s.heap s'.heap) (hok:HOk X.prog X.w H' s'.heap) (hg:AllBare s'.gens)
  (hch:∀b∈ch,(b∈X.ex\/X.s₀.heap.objs.size<=b)/\b≠X.env.locals/\(∀x c,X.env.cells.lookup x=some c->c≠b)/\∀p∈X.pn++pins,p.1≠b):Inv X pins Z H' s':=by
 obtain⟨h',g',d',t',o'⟩:=s';have e:o'=s.os:=ho;subst e;exact I.call (g':=g') (t':=t') (d':=d') u hok hg hch
end
abbrev XK:=Value->Option Addr->Hp->Prop
abbrev St:=List (Option V)
abbrev VK:=V->Hp->Prop
abbrev TE:=St->Hp->VK->Prop
abbrev TT:=St->Hp->(Bool->Hp->Prop)->Prop
abbrev TA:=St->Hp->(List V->Hp->Prop)->Prop
structure Ends where
 nx:St->Hp->Prop
 rt:VK
 bk:St->Hp->Prop:=λ_ _=>False
 ct:St->Hp->Prop:=λ_ _=>False
abbrev TS:=Ends->St->Hp->Prop
def EP (X:Cx) (pins:List (Addr×Obj)) (Z:St) (Q:VK) (u:Value) (s':Shared):Prop:=∃v H',Inv X pins Z H' s'/\ax v u/\Q v H'
def TP (X:Cx) (pins:List (Addr×Obj)) (Z:St) (Q:Bool->Hp->Prop) (b:Bool) (s':Shared):Prop:=∃H',Inv X pins Z H' s'/\Q b H'
def AP (X:Cx) (pins:List (Addr×Obj)) (Z:St) (Q:List V->Hp->Prop) (us:List Value) (s':Shared):Prop:=∃vs H',Inv X pins Z H' s'/\Vals vs us/\Q vs H'
def SP (X:Cx) (pins:List (Addr×Obj)) (D:Ends) (f:Flow) (s':Shared):Prop:=
 match f with
 |.next=>∃Z' H',Inv X pins Z' H' s'/\D.nx Z' H'
 |.brk=>∃Z' H',Inv X pins Z' H' s'/\D.bk Z' H'
 |.cont=>∃Z' H',Inv X pins Z' H' s'/\D.ct Z' H'
 |.ret u=>∃v Z' H',Inv X pins Z' H' s'/\ax v u/\D.rt v H'
def PE (X:Cx) (e:Expr) (t:TE):Prop:=
 ∀(pins:List (Addr×Obj)) (s:Shared) (Z:St) (H:Hp) (Q:VK),Inv X pins Z H s->t Z H Q->wpAny (model X.prog X.w) X.A (eval e X.env) (EP X pins Z Q) X.xe s
def PT (X:Cx) (e:Expr) (t:TT):Prop:=
 ∀(pins:List (Addr×Obj)) (s:Shared) (Z:St) (H:Hp) (Q:Bool->Hp->Prop),Inv X pins Z H s->t Z H Q->wpAny (model X.prog X.w) X.A (isTrue e X.env (eval e X.env)) (TP X pins Z Q) X.xe s
def PW (X:Cx) (e:Expr) (t:TT):Prop:=
 ∀(whole:Sem Value) (pins:List (Addr×Obj)) (s:Shared) (Z:St) (H:Hp) (Q:Bool->Hp->Prop),Inv X pins Z H s->t Z H Q->wpAny (model X.prog X.w) X.A (isTrue e X.env whole) (TP X pins Z Q) X.xe s
theorem PW.pt {X:Cx} {e:Expr} {t:TT} (h:PW X e t):PT X e t:=h _
def PA (X:Cx) (es:List Expr) (t:TA):Prop:=
 ∀(pos:Pos) (pins:List (Addr×Obj)) (s:Shared) (Z:St) (H:Hp) (Q:List V->Hp->Prop),Inv X pins Z H s->t Z H Q->wpAny (model X.prog X.w) X.A (spliced (backTo pos (starEach es X.env))) (AP X pins Z Q) X.xe s
def PS (X:Cx) (st:Stmt) (t:TS):Prop:=
 ∀(pins:List (Addr×Obj)) (s:Shared) (Z:St) (H:Hp) (D:Ends),Inv X pins Z H s->t D Z H->wpAny (model X.prog X.w) X.A (exec st X.env) (SP X pins D) X.xe s
def PSs (X:Cx) (st:List Stmt) (t:TS):Prop:=
 ∀(pins:List (Addr×Obj)) (s:Shared) (Z:St) (H:Hp) (D:Ends),Inv X pins Z H s->t D Z H->wpAny (model X.prog X.w) X.A (execs st X.env) (SP X pins D) X.xe s
theorem thn {α:Type} {t:Sem α} {Q Q':α->Shared->Prop} {M:Model} (h:wpAny M A t Q E s) (hQ:∀a s,Q a s->Q' a s):wpAny M A t Q' E s:=dn h hQ λ_ _ x=>x
end L2
variable {H:L2.Hp} {Z:L2.St} {X:L2.Cx} {xs:List L2.V} {vs:List L2.V} {H':L2.Hp}
namespace L2
open PySem PySem.Spec PyProof.Rows
section
def Ex2 {α β:Type} (P:α->β->Prop) (a:α):Prop:=Exists (P a)
def Ex3 {α β γ:Type} (P:α->β->γ->Prop) (a:α):Prop:=Exists (Ex2 (P a))
def Ex4 {α β γ δ:Type} (P:α->β->γ->δ->Prop) (a:α):Prop:=Exists (Ex3 (P a))
def Ex5 {α β γ δ ε:Type} (P:α->β->γ->δ->ε->Prop) (a:α):Prop:=Exists (Ex4 (P a))
def Ex6 {α β γ δ ε ζ:Type} (P:α->β->γ->δ->ε->ζ->Prop) (a:α):Prop:=Exists (Ex5 (P a))
def Same (H H':Hp):Prop:=∀b o,H b=some o->H' b=some o
def ft (H:Hp) (o:HO) (Q:VK):Prop:=∀p H',H p=none->Same H H'->H' p=some o->Q (.ref p) H'
theorem ft.at {o:HO} {Q:VK} {p:Addr} (q:ft H o Q) (h:H p=none):Q (.ref p) (upd H p o):=q p _ h (λb u e=>(aj (λz=>by rw[z,h] at e;cases e)).trans e) aO
def WrO (H:Hp) (l:Addr) (o:HO) (k:Hp->Prop):Prop:=∀H',(∀b,b≠l->H' b=H b)->H' l=some o->k H'
theorem WrO.at {l:Addr} {o:HO} {k:Hp->Prop} (q:WrO H l o k):k (upd H l o):=q _ (λ_ h=>aj h) aO
def FO (i:Nat) (Z:St) (H:Hp) (Q:VK) (v:V):Prop:=Z[i]?=some (some v)/\Q v H
def cz (i:Nat):TE:=λZ H Q=>Exists (FO i Z H Q)
def tC (v:V):TE:=λ_ H Q=>Q v H
theorem EX {i:Nat} {x:Str} {pos:Pos} (hN:X.N[i]?=some x) (hv:Vis X.env.scope x) (hd:(x==("__debug__" : Str))=false:=by decide) (hcd:(x==("__classdict__" : Str))=false:=by decide):PE X (.Name x pos) (cz i):=by
 intro pins s Z H Q I h;obtain⟨v,e,h⟩:=h;obtain⟨m,hn,hl⟩:=I.loc;obtain⟨u,r,l⟩:=hl i x v hN e hv;have fin:EP X pins Z Q u s:=⟨v,H,I,r,h⟩;rcases l with ⟨hk,hm⟩|⟨hk,c,hc,hcell⟩
 .exact yN (wpAny_loadName_local I.ok.kind hk hn hm fin) hd
 .rcases hk with hk|hk
  .exact yN (wpAny_loadName_cell I.ok.kind hk hc hcell fin) hd
  .exact yN (wpAny_loadName_free I.ok.kind hk hc hcell fin hcd) hd
theorem ai {i j pos}:PE X (.Constant (.int i) j pos) (tC (.int i)):=λ_ _ _ H _ I h=>wpAny_Constant_int ⟨.int i,H,I.tok _,⟨_,rfl⟩,h⟩
theorem eR {b j pos}:PE X (.Constant (.bool b) j pos) (tC (.bl b)):=λ_ _ _ H _ I h=>Constant_bool ⟨.bl b,H,I,rfl,h⟩
theorem qO {j pos}:PE X (.Constant .none j pos) (tC .non):=λ_ _ _ H _ I h=>Constant_none ⟨.non,H,I,rfl,h⟩
theorem cw {x j pos}:PE X (.Constant (.str x) j pos) (tC (.str x)):=λ_ _ _ H _ I h=>Calls.Constant_str ⟨.str x,H,I.tok _,⟨_,rfl⟩,h⟩
def Gl (X:Cx) (x:Str):Prop:=X.env.kindOf x=some .globalImplicit
theorem gd {x:Str} {u:Value} {pos:Pos} {Q:Value->Shared->Prop} (I:Inv X pins Z H s) (hg:Gl X x) (hm:X.mg x=some u) (h:Q u s)
  (hd:(x==("__debug__" : Str))=false:=by decide):wpAny (model X.prog X.w) X.A (eval (.Name x pos) X.env) Q E s:=
 HB I.ok.kind hg (Calls.loadGlobal_global (by rw[I.ok.glob];exact I.mod.glob.keeps I.bk) hm h) hd
theorem jL {x:Str} {u:Value} {pos:Pos} {Q:Value->Shared->Prop} (I:Inv X pins Z H s) (hg:Gl X x) (hm:X.mg x=none) (hv:bootBuiltins x=some u) (h:Q u s)
  (hn:x≠"__name__":=by decide) (hd:(x==("__debug__" : Str))=false:=by decide):wpAny (model X.prog X.w) X.A (eval (.Name x pos) X.env) Q E s:=by
 obtain⟨mb,h1,h2⟩:=I.mod.blt;exact HB I.ok.kind hg (Calls.loadGlobal_builtin (by rw[I.ok.glob];exact I.mod.glob.keeps I.bk) hm (by rw[I.ok.blt];exact h1.keeps I.bk) ((h2 x hn).trans hv) h) hd
theorem cJ {x:Str} {v:V} {u:Value} {pos:Pos} (hg:Gl X x) (hm:X.mg x=some u) (r:ax v u) (hd:(x==("__debug__" : Str))=false:=by decide):PE X (.Name x pos) (tC v):=
 λ_ _ _ H _ I h=>gd I hg hm ⟨v,H,I,r,h⟩ hd
theorem g_ {x:Str} {v:V} {u:Value} {pos:Pos} (hg:Gl X x) (hm:X.mg x=none) (hv:bootBuiltins x=some u) (r:ax v u) (hn:x≠"__name__":=by decide) (hd:(x==("__debug__" : Str))=false:=by decide):PE X (.Name x pos) (tC v):=
 λ_ _ _ H _ I h=>jL I hg hm hv ⟨v,H,I,r,h⟩ hn hd
variable {a b:Expr} {ta tb:TE} {pos:Pos}
def PC (X:Cx) (op:CmpOp) (a b:Expr) (t:TE):Prop:=
 ∀(pins:List (Addr×Obj)) (s:Shared) (Z:St) (H:Hp) (Q:VK),Inv X pins Z H s->t Z H Q->
  wpAny (model X.prog X.w) X.A (eval a X.env) (λv s₁=>wpAny (model X.prog X.w) X.A (eval b X.env) (λu s₂=>wpAny (model X.prog X.w) X.A (compareOp op v u) (EP X pins Z Q) X.xe s₂) X.xe s₁) X.xe s
def tBB (Q:Bool->Hp->Prop) (x:V) (H1:Hp) (c:Bool):Prop:=x=.bl c/\Q c H1
def tBK (Q:Bool->Hp->Prop):VK:=λx H1=>Exists (tBB Q x H1)
def tB (t:TE):TT:=λZ H Q=>t Z H (tBK Q)
theorem EZ {op:CmpOp} {t:TE} (h:PC X op a b t) (h1:behindInMarks op b=false:=by first|exact nobehind _ (by decide) (by decide)|rfl):PE X (.Compare a [op] [b] pos) t:=λpins s Z H Q I hw=>Jp (h pins s Z H Q I hw) h1
theorem oy {op:CmpOp} {t:TE} (h:PC X op a b t) (h1:behindInMarks op b=false:=by first|exact nobehind _ (by decide) (by decide)|rfl):PT X (.Compare a [op] [b] pos) (tB t):=by intro pins s Z H Q I hw;refine Jy (thn (h pins s Z H _ I hw) λv s1 h1=>thn h1 λu s2 h2=>thn h2 λc s3 ⟨x,H1,I1,r1,q1⟩=>?_) h1;obtain⟨d,rfl,q⟩:=q1;cases r1;exact jl ⟨H1,I1,q⟩
theorem cQ {e:Expr} {t:TE} (h:PE X e t) (he:∀whole,isTrue e X.env whole=(do let v <-whole;standAt e.pos;holding [v] (truthy v)):=by intro _;rfl):PT X e (tB t):=by intro pins s Z H Q I hw;refine isTrue_plain (thn (h pins s Z H _ I hw) λv s1 ⟨x,H1,I1,r1,q1⟩=>?_) (he _);obtain⟨d,rfl,q⟩:=q1;cases r1;exact jl ⟨H1,I1,q⟩
variable {tA tB':TT} {rest:List Expr}
def Gi (u:TT) (Z:St) (Q:Bool->Hp->Prop):Bool->Hp->Prop:=λc H1=>if c=true then u Z H1 Q else Q false H1
def tAnd (t u:TT):TT:=λZ H Q=>t Z H (Gi u Z Q)
def mm (u:TT) (Z:St) (Q:Bool->Hp->Prop):Bool->Hp->Prop:=λc H1=>if c=true then Q true H1 else u Z H1 Q
def tOr (t u:TT):TT:=λZ H Q=>t Z H (mm u Z Q)
def iR (Q:Bool->Hp->Prop):Bool->Hp->Prop:=λc H1=>Q (!c) H1
def tNot (t:TT):TT:=λZ H Q=>t Z H (iR Q)
theorem gZ (ha:PT X a tA):PW X (.BoolOp .And [a] pos) tA:=by
 intro wh pins s Z H Q I h;refine isTrue_and (thn (ha pins s Z H Q I h) λc s1 e=>?_);cases c with
 |true=>exact isTrue_and_nil e
 |false=>exact e
theorem iO (ha:PT X a tA):PW X (.BoolOp .Or [a] pos) tA:=by
 intro wh pins s Z H Q I h;refine isTrue_or (thn (ha pins s Z H Q I h) λc s1 e=>?_);cases c with
 |false=>exact isTrue_or_nil e
 |true=>exact e
theorem gg (ha:PT X a tA) (hb:PW X (.BoolOp .And (b::rest) pos) tB'):PW X (.BoolOp .And (a::b::rest) pos) (tAnd tA tB'):=by
 intro wh pins s Z H Q I h;refine isTrue_and (thn (ha pins s Z H _ I h) λc s1 ⟨H1,I1,q1⟩=>?_);cases c with
 |true=>exact hb wh pins s1 Z H1 Q I1 q1
 |false=>exact⟨H1,I1,q1⟩
theorem fq (ha:PT X a tA) (hb:PW X (.BoolOp .Or (b::rest) pos) tB'):PW X (.BoolOp .Or (a::b::rest) pos) (tOr tA tB'):=by
 intro wh pins s Z H Q I h;refine isTrue_or (thn (ha pins s Z H _ I h) λc s1 ⟨H1,I1,q1⟩=>?_);cases c with
 |true=>exact⟨H1,I1,q1⟩
 |false=>exact hb wh pins s1 Z H1 Q I1 q1
theorem eA (ha:PT X a tA):PT X (.UnaryOp .Not a pos) (tNot tA):=by intro pins s Z H Q I h;exact isTrue_not (ha pins s Z H (λc H1=>Q (!c) H1) I h)
def xi (ta tb:TE):TE:=λZ H Q=>ta Z H λx H1=>∃c,x=.bl c/\if c=true then tb Z H1 Q else Q (.bl false) H1
def FS (ta:TE):TE:=λZ H Q=>ta Z H λx H1=>∃c,x=.bl c/\Q (.bl (!c)) H1
theorem jK {op} {t:TE} (h:PE X a t):PE X (.BoolOp op [a] pos) t:=λpins s Z H Q I hw=>BoolOp_one (h pins s Z H Q I hw)
theorem h_ (ha:PE X a ta) (hb:PE X (.BoolOp .And (b::rest) pos) tb):PE X (.BoolOp .And (a::b::rest) pos) (xi ta tb):=by
 intro pins s Z H Q I h;refine BoolOp_and (thn (ha pins s Z H _ I h) λv s1 ⟨x,H1,I1,r1,q1⟩=>?_);obtain⟨c,rfl,q1⟩:=q1;cases r1;refine jl ?_;cases c with
 |true=>exact hb pins s1 Z H1 Q I1 q1
 |false=>exact⟨.bl false,H1,I1,rfl,q1⟩
theorem EY (ha:PE X a ta):PE X (.UnaryOp .Not a pos) (FS ta):=by intro pins s Z H Q I h;refine UnaryOp_ (thn (ha pins s Z H _ I h) λv s1 ⟨x,H1,I1,r1,q1⟩=>?_);obtain⟨c,rfl,q1⟩:=q1;cases r1;exact not_of (jl ⟨.bl (!c),H1,I1,rfl,q1⟩)
def tIf (t:TT) (ta tb:TE):TE:=λZ H Q=>t Z H λc H1=>if c=true then ta Z H1 Q else tb Z H1 Q
theorem BM {c:Expr} (hc:PT X c tA) (ha:PE X a ta) (hb:PE X b tb):PE X (.IfExp c a b pos) (tIf tA ta tb):=by
 intro pins s Z H Q I h;refine wpAny_IfExp (thn (hc pins s Z H _ I h) λd s1 ⟨H1,I1,q1⟩=>?_);cases d with
 |true=>exact ha pins s1 Z H1 Q I1 q1
 |false=>exact hb pins s1 Z H1 Q I1 q1
end
end L2
namespace L2
open PySem PySem.Spec PyProof.Rows
def SqL (K:W.Frag) (H:Hp) (a:Addr) (xs:List V):Prop:=
 Rd H a (.lst xs) \/
  ∃(o:Obj) (its:Array Value) (n:Nat),K.lookup a=some o/\o.cls=.type "list"/\o.dict=none/\o.data=.seq its n/\its.size<=sizeLine/\Vals xs its.toList
def SqT (K:W.Frag) (H:Hp) (a:Addr) (xs:List V):Prop:=
 Rd H a (.tup xs) \/
  ∃(o:Obj) (its:Array Value) (n:Nat),K.lookup a=some o/\o.cls=.type "tuple"/\o.data=.seq its n/\its.size<=sizeLine/\Vals xs its.toList
def absV:Value->Option V
 |.none=>some .non
 |.bool b=>some (.bl b)
 |.int i _=>some (.int i)
 |.str x _=>some (.str x)
 |.bytes b _=>some (.byt b)
 |.float b _=>some (.flt b)
 |.ref a=>some (.ref a)
 |.type n=>some (.ty n)
 |_=>none
theorem ax.abs {x:V} {u:Value} (r:ax x u):absV u=some x:=by
 cases x with
 |non=>cases r;rfl
 |bl _=>cases r;rfl
 |int _=>obtain⟨t,rfl⟩:=r;rfl
 |str _=>obtain⟨t,rfl⟩:=r;rfl
 |byt _=>obtain⟨t,rfl⟩:=r;rfl
 |flt _=>obtain⟨t,rfl⟩:=r;rfl
 |ref _=>cases r;rfl
 |ty _=>cases r;rfl
theorem ax.inj {x y:V} {u:Value} (r:ax x u) (q:ax y u):x=y:=dh (r.abs.symm.trans q.abs)
theorem Vals.inj {xs ys:List V} (h:Vals xs us) (h':Vals ys us):xs=ys:=by
 induction h generalizing ys with
 |nil=>cases h';rfl
 |cons r t ih=>cases h' with
  |cons r' t'=>rw[r.inj r',ih t']
section
variable {a:Addr} {xs ys:List V}
theorem SqL.of (h:H a=some (.lst xs)):SqL K H a xs:=.inl (.inl h)
theorem SqT.of (h:H a=some (.tup xs)):SqT K H a xs:=.inl (.inl h)
theorem Inv.list (I:Inv X pins Z H s) (h:SqL [] H a xs):∃its:List Value,Vals xs its/\PlainL s.heap a its.toArray/\xs.length<=sizeLine:=by
 rcases h with h|⟨o,its,n,hk,hc,hd,hs,hz,r⟩
 .obtain⟨z,its,n,r,e⟩:=h.ok I.hok;exact⟨its,r,⟨_,n,e,rfl,rfl,rfl⟩,z⟩
 .cases hk
theorem Inv.tuple (I:Inv X pins Z H s) (h:SqT [] H a xs):∃its:List Value,Vals xs its/\IsTup s.heap a its.toArray/\xs.length<=sizeLine:=by
 rcases h with h|⟨o,its,n,hk,hc,hs,hz,r⟩
 .obtain⟨⟨z,_⟩,its,r,p⟩:=h.ok I.hok;exact⟨its,r,p,z⟩
 .cases hk
theorem Inv.list_inj (I:Inv X pins Z H s) (h:SqL [] H a xs) (h':SqL [] H a ys):xs=ys:=by
 obtain⟨its,r,⟨o,n,e,_,_,d⟩,_⟩:=I.list h;obtain⟨its',r',⟨o',n',e',_,_,d'⟩,_⟩:=I.list h';rw[e] at e';cases e';rw[d] at d';injection d' with d1 _;have:its=its':=by simpa using congrArg Array.toList d1
 subst this;exact r.inj r'
theorem Inv.tuple_inj (I:Inv X pins Z H s) (h:SqT [] H a xs) (h':SqT [] H a ys):xs=ys:=by
 obtain⟨its,r,⟨o,e,_,n,d⟩,_⟩:=I.tuple h;obtain⟨its',r',⟨o',e',_,n',d'⟩,_⟩:=I.tuple h';rw[e] at e';cases e';rw[d] at d';injection d' with d1 _;have:its=its':=by simpa using congrArg Array.toList d1
 subst this;exact r.inj r'
end
abbrev Cx.wish (X:Cx) (E:Value->Shared->Prop):Cx:={X with xe:=E}
abbrev Cx.nox (X:Cx):Cx:=X.wish λ_ _=>False
theorem Cx.Ok.wish (ok:X.Ok) (E:Value->Shared->Prop):(X.wish E).Ok:=
 ⟨ok.mod,ok.kind,ok.glob,ok.blt,ok.above,ok.inj,ok.has,ok.cab,ok.hd,ok.frames,ok.stk,ok.exf,ok.bs,ok.bsz,ok.noex,ok.exfs,ok.funs,ok.frf⟩
theorem Cx.Ok.unwish (ok:(X.wish E).Ok):X.Ok:=
 ⟨ok.mod,ok.kind,ok.glob,ok.blt,ok.above,ok.inj,ok.has,ok.cab,ok.hd,ok.frames,ok.stk,ok.exf,ok.bs,ok.bsz,ok.noex,ok.exfs,ok.funs,ok.frf⟩
section
theorem Inv.wish (I:Inv X pins Z H s) (E:Value->Shared->Prop):Inv (X.wish E) pins Z H s:=⟨I.ok.wish E,I.os,I.bare,I.base,I.loc,I.cell,I.free,I.freeC,I.pin,I.hok,I.len⟩
theorem Inv.unwish (I:Inv (X.wish E) pins Z H s):Inv X pins Z H s:=⟨I.ok.unwish,I.os,I.bare,I.base,I.loc,I.cell,I.free,I.freeC,I.pin,I.hok,I.len⟩
theorem SP.unwish {D:Ends} {f:Flow} {s':Shared} (h:SP (X.wish E) pins D f s'):SP X pins D f s':=by
 cases f with
 |next=>obtain⟨Z',H',I,q⟩:=h;exact⟨Z',H',I.unwish,q⟩
 |brk=>obtain⟨Z',H',I,q⟩:=h;exact⟨Z',H',I.unwish,q⟩
 |cont=>obtain⟨Z',H',I,q⟩:=h;exact⟨Z',H',I.unwish,q⟩
 |ret u=>obtain⟨v,Z',H',I,r,q⟩:=h;exact⟨v,Z',H',I.unwish,r,q⟩
theorem PSs.nox {st:List Stmt} {t:TS} (h:PSs X.nox st t):PSs X st t:=λpins s Z H D I hw=>
 dn (h pins s Z H D (I.wish _) hw) (λ_ _ q=>q.unwish) λ_ _ z=>False.elim z
end
section
variable {st:Stmt} {rest:List Stmt} {t u:TS} {e:Expr} {te:TE} {pos:Pos}
def FT:TS:=λD Z H=>D.nx Z H
def oR (t u:TS):TS:=λD Z H=>t {D with nx:=u D} Z H
theorem bK:PSs X [] FT:=λ_ _ Z H _ I h=>pI ⟨Z,H,I,h⟩
theorem ah (h1:PS X st t) (h2:PSs X rest u):PSs X (st::rest) (oR t u):=by
 intro pins s Z H D I h;refine Ju (thn (h1 pins s Z H {D with nx:=u D} I h) λf s1 q=>?_);cases f with
 |next=>
  obtain⟨Z',H',I',q⟩:=q;exact h2 pins s1 Z' H' D I' q
 |ret v=>exact q
 |brk=>exact q
 |cont=>exact q
theorem ao (h1:PS X st t):PSs X [st] t:=by
 intro pins s Z H D I h;refine Ju (thn (h1 pins s Z H D I h) λf s1 q=>?_);cases f with
 |next=>exact pI q
 |ret v=>exact q
 |brk=>exact q
 |cont=>exact q
def Gg:TS:=λD Z H=>D.ct Z H
theorem zB:PS X (.Continue pos) Gg:=λ_ _ Z H _ I h=>wpAny_Continue ⟨Z,H,I,h⟩
theorem Inv.quiet (I:Inv X pins Z H s):interactive X.env=false:=by simp[interactive,I.ok.kind]
def Eg (D:Ends) (Z:St):VK:=λ_ H1=>D.nx Z H1
def F5 (te:TE):TS:=λD Z H=>te Z H (Eg D Z)
theorem cU (he:PE X e te) (hs:swapsWith e none pos.line X.env=pure false:=by rfl):PS X (.Expr e pos) (F5 te):=by intro pins s Z H D I h;exact wpAny_Expr_any (thn (he pins s Z H _ I h) λv s1 ⟨x,H1,I1,r1,q1⟩=>⟨Z,H1,I1,q1⟩) I.quiet hs
def tRet (te:TE):TS:=λD Z H=>te Z H D.rt
theorem aX (he:PE X e te):PS X (.Return (some e) pos) (tRet te):=by intro pins s Z H D I h;exact wpAny_Return_some (thn (he pins s Z H _ I h) λv s1 ⟨x,H1,I1,r1,q1⟩=>⟨x,Z,H1,I1,r1,q1⟩)
def iX (t u:TS) (D:Ends) (Z:St):Bool->Hp->Prop:=λb H1=>if b=true then t D Z H1 else u D Z H1
def tIfS (c:TT) (t u:TS):TS:=λD Z H=>c Z H (iX t u D Z)
theorem br {c:Expr} {a b:List Stmt} {tc:TT} (hc:PT X c tc) (ha:PSs X a t) (hb:PSs X b u):PS X (.If c a b pos) (tIfS tc t u):=by
 intro pins s Z H D I h;refine wpAny_If (thn (hc pins s Z H _ I h) λd s1 ⟨H1,I1,q1⟩=>?_);cases d with
 |true=>exact ha pins s1 Z H1 D I1 q1
 |false=>exact hb pins s1 Z H1 D I1 q1
end
abbrev TG:=V->St->Hp->(St->Hp->Prop)->Prop
abbrev TGs:=List V->St->Hp->(St->Hp->Prop)->Prop
def PG (X:Cx) (target:Expr) (t:TG):Prop:=
 ∀(pins:List (Addr×Obj)) (s:Shared) (Z:St) (H:Hp) (v:V) (u:Value) (Q:St->Hp->Prop),Inv X pins Z H s->ax v u->t v Z H Q->
  wpAny (model X.prog X.w) X.A (assign target X.env u) (λ_ s'=>∃Z' H',Inv X pins Z' H' s'/\Q Z' H') X.xe s
def PGs (X:Cx) (ts:List Expr) (t:TGs):Prop:=
 ∀(pins:List (Addr×Obj)) (s:Shared) (Z:St) (H:Hp) (vs:List V) (us:List Value) (Q:St->Hp->Prop),Inv X pins Z H s->Vals vs us->t vs Z H Q->
  wpAny (model X.prog X.w) X.A (assignInOrder ((assignEach ts X.env).map (·.2)) us) (λ_ s'=>∃Z' H',Inv X pins Z' H' s'/\Q Z' H') X.xe s
abbrev TSet:=V->V->V->Hp->(Hp->Prop)->Prop
def PSet (X:Cx) (t:TSet):Prop:=
 ∀(pins:List (Addr×Obj)) (s:Shared) (Z:St) (H:Hp) (o i v:V) (ov iv u:Value) (Q:Hp->Prop),Inv X pins Z H s->ax o ov->ax i iv->ax v u->t o i v H Q->
  wpAny (model X.prog X.w) X.A (setItem ov iv u) (λ_ s'=>∃H',Inv X pins Z H' s'/\Q H') X.xe s
section
variable {pos:Pos}
def dg (i:Nat):TG:=λv Z H Q=>Q (Z.set i (some v)) H
theorem ay {i:Nat} {x:Str} (hN:X.N.Nodup) (hi:X.N[i]?=some x) (hx:Loc X.env.scope x) (hf:X.fn x=true\/X.env.scope.names.lookup x=some .local:=by first|exact .inl rfl|exact .inr rfl|assumption):PG X (.Name x pos) (dg i):=by intro pins s Z H v u Q I r h;exact Jr (iH I hN hi hx r (λs' I'=>⟨_,H,I',h⟩) hf)
def oU:TGs:=λvs Z H Q=>vs=[]/\Q Z H
def Fu (u:TGs) (r:List V) (Q:St->Hp->Prop):St->Hp->Prop:=λZ' H'=>u r Z' H' Q
def Fv (t:TG) (u:TGs) (vs:List V) (Z:St) (H:Hp) (Q:St->Hp->Prop) (v:V) (r:List V):Prop:=vs=v::r/\t v Z H (Fu u r Q)
def iU (t:TG) (u:TGs):TGs:=λvs Z H Q=>Exists (Ex2 (Fv t u vs Z H Q))
theorem c_:PGs X [] oU:=by intro pins s Z H vs us Q I r h;obtain⟨e,h⟩:=h;subst e;cases r;exact Jd ⟨Z,H,I,h⟩
theorem aW {e:Expr} {es:List Expr} {t:TG} {u:TGs} (h1:PG X e t) (h2:PGs X es u)
  (hs:(assignEach (e::es) X.env).map (·.2)=assign e X.env::(assignEach es X.env).map (·.2):=by rfl):PGs X (e::es) (iU t u):=by
 intro pins s Z H vs us Q I r h;obtain⟨v,vr,e1,h⟩:=h;subst e1;cases r with
 |cons r rr=>
  rw[hs];refine sF (thn (h1 pins s Z H _ _ _ I r h) λ_ s1 ⟨Z1,H1,I1,q1⟩=>?_);exact h2 pins s1 Z1 H1 _ _ Q I1 rr q1
def Hh (K:W.Frag) (n:Nat) (t:TGs) (v:V) (Z:St) (H:Hp) (Q:St->Hp->Prop) (a:Addr) (xs:List V):Prop:=v=.ref a/\SqT K H a xs/\xs.length=n/\t xs Z H Q
def oS (K:W.Frag) (n:Nat) (t:TGs):TG:=λv Z H Q=>Exists (Ex2 (Hh K n t v Z H Q))
theorem de {es:List Expr} {k:Nat} {t:TGs} (hc:X.calm=true) (h:PGs X es t)
  (hn:(assignEach es X.env).length=es.length:=by rfl) (hst:(assignEach es X.env).findIdx? (·.1)=none:=by rfl):PG X (.Tuple es k pos) (oS [] es.length t):=by
 intro pins s Z H v u Q I r hw;obtain⟨a,xs,e1,hq,hl,hw⟩:=hw;subst e1;cases r;obtain⟨its,rv,ht,hz⟩:=I.tuple hq;refine assign_Tuple_tuple (I.ok.hd hc) ht (by simp[hn,<-hl,rv.length]) hst λh' hx=>?_;have I1:Inv X pins Z H {s with heap:=h'}:=I.kept (t':=s.toks) λb o e=>hx b o (bJ (aK e)) e;exact h pins _ Z H xs _ Q I1 (by simpa using rv) hw
def Hi (t:TSet) (o v:V) (Z:St) (Q:St->Hp->Prop):VK:=λi H2=>t o i v H2 (Q Z)
def Hj (ti:TE) (t:TSet) (v:V) (Z:St) (Q:St->Hp->Prop):VK:=λo H1=>ti Z H1 (Hi t o v Z Q)
def gSub (to ti:TE) (t:TSet):TG:=λv Z H Q=>to Z H (Hj ti t v Z Q)
theorem qN {o i:Expr} {to ti:TE} {t:TSet} (ho:PE X o to) (hi:PE X i ti) (hs:PSet X t)
  (ha:∀v,assign (.Subscript o i pos) X.env v=(do
   let ov <-holding [v] (eval o X.env)
   let iv <-holding [v,ov] (eval i X.env)
   standAt pos
   holding [v,ov,iv] (setItem ov iv v)
   release [v,ov,iv] []):=by intro _;rfl):PG X (.Subscript o i pos) (gSub to ti t):=by
 intro pins s Z H v u Q I r h;rw[ha];refine af (eg (thn (ho pins s Z H _ I h) λov s1 ⟨x,H1,I1,r1,q1⟩=>?_));refine af (eg (thn (hi pins s1 Z H1 _ I1 q1) λiv s2 ⟨y,H2,I2,r2,q2⟩=>?_));refine af (nz (af (eg (thn (hs pins s2 Z H2 x y v ov iv u _ I2 r1 r2 r q2) λ_ s3 ⟨H3,I3,q3⟩=>?_))));exact wpAny_release ⟨Z,H3,I3,q3⟩
def qX (g:TG) (D:Ends) (Z:St):VK:=λx H1=>g x Z H1 D.nx
def mn (te:TE) (g:TG):TS:=λD Z H=>te Z H (qX g D Z)
theorem gh {tg e:Expr} {te:TE} {g:TG} (he:PE X e te) (hg:PG X tg g) (hs:swapsWithSole [tg] e pos.line X.env=pure false:=by rfl) (hw:swappedStores [tg] e X.env=pure none:=by rfl)
  (h1:(assignEach [tg] X.env).map (·.2)=[assign tg X.env]:=by rfl):PS X (.Assign [tg] e pos) (mn te g):=by
 intro pins s Z H D I h;refine wpAny_Assign_stores (thn (he pins s Z H _ I h) λv s1 ⟨x,H1,I1,r1,q1⟩=>?_) hs hw;rw[h1];exact thn (hg pins s1 Z H1 x v _ I1 r1 q1) λ_ s2 q=>q
theorem az {i:Nat} {x:Str} {e:Expr} {te:TE} {pos':Pos} (hN:X.N.Nodup) (hi:X.N[i]?=some x) (hx:Loc X.env.scope x) (he:PE X e te) (hs:swapsWith e (some (.Name x pos')) pos.line X.env=pure false:=by rfl) (hf:X.fn x=true\/X.env.scope.names.lookup x=some .local:=by first|exact .inl rfl|exact .inr rfl|assumption) :
  PS X (.Assign [.Name x pos'] e pos) (mn te (dg i)):=by
 intro pins s Z H D I h;refine wpAny_Assign_Name (thn (he pins s Z H _ I h) λv s1 ⟨y,H1,I1,r1,q1⟩=>?_) hs;exact iH I1 hN hi hx r1 (λs2 I2=>⟨_,H1,I2,q1⟩) hf
end
section
variable {pos:Pos}
def tWhN (tb:TS) (D:Ends) (W:Nat->St->Hp->Prop) (m:Nat) (Z:St) (H1:Hp) (N:St->Hp->Prop):Prop:=(∀Z' H',N Z' H'->∃m',m'<m/\W m' Z' H')/\tb {D with nx:=N,ct:=N,bk:=D.nx} Z H1
def tWhK (tb:TS) (D:Ends) (W:Nat->St->Hp->Prop) (m:Nat) (Z:St):Bool->Hp->Prop:=λb H1=>if b=true then Exists (tWhN tb D W m Z H1) else D.nx Z H1
def tWhB (c:TT) (tb:TS) (D:Ends) (Z:St) (H:Hp) (W:Nat->St->Hp->Prop):Prop:=(∃m,W m Z H)/\∀m Z H,W m Z H->c Z H (tWhK tb D W m Z)
def qD (c:TT) (tb:TS):TS:=λD Z H=>Exists (tWhB c tb D Z H)
theorem nR {c:Expr} {body:List Stmt} {tc:TT} {tb:TS} (hp:PassesOwn (model X.prog X.w) X.A X.env X.xe) (hc:PT X c tc) (hb:PSs X body tb):PS X (.While c body [] pos) (qD tc tb):=by
 intro pins s Z H D I h;obtain⟨W,⟨m0,w0⟩,turn⟩:=h;refine wpAny_While (codeAny_whileLoop (λn s'=>∃Z' H',Inv X pins Z' H' s'/\W n Z' H') ?_ m0 ⟨Z,H,I,w0⟩);rintro n s1 ⟨Z1,H1,I1,w1⟩;refine ke hp (thn (hc pins s1 Z1 H1 _ I1 (turn n Z1 H1 w1)) λb s2 ⟨H2,I2,q2⟩=>?_);cases b with
 |true=>
  obtain⟨N,hN,q2⟩:=q2;rw[KI rfl];refine ke hp (thn (hb pins s2 Z1 H2 _ I2 q2) λf s3 q3=>?_);cases f with
  |next=>
   obtain⟨Z3,H3,I3,n3⟩:=q3;obtain⟨m',hm,w3⟩:=hN Z3 H3 n3;exact⟨m',hm,Z3,H3,I3,w3⟩
  |cont=>
   obtain⟨Z3,H3,I3,n3⟩:=q3;obtain⟨m',hm,w3⟩:=hN Z3 H3 n3;exact⟨m',hm,Z3,H3,I3,w3⟩
  |brk=>exact q3
  |ret v=>exact q3
 |false=>
  rw[KH bN];exact pI ⟨Z1,H2,I2,q2⟩
end
structure It where
 go:Nat->Hp->Prop
 yld:Nat->Hp->V->Hp->Prop
 stop:Nat->Hp->Prop
def dZ (X:Cx) (pins:List (Addr×Obj)) (H:Hp) (b:Addr):Prop:=
 H b=none/\b≠X.env.locals/\b∉X.fs/\(b∈X.ex\/X.s₀.heap.objs.size<=b)/\(∀x c,X.env.cells.lookup x=some c->c≠b)/\∀p∈X.pn++pins,p.1≠b
theorem Inv.fpOk {b:Addr} (I:Inv X pins Z H s) (hb:s.heap.objs.size<=b) (hn:H' b=none):dZ X pins H' b:=by
 refine⟨hn,j4 (b_ I.lt hb),I.nofs hb,.inr (cF I.sz hb),λx c e z=>?_,λp hp z=>?_⟩
 .obtain⟨v,q⟩:=I.cell x c e;exact absurd (b_ q.lt (by rw[z];exact hb)) (ef _)
 .exact absurd (b_ (aK (I.pin p hp).1) (by rw[z];exact hb)) (ef _)
structure Turn (P:Program) (w:World) (K:W.Frag) (tg:Expr) (J:It) (fp:List Addr) (it:Addr) (tn:Nat->Heap->Prop):Prop where
 mem:it∈fp
 obj:∀i h,tn i h->∀b∈fp,∃o,h.get? b=some o/\∀v,o.data≠.cell v
 keep:∀i h h',tn i h->(∀b∈fp,∀o,h.get? b=some o->h'.get? b=some o)->tn i h'
 item:∀(X:Cx),X.prog=P->X.w=w->X.K=K->X.calm=true->∀(i:Nat) (pins:List (Addr×Obj)) (s:Shared) (Z:St) (H:Hp) (E:Value->Shared->Prop),Inv X pins Z H s->(∀b∈fp,dZ X pins H b)->tn i s.heap->J.go i H->
  wpAny (model P w) X.A (pyNext (.ref it)) (λr s1=>∃u,r=some u/\
   wpAny (model P w) X.A (letOwnedTupleGo tg (.ref it) u) (λ_ s2=>∃x H',Inv X pins Z H' s2/\ax x u/\J.yld i H x H'/\tn (i+1) s2.heap/\∀b∈fp,H' b=none) E s1) E s
 done:∀(X:Cx),X.prog=P->X.w=w->X.K=K->X.calm=true->∀(i:Nat) (pins:List (Addr×Obj)) (s:Shared) (Z:St) (H:Hp) (E:Value->Shared->Prop),Inv X pins Z H s->(∀b∈fp,dZ X pins H b)->tn i s.heap->J.stop i H->
  wpAny (model P w) X.A (pyNext (.ref it)) (λr s1=>r=none/\Inv X pins Z H s1) E s
 self:∀(A:Around) (i:Nat) (s:Shared) (Q:Value->Shared->Prop) (E:Value->Shared->Prop),tn i s.heap->Q (.ref it) s->wpAny (model P w) A (pyIter (.ref it)) Q E s
abbrev TI:=St->Hp->(It->Hp->Prop)->Prop
def PIE (X:Cx) (pins:List (Addr×Obj)) (Z:St) (tg:Expr) (R:It->Hp->Prop) (itv:Value) (s2:Shared):Prop:=
 ∃(it:Addr) (fp:List Addr) (tn:Nat->Heap->Prop) (J:It) (H':Hp),itv=.ref it/\Inv X pins Z H' s2/\Turn X.prog X.w X.K tg J fp it tn/\tn 0 s2.heap/\(∀b∈fp,dZ X pins H' b)/\R J H'
def PI (X:Cx) (tg iter:Expr) (wi:TI):Prop:=
 ∀(pins:List (Addr×Obj)) (s:Shared) (Z:St) (H:Hp) (R:It->Hp->Prop),Inv X pins Z H s->wi Z H R->
  wpAny (model X.prog X.w) X.A (eval iter X.env) (λv s1=>wpAny (model X.prog X.w) X.A (pyIter v) (PIE X pins Z tg R) X.xe s1) X.xe s
theorem mh {M:Model} {tg:Expr} {it:Addr} {u:Value} {o:Obj} {n:String} {vs:Array Value} {Q:Unit->Shared->Prop} (ho:s.heap.get? it=some o) (hc:o.cls=.type n) (hd:o.data=.fields vs)
  (hn:["enumerate","zip","dict_itemiterator","dict_reverseitemiterator","odict_iterator","itertools.zip_longest","itertools.pairwise"].contains n=false) (hQ:Q () s):wpAny M A (letOwnedTupleGo tg (.ref it) u) Q E s:=by
 unfold letOwnedTupleGo;cases tg<;>first
  |exact aq hQ
  |(cases u<;>first
    |exact aq hQ
    |(refine af (wpAny_load ho ?_)
      rw[hc,hd];show wpAny M A (if (["enumerate","zip","dict_itemiterator","dict_reverseitemiterator","odict_iterator","itertools.zip_longest","itertools.pairwise"].contains n&&vs[0]?==some (rawInt _))=true then _ else _) Q E s;rw[KH (by intro h;rw[hn,eX] at h;cases h)];exact aq hQ))
def Itl (K:W.Frag) (a:Addr):It:=
 ⟨λi H=>∃xs x,SqL K H a xs/\xs[i]?=some x,λi H x H'=>H'=H/\∀xs,SqL K H a xs->xs[i]?=some x,λi H=>∃xs,SqL K H a xs/\xs.length<=i⟩
def Itt (K:W.Frag) (a:Addr):It:=
 ⟨λi H=>∃xs x,SqT K H a xs/\xs[i]?=some x,λi H x H'=>H'=H/\∀xs,SqT K H a xs->xs[i]?=some x,λi H=>∃xs,SqT K H a xs/\xs.length<=i⟩
def Itr (lo:Int) (n:Nat):It:=⟨λi _=>i<n,λi H x H'=>H'=H/\x=.int (lo+i),λi _=>n<=i⟩
theorem Ag {tg:Expr} (a it:Addr):Turn P w K tg (Itl [] a) [it] it (λi h=>h.IsListIter it a i) where
 mem:=by simp
 obj:=λi h st b hb=>by
  have e:b=it:=by simpa using hb
  subst e;obtain⟨o,e,c,d⟩:=st;exact⟨o,e,λv z=>by rw[d] at z;cases z⟩
 keep:=λi h h' st k=>st.at λo e=>k it (by simp) o e
 item:=by intro X hP hw hK hc i pins s Z H E I hf st hg;subst hP hw hK;obtain⟨xs,x,hq,hx⟩:=hg;obtain⟨its,rv,p,hz⟩:=I.list hq;obtain⟨u,hu,ru⟩:=rv.get hx;obtain⟨f0,f1,f2,f3,f4,f5⟩:=hf it (by simp);refine wpAny_pyNext_list_item st p.isList (x:=u) (by simpa using hu) λh' st' sb=>?_;have I1:Inv X pins Z H {s with heap:=h'}:=I.turned (t':=s.toks) (λb o hb e=>(sb.2 b hb).trans e) f0 f1 f3 f4 f5;obtain⟨o,e,c,d⟩:=id st';exact⟨u,rfl,mh (s:={s with heap:=h'}) e c d (by decide) ⟨x,H,I1,ru,⟨rfl,λys hy=>by rw[I.list_inj hy hq];exact hx⟩,st',λb hb=>(hf b hb).1⟩⟩
 done:=by intro X hP hw hK hc i pins s Z H E I hf st hg;subst hP hw hK;obtain⟨xs,hq,hx⟩:=hg;obtain⟨its,rv,p,hz⟩:=I.list hq;obtain⟨f0,f1,f2,f3,f4,f5⟩:=hf it (by simp);have hl:=rv.length;exact wpAny_pyNext_list_end (I.ok.hd hc) st p.isList (by simp;lia) λh' eb=>⟨rfl,I.turned (t':=s.toks) (λb o hb e=>eb b o hb e) f0 f1 f3 f4 f5⟩
 self:=λ_ _ _ _ _ st h=>wpAny_pyIter_listiter st h
theorem zM {tg:Expr} (a it:Addr):Turn P w K tg (Itt [] a) [it] it (λi h=>h.IsTupleIter it a i) where
 mem:=by simp
 obj:=λi h st b hb=>by
  have e:b=it:=by simpa using hb
  subst e;obtain⟨o,e,c,d⟩:=st;exact⟨o,e,λv z=>by rw[d] at z;cases z⟩
 keep:=λi h h' st k=>st.at λo e=>k it (by simp) o e
 item:=by intro X hP hw hK hc i pins s Z H E I hf st hg;subst hP hw hK;obtain⟨xs,x,hq,hx⟩:=hg;obtain⟨its,rv,p,hz⟩:=I.tuple hq;obtain⟨u,hu,ru⟩:=rv.get hx;obtain⟨f0,f1,f2,f3,f4,f5⟩:=hf it (by simp);refine wpAny_pyNext_tuple_item st (show s.heap.IsTuple a its.toArray from p) (x:=u) (by simpa using hu) λh' st' sb=>?_;have I1:Inv X pins Z H {s with heap:=h'}:=I.turned (t':=s.toks) (λb o hb e=>(sb.2 b hb).trans e) f0 f1 f3 f4 f5;obtain⟨o,e,c,d⟩:=id st';exact⟨u,rfl,mh (s:={s with heap:=h'}) e c d (by decide) ⟨x,H,I1,ru,⟨rfl,λys hy=>by rw[I.tuple_inj hy hq];exact hx⟩,st',λb hb=>(hf b hb).1⟩⟩
 done:=by intro X hP hw hK hc i pins s Z H E I hf st hg;subst hP hw hK;obtain⟨xs,hq,hx⟩:=hg;obtain⟨its,rv,p,hz⟩:=I.tuple hq;obtain⟨f0,f1,f2,f3,f4,f5⟩:=hf it (by simp);have hl:=rv.length;exact wpAny_pyNext_tuple_end (I.ok.hd hc) st (show s.heap.IsTuple a its.toArray from p) (by simp;lia) λh' eb=>⟨rfl,I.turned (t':=s.toks) (λb o hb e=>eb b o hb e) f0 f1 f3 f4 f5⟩
 self:=λ_ _ _ _ _ st h=>wpAny_pyIter_tupleiter st h
theorem zN {tg:Expr} (it:Addr) (lo:Int) (n:Nat):Turn P w K tg (Itr lo n) [it] it (λi h=>IsRangeIter h it (lo+(i:Nat)*1) ((n:Int)-(i:Nat)) 1) where
 mem:=by simp
 obj:=λi h st b hb=>by
  have e:b=it:=by simpa using hb
  subst e;exact⟨_,st,λv z=>by
   have z':Data.fields _=Data.cell v:=z;cases z'⟩
 keep:=λi h h' st k=>k it (by simp) _ st
 item:=by intro X hP hw hK hc i pins s Z H E I hf st hg;subst hP hw hK;obtain⟨f0,f1,f2,f3,f4,f5⟩:=hf it (by simp);have W:=Jb (prog:=X.prog) (w:=X.w) (I.ok.hd hc) it lo 1 n;refine W.item i s _ _ hg st λv h' tk hv st' kk=>?_;obtain⟨t,rfl⟩:=hv;have I1:Inv X pins Z H {s with heap:=h',toks:=tk}:=I.turned (λb o hb e=>kk b o (by simpa using hb) e) f0 f1 f3 f4 f5;refine⟨_,rfl,mh (s:={s with heap:=h',toks:=tk}) (n:="range_iterator") st' rfl rfl (by decide) ⟨.int (lo+i),H,I1,⟨t,?_⟩,⟨rfl,rfl⟩,st',λb hb=>(hf b hb).1⟩⟩;rw[Int.mul_one]
 done:=by intro X hP hw hK hc i pins s Z H E I hf st hg;subst hP hw hK;obtain⟨f0,f1,f2,f3,f4,f5⟩:=hf it (by simp);exact JI (I.ok.hd hc) st (by have:n<=i:=hg;lia) λh' eb=>⟨rfl,I.turned (t':=s.toks) (λb o hb e=>eb b o hb e) f0 f1 f3 f4 f5⟩
 self:=λ_ _ _ _ _ st h=>JF st h
end L2
namespace L2
open PySem PySem.Spec PyProof.Rows
section
variable {tg:Expr}
def Fo (K:W.Frag) (R:It->Hp->Prop) (x:V) (H1:Hp) (a:Addr):Prop:=x=.ref a/\(∃xs,SqL K H1 a xs)/\R (Itl K a) H1
def Fn (K:W.Frag) (R:It->Hp->Prop):VK:=λx H1=>Exists (Fo K R x H1)
def G7 (K:W.Frag) (tl:TE):TI:=λZ H R=>tl Z H (Fn K R)
def GZ (K:W.Frag) (R:It->Hp->Prop) (x:V) (H1:Hp) (a:Addr):Prop:=x=.ref a/\(∃xs,SqT K H1 a xs)/\R (Itt K a) H1
def GY (K:W.Frag) (R:It->Hp->Prop):VK:=λx H1=>Exists (GZ K R x H1)
def rF (K:W.Frag) (tl:TE):TI:=λZ H R=>tl Z H (GY K R)
theorem cC {l:Expr} {tl:TE} (hl:PE X l tl):PI X tg l (G7 [] tl):=by
 intro pins s Z H R I h;refine thn (hl pins s Z H _ I h) λv s1 ⟨x,H1,I1,r1,q1⟩=>?_;obtain⟨a,e,⟨xs,hq⟩,q⟩:=q1;subst e;cases r1;obtain⟨its,rv,p,hz⟩:=I1.list hq;refine yS p.isList ?_;refine⟨s1.heap.objs.size,[s1.heap.objs.size],_,_,H1,rfl,I1.kept (t':=s1.toks) λb o e=>aR _ e,Ag a _,⟨_,bP _ rfl,rfl,rfl⟩,λb hb=>?_,q⟩;have e:b=s1.heap.objs.size:=by simpa using hb
 subst e;exact I1.fpOk (ar _) (I1.hok.fresh (ar _))
theorem lQ {l:Expr} {tl:TE} (hl:PE X l tl):PI X tg l (rF [] tl):=by
 intro pins s Z H R I h;refine thn (hl pins s Z H _ I h) λv s1 ⟨x,H1,I1,r1,q1⟩=>?_;obtain⟨a,e,⟨xs,hq⟩,q⟩:=q1;subst e;cases r1;obtain⟨its,rv,p,hz⟩:=I1.tuple hq;refine wpAny_pyIter_tuple (show s1.heap.IsTuple a its.toArray from p) ?_;refine⟨s1.heap.objs.size,[s1.heap.objs.size],_,_,H1,rfl,I1.kept (t':=s1.toks) λb o e=>aR _ e,zM a _,⟨_,bP _ rfl,rfl,rfl⟩,λb hb=>?_,q⟩;have e:b=s1.heap.objs.size:=by simpa using hb
 subst e;exact I1.fpOk (ar _) (I1.hok.fresh (ar _))
theorem BE {R:It->Hp->Prop} {lo hi:Int} {t u v:Tok} {tk:Nat} (I:Inv X pins Z H s) (h1:-(2 ^ 62)<=lo) (h2:lo<2 ^ 62) (h3:-(2 ^ 62)<=hi) (h4:hi<2 ^ 62)
  (q:R (Itr lo (hi-lo).toNat) H):wpAny (model X.prog X.w) X.A (pyIter (.ref s.heap.objs.size)) (PIE X pins Z tg R) E {s with heap:=s.heap.push {cls:=.type "range",data:=.fields #[.int lo t,.int hi u,.int 1 v]},toks:=tk}:=by
 refine JE (HH ..) (small_one h1 h2 h3 h4) ?_;have I1:Inv X pins Z H {s with heap:=s.heap.push {cls:=.type "range",data:=.fields #[.int lo t,.int hi u,.int 1 v]},toks:=tk}:=I.kept λb o e=>aR _ e;refine⟨(s.heap.push {cls:=.type "range",data:=.fields #[.int lo t,.int hi u,.int 1 v]}).objs.size,[(s.heap.push {cls:=.type "range",data:=.fields #[.int lo t,.int hi u,.int 1 v]}).objs.size],_,_,H,rfl,
  I1.kept (t':=tk) λb o e=>aR _ e,zN _ lo (hi-lo).toNat,?_,λb hb=>?_,q⟩
 .have e1:lo+((0:Nat):Int)*1=lo:=by simp
  have e2:(((hi-lo).toNat:Nat):Int)-((0:Nat):Int)=Builtin.Range.rangeSize lo hi 1:=by rw[rangeSize_one];split<;>lia
  show IsRangeIter _ _ (lo+((0:Nat):Int)*1) ((((hi-lo).toNat:Nat):Int)-((0:Nat):Int)) 1;rw[e1,e2];exact bP _ rfl
 .have e:b=(s.heap.push {cls:=.type "range",data:=.fields #[.int lo t,.int hi u,.int 1 v]}).objs.size:=by simpa using hb
  subst e;exact I1.fpOk (ar _) (I1.hok.fresh (ar _))
def Fm (R:It->Hp->Prop) (vs:List V) (H1:Hp) (j:Int):Prop:=vs=[.int j]/\-(2 ^ 62)<=j/\j<2 ^ 62/\R (Itr 0 j.toNat) H1
def Fl (R:It->Hp->Prop):List V->Hp->Prop:=λvs H1=>Exists (Fm R vs H1)
def G6 (ta:TA):TI:=λZ H R=>ta Z H (Fl R)
theorem jo {a:Expr} {ta:TA} {p pos:Pos} (hg:Gl X "range") (hm:X.mg "range" = none) (ha:PA X [a] ta) (hs:starEach [a] X.env=[(false,eval a X.env)]:=by rfl):PI X tg (.Call (.Name "range" p) [a] [] pos) (G6 ta):=by
 intro pins s Z H R I h;refine Call_ (jL I hg hm boot_range (sv (thn (ha pos pins s Z H _ I h) λus s1 ⟨vs,H1,I1,r1,q1⟩=>?_) hs rfl));obtain⟨j,e,q1,q2,q⟩:=q1;subst e;cases r1 with
 |cons r rr=>
  cases rr;obtain⟨t,rfl⟩:=r;exact call_range_1 (BE I1 (by lia) (by lia) q1 q2 (by simpa using q))
def FY (J:It) (g:TG) (tb:TS) (D:Ends) (W:Nat->Nat->St->Hp->Prop) (i m:Nat) (Z:St) (H:Hp) (N:St->Hp->Prop):Prop:=(∀Z' H',N Z' H'->∃m',m'<m/\W (i+1) m' Z' H')/\∀x H',J.yld i H x H'->g x Z H' (tb {D with nx:=N,ct:=N,bk:=D.nx})
def F4 (g:TG) (tb:TS) (D:Ends) (Z:St) (J:It) (H1:Hp) (W:Nat->Nat->St->Hp->Prop):Prop:=(∃m,W 0 m Z H1)/\∀i m Z H,W i m Z H->(J.stop i H/\D.nx Z H)\/(J.go i H/\Exists (FY J g tb D W i m Z H))
def FZ (g:TG) (tb:TS) (D:Ends) (Z:St):It->Hp->Prop:=λJ H1=>Exists (F4 g tb D Z J H1)
def tFor (wi:TI) (g:TG) (tb:TS):TS:=λD Z H=>wi Z H (FZ g tb D Z)
def lP (fp:List Addr) (h:Heap):List (Addr×Obj):=fp.filterMap λb=>(h.get? b).map λo=>(b,o)
theorem nE {fp:List Addr} {h:Heap} {b:Addr} {o:Obj} (hb:b∈fp) (e:h.get? b=some o):(b,o)∈lP fp h:=pq.mpr ⟨b,hb,by rw[e];rfl⟩
theorem AL {fp:List Addr} {h:Heap} {p:Addr×Obj} (hp:p∈lP fp h):p.1∈fp/\h.get? p.1=some p.2:=by
 obtain⟨b,hb,e⟩:=pq.mp hp;cases q:h.get? b with
 |none=>rw[q] at e;cases e
 |some o=>
  rw[q] at e;have e':(b,o)=p:=dh e;subst e';exact⟨hb,q⟩
theorem Inv.pinned {fp:List Addr} (I:Inv X pins Z H s) (hf:∀b∈fp,dZ X pins H b) (ho:∀b∈fp,∃o,s.heap.get? b=some o/\∀v,o.data≠.cell v):Inv X (pins++lP fp s.heap) Z H s:=
 I.pins_of λp hp=>(bh.mp hp).elim (λz=>I.pin p (fU _ z)) λz=>by
  obtain⟨hb,e⟩:=AL z;obtain⟨f0,f1,f2,_⟩:=hf p.1 hb;obtain⟨o,e',d⟩:=ho p.1 hb;rw[e] at e';cases e';exact⟨e,f0,f1,f2,d⟩
theorem Inv.unpinned {pins pl:List (Addr×Obj)} (I:Inv X (pins++pl) Z H s):Inv X pins Z H s:=I.pins_of λp hp=>I.pin p (fU _ (dQ _ hp))
theorem cD {iter:Expr} {body:List Stmt} {wi:TI} {g:TG} {tb:TS} {pos:Pos} (hp:PassesOwn (model X.prog X.w) X.A X.env X.xe) (hc:X.calm=true) (hi:PI X tg iter wi) (hg:PG X tg g) (hb:PSs X body tb)
  (hs:∀x,foldedSetIterable iter X.env x=pure x:=by intro _;rfl):PS X (.For tg iter body [] pos) (tFor wi g tb):=by
 intro pins s Z H D I h;refine wpAny_For (thn (hi pins s Z H _ I h) λv s1 h1=>thn h1 λitv s2 h2=>?_) hs;obtain⟨it,fp,tn,J,H2,e,I2,T,st2,f2,W,⟨m0,w0⟩,turn⟩:=h2;subst e;have stat:∀{H':Hp},(∀b∈fp,H' b=none)->∀b∈fp,dZ X pins H' b:=λhn b hb=>⟨hn b hb,(f2 b hb).2⟩;refine codeAny_forLoop_any (λn s'=>∃i Z' H',Inv X pins Z' H' s'/\tn i s'.heap/\(∀b∈fp,H' b=none)/\W i n Z' H') ?_ m0 ⟨0,Z,H2,I2,st2,λb hb=>(f2 b hb).1,w0⟩;rintro n s3 ⟨i,Z3,H3,I3,st3,fr3,w3⟩;rcases turn i n Z3 H3 w3 with ⟨stop,qn⟩|⟨go,N,hN,step⟩
 .refine ke hp (thn (T.done X rfl rfl rfl hc i pins s3 Z3 H3 X.xe I3 (stat fr3) st3 stop) λr s4 ⟨hr,I4⟩=>?_);subst hr;exact pI ⟨Z3,H3,I4,qn⟩
 .refine ke hp (thn (T.item X rfl rfl rfl hc i pins s3 Z3 H3 X.xe I3 (stat fr3) st3 go) λr s4 ⟨u,hr,h4⟩=>?_);subst hr;refine ke hp (thn h4 λ_ s5 ⟨x,H5,I5,r5,y5,st5,fr5⟩=>?_);have I5':=I5.pinned (stat fr5) (T.obj _ _ st5);refine ke hp (thn (hg _ s5 Z3 H5 x u _ I5' r5 (step x H5 y5)) λ_ s6 ⟨Z6,H6,I6,q6⟩=>?_);refine ke hp (thn (hb _ s6 Z6 H6 _ I6 q6) λf s7 q7=>?_);have again:∀{Z7:St} {H7:Hp},Inv X (pins++lP fp s5.heap) Z7 H7 s7->N Z7 H7->∃m,m<n/\∃i Z' H',Inv X pins Z' H' s7/\tn i s7.heap/\(∀b∈fp,H' b=none)/\W i m Z' H':=λ{Z7 H7} I7 n7=>by
   obtain⟨m',hm,w7⟩:=hN Z7 H7 n7;refine⟨m',hm,i+1,Z7,H7,I7.unpinned,T.keep _ _ _ st5 λb hb o e=>(I7.pin (b,o) (fU _ (fU _ (nE hb e)))).1,λb hb=>?_,w7⟩;obtain⟨o,e,d⟩:=T.obj _ _ st5 b hb;exact (I7.pin (b,o) (fU _ (fU _ (nE hb e)))).2.1
  cases f with
  |next=>obtain⟨Z7,H7,I7,n7⟩:=q7;exact again I7 n7
  |cont=>obtain⟨Z7,H7,I7,n7⟩:=q7;exact again I7 n7
  |brk=>obtain⟨Z7,H7,I7,q7⟩:=q7;exact⟨Z7,H7,I7.unpinned,q7⟩
  |ret v=>obtain⟨x7,Z7,H7,I7,r7,q7⟩:=q7;exact⟨x7,Z7,H7,I7.unpinned,r7,q7⟩
end
theorem eu {a:Addr} {g:TG} {tb:TS} {D:Ends} (Pv:Nat->St->Hp->Prop) (h0:Pv 0 Z H) (hl:∀i Z H,i<=xs.length->Pv i Z H->SqL K H a xs)
  (hs:∀i x Z H,xs[i]?=some x->Pv i Z H->g x Z H λZ2 H2=>tb {D with nx:=Pv (i+1),ct:=Pv (i+1),bk:=D.nx} Z2 H2) (hd:∀Z H,Pv xs.length Z H->D.nx Z H) :
  ∃W:Nat->Nat->St->Hp->Prop,(∃m,W 0 m Z H)/\∀i m Z H,W i m Z H->
   ((Itl K a).stop i H/\D.nx Z H)\/((Itl K a).go i H/\∃N:St->Hp->Prop,(∀Z' H',N Z' H'->∃m',m'<m/\W (i+1) m' Z' H')/\∀x H',(Itl K a).yld i H x H'->g x Z H' λZ2 H2=>tb {D with nx:=N,ct:=N,bk:=D.nx} Z2 H2):=by
 refine⟨λi m Z H=>m=xs.length-i/\i<=xs.length/\Pv i Z H,⟨xs.length,by simp,aU _,h0⟩,?_⟩;rintro i m Z H ⟨rfl,hi,p⟩;have q:=hl i Z H hi p;by_cases hlt:i<xs.length
 .refine .inr ⟨⟨xs,xs[i],q,by simp[hlt]⟩,Pv (i+1),λZ' H' p'=>⟨xs.length-(i+1),by lia,rfl,hlt,p'⟩,λx H' y=>?_⟩;obtain⟨e,y⟩:=y;subst e;exact hs i x Z _ (y xs q) p
 .have e:i=xs.length:=by lia
  subst e;exact .inl ⟨⟨xs,q,ar _⟩,hd Z H p⟩
theorem vZ {a:Addr} {g:TG} {tb:TS} {D:Ends} (Pv:Nat->St->Hp->Prop) (h0:Pv 0 Z H) (hl:∀i Z H,i<=xs.length->Pv i Z H->SqT K H a xs)
  (hs:∀i x Z H,xs[i]?=some x->Pv i Z H->g x Z H λZ2 H2=>tb {D with nx:=Pv (i+1),ct:=Pv (i+1),bk:=D.nx} Z2 H2) (hd:∀Z H,Pv xs.length Z H->D.nx Z H) :
  ∃W:Nat->Nat->St->Hp->Prop,(∃m,W 0 m Z H)/\∀i m Z H,W i m Z H->
   ((Itt K a).stop i H/\D.nx Z H)\/((Itt K a).go i H/\∃N:St->Hp->Prop,(∀Z' H',N Z' H'->∃m',m'<m/\W (i+1) m' Z' H')/\∀x H',(Itt K a).yld i H x H'->g x Z H' λZ2 H2=>tb {D with nx:=N,ct:=N,bk:=D.nx} Z2 H2):=by
 refine⟨λi m Z H=>m=xs.length-i/\i<=xs.length/\Pv i Z H,⟨xs.length,by simp,aU _,h0⟩,?_⟩;rintro i m Z H ⟨rfl,hi,p⟩;have q:=hl i Z H hi p;by_cases hlt:i<xs.length
 .refine .inr ⟨⟨xs,xs[i],q,by simp[hlt]⟩,Pv (i+1),λZ' H' p'=>⟨xs.length-(i+1),by lia,rfl,hlt,p'⟩,λx H' y=>?_⟩;obtain⟨e,y⟩:=y;subst e;exact hs i x Z _ (y xs q) p
 .have e:i=xs.length:=by lia
  subst e;exact .inl ⟨⟨xs,q,ar _⟩,hd Z H p⟩
theorem kr {lo:Int} {n:Nat} {g:TG} {tb:TS} {D:Ends} (Pv:Nat->St->Hp->Prop) (h0:Pv 0 Z H)
  (hs:∀i Z H,i<n->Pv i Z H->g (.int (lo+i)) Z H λZ2 H2=>tb {D with nx:=Pv (i+1),ct:=Pv (i+1),bk:=D.nx} Z2 H2) (hd:∀Z H,Pv n Z H->D.nx Z H) :
  ∃W:Nat->Nat->St->Hp->Prop,(∃m,W 0 m Z H)/\∀i m Z H,W i m Z H->
   ((Itr lo n).stop i H/\D.nx Z H)\/((Itr lo n).go i H/\∃N:St->Hp->Prop,(∀Z' H',N Z' H'->∃m',m'<m/\W (i+1) m' Z' H')/\∀x H',(Itr lo n).yld i H x H'->g x Z H' λZ2 H2=>tb {D with nx:=N,ct:=N,bk:=D.nx} Z2 H2):=by
 refine⟨λi m Z H=>m=n-i/\i<=n/\Pv i Z H,⟨n,by simp,aU _,h0⟩,?_⟩;rintro i m Z H ⟨rfl,hi,p⟩;by_cases hlt:i<n
 .refine .inr ⟨hlt,Pv (i+1),λZ' H' p'=>⟨n-(i+1),by lia,rfl,hlt,p'⟩,λx H' y=>?_⟩;obtain⟨e,y⟩:=y;subst e y;exact hs i Z _ hlt p
 .have e:i=n:=by lia
  subst e;exact .inl ⟨ar _,hd Z H p⟩
end L2
namespace L2
open PySem PySem.Spec PyProof.Rows
abbrev R2:=V->V->Hp->VK->Prop
def OpR (X:Cx) (f:Value->Value->Sem Value) (r:R2):Prop:=
 ∀(pins:List (Addr×Obj)) (s:Shared) (Z:St) (H:Hp) (x y:V) (v u:Value) (Q:VK),Inv X pins Z H s->ax x v->ax y u->r x y H Q->
  wpAny (model X.prog X.w) X.A (f v u) (EP X pins Z Q) X.xe s
def UnR (X:Cx) (f:Value->Sem Value) (r:V->Hp->VK->Prop):Prop:=
 ∀(pins:List (Addr×Obj)) (s:Shared) (Z:St) (H:Hp) (x:V) (v:Value) (Q:VK),Inv X pins Z H s->ax x v->r x H Q->
  wpAny (model X.prog X.w) X.A (f v) (EP X pins Z Q) X.xe s
def cL (X:Cx) (f:Value) (r:List V->Hp->VK->Prop):Prop:=
 ∀(pins:List (Addr×Obj)) (s:Shared) (Z:St) (H:Hp) (xs:List V) (us:List Value) (Q:VK),Inv X pins Z H s->Vals xs us->r xs H Q->
  wpAny (model X.prog X.w) X.A (call f us) (EP X pins Z Q) X.xe s
def TruR (X:Cx) (r:V->Hp->(Bool->Hp->Prop)->Prop):Prop:=
 ∀(pins:List (Addr×Obj)) (s:Shared) (Z:St) (H:Hp) (x:V) (v:Value) (Q:Bool->Hp->Prop),Inv X pins Z H s->ax x v->r x H Q->
  wpAny (model X.prog X.w) X.A (truthy v) (TP X pins Z Q) X.xe s
def tOp2 (r:R2) (x:V) (Q:VK):VK:=λy H2=>r x y H2 Q
def tOp1 (r:R2) (tb:TE) (Z:St) (Q:VK):VK:=λx H1=>tb Z H1 (tOp2 r x Q)
def tOp (r:R2) (ta tb:TE):TE:=λZ H Q=>ta Z H (tOp1 r tb Z Q)
def tUnK (r:V->Hp->VK->Prop) (Q:VK):VK:=λx H1=>r x H1 Q
def tUn (r:V->Hp->VK->Prop) (ta:TE):TE:=λZ H Q=>ta Z H (tUnK r Q)
def rIB (C:Int->Int->Prop) (g:Int->Int->V) (x y:V) (H:Hp) (Q:VK) (i j:Int):Prop:=x=.int i/\y=.int j/\C i j/\Q (g i j) H
def rI (C:Int->Int->Prop) (g:Int->Int->V):R2:=λx y H Q=>Exists (Ex2 (rIB C g x y H Q))
def rI0B (g:Int->Int->V) (x y:V) (H:Hp) (Q:VK) (i j:Int):Prop:=x=.int i/\y=.int j/\Q (g i j) H
def rI0 (g:Int->Int->V):R2:=λx y H Q=>Exists (Ex2 (rI0B g x y H Q))
def rUB (g:Int->V) (x:V) (H:Hp) (Q:VK) (i:Int):Prop:=x=.int i/\Q (g i) H
def rU (g:Int->V):V->Hp->VK->Prop:=λx H Q=>Exists (rUB g x H Q)
section
variable {a b c:Expr} {ta tb tc:TE} {pos:Pos}
theorem rG (ha:PE X a ta) (hb:PE X b tb) {R:V->V->Hp->Prop} (I:Inv X pins Z H s)
  (h:ta Z H λx H1=>tb Z H1 λy H2=>R x y H2) {Q:Value->Shared->Prop} {f:Value->Value->Sem Value}
  (hf:∀v u s2 x y H2,Inv X pins Z H2 s2->ax x v->ax y u->R x y H2->wpAny (model X.prog X.w) X.A (f v u) Q X.xe s2) :
  wpAny (model X.prog X.w) X.A (eval a X.env) (λv s₁=>wpAny (model X.prog X.w) X.A (eval b X.env) (λu s₂=>wpAny (model X.prog X.w) X.A (f v u) Q X.xe s₂) X.xe s₁) X.xe s:=by
 refine thn (ha pins s Z H _ I h) λv s1 ⟨x,H1,I1,r1,q1⟩=>?_;refine thn (hb pins s1 Z H1 _ I1 q1) λu s2 ⟨y,H2,I2,r2,q2⟩=>?_;exact hf v u s2 x y H2 I2 r1 r2 q2
theorem aA {op:Operator} {r:R2} (ho:OpR X (binaryOp op) r) (ha:PE X a ta) (hb:PE X b tb):PE X (.BinOp a op b pos) (tOp r ta tb):=by intro pins s Z H Q I h;exact wpAny_BinOp (rG ha hb I h λv u s2 x y H2 I2 rx ry q=>ho pins s2 Z H2 x y v u Q I2 rx ry q)
theorem ma {op:UnaryOp} {r:V->Hp->VK->Prop} (ho:UnR X (unaryOp op) r) (ha:PE X a ta):PE X (.UnaryOp op a pos) (tUn r ta):=by intro pins s Z H Q I h;exact UnaryOp_ (thn (ha pins s Z H _ I h) λv s1 ⟨x,H1,I1,r1,q1⟩=>ho pins s1 Z H1 x v Q I1 r1 q1)
theorem opI {f:Value->Value->Sem Value} {C:Int->Int->Prop} {g:Int->Int->Int}
  (rule:∀(i j:Int) (t u:Tok) (s:Shared) (Q:Value->Shared->Prop) (E:Value->Shared->Prop),C i j->Q (.int (g i j) s.toks) {s with toks:=s.toks+1}->wpAny (model X.prog X.w) X.A (f (.int i t) (.int j u)) Q E s) :
  OpR X f (rI C λi j=>.int (g i j)):=by
 intro pins s Z H x y v u Q I rx ry h;obtain⟨i,j,rfl,rfl,hc,q⟩:=h;obtain⟨t,rfl⟩:=rx;obtain⟨t',rfl⟩:=ry;exact rule i j t t' s _ _ hc ⟨.int (g i j),H,I.tok _,⟨_,rfl⟩,q⟩
theorem opI0 {f:Value->Value->Sem Value} {g:Int->Int->Int}
  (rule:∀(i j:Int) (t u:Tok) (s:Shared) (Q:Value->Shared->Prop) (E:Value->Shared->Prop),Q (.int (g i j) s.toks) {s with toks:=s.toks+1}->wpAny (model X.prog X.w) X.A (f (.int i t) (.int j u)) Q E s) :
  OpR X f (rI0 λi j=>.int (g i j)):=by
 intro pins s Z H x y v u Q I rx ry h;obtain⟨i,j,rfl,rfl,q⟩:=h;obtain⟨t,rfl⟩:=rx;obtain⟨t',rfl⟩:=ry;exact rule i j t t' s _ _ ⟨.int (g i j),H,I.tok _,⟨_,rfl⟩,q⟩
theorem rE {f:Value->Value->Sem Value} {g:Int->Int->Bool}
  (rule:∀(i j:Int) (t u:Tok) (s:Shared) (Q:Value->Shared->Prop) (E:Value->Shared->Prop),Q (.bool (g i j)) s->wpAny (model X.prog X.w) X.A (f (.int i t) (.int j u)) Q E s) :
  OpR X f (rI0 λi j=>.bl (g i j)):=by
 intro pins s Z H x y v u Q I rx ry h;obtain⟨i,j,rfl,rfl,q⟩:=h;obtain⟨t,rfl⟩:=rx;obtain⟨t',rfl⟩:=ry;exact rule i j t t' s _ _ ⟨.bl (g i j),H,I,rfl,q⟩
def CPow (i j:Int):Prop:=0<=j/\j<=1000000/\i.natAbs<2 ^ 64
def CMul (i j:Int):Prop:=(-(2 ^ 64)<i/\i<2 ^ 64)\/(-(2 ^ 64)<j/\j<2 ^ 64)
theorem CMul.ok {i j:Int} (h:CMul i j):IntMulOk i j:=by
 rcases h with ⟨h1,h2⟩|⟨h1,h2⟩
 .exact .of_left (intBits_le_64 h1 h2)
 .exact .of_right (intBits_le_64 h1 h2)
theorem cy:OpR X (binaryOp .Add) (rI0 λi j=>.int (i+j)):=opI0 λ_ _ _ _ _ _ _ q=>add_int q
theorem ib:OpR X (binaryOp .Sub) (rI0 λi j=>.int (i-j)):=opI0 λ_ _ _ _ _ _ _ q=>sub_int q
theorem fM:OpR X (binaryOp .Mult) (rI CMul λi j=>.int (i*j)):=opI λ_ _ _ _ _ _ _ hc q=>mul_int q hc.ok
theorem eP:OpR X (binaryOp .Mod) (rI (λ_ j=>0<j) λi j=>.int (i%j)):=opI λi j _ _ _ _ _ hc q=>by
 have h1:(0:Int)<j:=hc;exact mod_int' (by lia) (by rw[Int.fmod_eq_emod_of_nonneg i (by lia)];exact q)
theorem oB:OpR X (binaryOp .Pow) (rI CPow λi j=>.int (i ^ j.toNat)):=opI λ_ _ _ _ _ _ _ hc q=>pow_int_small hc.1 hc.2.1 hc.2.2 q
theorem unI {f:Value->Sem Value} {g:Int->Int}
  (rule:∀(i:Int) (t:Tok) (s:Shared) (Q:Value->Shared->Prop) (E:Value->Shared->Prop),Q (.int (g i) s.toks) {s with toks:=s.toks+1}->wpAny (model X.prog X.w) X.A (f (.int i t)) Q E s) :
  UnR X f (rU λi=>.int (g i)):=by
 intro pins s Z H x v Q I rx h;obtain⟨i,rfl,q⟩:=h;obtain⟨t,rfl⟩:=rx;exact rule i t s _ _ ⟨.int (g i),H,I.tok _,⟨_,rfl⟩,q⟩
theorem lB:UnR X (unaryOp .USub) (rU λi=>.int (-i)):=unI λ_ _ _ _ _ q=>neg_int q
end
def scal:V->V->Bool
 |.non,.non=>true | .non,.int _=>true | .int _,.non=>true | .non,.bl _=>true | .bl _,.non=>true | .non,.str _=>true | .str _,.non=>true
 |.int _,.int _=>true | .bl _,.bl _=>true | .str _,.str _=>true | .byt _,.byt _=>true
 |.int _,.str _=>true | .str _,.int _=>true | .bl _,.str _=>true | .str _,.bl _=>true
 |_,_=>false
def rEq:R2:=λx y H Q=>scal x y=true/\Q (.bl (decide (x=y))) H
def rNe:R2:=λx y H Q=>scal x y=true/\Q (.bl (!decide (x=y))) H
theorem wc {i j:Int}:decide (V.int i=V.int j)=(i==j):=by rw[iw];simp
theorem w4 {i j:Bool}:decide (V.bl i=V.bl j)=(i==j):=by rw[iw];simp
theorem wb {i j:Str}:decide (V.str i=V.str j)=(i==j):=by rw[iw];simp
theorem wd {i j:Array UInt8}:decide (V.byt i=V.byt j)=(i.toList==j.toList):=by rw[iw];cases i;cases j;simp
section
variable {a b c:Expr} {ta tb tc:TE} {pos:Pos}
theorem bX {Q:VK} {k k':Bool} (I:Inv X pins Z H s) (q:Q (.bl k) H) (e:k=k'):EP X pins Z Q (.bool k') s:=by subst e;exact⟨.bl k,H,I,rfl,q⟩
theorem eK:OpR X (compareOp .Eq) rEq:=by
 intro pins s Z H x y v u Q I rx ry h;obtain⟨hs,q⟩:=h;cases x with
 |non=>
  cases rx;cases y with
  |non=>cases ry;exact J9 (bX I q (by simp))
  |bl j=>cases ry;exact J7 (bX I q (by simp))
  |int j=>obtain⟨t',rfl⟩:=ry;exact J8 (bX I q (by simp))
  |str j=>obtain⟨t',rfl⟩:=ry;exact J_ (bX I q (by simp))
  |_=>exact absurd (show false=true from hs) bN
 |bl i=>
  cases rx;cases y with
  |non=>cases ry;exact J5 (bX I q (by simp))
  |bl j=>cases ry;exact eq_bool (bX I q w4)
  |str j=>obtain⟨t',rfl⟩:=ry;exact JU (bX I q (by simp))
  |_=>exact absurd (show false=true from hs) bN
 |int i=>
  obtain⟨t,rfl⟩:=rx;cases y with
  |non=>cases ry;exact J6 (bX I q (by simp))
  |int j=>obtain⟨t',rfl⟩:=ry;exact eq_int (bX I q wc)
  |str j=>obtain⟨t',rfl⟩:=ry;exact JV (bX I q (by simp))
  |_=>exact absurd (show false=true from hs) bN
 |str i=>
  obtain⟨t,rfl⟩:=rx;cases y with
  |non=>cases ry;exact Ka (bX I q (by simp))
  |bl j=>cases ry;exact JW (bX I q (by simp))
  |int j=>obtain⟨t',rfl⟩:=ry;exact JX (bX I q (by simp))
  |str j=>obtain⟨t',rfl⟩:=ry;exact eq_str (bX I q wb)
  |_=>exact absurd (show false=true from hs) bN
 |byt i=>
  obtain⟨t,rfl⟩:=rx;cases y with
  |byt j=>obtain⟨t',rfl⟩:=ry;exact W.eq_bytes (bX I q wd)
  |_=>exact absurd (show false=true from hs) bN
 |_=>cases y<;>exact absurd (show false=true from hs) bN
theorem gj:OpR X (compareOp .NotEq) rNe:=by
 intro pins s Z H x y v u Q I rx ry h;obtain⟨hs,q⟩:=h;cases x with
 |non=>
  cases rx;cases y with
  |non=>cases ry;exact Kf (bX I q (by simp))
  |bl j=>cases ry;exact Kd (bX I q (by simp))
  |int j=>obtain⟨t',rfl⟩:=ry;exact Ke (bX I q (by simp))
  |str j=>obtain⟨t',rfl⟩:=ry;exact Kg (bX I q (by simp))
  |_=>exact absurd (show false=true from hs) bN
 |bl i=>
  cases rx;cases y with
  |non=>cases ry;exact Kb (bX I q (by simp))
  |bl j=>cases ry;exact ne_bool (bX I q (congrArg not w4))
  |str j=>obtain⟨t',rfl⟩:=ry;exact JY (bX I q (by simp))
  |_=>exact absurd (show false=true from hs) bN
 |int i=>
  obtain⟨t,rfl⟩:=rx;cases y with
  |non=>cases ry;exact Kc (bX I q (by simp))
  |int j=>obtain⟨t',rfl⟩:=ry;exact ne_int (bX I q (congrArg not wc))
  |str j=>obtain⟨t',rfl⟩:=ry;exact JZ (bX I q (by simp))
  |_=>exact absurd (show false=true from hs) bN
 |str i=>
  obtain⟨t,rfl⟩:=rx;cases y with
  |non=>cases ry;exact Kh (bX I q (by simp))
  |bl j=>cases ry;exact J3 (bX I q (by simp))
  |int j=>obtain⟨t',rfl⟩:=ry;exact J4 (bX I q (by simp))
  |str j=>obtain⟨t',rfl⟩:=ry;exact ne_str (bX I q (congrArg not wb))
  |_=>exact absurd (show false=true from hs) bN
 |byt i=>
  obtain⟨t,rfl⟩:=rx;cases y with
  |byt j=>obtain⟨t',rfl⟩:=ry;exact W.ne_bytes (bX I q (congrArg not wd))
  |_=>exact absurd (show false=true from hs) bN
 |_=>cases y<;>exact absurd (show false=true from hs) bN
theorem iT:OpR X (compareOp .Lt) (rI0 λi j=>.bl (decide (i<j))):=rE λ_ _ _ _ _ _ _ q=>lt_int q
theorem oO:OpR X (compareOp .Gt) (rI0 λi j=>.bl (decide (j<i))):=rE λ_ _ _ _ _ _ _ q=>gt_int q
theorem GQ:OpR X (compareOp .GtE) (rI0 λi j=>.bl (decide (j<=i))):=rE λ_ _ _ _ _ _ _ q=>ge_int q
theorem E2:OpR X (compareOp .Is) (λx y H Q=>y=.non/\Q (.bl (decide (x=.non))) H):=by
 intro pins s Z H x y v u Q I rx ry h;obtain⟨rfl,q⟩:=h;cases ry;refine is_none_gen (bX I q ?_);cases x<;>first
  |(cases rx;rfl)
  |(obtain⟨t,rfl⟩:=rx;rfl)
theorem nomark (b:Expr) {op:CmpOp} (h:op≠.In:=by decide) (h2:op≠.NotIn:=by decide):behindInMarks op b=false:=by
 have e1:(op==CmpOp.In)=false:=by cases op<;>first|rfl|exact absurd rfl h
 have e2:(op==CmpOp.NotIn)=false:=by cases op<;>first|rfl|exact absurd rfl h2
 cases b<;>simp[behindInMarks,e1,e2]
theorem fg {op:CmpOp} {r:R2} (ho:OpR X (compareOp op) r) (ha:PE X a ta) (hb:PE X b tb) (hm:behindInMarks op b=false):PE X (.Compare a [op] [b] pos) (tOp r ta tb):=by intro pins s Z H Q I h;exact Jp (rG ha hb I h λv u s2 x y H2 I2 rx ry q=>ho pins s2 Z H2 x y v u Q I2 rx ry q) hm
def qV (t:TE):TT:=λZ H Q=>t Z H (tBK Q)
theorem ba {op:CmpOp} {r:R2} (ho:OpR X (compareOp op) r) (ha:PE X a ta) (hb:PE X b tb) (hm:behindInMarks op b=false):PT X (.Compare a [op] [b] pos) (qV (tOp r ta tb)):=by
 intro pins s Z H Q I h;refine Jy (thn (ha pins s Z H _ I h) λv s1 ⟨x,H1,I1,r1,q1⟩=>thn (hb pins s1 Z H1 _ I1 q1) λu s2 ⟨y,H2,I2,r2,q2⟩=>
  thn (ho pins s2 Z H2 x y v u _ I2 r1 r2 q2) λc s3 ⟨z,H3,I3,r3,k,e,q3⟩=>?_) hm
 subst e;cases r3;exact jl ⟨H3,I3,q3⟩
def TruV (K:W.Frag) (x:V) (H:Hp) (k:Bool):Prop:=
 match x with
 |.non=>k=false
 |.bl b=>k=b
 |.int i=>k=(i != 0)
 |.str y=>y.length<=sizeLine/\k=((y.length:Int) != 0)
 |.byt y=>y.size<=sizeLine/\k=((y.size:Int) != 0)
 |.ref p=>(∃xs,SqL K H p xs/\k=!xs.isEmpty)\/(∃xs,SqT K H p xs/\k=!xs.isEmpty)\/∃kvs,H p=some (.dK kvs)/\k=!kvs.isEmpty
 |_=>False
theorem Ab {κ:Type} {kvs:List (κ×V)} {vs:List (κ×Value)} (r:KV kvs vs):(!vs.isEmpty)=!kvs.isEmpty:=by cases r<;>rfl
theorem tK {its:List Value} (r:Vals xs its):(!its.toArray.isEmpty)=!xs.isEmpty:=by cases r<;>simp
theorem line63:(sizeLine:Nat)<2 ^ 63:=by rw[dv];decide
theorem D9:TruR X (λx H Q=>∃k,TruV [] x H k/\Q k H):=by
 intro pins s Z H x v Q I rx h;obtain⟨k,e,q⟩:=h;have hl:=line63;have hs:sizeLine=16777216:=dv;cases x with
 |non=>
  cases rx;have e':k=false:=e;subst e';exact truthy_none ⟨H,I,q⟩
 |bl b=>
  cases rx;have e':k=b:=e;subst e';exact jl ⟨H,I,q⟩
 |int i=>
  obtain⟨t,rfl⟩:=rx;have e':k=(i != 0):=e;subst e';exact PySem.P.truthy_int ⟨H,I,q⟩
 |str y=>
  obtain⟨t,rfl⟩:=rx;obtain⟨hy,e'⟩:y.length<=sizeLine/\k=((y.length:Int) != 0):=e;subst e';exact PySem.P.truthy_str (by lia) ⟨H,I.tok _,q⟩
 |byt y=>
  obtain⟨t,rfl⟩:=rx;obtain⟨hy,e'⟩:y.size<=sizeLine/\k=((y.size:Int) != 0):=e;subst e';exact W.truthy_bytes (by lia) ⟨H,I.tok _,q⟩
 |ref p=>
  cases rx;have e':(∃xs,SqL [] H p xs/\k=!xs.isEmpty)\/(∃xs,SqT [] H p xs/\k=!xs.isEmpty)\/∃kvs,H p=some (.dK kvs)/\k=!kvs.isEmpty:=e;rcases e' with ⟨xs,hx,e'⟩|⟨xs,hx,e'⟩|⟨kvs,hx,e'⟩
  .subst e';obtain⟨its,r,pl,hz⟩:=I.list hx;have hlen:=r.length;exact wpAny_truthy_list pl.isList (by simp only[bU];lia) ⟨H,I.tok _,by rw[tK r];exact q⟩
  .subst e';obtain⟨its,r,pl,hz⟩:=I.tuple hx;have hlen:=r.length;exact truthy_tuple pl (by simp only[bU];lia) ⟨H,I.tok _,by rw[tK r];exact q⟩
  .subst e';obtain⟨hz,hS,vs,r,m⟩:kvs.length<=sizeLine/\(p==sysModules)=false/\∃vs,KV kvs vs/\s.heap.DictOf (cV X.prog X.w) p vs:=I.hok p _ hx;have hlen:kvs.length=vs.length:=ng r;exact wpAny_truthy_dict hS m (by lia) ⟨H,I.tok _,by rw[Ab r];exact q⟩
 |_=>exact (show False from e).elim
theorem BJ (ha:PE X a ta) (he:∀whole,isTrue a X.env whole=(do let v <-whole;standAt a.pos;holding [v] (truthy v))) :
  PT X a (λZ H Q=>ta Z H λx H'=>∃k,TruV [] x H' k/\Q k H'):=by
 intro pins s Z H Q I h;exact isTrue_plain (thn (ha pins s Z H _ I h) λv s1 ⟨x,H1,I1,r1,q1⟩=>D9 pins s1 Z H1 x v Q I1 r1 q1) (he _)
theorem vals1 {x:V} (r:Vals [x] us):∃u,us=[u]/\ax x u:=by
 cases r with
 |cons r1 r2=>cases r2;exact⟨_,rfl,r1⟩
theorem vals2 {x y:V} (r:Vals [x,y] us):∃u w',us=[u,w']/\ax x u/\ax y w':=by
 cases r with
 |cons r1 r2=>
  cases r2 with
  |cons r3 r4=>cases r4;exact⟨_,_,rfl,r1,r3⟩
theorem nN:cL X (.type "int") (λxs H Q=>(∃i,xs=[.int i]/\Q (.int i) H)\/∃k,xs=[.bl k]/\Q (.int (if k then 1 else 0)) H):=by
 intro pins s Z H xs us Q I r h;rcases h with ⟨i,rfl,q⟩|⟨k,rfl,q⟩
 .obtain⟨u,rfl,t,rfl⟩:=vals1 r;exact call_int_int ⟨.int i,H,I,⟨_,rfl⟩,q⟩
 .obtain⟨u,rfl,r1⟩:=vals1 r;cases r1;exact call_int_bool ⟨.int (if k then 1 else 0),H,I.tok _,⟨_,rfl⟩,q⟩
end
end L2
namespace L2
open PySem PySem.Spec PyProof.Rows
structure mz (h:Heap) (x dx C:Addr) (mA:Str->Option Value):Prop where
 obj:h.get? x=some (W.instObj C dx)
 ns:h.Ns1 dx mA
 ne:dx≠x
theorem kq {h:Heap} {dx:Addr} {mA:Str->Option Value} (n:h.Ns1 dx mA):∃od,h.get? dx=some od/\∀name,W.lookIn name od=some (mA name):=by
 obtain⟨o,es,ep,ho,hd,hk,_,hm⟩:=n;refine⟨o,ho,λname=>?_⟩;have e:=hm name;unfold nsFind findBy at e;rw[<-Array.find?_toList] at e;unfold W.lookIn;rw[hd];dsimp only
 split
 .rename_i y q;rw[q] at e;exact congrArg some e
 .rename_i q;rw[q] at e;have a:es.toList.any (·.refKey)=false:=by
   rw[HR];intro y hy;obtain⟨z,t,hkey⟩:=hk y (Array.mem_toList_iff.mp hy);simp[DictEntry.refKey,hkey]
  have a':¬es.toList.any (·.refKey)=true:=by rw[a];exact bN
  rw[KH a'];exact congrArg some e
theorem mz.look {h:Heap} {x dx C:Addr} {mA:Str->Option Value} (I:mz h x dx C mA):∃od,W.InstAt h x (W.instObj C dx) C (some od)/\∀name,W.lookIn name od=some (mA name):=
 let ⟨od,ho,hl⟩:=kq I.ns
 ⟨od,⟨I.obj,rfl,rfl,ho⟩,hl⟩
section
variable {prog:Program} {x dx C f:Addr} {mA:Str->Option Value} {name:Str} {v:Value}
theorem C6 {ns:List Str} {Q:Unit->Shared->Prop} (X:K.In s.heap) (I:mz s.heap x dx C mA)
  (hs:W.findIn K (.ref C) "__setattr__" = some (some (.builtin "object.__setattr__"))) (hp:W.plainOver K C=true) (ht:W.takerIn K C name=some none) (hh:W.hasDictIn K C=true)
  (hw:PySem.Within mA ns) (hsz:ns.length<=sizeLine)
  (h:∀h',mz h' x dx C (λy=>if y=name then some v else mA y)->Heap.SameBut dx s.heap h'->Q () {s with heap:=h',toks:=s.toks+2}) :
  wpAny (model prog w) A (setAttr (.ref x) name v) Q E s:=by
 obtain⟨od,J,hl⟩:=I.look;refine IY X J hs (W.osa_open (s:={s with toks:=s.toks+1}) (r:=none) X J hp ht λb=>?_);obtain⟨cd,hc,hd'⟩:=yu hh;have hx:s.heap.get? x=some ⟨.ref C,some dx,.plain,#[]⟩:=I.obj;refine af (aq (af (af (yP hx (af (Kp (s:={s with toks:=s.toks+1}) (yv X hc) ?_))))));rw[hd'];refine aq (a:=some dx) (af (aq (af ?_)));refine wpAny_nsSet1 (s:={s with toks:=s.toks+1}) I.ns λh' hn2 hs2=>?_;obtain⟨oD,esD,epD,hoD,hdD,hcD⟩:=hn2.count (Kq name v hw);refine af (Jz hoD (by rw[hdD];exact Jh (cF hcD (by rw[bQ];lia))) ?_);exact aq (h _ ⟨(hs2.2 _ (av I.ne)).trans I.obj,hn2,I.ne⟩ hs2)
theorem B7 {R:Result->Shared->Prop} {vs:List Value} {kw:List (Str×Value)} (X:K.In s.heap) (hm:W.makesIn K C=true)
  (hi:W.findIn K (.ref C) "__init__" = some (some (.ref f))) (hf:W.typeIn K (.ref f)=some (.type "function"))
  (h:codeAny (model prog w) (A.under (.builtin "type.__call__" ⟨.ref C::vs,kw⟩)) (.call (.ref f) ⟨.ref (s.heap.objs.size+1)::vs,kw⟩) (W.InitBack (s.heap.objs.size+1) R)
   {s with heap:=(s.heap.push W.emptyDict).push (W.instObj C s.heap.objs.size)}) :
  codeAny (model prog w) A (.call (.ref C) ⟨vs,kw⟩) R s:=by
 obtain⟨hh,g,d,t,os⟩:=s;exact W.make_core (W.makes_of X hm) (yw X hi) (λself=>IT X self hf) (.inl rfl) h
end
def dP (f:Str) (v:V):List (Str×V)->List (Str×V)
 | []=>[(f,v)]
 |(g,x)::r=>if g=f then (g,v)::r else (g,x)::dP f v r
theorem tu (f g:Str) (v:V):∀fs:List (Str×V),(dP f v fs).lookup g=if g=f then some v else fs.lookup g
 | []=>by
  show List.lookup g [(f,v)]=_;by_cases h:g=f
  .have hb:(g==f)=true:=beq_iff_eq.mpr h;simp only[List.lookup,hb,KI h]
  .have hb:(g==f)=false:=beq_eq_false_iff_ne.mpr h;simp only[List.lookup,hb,KH h]
 |(k,x)::r=>by
  have ih:=tu f g v r;rw[show dP f v ((k,x)::r)=(if k=f then (k,v)::r else (k,x)::dP f v r) from rfl];by_cases hk:k=f
  .rw[KI hk];by_cases h:g=k
   .have hb:(g==k)=true:=beq_iff_eq.mpr h;simp only[List.lookup,hb,KI (h.trans hk)]
   .have hb:(g==k)=false:=beq_eq_false_iff_ne.mpr h;simp only[List.lookup,hb,KH (λe:g=f=>h (e.trans hk.symm))]
  .rw[KH hk];by_cases h:g=k
   .have hb:(g==k)=true:=beq_iff_eq.mpr h;simp only[List.lookup,hb,KH (λe:g=f=>hk (h.symm.trans e))]
   .have hb:(g==k)=false:=beq_eq_false_iff_ne.mpr h;simp only[List.lookup,hb];exact ih
theorem pV (f:Str) (v:V):∀fs:List (Str×V),f∈(dP f v fs).map (·.1)/\∀g,g∈fs.map (·.1)->g∈(dP f v fs).map (·.1)
 | []=>⟨by simp[dP],λg h=>by simp at h⟩
 |(k,x)::r=>by
  obtain⟨i1,i2⟩:=pV f v r;rw[show dP f v ((k,x)::r)=(if k=f then (k,v)::r else (k,x)::dP f v r) from rfl];by_cases hk:k=f
  .rw[KI hk];subst hk;exact⟨by simp,λg h=>by simpa using h⟩
  .rw[KH hk];refine⟨?_,λg h=>?_⟩
   .rw[a8];exact cN _ i1
   .rw[a8] at h |-;rcases aT.mp h with e|e
    .exact aT.mpr (.inl e)
    .exact cN _ (i2 g e)
theorem tD (f:Str) (v:V):∀fs:List (Str×V),(dP f v fs).length<=fs.length+1
 | []=>by simp[dP]
 |(k,x)::r=>by
  have ih:=tD f v r;rw[show dP f v ((k,x)::r)=(if k=f then (k,v)::r else (k,x)::dP f v r) from rfl];by_cases hk:k=f
  .rw[KI hk,bQ,bQ];lia
  .rw[KH hk,bQ,bQ];lia
theorem dB.some_of {v:V} {o:Option Value} (r:dB (some v) o):∃u,o=some u/\ax v u:=by
 cases o with
 |none=>exact (show False from r).elim
 |some u=>exact⟨u,rfl,r⟩
theorem uu {v:V} {u:Value} (r:ax v u):W.handedIn u=true:=by
 cases v with
 |non=>cases (show u=Value.none from r);rfl
 |bl b=>cases (show u=Value.bool b from r);rfl
 |int i=>obtain⟨t,e⟩:=(show ∃t,u=Value.int i t from r);cases e;rfl
 |str x=>obtain⟨t,e⟩:=(show ∃t,u=Value.str x t from r);cases e;rfl
 |byt b=>obtain⟨t,e⟩:=(show ∃t,u=Value.bytes b t from r);cases e;rfl
 |flt b=>obtain⟨t,e⟩:=(show ∃t,u=Value.float b t from r);cases e;rfl
 |ref a=>cases (show u=Value.ref a from r);rfl
 |ty n=>cases (show u=Value.type n from r);rfl
section
variable {h h':Heap} {a C dx:Addr} {fs fs':List (Str×V)}
theorem vX (hok:HOk P w H h) (e:H a=some (.ins C dx fs)):∃mA,mz h a dx C mA/\(∀f,dB (fs.lookup f) (mA f))/\PySem.Within mA (fs.map (·.1))/\fs.length<=1000/\H dx=some (.own a):=by obtain⟨d,z,ne,ob,mA,n,r,q⟩:=(show aQ P w H h a (.ins C dx fs) from hok a _ e);exact⟨mA,⟨ob,n,ne⟩,r,q,z,d⟩
end
structure Cls (K:W.Frag) (C:Addr):Prop where
 pg:W.plainGet K C Str.empty=true
 hd:W.hasDictIn K C=true
 po:W.plainOver K C=true
 sa:W.findIn K (.ref C) "__setattr__" = some (some (.builtin "object.__setattr__"))
theorem Cls.get {C:Addr} (c:Cls K C) (f:Str):W.plainGet K C f=true:=c.pg
def ik (K:W.Frag) (C:Addr) (f:Str):Prop:=W.findIn K (.ref C) f=some none
theorem ik.taker {C:Addr} {f:Str} (n:ik K C f):W.takerIn K C f=some none:=by unfold W.takerIn;rw[show W.findIn K (.ref C) f=some none from n];rfl
structure Meth (K:W.Frag) (C:Addr) (m:Str) (f:Addr):Prop where
 at_:W.findIn K (.ref C) m=some (some (.ref f))
 fn:W.isFn K (.ref f)=true
 kp:W.keepIn K (.ref f)=true
section
variable {a C dx:Addr} {fs:List (Str×V)} {f:Str} {v:V}
theorem zU {y:V} {u:Value} {Q:Unit->Shared->Prop} (I:Inv X pins Z H s) (e:H a=some (.ins C dx fs)) (c:Cls X.K C) (n:ik X.K C f) (hl:fs.length<1000) (ry:ax y u)
  (h:∀s',Inv X pins Z (upd H a (.ins C dx (dP f y fs))) s'->Q () s'):wpAny (model X.prog X.w) A (setAttr (.ref a) f u) Q E s:=by
 obtain⟨mA,O,r,wi,_,ho⟩:=vX I.hok e;have hz:(fs.map (·.1)).length<=sizeLine:=by rw[aC,dv];lia
 refine C6 I.kIn O c.sa c.po n.taker c.hd wi hz λh' O' sb=>h _ ?_;have hd:∃o,h'.get? dx=some o:=let ⟨o,_,_,e',_⟩:=O'.ns;⟨o,e'⟩;refine I.write (x:=a) (e:=dx) (by rw[e];exact True.intro) (.inr ho) (λb q hb z=>(sb.2 b hb).trans z) hd ?_;refine⟨by rw[aj O.ne];exact ho,?_,O.ne,O'.obj,_,O'.ns,λg=>?_,λg hg=>?_⟩
 .have:=tD f y fs;lia
 .show dB ((dP f y fs).lookup g) (if g=f then some u else mA g);rw[tu];by_cases q:g=f
  .rw[KI q,KI q];exact ry
  .rw[KH q,KH q];exact r g
 .by_cases q:g=f
  .rw[q];exact (pV f y fs).1
  .refine (pV f y fs).2 g (wi g λz=>hg ?_);show (if g=f then some u else mA g)=none;rw[KH q];exact z
theorem Inv.made (I:Inv X pins Z H s):Inv X pins Z (upd (upd H s.heap.objs.size (.own (s.heap.objs.size+1))) (s.heap.objs.size+1) (.ins C s.heap.objs.size []))
  {s with heap:=(s.heap.push W.emptyDict).push (W.instObj C s.heap.objs.size)}:=by
 have e1:(s.heap.push W.emptyDict).get? s.heap.objs.size=some W.emptyDict:=bP s.heap rfl;have e2:((s.heap.push W.emptyDict).push (W.instObj C s.heap.objs.size)).get? (s.heap.objs.size+1)=some (W.instObj C s.heap.objs.size):=by
  have:=bP (s.heap.push W.emptyDict) (o:=W.instObj C s.heap.objs.size) rfl
  rwa [mQ] at this
 have e3:(s.heap.push W.emptyDict).Ns s.heap.objs.size (λ_=>none):=⟨W.emptyDict,#[],_,e1,rfl,(λe he=>absurd he (by simp)),λ_=>rfl⟩;have I1:=I.laid (a:=s.heap.objs.size) (o:=.own (s.heap.objs.size+1)) (h':=s.heap.push W.emptyDict) (t':=s.toks) (λb u q=>aR _ q) (ar _) ⟨_,e1⟩;refine I1.laid (a:=s.heap.objs.size+1) (o:=.ins C s.heap.objs.size []) (t':=s.toks) (λb u q=>aR _ q) (r_ (mQ _ _)) ?_;have ne:s.heap.objs.size≠s.heap.objs.size+1:=bJ (fW _);refine⟨by rw[aj ne,aO],aU _,ne,e2,λ_=>none,(HE e3).at λo q=>aR _ q,λ_=>True.intro,λy hy=>absurd rfl hy⟩
theorem wj {prog:Program} {env:Env} {e:Expr} {f:Str} {pos:Pos} {Q:Value->Shared->Prop} (hb:attributeBase e f env (eval e env)=eval e env)
  (h:wpAny (model prog w) A (eval e env) (λo s₁=>wpAny (model prog w) A (getAttr o f true) Q E s₁) E s):wpAny (model prog w) A (eval (.Attribute e f pos) env) Q E s:=
 Attribute_any_ h (by rw[arm_eval_Attribute,hb])
end
def sFld (K:W.Frag) (ta tv:TE) (f:Str):TS:=λD Z H=>tv Z H λy H1=>ta Z H1 λx H2=>∃a C dx fs,x=.ref a/\H2 a=some (.ins C dx fs)/\Cls K C/\ik K C f/\fs.length<1000/\
 D.nx Z (upd H2 a (.ins C dx (dP f y fs)))
section
variable {o e value:Expr} {f:Str} {pos pos' tpos:Pos} {ta tv:TE}
theorem oz (ha:PE X o ta) (hv:PE X value tv) (hs:swapsWith value (some (.Attribute o f pos')) pos.line X.env=pure false):PS X (.Assign [.Attribute o f pos'] value pos) (sFld X.K ta tv f):=by intro pins s Z H D I h;refine Ji (thn (hv pins s Z H _ I h) λu s1 ⟨y,H1,I1,ry,q⟩=>thn (ha pins s1 Z H1 _ I1 q) λov s2 ⟨x,H2,I2,rx,a,C,dx,fs,ex,ea,c,n,l,q2⟩=>?_) hs;subst ex;obtain rfl:ov=Value.ref a:=rx;exact zU I2 ea c n l ry λs3 I3=>⟨Z,_,I3,q2⟩
end
section
variable {Q:Value->Shared->Prop} {c:Value} {b:Bool}
inductive cZ (K:W.Frag) (H:Hp):V->Value->Prop where
 |non:cZ K H .non (.type "NoneType")
 |bl (x:Bool):cZ K H (.bl x) (.type "bool")
 |int (i:Int):cZ K H (.int i) (.type "int")
 |str (x:Str):cZ K H (.str x) (.type "str")
 |flt (x:UInt64):cZ K H (.flt x) (.type "float")
 |lst {a:Addr} {xs:List V} (e:H a=some (.lst xs)):cZ K H (.ref a) (.type "list")
 |frz {a:Addr} {o:Obj} {xs:List V} (e:H a=some (.frz o (.lst xs))):cZ K H (.ref a) (.type "list")
 |tup {a:Addr} {xs:List V} (e:H a=some (.tup xs)):cZ K H (.ref a) (.type "tuple")
 |dK {a:Addr} {kvs:List (Key×V)} (e:H a=some (.dK kvs)):cZ K H (.ref a) (.type "dict")
 |dT {a:Addr} {kvs:List (List Key×V)} (e:H a=some (.dT kvs)):cZ K H (.ref a) (.type "dict")
 |ins {a C dx:Addr} {fs:List (Str×V)} (e:H a=some (.ins C dx fs)) (cl:Cls K C) (ha:W.findIn K (.ref C) "__class__" = some (some (.builtin "object.__class__")))
   (hn:W.specialIn K (.builtin "object.__class__") "__get__" = some (some (.builtin "getset_descriptor.__get__"))) (htk:W.takesIn K (.builtin "object.__class__")=some true)
   (hm:W.mroIn K C (.type "object")=some true):cZ K H (.ref a) (.ref C)
theorem AX {x:V} {u t:Value} (I:Inv X pins Z H s) (rx:ax x u) (ty:cZ X.K H x t) (e:W.kitOne X.K t c=some b) (h:∀tk,Q (.bool b) {s with toks:=tk}) :
  wpAny (model X.prog X.w) A (call (.builtin "isinstance") [u,c]) Q E s:=by
 cases ty with
 |non=>cases (show u=Value.none from rx);exact eY W.kitx_none I.kIn True.intro e (λz=>nomatch z) h
 |bl y=>cases (show u=Value.bool y from rx);exact eY W.kitx_bool I.kIn True.intro e (λz=>nomatch z) h
 |int i=>obtain⟨t,q⟩:=(show ∃t,u=Value.int i t from rx);cases q;exact eY W.kitx_int I.kIn True.intro e (λz=>nomatch z) h
 |str y=>obtain⟨t,q⟩:=(show ∃t,u=Value.str y t from rx);cases q;exact eY W.kitx_str I.kIn True.intro e (λz=>nomatch z) h
 |flt y=>obtain⟨t,q⟩:=(show ∃t,u=Value.float y t from rx);cases q;exact eY W.kitx_float I.kIn True.intro e (λz=>nomatch z) h
 | @lst a xs ea=>
  cases (show u=Value.ref a from rx);obtain⟨_,_,n,_,h1⟩:=(show aQ X.prog X.w H s.heap a (.lst xs) from I.hok a _ ea);exact eY IX I.kIn ⟨_,h1,rfl⟩ e (λz=>nomatch z) h
 | @frz a ob xs ea=>
  cases (show u=Value.ref a from rx);obtain⟨_,_,_,n,_,h1⟩:=(show aQ X.prog X.w H s.heap a (.frz ob (.lst xs)) from I.hok a _ ea);exact eY IX I.kIn ⟨_,h1,rfl⟩ e (λz=>nomatch z) h
 | @tup a xs ea=>
  cases (show u=Value.ref a from rx);obtain⟨_,_,_,p⟩:=(show aQ X.prog X.w H s.heap a (.tup xs) from I.hok a _ ea);obtain⟨o,h1,h2,_⟩:=p;exact eY W.kitx_tuple I.kIn ⟨o,h1,h2⟩ e (λz=>nomatch z) h
 | @dK a kvs ea=>
  cases (show u=Value.ref a from rx);obtain⟨_,_,vs,_,p⟩:=(show aQ X.prog X.w H s.heap a (.dK kvs) from I.hok a _ ea);obtain⟨o,es,ep,h1,h2,_⟩:=p;exact eY IW I.kIn ⟨o,h1,h2.1⟩ e (λz=>nomatch z) h
 | @dT a kvs ea=>
  cases (show u=Value.ref a from rx);obtain⟨_,_,xs,_,o,es,ep,h1,h2,_⟩:=(show aQ X.prog X.w H s.heap a (.dT kvs) from I.hok a _ ea);exact eY IW I.kIn ⟨o,h1,h2.1⟩ e (λz=>nomatch z) h
 | @ins a C dx fs ea cl ha hn htk hm=>
  cases (show u=Value.ref a from rx);obtain⟨mA,O,_⟩:=vX I.hok ea;obtain⟨od,J,_⟩:=O.look;exact eY (W.kitx_own (cl.get _) cl.hd ha hn htk hm) I.kIn J e (λz=>nomatch z) h
end
end L2
namespace L2
open PySem PySem.Spec PyProof.Rows
structure Room (k:Nat) (A:Around):Prop where
 hd:A.handled=none
 dp:A.depth+3*k+5<recursionLimit
 un:A.units+16*k+200<cLine
 gu:A.guards=some []
theorem Room.mono {j k:Nat} (r:Room k A) (h:j<=k):Room j A:=⟨r.hd,by have:=r.dp;lia,by have:=r.un;lia,r.gu⟩
theorem Room.deeper {k:Nat} (r:Room (k+1) A) (env:Env):Room k (A.deeper env):=
 ⟨r.hd,by have:=r.dp;show A.depth+1+3*k+5<_;lia,by have:=r.un;show A.units+3+16*k+200<_;lia,r.gu⟩
theorem Aa {C:Addr} {kw:List (Str×Value)}:(A.under (.builtin "type.__call__" ⟨.ref C::us,kw⟩)).depth=A.depth+1:=by first|rfl|simp[Around.under,Code.weight,Code.isCreation,Code.isGuard,Code.isCaller,Code.frames,Code.isFrame,guardIds]
theorem z_ {C:Addr} {kw:List (Str×Value)}:(A.under (.builtin "type.__call__" ⟨.ref C::us,kw⟩)).units=A.units+1:=by first|rfl|simp[Around.under,Code.cUnits,Code.frames,Code.isFrame]
theorem zG {C:Addr} {kw:List (Str×Value)} (h:A.guards=some []):(A.under (.builtin "type.__call__" ⟨.ref C::us,kw⟩)).guards=some []:=by first|exact h|simp[Around.under,Code.isGuard,guardIds,h]
theorem Room.make {k:Nat} (r:Room (k+1) A) (C:Addr) (us:List Value) (kw:List (Str×Value)):Room k (A.under (.builtin "type.__call__" ⟨.ref C::us,kw⟩)):=
 ⟨r.hd,by have:=r.dp;rw[Aa];lia,by have:=r.un;rw[z_];lia,zG r.gu⟩
theorem Room.depth {k:Nat} (r:Room k A):A.depth<recursionLimit:=by have:=r.dp;lia
theorem Room.units {k:Nat} (r:Room k A):A.units+64<cLine:=by have:=r.un;lia
def fR:TA:=λ_ H Q=>Q [] H
def Eo (x:V) (Q:List V->Hp->Prop):List V->Hp->Prop:=λxs H2=>Q (x::xs) H2
def Ep (tr:TA) (Z:St) (Q:List V->Hp->Prop):VK:=λx H1=>tr Z H1 (Eo x Q)
def dX (ta:TE) (tr:TA):TA:=λZ H Q=>ta Z H (Ep tr Z Q)
section
variable {e:Expr} {es:List Expr} {te:TE} {t:TA} {pos:Pos}
theorem ae:PA X [] fR:=λ_ _ _ _ H Q I h=>xF ⟨[],H,I,.nil,h⟩
theorem aa (ha:PE X e te) (hr:PA X es t) (hs:starEach (e::es) X.env=(false,eval e X.env)::starEach es X.env:=by rfl):PA X (e::es) (dX te t):=by intro pos pins s Z H Q I h;rw[hs];show wpAny _ _ (spliced ((false,eval e X.env)::backTo pos (starEach es X.env))) _ _ s;refine xE (thn (ha pins s Z H _ I h) λu s1 ⟨x,H1,I1,r1,q1⟩=>?_);exact thn (hr pos pins s1 Z H1 _ I1 q1) λus s2 ⟨xs,H2,I2,r2,q2⟩=>⟨x::xs,H2,I2,.cons r1 r2,q2⟩
def FP (Q:VK):List V->Hp->Prop:=λxs H1=>xs.length<=sizeLine/\ft H1 (.tup xs) Q
def rm (t:TA):TE:=λZ H Q=>t Z H (FP Q)
def FW (Q:VK):List V->Hp->Prop:=λxs H1=>xs.length<=sizeLine/\ft H1 (.lst xs) Q
def rA (t:TA):TE:=λZ H Q=>t Z H (FW Q)
theorem aI {x1} (h:PA X es t):PE X (.Tuple es x1 pos) (rm t):=by intro pins s Z H Q I hq;refine wpAny_Tuple_spliced (thn (h pos pins s Z H _ I hq) λus s1 ⟨xs,H1,I1,r,z,q⟩=>⟨by rw[<-r.length];exact z,?_⟩);have hf:H1 s1.heap.objs.size=none:=I1.hok.fresh (ar _);refine⟨.ref s1.heap.objs.size,upd H1 s1.heap.objs.size (.tup xs),I1.laid (t':=s1.toks) (λb u e=>aR _ e) (ar _) ?_,rfl,q.at hf⟩;exact⟨⟨z,_,bP _ rfl,rfl⟩,us,r,⟨_,bP _ rfl,rfl,_,rfl⟩⟩
theorem bY (h:PA X es t):PE X (.List es pos) (rA t):=by intro pins s Z H Q I hq;refine wpAny_List_spliced (thn (h pos pins s Z H _ I hq) λus s1 ⟨xs,H1,I1,r,z,q⟩=>⟨by rw[<-r.length];exact z,?_⟩);have hf:H1 s1.heap.objs.size=none:=I1.hok.fresh (ar _);refine⟨.ref s1.heap.objs.size,upd H1 s1.heap.objs.size (.lst xs),I1.laid (t':=s1.toks) (λb u e=>aR _ e) (ar _) ?_,rfl,q.at hf⟩;exact⟨z,us,0,r,bP _ rfl⟩
end
abbrev Sp:=List V->Hp->VK->XK->Prop
abbrev CXT:=List Env->Hp->Shared->XK->Value->Shared->Prop
structure gA (P:Program) (w:World) (K:W.Frag) (mg:Str->Option Value) (base:Heap) (A:Around) (outer:List Env) (s:Shared) (H:Hp):Prop where
 frames:A.frames=some outer
 mod:Mod K mg base
 bs:∀b o,base.get? b=some o->s.heap.get? b=some o/\H b=none
 bsz:base.objs.size<=s.heap.objs.size
 funs:s.heap.FunFrames base outer
 frf:∀b∈frs outer,H b=none
 hok:HOk P w H s.heap
 bare:AllBare s.gens
def CE (outer:List Env) (P:Program) (w:World) (H:Hp) (s:Shared) (Q:VK) (u:Value) (s':Shared):Prop:=
 ∃v H',s'.os=s.os/\AllBare s'.gens/\Un (frs outer) [] H H' s.heap s'.heap/\HOk P w H' s'.heap/\ax v u/\Q v H'
def CR (CX:CXT) (outer:List Env) (P:Program) (w:World) (H:Hp) (s:Shared) (Q:VK) (E:XK) (r:Result) (s':Shared):Prop:=
 match r with
 |.ok (.ret u)=>CE outer P w H s Q u s'
 |.ok _=>False
 |.error e=>CX outer H s E e s'
structure ag (P:Program) (w:World) (K:W.Frag) (mg:Str->Option Value) (base:Heap) (CX:CXT) (k:Nat) (f:Addr) (fd:FuncData) (ps:List Str) (sp:Sp):Prop where
 len:∀vs H Q E,sp vs H Q E->vs.length=ps.length
 run:∀(A:Around) (outer:List Env) (s:Shared) (H:Hp) (args:Args) (us:List Value) (vs:List V) (Q:VK) (E:XK),Room k A->gA P w K mg base A outer s H->BindsTo s fd args (ps.zip us)->Vals vs us->sp vs H Q E->
  codeAny (model P w) A (.call (.ref f) args) (CR CX outer P w H s Q E) s
theorem ag.mono {CX:CXT} {j k:Nat} {f:Addr} {ps:List Str} {sp:Sp} (F:ag P w K mg base CX j f fd ps sp) (h:j<=k) :
  ag P w K mg base CX k f fd ps sp:=⟨F.len,λA outer s H args us vs Q E hr=>F.run A outer s H args us vs Q E (hr.mono h)⟩
theorem gA.make {outer:List Env} (e:gA P w K mg base A outer s H) (C:Addr) (us:List Value) (kw:List (Str×Value)) :
  gA P w K mg base (A.under (.builtin "type.__call__" ⟨.ref C::us,kw⟩)) outer s H:=⟨by first|exact e.frames|(simpa [Around.under,Code.envs,Code.isFrame,pushEnvs] using e.frames),e.mod,e.bs,e.bsz,e.funs,e.frf,e.hok,e.bare⟩
section
variable {s s':Shared}
theorem Inv.env0 (I:Inv X pins Z H s):gA X.prog X.w X.K X.mg X.base X.A X.stack s H:=
 ⟨I.ok.frames,I.ok.mod,I.bs,cF I.ok.bsz I.sz,I.stack,I.stkFree,I.hok,I.bare⟩
theorem Inv.after {Q:VK} {u:Value} (I:Inv X pins Z H s) (h:CE X.stack X.prog X.w H s Q u s'):EP X pins Z Q u s':=by obtain⟨v,H',os,bare,un,hok,r,q⟩:=h;obtain⟨hh,g,d,t,os'⟩:=s';obtain rfl:os'=s.os:=os;exact⟨v,H',I.call (h':=hh) (g':=g) (d':=d) (t':=t) (ch:=[]) un hok bare (λb z=>absurd z (by simp)),r,q⟩
end
def Er (sp:Sp) (dvs:List V) (E:XK) (Q:VK):List V->Hp->Prop:=λvs H1=>sp (vs++dvs) H1 Q E
def Gh (sp:Sp) (dvs:List V) (E:XK) (t:TA):TE:=λZ H Q=>t Z H (Er sp dvs E Q)
def FU (C:Addr) (sp:Sp) (dvs:List V) (E:XK) (t:TA):TE:=λZ H Q=>t Z H λvs H1=>∀x dx,H1 x=none->H1 dx=none->dx≠x->
 sp (.ref x::(vs++dvs)) (upd (upd H1 dx (.own x)) x (.ins C dx [])) (λv H2=>v=.non/\Q (.ref x) H2) E
def Binds (K:W.Frag) (fd:FuncData) (ps:List Str) (ds:List Value):Prop:=
 ∀(s:Shared) (us:List Value),K.In s.heap->(us++ds).length=ps.length->BindsTo s fd ⟨us,[]⟩ (ps.zip (us++ds))
theorem Binds.all {ps:List Str} (h:∀us:List Value,us.length=ps.length->bindArgs fd ⟨us,[]⟩=pure (ps.zip us)):Binds K fd ps []:=λs us _ hl=>by
 rw[eL] at hl |-;exact .of_eq (h us hl)
def Passes (CX:CXT) (X:Cx) (E:XK):Prop:=∀(pins:List (Addr×Obj)) (Z:St) (H:Hp) (s:Shared) (e:Value) (s':Shared),Inv X pins Z H s->CX X.stack H s E e s'->X.xe e s'
section
variable {CX:CXT} {k:Nat} {f C:Addr} {ps:List Str} {sp:Sp} {dvs:List V} {ds:List Value} {E:XK} {x m:Str} {p pos apos:Pos} {e o:Expr} {es:List Expr} {ta:TE} {t:TA}
theorem EG {Q:VK} (F:ag X.prog X.w X.K X.mg X.base CX k f fd ps sp) (hr:Room k X.A) (hb:Binds X.K fd ps ds) (hd:Vals dvs ds) (hx:Passes CX X E)
  (I:Inv X pins Z H s) (r:Vals vs us) (h:sp (vs++dvs) H Q E):wpAny (model X.prog X.w) X.A (call (.ref f) us) (EP X pins Z Q) X.xe s:=by
 have r2:Vals (vs++dvs) (us++ds):=r.append hd;have hl:(us++ds).length=ps.length:=by rw[<-r2.length];exact F.len _ _ _ _ h
 refine iC (nr (F.run X.A X.stack s H ⟨us,[]⟩ (us++ds) (vs++dvs) Q E hr I.env0 (hb s us I.kIn hl) r2 h) λr s' hq=>?_);cases r with
 |error e=>exact hx pins Z H s e s' I hq
 |ok fl=>
  cases fl with
  |ret u=>exact I.after hq
  |next=>exact False.elim hq
  |brk=>exact False.elim hq
  |cont=>exact False.elim hq
theorem aw (F:ag X.prog X.w X.K X.mg X.base CX k f fd ps sp) (hr:Room k X.A) (hg:Gl X x) (hm:X.mg x=some (.ref f)) (hk:W.keepIn X.K (.ref f)=true) (hb:Binds X.K fd ps ds) (hd:Vals dvs ds) (hx:Passes CX X E)
  (ha:PA X (e::es) t) (hdb:(x==("__debug__" : Str))=false:=by decide) (he:starEach (e::es) X.env=(false,eval e X.env)::starEach es X.env:=by rfl) (hpl:(backTo pos (starEach es X.env)).any (·.1)=false:=by rfl) :
  PE X (.Call (.Name x p) (e::es) [] pos) (Gh sp dvs E t):=by
 intro pins s Z H Q I h;refine j_ (gd I hg hm ?_ hdb);refine IU (h₀:=X.base) I.ok.mod.kin hk (thn (ha pos pins s Z H _ I h) λus s1 ⟨vs,H1,I1,r,q⟩=>⟨I1.kIn,?_⟩) he hpl;exact EG F hr hb hd hx I1 r q
structure Mk (K:W.Frag) (C f:Addr):Prop where
 makes:W.makesIn K C=true
 init:W.findIn K (.ref C) "__init__" = some (some (.ref f))
 fn:W.isFn K (.ref f)=true
 kp:W.keepIn K (.ref C)=true
theorem BC {Q:VK} (M:Mk X.K C f) (F:ag X.prog X.w X.K X.mg X.base CX k f fd ps sp) (hr:Room (k+1) X.A) (hb:Binds X.K fd ps ds) (hd:Vals dvs ds)
  (hx:Passes CX X E) (I:Inv X pins Z H s) (r:Vals vs us)
  (h:∀x dx,H x=none->H dx=none->dx≠x->sp (.ref x::(vs++dvs)) (upd (upd H dx (.own x)) x (.ins C dx [])) (λv H2=>v=.non/\Q (.ref x) H2) E) :
  wpAny (model X.prog X.w) X.A (call (.ref C) us) (EP X pins Z Q) X.xe s:=by
 have hq:=h (s.heap.objs.size+1) s.heap.objs.size (I.hok.fresh (jd _)) (I.hok.fresh (ar _)) (bJ (fW _));have I2:=Inv.made (C:=C) I;have r2:Vals (V.ref (s.heap.objs.size+1)::(vs++dvs)) (Value.ref (s.heap.objs.size+1)::(us++ds)):=.cons rfl (r.append hd);have hl:(Value.ref (s.heap.objs.size+1)::us++ds).length=ps.length:=by have e:=r2.length;rw[F.len _ _ _ _ hq] at e;exact e.symm
 refine iC (B7 (f:=f) I.kIn M.makes M.init (beq_iff_eq.mp M.fn) (nr (F.run _ X.stack _ _ ⟨Value.ref (s.heap.objs.size+1)::us,[]⟩ (Value.ref (s.heap.objs.size+1)::(us++ds)) _ _ E (hr.make C us [])
  (I2.env0.make C us []) (hb _ (Value.ref (s.heap.objs.size+1)::us) I2.kIn hl) r2 hq) λr s' hq'=>?_))
 cases r with
 |error e=>exact hx pins Z _ _ e s' I2 hq'
 |ok fl=>
  cases fl with
  |ret u=>
   obtain⟨v,H',I3,rv,ev,q3⟩:=I2.after hq';subst ev;exact⟨rv,⟨V.ref (s.heap.objs.size+1),H',I3,rfl,q3⟩⟩
  |next=>exact False.elim hq'
  |brk=>exact False.elim hq'
  |cont=>exact False.elim hq'
theorem Ds (M:Mk X.K C f) (F:ag X.prog X.w X.K X.mg X.base CX k f fd ps sp) (hr:Room (k+1) X.A) (hg:Gl X x) (hm:X.mg x=some (.ref C)) (hb:Binds X.K fd ps ds) (hd:Vals dvs ds) (hx:Passes CX X E)
  (ha:PA X (e::es) t) (hdb:(x==("__debug__" : Str))=false:=by decide) (he:starEach (e::es) X.env=(false,eval e X.env)::starEach es X.env:=by rfl) (hpl:(backTo pos (starEach es X.env)).any (·.1)=false:=by rfl) :
  PE X (.Call (.Name x p) (e::es) [] pos) (FU C sp dvs E t):=by
 intro pins s Z H Q I h;refine j_ (gd I hg hm ?_ hdb);refine IU (h₀:=X.base) I.ok.mod.kin M.kp (thn (ha pos pins s Z H _ I h) λus s1 ⟨vs,H1,I1,r,q⟩=>⟨I1.kIn,?_⟩) he hpl;exact BC M F hr hb hd hx I1 r q
end
section
variable {CX:CXT} {k:Nat} {f C:Addr} {ps ks:List Str} {sp:Sp} {E:XK} {x m:Str} {p pos apos kpos:Pos} {e o:Expr} {es:List Expr} {kws:List Keyword} {te ta:TE} {t tk:TA} {nm:Option Str}
variable {g:List Value->List Value->List Value} {gV:List V->List V->List V}
end
structure bc (N P:List Str) (sc:Scope):Prop where
 kind:sc.kind=.function
 co:sc.isCoroutine=false
 gen:sc.isGenerator=false
 nd:N.Nodup
 pre:N.take P.length=P
 par:∀x∈P,sc.names.lookup x=some .local\/sc.names.lookup x=some .cell
 nofree:∀y∈sc.names,y.2≠.free
theorem uA {kindOf:Str->Option NameKind} {x:Str}:∀{binds:List (Str×Value)} {m:Str->Option Value},(∀v,(x,v)∉binds)->bindL kindOf binds m x=m x
 | [],_,_=>rfl
 |(n,v)::r,m,h=>by
  unfold bindL;rw[uA λw hw=>h w (cN _ hw)]
  split
  .have:x≠n:=by rintro rfl;exact h v gF
   simp[this]
  .rfl
theorem uC {kindOf:Str->Option NameKind} {x:Str}:∀{binds:List (Str×Value)} {m:Str->Option Value},(∀v,(x,v)∉binds)->bindC kindOf binds m x=m x
 | [],_,_=>rfl
 |(n,v)::r,m,h=>by
  unfold bindC;rw[uC λw hw=>h w (cN _ hw)]
  split
  .rfl
  .have:x≠n:=by rintro rfl;exact h v gF
   simp[this]
theorem uB {kindOf:Str->Option NameKind} {x:Str} {v:Value}:∀{P:List Str} {vs:List Value} {i:Nat} {m:Str->Option Value},P.Nodup->P[i]?=some x->vs[i]?=some v->kindOf x=some .local->
  bindL kindOf (P.zip vs) m x=some v
 | [],_,_,_,_,h,_,_=>by simp at h
 |_::_,[],_,_,_,_,h,_=>by simp at h
 |p::P,w::vs,0,m,nd,h1,h2,hk=>by
  simp at h1 h2;subst h1;subst h2;show bindL kindOf ((p,w)::P.zip vs) m p=_;unfold bindL;rw[uA λv hv=>(d_.mp nd).1 (xV hv).1,KI hk];simp
 |p::P,w::vs,i+1,m,nd,h1,h2,hk=>by
  show bindL kindOf ((p,w)::P.zip vs) m x=_;unfold bindL;exact uB (i:=i) (d_.mp nd).2 (by simpa using h1) (by simpa using h2) hk
theorem uD {kindOf:Str->Option NameKind} {x:Str} {v:Value}:∀{P:List Str} {vs:List Value} {i:Nat} {m:Str->Option Value},P.Nodup->P[i]?=some x->vs[i]?=some v->kindOf x≠some .local->
  bindC kindOf (P.zip vs) m x=some v
 | [],_,_,_,_,h,_,_=>by simp at h
 |_::_,[],_,_,_,_,h,_=>by simp at h
 |p::P,w::vs,0,m,nd,h1,h2,hk=>by
  simp at h1 h2;subst h1;subst h2;show bindC kindOf ((p,w)::P.zip vs) m p=_;unfold bindC;rw[uC λv hv=>(d_.mp nd).1 (xV hv).1,KH hk];simp
 |p::P,w::vs,i+1,m,nd,h1,h2,hk=>by
  show bindC kindOf ((p,w)::P.zip vs) m x=_;unfold bindC;exact uD (i:=i) (d_.mp nd).2 (by simpa using h1) (by simpa using h2) hk
def start (N:List Str) (vs:List V):St:=vs.map some++List.replicate (N.length-vs.length) none
def eV (CX:CXT) (P:Program) (w:World) (K:W.Frag) (mg:Str->Option Value) (base:Heap) (N:List Str) (qual:Str) (scope:Scope) (f:Addr) (cd:Value) (A:Around) (outer:List Env) (s:Shared) (H:Hp) (E:XK):Cx where
 prog:=P
 w:=w
 K:=K
 mg:=mg
 base:=base
 A:=A.deeper (envOfC qual scope s.heap.objs.size f cd)
 N:=N
 s₀:=s
 H₀:=H
 env:=envOfC qual scope s.heap.objs.size f cd
 outer:=outer
 stack:=envOfC qual scope s.heap.objs.size f cd::outer
 ex:=[]
 calm:=true
 fn:=λ_=>true
 pn:=[]
 xe:=λe s'=>wpAny (model P w) (A.deeper (envOfC qual scope s.heap.objs.size f cd)) (leaving (envOfC qual scope s.heap.objs.size f cd) e) (λ_ s''=>CX outer H s E e s'') (λe' s''=>CX outer H s E e' s'') s'
theorem vq {sc:Scope} {n:Nat} {x:Str} (h:sc.names.lookup x=some .cell):∃c,(cellsFrom n sc.names []).lookup x=some c:=by have q:=IV sc.names n [] (.inl h);exact je.mp q
theorem AY {CX:CXT} {N ps:List Str} {qual:Str} {f:Addr} {cd:Value} {outer:List Env} {s s1:Shared} {E:XK}
  (S:bc N ps scope) (hd:A.handled=none) (e0:gA P w K mg base A outer s H) (hl:vs.length=ps.length) (r:Vals vs us)
  (x:InCallC s s.heap.objs.size (bindL (envOfC qual scope s.heap.objs.size f cd).kindOf (ps.zip us) λ_=>none) (cellsFrom (s.heap.objs.size+1) scope.names []) (bindC (envOfC qual scope s.heap.objs.size f cd).kindOf (ps.zip us) λ_=>none) s1) :
  Inv (eV CX P w K mg base N qual scope f cd A outer s H E) [] (start N vs) H s1:=by
 have hpl:ps.length<=N.length:=by have:=congrArg List.length S.pre;rw[cE] at this;lia
 obtain⟨h1,tk,rfl,hk⟩:=x.done;have noA:∀b:Addr,b∉(eV CX P w K mg base N qual scope f cd A outer s H E).ex:=λb z=>absurd (show b∈([]:List Addr) from z) (by simp);refine⟨⟨e0.mod,S.kind,rfl,rfl,ar _,λy z c h1 h2=>?_,λy hy=>?_,λy c _ h=>?_,λ_=>hd,Around.frames_deeper e0.frames,.inr ⟨rfl,rfl⟩,λb z=>absurd z (noA b),e0.bs,e0.bsz,λb _ _=>noA b,λb z=>absurd z (noA b),e0.funs,e0.frf⟩,
  rfl,e0.bare,Un.kept hk,⟨_,x.toInCall.ns,λi y v h1 h2 h3=>?_⟩,λy c h=>⟨_,x.cell y c h⟩,e0.hok.fresh (ar _),λy c h=>?_,λp hp=>absurd (show p∈([]:List (Addr×Obj)) from hp) (by simp),e0.hok.kept hk,?_⟩
 .exact name_of_addr x.apart (nj h1) (nj h2)
 .have hy:scope.names.lookup y=some .cell\/scope.names.lookup y=some .free:=hy;rcases hy with hy|hy
  .exact vq hy
  .exact absurd rfl (S.nofree _ (nj hy))
 .exact jc (x.above y c (nj h))
 .have hi:i<vs.length:=by
   unfold start at h2;by_cases hi:i<vs.length
   .exact hi
   .rw[jX (by simpa using hi)] at h2;rw[xP] at h2
    split at h2<;>cases h2
  have ha:vs[i]?=some v:=by
   unfold start at h2;rw[gE (by simpa using hi),bp] at h2;cases e:vs[i]? with
   |none=>rw[e] at h2;cases h2
   |some a=>rw[e] at h2;cases h2;rfl
  obtain⟨u,hu,rv⟩:=r.get ha;have hp:ps[i]?=some y:=by rw[<-S.pre,xQ (by lia)];exact h1
  have ndP:ps.Nodup:=by rw[<-S.pre];exact S.nd.sublist (List.take_sublist _ _)
  refine⟨u,rv,?_⟩;rcases S.par y (bE hp) with k|k
  .exact .inl ⟨k,uB ndP hp hu k⟩
  .obtain⟨c,e⟩:=vq (n:=s.heap.objs.size+1) k;refine .inr ⟨.inl k,c,e,?_⟩;have q:=x.cell y c e;rw[uD ndP hp hu (by show scope.names.lookup y≠_;rw[k];decide)] at q;exact q
 .exact e0.hok.fresh (jc (x.above y c (nj h)))
 .unfold start;show _=N.length;rw[aZ,aC,Ig];lia
theorem xv {CX:CXT} {k:Nat} {f:Addr} {name qual:Str} {params:Arguments} {body:List Stmt} {dV kV doc pm cdv ct oc:Value} {an od:Option Addr}
  {osl:Array (Option Value)} {N ps:List Str} {sp:Sp} (lk:K.lookup f=some ⟨oc,od,.func (W.fnOf name qual params body scope dV kV doc pm an cdv ct),osl⟩) (hcd:W.codeIn K cdv qual=true) (S:bc N ps scope)
  (len:∀vs H Q E,sp vs H Q E->vs.length=ps.length)
  (hbody:∀(A:Around) (outer:List Env) (s:Shared) (H:Hp) (vs:List V) (Q:VK) (E:XK),Room k (A.deeper (envOfC qual scope s.heap.objs.size f cdv))->sp vs H Q E->
   ∃t,PSs (eV CX P w K mg base N qual scope f cdv A outer s H E) body t/\t {nx:=λ_ H'=>Q .non H',rt:=Q} (start N vs) H) :
  ag P w K mg base CX (k+1) f (W.fnOf name qual params body scope dV kV doc pm an cdv ct) ps sp:=by
 refine⟨len,λA outer s H args us vs Q E hr e0 hb r hsp=>?_⟩;have hl:=len _ _ _ _ hsp;have KX:K.In s.heap:=e0.mod.kin.keeps λb o e=>(e0.bs b o e).1;have lim:s.heap.NoLimit:=e0.mod.nolimit.keeps λb o e=>(e0.bs b o e).1;have hkind:∀y∈ps.zip us,scope.names.lookup y.1=some .local\/(scope.names.lookup y.1=some .cell/\((cellsFrom (s.heap.objs.size+1) scope.names []).lookup y.1).isSome=true):=λ⟨n,v⟩ hy=>by
  rcases S.par n (xV hy).1 with q|q
  .exact .inl q
  .exact .inr ⟨q,IV _ _ _ (.inl q)⟩
 refine codeAny_call_function hr.depth (KX _ _ lk) rfl S.co S.gen rfl (W.codeRec_of KX hcd) (hb _ _ _ _ ?_);refine wpAny_newFunctionEnv_cells S.kind hkind λenv he s1 x=>?_;subst he;refine⟨lim.keeps x.toInCall.keep,codeAny_func ?_⟩;obtain⟨t,ht,hq⟩:=hbody A outer s H vs Q E (hr.deeper _) hsp;have I:Inv (eV CX P w K mg base N qual scope f cdv A outer s H E) [] (start N vs) H s1:=AY S hr.hd e0 hl r x;refine dn (ht [] s1 (start N vs) H _ I hq) (λfl s' hs=>?_) λe s' hs=>hs;have fin:∀{Z':St} {H':Hp} {v:V} {u:Value},Inv (eV CX P w K mg base N qual scope f cdv A outer s H E) [] Z' H' s'->ax v u->Q v H'->CE outer P w H s Q u s':=
  λ{Z' H' v u} J rv q=>⟨v,H',J.os,J.bare,J.base,J.hok,rv,q⟩
 cases fl with
 |ret u=>
  obtain⟨v,Z',H',J,rv,q⟩:=hs;exact fin J rv q
 |next=>
  obtain⟨Z',H',J,q⟩:=hs;exact fin (v:=V.non) (u:=Value.none) J rfl q
 |brk=>
  obtain⟨_,_,_,q⟩:=hs;exact False.elim q
 |cont=>
  obtain⟨_,_,_,q⟩:=hs;exact False.elim q
end L2
namespace L2
open PySem PySem.Spec PyProof.Rows
section
variable {x:Str} {p pos:Pos} {e:Expr} {es:List Expr} {t:TA} {id T:String} {r:List V->Hp->VK->Prop}
def tCBK (r:List V->Hp->VK->Prop) (Q:VK):List V->Hp->Prop:=λvs H1=>r vs H1 Q
def tCB (r:List V->Hp->VK->Prop) (t:TA):TE:=λZ H Q=>t Z H (tCBK r Q)
theorem aL (hc:cL X (.builtin id) r) (hg:Gl X x) (hm:X.mg x=none) (hv:bootBuiltins x=some (.builtin id)) (ha:PA X (e::es) t) (hn:x≠"__name__":=by decide) (hdb:(x==("__debug__" : Str))=false:=by decide)
  (he:starEach (e::es) X.env=(false,eval e X.env)::starEach es X.env:=by rfl) (hpl:(backTo pos (starEach es X.env)).any (·.1)=false:=by rfl):PE X (.Call (.Name x p) (e::es) [] pos) (tCB r t):=by
 intro pins s Z H Q I h;refine j_ (jL I hg hm hv ?_ hn hdb);exact JP (thn (ha pos pins s Z H _ I h) λus s1 ⟨vs,H1,I1,r1,q1⟩=>hc pins s1 Z H1 vs us Q I1 r1 q1) he hpl
theorem er (hc:cL X (.type T) r) (hg:Gl X x) (hm:X.mg x=none) (hv:bootBuiltins x=some (.type T)) (ha:PA X (e::es) t) (hn:x≠"__name__":=by decide) (hdb:(x==("__debug__" : Str))=false:=by decide)
  (he:starEach (e::es) X.env=(false,eval e X.env)::starEach es X.env:=by rfl) (hpl:(backTo pos (starEach es X.env)).any (·.1)=false:=by rfl):PE X (.Call (.Name x p) (e::es) [] pos) (tCB r t):=by
 intro pins s Z H Q I h;refine j_ (jL I hg hm hv ?_ hn hdb);exact sv (thn (ha pos pins s Z H _ I h) λus s1 ⟨vs,H1,I1,r1,q1⟩=>hc pins s1 Z H1 vs us Q I1 r1 q1) he hpl
end
end L2
namespace HT
open PySem PyProof.Rows
def lexLt:List Int->List Int->Bool
 | [],[]=>false
 | [],_::_=>true
 |_::_,[]=>false
 |x::xs,y::ys=>if x=y then lexLt xs ys else decide (x<y)
theorem lexLt_cons (x y:Int) (xs ys:List Int):lexLt (x::xs) (y::ys)=if x=y then lexLt xs ys else decide (x<y):=rfl
theorem zi:lexLt [] []=false:=rfl
theorem za (y:Int) (ys:List Int):lexLt [] (y::ys)=true:=rfl
theorem zb (x:Int) (xs:List Int):lexLt (x::xs) []=false:=rfl
theorem Cp (A:Around) (s:Shared) (a:Int) (t:Tok) (c:Int) (u:Tok):∃e,SeqAt.EqAt A s (.int a t) (.int c u) e/\(e=true↔a=c):=
 ⟨(a==c),IZ a t c u,by simp⟩
theorem BD (A:Around) (s:Shared) (a:Int) (t:Tok) (c:Int) (u:Tok) (prog:Program) (w:World) (E:Value->Shared->Prop) (Q:Value->Shared->Prop) (h:Q (.bool (decide (a<c))) s) :
  wpAny (model prog w) A (richCompare .Lt (.int a t) (.int c u)) Q E s:=
 (JR h:wpAny (model prog w) A (compareOp .Lt (.int a t) (.int c u)) Q E s)
section
open PySem.SeqAt
open PySem.AutoSeq1 (wpAny_loadPart')
open PySem.MeetsSeq PySem.MeetsSeq2 PySem.MeetsSeq3
theorem zf (l b:Addr) (items items2:Array Value) (n n2:Nat) (dd dd2:Option Addr) (sl sl2:Array (Option Value)) (ns ms:List Int) (hi:IntsAre items.toList ns) (hj:IntsAre items2.toList ms) :
  Meets (Builtin.«tuple.__lt__» ⟨[.ref l,.ref b],[]⟩)
   (λ_ R s=>s.heap.get? l=some {cls:=.type "tuple",dict:=dd,data:=.seq items n,slots:=sl}/\s.heap.get? b=some {cls:=.type "tuple",dict:=dd2,data:=.seq items2 n2,slots:=sl2}/\
    R (.ok (.ret (.bool (lexLt ns ms)))) s):=
 .of_wp λprog w A R s h=>by
  obtain⟨hp,g,d,tk,os⟩:=s;obtain⟨hl,hb,h⟩:=h;have f2:=AutoSeq1.sub_tuple_tuple;have z1:items.size=ns.length:=by rw[<-hi.length];simp
  have z2:items2.size=ms.length:=by rw[<-hj.length];simp
  wp_walk using yQ hl,yQ hb,Jv _ (λrest b s'=>b.1=none/\s'=⟨hp,g,d,tk,os⟩/\∃(vs ws:List Value) (ns' ms':List Int),rest=vs.zip ws/\
   IntsAre vs ns'/\IntsAre ws ms'/\ns'.length+items2.size=ms'.length+items.size/\R (.ok (.ret (.bool (lexLt ns' ms')))) ⟨hp,g,d,tk,os⟩) _
  case turn=>
   rintro⟨y,x⟩ rest b s' ⟨hb',rfl,vs,ws,ns',ms',hz,hvi,hwi,hlen,hR⟩;cases hvi with
   |nil=>rw[List.zip_nil_left] at hz;cases hz
   |cons a t hvi'=>
    cases hwi with
    |nil=>rw[List.zip_nil_right] at hz;cases hz
    |cons c u hwi'=>
     rw[Ij] at hz;injection hz with hyx hrest;injection hyx with hy hx;subst hy hx;rw[lexLt_cons] at hR;simp only[bQ] at hlen;obtain⟨e,he,hiff⟩:=Cp A.in1 ⟨hp,g,d,tk,os⟩ a t c u;refine af (he prog w _ _ ?_);cases e with
     |true=>
      rw[KI (hiff.mp rfl)] at hR
      wp_walk
      exact⟨rfl,rfl,_,_,_,_,hrest,hvi',hwi',by lia,hR⟩
     |false=>
      rw[KH (λq=>absurd (hiff.mpr q) bN)] at hR;have hri:=BD A.in1 ⟨hp,g,d,tk,os⟩ a t c u prog w
      wp_walk using hri
      exact⟨_,rfl,by simpa using hR⟩
  case fin=>
   rintro⟨b1,b2⟩ s' ⟨hb',rfl,vs,ws,ns',ms',hz,hvi,hwi,hlen,hR⟩;simp only at hb';subst hb';have hv:lexLt ns' ms'=decide (items.size<items2.size):=by
    cases hvi with
    |nil=>
     cases hwi with
     |nil=>
      simp only[ja] at hlen;rw[zi];exact (KL (by lia)).symm
     |cons c u hw=>
      simp only[ja,bQ] at hlen;rw[za];exact (KJ (by lia)).symm
    |cons a t hv=>
     cases hwi with
     |nil=>
      simp only[ja,bQ] at hlen;rw[zb];exact (KL (by lia)).symm
     |cons c u hw=>
      rw[Ij] at hz;cases hz
   rw[hv] at hR
   wp_walk
   exact⟨_,rfl,by simpa [Builtin.Tuple.tupleCompareSizes] using hR⟩
  case h=>
   exact⟨rfl,rfl,items.toList,items2.toList,ns,ms,rfl,hi,hj,by lia,h⟩
end
section
variable {prog:Program}
theorem lt_tupInts {l b:Addr} {items items2:Array Value} {ns ms:List Int} {Q:Value->Shared->Prop} (hl:IsTup s.heap l items) (hb:IsTup s.heap b items2) (hi:IntsAre items.toList ns) (hj:IntsAre items2.toList ms)
  (hu:A.units<cLine) (h:Q (.bool (lexLt ns ms)) s):wpAny (model prog w) A (compareOp .Lt (.ref l) (.ref b)) Q E s:=by
 obtain⟨⟨cls,dd,data,sl⟩,ho,hc,n,hd⟩:=id hl;obtain⟨⟨cls2,dd2,data2,sl2⟩,ho2,hc2,n2,hd2⟩:=id hb;simp only at hc hd hc2 hd2;subst hc hd hc2 hd2;exact richCompare_meets_room (op:=.Lt) ⟨_,ho,rfl⟩ ⟨_,ho2,rfl⟩ PySem.F.slot_tuple_lt PySem.F.entry_tuple_lt (PySem.F.args_tuple_lt_2 _ _) (zf l b items items2 n n2 dd dd2 sl sl2 ns ms hi hj)
  ⟨ho,ho2,show Value.bool (lexLt ns ms)≠Value.notImplemented/\Q (.bool (lexLt ns ms)) s from ⟨(λx=>nomatch x),h⟩⟩ hu
def sIx (n d:Nat):Option Int->Nat
 |none=>d
 |some v=>if v<0 then (v+(n:Int)).toNat else min v.toNat n
theorem sIx_none (n d:Nat):sIx n d none=d:=rfl
theorem sIx_nat (n d k:Nat):sIx n d (some (k:Int))=min k n:=by show (if (k:Int)<0 then ((k:Int)+(n:Int)).toNat else min (k:Int).toNat n)=min k n;rw[KH (by lia),mU]
end
end HT
namespace L2
open PySem PySem.Spec PyProof.Rows
abbrev TO:=St->Hp->(Option Int->Hp->Prop)->Prop
def PO (X:Cx) (e:Option Expr) (t:TO):Prop:=
 ∀(pins:List (Addr×Obj)) (s:Shared) (Z:St) (H:Hp) (Q:Option Int->Hp->Prop),Inv X pins Z H s->t Z H Q->
  wpAny (model X.prog X.w) X.A (evalPart e X.env) (λu s'=>∃o H',Inv X pins Z H' s'/\IsPart u o/\Q o H') X.xe s
def CO:TO:=λ_ H Q=>Q none H
def Ec (Q:Option Int->Hp->Prop) (x:V) (H1:Hp) (i:Int):Prop:=x=.int i/\Q (some i) H1
def Eb (Q:Option Int->Hp->Prop):VK:=λx H1=>Exists (Ec Q x H1)
def FQ (t:TE):TO:=λZ H Q=>t Z H (Eb Q)
theorem nF {ns:List Int}:∀{us:List Value},Vals (ns.map V.int) us->IntsAre us ns:=by
 induction ns with
 |nil=>intro us r;rw[xU] at r;cases r;exact .nil
 |cons n ns ih=>
  intro us r;rw[a8] at r;cases r with
  |cons r1 r2=>
   obtain⟨t,e⟩:=r1;subst e;exact .cons n t (ih r2)
section
variable {e:Expr} {te:TE} {lo hi:Option Expr} {tl th:TO} {pos p2:Pos}
theorem vS:PO X none CO:=by intro pins s Z H Q I h;rw[evalPart_none];exact aq ⟨none,H,I,.none,h⟩
theorem vR (h:PE X e te):PO X (some e) (FQ te):=by intro pins s Z H Q I hw;rw[evalPart_some];refine thn (h pins s Z H _ I hw) λu s1 ⟨x,H1,I1,r1,q1⟩=>?_;obtain⟨i,rfl,q⟩:=q1;obtain⟨t,rfl⟩:=r1;exact⟨some i,H1,I1,.int i t,q⟩
def SlR (X:Cx) (r:V->Option Int->Option Int->Hp->VK->Prop):Prop:=
 ∀(pins:List (Addr×Obj)) (s:Shared) (Z:St) (H:Hp) (x:V) (v vl vu:Value) (lo hi:Option Int) (sl:Addr) (Q:VK),Inv X pins Z H s->ax x v->s.heap.IsSliceOf sl vl vu .none->IsPart vl lo->IsPart vu hi->r x lo hi H Q->
  ∃T id,typeLookup (.type T) "__getitem__" = pure (some (.builtin id))/\s.TypeIs v T/\wpAny (model X.prog X.w) X.A (getItem v (.ref sl)) (EP X pins Z Q) X.xe s
def tSl3 (r:V->Option Int->Option Int->Hp->VK->Prop) (x:V) (l:Option Int) (Q:VK):Option Int->Hp->Prop:=λu H3=>r x l u H3 Q
def tSl2 (r:V->Option Int->Option Int->Hp->VK->Prop) (th:TO) (Z:St) (x:V) (Q:VK):Option Int->Hp->Prop:=λl H2=>th Z H2 (tSl3 r x l Q)
def tSl1 (r:V->Option Int->Option Int->Hp->VK->Prop) (tl th:TO) (Z:St) (Q:VK):VK:=λx H1=>tl Z H1 (tSl2 r th Z x Q)
def tSl (r:V->Option Int->Option Int->Hp->VK->Prop) (te:TE) (tl th:TO):TE:=λZ H Q=>te Z H (tSl1 r tl th Z Q)
theorem uV {r:V->Option Int->Option Int->Hp->VK->Prop} (hr:SlR X r) (he:PE X e te) (hl:PO X lo tl) (hu:PO X hi th):PE X (.Subscript e (.Slice lo hi none p2) pos) (tSl r te tl th):=by intro pins s Z H Q I h;refine yy (thn (he pins s Z H _ I h) λv s1 ⟨x,H1,I1,r1,q1⟩=>?_);refine wpAny_Slice (thn (hl pins s1 Z H1 _ I1 q1) λvl s2 ⟨l,H2,I2,pl,q2⟩=>thn (hu pins s2 Z H2 _ I2 q2) λvu s3 ⟨u,H3,I3,pu,q3⟩=>?_);rw[evalPart_none];refine aq ?_;have I4:Inv X pins Z H3 {s3 with heap:=s3.heap.push {cls:=.type "slice",data:=.fields #[vl,vu,.none]}}:=I3.kept (t':=s3.toks) λb ob q=>aR _ q;obtain⟨T,id,hT,ht,hg⟩:=hr pins {s3 with heap:=s3.heap.push {cls:=.type "slice",data:=.fields #[vl,vu,.none]}} Z H3 x v vl vu l u s3.heap.objs.size Q I4 r1 (JK ..) pl pu q3;show wpAny (model X.prog X.w) X.A (subscriptTail e (.Slice lo hi none p2) v (.ref s3.heap.objs.size)) (EP X pins Z Q) X.xe {s3 with heap:=s3.heap.push {cls:=.type "slice",data:=.fields #[vl,vu,.none]}};exact tail_any (ops:=[.ref s3.heap.objs.size,v]) ht hT hg (by with_unfolding_all rfl)
def iZ (xs:List V) (lo hi:Option Int):List V:=(xs.drop (HT.sIx xs.length 0 lo)).take (HT.sIx xs.length xs.length hi-HT.sIx xs.length 0 lo)
theorem zK (xs:List V) (lo hi:Option Int):(iZ xs lo hi).length<=xs.length:=by unfold iZ;rw[cE,i9];lia
end
end L2
namespace L2
open PySem PySem.Spec PyProof.Rows
def ixN (n:Nat) (i:Int):Option Nat:=if 0<=i then (if i<n then some i.toNat else none) else if -(n:Int)<=i then some (i+n).toNat else none
def atI {α:Type} (xs:List α) (i:Int):Option α:=(ixN xs.length i).bind λj=>xs[j]?
theorem qz {n:Nat} {i:Int} {j:Nat} (h:ixN n i=some j):seqIndex? i n=some j/\j<n/\-(n:Int)<=i/\i<n:=by
 unfold ixN at h;by_cases h0:0<=i
 .rw[KI h0] at h;by_cases h1:i<n
  .rw[KI h1] at h;have e:i.toNat=j:=dh h;exact⟨by rw[yK h0 h1,e],by lia,by lia,h1⟩
  .rw[KH h1] at h;cases h
 .rw[KH h0] at h;by_cases h1:-(n:Int)<=i
  .rw[KI h1] at h;have e:(i+n).toNat=j:=dh h;exact⟨by rw[yJ (by lia) h1,e],by lia,h1,by lia⟩
  .rw[KH h1] at h;cases h
theorem wm {α:Type} {xs:List α} {i:Int} {v:α} (h:atI xs i=some v):∃j,seqIndex? i xs.length=some j/\xs[j]?=some v/\j<xs.length/\-(xs.length:Int)<=i/\i<xs.length:=by
 unfold atI at h;cases e:ixN xs.length i with
 |none=>rw[e] at h;cases h
 |some j=>
  rw[e] at h;obtain⟨h1,h2,h3,h4⟩:=qz e;exact⟨j,h1,h,h2,h3,h4⟩
theorem ck {α:Type} {xs:List α} {j:Nat} {v:α} (h:xs[j]?=some v):atI xs (j:Int)=some v:=by
 have hj:j<xs.length:=(aJ.mp h).1;have e:ixN xs.length (j:Int)=some j:=by unfold ixN;rw[KI (by lia),KI (by lia)];simp
 unfold atI;rw[e];exact h
def D0 (b:Expr):Prop:=∀o i,subscripted b false o i=operate [o,i] (getItem o i)
def IxR (X:Cx) (r:R2):Prop:=
 ∀(value slice:Expr) (pins:List (Addr×Obj)) (s:Shared) (Z:St) (H:Hp) (x y:V) (v u:Value) (Q:VK),Inv X pins Z H s->ax x v->ax y u->r x y H Q->
  subscripted slice false v u=operate [v,u] (getItem v u)->wpAny (model X.prog X.w) X.A (subscriptTail value slice v u) (EP X pins Z Q) X.xe s
def MtR (X:Cx) (id:String) (r:V->List V->Hp->VK->Prop):Prop:=
 ∀(pins:List (Addr×Obj)) (s:Shared) (Z:St) (H:Hp) (x:V) (xs:List V) (v:Value) (us:List Value) (Q:VK),Inv X pins Z H s->ax x v->Vals xs us->r x xs H Q->
  wpAny (model X.prog X.w) X.A (call (.builtin id) (v::us)) (EP X pins Z Q) X.xe s
section
variable {a b:Expr} {ta tb:TE} {pos:Pos}
theorem bL {r:R2} (hr:IxR X r) (ha:PE X a ta) (hb:PE X b tb) (hs:D0 b):PE X (.Subscript a b pos) (tOp r ta tb):=by intro pins s Z H Q I h;exact yy (rG ha hb I h λv u s2 x y H2 I2 rx ry q=>hr a b pins s2 Z H2 x y v u Q I2 rx ry q (hs _ _))
def Gx (K:W.Frag) (x y:V) (H:Hp) (Q:VK) (p:Addr) (xs:List V) (i:Int) (v:V):Prop:=x=.ref p/\y=.int i/\SqL K H p xs/\atI xs i=some v/\Q v H
def rIxL (K:W.Frag):R2:=λx y H Q=>Exists (Ex4 (Gx K x y H Q))
def Gw (K:W.Frag) (x y:V) (H:Hp) (Q:VK) (p:Addr) (xs:List V) (i:Int) (v:V):Prop:=x=.ref p/\y=.int i/\SqT K H p xs/\atI xs i=some v/\Q v H
def rIxT (K:W.Frag):R2:=λx y H Q=>Exists (Ex4 (Gw K x y H Q))
theorem cv:IxR X (rIxL []):=by
 intro value slice pins s Z H x y v u Q I rx ry h hs;obtain⟨p,xs,i,z,rfl,rfl,hq,he,q⟩:=h;cases rx;obtain⟨t,rfl⟩:=ry;obtain⟨its,r,pl,hz⟩:=I.list hq;obtain⟨j,h1,h2,h3,h4,h5⟩:=wm he;obtain⟨w,ew,rw'⟩:=r.get h2;have hl:=r.length;have hn:=line63;have fin:EP X pins Z Q w s:=⟨z,H,I,rw',q⟩;by_cases h0:0<=i
 .have hj:i.toNat=j:=by
   rw[yK h0 h5] at h1;exact dh h1
  exact item_listR pl.isList h0 (by lia) (by rw[hj];simpa using ew) fin hs
 .have hj:(i+(its.toArray.size:Int)).toNat=j:=by
   rw[yJ (by lia) h4] at h1;rw[bU,<-hl];exact dh h1
  exact Jm (x:=w) pl.isList.typeIs Jk.lookup
   (wpAny_getItem_list_neg (Q:=λr s'=>r=w/\EP X pins Z Q r s') pl.isList (by lia) (by rw[bU]<;>lia) (by lia) (by rw[hj];simpa using ew) ⟨rfl,fin⟩) hs
theorem ic:IxR X (rIxT []):=by
 intro value slice pins s Z H x y v u Q I rx ry h hs;obtain⟨p,xs,i,z,rfl,rfl,hq,he,q⟩:=h;cases rx;obtain⟨t,rfl⟩:=ry;obtain⟨its,r,pl,hz⟩:=I.tuple hq;obtain⟨j,h1,h2,h3,h4,h5⟩:=wm he;obtain⟨w,ew,rw'⟩:=r.get h2;have hl:=r.length;have hn:=line63;have fin:EP X pins Z Q w s:=⟨z,H,I,rw',q⟩;exact Jm (x:=w) pl.typeIs slot_tuple_getitem.lookup
  (getItem_tuple (j:=j) (Q:=λr s'=>r=w/\EP X pins Z Q r s') pl (by lia) (by lia) (by rw[bU,<-hl];exact h1) (by simpa using ew) ⟨rfl,fin⟩) hs
theorem z9 (its:List Value) (n j:Nat) (u:Value):Obj.mapSeq (·.setIfInBounds j u) {cls:=.type "list",data:=.seq its.toArray n}={cls:=.type "list",data:=.seq (its.set j u).toArray n}:=by simp[Obj.mapSeq]
theorem Inv.lst {p:Addr} (I:Inv X pins Z H s) (h:H p=some (.lst xs)) :
  ∃(its:List Value) (n:Nat),Vals xs its/\s.heap.get? p=some {cls:=.type "list",data:=.seq its.toArray n}/\xs.length<=sizeLine:=by
 obtain⟨z,its,n,r,e⟩:=I.hok p _ h;exact⟨its,n,r,e,z⟩
theorem Inv.lstUpd {p:Addr} {xs ys:List V} {its its':List Value} {n n':Nat} {f:Obj->Obj} (I:Inv X pins Z H s) (h:H p=some (.lst xs))
  (ho:s.heap.get? p=some {cls:=.type "list",data:=.seq its.toArray n}) (hf:f {cls:=.type "list",data:=.seq its.toArray n}={cls:=.type "list",data:=.seq its'.toArray n'}) (r:Vals ys its') (hz:ys.length<=sizeLine) (t:Nat) :
  Inv X pins Z (upd H p (.lst ys)) {s with heap:=s.heap.update p f,toks:=t}:=by
 have e:(s.heap.update p f).get? p=some {cls:=.type "list",data:=.seq its'.toArray n'}:=by rw[iy f ho (by rw[hf]<;>rfl),hf]
 refine I.write (x:=p) (e:=p) (by rw[h];trivial) (.inl rfl) (λb u hb q=>(fT _ _ (av hb)).trans q) ⟨_,e⟩ ?_;exact⟨hz,its',n',r,e⟩
def EM (o i v:V) (H:Hp) (Q:Hp->Prop) (p:Addr) (xs:List V) (k:Int) (j:Nat):Prop:=o=.ref p/\i=.int k/\H p=some (.lst xs)/\ixN xs.length k=some j/\WrO H p (.lst (xs.set j v)) Q
def Gr:V->V->V->Hp->(Hp->Prop)->Prop:=λo i v H Q=>Exists (Ex4 (EM o i v H Q))
theorem pY:PSet X Gr:=by
 intro pins s Z H o i v ov iv u Q I ro ri rv h;obtain⟨p,xs,k,j,rfl,rfl,hp,hj,q⟩:=h;replace q:=q.at;cases ro;obtain⟨t,rfl⟩:=ri;obtain⟨its,n,r,ho,hz⟩:=I.lst hp;obtain⟨h1,h2,h3,h4⟩:=qz hj;have hl:=r.length;have hn:=line63;have I':Inv X pins Z (upd H p (.lst (xs.set j v))) {s with heap:=s.heap.update p (Obj.mapSeq (·.setIfInBounds j u))}:=
  I.lstUpd hp ho (z9 its n j u) (r.set rv j) (by rw[List.length_set];exact hz) s.toks
 by_cases h0:0<=k
 .have hk:k.toNat=j:=by
   rw[yK h0 h4] at h1;exact dh h1
  exact W.ki_setAt ho h0 (by lia) (by rw[bU,<-hl];exact h4) (by rw[hk];exact⟨_,I',q⟩)
 .have hk:(k+(its.toArray.size:Int)).toNat=j:=by
   rw[yJ (by lia) h3] at h1;rw[bU,<-hl];exact dh h1
  exact W.ki_setBack ho (by lia) (by rw[bU,<-hl];exact h3) (by lia) (by rw[hk];exact⟨_,I',q⟩)
theorem zm (lo hi:Option Int) (n:Nat):(sliceBounds lo hi none n).1=((HT.sIx n 0 lo:Nat):Int)/\(sliceBounds lo hi none n).2.1=((HT.sIx n n hi:Nat):Int)/\(sliceBounds lo hi none n).2.2=1:=by
 refine⟨?_,?_,rfl⟩
 .cases lo with
  |none=>simp[sliceBounds,HT.sIx]
  |some i=>
   simp only[sliceBounds,HT.sIx,Iw,show (1:Int)>0 by decide,if_true];by_cases h:i<0
   .simp only[h,if_true]<;>lia
   .simp only[h,if_false]<;>lia
 .cases hi with
  |none=>simp[sliceBounds,HT.sIx]
  |some i=>
   simp only[sliceBounds,HT.sIx,Iw,show (1:Int)>0 by decide,if_true];by_cases h:i<0
   .simp only[h,if_true]<;>lia
   .simp only[h,if_false]<;>lia
theorem zg (its:List Value) (lo hi:Option Int):slicePick its.toArray lo hi none=((its.drop (HT.sIx its.length 0 lo)).take (HT.sIx its.length its.length hi-HT.sIx its.length 0 lo)).toArray:=by obtain⟨h1,h2,h3⟩:=zm lo hi its.toArray.size;unfold slicePick;rw[h1,h2,h3];simp only[sliceRange_one,pick_run,bU]<;>rfl
def Gq (K:W.Frag) (x:V) (lo hi:Option Int) (H:Hp) (Q:VK) (a:Addr) (xs:List V):Prop:=x=.ref a/\SqL K H a xs/\ft H (.lst (iZ xs lo hi)) Q
def rSlL (K:W.Frag):V->Option Int->Option Int->Hp->VK->Prop:=λx lo hi H Q=>Exists (Ex2 (Gq K x lo hi H Q))
theorem vL:SlR X (rSlL []):=by intro pins s Z H x v vl vu lo hi sl Q I rx hs pl pu h;obtain⟨a,xs,rfl,hx,q⟩:=h;cases rx;obtain⟨its,r,ht,hz⟩:=I.list hx;have hlen:=r.length;refine⟨"list",_,Jk.lookup,ht.isList.typeIs,?_⟩;refine wpAny_getItem_list_slice ht.isList hs pl pu .none (by simp) ?_ (by rw[bU]<;>lia);rw[zg,<-hlen];refine⟨.ref s.heap.objs.size,_,I.laid (t':=s.toks) (o:=.lst (iZ xs lo hi)) (λb ob q=>aR _ q) (ar _) ?_,rfl,q.at (I.hok.fresh (ar _))⟩;exact⟨cF (zK xs lo hi) hz,_,0,(r.drop (HT.sIx xs.length 0 lo)).take (HT.sIx xs.length xs.length hi-HT.sIx xs.length 0 lo),bP _ rfl⟩
def gk:V->Bool
 |.non=>true
 |.bl _=>true
 |.int _=>true
 |.str _=>true
 |_=>false
def eqV:V->V->Bool
 |.non,.non=>true
 |.bl a,.bl b=>a==b
 |.bl a,.int b=>(if a then 1 else 0)==b
 |.int a,.bl b=>a==(if b then 1 else 0)
 |.int a,.int b=>a==b
 |.str a,.str b=>a==b
 |_,_=>false
theorem Fw {y x:V} {u v:Value} (ry:ax y u) (rx:ax x v) (fy:gk y=true) (fx:gk x=true):SeqAt.EqAt A s u v (eqV y x):=by
 cases y with
 |non=>
  cases ry;cases x with
  |non=>cases rx;exact KB _
  |bl b=>cases rx;exact Kx b
  |int b=>obtain⟨t,rfl⟩:=rx;exact Kz b t
  |str b=>obtain⟨t,rfl⟩:=rx;exact KA b t
  |_=>exact absurd (show false=true from fx) bN
 |bl a=>
  cases ry;cases x with
  |non=>cases rx;exact Kt a
  |bl b=>cases rx;exact Kr a b
  |int b=>obtain⟨t,rfl⟩:=rx;exact Ks a b t
  |str b=>obtain⟨t,rfl⟩:=rx;exact Ku a b t
  |_=>exact absurd (show false=true from fx) bN
 |int a=>
  obtain⟨t',rfl⟩:=ry;cases x with
  |non=>cases rx;exact Kw a t'
  |bl b=>cases rx;exact Kv a t' b
  |int b=>obtain⟨t,rfl⟩:=rx;exact IZ a t' b t
  |str b=>obtain⟨t,rfl⟩:=rx;exact I0 a t' b t
  |_=>exact absurd (show false=true from fx) bN
 |str a=>
  obtain⟨t',rfl⟩:=ry;cases x with
  |non=>cases rx;exact KD a t'
  |bl b=>cases rx;exact KC a t' b
  |int b=>obtain⟨t,rfl⟩:=rx;exact I_ a t' b t
  |str b=>obtain⟨t,rfl⟩:=rx;exact KF a t' b t
  |_=>exact absurd (show false=true from fx) bN
 |_=>exact absurd (show false=true from fy) bN
def eqU (x:V) (u:Value):Bool:=match u with
 |.none=>eqV .non x
 |.bool b=>eqV (.bl b) x
 |.int i _=>eqV (.int i) x
 |.str z _=>eqV (.str z) x
 |_=>false
theorem wY {x y:V} {u:Value} (r:ax y u) (f:gk y=true):eqU x u=eqV y x:=by
 cases y with
 |non=>cases r;rfl
 |bl b=>cases r;rfl
 |int i=>obtain⟨t,rfl⟩:=r;rfl
 |str z=>obtain⟨t,rfl⟩:=r;rfl
 |_=>exact absurd (show false=true from f) bN
theorem lA {x:V}:∀{xs:List V} {us:List Value},Vals xs us->xs.all gk=true->us.any (eqU x)=xs.any λy=>eqV y x
 |_,_,.nil,_=>rfl
 |y::xs,u::us,.cons r t,f=>by
  rw[xI,eC] at f;rw[pd,pd,wY r f.1,lA t f.2]
theorem kP {x:V} {v:Value} (rx:ax x v) (fx:gk x=true):∀{xs:List V} {us:List Value},Vals xs us->xs.all gk=true->∀u∈us,SeqAt.EqAt A s u v (eqU x u)
 |_,_,.nil,_=>λu hu=>by cases hu
 |y::xs,u::us,.cons r t,f=>λu' hu=>by
  rw[xI,eC] at f;rcases aT.mp hu with rfl|hu
  .rw[wY r f.1];exact Fw r rx f.1 fx
  .exact kP rx fx t f.2 u' hu
def inV (x:V) (xs:List V):Bool:=xs.any λy=>eqV y x
def rInB (K:W.Frag) (neg:Bool) (x y:V) (H:Hp) (Q:VK) (p:Addr) (xs:List V):Prop:=y=.ref p/\(SqL K H p xs\/SqT K H p xs)/\gk x=true/\xs.all gk=true/\Q (.bl (if neg then !inV x xs else inV x xs)) H
def rIn (K:W.Frag) (neg:Bool):R2:=λx y H Q=>Exists (Ex2 (rInB K neg x y H Q))
theorem nJ:OpR X (compareOp .In) (rIn [] false):=by
 intro pins s Z H x y v u Q I rx ry h;obtain⟨p,xs,rfl,hq,fx,fs,q⟩:=h;cases ry;rcases hq with hq|hq
 .obtain⟨its,r,pl,hz⟩:=I.list hq;refine SeqAt.in_listAt (eqU x) pl.isList (λw hw=>kP rx fx r fs w (by simpa using hw)) ⟨.bl _,H,I,rfl,?_⟩;rw[show its.toArray.any (eqU x)=its.any (eqU x) by simp,lA r fs];exact q
 .obtain⟨its,r,pl,hz⟩:=I.tuple hq;refine SeqAt.in_tupleAt (eqU x) pl (λw hw=>kP rx fx r fs w (by simpa using hw)) ⟨.bl _,H,I,rfl,?_⟩;rw[show its.toArray.any (eqU x)=its.any (eqU x) by simp,lA r fs];exact q
theorem kh:OpR X (compareOp .NotIn) (rIn [] true):=by
 intro pins s Z H x y v u Q I rx ry h;obtain⟨p,xs,rfl,hq,fx,fs,q⟩:=h;cases ry;rcases hq with hq|hq
 .obtain⟨its,r,pl,hz⟩:=I.list hq;refine SeqAt.notIn_listAt (eqU x) pl.isList (λw hw=>kP rx fx r fs w (by simpa using hw)) ⟨.bl _,H,I,rfl,?_⟩;rw[show its.toArray.any (eqU x)=its.any (eqU x) by simp,lA r fs];exact q
 .obtain⟨its,r,pl,hz⟩:=I.tuple hq;refine SeqAt.notIn_tupleAt (eqU x) pl (λw hw=>kP rx fx r fs w (by simpa using hw)) ⟨.bl _,H,I,rfl,?_⟩;rw[show its.toArray.any (eqU x)=its.any (eqU x) by simp,lA r fs];exact q
def ES (K:W.Frag) (xs:List V) (H:Hp) (Q:VK) (p:Addr) (ys:List V):Prop:=xs=[.ref p]/\(SqL K H p ys\/SqT K H p ys)/\Q (.int ys.length) H
def Gv (K:W.Frag):List V->Hp->VK->Prop:=λxs H Q=>Exists (Ex2 (ES K xs H Q))
theorem c9:cL X (.builtin "len") (Gv []):=by
 intro pins s Z H xs us Q I r h;obtain⟨p,ys,rfl,hq,q⟩:=h;obtain⟨u,rfl,rx⟩:=vals1 r;cases rx;have hn:=line63;rcases hq with hq|hq
 .obtain⟨its,r',pl,hz⟩:=I.list hq;have hlen:=r'.length;exact Calls.call_len_list pl.isList (by simp only[bU]<;>lia) ⟨.int ys.length,H,I.tok _,⟨s.toks+1,by rw[bU,hlen]⟩,q⟩
 .obtain⟨its,r',pl,hz⟩:=I.tuple hq;have hlen:=r'.length;exact len_tuple pl (by simp only[bU]<;>lia) ⟨.int ys.length,H,I.tok _,⟨s.toks+1,by rw[bU,hlen]⟩,q⟩
def Dj (K:W.Frag) (xs:List V) (H:Hp) (Q:VK) (p:Addr) (ys:List V):Prop:=xs=[.ref p]/\(SqL K H p ys\/SqT K H p ys)/\ft H (.lst ys) Q
def ER (K:W.Frag):List V->Hp->VK->Prop:=λxs H Q=>Exists (Ex2 (Dj K xs H Q))
theorem zt:cL X (.type "list") (ER []):=by
 intro pins s Z H xs us Q I r h;obtain⟨p,ys,rfl,hq,q⟩:=h;obtain⟨u,rfl,rx⟩:=vals1 r;cases rx;have fin:∀(its:List Value),Vals ys its->ys.length<=sizeLine->∀(h':Heap) (c':Nat),(∀b o',s.heap.get? b=some o'->h'.get? b=some o')->
   h'.get? s.heap.objs.size=some {cls:=.type "list",dict:=none,data:=.seq its.toArray c',slots:=#[]}->EP X pins Z Q (.ref s.heap.objs.size) {s with heap:=h'}:=λits r' hz h' c' kp e=>
  ⟨.ref s.heap.objs.size,_,I.laid (t':=s.toks) kp (ar _) (show aQ X.prog X.w _ h' _ (.lst ys) from ⟨hz,its,c',r',e⟩),rfl,q.at (I.hok.fresh (ar _))⟩
 rcases hq with hq|hq
 .obtain⟨its,r',pl,hz⟩:=I.list hq;have hlen:=r'.length;obtain⟨o,ho,hc,n,hd⟩:=pl.isList;exact call_list_seq p (.inl rfl) ho hc hd (λh' c' kp e=>fin its r' hz h' c' kp e) (by simp only[bU]<;>lia)
 .obtain⟨its,r',pl,hz⟩:=I.tuple hq;have hlen:=r'.length;obtain⟨o,ho,hc,n,hd⟩:=pl;exact call_list_seq p (.inr rfl) ho hc hd (λh' c' kp e=>fin its r' hz h' c' kp e) (by simp only[bU]<;>lia)
theorem kg:cL X (.type "tuple") (λxs H Q=>∃p ys,xs=[.ref p]/\((SqL [] H p ys/\∀l,H l=none->Q (.ref l) (upd H l (.tup ys)))\/(SqT [] H p ys/\Q (.ref p) H))):=by
 intro pins s Z H xs us Q I r h;obtain⟨p,ys,rfl,h⟩:=h;obtain⟨u,rfl,rx⟩:=vals1 r;cases rx;rcases h with ⟨hq,q⟩|⟨hq,q⟩
 .obtain⟨its,r',pl,hz⟩:=I.list hq;have hlen:=r'.length;refine call_tuple_list pl.isList (λh' kp=>?_) (by simp only[bU]<;>lia);have I1:Inv X pins Z H {s with heap:=h'}:=I.kept (t':=s.toks) kp;have I2:Inv X pins Z (upd H h'.objs.size (.tup ys)) {s with heap:=h'.push {cls:=.type "tuple",data:=.seq its.toArray}}:=
   I1.laid (t':=s.toks) (λb o e=>aR _ e) (ar _) (show aQ X.prog X.w _ _ _ (.tup ys) from ⟨⟨hz,_,bP _ rfl,rfl⟩,its,r',HJ _ _⟩)
  exact⟨.ref h'.objs.size,_,I2,rfl,q _ (I1.hok.fresh (ar _))⟩
 .obtain⟨its,r',pl,hz⟩:=I.tuple hq;exact call_tuple_same pl ⟨.ref p,H,I,rfl,q⟩
def tyV (K:W.Frag) (T:String) (x:V) (H:Hp):Prop:=match x with
 |.str _=>T = "str"
 |.int _=>T = "int"
 |.ref p=>(T = "list"/\∃xs,SqL K H p xs)\/(T = "tuple"/\∃o,K.lookup p=some o/\o.cls=.type "tuple"/\o.dict=none) \/
   (T = "dict"/\((∃kvs,H p=some (.dK kvs))\/∃kvs,H p=some (.dT kvs)))\/(T = "set"/\∃S n,H p=some (.set S n))
 |_=>False
theorem D8 {T:String} {x:V} {v:Value} (I:Inv X pins Z H s) (r:ax x v) (ty:tyV [] T x H) :
  s.TypeIs v T/\∀a,v=.ref a->∃ob,s.heap.get? a=some ob/\ob.dict=none:=by
 cases x with
 |str z=>
  obtain⟨t,rfl⟩:=r;cases (show T = "str" from ty);exact⟨typeIs_str s z t,λ_ e=>nomatch e⟩
 |int i=>
  obtain⟨t,rfl⟩:=r;cases (show T = "int" from ty);exact⟨typeIs_int s i t,λ_ e=>nomatch e⟩
 |ref p=>
  cases r;rcases ty with ⟨rfl,xs,hq⟩|⟨rfl,o,hk,hc,hd⟩|⟨rfl,hk⟩|⟨rfl,S,n,hk⟩
  .obtain⟨its,_,pl,_⟩:=I.list hq;refine⟨pl.isList.typeIs,λa e=>?_⟩;cases e;obtain⟨o,n,e,c,hd,_⟩:=pl;exact⟨o,e,hd⟩
  .cases hk
  .have z:∃o,s.heap.get? p=some o/\o.ExactDict:=by
    rcases hk with ⟨kvs,hk⟩|⟨kvs,hk⟩
    .obtain⟨_,_,_,_,o,_,_,e,ex,_⟩:=I.hok p _ hk;exact⟨o,e,ex⟩
    .obtain⟨_,_,_,_,o,_,_,e,ex,_⟩:=I.hok p _ hk;exact⟨o,e,ex⟩
   obtain⟨o,e,ex⟩:=z;refine⟨⟨o,e,ex.1⟩,λa e2=>?_⟩;cases e2;exact⟨o,e,ex.2.1⟩
  .obtain⟨o,_,_,_,e,ex,_⟩:=I.hok p _ hk;refine⟨⟨o,e,ex.1⟩,λa e2=>?_⟩;cases e2;exact⟨o,e,ex.2.1⟩
 |_=>exact False.elim ty
def tBM2 (r:V->List V->Hp->VK->Prop) (x:V) (Q:VK):List V->Hp->Prop:=λxs H2=>r x xs H2 Q
def tBM1 (K:W.Frag) (T:String) (r:V->List V->Hp->VK->Prop) (t:TA) (Z:St) (Q:VK):VK:=λx H1=>tyV K T x H1/\t Z H1 (tBM2 r x Q)
def tBM (K:W.Frag) (T:String) (r:V->List V->Hp->VK->Prop) (to:TE) (t:TA):TE:=λZ H Q=>to Z H (tBM1 K T r t Z Q)
variable {o e:Expr} {es:List Expr} {to:TE} {t:TA} {name:Str} {apos cpos:Pos} {T id:String} {r:V->List V->Hp->VK->Prop}
theorem df (pa:PlainAttrs T) (slot:Slot T name id) (hty:typeOf (.builtin id)=pure (.type "method_descriptor")) (hm:MtR X id r) (ho:PE X o to) (ha:PA X (e::es) t)
  (hbase:attributeBase o name X.env (eval o X.env)=eval o X.env:=by rfl)
  (hfew:((backTo cpos (starEach (e::es) X.env)).all (λx=>!x.1)&&(backToKw cpos (keywordEach [] X.env)).all (λx=>x.1.isSome)
   && decide ((e::es).length+([]:List Keyword).length+(if ([]:List Keyword).isEmpty then 0 else 1)<30))=true:=by rfl)
  (hline:(apos.endLine==cpos.line)=true:=by rfl) (hs:starEach (e::es) X.env=(false,eval e X.env)::starEach es X.env:=by rfl) (hplain:(backTo cpos (starEach es X.env)).any (·.1)=false:=by rfl) :
  PE X (.Call (.Attribute o name apos) (e::es) [] cpos) (tBM [] T r to t):=by
 intro pins s Z H Q I h;refine Jo hbase hfew hline rfl (thn (ho pins s Z H _ I h) λv s1 ⟨x,H1,I1,r1,ty,q1⟩=>?_);obtain⟨h1,h2⟩:=D8 I1 r1 ty;refine⟨T,id,pa,slot,hty,h1,h2,?_⟩;have hA:=ha cpos pins s1 Z H1 _ I1 q1;rw[hs] at hA |-;refine mK (by show (false||(backTo cpos (starEach es X.env)).any (·.1))=false;rw[hplain]<;>rfl) (mL ?_);exact thn hA λus s2 ⟨vs,H2,I2,r2,q2⟩=>hm pins s2 Z H2 x vs v us Q I2 r1 r2 q2
end
end L2
namespace L2
open PySem PySem.Spec PyProof.Rows
def MtM (X:Cx) (id:String) (r:V->List V->Hp->VK->Prop):Prop:=
 ∀(pins:List (Addr×Obj)) (s:Shared) (Z:St) (H:Hp) (x:V) (xs:List V) (v:Value) (us:List Value) (Q:VK),Inv X pins Z H s->ax x v->Vals xs us->r x xs H Q->
  wpAny (model X.prog X.w) X.A (call (.builtin id) (v::us)) (EP X pins Z Q) X.xe s
theorem Vals.one {x:V} (h:Vals [x] us):∃u,us=[u]/\ax x u:=by
 cases h with
 |cons r t=>cases t;exact⟨_,rfl,r⟩
theorem Vals.two {x y:V} (h:Vals [x,y] us):∃u v,us=[u,v]/\ax x u/\ax y v:=by
 cases h with
 |cons r t=>
  obtain⟨v,rfl,q⟩:=Vals.one t;exact⟨_,v,rfl,r,q⟩
theorem Vals.eraseIdx:∀{xs:List V} {us:List Value} (i:Nat),Vals xs us->Vals (xs.eraseIdx i) (us.eraseIdx i)
 |_,_,_,.nil=>.nil
 |_,_,0,.cons _ t=>t
 |_,_,i+1,.cons r t=>.cons r (Vals.eraseIdx i t)
theorem uq {α:Type}:∀(l:List α) (i:Nat),(l.eraseIdx i).length<=l.length
 | [],_=>ar _
 |_::_,0=>jd _
 |_::r,i+1=>Nat.succ_le_succ (uq r i)
section
variable {l b:Addr} {xs ys zs:List V}
theorem Inv.lset {its its':List Value} {n:Nat} {f:Array Value->Array Value} {t':Nat} (I:Inv X pins Z H s) (hH:H l=some (.lst xs))
  (e:s.heap.get? l=some {cls:=.type "list",data:=.seq its.toArray n}) (hf:f its.toArray=its'.toArray) (hv:Vals ys its') (hz:ys.length<=sizeLine) :
  Inv X pins Z (upd H l (.lst ys)) {s with heap:=s.heap.update l (Obj.mapSeq f),toks:=t'}:=by
 have q:=PySem.IsL.update e f;rw[hf] at q;refine I.write (x:=l) (e:=l) (by rw[hH];exact trivial) (.inl rfl) (λb' u hb hu=>(fT s.heap (Obj.mapSeq f) (av hb)).trans hu) ⟨_,q⟩ ?_;exact⟨hz,its',_,hv,q⟩
theorem Inv.lnew {its:List Value} {t':Nat} (I:Inv X pins Z H s) (hv:Vals ys its) (hz:ys.length<=sizeLine) :
  Inv X pins Z (upd H s.heap.objs.size (.lst ys)) {s with heap:=s.heap.push {cls:=.type "list",data:=.seq its.toArray},toks:=t'}:=
 I.laid (λ_ _ q=>aR _ q) (ar _) ⟨hz,its,0,hv,bP _ rfl⟩
theorem Inv.fresh (I:Inv X pins Z H s):H s.heap.objs.size=none:=I.hok.fresh (ar _)
theorem Inv.lstM (I:Inv X pins Z H s) (hH:H l=some (.lst xs)):xs.length<=sizeLine/\∃(its:List Value) (n:Nat),Vals xs its/\xs.length=its.length/\s.heap.get? l=some {cls:=.type "list",data:=.seq its.toArray n}:=by obtain⟨z,its,n,r,e⟩:=I.hok l _ hH;exact⟨z,its,n,r,r.length,e⟩
end
section
def BH (x:V) (vs:List V) (H:Hp) (Q:VK) (l:Addr) (xs:List V) (y:V):Prop:=x=.ref l/\vs=[y]/\H l=some (.lst xs)/\xs.length<sizeLine/\WrO H l (.lst (xs++[y])) (Q .non)
def Do:V->List V->Hp->VK->Prop:=λx vs H Q=>Exists (Ex3 (BH x vs H Q))
theorem fE:MtM X "list.append" Do:=by intro pins s Z H x vs v us Q I rx rv h;obtain⟨l,xs,y,rfl,rfl,hH,hz,q⟩:=h;cases rx;obtain⟨u,rfl,ru⟩:=rv.one;obtain⟨z,its,n,r,hl,e⟩:=I.lstM hH;refine call_meets F.slot_list_append ⟨_,e,rfl⟩ F.entry_list_append (F.args_list_append_2 _ _) (PySem.list_append l its.toArray n u (by rw[bU];lia)) ⟨e,?_⟩;refine⟨.non,_,I.lset (its':=its++[u]) hH e (by simp) (r.append (.cons ru .nil)) ?_,rfl,q.at⟩;rw[aZ,cM];lia
def Di (x:V) (vs:List V) (H:Hp) (Q:VK) (l:Addr) (xs:List V) (i:Int) (k:Nat) (y:V):Prop:=x=.ref l/\vs=[.int i]/\H l=some (.lst xs)/\-(2 ^ 63)<=i/\i<2 ^ 63/\seqIndex? i xs.length=some k/\xs[k]?=some y/\WrO H l (.lst (xs.eraseIdx k)) (Q y)
def wJ:V->List V->Hp->VK->Prop:=λx vs H Q=>Exists (Ex5 (Di x vs H Q))
theorem qb:MtM X "list.pop" wJ:=by
 intro pins s Z H x vs v us Q I rx rv h;obtain⟨l,xs,i,k,y,rfl,rfl,hH,h1,h2,hk,hy,q⟩:=h;cases rx;obtain⟨u,rfl,ru⟩:=rv.one;obtain⟨t,rfl⟩:=ru;obtain⟨z,its,n,r,hl,e⟩:=I.lstM hH;obtain⟨w,hw,rw'⟩:=r.get hy;refine call_meets F.slot_list_pop ⟨_,e,rfl⟩ F.entry_list_pop (F.args_list_pop_2 _ _)
  (MeetsSeq.list_pop_at l its.toArray n i t k w (Jf h1 h2) (by rw[bU,<-hl];exact hk) (by rw[<-iu];exact hw) (by rw[bU];lia)) ⟨e,?_⟩
 refine⟨y,_,I.lset (its':=its.eraseIdx k) hH e ?_ (r.eraseIdx k) ?_,rw',q.at⟩
 .show its.toArray.eraseIdxIfInBounds k=(its.eraseIdx k).toArray;rw[List.eraseIdxIfInBounds_toArray]
 .have:=uq xs k;lia
def GK (x y:V) (H:Hp) (Q:VK) (l b:Addr) (xs zs:List V):Prop:=x=.ref l/\y=.ref b/\H l=some (.lst xs)/\H b=some (.lst zs)/\xs.length+zs.length<=sizeLine/\ft H (.lst (xs++zs)) Q
def rCat:R2:=λx y H Q=>Exists (Ex4 (GK x y H Q))
theorem fN:OpR X (binaryOp .Add) rCat:=by
 intro pins s Z H x y v u Q I rx ry h;obtain⟨l,b,xs,zs,rfl,rfl,hH,hB,hz,q⟩:=h;cases rx;cases ry;obtain⟨z,its,n,r,hl,e⟩:=I.lstM hH;obtain⟨z2,its2,n2,r2,hl2,e2⟩:=I.lstM hB;refine PySem.P.add_list e e2 ?_ (by rw[bU,bU];lia);have ea:its.toArray++its2.toArray=(its++its2).toArray:=by simp
 rw[ea];exact⟨.ref _,_,I.lnew (t':=s.toks) (r.append r2) (by rw[aZ];lia),rfl,q.at I.fresh⟩
end
section
variable {prog:Program}
set_option maxRecDepth 100000 in
end
section
end
end L2
namespace L2
open PySem PySem.Spec PyProof.Rows
section
variable {κ:Type} [DecidableEq κ]
def bj (kvs:List (κ×V)) (k:κ):Option V:=(kvs.find? λkv=>decide (kv.1=k)).map (·.2)
def cY (kvs:List (κ×V)) (k:κ) (v:V):List (κ×V):=
 if (kvs.any λkv=>decide (kv.1=k))=true then kvs.map (λkv=>if kv.1=k then (kv.1,v) else kv) else kvs++[(k,v)]
def iV (kvs:List (κ×V)) (k:κ):List (κ×V):=kvs.filter λkv=>decide (kv.1≠k)
theorem gU {p:κ×V} {r:List (κ×V)} {k:κ} (e:p.1=k):bj (p::r) k=some p.2:=by simp[bj,mX,e]
theorem fH {p:κ×V} {r:List (κ×V)} {k:κ} (e:¬p.1=k):bj (p::r) k=bj r k:=by simp[bj,mX,e]
theorem nO (k:κ):∀kvs:List (κ×V),(kvs.any λkv=>decide (kv.1=k))=(bj kvs k).isSome
 | []=>rfl
 |p::r=>by
  rw[pd];by_cases e:p.1=k
  .simp only[gU e,KJ e,Bool.true_or,Option.isSome_some]
  .rw[fH e,KL e,Bool.false_or];exact nO k r
theorem pO (kvs:List (κ×V)) (k:κ) (v:V):(cY kvs k v).length<=kvs.length+1:=by
 unfold cY
 split
 .rw[aC];lia
 .rw[aZ,bQ,ja];lia
theorem nQ {kvs:List (κ×V)} {k:κ} (v:V) (h:bj kvs k=none):cY kvs k v=kvs++[(k,v)]:=by unfold cY;rw[nO,h];exact KH (by decide)
theorem dB.isSome_eq {o:Option V} {u:Option Value} (r:dB o u):o.isSome=u.isSome:=by
 cases o with
 |none=>cases u with
  |none=>rfl
  |some _=>exact (show False from r).elim
 |some _=>cases u with
  |none=>exact (show False from r).elim
  |some _=>rfl
theorem dB.getD {o:Option V} {u:Option Value} {d:V} {d':Value} (r:dB o u) (rd:ax d d'):ax (o.getD d) (u.getD d'):=by
 cases o with
 |none=>cases u with
  |none=>exact rd
  |some _=>exact (show False from r).elim
 |some _=>cases u with
  |none=>exact (show False from r).elim
  |some _=>exact r
theorem KV.val {kvs:List (κ×V)} {vs:List (κ×Value)} (r:KV kvs vs) (k:κ):dB (bj kvs k) (valueAt vs k):=by
 unfold KV at r;induction r with
 |nil=>exact True.intro
 | @cons p q ps qs h t ih=>
  obtain⟨h1,h2⟩:=h;by_cases e:p.1=k
  .have e':q.1=k:=h1.symm.trans e;have b:valueAt (q::qs) k=some q.2:=by simp[valueAt,mX,e']
   rw[gU e,b];exact h2
  .have e':¬q.1=k:=λz=>e (h1.trans z);have b:valueAt (q::qs) k=valueAt qs k:=by simp[valueAt,mX,e']
   rw[fH e,b];exact ih
theorem KV.any {kvs:List (κ×V)} {vs:List (κ×Value)} (r:KV kvs vs) (k:κ):(kvs.any λkv=>decide (kv.1=k))=vs.any λkv=>decide (kv.1=k):=by
 unfold KV at r;induction r with
 |nil=>rfl
 |cons h t ih=>rw[pd,pd,ih,h.1]
theorem KV.repl {kvs:List (κ×V)} {vs:List (κ×Value)} (r:KV kvs vs) (k:κ) {y:V} {u:Value} (ry:ax y u) :
  KV (kvs.map λkv=>if kv.1=k then (kv.1,y) else kv) (vs.map λkv=>if kv.1=k then (kv.1,u) else kv):=by
 unfold KV at r |-;induction r with
 |nil=>exact .nil
 | @cons p q ps qs h t ih=>
  rw[a8,a8];refine .cons ?_ ih;obtain⟨h1,h2⟩:=h;by_cases e:p.1=k
  .rw[KI e,KI (h1.symm.trans e)];exact⟨h1,ry⟩
  .rw[KH e,KH (λz=>e (h1.trans z))];exact⟨h1,h2⟩
theorem KV.put {kvs:List (κ×V)} {vs:List (κ×Value)} (r:KV kvs vs) (k:κ) {y:V} {u:Value} (ry:ax y u):KV (cY kvs k y) (stored vs k u):=by
 unfold cY stored;rw[r.any k];by_cases e:(vs.any λkv=>decide (kv.1=k))=true
 .rw[KI e,KI e];exact r.repl k ry
 .rw[KH e,KH e];exact Iz r ⟨rfl,ry⟩
theorem KV.drop {kvs:List (κ×V)} {vs:List (κ×Value)} (r:KV kvs vs) (k:κ):KV (iV kvs k) (without vs k):=by
 unfold KV at r |-;unfold iV without;induction r with
 |nil=>exact .nil
 | @cons p q ps qs h t ih=>
  obtain⟨h1,h2⟩:=h;rw[eM,eM];by_cases e:p.1=k
  .have a:¬decide (p.1≠k)=true:=by simp[e]
   have b:¬decide (q.1≠k)=true:=by simp[h1.symm.trans e]
   rw[KH a,KH b];exact ih
  .have e':¬q.1=k:=λz=>e (h1.trans z);have a:decide (p.1≠k)=true:=by simp[e]
   have b:decide (q.1≠k)=true:=by simp[e']
   rw[KI a,KI b];exact .cons ⟨h1,h2⟩ ih
theorem KV.length {kvs:List (κ×V)} {vs:List (κ×Value)} (r:KV kvs vs):kvs.length=vs.length:=ng r
theorem Cu (kvs:List (κ×V)) (k:κ):(iV kvs k).length<=kvs.length:=i_ _ _
end
theorem il {k:Key} {u:Value} (r:ax (kV k) u):(cV P w).is k u=true:=by
 cases k with
 |inl i=>obtain⟨t,e⟩:=(show ∃t,u=Value.int i t from r);subst e;exact zE P w i t
 |inr x=>obtain⟨t,e⟩:=(show ∃t,u=Value.str x t from r);subst e;exact zD P w x t
theorem ur:∀{ks:List Key} {us:List Value},Vals (ks.map kV) us->ItemsAre (cV P w) ks us
 | [],_,r=>by rw[xU] at r;cases r;exact .nil
 |k::ks,_,r=>by
  rw[a8] at r;cases r with
  |cons h t=>exact .cons (il h) (ur t)
abbrev KT (H:Hp):List (List Key×V)->List (List Key×Addr×Value)->Prop:=Paired λp q=>p.1=q.1/\H q.2.1=some (.tup (p.1.map kV))/\ax p.2 q.2.2
theorem KT.val {kvs:List (List Key×V)} {xs:List (List Key×Addr×Value)} (r:KT H kvs xs) (k:List Key):dB (bj kvs k) ((atKey xs k).map (·.2)):=by
 induction r with
 |nil=>exact True.intro
 | @cons p q ps qs h t ih=>
  obtain⟨h1,_,h2⟩:=h;by_cases e:p.1=k
  .have e':q.1=k:=h1.symm.trans e;have b:atKey (q::qs) k=some q.2:=by simp[atKey,mX,e']
   rw[gU e,b];exact h2
  .have e':¬q.1=k:=λz=>e (h1.trans z);have b:atKey (q::qs) k=atKey qs k:=by simp[atKey,mX,e']
   rw[fH e,b];exact ih
theorem KT.repl {kvs:List (List Key×V)} {xs:List (List Key×Addr×Value)} (r:KT H kvs xs) (k:List Key) {y:V} {u:Value} (ry:ax y u) :
  KT H (kvs.map λkv=>if kv.1=k then (kv.1,y) else kv) (xs.map (putAt k u)):=by
 induction r with
 |nil=>exact .nil
 | @cons p q ps qs h t ih=>
  rw[a8,a8];refine .cons ?_ ih;obtain⟨h1,h2,h3⟩:=h;unfold putAt;by_cases e:p.1=k
  .rw[KI e,KI (h1.symm.trans e)];exact⟨h1,h2,ry⟩
  .rw[KH e,KH (λz=>e (h1.trans z))];exact⟨h1,h2,h3⟩
theorem KT.put {kvs:List (List Key×V)} {xs:List (List Key×Addr×Value)} (r:KT H kvs xs) (k:List Key) {b:Addr} {y:V} {u:Value} (hb:H b=some (.tup (k.map kV))) (ry:ax y u) :
  KT H (cY kvs k y) (storedH xs k b u):=by
 have e:(kvs.any λkv=>decide (kv.1=k))=(atKey xs k).isSome:=by rw[nO,(r.val k).isSome_eq,yi]
 unfold cY storedH;rw[e];by_cases q:(atKey xs k).isSome=true
 .rw[KI q,KI q];exact r.repl k ry
 .rw[KH q,KH q];exact Iz r ⟨rfl,hb,ry⟩
theorem KT.keeps {kvs:List (List Key×V)} {xs:List (List Key×Addr×Value)} (r:KT H kvs xs) (ht:∀b ys,H b=some (.tup ys)->H' b=some (.tup ys)):KT H' kvs xs:=
 Paired.mapP r λ_ _ z=>⟨z.1,ht _ _ z.2.1,z.2.2⟩
section
variable {h:Heap} {a:Addr}
theorem xq {u:HO} (ok:HOk P w H h) (e:Rd H a u):aQ P w H h a u:=e.ok ok
theorem eS {kvs:List (Key×V)} (ok:HOk P w H h) (e:Rd H a (.dK kvs)):kvs.length<=sizeLine/\(a==sysModules)=false/\∃vs,KV kvs vs/\h.DictOf (cV P w) a vs:=
 show aQ P w H h a (.dK kvs) from xq ok e
theorem ml {kvs:List (Key×V)} (ok:HOk P w H h) (e:H a=some (.dK kvs)):kvs.length<=sizeLine/\(a==sysModules)=false/\∃vs,KV kvs vs/\h.DictOf (cV P w) a vs:=eS ok (.inl e)
theorem jM {ks:List Key} (ok:HOk P w H h) (e:H a=some (.tup (ks.map kV))):(tupleKind (cV P w)).is h ks a:=by obtain⟨_,its,r,o,h1,h2,n,h3⟩:=(show aQ P w H h a (.tup (ks.map kV)) from ok a _ e);exact⟨o,its.toArray,n,h1,h2,h3,by simpa using ur r⟩
theorem iq {kvs:List (List Key×V)} (ok:HOk P w H h) (e:Rd H a (.dT kvs)):kvs.length<=sizeLine/\(a==sysModules)=false/\
  ∃xs,KT H kvs xs/\h.DictOfH (tupleKind (cV P w)) a xs:=by
 obtain⟨z,y,xs,r,o,es,ep,h1,h2,h3,h4,h5⟩:=(show aQ P w H h a (.dT kvs) from xq ok e);refine⟨z,y,xs,r,o,es,ep,h1,h2,h3,h4,λx hx=>?_,h5⟩;have all:∀{l:List (List Key×V)} {m:List (List Key×Addr×Value)},KT H l m->∀x∈m,(tupleKind (cV P w)).is h x.1 x.2.1:=by
  intro l m q;induction q with
  |nil=>intro x hx;exact nomatch hx
  | @cons p q ps qs hq t ih=>
   intro x hx;rcases aT.mp hx with e|hx
   .subst e;exact jM ok (by rw[<-hq.1];exact hq.2.1)
   .exact ih x hx
 exact all r x hx
theorem xx {kvs:List (List Key×V)} (ok:HOk P w H h) (e:H a=some (.dT kvs)):kvs.length<=sizeLine/\(a==sysModules)=false/\
  ∃xs,KT H kvs xs/\h.DictOfH (tupleKind (cV P w)) a xs:=iq ok (.inl e)
end
def DGet (H:Hp) (a:Addr) (y:V) (r:Option V):Prop:=
 (∃kvs k,Rd H a (.dK kvs)/\y=kV k/\r=bj kvs k)\/∃kvs k b,Rd H a (.dT kvs)/\y=.ref b/\H b=some (.tup (k.map kV))/\r=bj kvs k
def DPut (H:Hp) (a:Addr) (y v:V) (H':Hp):Prop:=
 (∃kvs k,H a=some (.dK kvs)/\y=kV k/\kvs.length<sizeLine/\H'=upd H a (.dK (cY kvs k v))) \/
 ∃kvs k b,H a=some (.dT kvs)/\y=.ref b/\H b=some (.tup (k.map kV))/\kvs.length<sizeLine/\H'=upd H a (.dT (cY kvs k v))
theorem DGet.k {a:Addr} {kvs:List (Key×V)} {k:Key} (e:H a=some (.dK kvs)):DGet H a (kV k) (bj kvs k):=.inl ⟨kvs,k,.inl e,rfl,rfl⟩
theorem DGet.t {a b:Addr} {kvs:List (List Key×V)} {k:List Key} (e:H a=some (.dT kvs)) (eb:H b=some (.tup (k.map kV))):DGet H a (.ref b) (bj kvs k):=.inr ⟨kvs,k,b,.inl e,rfl,eb,rfl⟩
theorem DPut.k {a:Addr} {kvs:List (Key×V)} {k:Key} {v:V} (e:H a=some (.dK kvs)) (hl:kvs.length<sizeLine):DPut H a (kV k) v (upd H a (.dK (cY kvs k v))):=.inl ⟨kvs,k,e,rfl,hl,rfl⟩
theorem DPut.t {a b:Addr} {kvs:List (List Key×V)} {k:List Key} {v:V} (e:H a=some (.dT kvs)) (eb:H b=some (.tup (k.map kV))) (hl:kvs.length<sizeLine) :
  DPut H a (.ref b) v (upd H a (.dT (cY kvs k v))):=.inr ⟨kvs,k,b,e,rfl,eb,hl,rfl⟩
section
variable {a:Addr} {y v:V} {u r:Value} {o:Option V}
theorem Inv.big (I:Inv X pins Z H s):sysModules<s.heap.objs.size:=by have h:mainGlobals<s.heap.objs.size:=(I.mod.glob.keeps I.bk).lt;exact yd (by decide) h
theorem A7 {Q:Value->Shared->Prop} (hu:A.units+1<cLine) (I:Inv X pins Z H s) (g:DGet H a y (some v)) (ry:ax y u) (h:∀w' s',Inv X pins Z H s'->ax v w'->Q w' s') :
  wpAny (model X.prog X.w) A (getItem (.ref a) u) Q E s:=by
 rcases g with ⟨kvs,k,e,ey,l⟩|⟨kvs,k,b,e,ey,eb,l⟩
 .subst ey;obtain⟨z,hd,vs,rel,dd⟩:=eS I.hok e;obtain⟨w',hw,rw'⟩:=dB.some_of (v:=v) (o:=valueAt vs k) (by rw[l];exact rel.val k);exact wpAny_getItem_of (il ry) dd.mapOf hw (h w' _ (I.tok _) rw')
 .subst ey;cases (show u=Value.ref b from ry);obtain⟨z,hd,xs,rel,dd⟩:=iq I.hok e;obtain⟨w',hw,rw'⟩:=dB.some_of (v:=v) (o:=(atKey xs k).map (·.2)) (by rw[l];exact rel.val k);obtain⟨p,hp,hp2⟩:=cT.mp hw;refine wpAny_getItem_heap (pH hu) (jM I.hok eb) dd hp ?_;rw[hp2];exact h w' _ (I.tok _) rw'
theorem d_in {Q:Value->Shared->Prop} (hu:A.units+1<cLine) (I:Inv X pins Z H s) (g:DGet H a y o) (ry:ax y u) (h:∀s',Inv X pins Z H s'->Q (.bool o.isSome) s') :
  wpAny (model X.prog X.w) A (compareOp .In u (.ref a)) Q E s:=by
 rcases g with ⟨kvs,k,e,ey,l⟩|⟨kvs,k,b,e,ey,eb,l⟩
 .subst ey;obtain⟨z,hd,vs,rel,dd⟩:=eS I.hok e;refine wpAny_in_of (il ry) hd dd.mapOf ?_;rw[<-(rel.val k).isSome_eq,<-l];exact h _ (I.tok _)
 .subst ey;cases (show u=Value.ref b from ry);obtain⟨z,hd,xs,rel,dd⟩:=iq I.hok e;refine wpAny_in_heap (pH hu) (jM I.hok eb) hd dd ?_;have q:=(rel.val k).isSome_eq;rw[yi] at q;rw[<-q,<-l];exact h _ (I.tok _)
theorem DS {Q:Value->Shared->Prop} (hu:A.units+1<cLine) (I:Inv X pins Z H s) (g:DGet H a y o) (ry:ax y u) (h:∀s',Inv X pins Z H s'->Q (.bool (!o.isSome)) s') :
  wpAny (model X.prog X.w) A (compareOp .NotIn u (.ref a)) Q E s:=by
 rcases g with ⟨kvs,k,e,ey,l⟩|⟨kvs,k,b,e,ey,eb,l⟩
 .subst ey;obtain⟨z,hd,vs,rel,dd⟩:=eS I.hok e;refine wpAny_notIn_of (il ry) hd dd.mapOf ?_;rw[<-(rel.val k).isSome_eq,<-l];exact h _ (I.tok _)
 .subst ey;cases (show u=Value.ref b from ry);obtain⟨z,hd,xs,rel,dd⟩:=iq I.hok e;refine wpAny_notIn_heap (pH hu) (jM I.hok eb) hd dd ?_;have q:=(rel.val k).isSome_eq;rw[yi] at q;rw[<-q,<-l];exact h _ (I.tok _)
theorem oi {h':Heap} {t':Nat} {ob:HO} (I:Inv X pins Z H s) (mu:Mut (H a)) (hs:Heap.SameBut a s.heap h') (he:∃q,h'.get? a=some q) (new:aQ X.prog X.w (upd H a ob) h' a ob) :
  Inv X pins Z (upd H a ob) {s with heap:=h',toks:=t'}:=
 I.write (x:=a) (e:=a) mu (.inl rfl) (λb q hb z=>(hs.2 b hb).trans z) he new
theorem oJ {H':Hp} {h':Heap} {kvs:List (Key×V)} {vs:List (Key×Value)} (z:kvs.length<=sizeLine) (hd:(a==sysModules)=false) (rel:KV kvs vs) (dd:h'.DictOf (cV P w) a vs) :
  aQ P w H' h' a (.dK kvs):=⟨z,hd,vs,rel,dd⟩
theorem A6 {H':Hp} {Q:Unit->Shared->Prop} (hu:A.units+1<cLine) (I:Inv X pins Z H s) (g:DPut H a y v H') (ry:ax y u) (rv:ax v r) (h:∀s',Inv X pins Z H' s'->Q () s') :
  wpAny (model X.prog X.w) A (setItem (.ref a) u r) Q E s:=by
 rcases g with ⟨kvs,k,e,ey,l,eH⟩|⟨kvs,k,b,e,ey,eb,l,eH⟩
 .subst ey eH;obtain⟨z,hd,vs,rel,dd⟩:=ml I.hok e;have hz:vs.length<=sizeLine:=by rw[<-rel.length];exact z
  have hl:(cY kvs k v).length<=sizeLine:=by have:=pO kvs k v;lia
  refine wpAny_setItem_pairs (hsz:=hz) (il ry) dd λh' dd' hs=>h _ ?_;have he:∃q,h'.get? a=some q:=let ⟨q,_,_,hq,_⟩:=dd';⟨q,hq⟩;exact oi I (by rw[e];exact True.intro) hs he (oJ hl hd (rel.put k rv) dd')
 .subst ey eH;cases (show u=Value.ref b from ry);obtain⟨z,hd,xs,rel,dd⟩:=xx I.hok e;have hz:xs.length<=sizeLine:=by rw[<-ng rel];exact z
  have hl:(cY kvs k v).length<=sizeLine:=by have:=pO kvs k v;lia
  refine wpAny_setItem_heap (hsz:=hz) (pH hu) (jM I.hok eb) dd λh' dd' hs=>h _ ?_;obtain⟨q,es,ep,hq,h2,h3,h4,_,h5⟩:=dd';refine oi I (by rw[e];exact True.intro) hs ⟨q,hq⟩ ⟨hl,hd,_,(rel.put k eb rv).keeps λc ys ec=>?_,q,es,ep,hq,h2,h3,h4,h5⟩;rw[aj (cK ec e (λz=>nomatch z))];exact ec
end
section
variable {a:Addr} {kvs:List (Key×V)} {k:Key} {u:Value}
theorem Hl {v:V} {more:List Value} {Q:Value->Shared->Prop} (I:Inv X pins Z H s) (e:H a=some (.dK kvs)) (ry:ax (kV k) u) (l:bj kvs k=some v) (hm:more=[]\/∃x,more=[x])
  (h:∀w' s',Inv X pins Z (upd H a (.dK (iV kvs k))) s'->ax v w'->Q w' s'):wpAny (model X.prog X.w) A (call (.builtin "dict.pop") (.ref a::u::more)) Q E s:=by
 obtain⟨z,hd,vs,rel,dd⟩:=ml I.hok e;obtain⟨w',hw,rw'⟩:=dB.some_of (v:=v) (o:=valueAt vs k) (by rw[<-l];exact rel.val k);have hp:(keyPart u).isSome=true:=by
  cases k with
  |inl i=>obtain⟨t,q⟩:=(show ∃t,u=Value.int i t from ry);subst q;rfl
  |inr x=>obtain⟨t,q⟩:=(show ∃t,u=Value.str x t from ry);subst q;rfl
 have ha:argsOk "dict.pop" ⟨.ref a::u::more,[]⟩:=by
  rcases hm with q|⟨x,q⟩
  .subst q;exact PySem.F.args_dict_pop_2 _ _
  .subst q;exact PySem.F.args_dict_pop_3 _ _ _
 refine pG IP dd.typeIs PySem.F.entry_dict_pop ha (meets_dict_pop_there (cV X.prog X.w) a (il ry) more hm hp)
  ⟨vs,w',dd,by rw[<-rel.length];exact z,hw,λh' dd' hs=>h w' _ ?_ rw'⟩
 have he:∃q,h'.get? a=some q:=let ⟨q,_,_,hq,_⟩:=dd';⟨q,hq⟩;exact oi I (by rw[e];exact True.intro) hs he (oJ (cF (Cu kvs k) z) hd (rel.drop k) dd')
theorem Hm {Q:Value->Shared->Prop} (I:Inv X pins Z H s) (e:Rd H a (.dK kvs)) (h:∀t s',Inv X pins Z H s'->Q (.int kvs.length t) s'):wpAny (model X.prog X.w) A (call (.builtin "len") [.ref a]) Q E s:=by obtain⟨z,hd,vs,rel,dd⟩:=eS I.hok e;refine call_len_dict hd dd (by rw[<-rel.length];rw[dv] at z;lia) ?_;rw[<-rel.length];exact h _ _ (I.tok _)
end
def NoSl (i:Expr):Prop:=∀ov iv,subscripted i false ov iv=operate [ov,iv] (getItem ov iv)
theorem CT {prog:Program} {env:Env} {value slice:Expr} {pos:Pos} {T id:String} {Q:Value->Shared->Prop}
  (hl:typeLookup (.type T) "__getitem__" = pure (some (.builtin id))) (hs:NoSl slice)
  (h:wpAny (model prog w) A (eval value env) (λo s₁=>wpAny (model prog w) A (eval slice env) (λi s₂=>s₂.TypeIs o T/\wpAny (model prog w) A (getItem o i) Q E s₂) E s₁) E s) :
  wpAny (model prog w) A (eval (.Subscript value slice pos) env) Q E s:=by
 refine yy (dn h (λo s₁ h₁=>dn h₁ (λi s₂ h₂=>?_) λ_ _ x=>x) λ_ _ x=>x);obtain⟨hT,h₂⟩:=h₂;unfold subscriptTail;refine af ?_;rw[getitemInPython_of_ne hT.not_modules];refine af (wpAny_specialOf hT hl ?_);have fin:wpAny (model prog w) A (subscripted slice false o i) (λr s₃=>wpAny (model prog w) A (letTemporaryGo value o r >>= λ_=>pure r) Q E s₃) E s₂:=by rw[hs o i];exact wpAny_operating (dn h₂ (λr s₃ h₃=>af (wpAny_letTemporaryGo (aq h₃))) λ_ _ x=>x)
 first
  |exact aq (af fin)
  |exact af (aq (af fin))
  |exact af fin
theorem zJ {a:Addr} {y:V} {o:Option V} (I:Inv X pins Z H s) (g:DGet H a y o):s.TypeIs (.ref a) "dict":=by
 rcases g with ⟨kvs,k,e,_,_⟩|⟨kvs,k,b,e,_,_,_⟩
 .obtain⟨_,_,vs,_,dd⟩:=eS I.hok e;exact dd.typeIs
 .obtain⟨_,_,xs,_,dd⟩:=iq I.hok e;exact dd.typeIs
def Ek (x y:V) (H2:Hp) (Q:VK) (a:Addr) (v:V):Prop:=x=.ref a/\DGet H2 a y (some v)/\Q v H2
def CS (x:V) (Q:VK):VK:=λy H2=>Exists (Ex2 (Ek x y H2 Q))
def Ej (ty:TE) (Z:St) (Q:VK):VK:=λx H1=>ty Z H1 (CS x Q)
def qW (td ty:TE):TE:=λZ H Q=>td Z H (Ej ty Z Q)
def F_ (x y:V) (H2:Hp) (Q:VK) (a:Addr) (o:Option V):Prop:=x=.ref a/\DGet H2 a y o/\Q (.bl o.isSome) H2
def Ga (y:V) (Q:VK):VK:=λx H2=>Exists (Ex2 (F_ x y H2 Q))
def Gb (td:TE) (Z:St) (Q:VK):VK:=λy H1=>td Z H1 (Ga y Q)
def tDIn (ty td:TE):TE:=λZ H Q=>ty Z H (Gb td Z Q)
def Bj (x y:V) (H2:Hp) (Q:VK) (a:Addr) (o:Option V):Prop:=x=.ref a/\DGet H2 a y o/\Q (.bl (!o.isSome)) H2
def Bk (y:V) (Q:VK):VK:=λx H2=>Exists (Ex2 (Bj x y H2 Q))
def Bl (td:TE) (Z:St) (Q:VK):VK:=λy H1=>td Z H1 (Bk y Q)
def CQ (ty td:TE):TE:=λZ H Q=>ty Z H (Bl td Z Q)
def EC (D:Ends) (Z:St) (v x y:V) (H3:Hp) (a:Addr) (H4:Hp):Prop:=x=.ref a/\DPut H3 a y v H4/\D.nx Z H4
def ED (D:Ends) (Z:St) (v x:V):VK:=λy H3=>Exists (Ex2 (EC D Z v x y H3))
def EE (ty:TE) (D:Ends) (Z:St) (v:V):VK:=λx H2=>ty Z H2 (ED D Z v x)
def EF (td ty:TE) (D:Ends) (Z:St):VK:=λv H1=>td Z H1 (EE ty D Z v)
def Gm (td ty tv:TE):TS:=λD Z H=>tv Z H (EF td ty D Z)
section
variable {o i e value:Expr} {pos pos' tpos:Pos} {td ty tv:TE}
theorem jD (hu:X.A.units+1<cLine) (ho:PE X o td) (hi:PE X i ty) (hs:NoSl i):PE X (.Subscript o i pos) (qW td ty):=by intro pins s Z H Q I h;refine CT PySem.F.slot_dict_getitem.lookup hs (thn (ho pins s Z H _ I h) λu s1 ⟨x,H1,I1,rx,q1⟩=>thn (hi pins s1 Z H1 _ I1 q1) λiv s2 ⟨y,H2,I2,ry,a,v,ex,g,q2⟩=>?_);subst ex;obtain rfl:u=Value.ref a:=rx;exact⟨zJ I2 g,A7 hu I2 g ry λw' s3 I3 rw'=>⟨v,H2,I3,rw',q2⟩⟩
theorem qP (hu:X.A.units+1<cLine) (hi:PE X i ty) (ho:PE X o td):PC X .In i o (tDIn ty td):=by intro pins s Z H Q I h;refine thn (hi pins s Z H _ I h) λiv s1 ⟨y,H1,I1,ry,q1⟩=>thn (ho pins s1 Z H1 _ I1 q1) λu s2 ⟨x,H2,I2,rx,a,ov,ex,g,q2⟩=>?_;subst ex;obtain rfl:u=Value.ref a:=rx;exact d_in hu I2 g ry λs3 I3=>⟨.bl ov.isSome,H2,I3,rfl,q2⟩
theorem uj (hu:X.A.units+1<cLine) (hi:PE X i ty) (ho:PE X o td):PC X .NotIn i o (CQ ty td):=by intro pins s Z H Q I h;refine thn (hi pins s Z H _ I h) λiv s1 ⟨y,H1,I1,ry,q1⟩=>thn (ho pins s1 Z H1 _ I1 q1) λu s2 ⟨x,H2,I2,rx,a,ov,ex,g,q2⟩=>?_;subst ex;obtain rfl:u=Value.ref a:=rx;exact DS hu I2 g ry λs3 I3=>⟨.bl (!ov.isSome),H2,I3,rfl,q2⟩
theorem iK (hu:X.A.units+1<cLine) (ho:PE X o td) (hi:PE X i ty) (hv:PE X value tv) (hs:swapsWith value (some (.Subscript o i pos')) pos.line X.env=pure false) :
  PS X (.Assign [.Subscript o i pos'] value pos) (Gm td ty tv):=by
 intro pins s Z H D I h;refine wpAny_Assign_Subscript (thn (hv pins s Z H _ I h) λr s1 ⟨v,H1,I1,rv,q1⟩=>thn (ho pins s1 Z H1 _ I1 q1) λu s2 ⟨x,H2,I2,rx,q2⟩=>thn (hi pins s2 Z H2 _ I2 q2) λiv s3 ⟨y,H3,I3,ry,a,H4,ex,g,q3⟩=>?_) hs;subst ex;obtain rfl:u=Value.ref a:=rx;exact A6 hu I3 g ry rv λs4 I4=>⟨Z,H4,I4,q3⟩
end
theorem Cv (h:Heap) (hb:sysModules<h.objs.size):aQ P w H (h.push {cls:=.type "dict",data:=.dict #[]}) h.objs.size (.dK []):=
 ⟨aU _,beq_eq_false_iff_ne.mpr (av (bJ hb)),[],.nil,JJ h⟩
theorem Ct (h:Heap) (hb:sysModules<h.objs.size):aQ P w H (h.push {cls:=.type "dict",data:=.dict #[]}) h.objs.size (.dT []):=
 ⟨aU _,beq_eq_false_iff_ne.mpr (av (bJ hb)),[],.nil,_,#[],0,bP _ rfl,⟨rfl,rfl,rfl⟩,rfl,rfl,jZ⟩
def wA:TE:=λ_ H Q=>ft H (.dK []) Q
def Ei:TE:=λ_ H Q=>ft H (.dT []) Q
section
variable {pos:Pos}
theorem kO:PE X (.Dict [] [] pos) wA:=λpins s Z H Q I h=>
 Jq ⟨.ref s.heap.objs.size,_,I.laid (a:=s.heap.objs.size) (o:=.dK []) (t':=s.toks) (λ_ _ q=>aR _ q) (ar _) (Cv s.heap I.big),rfl,ft.at h (I.hok.fresh (ar _))⟩
theorem uX:PE X (.Dict [] [] pos) Ei:=λpins s Z H Q I h=>
 Jq ⟨.ref s.heap.objs.size,_,I.laid (a:=s.heap.objs.size) (o:=.dT []) (t':=s.toks) (λ_ _ q=>aR _ q) (ar _) (Ct s.heap I.big),rfl,ft.at h (I.hok.fresh (ar _))⟩
end
structure M1 (X:Cx) (o:Expr) (m:Str) (apos:Pos) (e:Expr) (cpos:Pos):Prop where
 base:attributeBase o m X.env (eval o X.env)=eval o X.env
 few:((backTo cpos (starEach [e] X.env)).all (λx=>!x.1)&&(backToKw cpos (keywordEach [] X.env)).all (λx=>x.1.isSome)
  && decide (([e]:List Expr).length+([]:List Keyword).length+(if ([]:List Keyword).isEmpty then 0 else 1)<30))=true
 line:(apos.endLine==cpos.line)=true
 trees:backTo cpos (starEach [e] X.env)=[(false,eval e X.env)]
def IsD (H:Hp) (a:Addr):Prop:=(∃kvs,Rd H a (.dK kvs))\/∃kvs,Rd H a (.dT kvs)
theorem qS {a:Addr} (I:Inv X pins Z H s) (d:IsD H a) :
  s.TypeIs (.ref a) "dict"/\(∀b,Value.ref a=.ref b->∃ob,s.heap.get? b=some ob/\ob.dict=none)/\(a==sysModules)=false:=by
 rcases d with ⟨kvs,e⟩|⟨kvs,e⟩
 .obtain⟨_,hd,vs,_,dd⟩:=eS I.hok e;refine⟨dd.typeIs,λb q=>?_,hd⟩;cases q;obtain⟨ob,_,_,h1,h2,_⟩:=dd;exact⟨ob,h1,h2.2.1⟩
 .obtain⟨_,hd,xs,_,dd⟩:=iq I.hok e;refine⟨dd.typeIs,λb q=>?_,hd⟩;cases q;obtain⟨ob,_,_,h1,h2,_⟩:=dd;exact⟨ob,h1,h2.2.1⟩
section
variable {a:Addr} {y d:V} {u r:Value} {o:Option V}
theorem FE {Q:Value->Shared->Prop} (hu:A.units+1<cLine) (I:Inv X pins Z H s) (g:DGet H a y o) (ry:ax y u) (h:∀w' s',Inv X pins Z H s'->ax (o.getD .non) w'->Q w' s') :
  wpAny (model X.prog X.w) A (call (.builtin "dict.get") [.ref a,u]) Q E s:=by
 rcases g with ⟨kvs,k,e,ey,l⟩|⟨kvs,k,b,e,ey,eb,l⟩
 .subst ey;obtain⟨z,hd,vs,rel,dd⟩:=eS I.hok e;refine pG yo dd.typeIs IH (IE _ _) (meets_dict_get (cV X.prog X.w) a (il ry) hd) ⟨_,dd.mapOf,h _ _ (I.tok _) ?_⟩;rw[l];exact (rel.val k).getD rfl
 .subst ey;cases (show u=Value.ref b from ry);obtain⟨z,hd,xs,rel,dd⟩:=iq I.hok e;refine pG yo dd.typeIs IH (IE _ _) (meetsH_dict_get (tupleKind (cV X.prog X.w)) a b hd) ⟨pH hu,k,xs,jM I.hok eb,dd,h _ _ (I.tok _) ?_⟩;rw[l];exact (rel.val k).getD rfl
end
def Ge (a:Addr) (Q:VK) (y:V) (H2:Hp) (o:Option V):Prop:=DGet H2 a y o/\Q (o.getD .non) H2
def Gc (a:Addr) (Q:VK):VK:=λy H2=>Exists (Ge a Q y H2)
def Gf (ty:TE) (Z:St) (Q:VK) (x:V) (H1:Hp) (a:Addr):Prop:=x=.ref a/\IsD H1 a/\ty Z H1 (Gc a Q)
def Gd (ty:TE) (Z:St) (Q:VK):VK:=λx H1=>Exists (Gf ty Z Q x H1)
def Em (td ty:TE):TE:=λZ H Q=>td Z H (Gd ty Z Q)
def F8 (a:Addr) (Q:VK) (y:V) (H2:Hp) (kvs:List (Key×V)) (k:Key) (v:V):Prop:=H2 a=some (.dK kvs)/\y=kV k/\bj kvs k=some v/\WrO H2 a (.dK (iV kvs k)) (Q v)
def F6 (a:Addr) (Q:VK):VK:=λy H2=>Exists (Ex3 (F8 a Q y H2))
def F9 (ty:TE) (Z:St) (Q:VK) (x:V) (H1:Hp) (a:Addr):Prop:=x=.ref a/\IsD H1 a/\ty Z H1 (F6 a Q)
def F7 (ty:TE) (Z:St) (Q:VK):VK:=λx H1=>Exists (F9 ty Z Q x H1)
def Eh (td ty:TE):TE:=λZ H Q=>td Z H (F7 ty Z Q)
section
variable {o e f:Expr} {apos cpos:Pos} {td ty tx:TE}
theorem BO (hu:X.A.units+1<cLine) (ho:PE X o td) (he:PE X e ty) (m:M1 X o "get" apos e cpos):PE X (.Call (.Attribute o "get" apos) [e] [] cpos) (Em td ty):=by intro pins s Z H Q I h;refine Jn m.base m.few m.line sy yo PySem.F.type_dict_get (thn (ho pins s Z H _ I h) λu s1 ⟨x,H1,I1,rx,a,ex,d,q1⟩=>?_);subst ex;obtain rfl:u=Value.ref a:=rx;obtain⟨t1,t2,_⟩:=qS I1 d;refine⟨t1,t2,?_⟩;rw[m.trees];refine mK rfl (mL (xE (thn (he pins s1 Z H1 _ I1 q1) λiv s2 ⟨y,H2,I2,ry,ov,g,q2⟩=>xF ?_)));exact FE hu I2 g ry λw' s3 I3 rw'=>⟨_,H2,I3,rw',q2⟩
theorem BN (ho:PE X o td) (he:PE X e ty) (m:M1 X o "pop" apos e cpos):PE X (.Call (.Attribute o "pop" apos) [e] [] cpos) (Eh td ty):=by intro pins s Z H Q I h;refine Jn m.base m.few m.line sy IP PySem.F.type_dict_pop (thn (ho pins s Z H _ I h) λu s1 ⟨x,H1,I1,rx,a,ex,d,q1⟩=>?_);subst ex;obtain rfl:u=Value.ref a:=rx;obtain⟨t1,t2,_⟩:=qS I1 d;refine⟨t1,t2,?_⟩;rw[m.trees];refine mK rfl (mL (xE (thn (he pins s1 Z H1 _ I1 q1) λiv s2 ⟨y,H2,I2,ry,kvs,k,v,ea,ey,l,q2⟩=>xF ?_)));subst ey;exact Hl I2 ea ry l (.inl rfl) λw' s3 I3 rw'=>⟨v,_,I3,rw',WrO.at q2⟩
end
section
variable {a:Addr} {kvs:List (Key×V)}
theorem Cw {Q:Value->Shared->Prop} (I:Inv X pins Z H s) (e:Rd H a (.dK kvs)) (h:∀p s',H p=none->Inv X pins Z (upd H p (.dK kvs)) s'->Q (.ref p) s'):wpAny (model X.prog X.w) A (call (.type "dict") [.ref a]) Q E s:=by obtain⟨z,hd,vs,rel,dd⟩:=eS I.hok e;refine kt_call_dict hd dd (by rw[<-rel.length];exact z) λh' dd' hs=>?_;refine h _ _ (I.hok.fresh (ar _)) (I.laid (a:=s.heap.objs.size) (o:=.dK kvs) (t':=s.toks) (λb q hq=>?_) (ar _) (oJ z (beq_eq_false_iff_ne.mpr (av (bJ I.big))) rel dd'));exact (hs.2 b (bJ (aK hq))).trans (aR _ hq)
end
section
variable {a:Addr} {y:V} {u:Value}
end
end L2
namespace Att
open PySem PySem.W PySem.Calls PyProof.Rows
theorem yX {P:Params} {h:Heap}:∀(ns:List Int) (vs:List Value),WellAll P h vs (ns.map WData.int)->IntsAre vs ns:=by
 intro ns;induction ns with
 |nil=>
  intro vs w;rw[xU] at w;cases w;exact .nil
 |cons n ns ih=>
  intro vs w;rw[a8] at w;cases w with
  |cons a b=>
   cases a;exact .cons _ _ (ih _ b)
theorem As {l:OpenLaw} {n:Nat} (hn:l.most=some n) {P:Params} {h:Heap} {args:List WData} {vals:List Value}
  (hpre:l.row.toRowW.claim.pre args=true) (hwl:WellAll P h vals args) :
  ∃a vs ns,vals=[Value.ref a]/\args=[WData.list (ns.map WData.int)]/\h.get? a=some {cls:=.type "list",data:=.seq vs.toArray}/\IntsAre vs ns/\ns.length<=n:=by
 have hsh:WShape.hasAll [] args [.list .int]=true:=(pre_splitW hpre).1;have hc:l.pre.holds [] {args:=args}=true:=(pre_splitW hpre).2;obtain⟨d,r,rfl,h1,h2⟩:=hasAllW_cons hsh;obtain rfl:=hasAllW_nil h2;obtain⟨xs,rfl,h3⟩:=hasW_list h1;obtain⟨ns,rfl⟩:=items_int h3;have hlen:ns.length<=n:=by
  unfold OpenLaw.pre at hc;have h4:(WTm.not (.lt (.lit (.int (n:Int))) (.len (.arg 0)))).holds [] {args:=[.list (ns.map .int)]}=true:=by have h4:=(holds_andW hc).1;rw[hn] at h4;exact h4
  have h5:=condW_of h4 (w_not (w_lt w_lit (w_len_list (w_arg rfl))));rw[aC] at h5;refine Nat.le_of_not_lt λq=>?_;have q':(n:Int)<((ns.length:Nat):Int):=by lia
  first
   |(rw[KJ q'] at h5;exact absurd h5 (by decide))
   |(simp at h5;lia)
 cases hwl with
 |cons w1 w2=>
  cases w2;cases w1 with
  |list ho hall=>exact⟨_,_,ns,rfl,rfl,ho,yX ns _ hall,hlen⟩
theorem Ay (l:OpenLaw) (args:List WData):l.row.toRowW.claim.post args (.bool true) args=true:=
 postW_of (r:=l.row.toRowW) (X:=(true==true))
  (show WShape.has [] (.bool true) .bool=true by first|rfl|decide|simp[WShape.has,WShape.arms,WShape.armsAll])
  (show (WTm.eq .res (.lit (.bool true))).value [] {args:=args,res:=some (.bool true),after:=args}=some (.bool (true==true)) from w_eq_bool (w_res rfl) w_lit) rfl
theorem attach_call {l:OpenLaw} {n:Nat} {q:Program} {loose:List Str} {XP:(Str->Option Value)->Heap->Prop} {YP:World->Heap->Prop} {d:DefRec}
  (hn:l.most=some n) (hdf:d.params.defaults=[])
  (call:∀(w:World) (s₀ s₁:Shared) (mg mb:Str->Option Value) (fa:Addr) (o:Obj) (pm cd doc:Value) (a:Addr) (vs:List Value) (ns:List Int),
   Ground q loose [] XP w s₀ mg mb s₁.heap->YP w s₁.heap->
   s₁.heap.get? fa=some o->o.data=.func (docDef d.name d.params d.body d.scope pm cd doc)->s₁.heap.CodeRec cd d.name->mg d.name=some (.ref fa)->
   s₁.heap.get? a=some {cls:=.type "list",data:=.seq vs.toArray}->IntsAre vs ns->ns.length<=n->s₁.gens=#[]->
   codeAny (model l.prog w) callerA (.call (.ref fa) ⟨[.ref a],[]⟩) (λr s'=>r=.ok (.ret (.bool true))/\OldK s₁.heap s'.heap/\s'.os=s₁.os/\AllBare s'.gens) s₁) :
  WalkO q loose XP YP l.row.toRowW d [] (λf vs=>PySem.call f vs):=by
 intro w s₀ s₁ mg mb G Y fa o pm cd doc dV kV ho hd hcd hD hmg hg args vals as hpre hlay hrd hwl hlo;obtain rfl:dV=.none:=Dflts.none hD hdf;obtain rfl:kV=.none:=Dflts.noKw hD;obtain⟨a,vs,ns,rfl,rfl,hobj,hints,hlen⟩:=As hn hpre hwl;refine enter_call (nr (call w s₀ s₁ mg mb fa o pm cd doc a vs ns G Y ho (fd_plain hd) hcd hmg hobj hints hlen hg) λr s' hq=>?_);obtain⟨rfl,h2,h3,h4⟩:=hq;exact⟨.inl ⟨.bool true,.bool true,[],rfl,λ_=>rfl,.bool true,Ay l _,λ_=>⟨List.Pairwise.nil,λ_ hm=>(nomatch hm)⟩⟩,h2,h3,h4⟩
section
variable {prog:Program} {K:Frag}
end
end Att
namespace L2
open PySem PySem.Spec PyProof.Rows
theorem tX:∀{vs:List Value} {ns:List Int},IntsAre vs ns->Vals (ns.map V.int) vs
 |_,_,.nil=>.nil
 |_,_,.cons n t h=>.cons ⟨t,rfl⟩ (tX h)
def Only (H:Hp):Prop:=∀b,H b=none\/∃o xs,H b=some (.frz o (.lst xs))
theorem B_ {P:Program} {w:World} {mg mb:Str->Option Value} {CX:CXT} {k:Nat} {fa a:Addr} {fd:FuncData} {x:Str} {sp:Sp} {s₁:Shared} {vs:List Value} {ns:List Int}
  (KX:K.In s₁.heap) (hns:s₁.heap.Ns mainGlobals mg) (hb:s₁.heap.Ns builtinsNs mb) (hbb:∀x:Str,x≠"__name__"->mb x=bootBuiltins x) (hlim:s₁.heap.NoLimit) (hg:s₁.gens=#[])
  (ha:s₁.heap.get? a=some {cls:=.type "list",data:=.seq vs.toArray}) (hi:IntsAre vs ns) (hl:ns.length<=sizeLine) (hr:Room k callerA)
  (F:∀base:Heap,K.In base->base.Ns mainGlobals mg->ag P w K mg base CX k fa fd [x] sp) (hbind:∀(s:Shared) (u:Value),BindsTo s fd ⟨[u],[]⟩ [(x,u)])
  (hL:∀o,K.lookup a=some o->o.cls≠.type "list") (hsp:∀H:Hp,Only H->SqL [] H a (ns.map V.int)->sp [.ref a] H (λv _=>v=.bl true) λ_ _ _=>False)
  (hCX:∀H e s',CX [] H s₁ (λ_ _ _=>False) e s'->False) :
  codeAny (model P w) callerA (.call (.ref fa) ⟨[.ref a],[]⟩) (λr s'=>r=.ok (.ret (.bool true))/\OldK s₁.heap s'.heap/\s'.os=s₁.os/\AllBare s'.gens) s₁:=by
 have rv:=tX hi;have lenV:=hi.length;have core:∀H:Hp,Only H->SqL [] H a (ns.map V.int)->HOk P w H s₁.heap->(∀b,H b≠none->b=a)->(H a≠none->K.lookup a=none)->
   codeAny (model P w) callerA (.call (.ref fa) ⟨[.ref a],[]⟩) (λr s'=>r=.ok (.ret (.bool true))/\OldK s₁.heap s'.heap/\s'.os=s₁.os/\AllBare s'.gens) s₁:=by
  intro H hO hS hok hA hK;have base_of:∀{b:Addr} {o:Obj},s₁.heap.get? b=some o->H b=none->(gw s₁.heap H).get? b=some o:=λe n=>Cb e n;have noA:∀{b:Addr} {o:Obj} {es:Array DictEntry} {ep:Nat},s₁.heap.get? b=some o->o.data=.dict es ep->H b=none:=λ{b o es ep} e d=>by
   cases q:H b with
   |none=>rfl
   |some u=>
    have e':b=a:=hA b (by rw[q];simp);subst e';rw[ha] at e;cases e;have d':Data.seq vs.toArray _=Data.dict es ep:=d;cases d'
  have nsK:∀{b:Addr} {m:Str->Option Value},s₁.heap.Ns b m->(gw s₁.heap H).Ns b m:=λ{b m} ⟨o,es,ep,e,d,r⟩=>⟨o,es,ep,base_of e (noA e d),d,r⟩;have hKb:K.In (gw s₁.heap H):=λb o e=>base_of (KX b o e) (by
   cases q:H b with
   |none=>rfl
   |some u=>
    have e':b=a:=hA b (by rw[q];simp);subst e';rw[hK (by rw[q];simp)] at e;cases e)
  have hM:Mod K mg (gw s₁.heap H):=⟨hKb,nsK hns,⟨mb,nsK hb,hbb⟩,let ⟨mc,h1,h2⟩:=hlim;⟨mc,nsK h1,h2⟩⟩;have e0:gA P w K mg (gw s₁.heap H) callerA [] s₁ H:=⟨rfl,hM,λb o e=>DD e,r_ (AZ _ _),trivial,λb hb=>absurd (show b∈([]:List Addr) from hb) (by simp),hok,.of_eq hg⟩;refine nr ((F _ hKb (nsK hns)).run callerA [] s₁ H ⟨[.ref a],[]⟩ [.ref a] [.ref a] _ _ hr e0 (hbind s₁ (.ref a)) (.cons rfl .nil) (hsp H hO hS)) λr s' h=>?_;cases r with
  |error e=>exact (hCX H e s' h).elim
  |ok fl=>
   cases fl with
   |next=>exact False.elim h
   |brk=>exact False.elim h
   |cont=>exact False.elim h
   |ret u=>
    obtain⟨v,H',os,bare,un,hok',r',q⟩:=h;have q':v=.bl true:=q;subst q';obtain rfl:u=Value.bool true:=r';refine⟨rfl,OldK.of_keep λb o e=>?_,os,bare⟩;cases q:H b with
    |none=>exact un.keep b o e q (by intro z;exact absurd (show b∈([]:List Addr) from z) (by simp)) (by simp)
    |some u=>
     rcases hO b with z|⟨ob,xs,z⟩
     .rw[q] at z;cases z
     .have z2:=un.frzs b ob _ z;obtain⟨e1,_⟩:=hok b _ z;obtain⟨e2,_⟩:=hok' b _ z2;rw[e] at e1;cases e1;exact e2
 cases hk:K.lookup a with
 |some o=>
  have e:=KX a o hk;rw[ha] at e;cases e;exact absurd rfl (hL _ hk)
 |none=>
  refine core (λb=>if b=a then some (.frz {cls:=.type "list",data:=.seq vs.toArray} (.lst (ns.map V.int))) else none) (λb=>?_) (.inl (.inr ⟨{cls:=.type "list",data:=.seq vs.toArray},KI rfl⟩)) (λb u z=>?_) (λb z=>?_) λ_=>hk
  .by_cases hb:b=a
   .exact .inr ⟨_,_,KI hb⟩
   .exact .inl (KH hb)
  .by_cases hb:b=a
   .have z':=(KI hb).symm.trans z;cases z';subst hb;exact⟨ha,by rw[aC];exact hl,vs,_,rv,ha⟩
   .have z':=(KH hb).symm.trans z;cases z'
  .by_cases hb:b=a
   .exact hb
   .exact absurd (KH hb) z
end L2
namespace L2
open PySem PySem.Spec PyProof.Rows
theorem walk_of {l:W.OpenLaw} {n k:Nat} {q:Program} {loose:List Str} {XP:(Str->Option Value)->Heap->Prop} {YP:World->Heap->Prop} {d:DefRec} {K:Params->W.Frag} {CX:World->CXT} {sp:World->Sp} {x:Str}
  (hn:l.most=some n) (hn2:n<=sizeLine) (hdf:d.params.defaults=[]) (hr:Room k callerA)
  (hY:∀(w:World) (h:Heap),YP w h->(K w.params).In h)
  (F:∀(w:World) (mg:Str->Option Value) (fa:Addr) (h:Heap),(K w.params).In h->h.Ns mainGlobals mg->mg d.name=some (.ref fa)->
   ∃fd:FuncData,(∀(s:Shared) (u:Value),BindsTo s fd ⟨[u],[]⟩ [(x,u)])/\
    ∀base:Heap,(K w.params).In base->base.Ns mainGlobals mg->ag l.prog w (K w.params) mg base (CX w) k fa fd [x] (sp w))
  (hL:∀(w:World) (a:Addr) (o:Obj),(K w.params).lookup a=some o->o.cls≠.type "list") (hsp:∀(w:World) (H:Hp) (a:Addr) (ns:List Int),ns.length<=n->Only H->SqL [] H a (ns.map V.int)->sp w [.ref a] H (λv _=>v=.bl true) λ_ _ _=>False)
  (hCX:∀(w:World) (H:Hp) (s:Shared) (e:Value) (s':Shared),CX w [] H s (λ_ _ _=>False) e s'->False) :
  W.WalkO q loose XP YP l.row.toRowW d [] (λf vs=>PySem.call f vs):=by
 refine Att.attach_call hn hdf λw s₀ s₁ mg mb fa o pm cd doc a vs ns G Y ho hd hcd hmg hobj hints hlen hg=>?_;have KX:=hY w _ Y;obtain⟨fd,hb,hF⟩:=F w mg fa _ KX G.T.g hmg;exact B_ KX G.T.g G.T.b G.T.builtins G.T.nolimit hg hobj hints (cF hlen hn2) hr hF hb (hL w a) (λH hO hS=>hsp w H a ns hlen hO hS) λH e s'=>hCX w H s₁ e s'
def nlV:Value->Bool
 |.type s=>!(s=="list")
 |_=>true
theorem xt {a:Addr} {o:Obj}:∀{K:W.Frag},K.all (λx=>nlV x.2.cls)=true->K.lookup a=some o->o.cls≠.type "list"
 | [],_,h=>nomatch h
 |(b,u)::K,e,h=>by
  rw[xI,eC] at e;rw[iz] at h
  split at h
  .cases h;intro z;have:=e.1;rw[z] at this;exact absurd this (by decide)
  .exact xt e.2 h
end L2
namespace L2
open PySem PySem.Spec PyProof.Rows
abbrev CX0:CXT:=λ_ _ _ _ _ _=>False
abbrev E0:XK:=λ_ _ _=>False
theorem pass0:Passes CX0 X E0:=λ_ _ _ _ _ _ _ h=>h.elim
structure Fun (K:W.Frag) (x qual:Str) (st:Stmt) (f:Addr) (fd:FuncData):Prop where
 ex:∃(oc:Value) (od:Option Addr) (kV doc pm:Value) (an:Option Addr) (cdv ct:Value) (osl:Array (Option Value)),
  fd=W.fnOf x qual (dw st) (cW st) (aE st) .none kV doc pm an cdv ct/\K.lookup f=some ⟨oc,od,.func fd,osl⟩/\W.codeIn K cdv qual=true
 kp:W.keepIn K (.ref f)=true
section
theorem Fun.ok {x qual:Str} {st:Stmt} {f:Addr} {N ps:List Str} {k:Nat} {sp:Sp} (F:Fun K x qual st f fd) (S:bc N ps (aE st)) (len:∀vs H Q E,sp vs H Q E->vs.length=ps.length)
  (hbody:∀(cdv:Value) (A:Around) (outer:List Env) (s:Shared) (H:Hp) (vs:List V) (Q:VK) (E:XK),Room k (A.deeper (envOfC qual (aE st) s.heap.objs.size f cdv))->sp vs H Q E->
   ∃t,PSs (eV CX0 P w K mg base N qual (aE st) f cdv A outer s H E).nox (cW st) t/\t {nx:=λ_ H'=>Q .non H',rt:=Q} (start N vs) H):ag P w K mg base CX0 (k+1) f fd ps sp:=by
 obtain⟨oc,od,kV,doc,pm,an,cdv,ct,osl,rfl,lk,hcd⟩:=F.ex;refine xv lk hcd S len λA outer s H vs Q E hr hsp=>?_;obtain⟨t,h,q⟩:=hbody cdv A outer s H vs Q E hr hsp;exact⟨t,h.nox,q⟩
theorem Fun.binds {x qual:Str} {st:Stmt} {f:Addr} {ps:List Str} (F:Fun K x qual st f fd)
  (h:∀(kV doc pm:Value) (an:Option Addr) (cdv ct:Value) (us:List Value),us.length=ps.length->bindArgs (W.fnOf x qual (dw st) (cW st) (aE st) .none kV doc pm an cdv ct) ⟨us,[]⟩=pure (ps.zip us)):Binds K fd ps []:=by
 obtain⟨oc,od,kV,doc,pm,an,cdv,ct,osl,rfl,lk,hcd⟩:=F.ex;exact .all (h kV doc pm an cdv ct)
theorem wV {x qual:Str} {st:Stmt} {f:Addr} {oc:Value} {od an:Option Addr} {osl:Array (Option Value)} {kV doc pm cdv ct:Value} (l:K.lookup f=some ⟨oc,od,.func (W.fnOf x qual (dw st) (cW st) (aE st) .none kV doc pm an cdv ct),osl⟩)
  (c:W.codeIn K cdv qual=true) (k:W.keepIn K (.ref f)=true):Fun K x qual st f (W.fnOf x qual (dw st) (cW st) (aE st) .none kV doc pm an cdv ct):=⟨⟨oc,od,kV,doc,pm,an,cdv,ct,osl,rfl,l,c⟩,k⟩
end
theorem dA {k:Nat} (hr:Room k A):A.units+1<cLine:=se (xZ (by decide:1<=64) _) hr.units
section
theorem pv (i:Nat) {x:Str} {pos:Pos} (hN:X.N[i]?=some x:=by rfl) (hv:Vis X.env.scope x:=by first|exact Or.inl rfl|exact Or.inr (.inl rfl)|exact Or.inr (.inr rfl)) (hd:(x==("__debug__" : Str))=false:=by decide)
  (hcd:(x==("__classdict__" : Str))=false:=by decide):PE X (.Name x pos) (cz i):=EX hN hv hd hcd
theorem Bb:cL X (.builtin "len") (λxs H Q=>∃a kvs,xs=[V.ref a]/\H a=some (.dK kvs)/\Q (.int kvs.length) H):=by intro pins s Z H xs us Q I r h;obtain⟨a,kvs,rfl,ha,q⟩:=h;obtain⟨u,rfl,ru⟩:=vals1 r;cases ru;exact Hm I (.inl ha) λt s' I'=>⟨.int kvs.length,H,I',⟨t,rfl⟩,q⟩
end
theorem aP {A B:Prop} (h:B):if false=true then A else B:=by rw[KH bN];exact h
theorem a6 {A B:Prop} (h:A):if true=true then A else B:=by rw[KI rfl];exact h
theorem ite2 {c A B:Prop} [Decidable c] (h1:c->A) (h2:¬c->B):if c then A else B:=by
 by_cases h:c
 .rw[KI h];exact h1 h
 .rw[KH h];exact h2 h
theorem Same.refl (H:Hp):Same H H:=λ_ _ h=>h
theorem Same.trans {H H1 H2:Hp} (a:Same H H1) (b:Same H1 H2):Same H H2:=λc o h=>b c o (a c o h)
theorem Same.free (e:Same H H') {l:Addr} (h:H' l=Option.none):H l=Option.none:=by
 cases q:H l with
 |none=>rfl
 |some o=>
  rw[e l o q] at h;cases h
theorem Same.seq {a:Addr} (e:Same H H') (h:SqL K H a xs):SqL K H' a xs:=by
 rcases h with (h|⟨o,h⟩)|h
 .exact .inl (.inl (e _ _ h))
 .exact .inl (.inr ⟨o,e _ _ h⟩)
 .exact .inr h
section
variable {κ:Type} [DecidableEq κ]
theorem CJ {kvs:List (κ×V)} {k:κ} {v:V} (h:bj kvs k=some v):k∈kvs.map (·.1):=by
 have q:(kvs.any λkv=>decide (kv.1=k))=true:=by
  rw[nO,h]
  all_goals rfl
 obtain⟨p,hp,e⟩:=rL.mp q;exact aD.mpr ⟨p,hp,KM e⟩
end
end L2
end
variable {H:L2.Hp} {Z:L2.St} {X:L2.Cx} {xs:List L2.V} {vs:List L2.V} {H':L2.Hp}
section
namespace L2
open PySem PySem.Spec PyProof.Rows
def dJ (env:Env):List (Str×NameKind)->List (Str×Addr)->List (Str×Addr)
 | [],cs=>cs
 |(n,k)::r,cs=>dJ env r (if k==.free then (n,(env.cells.lookup n).getD 0)::cs else cs)
theorem tQ (env:Env):∀(names:List (Str×NameKind)) (cs:List (Str×Addr)),(∀x∈names,x.2=.free->∃c,env.cells.lookup x.1=some c)->
  (forIn names cs (λ(x:Str×NameKind) (r:List (Str×Addr))=>(do
   if x.2==NameKind.free then
    let a <-cellOf env x.1
    pure (ForInStep.yield ((x.1,a)::r))
   else pure (ForInStep.yield r):Sem (ForInStep (List (Str×Addr))))))=pure (dJ env names cs)
 | [],cs,_=>rfl
 |(n,k)::r,cs,h=>by
  have ih:=λcs=>tQ env r cs λx hx=>h x (cN _ hx);rw[List.forIn_cons];by_cases hk:k=.free
  .subst hk;obtain⟨c,hc⟩:=h (n,.free) gF rfl;have e:cellOf env n=pure c:=by
    have hc':env.cells.lookup n=some c:=hc;unfold cellOf;rw[hc']
    try rfl
   rw[KI (show (((n,NameKind.free).2==NameKind.free)=true) from rfl),e];refine Eq.trans ?_ ((ih ((n,c)::cs)).trans ?_)
   .rfl
   .have hc':env.cells.lookup n=some c:=hc;show pure (dJ env r ((n,c)::cs))=pure (dJ env r ((n,(env.cells.lookup n).getD 0)::cs));rw[hc'];rfl
  .have hb:(k==NameKind.free)=false:=by simpa using hk
   rw[KH (show ¬(((n,k).2==NameKind.free)=true) by rw[show ((n,k).2==NameKind.free)=false from hb];simp)];refine Eq.trans ?_ ((ih cs).trans ?_)
   .rfl
   .show pure (dJ env r cs)=pure (dJ env r (if (k==NameKind.free)=true then _ else cs));rw[hb];rfl
theorem tP {env:Env} (h:∀x∈scope.names,x.2=.free->∃c,env.cells.lookup x.1=some c):closureFor scope env=pure (dJ env scope.names []):=by
 have e:=tQ env scope.names [] h;unfold closureFor;simp only[bind_pure_comp,map_pure] at e |-
 first
  |(rw[e];rfl)
  |exact e
theorem we {env:Env}:∀{names:List (Str×NameKind)} {cs:List (Str×Addr)} {x:Str} {c:Addr},(∀y∈names,y.2=.free->∃c,env.cells.lookup y.1=some c)->
  (dJ env names cs).lookup x=some c->env.cells.lookup x=some c\/cs.lookup x=some c
 | [],cs,x,c,_,h=>.inr h
 |(n,k)::r,cs,x,c,hf,h=>by
  have hf':∀y∈r,y.2=.free->∃c,env.cells.lookup y.1=some c:=λy hy=>hf y (cN _ hy);rcases we (names:=r) hf' h with q|q
  .exact .inl q
  .by_cases hk:(k==NameKind.free)=true
   .rw[KI hk] at q;have hk':k=.free:=by simpa using hk
    obtain⟨c',e⟩:=hf (n,k) gF hk';have e:env.cells.lookup n=some c':=e;rw[iz] at q;cases hx:x==n with
    |true=>
     rw[hx] at q;have hx':x=n:=by simpa using hx
     subst hx';rw[e] at q;have q':c'=c:=by simpa using q
     exact .inl (q' ▸ e)
    |false=>
     rw[hx] at q;exact .inr q
   .rw[KH hk] at q;exact .inr q
theorem qg {env:Env}:∀{names:List (Str×NameKind)} {cs:List (Str×Addr)} {x:Str},((x,NameKind.free)∈names\/(cs.lookup x).isSome=true)->((dJ env names cs).lookup x).isSome=true
 | [],cs,x,h=>by
  rcases h with h|h
  .simp at h
  .exact h
 |(n,k)::r,cs,x,h=>by
  refine qg (names:=r) ?_;rcases h with h|h
  .rcases aT.mp h with e|e
   .cases e;refine .inr ?_;rw[KI (by rfl),iz,beq_self_eq_true];rfl
   .exact .inl e
  .refine .inr ?_;by_cases hk:(k==NameKind.free)=true
   .rw[KI hk,iz];cases hx:x==n with
    |true=>rfl
    |false=>exact h
   .rw[KH hk];exact h
theorem sW (env:Env):∀(names:List (Str×NameKind)) (x:Str),
  (names.map λ(n,k)=>if (k==NameKind.free&&env.scope.kind==.function&&env.kindOf n==some .cell) then (n,NameKind.cell) else (n,k)).lookup x=(names.lookup x).map λk=>if (k==NameKind.free&&env.scope.kind==.function&&env.kindOf x==some .cell) then NameKind.cell else k
 | [],_=>rfl
 |(n,k)::r,x=>by
  have ih:=sW env r x;rw[a8];dsimp only at ih |-;by_cases hc:(k==NameKind.free&&env.scope.kind==.function&&env.kindOf n==some .cell)=true
  .rw[KI hc,iz,iz];cases hx:x==n with
   |true=>
    have hx':x=n:=by simpa using hx
    subst hx';simp only[m_,hc,if_true]
   |false=>exact ih
  .rw[KH hc,iz,iz];cases hx:x==n with
   |true=>
    have hx':x=n:=by simpa using hx
    subst hx';simp only[m_];rw[KH hc]
   |false=>exact ih
def ig (X:Cx) (N:List Str) (scope:Scope) (C:Addr) (s:Shared) (H:Hp) (fp:List Addr) (pins:List (Addr×Obj)):Cx:=
 {X with N:=N,s₀:=s,H₀:=H,env:=compEnvC scope (dJ X.env scope.names []) C X.env,outer:=X.stack,ex:=fp,fn:=λ_=>false,pn:=X.pn++pins,xe:=λ_ _=>False}
def iQ (fr:List (Option Nat)) (Z:St):St:=fr.map λo=>o.bind λi=>(Z[i]?).join
structure fG (X:Cx) (N:List Str) (fr:List (Option Nat)) (scope:Scope):Prop where
 nd:N.Nodup
 len:fr.length=N.length
 kind:scope.kind=.function
 nocell:∀y∈scope.names,y.2≠.cell
 names:∀y∈scope.names,y.2=.local->scope.names.lookup y.1=some .local
 frees:∀y∈scope.names,y.2=.free->X.env.kindOf y.1=some .cell\/X.env.kindOf y.1=some .free
 fr:∀(j i:Nat) (x:Str),fr[j]?=some (some i)->N[j]?=some x->X.N[i]?=some x/\scope.names.lookup x=some .free
section
variable {N:List Str} {fr:List (Option Nat)} {fp:List Addr}
theorem fG.cells (S:fG X N fr scope) (ok:X.Ok):∀y∈scope.names,y.2=.free->∃c,X.env.cells.lookup y.1=some c:=λy hy hf=>ok.has y.1 (S.frees y hy hf)
theorem nB {names:List (Str×NameKind)} {x:Str} {k:NameKind} (h:names.lookup x=some k):(x,k)∈names:=nj h
theorem uw {C:Addr} {x:Str}:(compEnvC scope (dJ X.env scope.names []) C X.env).kindOf x=(scope.names.lookup x).map λk=>if (k==NameKind.free&&X.env.scope.kind==.function&&X.env.kindOf x==some .cell) then NameKind.cell else k:=sW X.env scope.names x
theorem fG.free_of (S:fG X N fr scope) {C:Addr} {x:Str} (h:(compEnvC scope (dJ X.env scope.names []) C X.env).kindOf x=some .cell\/(compEnvC scope (dJ X.env scope.names []) C X.env).kindOf x=some .free):scope.names.lookup x=some .free:=by
 rw[uw] at h;cases e:scope.names.lookup x with
 |none=>rw[e] at h;simp at h
 |some k=>
  rw[e] at h;have nc:=S.nocell _ (nB e);cases k with
  |free=>rfl
  |cell=>exact absurd rfl nc
  |_=>
   exfalso;rcases h with h|h<;>simp at h
theorem A_ {C:Addr} {x:Str} (h:scope.names.lookup x=some .free):(compEnvC scope (dJ X.env scope.names []) C X.env).kindOf x=some .cell\/(compEnvC scope (dJ X.env scope.names []) C X.env).kindOf x=some .free:=by
 rw[uw,h,m_];by_cases c:(NameKind.free==NameKind.free&&X.env.scope.kind==.function&&X.env.kindOf x==some .cell)=true
 .rw[KI c];exact .inl rfl
 .rw[KH c];exact .inr rfl
end
end L2
end
section
namespace L2
open PySem PySem.Spec PyProof.Rows
section
variable {N:List Str} {fr:List (Option Nat)} {fp:List Addr}
theorem Ad {C:Addr} {h1:Heap} {m:Str->Option Value} {t:Nat} (S:fG X N fr scope) (I:Inv X pins Z H s) (hf:∀b∈fp,dZ X pins H b) (hC:s.heap.objs.size<=C) (hfC:∀b∈fp,b≠C)
  (hn:h1.Ns C m) (hk:∀b o,s.heap.get? b=some o->h1.get? b=some o):Inv (ig X N scope C s H fp pins) [] (iQ fr Z) H {s with heap:=h1,toks:=t}:=by
 have hcl:=S.cells I.ok;have sub:∀x c,(dJ X.env scope.names []).lookup x=some c->X.env.cells.lookup x=some c:=λx c e=>by
  rcases we hcl e with q|q
  .exact q
  .simp at q
 have ok:(ig X N scope C s H fp pins).Ok:=by
  refine⟨I.ok.mod,S.kind,I.ok.glob,I.ok.blt,hC,λx y c h1 h2=>I.ok.inj x y c (sub x c h1) (sub y c h2),λx hx=>?_,λx c e=>absurd e (by show ¬(false=true);decide),I.ok.hd,I.ok.frames,.inl rfl,λb hb=>?_,λb o e=>I.bs b o e,cF I.ok.bsz I.sz,λb o e hb=>?_,λb hb=>?_,I.stack,I.stkFree⟩
  .have e:=S.free_of hx;exact je.mp (qg (.inl (nB e)))
  .exact⟨hfC b hb,λx c e=>(hf b hb).2.2.2.2.1 x c (sub x c e)⟩
  .rcases (hf b hb).2.2.2.1 with z|z
   .exact I.ok.noex b o e z
   .exact absurd (b_ (aK e) (cF I.ok.bsz z)) (ef _)
  .intro z;rcases aT.mp (I.stkSub b z) with q|q
   .exact (hf b hb).2.1 q
   .exact (hf b hb).2.2.1 q
 have hfresh:H C=none:=I.hok.fresh hC;refine⟨ok,rfl,I.bare,Un.kept hk,⟨m,hn,λj x v e1 e2 e3=>?_⟩,λx c e=>?_,hfresh,λx c e=>I.freeC x c (sub x c e),λp hp=>?_,I.hok.kept hk,?_⟩
 .have e2:(iQ fr Z)[j]?=some (some v):=e2;unfold iQ at e2;rw[bp] at e2;cases q:fr[j]? with
  |none=>rw[q] at e2;cases e2
  |some o=>
   rw[q] at e2;cases o with
   |none=>cases e2
   |some i=>
    have e2:(Z[i]?).join=some v:=dh e2;obtain⟨hi,hfree⟩:=S.fr j i x q e1;have hσ:Z[i]?=some (some v):=by
     cases z:Z[i]? with
     |none=>rw[z] at e2;cases e2
     |some y=>rw[z] at e2;cases y with
      |none=>cases e2
      |some y'=>have e2:some y'=some v:=e2;rw[e2]
    obtain⟨m0,_,hl⟩:=I.loc;have hcf:X.env.kindOf x=some .cell\/X.env.kindOf x=some .free:=S.frees (x,.free) (nB hfree) rfl;have hvis:Vis X.env.scope x:=hcf.elim (λz=>.inr (.inl z)) λz=>.inr (.inr z);obtain⟨u,r,lk⟩:=hl i x v hi hσ hvis;rcases lk with ⟨z,_⟩|⟨_,c,ec,hcell⟩
    .rcases hcf with y|y<;>(rw[y] at z;cases z)
    .refine⟨u,r,.inr ⟨A_ hfree,?_⟩⟩;obtain⟨c',ec'⟩:=je.mp (qg (env:=X.env) (names:=scope.names) (cs:=[]) (.inl (nB hfree)));have:=sub x c' ec';rw[ec] at this;cases this;obtain⟨o,ho,hd⟩:=hcell;exact⟨c,ec',o,hk c o ho,hd⟩
 .obtain⟨v,o,ho,hd⟩:=I.cell x c (sub x c e);exact⟨v,o,hk c o ho,hd⟩
 .have hp:p∈(X.pn++pins)++[]:=hp;rw[eL] at hp;obtain⟨e,n,ne,nf,d⟩:=I.pin p hp;refine⟨hk _ _ e,n,λz=>?_,λz=>?_,d⟩
  .have z:p.1=C:=z;exact absurd (b_ (aK e) hC) (by rw[z];exact ef _)
  .rcases aT.mp (I.stkSub p.1 z) with q|q
   .exact ne q
   .exact nf q
 .show (iQ fr Z).length=N.length;unfold iQ;rw[aC];exact S.len
theorem CB {C:Addr} {H2:Hp} {s':Shared} {Z':St} {p':List (Addr×Obj)} (I:Inv X pins Z H s) (hf:∀b∈fp,dZ X pins H b) (hC:s.heap.objs.size<=C) (J:Inv (ig X N scope C s H fp pins) p' Z' H2 s') :
  Inv X pins Z H2 s'/\dZ X pins H2 C:=by
 have J0:Inv X pins Z H2 s':=I.call' J.os J.base J.hok J.bare λb hb=>⟨(hf b hb).2.2.2.1,(hf b hb).2.1,(hf b hb).2.2.2.2.1,(hf b hb).2.2.2.2.2⟩;exact⟨J0,I.fpOk hC J.free⟩
end
end L2
end
section
namespace L2
open PySem PySem.Spec PyProof.Rows
def PIf (X:Cx) (ifs:List Expr) (t:TT):Prop:=
 ∀(pins:List (Addr×Obj)) (s:Shared) (Z:St) (H:Hp) (Q:Bool->Hp->Prop),Inv X pins Z H s->t Z H Q->
  wpAny (model X.prog X.w) X.A (forIn ifs true λc r=>if r=true then do let ok <-isTrue c X.env (eval c X.env);pure (ForInStep.yield ok) else pure (ForInStep.yield r)) (TP X pins Z Q) X.xe s
theorem eO:PIf X [] (λ_ H Q=>Q true H):=λ_ _ _ H _ I h=>wpAny_tests_nil ⟨H,I,h⟩
theorem iL {c:Expr} {t:TT} (h:PT X c t):PIf X [c] t:=λpins s Z H Q I q=>wpAny_tests_one (h pins s Z H Q I q)
def tBlE (D:Addr) (ys:List V) (N:St->List V->Hp->Prop) (Z2:St):VK:=λy H4=>H4 D=some (.lst ys)/\ys.length<sizeLine/\WrO H4 D (.lst (ys++[y])) (N Z2 (ys++[y]))
def rB (te:TE) (D:Addr) (ys:List V) (N:St->List V->Hp->Prop) (Z2:St):Bool->Hp->Prop:=λb H3=>if b=true then te Z2 H3 (tBlE D ys N Z2) else N Z2 ys H3
def jS (tt:TT) (te:TE) (D:Addr) (ys:List V) (N:St->List V->Hp->Prop):St->Hp->Prop:=λZ2 H2=>tt Z2 H2 (rB te D ys N Z2)
def tBlN (J:It) (g:TG) (tt:TT) (te:TE) (D:Addr) (W:Nat->Nat->St->List V->Hp->Prop) (i m:Nat) (Z:St) (ys:List V) (H:Hp) (N:St->List V->Hp->Prop):Prop:=(∀Z' ys' H',N Z' ys' H'->∃m',m'<m/\W (i+1) m' Z' ys' H')/\∀x H',J.yld i H x H'->g x Z H' (jS tt te D ys N)
def tBlB (J:It) (g:TG) (tt:TT) (te:TE) (D:Addr) (Z':St) (H1:Hp) (Q:Hp->Prop) (W:Nat->Nat->St->List V->Hp->Prop):Prop:=(∃m,W 0 m Z' [] (upd H1 D (.lst [])))/\∀i m Z ys H,W i m Z ys H->(J.stop i H/\Q H)\/(J.go i H/\Exists (tBlN J g tt te D W i m Z ys H))
def hU (J:It) (g:TG) (tt:TT) (te:TE) (D:Addr) (Z':St) (H1:Hp) (Q:Hp->Prop):Prop:=Exists (tBlB J g tt te D Z' H1 Q)
theorem A9 {elt target iter:Expr} {ifs:List Expr} {scope:Scope} {pos:Pos} {it acc:Value} {env:Env} {R:Result->Shared->Prop} (I:Nat->Shared->Prop)
  (turn:∀n s,I n s->wpAny (model P w) A (pyNext it) (λr s1=>match r with
   |none=>R (.ok .next) s1
   |some v=>wpAny (model P w) A (letOwnedTupleGo target it v) (λ_ s1'=>wpAny (model P w) A (assign target env v) (λ_ s2=>
     wpAny (model P w) A (forIn ifs true λc r=>if r=true then do let ok <-isTrue c env (eval c env);pure (ForInStep.yield ok) else pure (ForInStep.yield r)) (λok s3=>
      if ok=true then wpAny (model P w) A (eval elt env) (λx s4=>
       wpAny (model P w) A (call (.builtin "list.append") [acc,x]) (λ_ s5=>∃m,m<n/\I m s5) (λ_ _=>False) s4) (λ_ _=>False) s3
      else ∃m,m<n/\I m s3) (λ_ _=>False) s2) (λ_ _=>False) s1') (λ_ _=>False) s1) (λ_ _=>False) s)
  (n:Nat) (h:I n s) :
  codeAny (model P w) A (.compLoop (.ListComp elt [⟨target,iter,ifs,0⟩] scope pos) 0 it acc env) R s:=by
 have no:∀(e:Value) (t:Shared),False->notedBy (model P w) A env (λe s'=>R (.error e) s') e t:=λ_ _ z=>z.elim;refine codeAny_loop rfl I (λn s hI=>?_) n h;refine wpAny_noted ?_;rw[compTurn_list];refine af (nz (af (dn (turn n s hI) (λr s1 h1=>?_) no)));cases r with
 |none=>exact aq h1
 |some v=>
  refine af (dn h1 (λ_ s1' h1'=>?_) no);refine af (dn h1' (λ_ s2 h2=>af (dn h2 (λok s3 h3=>?_) no)) no);cases ok with
  |false=>exact aq ⟨rfl,h3⟩
  |true=>
   exact af (af (dn h3 (λx s4 h4=>af (dn h4 (λ_ s5 h5=>aq (aq ⟨rfl,h5⟩)) no)) no))
section
variable {N:List Str} {fr:List (Option Nat)} {fp:List Addr}
theorem CA {elt target iter:Expr} {ifs:List Expr} {pos:Pos} {it D:Addr} {tn:Nat->Heap->Prop} {J:It} {g:TG} {tt:TT} {te:TE} {R:Result->Shared->Prop} {s1:Shared} {Z1:St} {H1:Hp} {Q:Hp->Prop}
  {Y:Cx} (hY:Y.xe=λ_ _=>False) (hc:Y.calm=true) (I:Inv Y [] Z1 (upd H1 D (.lst [])) s1) (T:Turn Y.prog Y.w Y.K target J fp it tn) (ht:tn 0 s1.heap) (hf:∀b∈fp,dZ Y [] (upd H1 D (.lst [])) b)
  (hg:PG Y target g) (hi:PIf Y ifs tt) (he:PE Y elt te) (h:hU J g tt te D Z1 H1 Q) (hR:∀s' Z' H',Inv Y [] Z' H' s'->Q H'->R (.ok .next) s') :
  codeAny (model Y.prog Y.w) Y.A (.compLoop (.ListComp elt [⟨target,iter,ifs,0⟩] scope pos) 0 (.ref it) (.ref D) Y.env) R s1:=by
 obtain⟨W,⟨m0,w0⟩,turn⟩:=h;have stat:∀{H':Hp},(∀b∈fp,H' b=none)->∀b∈fp,dZ Y [] H' b:=λhn b hb=>⟨hn b hb,(hf b hb).2⟩;refine A9 (λn s'=>∃i Z' ys H',Inv Y [] Z' H' s'/\tn i s'.heap/\(∀b∈fp,H' b=none)/\W i n Z' ys H') ?_ m0 ⟨0,Z1,[],_,I,ht,λb hb=>(hf b hb).1,w0⟩;rintro n s3 ⟨i,Z3,ys,H3,I3,st3,fr3,w3⟩;have back:∀{α:Type} {t:Sem α} {Q:α->Shared->Prop} {s:Shared},wpAny (model Y.prog Y.w) Y.A t Q Y.xe s->wpAny (model Y.prog Y.w) Y.A t Q (λ_ _=>False) s:=λh=>by rw[hY] at h;exact h
 rcases turn i n Z3 ys H3 w3 with ⟨stop,qn⟩|⟨go,N',hN',step⟩
 .refine thn (T.done Y rfl rfl rfl hc i [] s3 Z3 H3 _ I3 (stat fr3) st3 stop) λr s4 ⟨hr,I4⟩=>?_;subst hr;exact hR s4 Z3 H3 I4 qn
 .refine thn (T.item Y rfl rfl rfl hc i [] s3 Z3 H3 _ I3 (stat fr3) st3 go) λr s4 ⟨u,hr,h4⟩=>?_;subst hr;refine thn h4 λ_ s5 ⟨x,H5,I5,r5,y5,st5,fr5⟩=>?_;have I5':=I5.pinned (stat fr5) (T.obj _ _ st5);rw[List.nil_append] at I5';refine thn (back (hg _ s5 Z3 H5 x u _ I5' r5 (step x H5 y5))) λ_ s6 ⟨Z6,H6,I6,q6⟩=>?_;refine thn (back (hi _ s6 Z6 H6 _ I6 q6)) λb s7 ⟨H7,I7,q7⟩=>?_;have again:∀{Z7:St} {H7:Hp} {s7:Shared} {ys':List V},Inv Y (lP fp s5.heap) Z7 H7 s7->(∃m',m'<n/\W (i+1) m' Z7 ys' H7)->∃m,m<n/\∃i Z' ys H',Inv Y [] Z' H' s7/\tn i s7.heap/\(∀b∈fp,H' b=none)/\W i m Z' ys H':=λ{Z7 H7 s7 ys'} I7 ⟨m',hm,w7⟩=>by
   refine⟨m',hm,i+1,Z7,ys',H7,I7.pins_of (λp hp=>by simp at hp),T.keep _ _ _ st5 λb hb o e=>(I7.pin (b,o) (fU _ (nE hb e))).1,λb hb=>?_,w7⟩;obtain⟨o,e,d⟩:=T.obj _ _ st5 b hb;exact (I7.pin (b,o) (fU _ (nE hb e))).2.1
  cases b with
  |false=>
   rw[rB,KH bN] at q7;rw[KH bN];exact again I7 (hN' _ _ _ q7)
  |true=>
   rw[rB,KI rfl] at q7;rw[KI rfl];refine thn (back (he _ s7 Z6 H7 _ I7 q7)) λv s8 ⟨y,H8,I8,r8,hD,hl,q8⟩=>?_;refine thn (back (fE _ s8 Z6 H8 (.ref D) [y] (.ref D) [v] (λ_ H'=>N' Z6 (ys++[y]) H') I8 rfl (.cons r8 .nil) ⟨D,ys,y,rfl,rfl,hD,hl,q8⟩)) λ_ s9 ⟨_,H9,I9,_,q9⟩=>?_;exact again I9 (hN' _ _ _ q9)
end
end L2
end
section
namespace L2
open PySem PySem.Spec PyProof.Rows
def tCoD (Q:VK) (D:Addr):Hp->Prop:=λH2=>Q (.ref D) H2
def tCoA (g:TG) (tt:TT) (te:TE) (fr:List (Option Nat)) (Z:St) (Q:VK) (J:It) (H1:Hp):Prop:=∀D,H1 D=none->hU J g tt te D (iQ fr Z) H1 (tCoD Q D)
def tCoK (g:TG) (tt:TT) (te:TE) (fr:List (Option Nat)) (Z:St) (Q:VK):It->Hp->Prop:=λJ H1=>tCoA g tt te fr Z Q J H1
def oM (wi:TI) (g:TG) (tt:TT) (te:TE) (fr:List (Option Nat)):TE:=λZ H Q=>wi Z H (tCoK g tt te fr Z Q)
section
variable {N:List Str} {fr:List (Option Nat)} {elt tg iter:Expr} {ifs:List Expr} {pos:Pos} {wi:TI} {g:TG} {tt:TT} {te:TE}
def PComp (X:Cx) (N:List Str) (scope:Scope) (tg:Expr) (ifs:List Expr) (elt:Expr) (g:TG) (tt:TT) (te:TE):Prop:=
 ∀(C:Addr) (s:Shared) (H:Hp) (fp:List Addr) (pins:List (Addr×Obj)),PG (ig X N scope C s H fp pins) tg g/\PIf (ig X N scope C s H fp pins) ifs tt/\PE (ig X N scope C s H fp pins) elt te
theorem tO {itv:Value} {Z_:Value->Addr->Result->Shared->Prop} {QQ:Addr->Hp->Prop} (S:fG X N fr scope) (hc:X.calm=true)
  (hb:PComp X N scope tg ifs elt g tt te) (h2:PIE X pins Z tg (λJ H1=>∀D,H1 D=none->hU J g tt te D (iQ fr Z) H1 (QQ D)) itv s)
  (hZ:∀D C s' H',Inv X pins Z H' s'->dZ X pins H' C->(∃m,s'.heap.Ns C m)->QQ D H'->Z_ (.ref D) C (.ok .next) s') :
  wpAny (model X.prog X.w) X.A (newList []) (λacc s3=>wpAny (model X.prog X.w) X.A (newFunctionEnv scope X.env.globals (dJ X.env scope.names []) [] X.env.qual none .none (some X.env)) (λcenv s4=>
   codeAny (model X.prog X.w) X.A (.compStart (.ListComp elt [⟨tg,iter,ifs,0⟩] scope pos) 0 itv acc {cenv with scope:=relabel scope X.env}) (Z_ acc cenv.locals) s4) E s3) E s:=by
 obtain⟨it,fp,tn,J,H1,e,I2,T,st2,f2,q⟩:=h2;subst e;have hD:H1 s.heap.objs.size=none:=I2.hok.fresh (ar _);have old:∀b∈fp,b<s.heap.objs.size:=λb hb=>by
  obtain⟨o,e,_⟩:=T.obj _ _ st2 b hb;exact aK e
 refine fX (wpAny_newFunctionEnv S.nocell (by intro y hy;simp at hy) (λh1 hns hsb=>?_) S.kind);dsimp only at hns hsb |-;have I3:Inv X pins Z (upd H1 s.heap.objs.size (.lst [])) {s with heap:=s.heap.push {cls:=.type "list",dict:=none,data:=.seq ([]:List Value).toArray}}:=by refine I2.laid (t':=s.toks) (λb u e=>aR _ e) (ar _) ?_;exact⟨aU _,[],_,.nil,bP _ rfl⟩
 have f3:∀b∈fp,dZ X pins (upd H1 s.heap.objs.size (.lst [])) b:=λb hb=>⟨by rw[aj (bJ (old b hb))];exact (f2 b hb).1,(f2 b hb).2⟩;have hsz:(s.heap.push {cls:=.type "list",dict:=none,data:=.seq ([]:List Value).toArray}).objs.size=s.heap.objs.size+1:=mQ ..;have I4:=Ad (C:=(s.heap.push {cls:=.type "list",dict:=none,data:=.seq ([]:List Value).toArray}).objs.size) (h1:=h1) (t:=s.toks+([]:List (Str×Value)).length) (fp:=fp) S I3 f3 (ar _)
  (λb hb=>by rw[hsz];exact bJ (sf (old b hb))) hns λb o e=>hsb.extBut b o (bJ (aK e)) (aR _ e)
 have st4:tn 0 h1:=T.keep _ _ _ st2 λb hb o e=>by
  have e1:=aR {cls:=.type "list",dict:=none,data:=.seq ([]:List Value).toArray} e;exact hsb.extBut b o (bJ (aK e1)) (aR _ e1)
 have f4:∀b∈fp,dZ (ig X N scope (s.heap.push {cls:=.type "list",dict:=none,data:=.seq ([]:List Value).toArray}).objs.size {s with heap:=s.heap.push {cls:=.type "list",dict:=none,data:=.seq ([]:List Value).toArray}} (upd H1 s.heap.objs.size (.lst [])) fp pins) [] (upd H1 s.heap.objs.size (.lst [])) b:=λb hb=>by
  refine⟨(f3 b hb).1,(I4.ok.exf b hb).1,I4.ok.exfs b hb,.inl hb,(I4.ok.exf b hb).2,λp hp=>?_⟩;have hp:p∈(X.pn++pins)++[]:=hp;rw[eL] at hp;exact (f3 b hb).2.2.2.2.2 p hp
 obtain⟨b1,b2,b3⟩:=hb (s.heap.push {cls:=.type "list",dict:=none,data:=.seq ([]:List Value).toArray}).objs.size {s with heap:=s.heap.push {cls:=.type "list",dict:=none,data:=.seq ([]:List Value).toArray}} (upd H1 s.heap.objs.size (.lst [])) fp pins;have run:=CA (Y:=ig X N scope (s.heap.push {cls:=.type "list",dict:=none,data:=.seq ([]:List Value).toArray}).objs.size {s with heap:=s.heap.push {cls:=.type "list",dict:=none,data:=.seq ([]:List Value).toArray}} (upd H1 s.heap.objs.size (.lst [])) fp pins) (elt:=elt) (iter:=iter) (pos:=pos) (scope:=scope) (R:=Z_ (.ref s.heap.objs.size) (s.heap.push {cls:=.type "list",dict:=none,data:=.seq ([]:List Value).toArray}).objs.size) rfl hc I4 T st4 f4 b1 b2 b3 (q _ hD) λs' Z' H' I' q'=>by
  obtain⟨J1,F1⟩:=CB I3 f3 (ar _) I';obtain⟨m,hm,_⟩:=I'.loc;exact hZ _ _ s' H' J1 F1 ⟨m,hm⟩ q'
 exact codeAny_compStart_list run (T.self _ 0 _ _ _ st4 run)
theorem dO (S:fG X N fr scope) (hc:X.calm=true) (hi:PI X tg iter wi) (hb:PComp X N scope tg ifs elt g tt te)
  (hs:∀x,foldedSetIterable iter X.env x=pure x:=by intro _;rfl):PE X (.ListComp elt [⟨tg,iter,ifs,0⟩] scope pos) (oM wi g tt te fr):=by
 intro pins s Z H Q I h;rw[eval_ListComp];refine Js (use:=none) rfl hs (tP (S.cells I.ok)) S.kind S.names (thn (hi pins s Z H _ I h) λv s1 h1=>thn h1 λitv s2 h2=>?_);refine tO (QQ:=λD H2=>Q (.ref D) H2) (Z_:=λacc C=>compPost (model X.prog X.w) X.A X.xe none (EP X pins Z Q) acc C) S hc hb h2 λD C s' H' J F hm q=>?_;obtain⟨m,hm⟩:=hm;refine⟨m,hm,λh' hs'=>⟨.ref D,H',?_,rfl,q⟩⟩;exact J.turned (t':=s'.toks) (λb o hb e=>hs'.extBut b o hb e) F.1 F.2.1 F.2.2.2.1 F.2.2.2.2.1 F.2.2.2.2.2
theorem qv {i:Nat} {x:Str} {pos' spos:Pos} (S:fG X N fr scope) (hc:X.calm=true) (hi:PI X tg iter wi) (hb:PComp X N scope tg ifs elt g tt te) (hN:X.N.Nodup) (hx:X.N[i]?=some x) (hl:Loc X.env.scope x)
  (hsw:swapsWith (.ListComp elt [⟨tg,iter,ifs,0⟩] scope pos) (some (.Name x pos')) spos.line X.env=pure true:=by rfl)
  (hf:X.fn x=true\/X.env.scope.names.lookup x=some .local:=by first|exact .inl rfl|exact .inr rfl|assumption)
  (hs:∀x,foldedSetIterable iter X.env x=pure x:=by intro _;rfl):PS X (.Assign [.Name x pos'] (.ListComp elt [⟨tg,iter,ifs,0⟩] scope pos) spos) (mn (oM wi g tt te fr) (dg i)):=by
 intro pins s Z H D I h;rw[exec_Assign_Name_used _ _ _ _ hsw];refine af (nz (af ?_));show wpAny _ _ (do let _ <-comprehension (.ListComp elt [⟨tg,iter,ifs,0⟩] scope pos) scope X.env _ (newList []) false (eval iter X.env) (some (assign (.Name x pos') X.env))) _ _ s;refine af (thn (Js (use:=some (assign (.Name x pos') X.env)) (Q:=λ_ s'=>SP X pins D .next s') rfl hs (tP (S.cells I.ok)) S.kind S.names (thn (hi pins s Z H _ I h) λv s1 h1=>thn h1 λitv s2 h2=>?_)) λ_ s' hq=>aq (aq hq));refine tO (QQ:=λd H2=>D.nx (Z.set i (some (.ref d))) H2) (Z_:=λacc C=>compPost (model X.prog X.w) X.A X.xe (some (assign (.Name x pos') X.env)) (λ_ s'=>SP X pins D .next s') acc C) S hc hb h2 λd C s' H' J F hm q=>?_;obtain⟨m,hm⟩:=hm;show wpAny _ _ (assign (.Name x pos') X.env (.ref d)) _ _ s';refine Jr (t_ J hN hx hl (v:=.ref d) rfl (λs2 I2 ⟨a,sb,ha⟩=>?_) hf);have hCa:C≠a:=by
  rcases ha with e|e
  .rw[e];exact F.2.1
  .exact λz=>F.2.2.2.2.1 x a e z.symm
 refine⟨m,hm.sameBut sb hCa,λh' hs'=>⟨_,H',?_,q⟩⟩;exact I2.turned (t':=s2.toks) (λb o hb e=>hs'.extBut b o hb e) F.1 F.2.1 F.2.2.2.1 F.2.2.2.2.1 F.2.2.2.2.2
end
section
variable {a D:Addr} {g:TG} {tt:TT} {te:TE} {Z':St} {H1:Hp} {Q:Hp->Prop}
theorem eF (Pv:Nat->St->List V->Hp->Prop) (h0:Pv 0 Z' [] (upd H1 D (.lst []))) (hl:∀i Z ys H,i<=xs.length->Pv i Z ys H->SqL K H a xs)
  (hs:∀i x Z ys H,xs[i]?=some x->Pv i Z ys H->g x Z H (jS tt te D ys (Pv (i+1))))
  (hd:∀Z ys H,Pv xs.length Z ys H->Q H):hU (Itl K a) g tt te D Z' H1 Q:=by
 refine⟨λi m Z ys H=>m=xs.length-i/\i<=xs.length/\Pv i Z ys H,⟨xs.length,by simp,aU _,h0⟩,?_⟩;rintro i m Z ys H ⟨rfl,hi,p⟩;have q:=hl i Z ys H hi p;by_cases hlt:i<xs.length
 .refine .inr ⟨⟨xs,xs[i],q,by simp[hlt]⟩,Pv (i+1),λZ' ys' H' p'=>⟨xs.length-(i+1),by lia,rfl,hlt,p'⟩,λx H' y=>?_⟩;obtain⟨e,y⟩:=y;subst e;exact hs i x Z ys _ (y xs q) p
 .have e:i=xs.length:=by lia
  subst e;exact .inl ⟨⟨xs,q,ar _⟩,hd Z ys H p⟩
theorem qf (Pv:Nat->St->List V->Hp->Prop) (h0:Pv 0 Z' [] (upd H1 D (.lst []))) (hl:∀i Z ys H,i<=xs.length->Pv i Z ys H->SqT K H a xs)
  (hs:∀i x Z ys H,xs[i]?=some x->Pv i Z ys H->g x Z H (jS tt te D ys (Pv (i+1))))
  (hd:∀Z ys H,Pv xs.length Z ys H->Q H):hU (Itt K a) g tt te D Z' H1 Q:=by
 refine⟨λi m Z ys H=>m=xs.length-i/\i<=xs.length/\Pv i Z ys H,⟨xs.length,by simp,aU _,h0⟩,?_⟩;rintro i m Z ys H ⟨rfl,hi,p⟩;have q:=hl i Z ys H hi p;by_cases hlt:i<xs.length
 .refine .inr ⟨⟨xs,xs[i],q,by simp[hlt]⟩,Pv (i+1),λZ' ys' H' p'=>⟨xs.length-(i+1),by lia,rfl,hlt,p'⟩,λx H' y=>?_⟩;obtain⟨e,y⟩:=y;subst e;exact hs i x Z ys _ (y xs q) p
 .have e:i=xs.length:=by lia
  subst e;exact .inl ⟨⟨xs,q,ar _⟩,hd Z ys H p⟩
theorem Ae {lo:Int} {n:Nat} (Pv:Nat->St->List V->Hp->Prop) (h0:Pv 0 Z' [] (upd H1 D (.lst [])))
  (hs:∀i Z ys H,i<n->Pv i Z ys H->g (.int (lo+i)) Z H (jS tt te D ys (Pv (i+1))))
  (hd:∀Z ys H,Pv n Z ys H->Q H):hU (Itr lo n) g tt te D Z' H1 Q:=by
 refine⟨λi m Z ys H=>m=n-i/\i<=n/\Pv i Z ys H,⟨n,by simp,aU _,h0⟩,?_⟩;rintro i m Z ys H ⟨rfl,hi,p⟩;by_cases hlt:i<n
 .refine .inr ⟨hlt,Pv (i+1),λZ' ys' H' p'=>⟨n-(i+1),by lia,rfl,hlt,p'⟩,λx H' y=>?_⟩;obtain⟨e,y⟩:=y;subst e y;exact hs i Z ys _ hlt p
 .have e:i=n:=by lia
  subst e;exact .inl ⟨ar _,hd Z ys H p⟩
end
end L2
end
section
namespace TimS
open PySem PySem.W PyProof.Rows
theorem half {u w:Nat} (h:¬u ≥ w):u<=(u+w)/2/\(u+w)/2<w:=by lia
theorem half' {u w:Nat} (h:¬u ≥ w):u<=u+(w-u)/2/\u+(w-u)/2<w:=by lia
theorem fewer {u w k t m:Nat} (h:w-u<=k-t) (h1:m<w) (h2:u<=m):m-u<=k-(t+1):=by lia
theorem fewer' {u w k t m:Nat} (h:w-u<=k-t) (h1:m<w) (h2:u<=m):w-(m+1)<=k-(t+1):=by lia
abbrev SM:=StateT SortSt Sem
def gal:Bool->Keyed->Array Keyed->Nat->Nat->Nat->SM (Option Nat):=sortPriv% PySem.Builtin.gallop
def mlo:Array Keyed->Array Keyed->SM (Array Keyed):=sortPriv% PySem.Builtin.mergeLo
def mhi:Array Keyed->Array Keyed->SM (Array Keyed):=sortPriv% PySem.Builtin.mergeHi
def smg:Nat->SM Unit:=sortPriv% PySem.Builtin.setMinGallop
def bey (l:Bool) (q:Keyed) (v:Array Keyed) (o i:Nat):SM (Option Bool):=do
 let x <-elem' v (o+i)
 if l then lt' x q else return (<-lt' q x).map (!·)
theorem Ft (l:Bool) (q:Keyed) (v:Array Keyed) (o n h:Nat):gal l q v o n h=(do
 let mut z:=0
 let mut c:=1
 let mut u:=0
 let mut w:=0
 let some r <-bey l q v o h|return none
 if r then
  let m:=n-h
  for _ in [0:n] do
   if c ≥ m then break
   let some g <-bey l q v o (h+c)|return none
   if !g then break
   z:=c
   c:=2*c+1
  u:=h+z+1
  w:=h+min c m
 else
  let m:=h+1
  for _ in [0:n] do
   if c ≥ m then break
   let some g <-bey l q v o (h-c)|return none
   if g then break
   z:=c
   c:=2*c+1
  u:=h+1-min c m
  w:=h-z
 for _ in [0:n] do
  if u ≥ w then break
  let m:=u+(w-u)/2
  let some g <-bey l q v o m|return none
  if g then u:=m+1 else w:=m
 return some w):=rfl
theorem E8 (x y:Array Keyed):mlo x y=(do
 rule "list.sort.merge-lo"
 let T:=x.size+y.size
 let fa (v:Array Keyed) (i j:Nat):=v++x.extract i x.size++y.extract j y.size
 let fb (v:Array Keyed) (i j:Nat):=v++y.extract j y.size++x.extract i x.size
 let mut v:Array Keyed:=#[<-elem' y 0]
 let mut i:=0
 let mut j:=1
 if j==y.size then return fa v i j
 if i+1==x.size then return fb v i j
 let mut g:=gallopOf (<-get)
 for _ in [0:T] do
  let mut c:=0
  let mut d:=0
  for _ in [0:T] do
   let some b <-lt' (<-elem' y j) (<-elem' x i)|return fa v i j
   if b then
    v:=v.push (<-elem' y j);j:=j+1;d:=d+1;c:=0
    if j==y.size then return fa v i j
    if d ≥ g then break
   else
    v:=v.push (<-elem' x i);i:=i+1;c:=c+1;d:=0
    if i+1==x.size then return fb v i j
    if c ≥ g then break
  rule "list.sort.gallop"
  g:=g+1
  for _ in [0:T] do
   if g>1 then g:=g-1
   smg g
   let some k <-gal false (<-elem' y j) x i (x.size-i) 0|return fa v i j
   c:=k
   if k>0 then
    v:=v++x.extract i (i+k);i:=i+k
    if i+1==x.size then return fb v i j
    if i==x.size then return fa v i j
   v:=v.push (<-elem' y j);j:=j+1
   if j==y.size then return fa v i j
   let some k <-gal true (<-elem' x i) y j (y.size-j) 0|return fa v i j
   d:=k
   if k>0 then
    v:=v++y.extract j (j+k);j:=j+k
    if j==y.size then return fa v i j
   v:=v.push (<-elem' x i);i:=i+1
   if i+1==x.size then return fb v i j
   if c<7&&d<7 then break
  g:=g+1
  smg g
 unsupported "internal:list.sort.merge-bound"):=rfl
def G (a:Array Keyed) (i:Nat):Keyed:=a.getD i (Value.none,Value.none)
structure Cmp (M:Model) (A:Around) (E:Value->Shared->Prop) (s:Shared) (κ:SortKind) (N:Keyed->Prop) (lt:Keyed->Keyed->Bool):Prop where
 asym:∀x y,lt x y=true->lt y x=false
 tr:∀x y z,lt y x=false->lt z y=false->lt z x=false
 ask:∀{x y:Keyed} {st:SortSt} {Q:Option Bool->SortSt->Prop},N x->N y->kindOf st=κ->Q (some (lt x y)) st->wpS M A E s (lt' x y) Q st
section
variable {M:Model} {κ:SortKind} {N:Keyed->Prop} {lt:Keyed->Keyed->Bool}
theorem oQ {a:Array Keyed} {i:Nat} (h:i<a.size):a[i]?=some (G a i):=by simp[G,Array.getD,h]
theorem a_ {α:Type} {c:Prop} [Decidable c] {t e:StateT SortSt Sem α} {Q:α->SortSt->Prop} {st:SortSt} (h:c) (q:wpS M A E s t Q st):wpS M A E s (if c then t else e) Q st:=by rw[KI h];exact q
theorem aY {α:Type} {c:Prop} [Decidable c] {t e:StateT SortSt Sem α} {Q:α->SortSt->Prop} {st:SortSt} (h:¬c) (q:wpS M A E s e Q st):wpS M A E s (if c then t else e) Q st:=by rw[KH h];exact q
theorem cP {a:Array Keyed} {i:Nat} {Q:Keyed->SortSt->Prop} {st:SortSt} (h:i<a.size) (q:Q (G a i) st):wpS M A E s (elem' a i) Q st:=by rw[elem'_eq,oQ h];exact aB q
theorem Cmp.refl (C:Cmp M A E s κ N lt) (x:Keyed):lt x x=false:=by
 cases h:lt x x with
 |false=>rfl
 |true=>have z:=C.asym x x h;rw[h] at z;cases z
theorem Cmp.ltle (C:Cmp M A E s κ N lt) {x y z:Keyed} (h:lt x y=true) (h2:lt z y=false):lt x z=true:=by
 cases q:lt x z with
 |true=>rfl
 |false=>have:=C.tr _ _ _ h2 q;rw[h] at this;cases this
theorem Cmp.lelt (C:Cmp M A E s κ N lt) {x y z:Keyed} (h:lt y x=false) (h2:lt y z=true):lt x z=true:=by
 cases q:lt x z with
 |true=>rfl
 |false=>have:=C.tr _ _ _ q h;rw[h2] at this;cases this
theorem jA {x:String} {Q:Unit->SortSt->Prop} {st:SortSt} (h:Q () st):wpS M A E s (liftM (rule x):SM Unit) Q st:=wpS_lift (wpAny_rule ⟨rfl,h⟩)
def bv (lt:Keyed->Keyed->Bool) (l:Bool) (q:Keyed) (v:Array Keyed) (o i:Nat):Bool:=if l then lt (G v (o+i)) q else !lt q (G v (o+i))
theorem jF (C:Cmp M A E s κ N lt) {l:Bool} {q:Keyed} {v:Array Keyed} {o i:Nat} {st:SortSt} {Q:Option Bool->SortSt->Prop} (hN:∀i,i<v.size->N (G v i)) (hq:N q) (hi:o+i<v.size) (hk:kindOf st=κ) (h:Q (some (bv lt l q v o i)) st):wpS M A E s (bey l q v o i) Q st:=by
 unfold bey;refine au (cP hi ?_);cases l with
 |true=>exact C.ask (hN _ hi) hq hk h
 |false=>exact au (C.ask hq (hN _ hi) hk (aB h))
theorem jE {l:Bool} {q:Keyed} {v:Array Keyed} {o n h:Nat} {st:SortSt} {Q:Option Nat->SortSt->Prop} (b:Nat->Bool) (hb:∀i,i<n->∀Q:Option Bool->SortSt->Prop,Q (some (b i)) st->wpS M A E s (bey l q v o i) Q st)
  (mo:∀i j,i<=j->j<n->b j=true->b i=true) (hh:h<n) (hQ:∀k,k<=n->(∀i,i<k->b i=true)->(∀i,k<=i->i<n->b i=false)->Q (some k) st):wpS M A E s (gal l q v o n h) Q st:=by
 have mf:∀i j,i<=j->j<n->b i=false->b j=false:=λi j a c d=>by
  cases e:b j with
  |false=>rfl
  |true=>rw[mo i j a c e] at d;cases d
 have tail:∀(u w:Nat),u<=w->w<=n->(∀i,i<u->b i=true)->(∀i,w<=i->i<n->b i=false)->wpS M A E s (do
   let mut u:=u
   let mut w:=w
   for _ in [0:n] do
    if u ≥ w then break
    let m:=u+(w-u)/2
    let some g <-bey l q v o m|return none
    if g then u:=m+1 else w:=m
   return some w) Q st:=by
  intro u w h1 h2 h3 h4;dsimp only;refine au (eD (el (I:=λi x st'=>st'=st/\x.1=none/\x.2.1<=x.2.2/\x.2.2<=n/\x.2.2-x.2.1<=n-i/\(∀i,i<x.2.1->b i=true)/\(∀i,x.2.2<=i->i<n->b i=false)) (Q:=λx st'=>st'=st/\x.1=none/\x.2.1=x.2.2/\x.2.2<=n/\(∀i,i<x.2.1->b i=true)/\(∀i,x.2.2<=i->i<n->b i=false)) ?step ?fin ⟨rfl,rfl,h1,h2,by show w-u<=n-0;lia,h3,h4⟩) ?post)
  case fin=>
   rintro⟨r,u,w⟩ st' ⟨rfl,e,a1,a2,a3,a4,a5⟩;have a1:u<=w:=a1;have a3:w-u<=n-max 0 n:=a3;exact⟨rfl,e,by show u=w;lia,a2,a4,a5⟩
  case step=>
   rintro i ⟨r,u,w⟩ st' _ hi ⟨rfl,e,a1,a2,a3,a4,a5⟩;have a1:u<=w:=a1;have a2:w<=n:=a2;have a3:w-u<=n-i:=a3;have a4:∀i,i<u->b i=true:=a4;have a5:∀i,w<=i->i<n->b i=false:=a5;dsimp only;by_cases c:u ≥ w
   .refine a_ c ?_;exact aB ⟨rfl,rfl,by show u=w;lia,a2,a4,a5⟩
   .refine aY c ?_;obtain⟨m1,m2⟩:=half' c;generalize u+(w-u)/2=m at m1 m2 |-;refine au (hb _ (b_ m2 a2) _ ?_);dsimp only;cases hm:b m with
    |true=>
     refine a_ rfl ?_;exact aB ⟨rfl,rfl,m2,a2,fewer' a3 m2 m1,λk hk=>mo k m (Io hk) (b_ m2 a2) hm,a5⟩
    |false=>
     refine aY (by decide) ?_;exact aB ⟨rfl,rfl,m1,jc (b_ m2 a2),fewer a3 m2 m1,a4,λk hk h'=>mf _ k hk h' hm⟩
  case post=>
   rintro⟨r,u,w⟩ st' ⟨rfl,e,a1,a2,a3,a4⟩;have e:r=none:=e;cases e;cases (show u=w from a1);exact aB (hQ u a2 a3 a4)
 rw[Ft];dsimp only;refine au (hb h hh _ ?_);dsimp only;cases b0:b h with
 |true=>
  refine a_ rfl ?_;refine au (eD (el (β:=Option (Option Nat)×Nat×Nat) (I:=λi x st'=>st'=st/\x.1=none/\b (h+x.2.1)=true/\h+x.2.1<n/\x.2.1<x.2.2/\i<x.2.2) (Q:=λx st'=>st'=st/\x.1=none/\b (h+x.2.1)=true/\h+x.2.1<n/\x.2.1<x.2.2/\(x.2.2 ≥ n-h\/b (h+x.2.2)=false)) ?s1 ?f1 ⟨rfl,rfl,b0,hh,fW 0,fW 0⟩) ?p1)
  case f1=>
   rintro⟨r,z,c⟩ st' ⟨rfl,e,a1,a2,a3,a4⟩;have a4:max 0 n<c:=a4;exact⟨rfl,e,a1,a2,a3,.inl (by show c ≥ n-h;lia)⟩
  case s1=>
   rintro i ⟨r,z,c⟩ st' _ hi ⟨rfl,e,a1,a2,a3,a4⟩;have a1:b (h+z)=true:=a1;have a2:h+z<n:=a2;have a3:z<c:=a3;have a4:i<c:=a4;dsimp only;by_cases c1:c ≥ n-h
   .exact a_ c1 (aB ⟨rfl,rfl,a1,a2,a3,.inl c1⟩)
   .refine aY c1 ?_;refine au (hb _ (by lia) _ ?_);dsimp only;cases hm:b (h+c) with
    |true=>
     refine aY (by decide) ?_;exact aB ⟨rfl,rfl,hm,by show h+c<n;lia,by show c<2*c+1;lia,by show i+1<2*c+1;lia⟩
    |false=>
     refine a_ (by decide) ?_;exact aB ⟨rfl,rfl,a1,a2,a3,.inr hm⟩
  case p1=>
   rintro⟨r,z,c⟩ st' ⟨rfl,e,a1,a2,a3,a4⟩;have e:r=none:=e;subst e;have a1:b (h+z)=true:=a1;have a2:h+z<n:=a2;have a3:z<c:=a3;have a4:c ≥ n-h\/b (h+c)=false:=a4;dsimp only;refine tail (h+z+1) (h+min c (n-h)) (by lia) (by lia) (λi hi=>mo i (h+z) (by lia) a2 a1) (λi hi hn=>?_);rcases a4 with a4|a4
   .lia
   .by_cases c1:c ≥ n-h
    .lia
    .exact mf (h+c) i (by lia) hn a4
 |false=>
  refine aY (by decide) ?_;refine au (eD (el (β:=Option (Option Nat)×Nat×Nat) (I:=λi x st'=>st'=st/\x.1=none/\b (h-x.2.1)=false/\x.2.1<=h/\x.2.1<x.2.2/\i<x.2.2) (Q:=λx st'=>st'=st/\x.1=none/\b (h-x.2.1)=false/\x.2.1<=h/\x.2.1<x.2.2/\(x.2.2 ≥ h+1\/b (h-x.2.2)=true)) ?s2 ?f2 ⟨rfl,rfl,b0,aU _,fW 0,fW 0⟩) ?p2)
  case f2=>
   rintro⟨r,z,c⟩ st' ⟨rfl,e,a1,a2,a3,a4⟩;have a4:max 0 n<c:=a4;exact⟨rfl,e,a1,a2,a3,.inl (by show c ≥ h+1;lia)⟩
  case s2=>
   rintro i ⟨r,z,c⟩ st' _ hi ⟨rfl,e,a1,a2,a3,a4⟩;have a1:b (h-z)=false:=a1;have a2:z<=h:=a2;have a3:z<c:=a3;have a4:i<c:=a4;dsimp only;by_cases c1:c ≥ h+1
   .exact a_ c1 (aB ⟨rfl,rfl,a1,a2,a3,.inl c1⟩)
   .refine aY c1 ?_;refine au (hb _ (by lia) _ ?_);dsimp only;cases hm:b (h-c) with
    |true=>
     refine a_ rfl ?_;exact aB ⟨rfl,rfl,a1,a2,a3,.inr hm⟩
    |false=>
     refine aY (by decide) ?_;exact aB ⟨rfl,rfl,hm,by show c<=h;lia,by show c<2*c+1;lia,by show i+1<2*c+1;lia⟩
  case p2=>
   rintro⟨r,z,c⟩ st' ⟨rfl,e,a1,a2,a3,a4⟩;have e:r=none:=e;subst e;have a1:b (h-z)=false:=a1;have a2:z<=h:=a2;have a3:z<c:=a3;have a4:c ≥ h+1\/b (h-c)=true:=a4;dsimp only;refine tail (h+1-min c (h+1)) (h-z) (by lia) (by lia) (λi hi=>?_) (λi hi hn=>mf (h-z) i (by lia) hn a1);rcases a4 with a4|a4
   .lia
   .by_cases c1:c ≥ h+1
    .lia
    .exact mo i (h-c) (by lia) (by lia) a4
end
theorem E9 (x y:Array Keyed):mhi x y=(do
 rule "list.sort.merge-hi"
 let T:=x.size+y.size
 let fa (v:Array Keyed) (i j:Nat):=x.extract 0 i++y.extract 0 j++v.reverse
 let fb (v:Array Keyed) (i j:Nat):=y.extract 0 j++x.extract 0 i++v.reverse
 let mut i:=x.size-1
 let mut j:=y.size
 let mut v:Array Keyed:=#[<-elem' x i]
 if i==0 then return fa v i j
 if j==1 then return fb v i j
 let mut g:=gallopOf (<-get)
 for _ in [0:T] do
  let mut c:=0
  let mut d:=0
  for _ in [0:T] do
   let some b <-lt' (<-elem' y (j-1)) (<-elem' x (i-1))|return fa v i j
   if b then
    i:=i-1;v:=v.push (<-elem' x i);c:=c+1;d:=0
    if i==0 then return fa v i j
    if c ≥ g then break
   else
    j:=j-1;v:=v.push (<-elem' y j);d:=d+1;c:=0
    if j==1 then return fb v i j
    if d ≥ g then break
  rule "list.sort.gallop"
  g:=g+1
  for _ in [0:T] do
   if g>1 then g:=g-1
   smg g
   let some p <-gal false (<-elem' y (j-1)) x 0 i (i-1)|return fa v i j
   let k:=i-p
   c:=k
   if k>0 then
    v:=v++(x.extract p i).reverse;i:=p
    if i==0 then return fa v i j
   j:=j-1;v:=v.push (<-elem' y j)
   if j==1 then return fb v i j
   let some p <-gal true (<-elem' x (i-1)) y 0 j (j-1)|return fa v i j
   let k:=j-p
   d:=k
   if k>0 then
    v:=v++(y.extract p j).reverse;j:=p
    if j==1 then return fb v i j
    if j==0 then return fa v i j
   i:=i-1;v:=v.push (<-elem' x i)
   if i==0 then return fa v i j
   if c<7&&d<7 then break
  g:=g+1
  smg g
 unsupported "internal:list.sort.merge-bound"):=rfl
theorem Ex (g:Nat):smg g=modify λs=>SortSt.mk' (kindOf s) (arrOf s) (pendingOf s) g (failedOf s):=rfl
theorem E_ (i:Nat):mergeAt' i=(do
 let s <-get
 let (some (p,m,e),some (q,n,_)):=((pendingOf s)[i]?,(pendingOf s)[i+1]?)|unsupported "internal:list.sort.pending"
 set (setPending s (((pendingOf s).setIfInBounds i (p,m+n,e)).eraseIdxIfInBounds (i+1)))
 let some k <-gal false (<-elem' (arrOf s) q) (arrOf s) p m 0|return false
 let (p,m):=(p+k,m-k)
 if m==0 then return true
 let some n <-gal true (<-elem' (arrOf s) (p+m-1)) (arrOf s) q n (n-1)|return false
 if n==0 then return true
 let x:=(arrOf s).extract p q
 let y:=(arrOf s).extract q (q+n)
 let r <-if m<=n then mlo x y else mhi x y
 modify λs=>setArr s (r.toList.zipIdx.foldl (λa (z,j)=>a.setIfInBounds (p+j) z) (arrOf s))
 return (failedOf (<-get)).isNone):=rfl
section
variable {M:Model} {κ:SortKind} {N:Keyed->Prop} {lt:Keyed->Keyed->Bool}
def Asc (lt:Keyed->Keyed->Bool) (x:Array Keyed):Prop:=∀i j,i<=j->j<x.size->lt (G x j) (G x i)=false
def Srt (lt:Keyed->Keyed->Bool) (l:List Keyed):Prop:=l.Pairwise λa b=>lt b a=false
structure MI (lt:Keyed->Keyed->Bool) (x y v:Array Keyed) (i j:Nat):Prop where
 ix:i<=x.size
 jy:j<=y.size
 pm:v.toList.Perm (x.toList.take i++y.toList.take j)
 so:Srt lt v.toList
 bx:∀a∈v.toList,∀k,i<=k->k<x.size->lt (G x k) a=false
 by_:∀a∈v.toList,∀k,j<=k->k<y.size->lt (G y k) a=false
def Good (lt:Keyed->Keyed->Bool) (x y v:Array Keyed):Prop:=v.toList.Perm (x.toList++y.toList)/\Srt lt v.toList
theorem MI.sw {x y v:Array Keyed} {i j:Nat} (h:MI lt x y v i j):MI lt y x v j i:=⟨h.jy,h.ix,h.pm.trans gH,h.so,h.by_,h.bx⟩
theorem D_ {x:Array Keyed} {i:Nat} (h:i<x.size):x.toList.take (i+1)=x.toList.take i++[G x i]:=by rw[bV,iu,oQ h];rfl
theorem MI.push {x y v:Array Keyed} {i j:Nat} (hx:Asc lt x) (h:MI lt x y v i j) (hi:i<x.size) (hy:∀k,j<=k->k<y.size->lt (G y k) (G x i)=false):MI lt x y (v.push (G x i)) (i+1) j:=by
 refine⟨hi,h.jy,?_,?_,λa ha k h1 h2=>?_,λa ha k h1 h2=>?_⟩
 .rw[gC,D_ hi,gD];refine (h.pm.append_right _).trans ?_;rw[gD];exact HL _ gH
 .unfold Srt;rw[gC,xW];refine⟨h.so,rY _ _,λa ha b hb=>?_⟩;rw[aV.mp hb];exact h.bx a ha i (ar _) hi
 .rw[gC] at ha;rcases bh.mp ha with ha|ha
  .exact h.bx a ha k (by lia) h2
  .rw[aV.mp ha];exact hx i k (by lia) h2
 .rw[gC] at ha;rcases bh.mp ha with ha|ha
  .exact h.by_ a ha k h1 h2
  .rw[aV.mp ha];exact hy k h1 h2
theorem xw {x v:Array Keyed} {i k:Nat} (h:i+k<x.size):v++x.extract i (i+(k+1))=(v++x.extract i (i+k)).push (G x (i+k)):=by
 apply mH.mp;rw[gC,Hw,Hw,rH,rH,rN,rN,gD]
 congr 1
 rw[show i+(k+1)-i=k+1 by lia,show i+k-i=k by lia,bV,Ia,iu,oQ h];rfl
theorem MI.chunk {x y v:Array Keyed} {i j:Nat} (hx:Asc lt x) (h:MI lt x y v i j):∀(k:Nat),i+k<=x.size->(∀m,m<k->∀k',j<=k'->k'<y.size->lt (G y k') (G x (i+m))=false)->MI lt x y (v++x.extract i (i+k)) (i+k) j
 |0,_,_=>by
  have e:v++x.extract i (i+0)=v:=by apply mH.mp;simp
  rw[e];exact h
 |k+1,hk,hm=>by
  rw[xw (by lia)];exact (MI.chunk hx h k (by lia) λm hm'=>hm m (by lia)).push hx (by lia) (hm k (fW _))
theorem MI.fin {x y v:Array Keyed} (h:MI lt x y v x.size y.size):Good lt x y v:=by
 refine⟨?_,h.so⟩;have:=h.pm
 rwa [jb (by simp),jb (by simp)] at this
theorem MI.fa {x y v:Array Keyed} {i j:Nat} (hx:Asc lt x) (hy:Asc lt y) (h:MI lt x y v i j) (hr:∀m,i<=m->m<x.size->∀k,j<=k->k<y.size->lt (G y k) (G x m)=false):Good lt x y (v++x.extract i x.size++y.extract j y.size):=by have hi:=h.ix;have hj:=h.jy;have a1:=MI.chunk hx h (x.size-i) (by lia) λm hm k h1 h2=>hr _ (by lia) (by lia) k h1 h2;rw[show i+(x.size-i)=x.size by lia] at a1;have a2:=MI.chunk hy a1.sw (y.size-j) (by lia) λm hm k h1 h2=>absurd h1 (by lia);rw[show j+(y.size-j)=y.size by lia] at a2;exact a2.sw.fin
theorem Good.sw {x y v:Array Keyed} (h:Good lt y x v):Good lt x y v:=⟨h.1.trans gH,h.2⟩
def Fr (st st':SortSt):Prop:=kindOf st'=kindOf st/\arrOf st'=arrOf st/\pendingOf st'=pendingOf st/\failedOf st'=failedOf st
theorem oo {g:Nat} {st st':SortSt} {Q:Unit->SortSt->Prop} (f:Fr st st') (h:∀st'',Fr st st''->Q () st''):wpS M A E s (smg g) Q st':=by rw[Ex];exact iD (h _ f)
structure J (lt:Keyed->Keyed->Bool) (x y:Array Keyed) (st:SortSt) (lo:Nat) (r:Option (Array Keyed)) (v:Array Keyed) (i j:Nat) (st':SortSt):Prop where
 f:Fr st st'
 yes:∀a,r=some a->Good lt x y a
 no:r=none->MI lt x y v i j/\i+1<x.size/\j<y.size/\lo<=i+j
theorem J.on {x y:Array Keyed} {st st':SortSt} {lo i j:Nat} {v:Array Keyed} (f:Fr st st') (h:MI lt x y v i j) (hi:i+1<x.size) (hj:j<y.size) (hl:lo<=i+j):J lt x y st lo none v i j st':=⟨f,λ_ z=>(nomatch z),λ_=>⟨h,hi,hj,hl⟩⟩
theorem J.end_ {x y:Array Keyed} {st st':SortSt} {lo i j:Nat} {v a:Array Keyed} (f:Fr st st') (h:Good lt x y a):J lt x y st lo (some a) v i j st':=⟨f,λ_ z=>dh z ▸ h,λz=>(nomatch z)⟩
theorem D2 (C:Cmp M A E s κ N lt) {x y:Array Keyed} {st:SortSt} {Q:Array Keyed->SortSt->Prop} (hk:kindOf st=κ) (Nx:∀i,i<x.size->N (G x i)) (Ny:∀i,i<y.size->N (G y i)) (hx:Asc lt x) (hy:Asc lt y) (h0:0<x.size) (h1:0<y.size)
  (hb:lt (G y 0) (G x 0)=true) (hl:∀j,j<y.size->lt (G y j) (G x (x.size-1))=true) (q:∀r st',Fr st st'->Good lt x y r->Q r st'):wpS M A E s (mlo x y) Q st:=by
 have m0:MI lt x y #[G y 0] 0 1:=by have z:MI lt y x #[] 0 0:=⟨aU _,aU _,by simp,List.Pairwise.nil,by simp,by simp⟩;exact (z.push hy h1 λk _ hk'=>C.tr _ _ _ (C.asym _ _ hb) (hx 0 k (aU _) hk')).sw
 have fa:∀{v:Array Keyed} {i j:Nat},MI lt x y v i j->j=y.size\/i=x.size->Good lt x y (v++x.extract i x.size++y.extract j y.size):=λ{v i j} m e=>m.fa hx hy λa h2 h3 b h4 h5=>absurd e (by lia);have fb:∀{v:Array Keyed} {i j:Nat},MI lt x y v i j->i+1=x.size->Good lt x y (v++y.extract j y.size++x.extract i x.size):=λ{v i j} m e=>(m.sw.fa hy hx λa h2 h3 b h4 h5=>by
  rw[show b=x.size-1 by lia];exact C.asym _ _ (hl a h3)).sw
 have eqt:∀{a b:Nat},(a==b)=true->a=b:=λh=>by simpa using h
 have eqf:∀{a b:Nat},¬(a==b)=true->a≠b:=λh=>by simpa using h
 rw[E8];dsimp only;refine au (jA (au (cP h1 ?_)));by_cases e1:(1==y.size)=true
 .exact a_ e1 (aB (q _ _ ⟨rfl,rfl,rfl,rfl⟩ (fa m0 (.inl (eqt e1)))))
 refine aY e1 ?_;by_cases e2:(0+1==x.size)=true
 .exact a_ e2 (aB (q _ _ ⟨rfl,rfl,rfl,rfl⟩ (fb m0 (eqt e2))))
 refine aY e2 ?_;have e1:=eqf e1;have e2:=eqf e2;have j0:=J.on (lo:=0) (show Fr st st from ⟨rfl,rfl,rfl,rfl⟩) m0 (by lia) (by lia) (aU _);refine au (gK (au (eD (el (β:=Option (Array Keyed)×Array Keyed×Nat×Nat×Nat) (I:=λt z st'=>z.1=none/\J lt x y st t none z.2.1 z.2.2.1 z.2.2.2.1 st') (Q:=λz st'=>J lt x y st (x.size+y.size) z.1 z.2.1 z.2.2.1 z.2.2.2.1 st') ?step ?fin ⟨rfl,j0⟩) ?post)))
 case fin=>
  rintro⟨r,v,i,j,g⟩ st' ⟨e,h⟩;have e:r=none:=e;subst e;exact⟨h.f,h.yes,λz=>by
   obtain⟨a1,a2,a3,a4⟩:=h.no z;exact⟨a1,a2,a3,by rw[si (aU _)] at a4;exact a4⟩⟩
 case post=>
  rintro⟨r,v,i,j,g⟩ st' h;cases r with
  |some r=>exact aB (q _ _ h.f (h.yes _ rfl))
  |none=>
   obtain⟨_,a2,a3,a4⟩:=h.no rfl;have a2:i+1<x.size:=a2;have a3:j<y.size:=a3;have a4:x.size+y.size<=i+j:=a4;lia
 case step=>
  rintro t ⟨r,v,i,j,g⟩ st1 _ ht ⟨e,h⟩;have e:r=none:=e;subst e;dsimp only at h |-;refine au (eD (el (β:=Option (Array Keyed)×Array Keyed×Nat×Nat×Nat×Nat) (I:=λk z st'=>z.1=none/\J lt x y st (t+k) none z.2.1 z.2.2.1 z.2.2.2.1 st') (Q:=λz st'=>J lt x y st (t+1) z.1 z.2.1 z.2.2.1 z.2.2.2.1 st') ?s1 ?f1 ⟨rfl,h⟩) ?p1)
  case f1=>
   rintro⟨r,v,i,j,c,d⟩ st' ⟨e,h⟩;have e:r=none:=e;subst e;exact⟨h.f,h.yes,λz=>by
    obtain⟨a1,a2,a3,a4⟩:=h.no z;exact⟨a1,a2,a3,by rw[si (aU _)] at a4;lia⟩⟩
  case s1=>
   rintro k ⟨r,v,i,j,c,d⟩ st' _ hk' ⟨e,h⟩;obtain⟨m,a2,a3,a4⟩:=h.no rfl;have f:=h.f;clear h e;dsimp only at m a2 a3 a4 |-;refine au (cP a3 (au (cP (by lia) (au (C.ask (Ny _ a3) (Nx _ (by lia)) (f.1.trans hk) ?_)))));dsimp only;cases hc:lt (G y j) (G x i) with
   |true=>
    refine a_ rfl ?_;have m':=(m.sw.push hy a3 λk h2 h3=>C.tr _ _ _ (C.asym _ _ hc) (hx i k h2 h3)).sw;refine au (cP a3 ?_)
    split
    .rename_i e;exact aB (J.end_ f (fa m' (.inl (eqt e))))
    .rename_i e;have e:=eqf e;have j1:=J.on (lo:=t+1) f m' a2 (by lia) (by lia);have j2:=J.on (lo:=t+(k+1)) f m' a2 (by lia) (by lia)
     split
     .exact aB j1
     .exact aB ⟨rfl,j2⟩
   |false=>
    refine aY (by decide) ?_;have m':=m.push hx (by lia) λk h2 h3=>C.tr _ _ _ hc (hy j k h2 h3);refine au (cP (by lia) ?_)
    split
    .rename_i e;exact aB (J.end_ f (fb m' (eqt e)))
    .rename_i e;have e:=eqf e;have j1:=J.on (lo:=t+1) f m' (by lia) a3 (by lia);have j2:=J.on (lo:=t+(k+1)) f m' (by lia) a3 (by lia)
     split
     .exact aB j1
     .exact aB ⟨rfl,j2⟩
  case p1=>
   rintro⟨r,v,i,j,c,d⟩ st' h;cases r with
   |some r=>exact aB ⟨h.f,h.yes,λz=>nomatch z⟩
   |none=>
   dsimp only at h |-;refine au (jA (au (eD (el (β:=Option (Array Keyed)×Array Keyed×Nat×Nat×Nat×Nat×Nat) (I:=λk z st'=>z.1=none/\J lt x y st (t+1) none z.2.1 z.2.2.1 z.2.2.2.1 st') (Q:=λz st'=>J lt x y st (t+1) z.1 z.2.1 z.2.2.1 z.2.2.2.1 st') ?s2 ?f2 ⟨rfl,h⟩) ?p2)))
   case f2=>
    rintro⟨r,v,i,j,g,c,d⟩ st' ⟨e,h⟩;have e:r=none:=e;subst e;exact h
   case p2=>
    rintro⟨r,v,i,j,g,c,d⟩ st' h;cases r with
    |some r=>exact aB ⟨h.f,h.yes,λz=>nomatch z⟩
    |none=>exact au (oo h.f λst'' f'=>aB ⟨rfl,f',λ_ z=>(nomatch z),h.no⟩)
   case s2=>
    rintro k ⟨r,v,i,j,g,c,d⟩ st2 _ hk' ⟨e,h⟩;obtain⟨m,a2,a3,a4⟩:=h.no rfl;have f:=h.f;clear h e;dsimp only at m a2 a3 a4 |-;have tl:∀{o:Nat},bv lt false (G y j) x i o=true->lt (G y j) (G x (i+o))=false:=λh=>by simpa [bv] using h
    have fl:∀{o:Nat},bv lt false (G y j) x i o=false->lt (G y j) (G x (i+o))=true:=λh=>by simpa [bv] using h
    by_cases hg:g>1;refine a_ hg ?_
    rotate_left
    refine aY hg ?_
    all_goals
     refine au (oo f λst3 f3=>au (cP a3 (au (jE (bv lt false (G y j) x i) (λo ho Q' q'=>jF C Nx (Ny _ a3) (by lia) (f3.1.trans hk) q') (λo p ho hp hb'=>?_) (by lia) λk hk1 hk2 hk3=>?_))))
     .cases hc:lt (G y j) (G x (i+o)) with
      |false=>show (!lt _ _)=true;rw[hc];rfl
      |true=>have:=C.ltle hc (hx (i+o) (i+p) (by lia) (by lia));rw[tl hb'] at this;cases this
     dsimp only;have m1:=m.chunk hx k (by lia) λo ho k' h2 h3=>C.tr _ _ _ (tl (hk2 o ho)) (hy j k' h2 h3);have nx1:i+k<x.size->lt (G y j) (G x (i+k))=true:=λz=>fl (hk3 k (ar _) (by lia));have i0:t+1<=i+k+j:=by lia
     by_cases hk0:k>0;refine a_ hk0 ?_;by_cases c1:(i+k+1==x.size)=true
     .exact a_ c1 (aB (J.end_ f3 (fb m1 (eqt c1))))
     refine aY c1 ?_;by_cases c2:(i+k==x.size)=true
     .exact a_ c2 (aB (J.end_ f3 (fa m1 (.inr (eqt c2)))))
     refine aY c2 ?_;have c1:=eqf c1;have c2:=eqf c2;have b2:i+k+1<x.size:=by lia
     have n1:=nx1 (by lia);generalize i+k=i1 at m1 b2 n1 i0 |-;generalize v++x.extract i i1=v1 at m1 |-
     rotate_left
     refine aY hk0 ?_;have b2:=a2;have n1:=nx1 (by lia);have m1:=m;have i0:=a4;rw[show i+k=i by lia] at n1;clear nx1;generalize i=i1 at m1 b2 n1 i0 |-;generalize v=v1 at m1 |-
     all_goals
      have m2:=(m1.sw.push hy a3 λk h2 h3=>C.tr _ _ _ (C.asym _ _ n1) (hx i1 k h2 h3)).sw;refine au (cP a3 ?_);by_cases c3:(j+1==y.size)=true
      .exact a_ c3 (aB (J.end_ f3 (fa m2 (.inl (eqt c3)))))
      refine aY c3 ?_;have c3:=eqf c3;refine au (cP (by lia) (au (jE (bv lt true (G x i1) y (j+1)) (λo ho Q' q'=>jF C Ny (Nx _ (by lia)) (by lia) (f3.1.trans hk) q') (λo p ho hp hb'=>C.lelt (hy _ _ (by lia) (by lia)) hb') (by lia) λk' hk1' hk2' hk3'=>?_)));dsimp only;have m3:=(m2.sw.chunk hy k' (by lia) λo ho k'' h2 h3=>C.tr _ _ _ (C.asym _ _ (hk2' o ho)) (hx i1 k'' h2 h3)).sw;have ny1:j+1+k'<y.size->lt (G y (j+1+k')) (G x i1)=false:=λz=>hk3' k' (ar _) (by lia);have j0:j<=j+1+k':=by lia
      by_cases hk0':k'>0;refine a_ hk0' ?_;by_cases c4:(j+1+k'==y.size)=true
      .exact a_ c4 (aB (J.end_ f3 (fa m3 (.inl (eqt c4)))))
      refine aY c4 ?_;have c4:=eqf c4;have b3:j+1+k'<y.size:=by lia
      have n2:=ny1 b3;generalize j+1+k'=j1 at m3 b3 n2 j0 |-;generalize v1.push (G y j)++y.extract (j+1) j1=v3 at m3 |-
      rotate_left
      refine aY hk0' ?_;have b3:j+1<y.size:=by lia
      have n2:=ny1 (by lia);have m3:=m2;have j0:j<=j+1:=jd _;rw[show j+1+k'=j+1 by lia] at n2;clear ny1 hk1' hk2' hk3' c3;generalize j+1=j1 at m3 b3 n2 j0 |-;generalize v1.push (G y j)=v3 at m3 |-
      all_goals
       have m4:=m3.push hx (by lia) λk h2 h3=>C.tr _ _ _ n2 (hy j1 k h2 h3);refine au (cP (by lia) ?_);by_cases c5:(i1+1+1==x.size)=true
       .exact a_ c5 (aB (J.end_ f3 (fb m4 (eqt c5))))
       refine aY c5 ?_;have c5:=eqf c5;have j2:=J.on (lo:=t+1) f3 m4 (by lia) b3 (by lia)
       split
       .exact aB j2
       .exact aB ⟨rfl,j2⟩
end
section
variable {M:Model} {κ:SortKind} {N:Keyed->Prop} {lt:Keyed->Keyed->Bool}
structure HI (lt:Keyed->Keyed->Bool) (x y v:Array Keyed) (i j:Nat):Prop where
 ix:i<=x.size
 jy:j<=y.size
 pm:v.toList.Perm (x.toList.drop i++y.toList.drop j)
 so:v.toList.Pairwise λa b=>lt a b=false
 bx:∀a∈v.toList,∀k,k<i->lt a (G x k)=false
 by_:∀a∈v.toList,∀k,k<j->lt a (G y k)=false
theorem HI.sw {x y v:Array Keyed} {i j:Nat} (h:HI lt x y v i j):HI lt y x v j i:=⟨h.jy,h.ix,h.pm.trans gH,h.so,h.by_,h.bx⟩
theorem FA {x:Array Keyed} {i:Nat} (h:i<x.size):x.toList.drop i=G x i::x.toList.drop (i+1):=by rw[pf (by simpa using h)];simp[G,h]
theorem HI.push {x y v:Array Keyed} {i j:Nat} (hx:Asc lt x) (h:HI lt x y v (i+1) j) (hy:∀k,k<j->lt (G x i) (G y k)=false):HI lt x y (v.push (G x i)) i j:=by
 have hi:=h.ix;refine⟨by lia,h.jy,?_,?_,λa ha k h1=>?_,λa ha k h1=>?_⟩
 .rw[gC,FA (show i<x.size by lia)];exact (gH.trans (List.Perm.cons _ h.pm))
 .rw[gC,xW];refine⟨h.so,rY _ _,λa ha b hb=>?_⟩;rw[aV.mp hb];exact h.bx a ha i (fW _)
 .rw[gC] at ha;rcases bh.mp ha with ha|ha
  .exact h.bx a ha k (by lia)
  .rw[aV.mp ha];exact hx k i (by lia) (by lia)
 .rw[gC] at ha;rcases bh.mp ha with ha|ha
  .exact h.by_ a ha k h1
  .rw[aV.mp ha];exact hy k h1
theorem Gp {x v:Array Keyed} {p k:Nat} (h:p+k<x.size):v++(x.extract p (p+(k+1))).reverse=v.push (G x (p+k))++(x.extract p (p+k)).reverse:=by have e:=xw (v:=#[]) h;simp only[Array.empty_append] at e;rw[e];apply mH.mp;simp
theorem HI.chunk {x y:Array Keyed} {p j:Nat} (hx:Asc lt x):∀(k:Nat) {v:Array Keyed},HI lt x y v (p+k) j->(∀m,m<k->∀k',k'<j->lt (G x (p+m)) (G y k')=false)->HI lt x y (v++(x.extract p (p+k)).reverse) p j
 |0,v,h,_=>by
  have e:v++(x.extract p (p+0)).reverse=v:=by apply mH.mp;simp
  rw[e];exact h
 |k+1,v,h,hm=>by
  have hi:=h.ix;rw[Gp (by lia)];exact HI.chunk hx k (h.push hx (hm k (fW _))) λm hm'=>hm m (by lia)
theorem HI.fa {x y v:Array Keyed} {i j:Nat} (hx:Asc lt x) (hy:Asc lt y) (h:HI lt x y v i j) (hr:∀m,m<j->∀k,k<i->lt (G y m) (G x k)=false):Good lt x y (x.extract 0 i++y.extract 0 j++v.reverse):=by
 have a1:=HI.chunk (p:=0) hy j (by rw[j5];exact h.sw) λm hm k hk=>by rw[j5];exact hr m hm k hk
 have a2:=HI.chunk (p:=0) hx i (by rw[j5];exact a1.sw) λm hm k hk=>absurd hk (Iq _);rw[j5,j5] at a2;have e:(x.extract 0 i++y.extract 0 j++v.reverse)=(v++(y.extract 0 j).reverse++(x.extract 0 i).reverse).reverse:=by apply mH.mp;simp
 rw[e];refine⟨?_,?_⟩
 .rw[Hy];have:=a2.pm;simp only[xJ] at this;exact (List.reverse_perm _).trans this
 .unfold Srt;rw[Hy,List.pairwise_reverse];exact a2.so
structure JH (lt:Keyed->Keyed->Bool) (x y:Array Keyed) (st:SortSt) (lo:Nat) (r:Option (Array Keyed)) (v:Array Keyed) (i j:Nat) (st':SortSt):Prop where
 f:Fr st st'
 yes:∀a,r=some a->Good lt x y a
 no:r=none->HI lt x y v i j/\0<i/\1<j/\lo+(i+j)<=x.size+y.size
theorem JH.on {x y:Array Keyed} {st st':SortSt} {lo i j:Nat} {v:Array Keyed} (f:Fr st st') (h:HI lt x y v i j) (hi:0<i) (hj:1<j) (hl:lo+(i+j)<=x.size+y.size):JH lt x y st lo none v i j st':=⟨f,λ_ z=>(nomatch z),λ_=>⟨h,hi,hj,hl⟩⟩
theorem JH.end_ {x y:Array Keyed} {st st':SortSt} {lo i j:Nat} {v a:Array Keyed} (f:Fr st st') (h:Good lt x y a):JH lt x y st lo (some a) v i j st':=⟨f,λ_ z=>dh z ▸ h,λz=>(nomatch z)⟩
theorem D3 (C:Cmp M A E s κ N lt) {x y:Array Keyed} {st:SortSt} {Q:Array Keyed->SortSt->Prop} (hk:kindOf st=κ) (Nx:∀i,i<x.size->N (G x i)) (Ny:∀i,i<y.size->N (G y i)) (hx:Asc lt x) (hy:Asc lt y) (h0:0<x.size) (h1:0<y.size)
  (hb:lt (G y 0) (G x 0)=true) (hl:∀j,j<y.size->lt (G y j) (G x (x.size-1))=true) (q:∀r st',Fr st st'->Good lt x y r->Q r st'):wpS M A E s (mhi x y) Q st:=by
 have m0:HI lt x y #[G x (x.size-1)] (x.size-1) y.size:=by have z:HI lt x y #[] (x.size-1+1) y.size:=⟨by lia,ar _,by rw[show x.size-1+1=x.size by lia];simp,List.Pairwise.nil,by simp,by simp⟩;exact z.push hx λk hk'=>C.asym _ _ (hl k hk')
 have fa:∀{v:Array Keyed} {i j:Nat},HI lt x y v i j->i=0\/j=0->Good lt x y (x.extract 0 i++y.extract 0 j++v.reverse):=λ{v i j} m e=>m.fa hx hy λa h2 b h4=>absurd e (by lia);have fb:∀{v:Array Keyed} {i j:Nat},HI lt x y v i j->j=1->Good lt x y (y.extract 0 j++x.extract 0 i++v.reverse):=λ{v i j} m e=>(m.sw.fa hy hx λa h2 b h4=>by
  have:=m.ix;rw[show b=0 by lia];exact C.asym _ _ (C.ltle hb (hx 0 a (aU _) (by lia)))).sw
 have eqt:∀{a b:Nat},(a==b)=true->a=b:=λh=>by simpa using h
 have eqf:∀{a b:Nat},¬(a==b)=true->a≠b:=λh=>by simpa using h
 rw[E9];dsimp only;refine au (jA (au (cP (by lia) ?_)));by_cases e1:(x.size-1==0)=true
 .exact a_ e1 (aB (q _ _ ⟨rfl,rfl,rfl,rfl⟩ (fa m0 (.inl (eqt e1)))))
 refine aY e1 ?_;by_cases e2:(y.size==1)=true
 .exact a_ e2 (aB (q _ _ ⟨rfl,rfl,rfl,rfl⟩ (fb m0 (eqt e2))))
 refine aY e2 ?_;have e1:=eqf e1;have e2:=eqf e2;have j0:=JH.on (lo:=0) (show Fr st st from ⟨rfl,rfl,rfl,rfl⟩) m0 (by lia) (by lia) (by lia);refine au (gK (au (eD (el (β:=Option (Array Keyed)×Nat×Nat×Array Keyed×Nat) (I:=λt z st'=>z.1=none/\JH lt x y st t none z.2.2.2.1 z.2.1 z.2.2.1 st') (Q:=λz st'=>JH lt x y st (x.size+y.size) z.1 z.2.2.2.1 z.2.1 z.2.2.1 st') ?step ?fin ⟨rfl,j0⟩) ?post)))
 case fin=>
  rintro⟨r,i,j,v,g⟩ st' ⟨e,h⟩;have e:r=none:=e;subst e;exact⟨h.f,h.yes,λz=>by
   obtain⟨a1,a2,a3,a4⟩:=h.no z;exact⟨a1,a2,a3,by rw[si (aU _)] at a4;exact a4⟩⟩
 case post=>
  rintro⟨r,i,j,v,g⟩ st' h;cases r with
  |some r=>exact aB (q _ _ h.f (h.yes _ rfl))
  |none=>
   obtain⟨_,a2,a3,a4⟩:=h.no rfl;have a2:0<i:=a2;have a4:x.size+y.size+(i+j)<=x.size+y.size:=a4;lia
 case step=>
  rintro t ⟨r,i,j,v,g⟩ st1 _ ht ⟨e,h⟩;have e:r=none:=e;subst e;dsimp only at h |-;refine au (eD (el (β:=Option (Array Keyed)×Nat×Nat×Array Keyed×Nat×Nat) (I:=λk z st'=>z.1=none/\JH lt x y st (t+k) none z.2.2.2.1 z.2.1 z.2.2.1 st') (Q:=λz st'=>JH lt x y st (t+1) z.1 z.2.2.2.1 z.2.1 z.2.2.1 st') ?s1 ?f1 ⟨rfl,h⟩) ?p1)
  case f1=>
   rintro⟨r,i,j,v,c,d⟩ st' ⟨e,h⟩;have e:r=none:=e;subst e;exact⟨h.f,h.yes,λz=>by
    obtain⟨a1,a2,a3,a4⟩:=h.no z;exact⟨a1,a2,a3,by rw[si (aU _)] at a4;lia⟩⟩
  case s1=>
   rintro k ⟨r,i,j,v,c,d⟩ st' _ hk' ⟨e,h⟩;obtain⟨m,a2,a3,a4⟩:=h.no rfl;have f:=h.f;clear h e;dsimp only at m a2 a3 a4 |-;have mi:=m.ix;have mj:=m.jy;obtain⟨i,rfl⟩:∃i',i=i' + 1:=⟨i-1,by lia⟩;obtain⟨j,rfl⟩:∃j',j=j' + 1:=⟨j-1,by lia⟩;simp only[rZ];refine au (cP (by lia) (au (cP (by lia) (au (C.ask (Ny _ (by lia)) (Nx _ (by lia)) (f.1.trans hk) ?_)))));dsimp only;cases hc:lt (G y j) (G x i) with
   |true=>
    refine a_ rfl ?_;have m':=m.push hx λk h2=>C.tr _ _ _ (hy k j (by lia) (by lia)) (C.asym _ _ hc);refine au (cP (by lia) ?_);by_cases c1:(i==0)=true
    .exact a_ c1 (aB (JH.end_ f (fa m' (.inl (eqt c1)))))
    refine aY c1 ?_;have c1:=eqf c1;have j1:=JH.on (lo:=t+1) f m' (by lia) (by lia) (by lia);have j2:=JH.on (lo:=t+(k+1)) f m' (by lia) (by lia) (by lia)
    split
    .exact aB j1
    .exact aB ⟨rfl,j2⟩
   |false=>
    refine aY (by decide) ?_;have m':=(m.sw.push hy λk h2=>C.tr _ _ _ (hx k i (by lia) (by lia)) hc).sw;refine au (cP (by lia) ?_);by_cases c1:(j==1)=true
    .exact a_ c1 (aB (JH.end_ f (fb m' (eqt c1))))
    refine aY c1 ?_;have c1:=eqf c1;have j1:=JH.on (lo:=t+1) f m' (by lia) (by lia) (by lia);have j2:=JH.on (lo:=t+(k+1)) f m' (by lia) (by lia) (by lia)
    split
    .exact aB j1
    .exact aB ⟨rfl,j2⟩
  case p1=>
   rintro⟨r,i,j,v,c,d⟩ st' h;cases r with
   |some r=>exact aB ⟨h.f,h.yes,λz=>nomatch z⟩
   |none=>
   dsimp only at h |-;refine au (jA (au (eD (el (β:=Option (Array Keyed)×Nat×Nat×Array Keyed×Nat×Nat×Nat) (I:=λk z st'=>z.1=none/\JH lt x y st (t+1) none z.2.2.2.1 z.2.1 z.2.2.1 st') (Q:=λz st'=>JH lt x y st (t+1) z.1 z.2.2.2.1 z.2.1 z.2.2.1 st') ?s2 ?f2 ⟨rfl,h⟩) ?p2)))
   case f2=>
    rintro⟨r,i,j,v,g,c,d⟩ st' ⟨e,h⟩;have e:r=none:=e;subst e;exact h
   case p2=>
    rintro⟨r,i,j,v,g,c,d⟩ st' h;cases r with
    |some r=>exact aB ⟨h.f,h.yes,λz=>nomatch z⟩
    |none=>exact au (oo h.f λst'' f'=>aB ⟨rfl,f',λ_ z=>(nomatch z),h.no⟩)
   case s2=>
    rintro k ⟨r,i,j,v,g,c,d⟩ st2 _ hk' ⟨e,h⟩;obtain⟨m,a2,a3,a4⟩:=h.no rfl;have f:=h.f;clear h e;dsimp only at m a2 a3 a4 |-;have mi:=m.ix;have mj:=m.jy;obtain⟨j,rfl⟩:∃j',j=j' + 1:=⟨j-1,by lia⟩;simp only[rZ];have tl:∀{o:Nat},bv lt false (G y j) x 0 o=true->lt (G y j) (G x o)=false:=λh=>by simpa [bv] using h
    have fl:∀{o:Nat},bv lt false (G y j) x 0 o=false->lt (G y j) (G x o)=true:=λh=>by simpa [bv] using h
    by_cases hg:g>1;refine a_ hg ?_
    rotate_left
    refine aY hg ?_
    all_goals
     refine au (oo f λst3 f3=>au (cP (by lia) (au (jE (bv lt false (G y j) x 0) (λo ho Q' q'=>jF C Nx (Ny _ (by lia)) (by lia) (f3.1.trans hk) q') (λo p ho hp hb'=>?_) (by lia) λp hp1 hp2 hp3=>?_))))
     .cases hc:lt (G y j) (G x o) with
      |false=>show (!lt _ (G x (0+o)))=true;rw[j5,hc];rfl
      |true=>have:=C.ltle hc (hx o p (by lia) (by lia));rw[tl hb'] at this;cases this
     dsimp only;have m1:=HI.chunk (p:=p) (v:=v) (j:=j+1) hx (i-p) (by rw[show p+(i-p)=i by lia];exact m) λo ho k' h2=>C.tr _ _ _ (hy k' j (by lia) (by lia)) (C.asym _ _ (fl (hp3 (p+o) (by lia) (by lia))));rw[show p+(i-p)=i by lia] at m1;have n1:∀o,o<p->lt (G y j) (G x o)=false:=λo ho=>tl (hp2 o ho);have i0:t+1+(p+(j+1))<=x.size+y.size:=by lia
     have mi1:p<=x.size:=by lia
     by_cases hk0:i-p>0;refine a_ hk0 ?_;by_cases c1:(p==0)=true
     .exact a_ c1 (aB (JH.end_ f3 (fa m1 (.inl (eqt c1)))))
     refine aY c1 ?_;have b2:0<p:=by have:=eqf c1;lia
     generalize v++(x.extract p i).reverse=v1 at m1 |-;generalize hkk:i-p=kk;clear hp1 hp2 hp3 hk0 hkk
     rotate_left
     refine aY hk0 ?_;have hpi:i=p:=by lia
     have b2:0<p:=by lia
     have m1:=m;rw[hpi] at m1 |-;generalize v=v1 at m1 |-;generalize hkk:p-p=kk;clear hp1 hp2 hp3 hk0 hkk hpi
     all_goals
      obtain⟨p,rfl⟩:∃p',p=p' + 1:=⟨p-1,by lia⟩;have m2:=(m1.sw.push hy n1).sw;refine au (cP (by lia) ?_);by_cases c3:(j==1)=true
      .exact a_ c3 (aB (JH.end_ f3 (fb m2 (eqt c3))))
      refine aY c3 ?_;have c3:=eqf c3;simp only[rZ];refine au (cP (by lia) (au (jE (bv lt true (G x p) y 0) (λo ho Q' q'=>jF C Ny (Nx _ (by lia)) (by lia) (f3.1.trans hk) q') (λo p ho hp hb'=>C.lelt (hy _ _ (by lia) (by lia)) hb') (by lia) λp' hp1' hp2' hp3'=>?_)));have tl':∀{o:Nat},bv lt true (G x p) y 0 o=lt (G y o) (G x p):=λ{o}=>by simp[bv]
      dsimp only;have m3:=(HI.chunk (p:=p') (v:=v1.push (G y j)) hy (j-p') (by rw[show p' + (j-p')=j by lia];exact m2.sw) λo ho k' h2=>C.tr _ _ _ (hx k' p (by lia) (by lia)) (tl' ▸ hp3' (p' + o) (by lia) (by lia))).sw;rw[show p' + (j-p')=j by lia] at m3;have n2:∀o,o<p'->lt (G x p) (G y o)=false:=λo ho=>C.asym _ _ (tl' ▸ hp2' o ho);have j0:t+1+(p+1+p')<=x.size+y.size:=by lia
      by_cases hk0':j-p'>0;refine a_ hk0' ?_;by_cases c4:(p'==1)=true
      .exact a_ c4 (aB (JH.end_ f3 (fb m3 (eqt c4))))
      refine aY c4 ?_;by_cases c5:(p'==0)=true
      .exact a_ c5 (aB (JH.end_ f3 (fa m3 (.inr (eqt c5)))))
      refine aY c5 ?_;have b3:1<p':=by have:=eqf c4;have:=eqf c5;lia
      generalize v1.push (G y j)++(y.extract p' j).reverse=v3 at m3 |-;generalize hkk':j-p'=kk';clear hkk' hk0'
      rotate_left
      refine aY hk0' ?_;have b3:1<p':=by lia
      have m3:=m2;rw[show j=p' by lia] at m3 |-;generalize v1.push (G y p')=v3 at m3 |-;generalize p'-p'=kk'
      all_goals
       have m4:=m3.push hx n2;refine au (cP (by lia) ?_);by_cases c6:(p==0)=true
       .exact a_ c6 (aB (JH.end_ f3 (fa m4 (.inl (eqt c6)))))
       refine aY c6 ?_;have c6:=eqf c6;have j2:=JH.on (lo:=t+1) f3 m4 (by lia) b3 (by lia)
       split
       .exact aB j2
       .exact aB ⟨rfl,j2⟩
end
def Seg (lt:Keyed->Keyed->Bool) (a:Array Keyed) (lo hi:Nat):Prop:=∀i j,lo<=i->i<=j->j<hi->lt (G a j) (G a i)=false
def Dn (lt:Keyed->Keyed->Bool) (a:Array Keyed) (lo hi:Nat):Prop:=∀i j,lo<=i->i<=j->j<hi->lt (G a i) (G a j)=false
def Tl (lt:Keyed->Keyed->Bool) (a:Array Keyed) (hi q:Nat):Prop:=∀i j,hi<=i+(q+1)->i<hi->hi<=j+(q+1)->j<hi->lt (G a i) (G a j)=false
structure Cg (lo hi:Nat) (a a':Array Keyed):Prop where
 pm:a'.Perm a
 at_:∀k,k<lo\/hi<=k->G a' k=G a k
theorem Cg.size {lo hi:Nat} {a a':Array Keyed} (h:Cg lo hi a a'):a'.size=a.size:=h.pm.size_eq
theorem Cg.refl (lo hi:Nat) (a:Array Keyed):Cg lo hi a a:=⟨Hq _,λ_ _=>rfl⟩
theorem Cg.trans {lo hi:Nat} {a b c:Array Keyed} (h:Cg lo hi a b) (h2:Cg lo hi b c):Cg lo hi a c:=⟨h2.pm.trans h.pm,λk hk=>(h2.at_ k hk).trans (h.at_ k hk)⟩
theorem Cg.mono {lo hi lo' hi':Nat} {a b:Array Keyed} (h:Cg lo hi a b) (h1:lo'<=lo) (h2:hi<=hi'):Cg lo' hi' a b:=⟨h.pm,λk hk=>h.at_ k (by lia)⟩
theorem i6 {p q:Array Keyed} {i j:Nat} (h:p[i]?=q[j]?):G p i=G q j:=by
 have e:∀(a:Array Keyed) (k:Nat),G a k=(a[k]?).getD (Value.none,Value.none):=λa k=>by simp[G]
 rw[e,e,h]
theorem fk {p:Array Keyed} {i j:Nat} (hj:j<=p.size) (k:Nat):G (mirror p i j ((j-i)/2)) k=if i<=k/\k<j then G p (i+j-1-k) else G p k:=by
 have h:=getElem?_mirror_all (xs:=p) (i:=i) hj k
 split
 .rename_i c;rw[KI c] at h;exact i6 h
 .rename_i c;rw[KH c] at h;exact i6 h
theorem oE {p:Array Keyed} {i j:Nat} (hj:j<=p.size):Cg i j p (mirror p i j ((j-i)/2)):=⟨mirror_perm _ _ _ _,λk hk=>by rw[fk hj,KH (by lia)]⟩
abbrev sa (st:SortSt) (a:Array Keyed):SortSt:=setArr st a
section
variable {M:Model} {κ:SortKind} {N:Keyed->Prop} {lt:Keyed->Keyed->Bool}
def Nm (N:Keyed->Prop) (a:Array Keyed):Prop:=∀x,x∈a->N x
theorem Nm.at {a:Array Keyed} (h:Nm N a) {i:Nat} (hi:i<a.size):N (G a i):=h _ (Array.mem_of_getElem? (oQ hi))
theorem Nm.perm {a b:Array Keyed} (h:Nm N a) (e:b.Perm a):Nm N b:=λx hx=>h x (e.mem_iff.mp hx)
theorem kU (C:Cmp M A E s κ N lt) {st:SortSt} {a:Array Keyed} {i j:Nat} {Q:Option Bool->SortSt->Prop} (hk:kindOf st=κ) (hN:Nm N a) (hi:i<a.size) (hj:j<a.size) (h:Q (some (lt (G a i) (G a j))) (sa st a)):wpS M A E s (ltAt' i j) Q (sa st a):=by rw[ltAt'_eq];refine au (gK ?_);show wpS _ _ _ _ (do let x <-elem' a i;let y <-elem' a j;lt' x y) Q _;exact au (cP hi (au (cP hj (C.ask (hN.at hi) (hN.at hj) hk h))))
theorem C7 (C:Cmp M A E s κ N lt) {a:Array Keyed} {l:Nat}:Seg lt a l (l+1):=λi j h1 h2 h3=>by
 have:i=j:=by lia
 subst this;exact C.refl _
theorem Bx (C:Cmp M A E s κ N lt) {a:Array Keyed} {l n:Nat} (h:Seg lt a l (l+n)) (h1:1<=n) (hl:lt (G a (l+n)) (G a (l+n-1))=false):Seg lt a l (l+(n+1)):=λi j hi hij hj=>by
 by_cases e:j=l+n
 .subst e;by_cases e2:i=l+n
  .subst e2;exact C.refl _
  .exact C.tr _ (G a (l+n-1)) _ (h i (l+n-1) hi (by lia) (by lia)) hl
 .exact h i j hi hij (by lia)
theorem lr (C:Cmp M A E s κ N lt) {a:Array Keyed} {l n:Nat} (h:Dn lt a l (l+n)) (h1:1<=n) (hl:lt (G a (l+n-1)) (G a (l+n))=false):Dn lt a l (l+(n+1)):=λi j hi hij hj=>by
 by_cases e:j=l+n
 .subst e;by_cases e2:i=l+n
  .subst e2;exact C.refl _
  .exact C.tr _ (G a (l+n-1)) _ hl (h i (l+n-1) hi (by lia) (by lia))
 .exact h i j hi hij (by lia)
theorem Be (C:Cmp M A E s κ N lt) {st:SortSt} {a:Array Keyed} {l m:Nat} {Q:Option Nat->SortSt->Prop} (hk:kindOf st=κ) (hN:Nm N a) (h1:1<=m) (hs:l+m<=a.size)
  (q:∀n a',Cg l (l+m) a a'->1<=n->n<=m->Seg lt a' l (l+n)->Q (some n) (sa st a')):wpS M A E s (countRun' l m) Q (sa st a):=by
 have asc:∀(n:Nat) (a':Array Keyed) (Q':Option (Option Nat)×Nat->SortSt->Prop),Cg l (l+m) a a'->1<=n->n<=m->Seg lt a' l (l+n)->(∀n',n<=n'->n'<=m->Seg lt a' l (l+n')->(n'<m->lt (G a' (l+n')) (G a' (l+n'-1))=true)->Q' (none,n') (sa st a'))->
   wpS M A E s (forIn [n:m] ((none,n):Option (Option Nat)×Nat) λ_ x=>do
    let z <-ltAt' (l+x.2) (l+x.2-1)
    match z with
    |some z=>if z=true then pure (ForInStep.done (none,x.2)) else pure (ForInStep.yield (none,x.2+1))
    |_=>pure (ForInStep.done (some none,x.2))) Q' (sa st a'):=by
  intro n a' Q' cg n1 nm sg q';refine el (β:=Option (Option Nat)×Nat) (I:=λt x st'=>st'=sa st a'/\x.1=none/\x.2=t/\n<=t/\t<=m/\Seg lt a' l (l+t)) (Q:=Q') ?_ ?_ ⟨rfl,rfl,rfl,ar _,nm,sg⟩
  .rintro t ⟨r,n'⟩ st' _ ht ⟨rfl,e1,e2,e3,e4,e5⟩;have e2:n'=t:=e2;subst e2;have hz:=cg.size;refine au (kU C hk (hN.perm cg.pm) (by lia) (by lia) ?_);cases hc:lt (G a' (l+n')) (G a' (l+n'-1)) with
   |true=>exact aB (q' n' e3 (by lia) e5 λ_=>hc)
   |false=>exact aB ⟨rfl,rfl,rfl,by lia,by lia,Bx C e5 (by lia) hc⟩
  .rintro⟨r,n'⟩ st' ⟨rfl,e1,e2,e3,e4,e5⟩;have e1:r=none:=e1;have e2:n'=max n m:=e2;subst e1;have:n'=m:=by lia
   subst this;rw[show max n n'=n' by lia] at e5;exact q' n' nm (ar _) e5 λz=>absurd z (by lia)
 have rv:∀{a':Array Keyed} {n:Nat},Cg l (l+m) a a'->n<=m->Dn lt a' l (l+n)->Seg lt (mirror a' l (l+n) ((l+n-l)/2)) l (l+n):=λ{a' n} cg nm d i j hi hij hj=>by
  have hz:=cg.size;rw[fk (by lia),fk (by lia),KI (by lia),KI (by lia)];exact d _ _ (by lia) (by lia) (by lia)
 have rt:∀{a':Array Keyed} {n q:Nat},Cg l (l+m) a a'->n<=m->q<n->Dn lt a' l (l+n)->Tl lt a' (l+n) q->Dn lt (mirror a' (l+n-(q+1)) (l+n) ((l+n-(l+n-(q+1)))/2)) l (l+n):=λ{a' n q} cg nm hq d tl i j hi hij hj=>by
  have hz:=cg.size;rw[fk (by lia),fk (by lia)]
  split
  .split
   .exact tl _ _ (by lia) (by lia) (by lia) (by lia)
   .lia
  .split
   .exact d _ _ hi (by lia) (by lia)
   .exact d _ _ hi hij hj
 have t0:∀{a':Array Keyed} {h:Nat},Tl lt a' h 0:=λ{a' h} i j h1 h2 h3 h4=>by
  have:i=j:=by lia
  subst this;exact C.refl _
 have dl:∀(n:Nat) (a':Array Keyed),Cg l (l+m) a a'->1<=n->n<=m->Dn lt a' l (l+n)->wpS M A E s (do
   rule "list.sort.descending-run"
   let mut n:=n
   let mut q:=0
   for _ in [n:m] do
    let some z <-ltAt' (l+n) (l+n-1)|return none
    if z then
     if q>0 then reverseSlice' (l+n-(q+1)) (l+n)
     q:=0
    else
     let some z <-ltAt' (l+n-1) (l+n)|return none
     if z then break
     q:=q+1
    n:=n+1
   if q>0 then reverseSlice' (l+n-(q+1)) (l+n)
   reverseSlice' l (l+n)
   for _ in [n:m] do
    let some z <-ltAt' (l+n) (l+n-1)|return none
    if z then break
    n:=n+1
   return some n) Q (sa st a'):=by
  intro n a1 cg n1 nm d;dsimp only;refine au (jA (au (eD (el (β:=Option (Option Nat)×Nat×Nat) (I:=λt x st'=>x.1=none/\x.2.1=t/\n<=t/\t<=m/\x.2.2<t/\∃a',st'=sa st a'/\Cg l (l+m) a a'/\Dn lt a' l (l+t)/\Tl lt a' (l+t) x.2.2)
   (Q:=λx st'=>x.1=none/\n<=x.2.1/\x.2.1<=m/\x.2.2<x.2.1/\∃a',st'=sa st a'/\Cg l (l+m) a a'/\Dn lt a' l (l+x.2.1)/\Tl lt a' (l+x.2.1) x.2.2) ?_ ?_ ⟨rfl,rfl,ar _,nm,n1,a1,rfl,cg,d,t0⟩) ?_)))
  .rintro t ⟨r,n',q'⟩ st' _ ht ⟨e1,e2,e3,e4,e5,a',rfl,cg',d',tl⟩;have e2:n'=t:=e2;subst e2;have e5:q'<n':=e5;have hz:=cg'.size;dsimp only at tl |-;refine au (kU C hk (hN.perm cg'.pm) (by lia) (by lia) ?_);dsimp only;cases hc:lt (G a' (l+n')) (G a' (l+n'-1)) with
   |true=>
    refine a_ rfl ?_;by_cases hq:q'>0
    .rw[KI hq,sM];refine au (iD (aB ⟨rfl,rfl,by lia,by lia,by show 0<n' + 1;lia,_,rfl,cg'.trans ((oE (by lia)).mono (by lia) (by lia)),?_,t0⟩));refine lr C (rt cg' (by lia) e5 d' tl) (by lia) ?_;rw[fk (by show l+n'<=a'.size;lia),fk (by show l+n'<=a'.size;lia),KI (by lia),KH (by lia)];exact C.tr _ (G a' (l+n'-1)) _ (C.asym _ _ hc) (d' _ _ (by lia) (by lia) (by lia))
    .refine aY hq ?_;exact aB ⟨rfl,rfl,by lia,by lia,by show 0<n' + 1;lia,a',rfl,cg',lr C d' (by lia) (C.asym _ _ hc),t0⟩
   |false=>
    refine aY (by decide) ?_;refine au (kU C hk (hN.perm cg'.pm) (by lia) (by lia) ?_);dsimp only;cases hc2:lt (G a' (l+n'-1)) (G a' (l+n')) with
    |true=>
     refine a_ rfl ?_;exact aB ⟨rfl,e3,e4,e5,a',rfl,cg',d',tl⟩
    |false=>
     refine aY (by decide) ?_;refine aB ⟨rfl,rfl,by lia,by lia,by show q' + 1<n' + 1;lia,a',rfl,cg',lr C d' (by lia) hc2,λi j b1 b2 b3 b4=>?_⟩;have b1:l+(n' + 1)<=i+(q' + 1+1):=b1;have b3:l+(n' + 1)<=j+(q' + 1+1):=b3;by_cases ei:i=l+n'
     .by_cases ej:j=l+n'
      .subst ei;subst ej;exact C.refl _
      .subst ei;exact C.tr _ (G a' (l+n'-1)) _ (tl _ _ (by lia) (by lia) (by lia) (by lia)) hc
     .by_cases ej:j=l+n'
      .subst ej;exact C.tr _ (G a' (l+n'-1)) _ hc2 (tl _ _ (by lia) (by lia) (by lia) (by lia))
      .exact tl _ _ (by lia) (by lia) (by lia) (by lia)
  .rintro⟨r,n',q'⟩ st' ⟨e1,e2,e3,e4,e5,a',rfl,cg',d',tl⟩;have e2:n'=max n m:=e2;have:n'=m:=by lia
   subst this;rw[show max n n'=n' by lia] at d' tl e5 e3;exact⟨e1,e3,ar _,e5,a',rfl,cg',d',tl⟩
  .rintro⟨r,n',q'⟩ st' ⟨e1,e3,e4,e5,a',rfl,cg',d',tl⟩;cases e1;dsimp only at e3 e4 e5 d' tl |-;have hz:=cg'.size;by_cases hq:q'>0;rw[KI hq,sM];refine au (iD ?_);have cg2:=cg'.trans ((oE (i:=l+n'-(q' + 1)) (j:=l+n') (p:=a') (by lia)).mono (show l<=_ by lia) (show _<=l+m by lia));have d2:=rt cg' e4 e5 d' tl;show wpS _ _ _ _ _ _ (sa st (mirror a' (l+n'-(q' + 1)) (l+n') ((l+n'-(l+n'-(q' + 1)))/2)));generalize mirror a' (l+n'-(q' + 1)) (l+n') ((l+n'-(l+n'-(q' + 1)))/2)=a2 at cg2 d2 |-
   rotate_left
   refine aY hq ?_;have cg2:=cg';have d2:=d';generalize a'=a2 at cg2 d2 |-
   all_goals
    have hz2:=cg2.size;rw[sM];refine au (iD ?_);have cg3:=cg2.trans ((oE (i:=l) (j:=l+n') (p:=a2) (by lia)).mono (ar _) (show _<=l+m by lia));refine au (asc n' _ _ cg3 (by lia) e4 (rv cg2 e4 d2) λn'' b1 b2 b3 b4=>?_);exact aB (q n'' _ cg3 (by lia) b2 b3)
 rw[countRun'_eq];dsimp only;refine au (asc 1 a _ (Cg.refl _ _ _) (ar _) h1 (C7 C) λn b1 b2 b3 b4=>?_);dsimp only;by_cases c1:(n==m)=true
 .exact a_ c1 (aB (q n a (Cg.refl _ _ _) b1 b2 b3))
 refine aY c1 ?_;have c1:n≠m:=by simpa using c1
 have hl:=b4 (by lia);by_cases c2:n>1
 .refine a_ c2 ?_;refine au (kU C hk hN (by lia) (by lia) ?_);dsimp only;cases hc:lt (G a l) (G a (l+n-1)) with
  |true=>rw[KI rfl];exact aB (q n a (Cg.refl _ _ _) b1 b2 b3)
  |false=>
   rw[KH (by decide),sM];refine au (iD ?_);have cg:=(oE (i:=l) (j:=l+n) (p:=a) (by lia)).mono (ar _) (show l+n<=l+m by lia);show wpS _ _ _ _ _ _ (sa st (mirror a l (l+n) ((l+n-l)/2)));refine dl (n+1) _ cg (by lia) (by lia) (lr C (λi j hi hij hj=>?_) (by lia) ?_)
   .rw[fk (by lia),fk (by lia),KI (by lia),KI (by lia)];exact b3 _ _ (by lia) (by lia) (by lia)
   .rw[fk (by lia),fk (by lia),KI (by lia),KH (by lia),show l+(l+n)-1-(l+n-1)=l by lia];exact C.tr _ (G a (l+n-1)) _ (C.asym _ _ hl) hc
 .refine aY c2 ?_;have:n=1:=by lia
  subst this;refine dl 2 a (Cg.refl _ _ _) (by lia) (by lia) (lr C (λi j hi hij hj=>?_) (ar _) (C.asym _ _ hl));have:i=j:=by lia
  subst this;exact C.refl _
end
section
variable {M:Model} {κ:SortKind} {N:Keyed->Prop} {lt:Keyed->Keyed->Bool}
theorem qU {p:Array Keyed} {k z:Nat} (hk:k<p.size) (hl:z<=k) (i:Nat):G (bubble p k (k-z)) i=if i=z then G p k else if z<i/\i<=k then G p (i-1) else G p i:=by
 have h:=getElem?_bubble (xs:=p) (src:=k) hk (k-z) (by lia) i;have e:k-(k-z)=z:=by lia
 rw[e] at h
 repeat' split at h
 .rename_i c;rw[KI c];exact i6 h
 .rename_i c c2;rw[KH c,KI c2];exact i6 h
 .rename_i c c2;rw[KH c,KH c2];exact i6 h
theorem D5 (C:Cmp M A E s κ N lt) {st:SortSt} {a:Array Keyed} {l n o:Nat} {Q:Bool->SortSt->Prop} (hk:kindOf st=κ) (hN:Nm N a) (h1:1<=o) (h2:o<=n) (hs:l+n<=a.size) (sg:Seg lt a l (l+o))
  (q:∀a',Cg l (l+n) a a'->Seg lt a' l (l+n)->Q true (sa st a')):wpS M A E s (binarySort' l n o) Q (sa st a):=by
 rw[binarySort'_eq];dsimp only;refine au (eD (el (I:=λk x st'=>x.1=none/\1<=k/\k<=n/\∃a',st'=sa st a'/\Cg l (l+n) a a'/\Seg lt a' l (l+k)) (Q:=λx st'=>x.1=none/\∃a',st'=sa st a'/\Cg l (l+n) a a'/\Seg lt a' l (l+n)) ?step ?fin ⟨rfl,by lia,by lia,a,rfl,Cg.refl _ _ _,by rw[show max o 1=o by lia];exact sg⟩) ?post)
 case fin=>
  rintro⟨r,u⟩ st' ⟨e,e1,e2,a',rfl,cg,sg'⟩;rw[show max (max o 1) n=n by lia] at sg';exact⟨e,a',rfl,cg,sg'⟩
 case post=>
  rintro⟨r,u⟩ st' ⟨e,a',rfl,cg,sg'⟩;cases e;exact aB (q a' cg sg')
 case step=>
  rintro k ⟨r,u⟩ st' _ hkn ⟨e,e1,e2,a',rfl,cg,sg'⟩;have hz:=cg.size;refine au (eD (el (β:=Option Bool×Nat×Nat) (I:=λt x st'=>st'=sa st a'/\x.1=none/\x.2.1<=x.2.2/\x.2.2<=k/\x.2.2-x.2.1<=k-t/\(∀i,i<x.2.1->lt (G a' (l+k)) (G a' (l+i))=false)/\(∀i,x.2.2<=i->i<k->lt (G a' (l+i)) (G a' (l+k))=false))
   (Q:=λx st'=>st'=sa st a'/\x.1=none/\x.2.1<=k/\(∀i,i<x.2.1->lt (G a' (l+k)) (G a' (l+i))=false)/\(∀i,x.2.1<=i->i<k->lt (G a' (l+i)) (G a' (l+k))=false)) ?s8 ?f8 ⟨rfl,rfl,aU _,ar _,ar _,λi hi=>absurd hi (Iq _),λi hi hj=>absurd hi (Nat.not_le_of_lt hj)⟩) ?p8)
  case f8=>
   rintro⟨r,u,w⟩ st' ⟨rfl,e,b1,b2,b3,b4,b5⟩;have b1:u<=w:=b1;have b3:w-u<=k-max 0 k:=b3;have:u=w:=by lia
   subst this;exact⟨rfl,e,b2,b4,b5⟩
  case s8=>
   rintro t ⟨r,u,w⟩ st' _ ht ⟨rfl,e,b1,b2,b3,b4,b5⟩;have b1:u<=w:=b1;have b2:w<=k:=b2;have b3:w-u<=k-t:=b3;dsimp only at b4 b5 |-;by_cases c1:u ≥ w
   .refine a_ c1 ?_;have:u=w:=by lia
    subst this;exact aB ⟨rfl,rfl,b2,b4,b5⟩
   refine aY c1 ?_;obtain⟨m1,m2⟩:=half c1;generalize (u+w)/2=m at m1 m2 |-;refine au (kU C hk (hN.perm cg.pm) (by lia) (by lia) ?_);dsimp only;cases hc:lt (G a' (l+k)) (G a' (l+m)) with
   |true=>
    refine a_ rfl ?_;refine aB ⟨rfl,rfl,m1,jc (b_ m2 b2),fewer b3 m2 m1,b4,λi hi hik=>?_⟩;exact C.asym _ _ (C.ltle hc (sg' _ _ (r9 _ _) (xZ hi l) (Il hik l)))
   |false=>
    refine aY (by decide) ?_;refine aB ⟨rfl,rfl,m2,b2,fewer' b3 m2 m1,λi hi=>?_,b5⟩;exact C.tr _ _ _ (sg' _ _ (r9 _ _) (xZ (Io hi) l) (Il (b_ m2 b2) l)) hc
  case p8=>
   rintro⟨r,u,w⟩ st' ⟨rfl,e,b2,b4,b5⟩;cases e;have b2:u<=k:=b2;dsimp only at b4 b5 |-;rw[moveDown'_eq];refine au (iD (aB ⟨rfl,by lia,by lia,bubble a' (l+k) (l+k-(l+u)),rfl,cg.trans ⟨bubble_perm _ _ _,λi hi=>?_⟩,λi j hi hij hj=>?_⟩))
   .rw[qU (by lia) (by lia),KH (by lia),KH (by lia)]
   .rw[qU (by lia) (by lia),qU (by lia) (by lia)]
    repeat' split
    .exact C.refl _
    all_goals first
     |lia
     |exact sg' _ _ (by lia) (by lia) (by lia)
     |(have z:=b5 (j-1-l) (by lia) (by lia);rw[show l+(j-1-l)=j-1 by lia] at z;exact (by
       rename_i h1 h2 h3;cases hcc:lt (G a' (j-1)) (G a' (l+k)) with
       |false=>rfl
       |true=>rw[hcc] at z;cases z))
     |(have z:=b4 (i-l) (by lia);rw[show l+(i-l)=i by lia] at z;exact z)
end
theorem xh (p:Nat):∀(l:List Keyed) (n:Nat) (a:Array Keyed),p+n+l.length<=a.size->
  ((l.zipIdx n).foldl (λa (z:Keyed×Nat)=>a.setIfInBounds (p+z.2) z.1) a).size=a.size/\∀m:Nat,((l.zipIdx n).foldl (λa (z:Keyed×Nat)=>a.setIfInBounds (p+z.2) z.1) a)[m]?=if p+n<=m/\m<p+n+l.length then l[m-(p+n)]? else a[m]?
 | [],n,a,h=>⟨rfl,λm=>by rw[KH (by simp only[ja];lia)];rfl⟩
 |x::l,n,a,h=>by
  rw[bQ] at h;obtain⟨h1,h2⟩:=xh p l (n+1) (a.setIfInBounds (p+n) x) (by rw[Hv];lia);rw[List.zipIdx_cons,xO];refine⟨h1.trans Hv,λm=>?_⟩;rw[h2 m,bQ,Array.getElem?_setIfInBounds];by_cases c:m=p+n
  .subst c;rw[KH (by lia),KI rfl,KI (by lia),KI (by lia),yh];rfl
  .by_cases c2:p+(n+1)<=m/\m<p+(n+1)+l.length
   .rw[KI c2,KI (by lia),show m-(p+n)=m-(p+(n+1))+1 by lia];rfl
   .rw[KH c2,KH (λz=>c z.symm),KH (by lia)]
theorem oX {a:Array Keyed} {k:Nat} {x:Keyed} (h:a[k]?=some x):G a k=x:=by
 have e:G a k=(a[k]?).getD (Value.none,Value.none):=by simp[G]
 rw[e,h];rfl
theorem oI {a:Array Keyed} {p q k:Nat} (h:p+k<q) (hq:q<=a.size):G (a.extract p q) k=G a (p+k):=by apply i6;rw[Array.getElem?_extract,KI (by lia)]
theorem B6 {a:Array Keyed} {p q r:Nat} (h1:p<=q) (h2:q<=r) (h3:r<=a.size):a.toList=a.toList.take p++((a.extract p q).toList++(a.extract q r).toList)++a.toList.drop r:=by
 rw[rH,rH,rN,rN];have e1:(a.toList.drop p).take (q-p)++(a.toList.drop q).take (r-q)=(a.toList.drop p).take (r-p):=by rw[show r-p=(q-p)+(r-q) by lia,List.take_add,HV,show p+(q-p)=q by lia]
 rw[e1,gD];have e2:(a.toList.drop p).take (r-p)++a.toList.drop r=a.toList.drop p:=by
  conv=>rhs;rw[<-gI (r-p) (a.toList.drop p)]
  rw[HV,show p+(r-p)=r by lia]
 rw[e2,gI]
section
variable {M:Model} {κ:SortKind} {N:Keyed->Prop} {lt:Keyed->Keyed->Bool}
theorem uh {α:Type} (u v w:α) (l2:List α):∀l1:List α,((l1++u::w::l2).set l1.length v).eraseIdx (l1.length+1)=l1++v::l2
 | []=>rfl
 |x::l1=>by
  show x::((l1++u::w::l2).set l1.length v).eraseIdx (l1.length+1)=_;rw[uh u v w l2 l1];rfl
theorem jz {a:Array Keyed} {i j:Nat} (h:j<=a.size):(a.extract i j).size=j-i:=by rw[Array.size_extract,pA h]
theorem xu {a:Array Keyed} {x:Keyed} (h:x∈a.toList):∃k,k<a.size/\G a k=x:=by obtain⟨k,hk⟩:=rV.mp h;rw[iu] at hk;exact⟨k,(i7.mp hk).1,oX hk⟩
theorem BI (C:Cmp M A E s κ N lt) {a r:Array Keyed} {p p1 q n1 z:Nat} (h1:p<=p1) (h2:p1<=q) (h3:q+n1<=z) (hs:z<=a.size) (g:Good lt (a.extract p1 q) (a.extract q (q+n1)) r)
  (s1:Seg lt a p q) (s2:Seg lt a q z) (lo:∀k,p<=k->k<p1->∀j,q<=j->j<z->lt (G a j) (G a k)=false) (hi:∀j,q+n1<=j->j<z->∀k,p<=k->k<q->lt (G a j) (G a k)=false) :
  Cg p z a (r.toList.zipIdx.foldl (λa (z:Keyed×Nat)=>a.setIfInBounds (p1+z.2) z.1) a)/\Seg lt (r.toList.zipIdx.foldl (λa (z:Keyed×Nat)=>a.setIfInBounds (p1+z.2) z.1) a) p z:=by
 have q1s:q+n1<=a.size:=cF h3 hs;have qs:q<=a.size:=cF (r9 q n1) q1s;have lt1:(a.toList.take p1).length=p1:=by rw[cE,gB,pA (cF h2 qs)]
 have len:r.toList.length=q-p1+n1:=by rw[g.1.length_eq,aZ,gB,gB,jz qs,jz q1s,x_]
 obtain⟨w1,w2⟩:=xh p1 r.toList 0 a (by lia);generalize (r.toList.zipIdx.foldl (λa (z:Keyed×Nat)=>a.setIfInBounds (p1+z.2) z.1) a)=a' at w1 w2 |-;rw[len] at w2;simp only[Im] at w2;have out:∀k,k<p1\/q+n1<=k->G a' k=G a k:=λk hk=>i6 (by rw[w2 k,KH (by lia)]);have inn:∀k,p1<=k->k<q+n1->∃c,p1<=c/\c<q+n1/\G a' k=G a c:=λk hk1 hk2=>by
  have e:=w2 k;rw[KI (by lia)] at e;have hl:k-p1<r.toList.length:=by lia
  rw[bZ hl] at e;have e:=oX e;have mem:r.toList[k-p1]∈r.toList:=pj _;rcases bh.mp (g.1.mem_iff.mp mem) with h|h
  .obtain⟨c,c1,c2⟩:=xu h;rw[jz qs] at c1;exact⟨p1+c,by lia,by lia,by rw[e,<-c2,oI (by lia) (by lia)]⟩
  .obtain⟨c,c1,c2⟩:=xu h;rw[jz q1s,x_] at c1;exact⟨q+c,by lia,by lia,by rw[e,<-c2,oI (by lia) (by lia)]⟩
 have srt:∀i j,p1<=i->i<=j->j<q+n1->lt (G a' j) (G a' i)=false:=λi j i1 ij j1=>by
  have ei:=w2 i;have ej:=w2 j;rw[KI (by lia)] at ei ej;have li:i-p1<r.toList.length:=by lia
  have lj:j-p1<r.toList.length:=by lia
  rw[bZ li] at ei;rw[bZ lj] at ej;rw[oX ei,oX ej];by_cases e:i=j
  .subst e;exact C.refl _
  .exact rX.mp g.2 (i-p1) (j-p1) li lj (by lia)
 refine⟨⟨?_,λk hk=>out k (by lia)⟩,λi j hi1 hij hj=>?_⟩
 .rw[Hu];have e:a'.toList=a.toList.take p1++r.toList++a.toList.drop (q+n1):=by
   apply xM;intro m;rw[iu,w2 m];by_cases c1:m<p1
   .rw[KH (by lia),gD,gE (by rw[lt1];exact c1),xQ c1,iu]
   .by_cases c2:m<q+n1
    .rw[KI (by lia),gD,jX (by rw[lt1];lia),gE (by rw[lt1];lia),lt1]
    .rw[KH (by lia),jX (by rw[aZ,lt1];lia),Ia,iu,aZ,lt1]
     congr 1
     lia
  rw[e];exact ((g.1.append_left _).append_right _).trans (xH (B6 (a:=a) h2 (r9 q n1) (by lia)).symm)
 .by_cases ci:i<p1
  .rw[out i (.inl ci)];by_cases cj:j<p1
   .rw[out j (.inl cj)];exact s1 i j hi1 hij (by lia)
   .have hc:∀c,p1<=c->c<z->lt (G a c) (G a i)=false:=λc c1 c2=>by
     by_cases cc:c<q
     .exact s1 i c hi1 (by lia) cc
     .exact lo i hi1 ci c (by lia) c2
    by_cases cj2:j<q+n1
    .obtain⟨c,c1,c2,e⟩:=inn j (by lia) cj2;rw[e];exact hc c c1 (by lia)
    .rw[out j (.inr (by lia))];exact hc j (by lia) hj
  .by_cases cj:j<q+n1
   .exact srt i j (by lia) hij cj
   .rw[out j (.inr (by lia))];have hc:∀c,p<=c->c<j->lt (G a j) (G a c)=false:=λc c1 c2=>by
     by_cases cc:c<q
     .exact hi j (by lia) hj c c1 cc
     .exact s2 c j (by lia) (by lia) hj
    by_cases ci2:i<q+n1
    .obtain⟨c,c1,c2,e⟩:=inn i (by lia) ci2;rw[e];exact hc c (by lia) (by lia)
    .rw[out i (.inr (by lia))];by_cases e:i=j
     .subst e;exact C.refl _
     .exact hc i hi1 (by lia)
theorem D1 {st st':SortSt} {Q:PUnit->SortSt->Prop} (h:Q ⟨⟩ st'):wpS M A E s (set st':SM PUnit) Q st:=by unfold wpS;rw[StateT.run_set];exact aq ⟨rfl,h⟩
theorem D4 (C:Cmp M A E s κ N lt) {st:SortSt} {a:Array Keyed} {i p m e q n e':Nat} {l1 l2:List (Nat×Nat×Nat)} {Q:Bool->SortSt->Prop} (hk:kindOf st=κ) (hf:failedOf st=none) (hN:Nm N a) (hp:(pendingOf st).toList=l1++(p,m,e)::(q,n,e')::l2) (hi:l1.length=i)
  (hq:q=p+m) (hm:1<=m) (hn:1<=n) (hs:q+n<=a.size) (s1:Seg lt a p q) (s2:Seg lt a q (q+n))
  (h:∀(a':Array Keyed) (st':SortSt),PyProof.Rows.kindOf st'=κ->failedOf st'=none->arrOf st'=a'->(pendingOf st').toList=l1++(p,m+n,e)::l2->Cg p (q+n) a a'->Seg lt a' p (q+n)->Q true st'):wpS M A E s (mergeAt' i) Q (sa st a):=by
 have e1:(pendingOf st)[i]?=some (p,m,e):=by rw[<-iu,hp,<-hi];simp
 have e2:(pendingOf st)[i+1]?=some (q,n,e'):=by rw[<-iu,hp,<-hi];simp
 have e3:(((pendingOf st).setIfInBounds i (p,m+n,e)).eraseIdxIfInBounds (i+1)).toList=l1++(p,m+n,e)::l2:=by rw[Array.toList_eraseIdxIfInBounds,Array.toList_setIfInBounds,hp,<-hi];exact uh _ _ _ _ _
 have eqt:∀{a b:Nat},(a==b)=true->a=b:=λh=>by simpa using h
 have eqf:∀{a b:Nat},¬(a==b)=true->a≠b:=λh=>by simpa using h
 rw[E_];refine au (gK ?_);show wpS _ _ _ _ (match ((pendingOf st)[i]?,(pendingOf st)[i+1]?) with|(some (p,m,e),some (q,n,_))=>_|_=>_) _ _;rw[e1,e2];dsimp only;refine au (D1 ?_);have tl:∀{o:Nat},bv lt false (G a q) a p o=true->lt (G a q) (G a (p+o))=false:=λh=>by simpa [bv] using h
 have fl:∀{o:Nat},bv lt false (G a q) a p o=false->lt (G a q) (G a (p+o))=true:=λh=>by simpa [bv] using h
 refine au (cP (show q<a.size by lia) (au (jE (bv lt false (G a q) a p) (λo ho Q' q'=>jF C (λ_ z=>hN.at z) (hN.at (by lia)) (show p+o<a.size by lia) hk q') (λo o' ho hp' hb'=>?_) (by lia) λk hk1 hk2 hk3=>?_)))
 .cases hc:lt (G a q) (G a (p+o)) with
  |false=>show (!lt _ _)=true;rw[hc];rfl
  |true=>have:=C.ltle hc (s1 (p+o) (p+o') (by lia) (by lia) (by lia));rw[tl hb'] at this;cases this
 dsimp only;have seg:(∀i,p<=i->i<q->∀j,q<=j->j<q+n->lt (G a j) (G a i)=false)->Seg lt a p (q+n):=λhh i j h1 h2 h3=>by
  by_cases c:j<q
  .exact s1 i j h1 h2 c
  .by_cases c2:i<q
   .exact hh i h1 c2 j (by lia) h3
   .exact s2 i j (by lia) h2 h3
 have low:∀i,p<=i->i<p+k->∀j,q<=j->j<q+n->lt (G a j) (G a i)=false:=λi h1 h2 j h3 h4=>by
  have z:=tl (hk2 (i-p) (by lia));rw[show p+(i-p)=i by lia] at z;exact C.tr _ _ _ z (s2 q j (ar _) h3 h4)
 by_cases c1:(m-k==0)=true
 .refine a_ c1 ?_;have c1:=eqt c1;exact aB (h a _ hk hf rfl e3 (Cg.refl _ _ _) (seg λi h1 h2=>low i h1 (by lia)))
 refine aY c1 ?_;have c1:=eqf c1;rw[show p+k+(m-k)-1=q-1 by lia];refine au (cP (show q-1<a.size by lia) (au (jE (bv lt true (G a (q-1)) a q) (λo ho Q' q'=>jF C (λ_ z=>hN.at z) (hN.at (by lia)) (show q+o<a.size by lia) hk q') (λo o' ho hp' hb'=>C.lelt (s2 _ _ (by lia) (by lia) (by lia)) hb') (by lia) λn1 hn1 hn2 hn3=>?_)));dsimp only;have hig:∀j,q+n1<=j->j<q+n->∀i,p<=i->i<q->lt (G a j) (G a i)=false:=λj h1 h2 i h3 h4=>by
  have z:=hn3 (j-q) (by lia) (by lia);have z:lt (G a (q+(j-q))) (G a (q-1))=false:=z;rw[show q+(j-q)=j by lia] at z;exact C.tr _ _ _ (s1 i (q-1) h3 (by lia) (by lia)) z
 by_cases c2:(n1==0)=true
 .refine a_ c2 ?_;have c2:=eqt c2;exact aB (h a _ hk hf rfl e3 (Cg.refl _ _ _) (seg λi h1 h2 j h3 h4=>hig j (by lia) h4 i h1 h2))
 refine aY c2 ?_;have c2:=eqf c2;have zx:(a.extract (p+k) q).size=q-(p+k):=jz (by lia);have zy:(a.extract q (q+n1)).size=n1:=by rw[jz (by lia),x_]
 have gx:∀i,i<(a.extract (p+k) q).size->G (a.extract (p+k) q) i=G a (p+k+i):=λi hi=>oI (by lia) (by lia);have gy:∀i,i<(a.extract q (q+n1)).size->G (a.extract q (q+n1)) i=G a (q+i):=λi hi=>oI (by lia) (by lia);have hx:Asc lt (a.extract (p+k) q):=λi j hij hj=>by rw[gx i (by lia),gx j hj];exact s1 _ _ (by lia) (by lia) (by lia)
 have hy:Asc lt (a.extract q (q+n1)):=λi j hij hj=>by rw[gy i (by lia),gy j hj];exact s2 _ _ (by lia) (by lia) (by lia)
 have Nx:∀i,i<(a.extract (p+k) q).size->N (G (a.extract (p+k) q) i):=λi hi=>by rw[gx i hi];exact hN.at (by lia)
 have Ny:∀i,i<(a.extract q (q+n1)).size->N (G (a.extract q (q+n1)) i):=λi hi=>by rw[gy i hi];exact hN.at (by lia)
 have hb:lt (G (a.extract q (q+n1)) 0) (G (a.extract (p+k) q) 0)=true:=by rw[gx 0 (by lia),gy 0 (by lia)];exact fl (hk3 k (ar _) (by lia))
 have hl:∀j,j<(a.extract q (q+n1)).size->lt (G (a.extract q (q+n1)) j) (G (a.extract (p+k) q) ((a.extract (p+k) q).size-1))=true:=λj hj=>by
  rw[gx _ (by lia),gy j hj,zx,show p+k+(q-(p+k)-1)=q-1 by lia];exact hn2 j (by lia)
 have fin:∀(r:Array Keyed) (st2:SortSt),Fr (SortSt.mk' (kindOf st) a (((pendingOf st).setIfInBounds i (p,m+n,e)).eraseIdxIfInBounds (i+1)) (gallopOf st) (failedOf st)) st2->Good lt (a.extract (p+k) q) (a.extract q (q+n1)) r->
   wpS M A E s (do
    modify λs=>setArr s (r.toList.zipIdx.foldl (λa (z,j)=>a.setIfInBounds (p+k+j) z) (arrOf s))
    return (failedOf (<-get)).isNone) Q st2:=λr st2 f g=>by
  obtain⟨f1,f2,f3,f4⟩:=f;have f2:arrOf st2=a:=f2;refine au (iD (au (gK ?_)));obtain⟨b1,b2⟩:=BI C (p:=p) (z:=q+n) (by lia) (by lia) (by lia) hs g s1 s2 low hig;have fn:failedOf st2=none:=f4.trans hf;have e9:(failedOf (setArr st2 (r.toList.zipIdx.foldl (λa (z:Keyed×Nat)=>a.setIfInBounds (p+k+z.2) z.1) (arrOf st2)))).isNone=true:=by show (failedOf st2).isNone=true;rw[fn];rfl
  show wpS _ _ _ _ (pure (failedOf (setArr st2 (r.toList.zipIdx.foldl (λa (z:Keyed×Nat)=>a.setIfInBounds (p+k+z.2) z.1) (arrOf st2)))).isNone) _ (setArr st2 (r.toList.zipIdx.foldl (λa (z:Keyed×Nat)=>a.setIfInBounds (p+k+z.2) z.1) (arrOf st2)));rw[e9];refine aB (h _ _ (f1.trans hk) fn rfl ?_ ?_ ?_)
  .exact (congrArg Array.toList f3).trans e3
  .rw[f2];exact b1
  .rw[f2];exact b2
 by_cases c3:m-k<=n1
 .refine a_ c3 ?_;exact au (D2 C hk Nx Ny hx hy (show 0<(a.extract (p+k) q).size by lia) (show 0<(a.extract q (q+n1)).size by lia) hb hl λr st2 f g=>fin r st2 f g)
 .refine aY c3 ?_;exact au (D3 C hk Nx Ny hx hy (show 0<(a.extract (p+k) q).size by lia) (show 0<(a.extract q (q+n1)).size by lia) hb hl λr st2 f g=>fin r st2 f g)
end
def Runs (lt:Keyed->Keyed->Bool) (a:Array Keyed):List (Nat×Nat×Nat)->Nat->Nat->Prop
 | [],b,e=>b=e
 |x::l,b,e=>x.1=b/\1<=x.2.1/\Seg lt a b (b+x.2.1)/\Runs lt a l (b+x.2.1) e
section
variable {M:Model} {κ:SortKind} {N:Keyed->Prop} {lt:Keyed->Keyed->Bool}
theorem Runs.len {a:Array Keyed}:∀{l:List (Nat×Nat×Nat)} {b e:Nat},Runs lt a l b e->b+l.length<=e
 | [],_,_,h=>r_ h
 |x::l,b,e,h=>by
  have:=Runs.len h.2.2.2;have:=h.2.1;rw[bQ];lia
theorem Seg.congr {a a':Array Keyed} {b e:Nat} (h:∀k,b<=k->k<e->G a' k=G a k) (r:Seg lt a b e):Seg lt a' b e:=λi j h1 h2 h3=>by
 rw[h i h1 (by lia),h j (by lia) h3];exact r i j h1 h2 h3
theorem Runs.congr {a a':Array Keyed}:∀{l:List (Nat×Nat×Nat)} {b e:Nat},(∀k,b<=k->k<e->G a' k=G a k)->Runs lt a l b e->Runs lt a' l b e
 | [],_,_,_,r=>r
 |x::l,b,e,h,r=>by
  have:=Runs.len r.2.2.2;exact⟨r.1,r.2.1,r.2.2.1.congr λk h1 h2=>h k h1 (by lia),Runs.congr (λk h1 h2=>h k (by lia) h2) r.2.2.2⟩
theorem Runs.app {a:Array Keyed} {l2:List (Nat×Nat×Nat)}:∀{l1:List (Nat×Nat×Nat)} {b e:Nat},Runs lt a (l1++l2) b e↔∃m,Runs lt a l1 b m/\Runs lt a l2 m e
 | [],b,e=>⟨λh=>⟨b,rfl,h⟩,λ⟨m,h1,h2⟩=>by cases h1;exact h2⟩
 |x::l1,b,e=>by
  constructor
  .rintro⟨h1,h2,h3,h4⟩;obtain⟨m,h5,h6⟩:=Runs.app.mp h4;exact⟨m,⟨h1,h2,h3,h5⟩,h6⟩
  .rintro⟨m,⟨h1,h2,h3,h4⟩,h5⟩;exact⟨h1,h2,h3,Runs.app.mpr ⟨m,h4,h5⟩⟩
structure RS (κ:SortKind) (N:Keyed->Prop) (lt:Keyed->Keyed->Bool) (a0:Array Keyed) (lo:Nat) (st:SortSt):Prop where
 k:PyProof.Rows.kindOf st=κ
 f:failedOf st=none
 pm:(arrOf st).Perm a0
 r:Runs lt (arrOf st) (pendingOf st).toList 0 lo
theorem wq (C:Cmp M A E s κ N lt) {a0:Array Keyed} {lo i:Nat} {st:SortSt} {Q:Bool->SortSt->Prop} (hN:Nm N a0) (R:RS κ N lt a0 lo st) (hlo:lo<=a0.size) (hi:i+1<(pendingOf st).size)
  (q:∀st',RS κ N lt a0 lo st'->(pendingOf st').size+1=(pendingOf st).size->(∀k,lo<=k->G (arrOf st') k=G (arrOf st) k)->Q true st'):wpS M A E s (mergeAt' i) Q st:=by
 have hz:=R.pm.size_eq;have hN':Nm N (arrOf st):=hN.perm R.pm;obtain⟨l1,x,y,l2,e,hl⟩:∃l1 x y l2,(pendingOf st).toList=l1++x::y::l2/\l1.length=i:=by
  have h1:i<(pendingOf st).toList.length:=by rw[gB];lia
  have h2:i+1<(pendingOf st).toList.length:=by rw[gB];lia
  refine⟨(pendingOf st).toList.take i,(pendingOf st).toList[i],(pendingOf st).toList[i+1],(pendingOf st).toList.drop (i+1+1),?_,by rw[cE];lia⟩;rw[<-pf h2,<-pf h1,gI]
 obtain⟨p,m,w⟩:=x;obtain⟨q',n,w'⟩:=y;have r:=R.r;rw[e] at r;obtain⟨b,r1,h1,h2,h3,h4,h5,h6,h7⟩:=Runs.app.mp r;have h1:p=b:=h1;subst h1;have h4:q'=p+m:=h4;dsimp only at h2 h3 h5 h6 h7;have le:=h7.len;show wpS M A E s (mergeAt' i) Q (sa st (arrOf st));refine D4 C R.k R.f hN' e hl h4 h2 h5 (by lia) (by rw[h4];exact h3) (by rw[h4];exact h6) λa' st' k1 k2 k3 k4 k5 k6=>q st' ⟨k1,k2,by rw[k3];exact k5.pm.trans R.pm,?_⟩ ?_ λk hk=>by rw[k3];exact k5.at_ k (by lia)
 .rw[k3,k4];have le1:=r1.len;refine Runs.app.mpr ⟨p,r1.congr λk _ hk=>k5.at_ k (by lia),rfl,by show 1<=m+n;lia,?_,?_⟩
  .show Seg lt a' p (p+(m+n));rw[h4,Ik] at k6;exact k6
  .show Runs lt a' l2 (p+(m+n)) lo;rw[<-Ik];exact h7.congr λk hk _=>k5.at_ k (by lia)
 .have z1:=congrArg List.length e;have z2:=congrArg List.length k4;simp only[gB,aZ,bQ] at z1 z2;lia
theorem uY {a:Array Keyed} {w:Nat}:∀{l:List (Nat×Nat×Nat)} {i b e:Nat},Runs lt a l b e->Runs lt a (l.modify i λx=>(x.1,x.2.1,w)) b e
 | [],i,_,_,h=>by
  simpa using h
 |x::l,0,_,_,h=>h
 |x::l,i+1,_,_,h=>⟨h.1,h.2.1,h.2.2.1,uY h.2.2.2⟩
theorem wp_runs (C:Cmp M A E s κ N lt) {a0:Array Keyed} {st:SortSt} {Q:Unit->SortSt->Prop} (hN:Nm N a0) (hk:PyProof.Rows.kindOf st=κ) (hf:failedOf st=none) (ha:arrOf st=a0) (hp:pendingOf st=#[]) (h2:2<=a0.size)
  (q:∀st',failedOf st'=none->(arrOf st').Perm a0->Seg lt (arrOf st') 0 a0.size->Q () st'):wpS M A E s sortRuns' Q st:=by
 rw[sortRuns'_eq];refine au (gK ?_);dsimp only;rw[ha];generalize minRun' a0.size a0.size 0=mr;have R0:RS κ N lt a0 0 st:=⟨hk,hf,ha ▸ Hq _,by rw[hp];exact rfl⟩;refine au (eD (el (I:=λt x st'=>x.1=none/\t<=x.2/\x.2<=a0.size/\RS κ N lt a0 x.2 st') (Q:=λx st'=>x.1=none/\x.2=a0.size/\RS κ N lt a0 x.2 st') ?step ?fin ⟨rfl,ar _,aU _,R0⟩) ?post)
 case fin=>
  rintro⟨r,lo⟩ st' ⟨e1,e2,e3,e4⟩;have e2:max 0 a0.size<=lo:=e2;have e3:lo<=a0.size:=e3;exact⟨e1,by show lo=_;lia,e4⟩
 case post=>
  rintro⟨r,lo⟩ st' ⟨e1,e2,R⟩;cases e1;have e2:lo=a0.size:=e2;subst e2;dsimp only at R |-;have l0:=R.r.len;rw[gB] at l0;refine au (eD (el (I:=λt x st'=>x.1=none/\RS κ N lt a0 a0.size st'/\((pendingOf st').size+t<=a0.size\/(pendingOf st').size<=1)) (Q:=λx st'=>x.1=none/\RS κ N lt a0 a0.size st'/\(pendingOf st').size<=1) ?s2 ?f2 ⟨rfl,R,.inl (by lia)⟩) ?p2)
  case f2=>
   rintro⟨r,u⟩ st' ⟨e1,R,e2⟩;exact⟨e1,R,by lia⟩
  case p2=>
   rintro⟨r,u⟩ st' ⟨e1,R,e2⟩;cases e1;refine aB (q st' R.f R.pm ?_);have r:=R.r;have z:(pendingOf st').toList.length<=1:=by rw[gB];exact e2
   match hh:(pendingOf st').toList,r,z with
   | [],r,_=>have:0=a0.size:=r;lia
   | [x],r,_=>
    have r3:=r.2.2.1;have e:0+x.2.1=a0.size:=r.2.2.2;rw[e] at r3;exact r3
   |x::y::l,r,z=>simp only[bQ] at z;lia
  case s2=>
   rintro t ⟨r,u⟩ st' _ ht ⟨e1,R,e2⟩;refine au (gK ?_);by_cases c:(pendingOf st').size<=1
   .exact a_ c (aB ⟨rfl,R,c⟩)
   refine aY c ?_;refine au (wq C hN R (ar _) ?_ λst'' R' hz _=>aB ⟨rfl,R',by lia⟩)
   repeat' split
   all_goals lia
 case step=>
  rintro t ⟨r,lo⟩ st' _ ht ⟨e1,e2,e3,R⟩;cases e1;dsimp only at e2 e3 R |-;by_cases c:lo ≥ a0.size
  .exact a_ c (aB ⟨rfl,by show lo=_;lia,R⟩)
  refine aY c ?_;have hz:=R.pm.size_eq;show wpS M A E s _ _ (sa st' (arrOf st'));refine au (Be C R.k (hN.perm R.pm) (by lia) (by lia) λn a1 cg n1 n2 sg=>?_);dsimp only;have R1:RS κ N lt a0 lo (sa st' a1):=⟨R.k,R.f,cg.pm.trans R.pm,R.r.congr λk _ hk'=>cg.at_ k (.inl hk')⟩;have z1:=cg.size;by_cases c2:n<mr;refine a_ c2 ?_;refine au (jA (au (D5 C R.k (hN.perm R1.pm) (o:=n) n1 (by lia) (by lia) sg λa2 cg2 sg2=>?_)));refine aY (by decide) ?_;have R2:RS κ N lt a0 lo (sa st' a2):=⟨R.k,R.f,cg2.pm.trans R1.pm,R1.r.congr λk _ hk'=>cg2.at_ k (.inl hk')⟩;have n3:1<=min (a0.size-lo) mr:=by lia
  have n4:lo+min (a0.size-lo) mr<=a0.size:=by lia
  generalize min (a0.size-lo) mr=nn at sg2 n3 n4 |-
  rotate_left
  refine aY c2 ?_;have sg2:=sg;have R2:=R1;have n3:=n1;have n4:lo+n<=a0.size:=by lia
  clear n1 n2 sg c2;generalize n=nn at sg2 n3 n4 |-;generalize a1=a2 at sg2 R2 |-
  all_goals
   refine au (gK ?_);have last:∀st3,RS κ N lt a0 lo st3->Seg lt (arrOf st3) lo (lo+nn)->wpS M A E s (do
     modify λs=>setPending s ((pendingOf s).push (lo,nn,0))
     pure (ForInStep.yield ((none:Option Unit),lo+nn))) (λ(r:ForInStep (Option Unit×Nat)) st'=>match r with | .done x=>x.1=none/\x.2=a0.size/\RS κ N lt a0 x.2 st' | .yield x=>x.1=none/\t+1<=x.2/\x.2<=a0.size/\RS κ N lt a0 x.2 st') st3:=λst3 R3 sg3=>by
    refine au (iD (aB ⟨rfl,by show t+1<=lo+nn;lia,n4,R3.k,R3.f,R3.pm,?_⟩));show Runs lt (arrOf st3) ((pendingOf st3).push (lo,nn,0)).toList 0 (lo+nn);rw[gC];exact Runs.app.mpr ⟨lo,R3.r,rfl,n3,sg3,rfl⟩
   cases hb:(pendingOf (sa st' a2)).back? with
   |none=>exact last _ R2 sg2
   |some y=>
    obtain⟨s1,n5,w⟩:=y;dsimp only;generalize power' _ _ _ _=pw;refine au (eD (el (I:=λ_ x st3=>x.1=none/\RS κ N lt a0 lo st3/\Seg lt (arrOf st3) lo (lo+nn)) (Q:=λx st3=>x.1=none/\RS κ N lt a0 lo st3/\Seg lt (arrOf st3) lo (lo+nn)) ?_ (λ_ _ z=>z) ⟨rfl,R2,sg2⟩) ?_)
    .rintro t3 ⟨r,u⟩ st3 _ ht3 ⟨e1,R3,sg3⟩;refine au (gK ?_);by_cases c3:(pendingOf st3).size>1
     .rw[KI c3,xB (show (pendingOf st3).size-2<(pendingOf st3).size by lia)];dsimp only
      split
      .exact aB ⟨rfl,R3,sg3⟩
      .exact au (wq C hN R3 e3 (by lia) λst4 R4 _ k4=>aB ⟨rfl,R4,sg3.congr λk hk1 _=>k4 k hk1⟩)
     .rw[KH c3];exact aB ⟨rfl,R3,sg3⟩
    .rintro⟨r,u⟩ st3 ⟨e1,R3,sg3⟩;cases e1;refine au (iD (last _ ⟨R3.k,R3.f,R3.pm,?_⟩ sg3));show Runs lt (arrOf st3) ((pendingOf st3).modify _ _).toList 0 lo;rw[Array.toList_modify];exact uY R3.r
end
end TimS
end
section
namespace L2
open PySem PySem.Spec PyProof.Rows PySem.W
open HT (lexLt)
theorem u_:∀a b:List Int,lexLt a b=true->lexLt b a=false
 | [],[],h=>rfl
 | [],_::_,_=>rfl
 |_::_,[],h=>by cases h
 |x::xs,y::ys,h=>by
  rw[HT.lexLt_cons] at h |-;by_cases e:x=y
  .rw[KI e] at h;rw[KI e.symm];exact u_ xs ys h
  .rw[KH e] at h;rw[KH λz=>e z.symm];have:x<y:=KM h;exact KL (by lia)
theorem wO:∀a b c:List Int,lexLt b a=false->lexLt c b=false->lexLt c a=false
 | [],b,[],_,_=>rfl
 | [],[],_::_,_,h=>rfl
 | [],_::_,_::_,_,_=>rfl
 |_::_,[],_,h,_=>by cases h
 |_::_,_::_,[],_,h=>by cases h
 |x::xs,y::ys,z::zs,h1,h2=>by
  rw[HT.lexLt_cons] at h1 h2 |-;by_cases e1:y=x
  .subst e1;rw[KI rfl] at h1;by_cases e2:z=y
   .rw[KI e2] at h2 |-;exact wO xs ys zs h1 h2
   .rw[KH e2] at h2 |-;exact h2
  .rw[KH e1] at h1;have l1:¬y<x:=of_decide_eq_false h1;by_cases e2:z=y
   .subst e2;rw[KH e1];exact h1
   .rw[KH e2] at h2;have l2:¬z<y:=of_decide_eq_false h2;rw[KH (by lia)];exact KL (by lia)
def Tups (K:Frag) (H:Hp) (ys:List V) (ks:List (List Int)):Prop:=Paired (λy k=>∃b,y=V.ref b/\SqT K H b (k.map V.int)/\k≠[]) ys ks
theorem E6 {h h':Heap} {a:Addr} {m m':Str->Option Value} (h1:h.Ns a m) (h2:h.Ns a m'):m=m':=by obtain⟨o,es,ep,e1,e2,_,e4⟩:=h1;obtain⟨o',es',ep',f1,f2,_,f4⟩:=h2;rw[e1] at f1;cases f1;rw[e2] at f2;cases f2;funext x;rw[<-e4,<-f4]
section
theorem Inv.newsKept {h':Heap} {m:Str->Option Value} {t':Nat} {more:List (Addr×Obj)} (I:Inv X pins Z H s) (F:Fr X.base X.env.locals s.heap m) (F':Fr X.base X.env.locals h' m) (N:News X.base X.env.locals h' (more++oj X.base s.heap X.env.locals)) :
  (∀b o,b≠X.env.locals->s.heap.get? b=some o->h'.get? b=some o)/\(∀m,s.heap.Ns X.env.locals m->h'.Ns X.env.locals m):=by
 refine⟨λb o hb e=>?_,λm' hm=>by rw[<-E6 (h':=h') F.ns hm];exact F'.ns⟩;cases q:X.base.get? b with
 |some u=>
  have e2:=I.bk b u q;rw[e] at e2;cases e2;exact F'.keep b _ q
 |none=>exact (N (b,o) (fU _ (pN hb q e))).1
theorem aQ.there {h:Heap} {a:Addr} {o:HO} (x:aQ P w H h a o):∃ob,h.get? a=some ob:=by
 cases o with
 |lst xs=>obtain⟨_,_,_,_,e⟩:=x;exact⟨_,e⟩
 |tup xs=>obtain⟨_,_,_,ob,e,_⟩:=x;exact⟨_,e⟩
 |dK kvs=>obtain⟨_,_,_,_,o,_,_,e,_⟩:=x;exact⟨_,e⟩
 |dT kvs=>obtain⟨_,_,_,_,o,_,_,e,_⟩:=x;exact⟨_,e⟩
 |set S n=>obtain⟨o,_,_,_,e,_⟩:=x;exact⟨_,e⟩
 |ins C dx fs=>obtain⟨_,_,_,e,_⟩:=x;exact⟨_,e⟩
 |own y=>exact x
 |xd fs=>obtain⟨_,⟨_,_,_,e,_⟩,_⟩:=x;exact⟨_,e⟩
 |rng lo hi=>obtain⟨_,_,_,e⟩:=x;exact⟨_,e⟩
 |frz ob u=>obtain⟨e,_⟩:=x;exact⟨_,e⟩
 |tbl ps=>exact⟨_,(show h.get? a=some _ from x)⟩
 |met f y=>exact⟨_,(show h.get? a=some _ from x)⟩
 |ext φ=>obtain⟨_,e,_⟩:=x;exact e
theorem HOk.none_of {h:Heap} {a:Addr} (x:HOk P w H h) (e:h.get? a=none):H a=none:=by
 cases q:H a with
 |none=>rfl
 |some u=>
  obtain⟨o,z⟩:=(x a u q).there;rw[e] at z;cases z
theorem Inv.laidN {h':Heap} {t':Nat} {a:Addr} {o:HO} (I:Inv X pins Z H s) (k:∀b o,b≠X.env.locals->s.heap.get? b=some o->h'.get? b=some o) (kn:∀m,s.heap.Ns X.env.locals m->h'.Ns X.env.locals m)
  (ha:s.heap.get? a=none) (new:∀H',aQ X.prog X.w H' h' a o) (hx:∀y fs,o≠.ins y fs []):Inv X pins Z (upd H a o) {s with heap:=h',toks:=t'}:=by
 have hn:H a=none:=I.hok.none_of ha;have hL:∀b u,H b=some u->b≠X.env.locals:=λb u e z=>by rw[z,I.free] at e;cases e
 refine I.step (g':=s.gens) (d':=s.drawn) (ch:=[]) (λ_ z=>nomatch z) (λb o hb _ _ e _=>k b o hb e) (λb o hb _ _ e _=>⟨o.slots,k b o hb e⟩) (λb o _ e n=>?_) (λb o _ e=>?_) (λb xs e=>?_) (λb o u e=>?_) (λb ps e=>⟨#[],?_⟩) kn (λb u e=>?_) I.bare
 .rw[aj (λz=>by rw[z,ha] at e;cases e)];exact n
 .by_cases hb:b=X.env.locals
  .subst hb;obtain⟨m,hm,_⟩:=I.loc;obtain⟨o',_,_,e',_⟩:=kn m hm;exact⟨o',e'⟩
  .exact⟨o,k b o hb e⟩
 .rw[aj (ak e hn)];exact e
 .rw[aj (ak e hn)];exact e
 .rw[aj (ak e hn),e];simp
 .by_cases hb:b=a
  .subst hb;rw[aO] at e;cases e;exact new _
  .rw[aj hb] at e;refine (I.hok b u e).stay (λc v hc q=>k c v ?_ q) (λc q=>by rw[aj (ak q hn)];exact q) λc xs q=>by rw[aj (ak q hn)];exact q
   rcases hc with z|z
   .rw[z];exact hL b u e
   .exact hL c _ z
theorem Inv.keptN {h':Heap} {t':Nat} (I:Inv X pins Z H s) (k:∀b o,b≠X.env.locals->s.heap.get? b=some o->h'.get? b=some o) (kn:∀m,s.heap.Ns X.env.locals m->h'.Ns X.env.locals m):Inv X pins Z H {s with heap:=h',toks:=t'}:=by
 have hL:∀b u,H b=some u->b≠X.env.locals:=λb u e z=>by rw[z,I.free] at e;cases e
 refine I.step (g':=s.gens) (d':=s.drawn) (ch:=[]) (λ_ z=>nomatch z) (λb o hb _ _ e _=>k b o hb e) (λb o hb _ _ e _=>⟨o.slots,k b o hb e⟩) (λb o _ e n=>n) (λb o _ e=>?_) (λb xs e=>e) (λb o u e=>e) (λb ps e=>⟨#[],by rw[e];simp⟩) kn (λb u e=>?_) I.bare
 .by_cases hb:b=X.env.locals
  .subst hb;obtain⟨m,hm,_⟩:=I.loc;obtain⟨o',_,_,e',_⟩:=kn m hm;exact⟨o',e'⟩
  .exact⟨o,k b o hb e⟩
 .refine (I.hok b u e).stay (λc v hc q=>k c v ?_ q) (λc q=>q) λc xs q=>q;rcases hc with z|z
  .rw[z];exact hL b u e
  .exact hL c _ z
end
def fh (h:Heap) (a:Addr) (vs:List Value):Heap:=((h.update a (Obj.mapSeq λ_=>#[])).push (seqObj "tuple" vs.toArray 0)).push (seqObj "list" #[] 0)
section
variable {prog:Program} {κ:SortKind} {rk:Value->List Int}
theorem um {a:Addr} {vs:List Value} {n:Nat} {P:PySem.Fin->Shared->Prop} (ho:s.heap.get? a=some (seqObj "list" vs.toArray n)) (hz:vs.length<=sizeLine)
  (hk:2<=vs.length->∀Q:SortKind->Shared->Prop,Q κ {s with heap:=fh s.heap a vs}->wpAny (model prog w) A (keyKind' vs.toArray) Q E {s with heap:=fh s.heap a vs})
  (hc:2<=vs.length->∀x∈vs,∀y∈vs,∀C:Bool->Shared->Prop,C (HT.lexLt (rk x) (rk y)) {s with heap:=fh s.heap a vs}->wpAny (model prog w) A (keyLt' κ x y) C (λ_ _=>False) {s with heap:=fh s.heap a vs})
  (h:∀out:List Value,out.Perm vs->out.Pairwise (λu v=>HT.lexLt (rk v) (rk u)=false)->P (.done (.ret .none)) {s with heap:=sortedHeap s.heap a vs out.toArray}):wpAny (model prog w) A (Builtin.«list.sort» ⟨[.ref a],[]⟩) P E s:=by
 have lt:a<s.heap.objs.size:=aK ho;obtain⟨e1,h1⟩:∃e1,(s.heap.update a (Obj.mapSeq λ_=>(#[]:Array Value))).get? a=some (seqObj "list" #[] e1):=⟨_,get?_update_seq ho λ_=>#[]⟩;have h3:(fh s.heap a vs).get? a=some (seqObj "list" #[] e1):=aR _ (aR _ h1);have zs:(vs.toArray.zip vs.toArray).map (·.2)=vs.toArray:=by apply mH.mp;simp only[rJ,List.zip_toArray];exact List.map_snd_zip (ar _)
 rw[list_sort_plain];refine af (listItems_at ho rfl (af (listUpdate_at ho rfl (af (seqEpoch_at h1 rfl (af (JA (af (wpAny_newList (eg ?_) (aU _))) hz)))) (by rw[bU];lia) (aU _))));show wpAny _ _ _ _ _ {s with heap:=fh s.heap a vs};have fin:∀st:SortSt,failedOf st=none->((arrOf st).map (·.2)).toList.Perm vs->((arrOf st).map (·.2)).toList.Pairwise (λu v=>HT.lexLt (rk v) (rk u)=false)->∀s':Shared,s'={s with heap:=fh s.heap a vs}->wpAny (model prog w) A (do
   let touched:=(<-seqEpoch a) != e1
   Builtin.List.listUpdate (.ref a) λ_=>(arrOf st).map (·.2)
   if let some e:=failedOf st then rule "list.sort.comparison-raised";throw e
   if touched then rule "list.sort.modified";raiseError "ValueError" "list modified during sort"
   ret .none) P E s':=by
  rintro st hf hp hs _ rfl;refine af (seqEpoch_at h3 rfl (af (listUpdate_at h3 rfl ?_ (aU _) (by have:=hp.length_eq;rw[gB] at this;lia))));rw[hf];simp only[bne_self_eq_false,mJ,if_false];exact aq (by
   have z:=h _ hp hs
   rwa [Array.toArray_toList] at z)
 dsimp only;by_cases h2:vs.length<2
 .have hs2:vs.toArray.size<2:=by rw[bU];exact h2
  rw[KI hs2,KI hs2];refine af (aq ?_);rw[StateT.run_pure];refine af (aq ?_);refine fin (SortSt.mk' general' (vs.toArray.zip vs.toArray) #[] 7 none) rfl ?_ ?_ _ rfl
  .show (((vs.toArray.zip vs.toArray).map (·.2)).toList).Perm vs;rw[zs]
  .show (((vs.toArray.zip vs.toArray).map (·.2)).toList).Pairwise _;rw[zs];cases vs with
   |nil=>exact .nil
   |cons x l=>rw[List.eq_nil_of_length_eq_zero (show l.length=0 by rw[bQ] at h2;lia)];exact rY _ _
 .have nt:¬vs.toArray.size<2:=by rw[bU];lia
  rw[KH nt,KH nt];refine af (hk (by lia) _ ?_);have mem:∀x∈(vs.toArray.zip vs.toArray),x.1∈vs/\x.1=x.2:=λx hx=>by
   have hx:x∈vs.zip vs:=by simpa using hx
   obtain⟨i,hi⟩:=rV.mp hx;rw[List.getElem?_zip_eq_some] at hi;exact⟨bE hi.1,dh (hi.1.symm.trans hi.2)⟩
  have C:TimS.Cmp (model prog w) A E {s with heap:=fh s.heap a vs} κ (λx=>x∈(vs.toArray.zip vs.toArray)) (λx y=>HT.lexLt (rk x.1) (rk y.1)):=by refine⟨λ_ _=>u_ _ _,λ_ _ _=>wO _ _ _,λ{x y st Q} hx hy hk' q=>?_⟩;rw[lt'_eq];refine au (gK ?_);rw[hk'];refine au (wpS_lift (jg (dn (hc (by lia) _ (mem x hx).1 _ (mem y hy).1 (λb s'=>b=HT.lexLt (rk x.1) (rk y.1)/\s'={s with heap:=fh s.heap a vs}) ⟨rfl,rfl⟩) (λb s' ⟨e,e'⟩=>?_) λ_ _ z=>z.elim)));subst e e';exact⟨rfl,aB q⟩
  have hzz:(vs.toArray.zip vs.toArray).size=vs.length:=by simp
  refine af (dn (TimS.wp_runs C (st:=SortSt.mk' κ (vs.toArray.zip vs.toArray) #[] 7 none) (λx hx=>hx) rfl rfl rfl rfl (by rw[hzz];lia) (Q:=λ_ st=>failedOf st=none/\(arrOf st).Perm (vs.toArray.zip vs.toArray)/\TimS.Seg (λx y=>HT.lexLt (rk x.1) (rk y.1)) (arrOf st) 0 vs.length) λst' f p g=>⟨f,p,by rw[hzz] at g;exact g⟩) ?_ λ_ _ e=>e);rintro⟨⟨⟩,st'⟩ s' ⟨e,hf,hp,hg⟩;refine fin st' hf ?_ ?_ s' e
  .have:=(Hu.mp hp).map (·.2);rw[<-rJ,<-rJ,zs] at this;exact this
  .rw[rJ,j3];refine rX.mpr λi j hi hj hij=>?_;have hz2:(arrOf st').size=vs.length:=hp.size_eq.trans hzz;have hi':i<(arrOf st').size:=by simpa using hi
   have hj':j<(arrOf st').size:=by simpa using hj
   have g:=hg i j (aU _) (by lia) (by lia);have e2:∀k (hk:k<(arrOf st').size),TimS.G (arrOf st') k=(arrOf st')[k]:=λk hk=>by simp[TimS.G,hk]
   have e3:∀k (hk:k<(arrOf st').size),((arrOf st')[k]).1=((arrOf st')[k]).2:=λk hk=>(mem _ (hp.mem_iff.mp (Array.getElem_mem hk))).2;have g:HT.lexLt (rk (TimS.G (arrOf st') j).1) (rk (TimS.G (arrOf st') i).1)=false:=g;rw[e2 i hi',e2 j hj',e3 i hi',e3 j hj'] at g;simpa using g
theorem zT {l:Addr} {vs:List Value} {Q:Value->Shared->Prop} (hl:s.heap.IsList l vs.toArray) (hz:vs.length+1<=sizeLine)
  (hk:∀h':Heap,(∀b o,s.heap.get? b=some o->h'.get? b=some o)->2<=vs.length->∀Q:SortKind->Shared->Prop,Q κ {s with heap:=h'}->wpAny (model prog w) A.in1.in1 (keyKind' vs.toArray) Q E {s with heap:=h'})
  (hc:∀h':Heap,(∀b o,s.heap.get? b=some o->h'.get? b=some o)->2<=vs.length->∀x∈vs,∀y∈vs,∀C:Bool->Shared->Prop,C (HT.lexLt (rk x) (rk y)) {s with heap:=h'}->wpAny (model prog w) A.in1.in1 (keyLt' κ x y) C (λ_ _=>False) {s with heap:=h'})
  (h:∀out:List Value,out.Perm vs->out.Pairwise (λu v=>HT.lexLt (rk v) (rk u)=false)->Q (.ref (s.heap.objs.size+1)) {s with heap:=sortedAll s.heap vs out.toArray}):wpAny (model prog w) A (call (.builtin "sorted") [.ref l]) Q E s:=by
 refine Calls.call_function_entry kind_sorted plain_sorted entry_sorted (args_sorted1 _) ?_;unfold Builtin.«sorted»;refine af (m:=checkCount "sorted" 1 1 _) (aq (af (collect_list hl (af (wpAny_newList ?_ (by lia))) (by lia))));generalize hG:(s.heap.push (seqObj "list" #[] 0)).update s.heap.objs.size (Obj.mapSeq (·++vs.toArray))=G;have hz':G.objs.size=s.heap.objs.size+1:=by rw[<-hG,Heap.size_update,size_push']
 have ho:(G.push (seqObj "list" vs.toArray 0)).get? (s.heap.objs.size+1)=some (seqObj "list" vs.toArray 0):=by rw[<-hz'];exact bP _ rfl
 have hA:∀out:List Value,sortedAll s.heap vs out.toArray=sortedHeap (G.push (seqObj "list" vs.toArray 0)) (s.heap.objs.size+1) vs out.toArray:=λout=>by rw[<-hG];rfl
 have old:∀b o,s.heap.get? b=some o->(fh (G.push (seqObj "list" vs.toArray 0)) (s.heap.objs.size+1) vs).get? b=some o:=λb o q=>by
  have lt:=aK q;have g:G.get? b=some o:=by rw[<-hG,oZ _ _ _ _ (bJ lt)];exact aR _ q
  refine aR _ (aR _ ?_);rw[oZ _ _ _ _ (bJ (sf lt))];exact aR _ g
 show wpAny _ _ _ _ _ {s with heap:=G.push (seqObj "list" vs.toArray 0)};rw[hz'];refine af (eg (jh Jl ⟨_,ho,rfl⟩ Je ?body (Jc _)))
 case body=>
  refine um (rk:=rk) (κ:=κ) (s:={s with heap:=G.push (seqObj "list" vs.toArray 0)}) ho (by lia) (hk _ old) (hc _ old) λout p1 p2=>?_;exact⟨_,rfl,aq ⟨_,rfl,(hA out) ▸ h out p1 p2⟩⟩
end
section
theorem Paired.getE {α β:Type} {F:α->β->Prop}:∀{l1:List α} {l2:List β} {i:Nat} {x:α},Paired F l1 l2->l1[i]?=some x->∃y,l2[i]?=some y/\F x y
 |_,_,_,_,.nil,e=>by simp at e
 |_,_,0,_,.cons r _,e=>by simp at e;subst e;exact⟨_,rfl,r⟩
 |_,_,i+1,x,.cons _ t,e=>by
  obtain⟨u,h1,h2⟩:=Paired.getE (i:=i) (x:=x) t (by simpa using e);exact⟨u,by simpa using h1,h2⟩
theorem tW {ys:List V} {its:List Value} (r:Vals ys its):∀(ix:List Nat),(∀i∈ix,i<ys.length)->Vals (ix.map λi=>ys.getD i .non) (ix.map λi=>its.getD i Value.none)
 | [],_=>.nil
 |i::ix,h=>by
  refine .cons ?_ (tW r ix λj hj=>h j (cN _ hj));have hi:=h i gF;obtain⟨u,e1,e2⟩:=r.get (i:=i) (x:=ys[i]) (by simp[hi]);have e3:ys.getD i .non=ys[i]:=by simp[List.getD,hi]
  have e4:its.getD i Value.none=u:=by rw[List.getD,e1];rfl
  show ax (ys.getD i .non) (its.getD i Value.none);rw[e3,e4];exact e2
theorem DZ {prog:Program} (us ws:List Value) (ns ms:List Int) (i:Nat) (s:Shared) {fin:Bool} {Q:Bool->Shared->Prop} (h1:IntsAre us ns) (h2:IntsAre ws ms) (e:fin=decide (ns.length<ms.length)) (q:Q (HT.lexLt ns ms) s):KatLex prog w A true fin Q (us.zip ws) i s:=by
 induction h1 generalizing ws ms i with
 |nil=>
  subst e;cases h2 with
  |nil=>exact q
  |cons _ _ _=>exact kat_nil (by simpa [HT.lexLt] using q)
 |cons a t r1 ih=>cases h2 with
  |nil=>subst e;exact kat_nil (by simpa [HT.lexLt] using q)
  |cons b u r2=>
  rw[HT.lexLt_cons] at q;refine kat_cons (Jt ?_);by_cases h:a=b
  .rw[KI h] at q;rw[show (a==b)=true by simpa using h];refine kat_yes (ih _ _ (i+1) r2 ?_ q);rw[e];simp
  .rw[KH h] at q;rw[show (a==b)=false by simpa using h];refine kat_no ?_;cases hb:(true&&i==0) with
   |true=>exact oneLt_int q
   |false=>exact kat_one _ _ (lt_int q)
theorem Az {α β:Type} {f:α->β}:∀{l l':List β},l'.Perm l->∀ix:List α,l=ix.map f->∃ix':List α,ix'.Perm ix/\l'=ix'.map f:=by
 intro l l' h;induction h with
 |nil=>exact λix e=>⟨ix,.refl _,e⟩
 |cons x _ ih=>
  intro ix e;cases ix with
  |nil=>cases e
  |cons i ix=>
   rw[a8] at e;injection e with e1 e2;obtain⟨ix',p,q⟩:=ih ix e2;exact⟨i::ix',p.cons i,by rw[a8,e1,q]⟩
 |swap x y l=>
  intro ix e
  match ix,e with
  |i::j::ix,e=>
   simp only[a8,List.cons.injEq] at e;exact⟨j::i::ix,.swap _ _ _,by rw[a8,a8,e.1,e.2.1,e.2.2]⟩
 |trans _ _ ih1 ih2=>
  intro ix e;obtain⟨ix2,p2,q2⟩:=ih2 ix e;obtain⟨ix1,p1,q1⟩:=ih1 ix2 q2;exact⟨ix1,p1.trans p2,q1⟩
def Ky (K:Frag) (H:Hp) (ys:List V) (ks:List (List Int)):Prop:=Paired (λy k=>∃n,y=V.int n/\k=[n]) ys ks\/Tups K H ys ks
def rkV (h:Heap):Value->List Int
 |.int n _=>[n]
 |.ref b=>match h.get? b with
  |some o=>match o.data with
   |.seq xs _=>xs.toList.map λv=>match v with | .int n _=>n|_=>0
   |_=>[]
  |none=>[]
 |_=>[]
theorem vP:∀{us:List Value} {ns:List Int},IntsAre us ns->(us.map λv=>match v with | .int n _=>n|_=>0)=ns
 |_,_,.nil=>rfl
 |_,_,.cons n t r=>by rw[a8,vP r]
theorem wR (I:Inv X pins Z H s) {ys:List V} {ks:List (List Int)} {its:List Value} (h:Ky [] H ys ks) (rv:Vals ys its):∃κ:SortKind,(∀i,i<its.length->rkV s.heap (its.getD i Value.none)=ks.getD i [])/\
  ∀{A:Around} {E:Value->Shared->Prop} (h':Heap),(∀b o,s.heap.get? b=some o->o.cls=.type "tuple"->h'.get? b=some o)->2<=its.length->
   (∀Q:SortKind->Shared->Prop,Q κ {s with heap:=h'}->wpAny (model X.prog X.w) A (keyKind' its.toArray) Q E {s with heap:=h'})/\
   ∀x∈its,∀y∈its,∀C:Bool->Shared->Prop,C (HT.lexLt (rkV s.heap x) (rkV s.heap y)) {s with heap:=h'}->wpAny (model X.prog X.w) A (keyLt' κ x y) C (λ_ _=>False) {s with heap:=h'}:=by
 rcases h with h|h
 .obtain⟨ns,rfl,rfl⟩:∃ns:List Int,ys=ns.map V.int/\ks=ns.map λn=>[n]:=by
   clear rv;induction h with
   |nil=>exact⟨[],rfl,rfl⟩
   |cons r _ ih=>
    obtain⟨n,rfl,rfl⟩:=r;obtain⟨ns,rfl,rfl⟩:=ih;exact⟨n::ns,rfl,rfl⟩
  have hI:=nF rv;have hv:∀{its:List Value} {ns:List Int},IntsAre its ns->∀x∈its,∃n t,x=Value.int n t:=λ{its ns} hI x hx=>by
   induction hI with
   |nil=>cases hx
   |cons n t _ ih=>
    rcases aT.mp hx with rfl|hx
    .exact⟨n,t,rfl⟩
    .exact ih hx
  refine⟨oneType',λi hi=>?_,λ{A E} h' _ h2=>⟨λQ q=>?_,λx hx y hy C q=>?_⟩⟩
  .obtain⟨u,e1,e2⟩:=rv.get (i:=i) (x:=(ns.map V.int)[i]'(by rw[rv.length];exact hi)) (by simp);have hi':i<ns.length:=by have:=rv.length;rw[aC] at this;lia
   rw[List.getElem_map] at e2;obtain⟨t,rfl⟩:=e2;rw[List.getD,e1,List.getD,bp,bZ hi'];rfl
  .match its,h2,hI with
   |v1::v2::rest,_,hI=>rw[keyKind_ints hI];exact aq q
  .obtain⟨n,t,rfl⟩:=hv hI x hx;obtain⟨m,u,rfl⟩:=hv hI y hy;refine kat_lt_int ?_;have e:HT.lexLt (rkV s.heap (Value.int n t)) (rkV s.heap (Value.int m u))=decide (n<m):=by
    show HT.lexLt [n] [m]=_;rw[HT.lexLt_cons];by_cases z:n=m
    .rw[KI z,KL (by lia)];rfl
    .rw[KH z]
   rw[<-e];exact q
 .have at_:∀(ks:List (List Int)) (ys:List V) (its:List Value),Tups [] H ys ks->Vals ys its->Paired (λv k=>k≠[]/\∃b us o n,v=Value.ref b/\IntsAre us k/\s.heap.get? b=some o/\o.cls=.type "tuple"/\o.data=.seq us.toArray n) its ks:=by
   intro ks;induction ks with
   |nil=>intro ys its a b;cases a;cases b;exact .nil
   |cons k ks ih=>
    intro ys its a b;cases a with
    |cons hh tt=>
     obtain⟨bb,e0,hq,hne⟩:=hh;subst e0;cases b with
     |cons r rr=>
      cases r;obtain⟨us,r5,⟨o,p1,p2,n,p3⟩,_⟩:=I.tuple hq;exact .cons ⟨hne,bb,us,o,n,rfl,nF r5,p1,p2,p3⟩ (ih _ _ tt rr)
  have P:=at_ ks ys its h rv;have rkk:∀{b:Addr} {us:List Value} {o:Obj} {n:Nat} {k:List Int},IntsAre us k->s.heap.get? b=some o->o.data=.seq us.toArray n->rkV s.heap (Value.ref b)=k:=λ{b us o n k} i1 i2 i3=>by
   show (match s.heap.get? b with|some o=>_|none=>_)=_;rw[i2];show (match o.data with | .seq xs _=>_|_=>_)=_;rw[i3];exact vP i1
  refine⟨tuples' (Value.type "int" != Value.type "tuple"),λi hi=>?_,λ{A E} h' old h2=>⟨λQ q=>?_,λx hx y hy C q=>?_⟩⟩
  .obtain⟨k,e1,_,b,us,o,n,e2,i1,i2,_,i3⟩:=Paired.getE (i:=i) (x:=its[i]) P (by simp[hi]);rw[show its.getD i Value.none=its[i] by simp[List.getD,hi],e2,rkk i1 i2 i3,List.getD,e1];rfl
  .obtain⟨fs,hk,hfl,hfi⟩:∃fs,KatTups h' its fs/\fs.length=its.length/\∀v∈fs,∃n t,v=Value.int n t:=by
    clear rv h2 h at_;induction P with
    |nil=>exact⟨[],.nil,rfl,λ_ h=>nomatch h⟩
    |cons r _ ih=>
     obtain⟨hne,b,us,o,n,rfl,i1,i2,i4,i3⟩:=r;obtain⟨fs,k1,hl1,hi1⟩:=ih;cases i1 with
     |nil=>exact absurd rfl hne
     |cons z tk r2=>
      refine⟨Value.int z tk::fs,.cons (old _ _ i2 i4) i4 i3 (by simp) k1,by simp[hl1],λv hv=>?_⟩;rcases aT.mp hv with rfl|hv
      .exact⟨_,_,rfl⟩
      .exact hi1 v hv
   refine kat_kind (T:=.type "int") hk (by lia) (λv hv=>?_) (by decide) q;obtain⟨n,t,rfl⟩:=hfi v hv;exact Looks.of_pure rfl
  .obtain⟨i,hi⟩:=rV.mp hx;obtain⟨j,hj⟩:=rV.mp hy;obtain⟨k1,_,_,b1,u1,o1,n1,rfl,i1,x1,c1,z1⟩:=Paired.getE P hi;obtain⟨k2,_,_,b2,u2,o2,n2,rfl,i2,x2,c2,z2⟩:=Paired.getE P hj;rw[rkk i1 x1 z1,rkk i2 x2 z2] at q;rw[show (Value.type "int" != Value.type "tuple")=true by decide];refine kat_lt (old _ _ x1 c1) z1 (old _ _ x2 c2) z2 (DZ u1 u2 _ _ 0 _ i1 i2 ?_ q);rw[<-i1.length,<-i2.length];simp
theorem wQ {ys:List V} {ks:List (List Int)} {its out:List Value} (rv:Vals ys its) (hr:∀i,i<its.length->rkV s.heap (its.getD i Value.none)=ks.getD i []) (p:out.Perm its) (pw:out.Pairwise (λu v=>HT.lexLt (rkV s.heap v) (rkV s.heap u)=false)) :
  ∃ix:List Nat,ix.Perm (List.range ys.length)/\(ix.map λi=>ks.getD i []).Pairwise (λa b=>HT.lexLt b a=false)/\Vals (ix.map λi=>ys.getD i .non) out:=by
 have e:its=(List.range its.length).map λi=>its.getD i Value.none:=by refine xK (by simp) λi h1 h2=>?_;simp[h1]
 obtain⟨ix,p2,rfl⟩:=Az p _ e;have hb:∀i∈ix,i<its.length:=λi hi=>jY.mp (p2.mem_iff.mp hi);refine⟨ix,by rw[rv.length];exact p2,?_,tW rv ix λi hi=>by rw[rv.length];exact hb i hi⟩;rw[j3] at pw |-;refine HK (λ{a b} ha hb' h=>?_) pw;rw[hr _ (hb a ha),hr _ (hb b hb')] at h;exact h
def EK (K:Frag):List V->Hp->VK->Prop:=λxs H Q=>∃(a:Addr) (ys:List V) (ks:List (List Int)),xs=[.ref a]/\SqL K H a ys/\Ky K H ys ks/\ys.length<5000/\
 ∀p (ix:List Nat),H p=none->ix.Perm (List.range ys.length)->(ix.map λi=>ks.getD i []).Pairwise (λa b=>HT.lexLt b a=false)->Q (.ref p) (upd H p (.lst (ix.map λi=>ys.getD i .non)))
theorem yY:cL X (.builtin "sorted") (EK []):=by intro pins s Z H xs us Q I r h;obtain⟨a,ys,ks,rfl,hq,hy,hz,q⟩:=h;obtain⟨u,rfl,ru⟩:=Vals.one r;cases ru;obtain⟨its,rv,p,_⟩:=I.list hq;have hl:=rv.length;obtain⟨κ,hr,ask⟩:=wR I hy rv;refine zT (κ:=κ) (rk:=rkV s.heap) p.isList (by rw[dv];lia) (λh' old h2=>(ask h' (λb o e _=>old b o e) h2).1) (λh' old h2=>(ask (E:=λ_ _=>False) h' (λb o e _=>old b o e) h2).2) λout p1 p2=>?_;obtain⟨ix,x1,x2,x3⟩:=wQ rv hr p1 p2;obtain⟨e,he⟩:=sortedAll_at s.heap its out.toArray;have hp:s.heap.objs.size<=s.heap.objs.size+1:=jd _;exact⟨.ref (s.heap.objs.size+1),upd H (s.heap.objs.size+1) (.lst (ix.map λi=>ys.getD i .non)),I.laid (t':=s.toks) (λb o e=>sortedAll_old e) hp ⟨by rw[aC,x1.length_eq,mY,dv];lia,out,e,x3,by rw[he]⟩,rfl,q _ ix (I.hok.fresh hp) x1 x2⟩
theorem Fb {K:Frag} (ns:List Int):Ky K H (ns.map V.int) (ns.map λn=>[n]):=.inl (by
 induction ns with
 |nil=>exact .nil
 |cons n ns ih=>exact .cons ⟨n,rfl,rfl⟩ ih)
theorem Fj {ns:List Int} {ix:List Nat} (p:ix.Perm (List.range (ns.map V.int).length)) (w:(ix.map λi=>(ns.map λn=>[n]).getD i []).Pairwise (λa b=>HT.lexLt b a=false)) :
  ∃ms:List Int,ms.Perm ns/\ms.Pairwise (·<=·)/\(ix.map λi=>(ns.map V.int).getD i .non)=ms.map V.int:=by
 rw[aC] at p;have hb:∀i∈ix,i<ns.length:=λi hi=>jY.mp (p.mem_iff.mp hi);refine⟨ix.map λi=>ns.getD i 0,?_,?_,?_⟩
 .have:=p.map λi=>ns.getD i 0;refine this.trans (xH (xK (by simp) λi h1 h2=>?_));simp[h2]
 .rw[j3] at w |-;refine HK (λ{a b} ha hb' h=>?_) w;have h1:=hb a ha;have h2:=hb b hb';simp only[List.getD,bp,bZ h1,bZ h2,m_,Iy] at h |-;rw[HT.lexLt_cons] at h;by_cases z:ns[b]=ns[a]
  .lia
  .rw[KH z] at h;have:=of_decide_eq_false h;lia
 .rw[cq];refine rS λi hi=>?_;have:=hb i hi;simp[List.getD,this]
def EJ (K:Frag):List V->Hp->VK->Prop:=λxs H Q=>∃(a:Addr) (ys:List V) (ks:List (List Int)),xs=[.ref a]/\SqL K H a ys/\Tups K H ys ks/\ys.length<5000/\
 ∀p (ix:List Nat),H p=none->ix.Perm (List.range ys.length)->(ix.map λi=>ks.getD i []).Pairwise (λa b=>HT.lexLt b a=false)->Q (.ref p) (upd H p (.lst (ix.map λi=>ys.getD i .non)))
theorem yW:cL X (.builtin "sorted") (EJ []):=by intro pins s Z H xs us Q I r h;obtain⟨a,ys,ks,rfl,hq,ht,hz,q⟩:=h;exact yY pins s Z H _ us Q I r ⟨a,_,_,rfl,hq,.inr ht,hz,q⟩
end
def DAt (h:Heap) (d:Addr) (es:Array DictEntry) (ep:Nat):Prop:=∃o,h.get? d=some o/\o.ExactDict/\o.data=.dict es ep
theorem DAt.lt {h:Heap} {d:Addr} {es:Array DictEntry} {ep:Nat} (x:DAt h d es ep):d<h.objs.size:=let ⟨_,e,_⟩:=x;aK e
theorem DAt.at {h h':Heap} {d:Addr} {es:Array DictEntry} {ep:Nat} (x:DAt h d es ep) (k:∀o,h.get? d=some o->h'.get? d=some o):DAt h' d es ep:=let ⟨o,e,r⟩:=x;⟨o,k o e,r⟩
theorem DAt.ty {d:Addr} {es:Array DictEntry} {ep:Nat} (x:DAt s.heap d es ep):s.TypeIs (.ref d) "dict":=let ⟨o,e,c,_⟩:=x;⟨o,e,c.1⟩
section
variable {prog:Program} {d it:Addr} {es:Array DictEntry} {ep i:Nat}
theorem qZ {Q:Value->Shared->Prop} (lo:(d==sysModules)=false) (m:DAt s.heap d es ep)
  (q:Q (.ref s.heap.objs.size) {s with heap:=s.heap.push {cls:=.type "dict_keyiterator",data:=.fields #[.ref d,.int 0 0,.int es.size 0,.int ep 0]}}):wpAny (model prog w) A (pyIter (.ref d)) Q E s:=by
 obtain⟨o,eo,_,ed⟩:=id m;refine JG m.ty IM (jh IM m.ty PySem.F.entry_dict_iter ?tree (PySem.F.args_dict_iter_1 _));unfold Builtin.«dict.__iter__» Builtin.Dict.dictSlotNone;refine af (af (JB m.ty ?_));refine aq (show wpAny _ _ (Builtin.Dict.showsAll d >>= _) _ _ s from ?_);unfold Builtin.Dict.showsAll;rw[KH (show ¬(d==sysModules)=true by rw[lo];simp)];refine af (aq (af (nv eo ed (af (ny eo ed ?_)))));refine af (fX (aq ⟨_,rfl,"dict_keyiterator",_,⟨_,bP _ rfl,rfl⟩,pF.lookup,?_⟩));simpa [rawInt] using q
theorem xy {Q:Option Value->Shared->Prop} (hit:s.heap.IsKeyIter it d i es.size ep) (m:DAt s.heap d es ep) (hi:i<es.size)
  (q:∀h',h'.IsKeyIter it d (i+1) es.size ep->Heap.SameBut it s.heap h'->Q (some es[i].key) {s with heap:=h'}):wpAny (model prog w) A (pyNext (.ref it)) Q E s:=by
 obtain⟨o,ho,hc,hd⟩:=id hit;obtain⟨od,eo,_,ed⟩:=id m;unfold pyNext;refine af (jg (sO (name:=Str.ofString "__next__") hit.typeIs pF (jh pF hit.typeIs IJ ?tree (IG _))));refine af (aq (af (af ?_)))
 first|refine af (sT hit.typeIs (aq (af (ji ho hd ?_))))|refine af (sV hit.typeIs (aq (af (ji ho hd ?_))))
 simp only[show Builtin.Dict_items.ownsTuple "dict_keyiterator" = false by decide,mJ,if_false];refine (show wpAny _ _ (if (Value.ref d==Value.none)=true then _ else _) _ _ s from ?_);rw[KH (show ¬(Value.ref d==Value.none)=true from bN)];refine af (aq (af (nv eo ed ?_)));rw[KH (by simp)];refine af (aq (af (ny eo ed ?_)));rw[KH (by simp)];refine aq ?_;simp only[show ¬((i:Int)<0) by lia,if_false,mU,xB hi];refine af ?_
 first|refine af (sT hit.typeIs (aq (af (yO hit.typeIs ?_))))|refine af (sV hit.typeIs (aq (af (yO hit.typeIs ?_))))
 show wpAny _ _ (setField (.ref it) 1 (rawInt ((i:Int)+1)) >>= _) _ _ s;refine af (jk ho hd (by simp) ?_);have t':(s.heap.update it (Obj.mapFields (·.setIfInBounds 1 (rawInt ((i:Int)+1))))).IsKeyIter it d (i+1) es.size ep:=
  ⟨_,iy _ ho (sq (pC hd _)),(Iu ..).trans hc,by rw[pC hd];simp[rawInt]⟩
 refine af (eg (af (yO (s:={s with heap:=s.heap.update it (Obj.mapFields (·.setIfInBounds 1 (rawInt ((i:Int)+1))))}) t'.typeIs ?_)));show wpAny _ _ (pure es[i].key) _ _ _;exact aq (aq ⟨_,rfl,aq (q _ t' (xG ..))⟩)
theorem dEnd {Q:Option Value->Shared->Prop} (hh:A.handled=none) (hit:s.heap.IsKeyIter it d i es.size ep) (m:DAt s.heap d es ep) (hi:es.size<=i)
  (q:∀h',Heap.ExtBut it s.heap h'->Q none {s with heap:=h'}):wpAny (model prog w) A (pyNext (.ref it)) Q E s:=by
 obtain⟨o,ho,hc,hd⟩:=id hit;obtain⟨od,eo,_,ed⟩:=id m;unfold pyNext;refine af (jg (sO (name:=Str.ofString "__next__") hit.typeIs pF (jh pF hit.typeIs IJ ?tree (IG _))));refine af (aq (af (af ?_)))
 first|refine af (sT hit.typeIs (aq (af (ji ho hd ?_))))|refine af (sV hit.typeIs (aq (af (ji ho hd ?_))))
 simp only[show Builtin.Dict_items.ownsTuple "dict_keyiterator" = false by decide,mJ,if_false];refine (show wpAny _ _ (if (Value.ref d==Value.none)=true then _ else _) _ _ s from ?_);rw[KH (show ¬(Value.ref d==Value.none)=true from bN)];refine af (aq (af (nv eo ed ?_)));rw[KH (by simp)];refine af (aq (af (ny eo ed ?_)));rw[KH (by simp)];refine aq ?_;simp only[show ¬((i:Int)<0) by lia,if_false,mU,Hr hi];refine af ?_
 first|refine af (sT hit.typeIs (aq ?_))|refine af (sV hit.typeIs (aq ?_))
 refine (show wpAny _ _ (setField (.ref it) 0 .none >>= _) _ _ s from af (jk ho hd (by simp) ?_));show wpAny _ _ (newExc (.type "StopIteration") [] >>= _) _ _ _;refine af ?_;simp only[newExc,newTuple];refine af (fX (af (m:=firstArgMember _ _) (kd (a:=Value.none) (by first|rfl|(simp only[firstArgMember];rfl)) (fX ?_ (by size_fits)))) (by size_fits));simp only[raiseNew];refine af (wpAny_handled ?_);rw[show A.in1.handled=none from hh];refine af (aq (wpAny_throw ?_));refine af (Jx (b:=true) (T:="StopIteration") ⟨_,bP _ rfl,rfl⟩ Jg ?_);exact aq (q _ (((xG ..).extBut.push _).push _))
theorem w8 (hh:A.handled=none) (I:Addr) (hne:d≠I):Walks prog w A I [I,d] [I] es.size (λi v=>∃(h:i<es.size),v=es[i].key) (λi h=>h.IsKeyIter I d i es.size ep/\DAt h d es ep) where
 sub:=λb hb=>by simp at hb;simp[hb]
 frame:=λ_ _ _ st hk=>⟨st.1.at λo e=>hk I (by simp) o e,st.2.at λo e=>hk d (by simp) o e⟩
 item:=λi s Q E hi st hQ=>xy st.1 st.2 hi λh' t' sb=>hQ _ h' s.toks ⟨hi,rfl⟩ ⟨t',st.2.at λo e=>(sb.2 d hne).trans e⟩ λb o hb e=>sb.extBut b o (λh=>hb (by simp[h])) e
 done:=λs Q E st hQ=>dEnd hh st.1 st.2 (ar _) λh' x=>hQ h' s.toks λb o hb e=>x b o (λh=>hb (by simp[h])) e
 self:=λ_ _ _ _ st hQ=>JD st.1 hQ
theorem dSrc (lo:(d==sysModules)=false):KdlSrc prog w "dict" d d es.size (λi v=>∃(h:i<es.size),v=es[i].key) (λh=>DAt h d es ep) where
 type:=λ_ m=>m.ty
 there:=λ_ m=>⟨m.lt,m.lt⟩
 keep:=λ_ _ m hk=>m.at λo e=>hk d (.inl rfl) o e
 notList:=by decide
 notTuple:=by decide
 hint:=λ_ _ _ _ m hq=>kdl_hint_dict m.ty hq
 iter:=λ_ _ hh m=>⟨_,_,(λ_ _ hq=>qZ lo m hq),w8 hh _ (bJ m.lt),⟨⟨_,bP _ rfl,rfl,rfl⟩,m.at λo e=>aR _ e⟩⟩
end
end L2
end
section
namespace L2
open PySem PySem.Spec PyProof.Rows PySem.W
def DKeys (H:Hp) (d:Addr) (ks vs:List V):Prop:=
 (∃kvs,H d=some (.dK kvs)/\ks=kvs.map (λp=>kV p.1)/\vs=kvs.map (·.2)) \/
 ∃kvs as,H d=some (.dT kvs)/\Paired (λ(p:List Key×V) a=>H a=some (.tup (p.1.map kV))) kvs as/\ks=as.map V.ref/\vs=kvs.map (·.2)
def DIs (H:Hp) (d:Addr):Prop:=(∃kvs,H d=some (.dK kvs))\/∃kvs,H d=some (.dT kvs)
theorem dview {d:Addr} (I:Inv X pins Z H s) (hd:DIs H d) :
  (d==sysModules)=false/\∃ks vs es ep,DKeys H d ks vs/\ks.length<=sizeLine/\DAt s.heap d es ep/\Vals ks (es.toList.map (·.key))/\Vals vs (es.toList.map (·.val)):=by
 rcases hd with ⟨kvs,e⟩|⟨kvs,e⟩
 .obtain⟨z,lo,us,rel,o,es,ep,h1,h2,h3,_,h5,_⟩:=ml I.hok e;refine⟨lo,_,_,es,ep,.inl ⟨kvs,e,rfl,rfl⟩,by rw[aC];exact z,⟨o,h1,h2,h3⟩,?_⟩;generalize es.toList=l at h5;have go:∀{kvs:List (Key×V)} {us:List (Key×Value)} {l:List DictEntry},KV kvs us->Pairs (cV X.prog X.w) l us->Vals (kvs.map λp=>kV p.1) (l.map (·.key))/\Vals (kvs.map (·.2)) (l.map (·.val)):=by
   intro kvs us l r;induction r generalizing l with
   |nil=>intro p;cases p;exact⟨.nil,.nil⟩
   | @cons a b l1 l2 h1 h2 ih=>
    intro p;cases p with
    |cons p1 p2 p3=>
     obtain⟨i1,i2⟩:=ih p3;refine⟨.cons ?_ i1,.cons ?_ i2⟩
     .dsimp only;rw[h1.1];rcases eZ p1 with ⟨i,t,e1,e2⟩|⟨x,t,e1,e2⟩
      .rw[e1,e2];exact⟨t,rfl⟩
      .rw[e1,e2];exact⟨t,rfl⟩
     .dsimp only;rw[p2];exact h1.2
  exact go rel h5
 .obtain⟨z,lo,xs,rel,o,es,ep,h1,h2,h3,h4,hz⟩:=xx I.hok e;clear hz;have go:∀{kvs:List (List Key×V)} {xs:List (List Key×Addr×Value)},KT H kvs xs->Paired (λ(p:List Key×V) a=>H a=some (.tup (p.1.map kV))) kvs (xs.map (·.2.1))/\Vals (kvs.map (·.2)) (xs.map (·.2.2)):=by
   intro kvs xs r;induction r with
   |nil=>exact⟨.nil,.nil⟩
   |cons h1 h2 ih=>exact⟨.cons h1.2.1 ih.1,.cons h1.2.2 ih.2⟩
  obtain⟨g1,g2⟩:=go rel;have hl:=ng g1;refine⟨lo,_,_,es,ep,.inr ⟨kvs,_,e,g1,rfl,rfl⟩,by rw[aC,<-hl];exact z,⟨o,h1,h2,h3⟩,?_,?_⟩
  .rw[h4,cq,cq];clear h4 rel g1 g2 hl;induction xs with
   |nil=>exact .nil
   |cons x r ih=>exact .cons rfl ih
  .rw[h4,cq];exact g2
abbrev oP (X:Cx):Cx:={X with A:=X.A.in1}
section
theorem Inv.toIn1 (I:Inv X pins Z H s):Inv (oP X) pins Z H s:=
 ⟨⟨I.ok.mod,I.ok.kind,I.ok.glob,I.ok.blt,I.ok.above,I.ok.inj,I.ok.has,I.ok.cab,I.ok.hd,I.ok.frames,I.ok.stk,I.ok.exf,I.ok.bs,I.ok.bsz,I.ok.noex,I.ok.exfs,I.ok.funs,I.ok.frf⟩,I.os,I.bare,I.base,I.loc,I.cell,I.free,I.freeC,I.pin,I.hok,I.len⟩
theorem Inv.ofIn1 (I:Inv (oP X) pins Z H s):Inv X pins Z H s:=
 ⟨⟨I.ok.mod,I.ok.kind,I.ok.glob,I.ok.blt,I.ok.above,I.ok.inj,I.ok.has,I.ok.cab,I.ok.hd,I.ok.frames,I.ok.stk,I.ok.exf,I.ok.bs,I.ok.bsz,I.ok.noex,I.ok.exfs,I.ok.funs,I.ok.frf⟩,I.os,I.bare,I.base,I.loc,I.cell,I.free,I.freeC,I.pin,I.hok,I.len⟩
end
section
def vQ (K:Frag):V->List V->Hp->VK->Prop:=λx vs H Q=>∃(l:Addr) (ys:List V) (ks:List (List Int)),x=.ref l/\vs=[]/\H l=some (.lst ys)/\Ky K H ys ks/\ys.length<5000/\
 ∀(ix:List Nat),ix.Perm (List.range ys.length)->(ix.map λi=>ks.getD i []).Pairwise (λa b=>HT.lexLt b a=false)->Q .non (upd H l (.lst (ix.map λi=>ys.getD i .non)))
theorem tq:MtM X "list.sort" (vQ []):=by
 intro pins s Z H x vs v us Q I rx rv h;obtain⟨l,ys,ks,rfl,rfl,hl,hy,hz,q⟩:=h;cases rx;cases rv;obtain⟨z,its,n,r,hlen,e⟩:=I.lstM hl;have hn:=r.length;obtain⟨κ,hr,ask⟩:=wR I hy r;have old:∀b o,s.heap.get? b=some o->o.cls=.type "tuple"->(fh s.heap l its).get? b=some o:=λb o hb hc=>by
  refine aR _ (aR _ ?_);rw[oZ _ _ _ _ (λy=>by rw[y,e] at hb;cases hb;exact absurd (show Value.type "list" = Value.type "tuple" from hc) (by decide))];exact hb
 refine jh Jl ⟨_,e,rfl⟩ Je (um (κ:=κ) (rk:=rkV s.heap) e (by rw[dv];lia) (λh2=>(ask _ old h2).1) (λh2=>(ask (E:=λ_ _=>False) _ old h2).2) λout p1 p2=>⟨_,rfl,?_⟩) (Jc _);obtain⟨ix,x1,x2,x3⟩:=wQ r hr p1 p2;obtain⟨e',he⟩:=sortedHeap_at (out:=out.toArray) e;exact⟨.non,_,I.write (x:=l) (e:=l) (o:=.lst (ix.map λi=>ys.getD i .non)) (t':=s.toks) (by rw[hl];exact True.intro) (.inl rfl) (λb u hb q=>(sortedHeap_old hb (aK q)).trans q) ⟨_,he⟩ ⟨by rw[aC,x1.length_eq,mY,dv];lia,out,e',x3,by rw[he]⟩,rfl,q ix x1 x2⟩
end
theorem Tups.mono {K:Frag} {ys:List V} {ks:List (List Int)} (h:Tups K H ys ks) (k:∀a xs,H a=some (.tup xs)->H' a=some (.tup xs)) (kf:∀a o xs,H a=some (.frz o (.tup xs))->H' a=some (.frz o (.tup xs))):Tups K H' ys ks:=by
 refine Paired.mapP h λy z ⟨b,e,q,n⟩=>⟨b,e,?_,n⟩;rcases q with (q|⟨o,q⟩)|q
 .exact .inl (.inl (k _ _ q))
 .exact .inl (.inr ⟨o,kf _ _ _ q⟩)
 .exact .inr q
theorem uP {K:Frag} {D:Addr} {ks:List V} {Q:V->Hp->Prop} (hn:H D=none)
  (k:(∃ns:List Int,ks=ns.map V.int/\ns.length<5000/\∀(p:Addr) (ms:List Int),H p=none->ms.Perm ns->ms.Pairwise (·<=·)->Q (.ref p) (upd H p (.lst (ms.map V.int)))) \/
   ∃kz:List (List Int),Tups K H ks kz/\ks.length<5000/\∀(p:Addr) (ix:List Nat),H p=none->ix.Perm (List.range ks.length)->(ix.map λi=>kz.getD i []).Pairwise (λa b=>HT.lexLt b a=false)->Q (.ref p) (upd H p (.lst (ix.map λi=>ks.getD i .non)))) :
  vQ K (.ref D) [] (upd H D (.lst ks)) λ_ H'=>Q (.ref D) H':=by
 rcases k with ⟨ns,e0,hl,q⟩|⟨kz,ht,hl,q⟩
 .subst e0;refine⟨D,_,_,rfl,rfl,aO,Fb ns,by rw[aC];exact hl,λix h1 h2=>?_⟩;obtain⟨ms,m1,m2,m3⟩:=Fj h1 h2;rw[vy,m3];exact q D ms hn m1 m2
 .refine⟨D,ks,kz,rfl,rfl,aO,.inr (ht.mono (λb xs e=>by rw[aj (ak e hn)];exact e) λb o xs e=>by rw[aj (ak e hn)];exact e),hl,λix h1 h2=>?_⟩;rw[vy];exact q D ix hn h1 h2
section
def EL (K:Frag):List V->Hp->VK->Prop:=λxs H Q=>∃a:Addr,xs=[.ref a]/\DIs H a/\∀ks vs,DKeys H a ks vs->
 (∃ns:List Int,ks=ns.map V.int/\ns.length<5000/\∀(p:Addr) (ms:List Int),H p=none->ms.Perm ns->ms.Pairwise (·<=·)->Q (.ref p) (upd H p (.lst (ms.map V.int)))) \/
 ∃kz:List (List Int),Tups K H ks kz/\ks.length<5000/\∀(p:Addr) (ix:List Nat),H p=none->ix.Perm (List.range ks.length)->(ix.map λi=>kz.getD i []).Pairwise (λa b=>HT.lexLt b a=false)->Q (.ref p) (upd H p (.lst (ix.map λi=>ks.getD i .non)))
theorem tJ {α:Type} {l m:List α} (hl:l.length=m.length) (h:∀(j:Nat) (v:α),l[j]?=some v->m[j]?=some v):l=m:=by
 refine xM λi=>?_;cases e:l[i]? with
 |some v=>rw[h i v e]
 |none=>
  have:l.length<=i:=Ic.mp e;exact (Ic.mpr (by lia)).symm
theorem nA (hc:X.calm=true):cL X (.builtin "sorted") (EL []):=by
 intro pins s Z H xs us Q I r h;obtain⟨a,rfl,hd,k⟩:=h;obtain⟨u,rfl,ru⟩:=Vals.one r;cases ru;obtain⟨lo,ks,vs,es,ep,dk,hz,dm,r1,r2⟩:=dview I hd;obtain⟨m,F⟩:=I.fr;have hl1:ks.length=es.size:=by have:=r1.length;simpa using this
 refine kdu_sorted (dSrc (es:=es) (ep:=ep) lo) (I.ok.hd hc) F (qa (g:=X.base) (L:=X.env.locals)) dm (by rw[<-hl1];exact hz) λD h' tk vs' F' N' hD hl hv=>?_;obtain⟨k1,k2⟩:=I.newsKept (t':=s.toks) (more:=[(D,listOf vs'.toArray 0)]) F F' N';have nD:=N' (D,listOf vs'.toArray 0) (.head _);have hD0:s.heap.get? D=none:=by
  cases e:s.heap.get? D with
  |none=>rfl
  |some o=>exact absurd (hD (D,o) (pN nD.2.1 nD.2.2 e)) (ef _)
 have ev:vs'=es.toList.map (·.key):=by refine tJ (by rw[hl];simp) λj v e=>?_;obtain⟨hj,rfl⟩:=hv j v e;rw[bp];simp[hj]
 have I':Inv X pins Z (upd H D (.lst ks)) {s with heap:=h',toks:=tk}:=I.laidN (t':=tk) k1 k2 hD0 (λH'=>⟨hz,vs',0,by rw[ev];exact r1,nD.1⟩) (λ_ _ z=>by cases z);have z:=tq (X:=oP X) pins _ Z _ (.ref D) [] (.ref D) [] (λ_ H'=>Q (.ref D) H') I'.toIn1 rfl .nil (uP (I.hok.none_of hD0) (k ks vs dk));exact thn z λ_ s' ⟨_,H',J,_,q'⟩=>⟨.ref D,H',J.ofIn1,rfl,q'⟩
end
section
def BG (x:V) (vs:List V) (H:Hp) (Q:VK) (l:Addr) (xs:List V) (i:Nat) (y:V):Prop:=x=.ref l/\vs=[.int i,y]/\H l=some (.lst xs)/\i<=xs.length/\xs.length<sizeLine/\WrO H l (.lst (xs.take i++y::xs.drop i)) (Q .non)
def Dk:V->List V->Hp->VK->Prop:=λx vs H Q=>Exists (Ex4 (BG x vs H Q))
theorem DN {i n:Nat} (hi:i<=n) (hz:n<sizeLine):¬(!Builtin.List.listFitsIndex (i:Int))=true:=by rw[dv] at hz;have f:=Jf (k:=(i:Int)) (by lia) (by lia);intro y;rw[f] at y;cases y
theorem Ca {prog:Program} {w:World} {A:Around} {E:Value->Shared->Prop} {Q:Value->Shared->Prop} {l:Addr} {its:Array Value} {n:Nat} {i:Int} {t:Tok} {u2:Value} (hT:s.TypeIs (Value.ref l) "list") (hfit:¬(!Builtin.List.listFitsIndex i)=true) (hsz:its.size<=sizeLine)
  (e:s.heap.get? l=some {cls:=.type "list",data:=.seq its n})
  (h:Q .none {s with heap:=s.heap.update l (Obj.mapSeq λxs=>(xs.extract 0 (if i<0 then (i+(xs.size:Int)).toNat else min i.toNat xs.size)).push u2++xs.extract (if i<0 then (i+(xs.size:Int)).toNat else min i.toNat xs.size))}) :
  wpAny (model prog w) A (call (Value.builtin "list.insert") [Value.ref l,Value.int i t,u2]) Q E s:=
 yx j9 hT PySem.F.entry_list_insert (PySem.F.args_list_insert_3 _ _ _) (JS l its n i t u2 hfit hsz) ⟨e,h⟩
theorem jq:MtM X "list.insert" Dk:=by
 intro pins s Z H x vs v us Q I rx rv h;obtain⟨l,xs,i,y,rfl,rfl,hH,hi,hz,q⟩:=h;cases rx;obtain⟨u1,u2,rfl,r1,r2⟩:=rv.two;obtain⟨t,rfl⟩:=r1;obtain⟨z,its,n,r,hl,e⟩:=I.lstM hH;have hfit:=DN hi hz;have hsz:its.toArray.size<=sizeLine:=by rw[bU,<-hl];exact z
 refine Ca (s:=s) ⟨_,e,rfl⟩ hfit hsz e ?_;refine⟨.non,_,I.lset (its':=its.take i++u2::its.drop i) hH e ?_ (Vals.append (r.take i) (.cons r2 (r.drop i))) ?_,rfl,q.at⟩
 .have e1:(if (i:Int)<0 then ((i:Int)+(its.toArray.size:Int)).toNat else min (i:Int).toNat its.toArray.size)=i:=by
   rw[KH (by lia),mU,bU];lia
  show ((its.toArray.extract 0 _).push u2++its.toArray.extract _)=_;rw[e1];have hd:(its.drop i).take (its.length-i)=its.drop i:=jb (by rw[i9];exact ar _);simp[List.extract_eq_drop_take,hd]
 .rw[aZ,bQ,cE,i9];lia
def Gu (K:Frag):List V->Hp->VK->Prop:=λxs H Q=>∃(a:Addr) (ns:List Int),xs=[.ref a]/\SqL K H a (ns.map V.int)/\ns≠[]/\∀m,m∈ns->(∀n∈ns,n<=m)->Q (.int m) H
theorem nU (r:Vals xs us) {i:Nat} {v:Value} (e:us[i]?=some v):∃x,xs[i]?=some x/\ax x v:=by
 have hl:=r.length;have hi:i<xs.length:=by have:=(aJ.mp e).1;lia
 obtain⟨u,e1,e2⟩:=r.get (i:=i) (x:=xs[i]) (by simp[hi]);rw[e] at e1;cases e1;exact⟨_,by simp[hi],e2⟩
theorem wU {ns:List Int} (r:Vals (ns.map V.int) us) (i:Nat) (v:Value) (e:us.toArray[i]?=some v):∃t,v=.int (ns.getD i 0) t:=by obtain⟨x,e1,e2⟩:=nU r (i:=i) (v:=v) (by simpa using e);rw[bp] at e1;obtain⟨n,e3,rfl⟩:=cT.mp e1;obtain⟨t,rfl⟩:=e2;exact⟨t,by rw[List.getD,e3];rfl⟩
theorem pL (hc:X.calm=true):cL X (.builtin "max") (Gu []):=by intro pins s Z H xs us Q I r h;obtain⟨a,ns,rfl,hq,hne,q⟩:=h;obtain⟨u,rfl,ru⟩:=Vals.one r;cases ru;obtain⟨its,rv,p,hz⟩:=I.list hq;obtain⟨m,F⟩:=I.fr;refine max_list_N (I.ok.hd hc) F (qa (g:=X.base) (L:=X.env.locals)) p.isList (nF rv) (rR.mpr hne) λh' M t tk F' N' h1 h2=>?_;obtain⟨k1,k2⟩:=I.newsKept (t':=tk) (more:=[]) F F' N';exact⟨.int M,H,I.keptN (t':=tk) k1 k2,⟨t,rfl⟩,q M h1 h2⟩
theorem CD (ns:List Int) (hne:ns≠[]):(ns.getD (argBest (λi j=>decide (ns.getD i 0<ns.getD j 0)) (ns.length-1)) 0)∈ns/\∀n∈ns,ns.getD (argBest (λi j=>decide (ns.getD i 0<ns.getD j 0)) (ns.length-1)) 0<=n:=by
 obtain⟨h1,h2⟩:=argBest_lt (λi=>ns.getD i 0) (ns.length-1);have hp:=rR.mpr hne;refine⟨?_,λn hn=>?_⟩
 .have hb:argBest (λi j=>decide (ns.getD i 0<ns.getD j 0)) (ns.length-1)<ns.length:=by lia
  rw[List.getD,bZ hb];exact pj hb
 .obtain⟨j,hj,rfl⟩:=List.getElem_of_mem hn;have:=h2 j (by lia);have e:ns.getD j 0=ns[j]:=by simp[List.getD,hj]
  rw[e] at this;exact this
end
end L2
end
section
namespace L2
open PySem PySem.Spec PyProof.Rows
section
def Dh:List V->Hp->VK->Prop:=λxs H Q=>∃j:Int,xs=[.int j]/\∀r,H r=none->Q (.ref r) (upd H r (.rng 0 j))
theorem zc:cL X (.type "range") Dh:=by intro pins s Z H xs us Q I r h;obtain⟨j,rfl,q⟩:=h;obtain⟨u,rfl,t,rfl⟩:=Vals.one r;refine call_range_1 ⟨.ref s.heap.objs.size,upd H s.heap.objs.size (.rng 0 j),I.laid (t':=s.toks+1+1) (λb o e=>aR _ e) (ar _) ⟨_,_,_,bP _ rfl⟩,rfl,q _ (I.hok.fresh (ar _))⟩
def BF:List V->Hp->VK->Prop:=λxs H Q=>∃(a:Addr) (n:Nat),xs=[.ref a]/\H a=some (.rng 0 (n:Int))/\n<=1000/\∀l,H l=none->Q (.ref l) (upd H l (.lst ((List.range n).map λ(i:Nat)=>V.int (i:Int))))
theorem tF (hl:us.length=xs.length) (h:∀(j:Nat) (v:Value),us[j]?=some v->∃x,xs[j]?=some x/\ax x v):Vals xs us:=by
 induction xs generalizing us with
 |nil=>cases us with
  |nil=>exact .nil
  |cons _ _=>simp at hl
 |cons x xs ih=>cases us with
  |nil=>simp at hl
  |cons u us=>
   obtain⟨y,e,r⟩:=h 0 u rfl;cases e;exact .cons r (ih (by simpa using hl) λj v e=>by simpa using h (j+1) v (by simpa using e))
theorem zl (hc:X.calm=true):cL X (.type "list") BF:=by
 intro pins s Z H xs us Q I r h;obtain⟨a,n,rfl,ha,hn,q⟩:=h;obtain⟨u,rfl,ru⟩:=Vals.one r;cases ru;obtain⟨t1,t2,t3,e⟩:=(show aQ X.prog X.w H s.heap a (.rng 0 (n:Int)) from I.hok a _ ha);have hr:IsRange s.heap a 0 (n:Int) 1 t1 t2 t3:=e;have hsz:Builtin.Range.rangeSize 0 (n:Int) 1=(n:Nat):=by rw[rangeSize_one];split<;>lia
 refine call_list_range (I.ok.hd hc) hr (small_one (by lia) (by lia) (by lia) (by lia)) hsz (by lia) λh' tk acc c kp e' it=>?_;have hp:s.heap.objs.size<=s.heap.objs.size:=ar _;refine⟨.ref s.heap.objs.size,upd H s.heap.objs.size (.lst ((List.range n).map λ(i:Nat)=>V.int (i:Int))),I.laid (t':=tk) kp hp ⟨by simp;rw[dv];lia,acc.toList,c,tF (by simp[it.1]) λj v ej=>?_,by rw[e']⟩,rfl,q _ (I.hok.fresh hp)⟩;obtain⟨tv,hv⟩:=it.2 j v (by simpa using ej);have hj:j<n:=by have:=(aJ.mp ej).1;rw[gB,it.1] at this;exact this
 refine⟨.int (j:Int),by simp[hj],tv,?_⟩;rw[hv];simp
def rAll (K:W.Frag):List V->Hp->VK->Prop:=λxs H Q=>∃(a:Addr) (bs:List Bool),xs=[.ref a]/\SqL K H a (bs.map V.bl)/\Q (.bl (bs.all id)) H
theorem sX (hc:X.calm=true):cL X (.builtin "all") (rAll []):=by
 intro pins s Z H xs us Q I r h;obtain⟨a,bs,rfl,hq,q⟩:=h;obtain⟨u,rfl,ru⟩:=Vals.one r;cases ru;obtain⟨its,rv,p,hz⟩:=I.list hq;have hl:=rv.length;rw[aC] at hl;have hil:=p.isList;have hlt:a<s.heap.objs.size:=by obtain⟨_,e,_⟩:=hil;exact aK e
 refine call_all_walk (yS hil ?_);refine⟨s.heap.objs.size,_,_,_,_,_,(λi=>bs.getD i false),rfl,Ja (A:=X.A.in1) (I.ok.hd hc) _ a (bJ hlt) its.toArray,⟨⟨_,bP _ rfl,rfl,rfl⟩,hil.push _⟩,λi v s' Q' E' hP hQ=>?_,λh' tk hk=>?_⟩
 .obtain⟨x,e1,e2⟩:=nU rv (i:=i) (v:=v) (by simpa using hP);rw[bp] at e1;obtain⟨b,e3,rfl⟩:=cT.mp e1;cases e2;have:bs.getD i false=b:=by rw[List.getD,e3];rfl
  dsimp only at hQ;rw[this] at hQ;exact jl hQ
 .have e:(List.range its.toArray.size).all (λi=>bs.getD i false)=bs.all id:=by
   rw[bU,<-hl];have e2:bs=(List.range bs.length).map λi=>bs.getD i false:=by refine xK (by simp) λi h1 h2=>?_;simp[h1]
   conv=>rhs;rw[e2,HQ]
   rfl
  rw[e];exact⟨.bl _,H,I.kept (t':=tk) λb o e=>hk b o (λz=>by rw[aV.mp z] at e;exact absurd (aK e) (ef _)) (aR _ e),rfl,q⟩
def Ax:List V->Hp->VK->Prop:=λxs H Q=>∃(a:Addr) (kvs:List (Key×V)),xs=[.ref a]/\Rd H a (.dK kvs)/\∀p,H p=none->Q (.ref p) (upd H p (.dK kvs))
theorem ze:cL X (.type "dict") Ax:=by intro pins s Z H xs us Q I r h;obtain⟨a,kvs,rfl,ha,q⟩:=h;obtain⟨u,rfl,ru⟩:=Vals.one r;cases ru;exact Cw I ha λp s' hp I'=>⟨.ref p,_,I',rfl,q p hp⟩
end
mutual
inductive Dt (K:W.Frag) (H:Hp):V->PyData->Prop
 |non:Dt K H .non .none
 |bl (b:Bool):Dt K H (.bl b) (.bool b)
 |int (i:Int):Dt K H (.int i) (.int i)
 |str (x:Str) (h:(PyData.str x).canLay0=true):Dt K H (.str x) (.str x)
 |lst {a:Addr} {xs:List V} {ds:List PyData} (h:SqL K H a xs) (r:Dts K H xs ds):Dt K H (.ref a) (.list ds)
 |tup {a:Addr} {xs:List V} {ds:List PyData} (h:SqT K H a xs) (r:Dts K H xs ds):Dt K H (.ref a) (.tuple ds)
inductive Dts (K:W.Frag) (H:Hp):List V->List PyData->Prop
 |nil:Dts K H [] []
 |cons {x:V} {d:PyData} {xs:List V} {ds:List PyData} (h:Dt K H x d) (r:Dts K H xs ds):Dts K H (x::xs) (d::ds)
end
section
theorem Dts.reads (I:Inv X pins Z H s) (ds:List PyData) (xs:List V) (us:List Value) (h:Dts [] H xs ds) (r:Vals xs us):∃as,ReadsAll s.heap us ds as:=
 Dts.rec (motive_1:=λv d _=>∀u,ax v u->∃as,Reads s.heap u d as) (motive_2:=λxs ds _=>∀us,Vals xs us->∃as,ReadsAll s.heap us ds as)
  (λu r=>by cases r;exact⟨_,.none⟩) (λb u r=>by cases r;exact⟨_,.bool b⟩) (λi u r=>by obtain⟨t,rfl⟩:=r;exact⟨_,.int i t⟩) (λx _ u r=>by obtain⟨t,rfl⟩:=r;exact⟨_,.str x t⟩)
  (λh _ ih u r=>by
   cases r;obtain⟨its,rv,⟨o,n,e,c,_,dd⟩,_⟩:=I.list h;obtain⟨as,q⟩:=ih _ rv;exact⟨_,.list e c dd (by simpa using q)⟩)
  (λh _ ih u r=>by
   cases r;obtain⟨its,rv,⟨o,e,c,n,dd⟩,_⟩:=I.tuple h;obtain⟨as,q⟩:=ih _ rv;exact⟨_,.tuple e c dd (by simpa using q)⟩)
  (λu r=>by cases r;exact⟨_,.nil⟩)
  (λ_ _ ih ihs us r=>by
   cases r with
   |cons r rs=>
    obtain⟨as,q⟩:=ih _ r;obtain⟨bs,p⟩:=ihs _ rs;exact⟨_,.cons q p⟩) h us r
theorem Dt.reads (I:Inv X pins Z H s) (d:PyData) (v:V) (u:Value) (h:Dt [] H v d) (r:ax v u):∃as,Reads s.heap u d as:=by
 obtain⟨as,q⟩:=Dts.reads I _ _ _ (.cons h .nil) (.cons r .nil);cases q with
 |cons q _=>exact⟨_,q⟩
theorem Dts.can (ds:List PyData) (xs:List V) (h:Dts K H xs ds):PyData.canLayAll0 ds=true:=
 Dts.rec (motive_1:=λv d _=>d.canLay0=true) (motive_2:=λxs ds _=>PyData.canLayAll0 ds=true) rfl (λ_=>rfl) (λ_=>rfl) (λ_ h=>h) (λ_ _ ih=>ih) (λ_ _ ih=>ih) rfl
  (λ_ _ ih ihs=>by rw[PyData.canLayAll0,ih,ihs];rfl) h
theorem Dt.can (d:PyData) (v:V) (h:Dt K H v d):d.canLay0=true:=by
 have:=Dts.can _ _ (.cons h .nil)
 rwa [PyData.canLayAll0,PyData.canLayAll0,Bool.and_true] at this
mutual
def fS:PyData->Bool
 |.bool _=>false
 |.list ds=>f_ ds
 |.tuple ds=>f_ ds
 |.dict _=>false
 |_=>true
def f_:List PyData->Bool
 | []=>true
 |d::ds=>fS d&&f_ ds
end
mutual
theorem v_:∀(d e:PyData),fS d=true->fS e=true->(PyData.eqv d e=true↔d=e)
 |.none,e,_,h=>by cases e<;>simp[PyData.eqv]
 |.bool b,_,h,_=>nomatch h
 |.int i,e,_,h=>by
  cases e with
  |bool _=>exact nomatch h
  |_=>simp[PyData.eqv]
 |.str i,e,_,h=>by
  cases e with
  |bool _=>exact nomatch h
  |_=>simp[PyData.eqv]
 |.list xs,e,h1,h=>by
  cases e with
  |list ys=>rw[PyData.eqv,pR xs ys h1 h];simp
  |_=>simp[PyData.eqv]
 |.tuple xs,e,h1,h=>by
  cases e with
  |tuple ys=>rw[PyData.eqv,pR xs ys h1 h];simp
  |_=>simp[PyData.eqv]
 |.dict _,_,h,_=>nomatch h
theorem pR:∀(ds es:List PyData),f_ ds=true->f_ es=true->(PyData.eqvAll ds es=true↔ds=es)
 | [],[],_,_=>by simp[PyData.eqvAll]
 | [],_::_,_,_=>by simp[PyData.eqvAll]
 |_::_,[],_,_=>by simp[PyData.eqvAll]
 |d::ds,e::es,h1,h2=>by
  have a1:fS d=true/\f_ ds=true:=by simpa [f_] using h1
  have a2:fS e=true/\f_ es=true:=by simpa [f_] using h2
  rw[PyData.eqvAll,eC,v_ d e a1.1 a2.1,pR ds es a1.2 a2.2];simp
end
def GJ (K:W.Frag) (neg:Bool) (x y:V) (H:Hp) (Q:VK) (d e:PyData):Prop:=Dt K H x d/\Dt K H y e/\d.depth<=60/\Q (.bl (if neg then !PyData.eqv d e else PyData.eqv d e)) H
def rEqD (K:W.Frag) (neg:Bool):R2:=λx y H Q=>Exists (Ex2 (GJ K neg x y H Q))
theorem min60 {u a b:Nat} (h:u+64<cLine) (h':a<=60):u+min a b<cLine:=by have:min a b<=a:=Nat.min_le_left _ _;lia
theorem wM (hu:X.A.units+64<cLine):OpR X (compareOp .Eq) (rEqD [] false):=by intro pins s Z H x y v u Q I rx ry h;obtain⟨d,e,hd,he,hz,q⟩:=h;obtain⟨as,ra⟩:=Dt.reads I d x v hd rx;obtain⟨bs,rb⟩:=Dt.reads I e y u he ry;exact Kj ra rb (Dt.can d x hd) (Dt.can e y he) (min60 hu hz) ⟨.bl _,H,I,rfl,q⟩
theorem oC (hu:X.A.units+64<cLine):OpR X (compareOp .NotEq) (rEqD [] true):=by intro pins s Z H x y v u Q I rx ry h;obtain⟨d,e,hd,he,hz,q⟩:=h;obtain⟨as,ra⟩:=Dt.reads I d x v hd rx;obtain⟨bs,rb⟩:=Dt.reads I e y u he ry;exact Kk ra rb (Dt.can d x hd) (Dt.can e y he) (min60 hu hz) ⟨.bl _,H,I,rfl,q⟩
def Gz (K:W.Frag) (neg:Bool) (x y:V) (H:Hp) (Q:VK) (d:PyData) (a:Addr) (xs:List V) (ds:List PyData):Prop:=Dt K H x d/\y=.ref a/\(SqL K H a xs\/SqT K H a xs)/\Dts K H xs ds/\d.depth<=60/\
 Q (.bl (if neg then !(ds.any λz=>PyData.eqv z d) else ds.any λz=>PyData.eqv z d)) H
def rD (K:W.Frag) (neg:Bool):R2:=λx y H Q=>Exists (Ex4 (Gz K neg x y H Q))
theorem min61 {u a b:Nat} (h:u+64<cLine) (h':b<=60):u+1+min a b<cLine:=by have:min a b<=b:=Nat.min_le_right _ _;lia
theorem qQ (hu:X.A.units+64<cLine):OpR X (compareOp .In) (rD [] false):=by
 intro pins s Z H x y v u Q I rx ry h;obtain⟨d,a,xs,ds,hd,rfl,hq,hs,hz,q⟩:=h;cases ry;obtain⟨as,ra⟩:=Dt.reads I d x v hd rx;rcases hq with hq|hq
 .obtain⟨bs,rb⟩:=Dt.reads I (.list ds) (.ref a) _ (.lst hq hs) rfl;exact Km rb ra (Dts.can ds _ hs) (Dt.can d x hd) (min61 hu hz) ⟨.bl _,H,I,rfl,q⟩
 .obtain⟨bs,rb⟩:=Dt.reads I (.tuple ds) (.ref a) _ (.tup hq hs) rfl;exact Kn rb ra (Dts.can ds _ hs) (Dt.can d x hd) (min61 hu hz) ⟨.bl _,H,I,rfl,q⟩
end
end L2
end
section
namespace L2
open PySem PySem.Spec PyProof.Rows
section
theorem Inv.turnLaid {h':Heap} {t':Nat} {a:Addr} {o:HO} {ch:List Addr} (I:Inv X pins Z H s) (hch:∀b∈ch,dZ X pins H b) (k:∀b o,b∉ch->s.heap.get? b=some o->h'.get? b=some o)
  (ha:s.heap.get? a=none) (new:∀H',aQ X.prog X.w H' h' a o):Inv X pins Z (upd H a o) {s with heap:=h',toks:=t'}:=by
 have hn:H a=none:=I.hok.none_of ha;have nch:∀b u,H b=some u->b∉ch:=λb u e z=>by
  have:=(hch b z).1;rw[this] at e;cases e
 refine I.step (g':=s.gens) (d':=s.drawn) (ch:=ch) (λb hb=>?_) (λb o _ _ hc e _=>k b o hc e) (λb o _ _ hc e _=>⟨o.slots,k b o hc e⟩) (λb o _ e n=>?_) (λb o hc e=>⟨o,k b o hc e⟩) (λb xs e=>?_) (λb o u e=>?_) (λb ps e=>⟨#[],?_⟩) (λm hm=>?_) (λb u e=>?_) I.bare
 .obtain⟨_,f1,_,f3,f4,f5⟩:=hch b hb;exact⟨f3,f1,f4,f5⟩
 .rw[aj (λz=>by rw[z,ha] at e;cases e)];exact n
 .rw[aj (ak e hn)];exact e
 .rw[aj (ak e hn)];exact e
 .rw[aj (ak e hn),e];simp
 .obtain⟨o,es,ep,ho,r⟩:=hm;exact⟨o,es,ep,k _ o (λz=>(hch _ z).2.1 rfl) ho,r⟩
 .by_cases hb:b=a
  .subst hb;rw[aO] at e;cases e;exact new _
  .rw[aj hb] at e;refine (I.hok b u e).stay (λc v hc q=>k c v ?_ q) (λc q=>by rw[aj (ak q hn)];exact q) λc xs q=>by rw[aj (ak q hn)];exact q
   rcases hc with z|z
   .rw[z];exact nch b u e
   .exact nch c _ z
end
def Ite (K:W.Frag) (a:Addr):It:=
 ⟨λi H=>∃xs x,SqL K H a xs/\xs[i]?=some x,
  λi H v H'=>∃p x,H p=none/\v=.ref p/\H'=upd H p (.tup [.int (i:Int),x])/\∀xs,SqL K H a xs->xs[i]?=some x,
  λi H=>∃xs,SqL K H a xs/\xs.length<=i⟩
theorem Ai {elts:List Expr} {x1} {pos:Pos} (a it e:Addr) (hne:e≠it) :
  Turn P w K (.Tuple elts x1 pos) (Ite [] a) [e,it] e (λi h=>(∃old,IsEnum h e it (i:Int) old)/\h.IsListIter it a i) where
 mem:=by simp
 obj:=λi h st b hb=>by
  obtain⟨⟨old,st1⟩,o,e2,c,d⟩:=st;rcases aT.mp hb with z|z
  .subst z;exact⟨_,st1,λv z=>by
    have z':Data.fields _=Data.cell v:=z;cases z'⟩
  .have z:b=it:=by simpa using z
   subst z;exact⟨o,e2,λv z=>by rw[d] at z;cases z⟩
 keep:=λi h h' st k=>by
  obtain⟨⟨old,st1⟩,st2⟩:=st;exact⟨⟨old,k e (by simp) _ st1⟩,st2.at λo q=>k it (by simp) o q⟩
 item:=by
  intro X hP hw hK hc i pins s Z H E I hf st hg;subst hP hw hK;obtain⟨xs,x,hq,hx⟩:=hg;obtain⟨⟨old,st1⟩,st2⟩:=st;obtain⟨its,rv,p,hz⟩:=I.list hq;obtain⟨u,hu,ru⟩:=rv.get hx;refine wpAny_pyNext_enum_item st1 st2 p.isList (x:=u) (by simpa using hu) hne λh1 heo hit1 ht1 hz1 hk1=>?_;refine⟨_,rfl,?_⟩;refine wpAny_letOwnedTupleGo_enum heo λh2 he2 hs2=>?_;replace hs2:Heap.SameBut e h1 h2:=hs2;have hfr:s.heap.get? s.heap.objs.size=none:=mP (ar _);have hee:e<s.heap.objs.size:=aK st1;have hit2:it<s.heap.objs.size:=by obtain⟨_,q,_⟩:=st2;exact aK q
  have hn:H s.heap.objs.size=none:=I.hok.fresh (ar _);have ht2:h2.get? s.heap.objs.size=some {cls:=.type "tuple",data:=.seq #[.int i s.toks,u]}:=(hs2.2 _ (j4 hee)).trans ht1;have I2:Inv X pins Z (upd H s.heap.objs.size (.tup [.int (i:Int),x])) {s with heap:=h2,toks:=s.toks+1}:=by
   refine I.turnLaid (ch:=[e,it]) hf (λb o hb q=>?_) hfr λH'=>?_
   .have hb1:b≠e:=λz=>hb (by simp[z]);have hb2:b≠it:=λz=>hb (by simp[z]);exact (hs2.2 b hb1).trans (hk1 b o hb1 hb2 q)
   .exact⟨⟨by simp;rw[dv];lia,_,ht2,rfl⟩,[.int i s.toks,u],.cons ⟨_,rfl⟩ (.cons ru .nil),⟨_,ht2,rfl,_,rfl⟩⟩
  refine⟨.ref s.heap.objs.size,_,I2,rfl,⟨s.heap.objs.size,x,hn,rfl,rfl,λys hy=>by rw[I.list_inj hy hq];exact hx⟩,⟨⟨_,he2⟩,?_⟩,λb hb=>?_⟩
  .obtain⟨o,q1,q2⟩:=hit1;exact⟨o,(hs2.2 it (av hne)).trans q1,q2⟩
  .have:b≠s.heap.objs.size:=by
    rcases aT.mp hb with z|z
    .rw[z];exact bJ hee
    .rw[(by simpa using z:b=it)];exact bJ hit2
   rw[aj this];exact (hf b hb).1
 done:=by intro X hP hw hK hc i pins s Z H E I hf st hg;subst hP hw hK;obtain⟨xs,hq,hx⟩:=hg;obtain⟨⟨old,st1⟩,st2⟩:=st;obtain⟨its,rv,p,hz⟩:=I.list hq;obtain⟨f0,f1,f2,f3,f4,f5⟩:=hf it (by simp);have hl:=rv.length;exact wpAny_pyNext_enum_end (I.ok.hd hc) st1 st2 p.isList (by simp;lia) λh' eb=>⟨rfl,I.turned (t':=s.toks) (λb o hb q=>eb b o hb q) f0 f1 f3 f4 f5⟩
 self:=λ_ _ _ _ _ st h=>by
  obtain⟨⟨old,st1⟩,_⟩:=st;exact JC st1 h
section
def Fs (K:W.Frag) (R:It->Hp->Prop) (vs:List V) (H1:Hp) (a:Addr) (xs:List V):Prop:=vs=[.ref a]/\SqL K H1 a xs/\R (Ite K a) H1
def Fq (K:W.Frag) (R:It->Hp->Prop):List V->Hp->Prop:=λvs H1=>Exists (Ex2 (Fs K R vs H1))
def G8 (K:W.Frag) (ta:TA):TI:=λZ H R=>ta Z H (Fq K R)
theorem ll {elts:List Expr} {x1} {tpos:Pos} {a:Expr} {ta:TA} {p pos:Pos} (hg:Gl X "enumerate") (hm:X.mg "enumerate" = none) (ha:PA X [a] ta) (hs:starEach [a] X.env=[(false,eval a X.env)]:=by rfl) :
  PI X (.Tuple elts x1 tpos) (.Call (.Name "enumerate" p) [a] [] pos) (G8 [] ta):=by
 intro pins s Z H R I h;refine Call_ (jL I hg hm boot_enumerate (sv (thn (ha pos pins s Z H _ I h) λus s1 ⟨vs,H1,I1,r1,q1⟩=>?_) hs rfl));obtain⟨a,xs,e,hq,q⟩:=q1;subst e;obtain⟨u,rfl,ru⟩:=Vals.one r1;cases ru;obtain⟨its,rv,pl,hz⟩:=I1.list hq;refine call_enumerate_list pl.isList λh' he hi hsz hk=>?_;refine JC he ?_;have I2:Inv X pins Z H1 {s1 with heap:=h'}:=I1.kept (t':=s1.toks) hk;refine⟨_,[s1.heap.objs.size+1,s1.heap.objs.size],_,_,H1,rfl,I2,Ai a _ _ (Nat.succ_ne_self _),⟨⟨.none,he⟩,hi⟩,λb hb=>?_,q⟩;have hb':s1.heap.objs.size<=b:=by
  rcases aT.mp hb with z|z
  .rw[z];exact jd _
  .have:b=s1.heap.objs.size:=by simpa using z
   exact r_ this.symm
 exact I1.fpOk hb' (I1.hok.fresh hb')
end
end L2
end
section
namespace L2
open PySem PySem.Spec PyProof.Rows PySem.W
section
variable {prog:Program} {d it v:Addr} {es:Array DictEntry} {ep i:Nat}
theorem FC {Q:Value->Shared->Prop} (hv:s.heap.IsItemsView v d) (m:DAt s.heap d es ep)
  (q:Q (.ref s.heap.objs.size) {s with heap:=s.heap.push {cls:=.type "dict_itemiterator",data:=.fields #[.none,.bool false,.ref d,.int 0 0,.int es.size 0,.int ep 0,.none,.none]}}):wpAny (model prog w) A (pyIter (.ref v)) Q E s:=by
 obtain⟨o1,e1,_,d1⟩:=id hv;obtain⟨o,eo,_,ed⟩:=id m;refine JG hv.typeIs IL (jh IL hv.typeIs PySem.F.entry_dict_items_iter ?_ (PySem.F.args_dict_items_iter_1 _));unfold Builtin.«dict_items.__iter__» Builtin.Dict_items.dictOf Builtin.Dict_items.newIterator;refine af (aq (af (af (gJ e1 d1 (x:=.ref d) rfl (aq (af (af (nv eo ed (af (ny eo ed ?_))))))))));simp only[show Builtin.Dict_items.ownsTuple "dict_itemiterator" = true by decide,if_true];refine fX (aq ⟨_,rfl,"dict_itemiterator",_,⟨_,bP _ rfl,rfl⟩,pE.lookup,by simpa [rawInt,Builtin.Dict_items.ownedTupleFields] using q⟩)
  (by simp only[sizeOk,Builtin.Dict_items.ownedTupleFields,bU,aZ,bQ,ja];rw[dv];lia)
theorem FB {x y:Value} {Q:Option Value->Shared->Prop} (hit:IsItemIter s.heap it d i es.size ep x y) (m:DAt s.heap d es ep) (hi:i<es.size)
  (q:∀h',IsItemIterOut h' it d (i+1) es.size ep es[i].key es[i].val s.heap.objs.size->h'.get? s.heap.objs.size=some {cls:=.type "tuple",data:=.seq #[es[i].key,es[i].val]}->
   (∀b o,b≠it->s.heap.get? b=some o->h'.get? b=some o)->Q (some (.ref s.heap.objs.size)) {s with heap:=h'}):wpAny (model prog w) A (pyNext (.ref it)) Q E s:=by
 obtain⟨hp,g,dr,tk,os⟩:=s;obtain⟨od,eo,_,ed⟩:=id m;have ty:Shared.TypeIs ⟨hp,g,dr,tk,os⟩ (.ref it) "dict_itemiterator":=⟨_,hit,rfl⟩;unfold pyNext;refine af (jg (sO (name:=Str.ofString "__next__") ty pE (jh pE ty II ?tree (IF _))));refine af (aq (af (af ?_)))
 first|refine af (sS ty (aq (af (ji hit rfl ?_))))|refine af (sU ty (aq (af (ji hit rfl ?_))))
 simp only[show Builtin.Dict_items.ownsTuple "dict_itemiterator" = true by decide,if_true];refine (show wpAny _ _ (if (Value.ref d==Value.none)=true then _ else _) _ _ _ from ?_);rw[KH (show ¬(Value.ref d==Value.none)=true from bN)];refine af (aq (af (nv eo ed ?_)));rw[KH (by simp)];refine af (aq (af (ny eo ed ?_)));rw[KH (by simp)];refine aq ?_;simp only[show ¬((i:Int)<0) by lia,if_false,mU,xB hi];refine af ?_
 first|refine af (sS ty (aq (af (sP ty ?_))))|refine af (sU ty (aq (af (sP ty ?_))))
 refine (show wpAny _ _ (setField (.ref it) 3 (rawInt ((i:Int)+1)) >>= _) _ _ ⟨hp,g,dr,tk,os⟩ from af (pK hit (by simp) λh1 r1 b1=>?_));replace b1:Heap.SameBut it hp h1:=b1;replace r1:IsItemIter h1 it d (i+1) es.size ep x y:=by unfold IsItemIter;rw[show ((i+1:Nat):Int)=(i:Int)+1 by lia];simpa [rawInt] using r1
 have ty1:Shared.TypeIs ⟨h1,g,dr,tk,os⟩ (.ref it) "dict_itemiterator":=⟨_,r1,rfl⟩;refine af (eg (af (sP ty1 (af (sP ty1 ?_)))));refine (show wpAny _ _ (Builtin.Dict_items.pairFromOwner (.ref it) 6 es[i].key es[i].val) _ _ ⟨h1,g,dr,tk,os⟩ from ?_);unfold Builtin.Dict_items.pairFromOwner;refine af (JA ?_);have z1:h1.objs.size=hp.objs.size:=b1.1;have lt:it<hp.objs.size:=aK hit;have ne:hp.objs.size≠it:=j4 lt;obtain⟨h2,r2,t2,k2,eh⟩:∃h2:Heap,IsItemIter h2 it d (i+1) es.size ep x y/\h2.get? hp.objs.size=some {cls:=.type "tuple",data:=.seq #[es[i].key,es[i].val]}/\(∀b o,b≠it->hp.get? b=some o->h2.get? b=some o)/\
   h1.push {cls:=.type "tuple",data:=.seq #[es[i].key,es[i].val]}=h2:=
  ⟨_,aR _ r1,by rw[<-z1];exact bP _ rfl,λb o hb e=>aR _ (b1.extBut b o hb e),rfl⟩
 refine (show wpAny _ _ (Builtin.Dict_items.ownedTupleIsFree (.ref it) >>= _) _ _ ⟨h1.push {cls:=.type "tuple",data:=.seq #[es[i].key,es[i].val]},g,dr,tk,os⟩ from ?_);rw[z1,eh];unfold Builtin.Dict_items.ownedTupleIsFree;refine af (af (gJ r2 rfl (x:=.none) rfl (aq ?_)));simp only[if_true];refine af (gJ r2 rfl (x:=x) rfl (af (gJ r2 rfl (x:=y) rfl (af (pK r2 (by simp) λh3 r3 b3=>?_)))));replace b3:Heap.SameBut it h2 h3:=b3;replace r3:IsItemIter h3 it d (i+1) es.size ep es[i].key y:=r3;refine af (pK r3 (by simp) λh4 r4 b4=>?_);replace b4:Heap.SameBut it h3 h4:=b4;replace r4:IsItemIter h4 it d (i+1) es.size ep es[i].key es[i].val:=r4;refine af (pK r4 (by simp) λh5 r5 b5=>?_);replace b5:Heap.SameBut it h4 h5:=b5;replace r5:IsItemIterOut h5 it d (i+1) es.size ep es[i].key es[i].val hp.objs.size:=r5;refine af (pK r5 (by simp) λh6 r6 b6=>?_);replace b6:Heap.SameBut it h5 h6:=b6;replace r6:IsItemIterOut h6 it d (i+1) es.size ep es[i].key es[i].val hp.objs.size:=r6;have up:∀b o,b≠it->h2.get? b=some o->h6.get? b=some o:=λb o hb e=>b6.extBut b o hb (b5.extBut b o hb (b4.extBut b o hb (b3.extBut b o hb e)));exact af (pJ (aq (aq ⟨_,rfl,aq (q h6 r6 (up _ _ ne t2) λb o hb e=>up b o hb (k2 b o hb e))⟩)))
theorem Hk {x y:Value} {Q:Option Value->Shared->Prop} (hh:A.handled=none) (hit:IsItemIter s.heap it d i es.size ep x y) (m:DAt s.heap d es ep) (hi:es.size<=i)
  (q:∀h',Heap.ExtBut it s.heap h'->Q none {s with heap:=h'}):wpAny (model prog w) A (pyNext (.ref it)) Q E s:=by
 obtain⟨od,eo,_,ed⟩:=id m;have ty:s.TypeIs (.ref it) "dict_itemiterator":=⟨_,hit,rfl⟩;unfold pyNext;refine af (jg (sO (name:=Str.ofString "__next__") ty pE (jh pE ty II ?tree (IF _))));refine af (aq (af (af ?_)))
 first|refine af (sS ty (aq (af (ji hit rfl ?_))))|refine af (sU ty (aq (af (ji hit rfl ?_))))
 simp only[show Builtin.Dict_items.ownsTuple "dict_itemiterator" = true by decide,if_true];refine (show wpAny _ _ (if (Value.ref d==Value.none)=true then _ else _) _ _ s from ?_);rw[KH (show ¬(Value.ref d==Value.none)=true from bN)];refine af (aq (af (nv eo ed ?_)));rw[KH (by simp)];refine af (aq (af (ny eo ed ?_)));rw[KH (by simp)];refine aq ?_;simp only[show ¬((i:Int)<0) by lia,if_false,mU,Hr hi];refine af ?_
 first|refine af (sS ty (aq ?_))|refine af (sU ty (aq ?_))
 refine (show wpAny _ _ (setField (.ref it) 2 .none >>= _) _ _ s from af (jk hit rfl (by simp) ?_));refine (show wpAny _ _ (newExc (.type "StopIteration") [] >>= _) _ _ _ from af ?_);simp only[newExc,newTuple];refine af (fX (af (m:=firstArgMember _ _) (kd (a:=Value.none) (by first|rfl|(simp only[firstArgMember];rfl)) (fX ?_ (by size_fits)))) (by size_fits));simp only[raiseNew];refine af (wpAny_handled ?_);rw[show A.in1.handled=none from hh];refine af (aq (wpAny_throw ?_));refine af (Jx (b:=true) (T:="StopIteration") ⟨_,bP _ rfl,rfl⟩ Jg ?_);exact aq (q _ (((xG ..).extBut.push _).push _))
end
section
variable {d:Addr} {u:HO}
def dY:HO->Prop
 |.dK _=>True
 |.dT _=>True
 |_=>False
theorem dY.notT {u:HO} (h:dY u):(∀xs,u≠.tup xs)/\(∀o v,u≠.frz o v)/\(∀ps,u≠.tbl ps)/\∀y,u≠.own y:=by cases u<;>first|exact False.elim h|exact⟨λ_ z=>(nomatch z),λ_ _ z=>(nomatch z),λ_ z=>(nomatch z),λ_ z=>(nomatch z)⟩
theorem Inv.freeze (I:Inv X pins Z H s) (hd:H d=some u) (hu:dY u) {o:Obj} (ho:s.heap.get? d=some o):Inv X pins Z (upd H d (.frz o u)) s:=by
 obtain⟨n1,n2,n3,n4⟩:=hu.notT;have ne:∀{b v},H b=some v->v≠u->b≠d:=λe z y=>z (by rw[y,hd] at e;exact (dh e).symm);refine I.step (h':=s.heap) (g':=s.gens) (d':=s.drawn) (t':=s.toks) (ch:=[]) (λ_ z=>nomatch z) (λb o _ _ _ e _=>e) (λb o _ _ _ e _=>⟨o.slots,e⟩) (λb o _ _ n=>?_) (λb o _ e=>⟨o,e⟩) (λb xs e=>?_) (λb o v e=>?_) (λb ps e=>⟨#[],?_⟩) (λ_ m=>m) (λb v e=>?_) I.bare
 .rw[aj (λz=>by rw[z,hd] at n;cases n)];exact n
 .rw[aj (ne e λz=>n1 xs z.symm)];exact e
 .rw[aj (ne e λz=>n2 o v z.symm)];exact e
 .rw[aj (ne e λz=>n3 ps z.symm),e];simp
 .have st:∀{b v},aQ X.prog X.w H s.heap b v->aQ X.prog X.w (upd H d (.frz o u)) s.heap b v:=λx=>
   x.stay (λ_ _ _ q=>q) (λc q=>by rw[aj (ne q λz=>n4 _ z.symm)];exact q) λc xs q=>by rw[aj (ne q λz=>n1 xs z.symm)];exact q
  by_cases hb:b=d
  .subst hb;rw[aO] at e;cases e;exact⟨ho,st (I.hok _ _ hd)⟩
  .rw[aj hb] at e;exact st (I.hok b v e)
def Fz (H H2:Hp) (d:Addr) (o:Obj) (u:HO):Prop:=(H d=some u\/H d=some (.frz o u))/\dY u/\H2=upd H d (.frz o u)
theorem Fz.at {H2:Hp} {o:Obj} (f:Fz H H2 d o u):H2 d=some (.frz o u):=by rw[f.2.2,aO]
theorem Fz.ne {H2:Hp} {o:Obj} {b:Addr} (f:Fz H H2 d o u) (h:b≠d):H2 b=H b:=by rw[f.2.2,aj h]
theorem Inv.fz (I:Inv X pins Z H s) (hd:Rd H d u) (hu:dY u):∃o,s.heap.get? d=some o/\Fz H (upd H d (.frz o u)) d o u/\Inv X pins Z (upd H d (.frz o u)) s:=by
 rcases hd with hd|⟨o,hd⟩
 .obtain⟨o,ho⟩:=(I.hok d u hd).there;exact⟨o,ho,⟨.inl hd,hu,rfl⟩,I.freeze hd hu ho⟩
 .have e:upd H d (.frz o u)=H:=by
   funext b;unfold upd;split
   .rename_i z;rw[z,hd]
   .rfl
  exact⟨o,(I.hok d _ hd).1,⟨.inr hd,hu,rfl⟩,by rw[e];exact I⟩
def DKV (H:Hp) (u:HO) (ks vs:List V):Prop:=
 (∃kvs,u=.dK kvs/\ks=kvs.map (λp=>kV p.1)/\vs=kvs.map (·.2)) \/
 ∃kvs as,u=.dT kvs/\Paired (λ(p:List Key×V) a=>H a=some (.tup (p.1.map kV))) kvs as/\ks=as.map V.ref/\vs=kvs.map (·.2)
theorem lU (I:Inv X pins Z H s) (hd:Rd H d u) (hu:dY u) :
  (d==sysModules)=false/\∃ks vs es ep,DKV H u ks vs/\ks.length<=sizeLine/\DAt s.heap d es ep/\Vals ks (es.toList.map (·.key))/\Vals vs (es.toList.map (·.val)):=by
 cases u<;>first|exact False.elim hu|skip
 case dK kvs=>
  obtain⟨z,lo,us,rel,o,es,ep,h1,h2,h3,_,h5,_⟩:=eS I.hok hd;refine⟨lo,_,_,es,ep,.inl ⟨kvs,rfl,rfl,rfl⟩,by rw[aC];exact z,⟨o,h1,h2,h3⟩,?_⟩;generalize es.toList=l at h5;have go:∀{kvs:List (Key×V)} {us:List (Key×Value)} {l:List DictEntry},KV kvs us->Pairs (cV X.prog X.w) l us->Vals (kvs.map λp=>kV p.1) (l.map (·.key))/\Vals (kvs.map (·.2)) (l.map (·.val)):=by
   intro kvs us l r;induction r generalizing l with
   |nil=>intro p;cases p;exact⟨.nil,.nil⟩
   | @cons a b l1 l2 h1 h2 ih=>
    intro p;cases p with
    |cons p1 p2 p3=>
     obtain⟨i1,i2⟩:=ih p3;refine⟨.cons ?_ i1,.cons ?_ i2⟩
     .dsimp only;rw[h1.1];rcases eZ p1 with ⟨i,t,e1,e2⟩|⟨x,t,e1,e2⟩
      .rw[e1,e2];exact⟨t,rfl⟩
      .rw[e1,e2];exact⟨t,rfl⟩
     .dsimp only;rw[p2];exact h1.2
  exact go rel h5
 case dT kvs=>
  obtain⟨z,lo,xs,rel,o,es,ep,h1,h2,h3,h4,hz⟩:=iq I.hok hd;clear hz;have go:∀{kvs:List (List Key×V)} {xs:List (List Key×Addr×Value)},KT H kvs xs->Paired (λ(p:List Key×V) a=>H a=some (.tup (p.1.map kV))) kvs (xs.map (·.2.1))/\Vals (kvs.map (·.2)) (xs.map (·.2.2)):=by
   intro kvs xs r;induction r with
   |nil=>exact⟨.nil,.nil⟩
   |cons h1 h2 ih=>exact⟨.cons h1.2.1 ih.1,.cons h1.2.2 ih.2⟩
  obtain⟨g1,g2⟩:=go rel;have hl:=ng g1;refine⟨lo,_,_,es,ep,.inr ⟨kvs,_,rfl,g1,rfl,rfl⟩,by rw[aC,<-hl];exact z,⟨o,h1,h2,h3⟩,?_,?_⟩
  .rw[h4,cq,cq];clear h4 rel g1 g2 hl;induction xs with
   |nil=>exact .nil
   |cons x r ih=>exact .cons rfl ih
  .rw[h4,cq];exact g2
end
end L2
end
section
namespace L2
open PySem PySem.Spec PyProof.Rows PySem.W
def Itk (d:Addr) (o:Obj) (ks:List V):It:=
 ⟨λi H=>i<ks.length/\∃u,H d=some (.frz o u),λi H x H'=>H'=H/\ks[i]?=some x,λi H=>ks.length<=i/\∃u,H d=some (.frz o u)⟩
theorem oh {d:Addr} {o:Obj} {u:HO} {es:Array DictEntry} {ep:Nat} (I:Inv X pins Z H s) (h:H d=some (.frz o u)) (x:o.ExactDict) (e:o.data=.dict es ep):DAt s.heap d es ep:=
 ⟨o,(I.hok d _ h).1,x,e⟩
theorem Ah {tg:Expr} {d it:Addr} {o:Obj} {es:Array DictEntry} {ep:Nat} {ks:List V} (x:o.ExactDict) (e:o.data=.dict es ep) (r:Vals ks (es.toList.map (·.key))) :
  Turn P w K tg (Itk d o ks) [it] it (λi h=>h.IsKeyIter it d i es.size ep) where
 mem:=by simp
 obj:=λi h st b hb=>by
  have e:b=it:=by simpa using hb
  subst e;obtain⟨o,e,c,d⟩:=st;exact⟨o,e,λv z=>by rw[d] at z;cases z⟩
 keep:=λi h h' st k=>st.at λo e=>k it (by simp) o e
 item:=by
  intro X hP hw hK hc i pins s Z H E I hf st hg;subst hP hw hK;obtain⟨hi,u,hu⟩:=hg;have hl:ks.length=es.size:=by have:=r.length;simpa using this
  obtain⟨y,hy⟩:∃y,ks[i]?=some y:=⟨ks[i],by simp[hi]⟩;obtain⟨z,hz,rz⟩:=r.get hy;have hi':i<es.size:=by lia
  have ez:z=es[i].key:=by rw[bp] at hz;simp[hi'] at hz;exact hz.symm
  obtain⟨f0,f1,f2,f3,f4,f5⟩:=hf it (by simp);refine xy st (oh I hu x e) hi' λh' st' sb=>?_;have I1:Inv X pins Z H {s with heap:=h'}:=I.turned (t':=s.toks) (λb o hb e=>(sb.2 b hb).trans e) f0 f1 f3 f4 f5;obtain⟨o',e',c',d'⟩:=id st';exact⟨_,rfl,mh (s:={s with heap:=h'}) e' c' d' (by decide) ⟨y,H,I1,by rw[<-ez];exact rz,⟨rfl,hy⟩,st',λb hb=>(hf b hb).1⟩⟩
 done:=by
  intro X hP hw hK hc i pins s Z H E I hf st hg;subst hP hw hK;obtain⟨hi,u,hu⟩:=hg;have hl:ks.length=es.size:=by have:=r.length;simpa using this
  obtain⟨f0,f1,f2,f3,f4,f5⟩:=hf it (by simp);exact dEnd (I.ok.hd hc) st (oh I hu x e) (by lia) λh' eb=>⟨rfl,I.turned (t':=s.toks) (λb o hb e=>eb b o hb e) f0 f1 f3 f4 f5⟩
 self:=λ_ _ _ _ _ st h=>JD st h
section
variable {tg:Expr}
def G9 (td:TE):TI:=λZ H R=>td Z H λx H1=>∃(d:Addr) (u:HO),x=.ref d/\Rd H1 d u/\dY u/\∀ks vs o H2,DKV H1 u ks vs->Fz H1 H2 d o u->R (Itk d o ks) H2
theorem w5 {h:Heap} {d:Addr} {es:Array DictEntry} {ep:Nat} {o:Obj} (m:DAt h d es ep) (e:h.get? d=some o):o.ExactDict/\o.data=.dict es ep:=by obtain⟨o',e',x⟩:=m;rw[e] at e';cases e';exact x
theorem Dq {l:Expr} {td:TE} (hl:PE X l td):PI X tg l (G9 td):=by
 intro pins s Z H R I h;refine thn (hl pins s Z H _ I h) λv s1 ⟨x,H1,I1,r1,q1⟩=>?_;obtain⟨d,u,e,hd,hu,q⟩:=q1;subst e;cases r1;obtain⟨lo,ks,vs,es,ep,dk,hz,dm,rk,rv⟩:=lU I1 hd hu;obtain⟨o,ho,fz,I2⟩:=I1.fz hd hu;obtain⟨ex,ed⟩:=w5 dm ho;refine qZ lo dm ?_;refine⟨s1.heap.objs.size,[s1.heap.objs.size],_,_,_,rfl,I2.kept (t':=s1.toks) λb o e=>aR _ e,Ah (d:=d) (o:=o) ex ed rk,⟨_,bP _ rfl,rfl,rfl⟩,λb hb=>?_,q ks vs o _ dk fz⟩;have e:b=s1.heap.objs.size:=by simpa using hb
 subst e;exact I2.fpOk (ar _) (I2.hok.fresh (ar _))
end
def oG (v d:Addr):HO:=.ext λh=>h.IsItemsView v d
def Iti (d:Addr) (o:Obj) (ks vs:List V):It:=
 ⟨λi H=>i<ks.length/\∃u,H d=some (.frz o u),
  λi H v H'=>∃p x y,H p=none/\v=.ref p/\H'=upd H p (.tup [x,y])/\ks[i]?=some x/\vs[i]?=some y,λi H=>ks.length<=i/\∃u,H d=some (.frz o u)⟩
theorem zO {elts:List Expr} {x1} {pos:Pos} {d it:Addr} {o:Obj} {es:Array DictEntry} {ep:Nat} {ks vs:List V} (x:o.ExactDict) (e:o.data=.dict es ep) (r:Vals ks (es.toList.map (·.key))) (r':Vals vs (es.toList.map (·.val))) :
  Turn P w K (.Tuple elts x1 pos) (Iti d o ks vs) [it] it (λi h=>∃a b,IsItemIter h it d i es.size ep a b) where
 mem:=by simp
 obj:=λi h st b hb=>by
  have e:b=it:=by simpa using hb
  subst e;obtain⟨_,_,st⟩:=st;exact⟨_,st,λv z=>by
   have z':Data.fields _=Data.cell v:=z;cases z'⟩
 keep:=λi h h' st k=>let ⟨a,b,st⟩:=st;⟨a,b,k it (by simp) _ st⟩
 item:=by
  intro X hP hw hK hc i pins s Z H E I hf st hg;subst hP hw hK;obtain⟨hi,u,hu⟩:=hg;obtain⟨_,_,st⟩:=st;have hl:ks.length=es.size:=by have:=r.length;simpa using this
  have hl':vs.length=es.size:=by have:=r'.length;simpa using this
  obtain⟨y,hy⟩:∃y,ks[i]?=some y:=⟨ks[i],by simp[hi]⟩;obtain⟨y',hy'⟩:∃y,vs[i]?=some y:=⟨vs[i]'(by lia),by simp⟩;obtain⟨z,hz,rz⟩:=r.get hy;obtain⟨z',hz',rz'⟩:=r'.get hy';have hi':i<es.size:=by lia
  have ez:z=es[i].key:=by rw[bp] at hz;simp[hi'] at hz;exact hz.symm
  have ez':z'=es[i].val:=by rw[bp] at hz';simp[hi'] at hz';exact hz'.symm
  refine FB st (oh I hu x e) hi' λh1 st1 t1 k1=>?_;refine⟨_,rfl,wpAny_letOwnedTupleGo_items st1 λh2 st2 sb=>?_⟩;replace sb:Heap.SameBut it h1 h2:=sb;have hee:it<s.heap.objs.size:=aK st;have hfr:s.heap.get? s.heap.objs.size=none:=mP (ar _);have hn:H s.heap.objs.size=none:=I.hok.fresh (ar _);have I2:Inv X pins Z (upd H s.heap.objs.size (.tup [y,y'])) {s with heap:=h2}:=by
   refine I.turnLaid (t':=s.toks) (ch:=[it]) hf (λb o hb q=>?_) hfr λH'=>?_
   .have hb1:b≠it:=λz=>hb (by simp[z]);exact (sb.2 b hb1).trans (k1 b o hb1 q)
   .exact⟨⟨by simp;rw[dv];lia,_,(sb.2 _ (j4 hee)).trans t1,rfl⟩,[es[i].key,es[i].val],.cons (by rw[<-ez];exact rz) (.cons (by rw[<-ez'];exact rz') .nil),⟨_,(sb.2 _ (j4 hee)).trans t1,rfl,_,rfl⟩⟩
  refine⟨.ref s.heap.objs.size,_,I2,rfl,⟨s.heap.objs.size,y,y',hn,rfl,rfl,hy,hy'⟩,⟨_,_,st2⟩,λb hb=>?_⟩;have hb':b=it:=by simpa using hb
  rw[hb',aj (bJ hee)];exact (hf it (by simp)).1
 done:=by
  intro X hP hw hK hc i pins s Z H E I hf st hg;subst hP hw hK;obtain⟨hi,u,hu⟩:=hg;obtain⟨_,_,st⟩:=st;have hl:ks.length=es.size:=by have:=r.length;simpa using this
  obtain⟨f0,f1,f2,f3,f4,f5⟩:=hf it (by simp);exact Hk (I.ok.hd hc) st (oh I hu x e) (by lia) λh' eb=>⟨rfl,I.turned (t':=s.toks) (λb o hb e=>eb b o hb e) f0 f1 f3 f4 f5⟩
 self:=λ_ _ _ _ _ st h=>by
  obtain⟨_,_,st⟩:=st;exact kcp_self st h
section
def ET:V->List V->Hp->VK->Prop:=λx xs H Q=>∃(d:Addr) (u:HO),x=.ref d/\xs=[]/\Rd H d u/\dY u/\∀v,H v=none->Q (.ref v) (upd H v (oG v d))
theorem B3:MtM X "dict.items" ET:=by
 intro pins s Z H x xs v us Q I rx rs h;obtain⟨d,u,rfl,rfl,hd,hu,q⟩:=h;cases rx;cases rs;obtain⟨lo,ks,vs,es,ep,dk,hz,dm,rk,rv⟩:=lU I hd hu;refine yx IK dm.ty PySem.F.entry_dict_items (PySem.F.args_dict_items_1 _) (S:=λA R s=>(∃es ep,DAt s.heap d es ep)/\R (.ok (.ret (.ref s.heap.objs.size))) {s with heap:=s.heap.push {cls:=.type "dict_items",data:=.fields #[.ref d]}}) (.of_wp λprog w A R s h=>?_) ⟨⟨es,ep,dm⟩,?_⟩
 .obtain⟨⟨es,ep,dm⟩,h⟩:=h;unfold Builtin.«dict.items» Builtin.Dict.noArgs;refine af (af (JB dm.ty ?_));refine (show wpAny _ _ (pure d) _ _ s from aq ?_);refine (show wpAny _ _ (Builtin.Dict.showsAll d >>= _) _ _ s from ?_);unfold Builtin.Dict.showsAll;rw[KH (show ¬(d==sysModules)=true by rw[lo];simp)];exact af (aq (af (fX (aq ⟨_,rfl,h⟩))))
 .refine⟨.ref s.heap.objs.size,_,I.laid (a:=s.heap.objs.size) (o:=oG s.heap.objs.size d) (t':=s.toks) (λb o e=>aR _ e) (ar _) ⟨⟨_,bP _ rfl,rfl,rfl⟩,⟨_,bP _ rfl⟩,λh1 h2 p k=>?_⟩,rfl,q _ (I.hok.fresh (ar _))⟩;obtain⟨o,e,c⟩:=p;exact⟨o,k o e,c⟩
def Fp (td:TE):TI:=λZ H R=>td Z H λx H1=>∃(v d:Addr) (u:HO),x=.ref v/\H1 v=some (oG v d)/\Rd H1 d u/\dY u/\∀ks vs o H2,DKV H1 u ks vs->Fz H1 H2 d o u->R (Iti d o ks vs) H2
theorem BL {l:Expr} {td:TE} {elts:List Expr} {x1} {pos:Pos} (hl:PE X l td):PI X (.Tuple elts x1 pos) l (Fp td):=by
 intro pins s Z H R I h;refine thn (hl pins s Z H _ I h) λv s1 ⟨x,H1,I1,r1,q1⟩=>?_;obtain⟨v,d,u,e,hv,hd,hu,q⟩:=q1;subst e;cases r1;have iv:s1.heap.IsItemsView v d:=(show aQ X.prog X.w H1 s1.heap v (oG v d) from I1.hok v _ hv).1;obtain⟨lo,ks,vs,es,ep,dk,hz,dm,rk,rv⟩:=lU I1 hd hu;obtain⟨o,ho,fz,I2⟩:=I1.fz hd hu;obtain⟨ex,ed⟩:=w5 dm ho;refine FC iv dm ?_;refine⟨s1.heap.objs.size,[s1.heap.objs.size],_,_,_,rfl,I2.kept (t':=s1.toks) λb o e=>aR _ e,zO (d:=d) (o:=o) ex ed rk rv,⟨_,_,bP _ rfl⟩,λb hb=>?_,q ks vs o _ dk fz⟩;have e:b=s1.heap.objs.size:=by simpa using hb
 subst e;exact I2.fpOk (ar _) (I2.hok.fresh (ar _))
end
section
def nS (v d:Addr):HO:=.ext λh=>h.IsValuesView v d
def De:V->List V->Hp->VK->Prop:=λx xs H Q=>∃(d:Addr) (kvs:List (Key×V)),x=.ref d/\xs=[]/\Rd H d (.dK kvs)/\∀v,H v=none->Q (.ref v) (upd H v (nS v d))
theorem AN:MtM X "dict.values" De:=by intro pins s Z H x xs v us Q I rx rs h;obtain⟨d,kvs,rfl,rfl,hd,q⟩:=h;cases rx;cases rs;obtain⟨z,lo,vs,rel,dd⟩:=eS I.hok hd;refine pG IR dd.typeIs PySem.F.entry_dict_values (PySem.F.args_dict_values_1 _) (meets_dict_values (cV X.prog X.w) d lo) ⟨⟨_,dd⟩,?_⟩;refine⟨.ref s.heap.objs.size,_,I.laid (a:=s.heap.objs.size) (o:=nS s.heap.objs.size d) (t':=s.toks) (λb o e=>aR _ e) (ar _) ⟨⟨_,bP _ rfl,rfl,rfl⟩,⟨_,bP _ rfl⟩,λh1 h2 p k=>?_⟩,rfl,q _ (I.hok.fresh (ar _))⟩;obtain⟨o,e,c⟩:=p;exact⟨o,k o e,c⟩
def Aw:List V->Hp->VK->Prop:=λxs H Q=>∃(v d:Addr) (kvs:List (Key×V)),xs=[.ref v]/\H v=some (nS v d)/\Rd H d (.dK kvs)/\∀l,H l=none->Q (.ref l) (upd H l (.lst (kvs.map (·.2))))
theorem zd (hc:X.calm=true):cL X (.type "list") Aw:=by
 intro pins s Z H xs us Q I r h;obtain⟨v,d,kvs,rfl,hv,hd,q⟩:=h;obtain⟨u,rfl,ru⟩:=Vals.one r;cases ru;have iv:s.heap.IsValuesView v d:=(show aQ X.prog X.w H s.heap v (nS v d) from I.hok v _ hv).1;obtain⟨z,lo,vs,rel,dd⟩:=eS I.hok hd;have hl:kvs.length=vs.length:=rel.length;obtain⟨ep,da⟩:=dd.dictAt;refine kdl_call (kdl_values (knd:=cV X.prog X.w) (r:=v) (d:=d) (kvs:=vs) (ep:=ep)) (I.ok.hd hc) ⟨iv,da⟩ (by lia) λh' tk acc c kp e it=>?_;have hp:s.heap.objs.size<=s.heap.objs.size:=ar _;refine⟨.ref s.heap.objs.size,_,I.laid (t':=tk) (o:=.lst (kvs.map (·.2))) kp hp ⟨by rw[aC];exact z,acc.toList,c,tF (by rw[aC,hl];simp[it.1]) λj y ej=>?_,by rw[e]⟩,rfl,q _ (I.hok.fresh hp)⟩;obtain⟨k,hk⟩:=it.2 j y (by simpa using ej);have hj:j<kvs.length:=by have:=(aJ.mp hk).1;lia
 refine⟨kvs[j].2,by simp[hj],?_⟩;have at_:∀{l:List (Key×V)} {m:List (Key×Value)} {j:Nat} {p:Key×V} {q:Key×Value},KV l m->l[j]?=some p->m[j]?=some q->ax p.2 q.2:=by
  intro l m j p q r;induction r generalizing j with
  |nil=>intro e;simp at e
  |cons h1 h2 ih=>
   intro e1 e2;cases j with
   |zero=>simp at e1 e2;subst e1 e2;exact h1.2
   |succ j=>exact ih (by simpa using e1) (by simpa using e2)
 exact at_ rel (by simp[hj]:kvs[j]?=some kvs[j]) hk
def Dg:V->List V->Hp->VK->Prop:=λx xs H Q=>∃(d:Addr) (kvs:List (Key×V)) (k:Key) (z:V),x=.ref d/\xs=[kV k,z]/\H d=some (.dK kvs)/\kvs.length<sizeLine/\
 (∀v,bj kvs k=some v->Q v H)/\(bj kvs k=none->Q z (upd H d (.dK (cY kvs k z))))
theorem zh:MtM X "dict.setdefault" Dg:=by
 intro pins s Z H x xs v us Q I rx rs h;obtain⟨d,kvs,k,z,rfl,rfl,hd,hz,q1,q2⟩:=h;cases rx;obtain⟨u1,u2,rfl,r1,r2⟩:=rs.two;obtain⟨z0,lo,vs,rel,dd⟩:=ml I.hok hd;have hl:kvs.length=vs.length:=rel.length;have rv:=rel.val k;refine pG IQ dd.typeIs PySem.F.entry_dict_setdefault (PySem.F.args_dict_setdefault_3 _ _ _) (kt_meets_setdefault (cV X.prog X.w) d (il r1) lo u2) ⟨vs,dd,by lia,λv hv=>?_,λhn h' dd' hs=>?_⟩
 .rw[hv] at rv;cases e:bj kvs k with
  |none=>rw[e] at rv;exact False.elim rv
  |some y=>
   rw[e] at rv;exact⟨y,H,I.tok _,rv,q1 y e⟩
 .rw[hn] at rv;cases e:bj kvs k with
  |some y=>rw[e] at rv;exact False.elim rv
  |none=>
   have hl2:(cY kvs k z).length<=sizeLine:=by have:=pO kvs k z;lia
   have he:∃q,h'.get? d=some q:=let ⟨q,_,_,hq,_⟩:=dd';⟨q,hq⟩;exact⟨z,_,oi I (by rw[hd];exact True.intro) hs he (oJ hl2 lo (rel.put k r2) dd'),r2,q2 e⟩
end
section
def Gs:List V->Hp->VK->Prop:=λxs H Q=>∃(d:Addr) (kvs:List (Key×V)) (ns:List Int),xs=[.ref d]/\Rd H d (.dK kvs)/\kvs.map (λp=>kV p.1)=ns.map V.int/\ns≠[]/\∀m,m∈ns->(∀n∈ns,m<=n)->Q (.int m) H
theorem Fh (es:Array DictEntry) {i:Nat} (hi:i<es.size):(es.toList.map (·.key)).toArray[i]?=some es[i].key:=by simp[hi]
theorem zk (hc:X.calm=true):cL X (.builtin "min") Gs:=by
 intro pins s Z H xs us Q I r h;obtain⟨d,kvs,ns,rfl,hd,hk0,hne,q⟩:=h;obtain⟨u,rfl,ru⟩:=Vals.one r;cases ru;obtain⟨lo,ks,vs,es,ep,dk,hz,dm,rk,rv⟩:=lU I hd (u:=.dK kvs) trivial;have ek:ks=ns.map V.int:=by
  rcases dk with ⟨kvs',e,e1,_⟩|⟨_,_,e,_⟩
  .cases e;rw[e1,hk0]
  .cases e
 subst ek;have hl:ns.length=es.size:=by have:=rk.length;simpa using this
 refine call_min_walk (qZ lo dm ?_);refine⟨s.heap.objs.size,_,_,_,_,_,_,rfl,w8 (A:=X.A.in1) (es:=es) (ep:=ep) (d:=d) (I.ok.hd hc) _ (bJ dm.lt),⟨⟨_,bP _ rfl,rfl,rfl⟩,dm.at λo e=>aR _ e⟩,λb hb=>?_,?_,CmpOf.ints_lt (λi=>ns.getD i 0) (λi v e=>?_),λv h' tk hP hk=>?_⟩
 .show b<(s.heap.push _).objs.size;rw[mQ];rcases aT.mp hb with rfl|hb
  .exact fW _
  .rw[aV.mp hb];exact sf dm.lt
 .rw[<-hl];exact rR.mpr hne
 .obtain⟨hi,rfl⟩:=e;exact wU rk i _ (by simp[hi])
 .obtain⟨hi,rfl⟩:=hP;obtain⟨t,et⟩:=wU rk _ _ (Fh es hi);obtain⟨b1,b2⟩:=CD ns hne;have e:es.size-1=ns.length-1:=by rw[hl]
  refine⟨.int _,H,I.kept (t':=tk) λb o e=>hk b o (λz=>by rw[aV.mp z] at e;exact absurd (aK e) (ef _)) (aR _ e),⟨t,et⟩,?_⟩;rw[e];exact q _ b1 b2
end
open PySem.SeqAt in
theorem y0 (l:Addr) (items:Array Value) (n:Nat) (dd:Option Addr) (sl:Array (Option Value)) (x:Value) (e:Nat->Bool) (j:Nat) (hj:j<items.size) (hit:e j=true) (hno:∀m,m<j->e m=false) :
  Meets (Builtin.«tuple.index» ⟨[.ref l,x],[]⟩)
   (λA R s=>s.heap.get? l=some {cls:=.type "tuple",dict:=dd,data:=.seq items n,slots:=sl}/\(∀m (h:m<items.size),EqAt A.in1 s items[m] x (e m))/\R (.ok (.ret (.int j s.toks))) {s with toks:=s.toks+1}):=
 .of_wp λprog w A R s h=>by
  obtain⟨hp,g,d,tk,os⟩:=s;obtain⟨hl,he,h⟩:=h;unfold Builtin.«tuple.index»;simp only[KG]
  wp_walk using JT hl,Jv _ (λrest b s'=>b.1=none/\s'=⟨hp,g,d,tk,os⟩/\∃i,i<=j/\rest=List.range' i (items.size-i)) _
  case turn=>
   rintro y rest b s' ⟨hb,rfl,i,hij,hr⟩;have e0:items.size-i=(items.size-(i+1))+1:=by lia
   rw[e0,List.range'_succ] at hr;injection hr with h1 h2;subst h1;have hy:y<items.size:=by lia
   have hg:items[y]?=some items[y]:=by simp[hy]
   rw[hg];refine af (he y hy prog w _ _ ?_);by_cases z:y=j
   .subst z;rw[hit]
    wp_walk
    exact⟨_,rfl,h⟩
   .rw[hno y (by lia)]
    wp_walk
    exact⟨rfl,rfl,y+1,by lia,h2⟩
  case fin=>
   rintro b s' ⟨_,_,i,hij,hr⟩;have:=congrArg List.length hr;simp at this;lia
  case h=>
   exact⟨rfl,rfl,0,aU _,by simp[Std.Legacy.Range.size]⟩
section
def Dl (K:Frag):V->List V->Hp->VK->Prop:=λx vs H Q=>∃(a:Addr) (xs:List V) (ds:List PyData) (y:V) (d:PyData) (j:Nat),x=.ref a/\vs=[y]/\SqT K H a xs/\Dts K H xs ds/\Dt K H y d/\d.depth<=60/\
 j<ds.length/\PyData.eqv (ds.getD j .none) d=true/\(∀m,m<j->PyData.eqv (ds.getD m .none) d=false)/\Q (.int (j:Int)) H
theorem AO (hu:X.A.units+64<cLine):MtM X "tuple.index" (Dl []):=by
 intro pins s Z H x vs v us Q I rx rv h;obtain⟨a,xs,ds,y,d,j,rfl,rfl,hq,hs,hd,hz,hj,e1,e2,q⟩:=h;cases rx;obtain⟨u,rfl,ru⟩:=rv.one;obtain⟨its,rs,p,hsz⟩:=I.tuple hq;obtain⟨as,ra⟩:=Dts.reads I ds xs its hs rs;obtain⟨bs,rb⟩:=Dt.reads I d y u hd ru;have hl:its.length=ds.length:=Ki _ _ _ ra;obtain⟨⟨cls,dd,data,sl⟩,eo,hc,n,hdt⟩:=id p;simp only at hc hdt;subst hc hdt;refine yx IS ⟨_,eo,rfl⟩ PySem.F.entry_tuple_index (PySem.F.args_tuple_index_2 _ _) (y0 a its.toArray n dd sl u (λm=>PyData.eqv (ds.getD m .none) d) j (by simp;lia) e1 e2) ⟨eo,λm hm=>?_,?_⟩
 .have hm':m<ds.length:=by rw[bU] at hm;lia
  obtain⟨dy,cs,ry,hcy,hle⟩:∃dy cs,PySem.Reads s.heap its.toArray[m] dy cs/\dy.canLay0=true/\dy=ds.getD m .none:=by
   have go:∀(ds:List PyData) (its:List Value) (as:List Addr) (m:Nat) (h:m<its.length),ReadsAll s.heap its ds as->PyData.canLayAll0 ds=true->∃cs,PySem.Reads s.heap its[m] (ds.getD m .none) cs/\(ds.getD m .none).canLay0=true:=by
    intro ds;induction ds with
    |nil=>intro its as m h r _;cases r;simp at h
    |cons d ds ih=>
     intro its as m h r c;have c':d.canLay0=true/\PyData.canLayAll0 ds=true:=by simpa [PyData.canLayAll0] using c
     cases r with
     |cons r1 r2=>
      cases m with
      |zero=>exact⟨_,r1,c'.1⟩
      |succ m=>exact ih _ _ m (by simpa using h) r2 c'.2
   obtain⟨cs,h1,h2⟩:=go ds its as m (by simpa using hm) ra (Dts.can ds _ hs);exact⟨_,cs,by simpa using h1,h2,rfl⟩
  rw[<-hle];refine Kl dy d X.A.in1 s _ _ _ _ ry rb hcy (Dt.can d y hd) ?_;show X.A.units+1+min _ _<cLine;exact min61 hu hz
 .exact⟨.int (j:Int),H,I.tok _,⟨_,rfl⟩,q⟩
end
section
variable {prog:Program} {R:Result->Shared->Prop} {I:Addr} {fp wr:List Addr} {n:Nat} {P:Nat->Value->Prop} {St:Nat->Heap->Prop} {OK:Heap->Prop}
def rj (prog:Program) (w:World) (A:Around) (OK:Heap->Prop) (P:Nat->Value->Prop) (bt:Nat->Nat->Bool):Prop:=
 ∀i j vi vj (s:Shared) (Q:Value->Shared->Prop) (E:Value->Shared->Prop),OK s.heap->P i vi->P j vj->Q (.bool (bt i j)) s->wpAny (model prog w) A (richCompare .Lt vi vj) Q E s
theorem z8 (W:Walks prog w A.in1 I fp wr n P St) (bt:Nat->Nat->Bool) (hcmp:rj prog w A.in1 OK P bt) (S:Addr) (hSf:S∉fp)
  (ok:∀h h':Heap,OK h->(∀b o,b∉wr->b≠S->h.get? b=some o->h'.get? b=some o)->OK h') :
  ∀(k j:Nat) (s:Shared) (vb:Value) (c:Nat),n-(j+1)=k->j+1<=n->OK s.heap->St (j+1) s.heap->P (argBest bt j) vb->
  s.heap.get? S=some {cls:=.type "list",dict:=none,data:=.seq #[vb,vb] c,slots:=#[]}->
  (∀v h' tk,P (argBest bt (n-1)) v->(∀b o,b∉wr->b≠S->s.heap.get? b=some o->h'.get? b=some o)->R (.ok (.ret v)) {s with heap:=h',toks:=tk})->
  codeAny (model prog w) A (.builtin "min.loop" ⟨[.ref I,.none,.ref S],[]⟩) R s:=by
 have nw:S∉wr:=λh=>hSf (W.sub _ h);have nm:(toString "min"++toString ".loop" : String) = "min.loop":=by decide
 intro k;induction k with
 |zero=>
  intro j s vb c hk hj h0 hst hPb hS hR;have z:j+1=n:=by lia
  refine yH ym ?_;rw[xA j8 _];refine (show wpAny _ A.in1 (seqItems? (.ref S) >>= _) _ _ s from af (yT hS rfl ?_));refine (show wpAny _ A.in1 (tryCatch (pyNext (.ref I)) _ >>= _) _ _ s from af (sR (W.done s _ _ (z ▸ hst) λh' tk k'=>?_)));refine (show wpAny _ A.in1 (updateSeq S (λ_=>#[]) >>= _) _ _ _ from af (yU (k' S _ nw hS) rfl (af (pJ (aq ?_)))));exact hR vb _ tk (by rw[<-z];exact hPb) λb o hbw hbS e=>(fT _ _ (av hbS)).trans (k' b o hbw e)
 |succ k ih=>
  intro j s vb c hk hj h0 hst hPb hS hR;have lt:j+1<n:=by lia
  refine yH ym ?_;rw[xA j8 _];refine (show wpAny _ A.in1 (seqItems? (.ref S) >>= _) _ _ s from af (yT hS rfl ?_));refine (show wpAny _ A.in1 (tryCatch (pyNext (.ref I)) _ >>= _) _ _ s from af (sR (W.item (j+1) s _ _ lt hst λv h' tk hP st' k'=>?_)));have S':=k' S _ nw hS;have h1:OK h':=ok _ _ h0 λb o hb _ e=>k' b o hb e;refine (show wpAny _ A.in1 (tryCatch (holding [v,v] (richCompare .Lt v vb >>= _)) _ >>= _) _ _ _ from af (sR (eg (af (hcmp (j+1) (argBest bt j) v vb _ _ _ h1 hP hPb ?_)))));refine af (eg (jl (af (pJ (aq ?_)))));cases hb:bt (j+1) (argBest bt j) with
  |true=>
   simp only[if_true];refine af (yU S' rfl (af (pJ ?_)));rw[nm];have up:∀b o,b≠S->h'.get? b=some o->(h'.update S (Obj.mapSeq λ_=>#[v,v])).get? b=some o:=λb o hbS e=>(fT _ _ (av hbS)).trans e;exact aq ⟨sL j8 _,ih (j+1) _ v _ (by lia) lt (ok _ _ h1 λb o _ hbS e=>up b o hbS e) (W.frame _ _ _ st' λb hbf o e=>up b o (λh=>hSf (by rw[<-h];exact hbf)) e) (by simp only[argBest,hb,if_true];exact hP) (iy _ S' rfl)
    λv' h'' tk'' P' k''=>hR v' h'' tk'' P' λb o hbw hbS e=>k'' b o hbw hbS (up b o hbS (k' b o hbw e))⟩
  |false=>
   simp only[mJ,if_false];refine af (pJ ?_);rw[nm];exact aq ⟨sL j8 _,ih (j+1) _ vb c (by lia) lt h1 st' (by simp only[argBest,hb,mJ,if_false];exact hPb) S' λv' h'' tk'' P' k''=>hR v' h'' tk'' P' λb o hbw hbS e=>k'' b o hbw hbS (k' b o hbw e)⟩
theorem zF (W:Walks prog w A.in1 I fp wr n P St) (bt:Nat->Nat->Bool) (hcmp:rj prog w A.in1 OK P bt) (S:Addr) (hSf:S∉fp) (ok:∀h h':Heap,OK h->(∀b o,b∉wr->b≠S->h.get? b=some o->h'.get? b=some o)->OK h') (hn:0<n) {c:Nat} (h0:OK s.heap) (hst:St 0 s.heap)
  (hS:s.heap.get? S=some {cls:=.type "list",dict:=none,data:=.seq #[] c,slots:=#[]})
  (hR:∀v h' tk,P (argBest bt (n-1)) v->(∀b o,b∉wr->b≠S->s.heap.get? b=some o->h'.get? b=some o)->R (.ok (.ret v)) {s with heap:=h',toks:=tk}) :
  codeAny (model prog w) A (.builtin "min.loop" ⟨[.ref I,.none,.ref S],[]⟩) R s:=by
 have nw:S∉wr:=λh=>hSf (W.sub _ h);have nm:(toString "min"++toString ".loop" : String) = "min.loop":=by decide
 refine yH ym ?_;rw[xA j8 _];refine (show wpAny _ A.in1 (seqItems? (.ref S) >>= _) _ _ s from af (yT hS rfl ?_));refine (show wpAny _ A.in1 (tryCatch (pyNext (.ref I)) _ >>= _) _ _ s from af (sR (W.item 0 s _ _ hn hst λv h' tk hP st' k'=>?_)));have S':=k' S _ nw hS;have h1:OK h':=ok _ _ h0 λb o hb _ e=>k' b o hb e;refine (show wpAny _ A.in1 (updateSeq S (λ_=>#[v,v]) >>= _) _ _ _ from af (yU S' rfl ?_));rw[nm];have up:∀b o,b≠S->h'.get? b=some o->(h'.update S (Obj.mapSeq λ_=>#[v,v])).get? b=some o:=λb o hbS e=>(fT _ _ (av hbS)).trans e;exact aq ⟨sL j8 _,z8 W bt hcmp S hSf ok _ 0 _ v _ rfl hn (ok _ _ h1 λb o _ hbS e=>up b o hbS e) (W.frame _ _ _ st' λb hbf o e=>up b o (λh=>hSf (by rw[<-h];exact hbf)) e) hP (iy _ S' rfl)
  λv' h'' tk'' P' k''=>hR v' h'' tk'' P' λb o hbw hbS e=>k'' b o hbw hbS (up b o hbS (k' b o hbw e))⟩
end
section
variable {prog:Program}
theorem Af {x:Value} {Q:Value->Shared->Prop} {OK:Heap->Prop}
  (h:wpAny (model prog w) A.in1 (pyIter x) (λit s₂=>∃I fp wr n P St bt,it=.ref I/\Walks prog w A.in1 I fp wr n P St/\St 0 s₂.heap/\OK s₂.heap/\(∀S,s₂.heap.objs.size<=S->∀h h':Heap,OK h->(∀b o,b∉wr->b≠S->h.get? b=some o->h'.get? b=some o)->OK h')/\(∀b∈fp,b<s₂.heap.objs.size)/\0<n/\rj prog w A.in1 OK P bt/\
   ∀v h' tk,P (argBest bt (n-1)) v->(∀b o,b∉wr->s₂.heap.get? b=some o->h'.get? b=some o)->Q v {s₂ with heap:=h',toks:=tk}) E s) :
  wpAny (model prog w) A (call (.builtin "min") [x]) Q E s:=by
 have nm:(toString "min"++toString ".loop" : String) = "min.loop":=by decide
 refine call_function_tree PySem.F.kind_min PySem.F.plain_min PySem.F.entry_min (PySem.F.args_min1 _) ?_;refine (show wpAny _ A.in1 (Builtin.Builtins.bindParams "min" ["key","default"] 0 ⟨[],[]⟩ >>= _) _ _ s from af (kd (show Builtin.Builtins.bindParams "min" ["key","default"] 0 ⟨[],[]⟩=pure [none,none] from rfl) (af (aq ?_))));refine af (dn h (λit s2 h2=>?_) λ_ _ e=>e);obtain⟨I,fp,wr,n,P,St,bt,rfl,W,hst,h0,ok,hfp,hn,hcmp,hQ⟩:=h2;have hSf:s2.heap.objs.size∉fp:=λhm=>ef _ (hfp _ hm);refine af (fX ?_);rw[nm];have pu:∀b o,s2.heap.get? b=some o->(s2.heap.push {cls:=.type "list",data:=.seq #[]}).get? b=some o:=λb o e=>aR _ e;refine aq ⟨sL j8 _,zF W bt hcmp s2.heap.objs.size hSf (ok _ (ar _)) hn (ok _ (ar _) _ _ h0 λb o _ _ e=>pu b o e) (W.frame _ _ _ hst λb _ o e=>pu b o e) (bP _ rfl) λv h' tk hP hk=>?_⟩;exact hQ v h' tk hP λb o hbw e=>hk b o hbw (bJ (aK e)) (pu b o e)
end
end L2
end
section
namespace L2
open PySem PySem.Spec PyProof.Rows PySem.W
theorem uo:∀a:List Int,HT.lexLt a a=false
 | []=>rfl
 |x::r=>by
  unfold HT.lexLt;simp[uo r]
theorem va:∀a b c:List Int,HT.lexLt a b=true->HT.lexLt b c=true->HT.lexLt a c=true
 | [],[],_,h,_=>nomatch h
 | [],_::_,[],_,h=>nomatch h
 | [],_::_,_::_,_,_=>rfl
 |_::_,[],_,h,_=>nomatch h
 |_::_,_::_,[],_,h=>nomatch h
 |x::r,y::t,z::u,h1,h2=>by
  unfold HT.lexLt at h1 h2 |-;have ih:=va r t u;by_cases e1:x=y<;>by_cases e2:y=z<;>by_cases e3:x=z<;>simp_all<;>lia
theorem wg (bt:Nat->Nat->Bool) (irr:∀i,bt i i=false) (tr:∀i j k,bt i j=true->bt j k=true->bt i k=true):∀m,argBest bt m<=m/\∀j,j<=m->bt j (argBest bt m)=false
 |0=>⟨ar _,λj hj=>by
  have:j=0:=by lia
  subst this;exact irr 0⟩
 |m+1=>by
  obtain⟨h1,h2⟩:=wg bt irr tr m;cases hb:bt (m+1) (argBest bt m) with
  |true=>
   have e:argBest bt (m+1)=m+1:=by simp only[argBest,hb,if_true]
   rw[e];refine⟨ar _,λj hj=>?_⟩;by_cases z:j=m+1
   .rw[z];exact irr _
   .cases q:bt j (m+1) with
    |false=>rfl
    |true=>
     have:=tr _ _ _ q hb;rw[h2 j (by lia)] at this;cases this
  |false=>
   have e:argBest bt (m+1)=argBest bt m:=by simp only[argBest,hb,mJ,if_false]
   rw[e];refine⟨by lia,λj hj=>?_⟩;by_cases z:j=m+1
   .rw[z];exact hb
   .exact h2 j (by lia)
section
def EO (K:Frag):List V->Hp->VK->Prop:=λxs H Q=>∃(a:Addr) (ys:List V) (kz:List (List Int)),xs=[.ref a]/\SqL K H a ys/\Tups K H ys kz/\ys≠[]/\
 ∀i y,ys[i]?=some y->(∀j,j<ys.length->HT.lexLt (kz.getD j []) (kz.getD i [])=false)->Q y H
theorem zj (hc:X.calm=true) (hu:X.A.units+64<cLine):cL X (.builtin "min") (EO []):=by
 intro pins s Z H xs us Q I r h;obtain⟨a,ys,kz,rfl,hq,ht,hne,q⟩:=h;obtain⟨u,rfl,ru⟩:=Vals.one r;cases ru;obtain⟨its,rv,p,hz⟩:=I.list hq;have hl:=rv.length;have hil:=p.isList;have hlt:a<s.heap.objs.size:=by obtain⟨_,e,_⟩:=hil;exact aK e
 have get:∀(i:Nat) (v:Value),its[i]?=some v->∃(b:Addr) (js:List Value),v=.ref b/\b<s.heap.objs.size/\IsTup s.heap b js.toArray/\IntsAre js (kz.getD i []):=by
  intro i v e;obtain⟨y,ey,ry⟩:=nU rv e;have go:∀{ys:List V} {kz:List (List Int)} {i:Nat} {y:V},Tups [] H ys kz->ys[i]?=some y->∃b,y=V.ref b/\SqT [] H b ((kz.getD i []).map V.int):=by
   intro ys kz i y t;induction t generalizing i with
   |nil=>intro e;simp at e
   |cons h1 h2 ih=>
    intro e;cases i with
    |zero=>simp at e;subst e;obtain⟨b,e1,e2,_⟩:=h1;exact⟨b,e1,e2⟩
    |succ i=>exact ih (by simpa using e)
  obtain⟨b,rfl,hb⟩:=go ht ey;cases ry;obtain⟨js,r1,p1,_⟩:=I.tuple hb;exact⟨b,js,rfl,p1.lt,p1,nF r1⟩
 refine Af (OK:=λh=>∀(i:Nat) (v:Value),its.toArray[i]?=some v->∃(b:Addr) (js:List Value),v=.ref b/\b<s.heap.objs.size/\IsTup h b js.toArray/\IntsAre js (kz.getD i [])) (yS hil ?_);refine⟨s.heap.objs.size,_,_,_,_,_,(λi j=>HT.lexLt (kz.getD i []) (kz.getD j [])),rfl,Ja (A:=X.A.in1) (I.ok.hd hc) _ a (bJ hlt) its.toArray,⟨⟨_,bP _ rfl,rfl,rfl⟩,hil.push _⟩,λi v e=>?_,λS hS h h' ok k i v e=>?_,λb hb=>?_,?_,λi j vi vj s' Q' E' ok hi hj hQ=>?_,λv h' tk hP hk=>?_⟩
 .obtain⟨b,js,e1,e2,⟨o,e3,e4⟩,e5⟩:=get i v (by simpa using e);exact⟨b,js,e1,e2,⟨o,aR _ e3,e4⟩,e5⟩
 .obtain⟨b,js,e1,e2,⟨o,e3,e4⟩,e5⟩:=ok i v e;have hS':s.heap.objs.size+1<=S:=by rw[<-mQ];exact hS
  exact⟨b,js,e1,e2,⟨o,k b o (λz=>by rw[aV.mp z] at e2;exact ef _ e2) (λz=>by rw[z] at e2;exact absurd (yd e2 hS') (ef _)) e3,e4⟩,e5⟩
 .show b<(s.heap.push _).objs.size;rw[mQ];rcases aT.mp hb with rfl|hb
  .exact fW _
  .rw[aV.mp hb];exact sf hlt
 .rw[bU,<-hl];exact rR.mpr hne
 .obtain⟨b,js,rfl,_,p1,i1⟩:=ok i vi hi;obtain⟨b',js',rfl,_,p2,i2⟩:=ok j vj hj;exact HT.lt_tupInts (A:=X.A.in1) p1 p2 (by simpa using i1) (by simpa using i2) (by show X.A.units+1<cLine;lia) hQ
 .obtain⟨y,ey,ry⟩:=nU rv (by simpa using hP);have hb:=wg (λi j=>HT.lexLt (kz.getD i []) (kz.getD j [])) (λi=>uo _) (λi j k=>va _ _ _) (its.toArray.size-1);refine⟨y,H,I.kept (t':=tk) λb o e=>hk b o (λz=>by rw[aV.mp z] at e;exact absurd (aK e) (ef _)) (aR _ e),ry,q _ y ey λj hj=>hb.2 j ?_⟩;rw[bU];lia
end
end L2
end
section
namespace L2
open PySem PySem.Spec PyProof.Rows
def Exc (h:Heap) (e:Addr) (cls:Value) (d:Option Addr):Prop:=
 ∃(oe:Obj) (vs:Array Value),h.get? e=some oe/\oe.cls=cls/\oe.dict=d/\oe.data=.fields vs/\vs[2]?=some .none/\
  (vs[1]?=some .none\/∃(T:Addr) (oT:Obj) (ts:Array Value),vs[1]?=some (.ref T)/\T≠e/\h.get? T=some oT/\oT.data=.fields ts/\ts[3]?=some .none)
theorem vg {h:Heap} {a:Addr} {o:Obj} {f:Obj->Obj} (e:h.get? a=some o) (hf:f o=o) (b:Addr):(h.update a f).get? b=h.get? b:=by
 by_cases hb:b=a
 .subst hb;have hfree:(f o).isFreed=false:=by rw[hf];exact (Heap.get?_some_iff.mp e).2
  rw[iy f e hfree,hf,e]
 .exact fT h f (av hb)
theorem tE {o:Obj} {ts:Array Value} {i:Nat} {v:Value} (hd:o.data=.fields ts) (hi:ts[i]?=some v):Obj.mapFields (·.setIfInBounds i v) o=o:=by
 obtain⟨c,dt,d,sl⟩:=o;have hd:d=.fields ts:=hd;subst hd;have e:ts.setIfInBounds i v=ts:=by
  refine Array.ext (by simp) λj h1 h2=>?_;by_cases hj:i=j
  .subst hj;obtain⟨hlt,z⟩:=i7.mp hi;rw[Hs]
   .simp[z]
   .exact hlt
  .rw[Hs]
   .simp[hj]
   .exact h2
 show ({cls:=c,dict:=dt,data:=.fields (ts.setIfInBounds i v),slots:=sl}:Obj)=_;rw[e]
section
variable {M:Model} {env:Env} {outer:List Env} {L e:Addr} {cls:Value} {d:Option Addr}
structure rg (fs:List Addr) (e:Addr) (h h':Heap):Prop where
 keep:∀b o,b≠e->b∉fs->h.get? b=some o->h'.get? b=some o
 slot:∀b o,b≠e->h.get? b=some o->∃sl,h'.get? b=some {o with slots:=sl}
theorem vk {oe:Obj} {vs:Array Value} {head:Value} {had:Bool} {Q:Unit->Shared->Prop} (hfr:A.frames=some (env::outer)) (hl:s.heap.FunFrames base (env::outer)) (hf:env.frame=some L)
  (he:s.heap.get? e=some oe) (hc:oe.cls=cls) (hdd:oe.dict=d) (hd:oe.data=.fields vs) (hc2:vs[2]?=some .none) (hsz:1<vs.size)
  (h:∀h',Exc h' e cls d->rg (frs (env::outer)) e s.heap h'->Q () {s with heap:=h'}) :
  wpAny M A (do let a <-frameOf env;let pl <-entryPlaceOf L had;let b <-EntryCells.newEntry head a .none (rawInt L) .none pl;setField (.ref e) 1 b) (λ_ s'=>wpAny M A (setFlight (.ref e) none) Q E s') E s:=by
 have hene:e∉frs (env::outer):=λhm=>by
  obtain⟨_,o,ho,hnf⟩:=hl.mem hm;rw[he] at ho;cases ho;exact hnf vs hd
 refine af (wpAny_frameOf_fun hfr hl hf λh1 hs1=>af (wpAny_entryPlaceOf λpl hpl=>?_));unfold EntryCells.newEntry newFields;refine af (fX ?_ (hpl.sizeOk5 _ _ _ _ _));generalize hO:({cls:=.type "traceback",dict:=none,data:=.fields ([head,.ref L,.none,rawInt L,.none]++(if pl.isEmpty then List.replicate 6 Value.none else pl)).toArray}:Obj)=oT;have hOd:oT.data=.fields ([head,.ref L,.none,rawInt L,.none]++(if pl.isEmpty then List.replicate 6 Value.none else pl)).toArray:=by rw[<-hO]
 have e1:h1.get? e=some oe:=(hs1.2.1 e hene).trans he;have e2:(h1.push oT).get? e=some oe:=aR _ e1;have hTe:h1.objs.size≠e:=j4 (aK e1);have eT:(h1.push oT).get? h1.objs.size=some oT:=bP _ (sq hOd);refine jk e2 hd hsz ?_;have hd3:=pC hd (·.setIfInBounds 1 (Value.ref h1.objs.size));have e3:=iy (Obj.mapFields (·.setIfInBounds 1 (Value.ref h1.objs.size))) e2 (sq hd3);have T3:=(fT (h1.push oT) (Obj.mapFields (·.setIfInBounds 1 (Value.ref h1.objs.size))) (av hTe)).trans eT;unfold setFlight;refine af (gJ e3 hd3 (x:=.ref h1.objs.size) (by simp[hsz]) ?_);rw[KI (show (Value.ref h1.objs.size != Value.none)=true by simp)];have h3z:3<([head,.ref L,.none,rawInt L,.none]++(if pl.isEmpty then List.replicate 6 Value.none else pl)).toArray.size:=by simp only[bU,aZ,bQ,ja];lia
 refine jk T3 hOd h3z (h _ ?_ ?_)
 .refine⟨_,_,(fT _ _ hTe).trans e3,(Iu _ _).trans hc,?_,hd3,by rw[xC (by decide)];exact hc2,.inr ⟨h1.objs.size,_,_,by simp[hsz],hTe,iy _ T3 (sq (pC hOd _)),pC hOd _,by simp⟩⟩;obtain⟨c0,d0,dt0,sl0⟩:=oe;cases dt0<;>exact hdd
 .have keep:∀b o,b≠e->h1.get? b=some o->(((h1.push oT).update e (Obj.mapFields (·.setIfInBounds 1 (Value.ref h1.objs.size)))).update h1.objs.size (Obj.mapFields (·.setIfInBounds 3 ((none:Option Addr).elim Value.none λf=>rawInt f)))).get? b=some o:=λb o hb q=>by
   rw[fT _ _ (j4 (aK q)),fT _ _ (av hb)];exact aR _ q
  exact⟨λb o hb hn q=>keep b o hb ((hs1.2.1 b hn).trans q),λb o hb q=>by
   obtain⟨sl,z⟩:=hs1.2.2 b o q;exact⟨sl,keep b _ hb z⟩⟩
theorem vT {Q:Unit->Shared->Prop} (hfr:A.frames=some (env::outer)) (hl:s.heap.FunFrames base (env::outer)) (hf:env.frame=some L) (x:Exc s.heap e cls d)
  (h:∀h',Exc h' e cls d->rg (frs (env::outer)) e s.heap h'->Q () {s with heap:=h'}):wpAny M A (noteFrame (.ref e) env) (λ_ s'=>wpAny M A (setFlight (.ref e) none) Q E s') E s:=by
 obtain⟨oe,vs,he,hc,hdd,hd,hc2,tb⟩:=x;unfold noteFrame;simp only[hf];rcases tb with h1|⟨T,oT,ts,h1,hTe,hT,hdT,h3⟩
 .refine af (gJ he hd h1 ?_);rw[KH (by decide)];exact vk hfr hl hf he hc hdd hd hc2 (i7.mp h1).1 h
 .refine af (gJ he hd h1 ?_);rw[KI (show (Value.ref T != Value.none)=true by simp)];refine af (gJ hT hdT h3 ?_);rw[KH (show ¬((Value.none==rawInt L)=true) by simp[rawInt])];refine af (jk hT hdT (i7.mp h3).1 ?_);have same:=vg hT (tE hdT h3);have hl2:(s.heap.update T (Obj.mapFields (·.setIfInBounds 3 Value.none))).FunFrames base (env::outer):=hl.of_keeps λb o hb _=>⟨o,(same b).trans hb,rfl⟩;refine vk (s:={s with heap:=s.heap.update T (Obj.mapFields (·.setIfInBounds 3 Value.none))}) hfr hl2 hf ((same e).trans he) hc hdd hd hc2 (i7.mp h1).1 λh' x1 x2=>h h' x1 ⟨λb o hb hn q=>x2.keep b o hb hn ((same b).trans q),λb o hb q=>x2.slot b o hb ((same b).trans q)⟩
theorem B9 {Q:Unit->Shared->Prop} (hfr:A.frames=some (env::outer)) (hl:s.heap.FunFrames base (env::outer)) (hf:env.frame=some L) (x:Exc s.heap e cls d)
  (h:∀h',Exc h' e cls d->rg (frs (env::outer)) e s.heap h'->Q () {s with heap:=h'}):wpAny M A (leaving env (.ref e)) Q E s:=by
 unfold leaving;exact af (vT hfr hl hf x h)
theorem A2 {Q:Unit->Shared->Prop} (x:Exc s.heap e cls d) (h:∀h',Exc h' e cls d->(∀b,h'.get? b=s.heap.get? b)->Q () {s with heap:=h'}):wpAny M A (setFlight (.ref e) none) Q E s:=by
 obtain⟨oe,vs,he,hc,hdd,hd,hc2,tb⟩:=id x;unfold setFlight;rcases tb with h1|⟨T,oT,ts,h1,hTe,hT,hdT,h3⟩
 .refine af (gJ he hd h1 ?_);rw[KH (by decide)];exact aq (h s.heap x λ_=>rfl)
 .refine af (gJ he hd h1 ?_);rw[KI (show (Value.ref T != Value.none)=true by simp)];refine jk hT hdT (i7.mp h3).1 ?_;have same:=vg hT (tE hdT h3);exact h _ ⟨oe,vs,(same e).trans he,hc,hdd,hd,hc2,.inr ⟨T,oT,ts,h1,hTe,(same T).trans hT,hdT,h3⟩⟩ same
end
theorem aQ.isThere {h:Heap} {a:Addr} {o:HO} (x:aQ P w H h a o):∃ob,h.get? a=some ob:=by
 cases o with
 |lst xs=>obtain⟨_,_,_,_,e⟩:=x;exact⟨_,e⟩
 |tup xs=>obtain⟨_,_,_,ob,e,_⟩:=x;exact⟨_,e⟩
 |dK kvs=>obtain⟨_,_,_,_,o,_,_,e,_⟩:=x;exact⟨_,e⟩
 |dT kvs=>obtain⟨_,_,_,_,o,_,_,e,_⟩:=x;exact⟨_,e⟩
 |set S n=>obtain⟨o,_,_,_,e,_⟩:=x;exact⟨_,e⟩
 |ins C dx fs=>obtain⟨_,_,_,e,_⟩:=x;exact⟨_,e⟩
 |own y=>exact x
 |xd fs=>obtain⟨_,⟨_,_,_,e,_⟩,_⟩:=x;exact⟨_,e⟩
 |rng lo hi=>obtain⟨_,_,_,e⟩:=x;exact⟨_,e⟩
 |frz ob u=>obtain⟨e,_⟩:=x;exact⟨_,e⟩
 |tbl ps=>exact⟨_,(show h.get? a=some _ from x)⟩
 |met f y=>exact⟨_,(show h.get? a=some _ from x)⟩
 |ext φ=>obtain⟨_,e,_⟩:=x;exact e
theorem HOk.none_of' {h:Heap} {a:Addr} (x:HOk P w H h) (e:h.get? a=none):H a=none:=by
 cases q:H a with
 |none=>rfl
 |some u=>
  obtain⟨o,z⟩:=(x a u q).isThere;rw[e] at z;cases z
def CX1 (P:Program) (w:World):CXT:=λouter H s E e s'=>∃(x:Addr) (cls:Value) (d:Option Addr) (H':Hp),e=.ref x/\Exc s'.heap x cls d/\s.heap.get? x=none/\H' x=none/\
 s'.os=s.os/\AllBare s'.gens/\Un (frs outer) [] H H' s.heap s'.heap/\HOk P w H' s'.heap/\E cls d H'
section
theorem Inv.oldNone {x:Addr} (I:Inv X pins Z H s) (h:s.heap.get? x=none) (hx:x∉X.ex):X.s₀.heap.get? x=none:=by
 cases e:X.s₀.heap.get? x with
 |none=>rfl
 |some o=>
  obtain⟨o',z⟩:=I.base.there x o e hx;rw[h] at z;cases z
theorem vV {N:List Str} {qual:Str} {f:Addr} {cd:Value} {outer:List Env} {s0:Shared} {H0:Hp} {E:XK} {x:Addr} {cls:Value} {d:Option Addr}
  (I:Inv (eV (CX1 P w) P w K mg base N qual scope f cd A outer s0 H0 E) pins Z H s) (hx:Exc s.heap x cls d) (hn:s0.heap.get? x=none) (hH:H x=none) (q:E cls d H) :
  (eV (CX1 P w) P w K mg base N qual scope f cd A outer s0 H0 E).xe (.ref x) s:=by
 show wpAny _ _ (leaving _ (.ref x)) _ _ s;have hfs:=I.stkFree;refine B9 (outer:=outer) I.ok.frames I.stack rfl hx λh' x1 x2=>?_;have nx:∀b o,s0.heap.get? b=some o->b≠x:=λb o e z=>by rw[z,hn] at e;cases e
 have nL:∀b o,s0.heap.get? b=some o->b∉frs outer->b∉frs (envOfC qual scope s0.heap.objs.size f cd::outer):=λb o e hb hm=>by
  rcases aT.mp (I.stkSub b hm) with z|z
  .exact absurd (aK e) (by rw[z];exact Nat.not_lt.mpr I.ok.above)
  .exact hb z
 refine⟨x,cls,d,H,rfl,x1,hn,hH,I.os,I.bare,⟨λb o e n hb hx'=>?_,λb o e n hb hx'=>?_,λb o e n hx'=>I.base.free b o e n hx',λb o e hx'=>?_,I.base.tups,I.base.frzs,I.base.tbls⟩,λb u e=>?_,q⟩
 .exact x2.keep b o (nx b o e) (nL b o e hb) (I.base.keep b o e n hb hx')
 .obtain⟨sl,z⟩:=I.base.slot b o e n hb hx';obtain⟨sl',z'⟩:=x2.slot b _ (nx b o e) z;exact⟨sl',z'⟩
 .obtain⟨o',z⟩:=I.base.there b o e hx';obtain⟨sl,z'⟩:=x2.slot b _ (nx b o e) z;exact⟨_,z'⟩
 .have nf:∀c v,H c=some v->c∉frs (envOfC qual scope s0.heap.objs.size f cd::outer):=λc v z hm=>by
   have:=hfs c hm;rw[z] at this;cases this
  have ne:∀c v,H c=some v->c≠x:=λc v z y=>by rw[y,hH] at z;cases z
  refine (I.hok b u e).stay (λc v hc r=>?_) (λ_ r=>r) λ_ _ r=>r;rcases hc with z|z
  .rw[z] at r |-;exact x2.keep b v (ne b u e) (nf b u e) r
  .exact x2.keep c v (ne c _ z) (nf c _ z) r
theorem pass1 {N:List Str} {qual:Str} {f:Addr} {cd:Value} {outer:List Env} {s0:Shared} {H0:Hp} {E:XK} :
  Passes (CX1 P w) (eV (CX1 P w) P w K mg base N qual scope f cd A outer s0 H0 E) E:=by
 rintro pins Z H s e s' I ⟨x,cls,d,H',rfl,hx,hn,hH,os,bare,un,hok,q⟩;refine vV (I.call' (ch:=[]) os un hok bare (λb z=>absurd z (by simp))) hx ?_ hH q;exact I.oldNone hn (λz=>by cases z)
end
abbrev bmV:List Value:=[.type "ValueError",.type "Exception",.type "BaseException",.type "object"]
theorem v8 {C:Addr} {newId:String} {h:Heap} {bmB:List Value} (X:K.In h) (q:W.excIn K C bmB newId=true) :
  ∃bm N nm q bs hdct sn sub ab col dd k0 k1 k2 k3 k5 mN,h.get? C=some (excClassObj nm q C N bs bm hdct sn sub ab col dd k0 k1 k2 k3 k5 newId)/\h.Ns N mN/\mN "__init__" = none/\OwnTail h bmB bm:=by
 unfold W.excIn at q
 split at q
 .rename_i dd cd sl ho
  split at q
  .rename_i C' bm k0 k1 k2 k3 n k5 hm hs;simp only[eC,beq_iff_eq,HA] at q;obtain⟨⟨⟨⟨⟨rfl,rfl⟩,hdel⟩,ht⟩,hok⟩,hni⟩:=q;obtain⟨nm,bs,mro,ns,qn,hd,sn,sub,ab,col,del⟩:=cd;dsimp only at hm hdel hok hni;subst hm hdel;have hsl:sl=#[k0,k1,k2,k3,some (.builtin n),k5]:=by
    cases sl;simp only at hs;rw[hs]
   subst hsl;exact⟨bm,ns,nm,qn,bs,hd,sn,sub,ab,col,dd,k0,k1,k2,k3,k5,_,X _ _ ho,.of_isNs (W.isNs_of_in X hok),W.nsMap_none_of_in X hok hni,W.tail_of_in X ht⟩
  .cases q
 .cases q
def Lets (X:Cx) (E:XK):Prop:=∀(pins:List (Addr×Obj)) (Z:St) (H:Hp) (s:Shared) (x:Addr) (cls:Value) (d:Option Addr),Inv X pins Z H s->Exc s.heap x cls d->X.s₀.heap.get? x=none->(∀p∈X.pn++pins,p.1≠x)->H x=none->E cls d H->X.xe (.ref x) s
theorem lets1 {N:List Str} {qual:Str} {f:Addr} {cd:Value} {outer:List Env} {s0:Shared} {H0:Hp} {E:XK} :
  Lets (eV (CX1 P w) P w K mg base N qual scope f cd A outer s0 H0 E) E:=λ_ _ _ _ _ _ _ I hx hn _ hH q=>vV I hx hn hH q
section
variable {E:XK} {x:Str} {C:Addr} {np cpos pos:Pos} {e:Expr} {es:List Expr} {t:TA}
def Ea (E:XK) (C:Addr) (t:TA):TS:=λ_ Z H=>t Z H λvs H1=>vs.length<=sizeLine/\E (.ref C) none H1
theorem BK (hE:Lets X E) (hc:X.calm=true) (hnx:X.ex=[]) (hg:Gl X x) (hm:X.mg x=some (.ref C)) (hq:W.excIn X.K C bmV "ValueError.__new__" = true) (ha:PA X (e::es) t)
  (he:starEach (e::es) X.env=(false,eval e X.env)::starEach es X.env:=by rfl) (hpl:(backTo cpos (starEach es X.env)).any (·.1)=false:=by rfl) (hd:(x==("__debug__" : Str))=false:=by decide) :
  PS X (.Raise (some (.Call (.Name x np) (e::es) [] cpos)) none pos) (Ea E C t):=by
 intro pins s Z H D I h;obtain⟨tl,N,nm,q,bs,hdct,sn,sub,ab,col,dd,k0,k1,k2,k3,k5,mN,hC,hN,hni,T⟩:=v8 I.mod.kin hq;refine wpAny_Raise_call_subT (C:=C) (nm:=nm) (q:=q) (N:=N) (bs:=bs) (bm:=tl) (hdct:=hdct) (sn:=sn) (sub:=sub) (ab:=ab) (col:=col) (dd:=dd) (k0:=k0) (k1:=k1) (k2:=k2) (k3:=k3) (k5:=k5)
  j7 (mN:=mN) (T.hasType j7.hasBase) (I.ok.hd hc) (by rw[he];show (false||(backTo cpos (starEach es X.env)).any (·.1))=false;rw[hpl];rfl) hni (gd I hg hm ⟨rfl,?_⟩ hd)
 have ha':=ha cpos pins s Z H _ I h;rw[he] at ha' |-;refine mL (thn ha' λus s1 ⟨vs,H1,I1,r1,hz,q1⟩=>⟨rfl,by rw[<-r1.length];exact hz,I1.bk _ _ hC,hN.keeps I1.bk,T.keeps I1.bk,λh' x' me=>?_⟩);obtain⟨tt,hx',_,_⟩:=me.there;have I2:Inv X pins Z H1 {s1 with heap:=h'}:=I1.kept (t':=s1.toks) me.keeps;exact hE pins Z H1 _ x' (.ref C) none I2 ⟨_,_,hx',rfl,rfl,rfl,rfl,.inl rfl⟩ (I1.oldNone me.new (by rw[hnx];simp)) (λp hp z=>by
  have e:=(I1.pin p hp).1;rw[z,me.new] at e;cases e) (I1.hok.none_of' me.new) q1
end
end L2
end
section
namespace L2
open PySem PySem.Spec PyProof.Rows
def clsIn (K:W.Frag) (C:Addr):Option (List Value):=match K.lookup C with
 |some ⟨.type "type",_,.cls cd,sl⟩=>(match cd.mro,sl.toList with
  |.ref C'::bm,[_,_,_,_,some (.builtin n),_]=>if C'==C&&n=="ValueError.__new__"&&!cd.hasDel then some bm else none
  |_,_=>none)
 |_=>none
theorem qB {C:Addr} {h:Heap} {bm:List Value} (X:K.In h) (q:clsIn K C=some bm) :
  ∃N nm q bs hdct sn sub ab col dd k0 k1 k2 k3 k5,h.get? C=some (excClassObj nm q C N bs bm hdct sn sub ab col dd k0 k1 k2 k3 k5 "ValueError.__new__"):=by
 unfold clsIn at q
 split at q
 .rename_i dd cd sl ho
  split at q
  .rename_i C' bm' k0 k1 k2 k3 n k5 hm hs
   split at q
   .rename_i hq;simp only[eC,beq_iff_eq,HA] at hq;obtain⟨⟨rfl,rfl⟩,hdel⟩:=hq;cases q;obtain⟨nm,bs,mro,ns,qn,hd,sn,sub,ab,col,del⟩:=cd;dsimp only at hm hdel;subst hm hdel;have hsl:sl=#[k0,k1,k2,k3,some (.builtin "ValueError.__new__"),k5]:=by
     cases sl;simp only at hs;rw[hs]
    subst hsl;exact⟨ns,nm,qn,bs,hd,sn,sub,ab,col,dd,k0,k1,k2,k3,k5,X _ _ ho⟩
   .cases q
  .cases q
 .cases q
theorem A4 {M:Model} {Q:Bool->Shared->Prop} {e C Ch:Addr} {oe:Obj} {nm q:Str} {N:Addr} {bs bm:List Value} {hdct:Bool} {sn:List Str} {sub:List Value} {ab:Bool} {col:Option Bool} {dd:Option Addr} {k0 k1 k2 k3 k5:Option Value} {newId:String}
  {nm' q':Str} {N':Addr} {bs' bm':List Value} {hdct':Bool} {sn':List Str} {sub':List Value} {ab':Bool} {col':Option Bool} {dd':Option Addr} {l0 l1 l2 l3 l5:Option Value} {newId':String}
  (hC:s.heap.get? C=some (excClassObj nm q C N bs bm hdct sn sub ab col dd k0 k1 k2 k3 k5 newId)) (hH:s.heap.get? Ch=some (excClassObj nm' q' Ch N' bs' bm' hdct' sn' sub' ab' col' dd' l0 l1 l2 l3 l5 newId'))
  (he:s.heap.get? e=some oe) (hcls:oe.cls=.ref C) (hb:bm'.contains (.type "BaseException")=true) (hm:(Value.ref C::bm).contains (.ref Ch)=true) (hq:Q true s) :
  wpAny M A (excMatches (.ref e) (.ref Ch)) Q E s:=by
 obtain⟨h,g,d,t,os⟩:=s;have hcB:(Value.ref Ch::bm').contains (.type "BaseException")=true:=by rw[HU,hb,xD]
 have f:=tc_notTuple;unfold excMatches
 repeat (first|(with_reducible refine jj he ?_;rw[hcls])|with_reducible refine jj hH ?_|with_reducible refine jj hC ?_|(with_reducible refine sQ hH ?_;rw[hcB])|(with_reducible refine sQ hC ?_;rw[hm])|wp_step)
 exact hq
def eB (x:Addr) (cls:Value) (d:Option Addr):HO:=.ext λh=>∃(oe:Obj) (vs:Array Value),h.get? x=some oe/\oe.cls=cls/\oe.dict=d/\oe.data=.fields vs/\vs[2]?=some .none
theorem DP {h:Heap} {x:Addr} {cls:Value} {d:Option Addr} (e:Exc h x cls d):aQ P w H h x (eB x cls d):=by obtain⟨oe,vs,h1,h2,h3,h4,h5,_⟩:=e;refine⟨⟨oe,vs,h1,h2,h3,h4,h5⟩,⟨oe,h1⟩,λa b p k=>?_⟩;obtain⟨oe,vs,h1,h2,h3,h4,h5⟩:=p;exact⟨oe,vs,k oe h1,h2,h3,h4,h5⟩
abbrev lx (X:Cx) (x:Addr):Cx:={X with A:=X.A.mark (some (.ref x)),calm:=false,xe:=λ_ _=>False}
section
theorem Inv.suite (I:Inv X pins Z H s) (x:Addr):Inv (lx X x) pins Z H s:=
 ⟨⟨I.ok.mod,I.ok.kind,I.ok.glob,I.ok.blt,I.ok.above,I.ok.inj,I.ok.has,I.ok.cab,(λz=>absurd z (by show ¬(false=true);decide)),I.ok.frames,I.ok.stk,I.ok.exf,I.ok.bs,I.ok.bsz,I.ok.noex,I.ok.exfs,I.ok.funs,I.ok.frf⟩,I.os,I.bare,I.base,I.loc,I.cell,I.free,I.freeC,I.pin,I.hok,I.len⟩
theorem Inv.unsuite {x:Addr} (J:Inv (lx X x) pins Z H s) (ok:X.Ok):Inv X pins Z H s:=⟨ok,J.os,J.bare,J.base,J.loc,J.cell,J.free,J.freeC,J.pin,J.hok,J.len⟩
theorem Inv.forget (I:Inv X pins Z H s):Inv X pins (List.replicate X.N.length none) H s:=by
 refine⟨I.ok,I.os,I.bare,I.base,?_,I.cell,I.free,I.freeC,I.pin,I.hok,by simp⟩;obtain⟨m,hn,_⟩:=I.loc;refine⟨m,hn,λi y v e1 e2 e3=>?_⟩;rw[xP] at e2
 split at e2<;>cases e2
theorem Inv.unname {i:Nat} {n:Str} {pos:Pos} {M:Model} {Q:Unit->Shared->Prop} (I:Inv X pins Z H s) (hN:X.N.Nodup) (hi:X.N[i]?=some n) (hl:X.env.scope.names.lookup n=some .local)
  (h:∀s',Inv X pins (Z.set i none) H s'->Q () s'):wpAny M A (do bindName X.env n .none;unbindBehindTheSuite X.env n pos) Q E s:=by
 refine af (sN (iH I hN hi (.inl hl) (v:=.non) rfl (λs1 I1=>?_) (.inr hl)));unfold unbindBehindTheSuite;refine wpAny_onRaise ?_;have hcls:(X.env.scope.kind==.class||(X.env.scope.kind==.module&&X.env.locals != X.env.globals))=false:=by rw[I.ok.kind];rfl
 obtain⟨m,hn,hl1⟩:=id I1.loc;have hiσ:i<Z.length:=by rw[I.len];exact (aJ.mp hi).1
 obtain⟨u,ru,lk⟩:=hl1 i n .non hi (by rw[rP hiσ]) (.inl hl);have hmn:m n=some u:=by
  rcases lk with ⟨_,z⟩|⟨z,_⟩
  .exact z
  .have z:X.env.scope.names.lookup n=some .cell\/X.env.scope.names.lookup n=some .free:=z;rcases z with z|z<;>(rw[hl] at z;cases z)
 refine wpAny_unbindName_local hl hn hmn hcls λh' w' hn' hs=>h _ ?_;obtain⟨oL,_,_,hoL,_⟩:=id hn;have keepB:∀b o,b≠X.env.locals->s1.heap.get? b=some o->h'.get? b=some o:=λb o hb e=>(hs.2 b hb).trans e;have hok:HOk X.prog X.w H h':=λb ob e=>by
  refine (I1.hok b ob e).stay (λc w' hc q=>keepB c w' ?_ q) (λ_ q=>q) λ_ _ q=>q;rintro rfl;rcases hc with z|z
  .rw[<-z,I1.free] at e;cases e
  .rw[I1.free] at z;cases z
 refine⟨I1.ok,I1.os,I1.bare,⟨λb o e n hb hx=>?_,λb o e n hb hx=>?_,I1.base.free,λb o e hx=>?_,I1.base.tups,I1.base.frzs,I1.base.tbls⟩,⟨_,hn',λj y v e1 e2 e3=>?_⟩,λy c e=>?_,I1.free,I1.freeC,λp hp=>?_,hok,?_⟩
 .exact keepB b o (bJ (b_ (aK e) I1.ok.above)) (I1.base.keep b o e n hb hx)
 .obtain⟨sl,z⟩:=I1.base.slot b o e n hb hx;exact⟨sl,keepB b _ (bJ (b_ (aK e) I1.ok.above)) z⟩
 .obtain⟨o',z⟩:=I1.base.there b o e hx;exact⟨o',keepB b _ (bJ (b_ (aK e) I1.ok.above)) z⟩
 .have hj:j≠i:=λz=>by
   subst z;rw[rP hiσ] at e2;cases e2
  rw[rO (av hj)] at e2;obtain⟨u',r',q⟩:=hl1 j y v e1 (by rw[rO (av hj)];exact e2) e3;refine⟨u',r',?_⟩;rcases q with ⟨k,e⟩|⟨k,c,e,z⟩
  .refine .inl ⟨k,?_⟩;have:y≠n:=λz=>hj (p_ hN e1 (z ▸ hi));simp[this,e]
  .exact .inr ⟨k,c,e,z.sameBut hs (I1.cne y c e)⟩
 .obtain⟨w',z⟩:=I1.cell y c e;exact⟨w',z.sameBut hs (I1.cne y c e)⟩
 .obtain⟨e,n',ne,nf,d⟩:=I1.pin p hp;exact⟨(hs.2 p.1 ne).trans e,n',ne,nf,d⟩
 .have:=I.len;simpa using this
end
section
variable {body suite:List Stmt} {b0:Stmt} {cx n:Str} {np hpos pos:Pos} {Ch:Addr} {bmh:List Value} {i:Nat} {tb:XK->TS} {ts:Addr->TS}
def rC (i:Nat) (D:Ends):Ends:={nx:=λZ H=>D.nx (Z.set i none) H,rt:=D.rt,bk:=λZ H=>D.bk (Z.set i none) H,ct:=λZ H=>D.ct (Z.set i none) H}
def tTry (K:W.Frag) (len:Nat) (Ch:Addr) (i:Nat) (tb:XK->TS) (ts:Addr->TS):TS:=λD Z H=>∃E:XK,tb E D Z H/\∀cls d H',E cls d H'->
 ∃Ce bm,cls=.ref Ce/\clsIn K Ce=some bm/\(Value.ref Ce::bm).contains (.ref Ch)=true/\∀x,H' x=none->ts x (rC i D) ((List.replicate len none).set i (some (.ref x))) (upd H' x (eB x cls d))
theorem land {D:Ends} {x:Addr} {cls:Value} {d:Option Addr} (hst:X.stack=X.env::X.outer/\X.env.frame=some X.env.locals) (hnx:X.ex=[])
  (hN:X.N.Nodup) (hi:X.N[i]?=some n) (hl:X.env.scope.names.lookup n=some .local) (hg:Gl X cx) (hm:X.mg cx=some (.ref Ch)) (hcl:clsIn X.K Ch=some bmh) (hbm:bmh.contains (.type "BaseException")=true)
  (hs:∀x,PSs (lx X x) (b0::suite) (ts x)) (hdb:(cx==("__debug__" : Str))=false) (I:Inv X pins Z H s) (hx:Exc s.heap x cls d) (hn:X.s₀.heap.get? x=none) (hpx:∀p∈X.pn++pins,p.1≠x) (hH:H x=none)
  (hq:∃Ce bm,cls=.ref Ce/\clsIn X.K Ce=some bm/\(Value.ref Ce::bm).contains (.ref Ch)=true/\∀x,H x=none->ts x (rC i D) ((List.replicate X.N.length none).set i (some (.ref x))) (upd H x (eB x cls d))) :
  wpAny (model X.prog X.w) X.A (noteFrame (.ref x) X.env) (λ_ s2=>wpAny (model X.prog X.w) X.A (setFlight (.ref x) none) (λ_ s3=>wpAny (model X.prog X.w) X.A (handleBy (.ref x) X.env [.ExceptHandler (some (.Name cx np)) (some n) (b0::suite) hpos]) (SP X pins D) X.xe s3) X.xe s2) X.xe s:=by
 obtain⟨Ce,bm,rfl,hce,hmt,ts0⟩:=hq;have hfr:X.A.frames=some (X.env::X.outer):=by rw[<-hst.1];exact I.ok.frames
 have hfl:s.heap.FunFrames X.base (X.env::X.outer):=by rw[<-hst.1];exact I.stack
 refine vT hfr hfl hst.2 hx λh1 x1 L1=>?_;have nx0:∀b o,X.s₀.heap.get? b=some o->b≠x:=λb o e z=>by rw[z,hn] at e;cases e
 have hxl:x≠X.env.locals:=λz=>by
  obtain⟨m,⟨o,es,ep,ho,hd,_⟩,_⟩:=I.loc;obtain⟨oe,vs,he,_,_,hd',_⟩:=hx;rw[z,ho] at he;cases he;rw[hd] at hd';cases hd'
 have hxc:∀y c,X.env.cells.lookup y=some c->c≠x:=λy c e z=>by
  obtain⟨v,o,ho,hd⟩:=I.cell y c e;obtain⟨oe,vs,he,_,_,hd',_⟩:=hx;rw[z,he] at ho;cases ho;rw[hd'] at hd;cases hd
 have nfs:∀b,b∈frs (X.env::X.outer)->b∈X.env.locals::X.fs:=λb hb=>I.stkSub b (by rw[hst.1];exact hb);have I1:Inv X pins (List.replicate X.N.length none) (upd H x (eB x (.ref Ce) d)) {s with heap:=h1}:=by
  have J:=I.forget;have kp:∀b o,b≠x->b∉frs (X.env::X.outer)->s.heap.get? b=some o->h1.get? b=some o:=L1.keep;have nfr:∀b u,H b=some u->b∉frs (X.env::X.outer):=λb u e hb=>by
   have:=I.stkFree b (by rw[hst.1];exact hb);rw[e] at this;cases this
  have nex:∀b u,H b=some u->b≠x:=λb u e z=>by rw[z,hH] at e;cases e
  have hok:HOk X.prog X.w (upd H x (eB x (.ref Ce) d)) h1:=λb u e=>by
   by_cases hb:b=x
   .subst hb;rw[aO] at e;cases e;exact DP x1
   .rw[aj hb] at e;refine (I.hok b u e).stay (λc v hc q=>?_) (λc q=>by rw[aj (nex c _ q)];exact q) λc xs q=>by rw[aj (nex c _ q)];exact q
    rcases hc with z|z
    .rw[z] at q |-;exact kp b v hb (nfr b u e) q
    .exact kp c v (nex c _ z) (nfr c _ z) q
  refine⟨J.ok,J.os,J.bare,⟨λb o e n' hb hx'=>?_,λb o e n' hb hx'=>?_,λb o e n' hx'=>?_,λb o e hx'=>?_,λb xs e=>?_,λb o u e=>?_,λb ps e=>?_⟩,?_,λy c e=>?_,?_,λy c e=>?_,λp hp=>?_,hok,J.len⟩
  .refine kp b o (nx0 b o e) (λhm'=>?_) (I.base.keep b o e n' hb hx');rcases aT.mp (nfs b hm') with z|z
   .exact absurd (b_ (aK e) I.ok.above) (by rw[z];exact ef _)
   .exact hb z
  .obtain⟨sl,z⟩:=I.base.slot b o e n' hb hx';obtain⟨sl',z'⟩:=L1.slot b _ (nx0 b o e) z;exact⟨sl',z'⟩
  .rw[aj (nx0 b o e)];exact I.base.free b o e n' hx'
  .obtain⟨o',z⟩:=I.base.there b o e hx';obtain⟨sl,z'⟩:=L1.slot b _ (nx0 b o e) z;exact⟨_,z'⟩
  .have q:=I.base.tups b xs e;rw[aj (nex b _ q)];exact q
  .have q:=I.base.frzs b o u e;rw[aj (nex b _ q)];exact q
  .obtain⟨more,q⟩:=I.base.tbls b ps e;exact⟨more,by rw[aj (nex b _ q)];exact q⟩
  .obtain⟨m,⟨o,es,ep,ho,r⟩,hl'⟩:=J.loc;obtain⟨sl,z⟩:=L1.slot _ o (av hxl) ho;refine⟨m,⟨_,es,ep,z,r⟩,λj y v e1 e2 e3=>?_⟩;rw[xP] at e2
   split at e2<;>cases e2
  .obtain⟨v,o,ho,hd⟩:=I.cell y c e;obtain⟨sl,z⟩:=L1.slot c o (hxc y c e) ho;exact⟨v,_,z,hd⟩
  .rw[aj (av hxl)];exact I.free
  .rw[aj (hxc y c e)];exact I.freeC y c e
  .obtain⟨e,n',ne,nf,dd⟩:=I.pin p hp;refine⟨kp p.1 p.2 (hpx p hp) (λhm'=>?_) e,by rw[aj (hpx p hp)];exact n',ne,nf,dd⟩;rcases aT.mp (nfs p.1 hm') with z|z
   .exact ne z
   .exact nf z
 obtain⟨N1,nm1,q1,bs1,hd1,sn1,sub1,ab1,col1,dd1,a0,a1,a2,a3,a5,hC⟩:=qB I1.kIn hce;obtain⟨N2,nm2,q2,bs2,hd2,sn2,sub2,ab2,col2,dd2,b0',b1,b2,b3,b5,hHc⟩:=qB I1.kIn hcl;obtain⟨oe,vs,he,hcl',_⟩:=id x1;refine wpAny_handleBy_cons (codeAny_handlers_test (gd (I1.suite x) hg hm (A4 hC hHc he hcl' hbm hmt ?_) hdb)) (λz=>nomatch z);show codeAny _ _ (.handlers (.ref x) [.ExceptHandler none (some n) (b0::suite) hpos] X.env) _ _;refine codeAny_handlers_suite_as (A2 x1 λh2 x2 same=>?_);have I2:Inv X pins (List.replicate X.N.length none) (upd H x (eB x (.ref Ce) d)) {s with heap:=h2}:=I1.kept (t':=s.toks) λb o e=>(same b).trans e;refine iH I2 hN hi (.inl hl) (v:=.ref x) rfl (λs3 I3=>?_) (.inr hl);have run:=hs x pins s3 _ _ (rC i D) (I3.suite x) (ts0 x hH);refine dn run (λf s4 q4=>?_) λ_ _ z=>z.elim;have fin:∀{Z':St} {H':Hp},Inv (lx X x) pins Z' H' s4->(∀s',Inv X pins (Z'.set i none) H' s'->SP X pins D f s')->wpAny (model X.prog X.w) X.A (do bindName X.env n .none;unbindBehindTheSuite X.env n hpos) (λ_ s'=>SP X pins D f s') X.xe s4:=
  λJ k=>(J.unsuite I.ok).unname hN hi hl k
 cases f with
 |next=>obtain⟨Z',H',J,q⟩:=q4;exact fin J λs' J'=>⟨_,H',J',q⟩
 |brk=>obtain⟨Z',H',J,q⟩:=q4;exact fin J λs' J'=>⟨_,H',J',q⟩
 |cont=>obtain⟨Z',H',J,q⟩:=q4;exact fin J λs' J'=>⟨_,H',J',q⟩
 |ret v=>obtain⟨w',Z',H',J,r,q⟩:=q4;exact fin J λs' J'=>⟨w',_,H',J',r,q⟩
abbrev iP (X:Cx) (pins:List (Addr×Obj)) (xe:Value->Shared->Prop):Cx:={X with pn:=X.pn++pins,xe:=xe}
theorem Inv.toBody {xe:Value->Shared->Prop} (I:Inv X pins Z H s):Inv (iP X pins xe) [] Z H s:=
 ⟨⟨I.ok.mod,I.ok.kind,I.ok.glob,I.ok.blt,I.ok.above,I.ok.inj,I.ok.has,I.ok.cab,I.ok.hd,I.ok.frames,I.ok.stk,I.ok.exf,I.ok.bs,I.ok.bsz,I.ok.noex,I.ok.exfs,I.ok.funs,I.ok.frf⟩,I.os,I.bare,I.base,I.loc,I.cell,I.free,I.freeC,λp hp=>I.pin p (by rw[eL] at hp;exact hp),I.hok,I.len⟩
theorem Inv.ofBody {pins pins':List (Addr×Obj)} {xe:Value->Shared->Prop} (J:Inv (iP X pins xe) pins' Z H s):Inv X pins Z H s:=
 ⟨⟨J.ok.mod,J.ok.kind,J.ok.glob,J.ok.blt,J.ok.above,J.ok.inj,J.ok.has,J.ok.cab,J.ok.hd,J.ok.frames,J.ok.stk,J.ok.exf,J.ok.bs,J.ok.bsz,J.ok.noex,J.ok.exfs,J.ok.funs,J.ok.frf⟩,J.os,J.bare,J.base,J.loc,J.cell,J.free,J.freeC,λp hp=>J.pin p (dQ _ hp),J.hok,J.len⟩
theorem EW (hst:X.stack=X.env::X.outer/\X.env.frame=some X.env.locals) (hnx:X.ex=[]) (hN:X.N.Nodup) (hi:X.N[i]?=some n) (hl:X.env.scope.names.lookup n=some .local) (hg:Gl X cx) (hm:X.mg cx=some (.ref Ch))
  (hcl:clsIn X.K Ch=some bmh) (hbm:bmh.contains (.type "BaseException")=true)
  (hb:∀(pins:List (Addr×Obj)) (xe:Value->Shared->Prop) (E:XK),Passes (CX1 X.prog X.w) (iP X pins xe) E->Lets (iP X pins xe) E->PSs (iP X pins xe) body (tb E))
  (hs:∀x,PSs (lx X x) (b0::suite) (ts x)) (hdb:(cx==("__debug__" : Str))=false:=by decide) :
  PS X (.Try body [.ExceptHandler (some (.Name cx np)) (some n) (b0::suite) hpos] [] [] pos) (tTry X.K X.N.length Ch i tb ts):=by
 rintro pins s Z H D I ⟨E,q0,hE⟩;refine wpAny_Try_except ?_;have P1:Passes (CX1 X.prog X.w) (iP X pins λe s1=>wpAny (model X.prog X.w) X.A (noteFrame e X.env) (λ_ s2=>wpAny (model X.prog X.w) X.A (setFlight e none) (λ_ s3=>wpAny (model X.prog X.w) X.A (handleBy e X.env [.ExceptHandler (some (.Name cx np)) (some n) (b0::suite) hpos]) (SP X pins D) X.xe s3) X.xe s2) X.xe s1) E:=by rintro pins' Z' H' s' e s'' J ⟨x,cls,d,H2,rfl,hx,hn,hH,os,bare,un,hok,q⟩;have J2:=J.call' (ch:=[]) os un hok bare (λb z=>absurd z (by simp));refine land hst hnx hN hi hl hg hm hcl hbm hs hdb J2.ofBody hx (J.ofBody.oldNone hn (by rw[hnx];simp)) (λp hp z=>?_) hH (hE _ _ _ q);have e:=(J.pin p (dQ _ hp)).1;rw[z,hn] at e;cases e
 have P2:Lets (iP X pins λe s1=>wpAny (model X.prog X.w) X.A (noteFrame e X.env) (λ_ s2=>wpAny (model X.prog X.w) X.A (setFlight e none) (λ_ s3=>wpAny (model X.prog X.w) X.A (handleBy e X.env [.ExceptHandler (some (.Name cx np)) (some n) (b0::suite) hpos]) (SP X pins D) X.xe s3) X.xe s2) X.xe s1) E:=
  λpins' Z' H' s' x cls d J hx hn hp hH q=>land hst hnx hN hi hl hg hm hcl hbm hs hdb J.ofBody hx hn (λp hp'=>hp p (dQ _ hp')) hH (hE _ _ _ q)
 have run:=hb pins _ E P1 P2 [] s Z H D I.toBody q0;refine dn run (λf s1 q1=>?_) λ_ _ z=>z;cases f with
 |next=>
  obtain⟨Z',H',J,q⟩:=q1;exact pI ⟨Z',H',J.ofBody,q⟩
 |brk=>obtain⟨Z',H',J,q⟩:=q1;exact⟨Z',H',J.ofBody,q⟩
 |cont=>obtain⟨Z',H',J,q⟩:=q1;exact⟨Z',H',J.ofBody,q⟩
 |ret v=>obtain⟨w',Z',H',J,r,q⟩:=q1;exact⟨w',Z',H',J.ofBody,r,q⟩
end
end L2
end
section
namespace L2
open PySem PySem.Spec PyProof.Rows
section
def txt (l:List Nat):Str:=⟨l.toArray⟩
theorem qi (l:List Nat):(txt l).length=l.length:=by simp[txt,Str.length]
theorem CK (z:Str):txt z.cps.toList=z:=by cases z;simp[txt]
def oV {α:Type} (xs:List α) (lo hi:Option Int):List α:=(xs.drop (HT.sIx xs.length 0 lo)).take (HT.sIx xs.length xs.length hi-HT.sIx xs.length 0 lo)
end
section
def rFmt:V->Hp->VK->Prop:=λx H Q=>∃z,((x=.str z/\z.length<=sizeLine)\/∃i:Int,x=.int i/\i.natAbs.log2<1920/\z=(toString i:String))/\Q (.str z) H
theorem wK {e:Expr} {te:TE} {pos:Pos} (he:PE X e te):PE X (.FormattedValue e (-1) none pos) (tUn rFmt te):=by
 intro pins s Z H Q I h;refine wpAny_FormattedValue_plain (thn (he pins s Z H _ I h) λv s1 ⟨x,H1,I1,r1,z,hz,q⟩=>?_);rcases hz with ⟨rfl,hl⟩|⟨i,rfl,hl,rfl⟩
 .obtain⟨t,rfl⟩:=r1;exact Jw ⟨.str z,H1,I1,⟨_,rfl⟩,q⟩ ⟨.str z,H1,I1.tok _,⟨_,rfl⟩,q⟩ hl
 .obtain⟨t,rfl⟩:=r1;exact wpAny_formatField_int hl ⟨.str _,H1,I1.tok _,⟨_,rfl⟩,q⟩
abbrev TJ:=St->Hp->Str->(Str->Hp->Prop)->Prop
def PJ (X:Cx) (es:List Expr) (t:TJ):Prop:=
 ∀(pins:List (Addr×Obj)) (s:Shared) (Z:St) (H:Hp) (acc:Str) (Q:Str->Hp->Prop),Inv X pins Z H s->t Z H acc Q->
  Joins (model X.prog X.w) X.A X.xe (evalEach es X.env) acc (λout s'=>∃H',Inv X pins Z H' s'/\Q out H') s
def FX:TJ:=λ_ H acc Q=>Q acc H
def Ef (te:TE) (t:TJ):TJ:=λZ H acc Q=>te Z H λx H1=>∃z,x=.str z/\(acc++z).length<=sizeLine/\t Z H1 (acc++z) Q
theorem oA:PJ X [] FX:=λ_ _ _ H _ _ I h=>⟨H,I,h⟩
theorem fZ {e:Expr} {es:List Expr} {te:TE} {t:TJ} (he:PE X e te) (hs:PJ X es t) (hv:evalEach (e::es) X.env=eval e X.env::evalEach es X.env:=by rfl):PJ X (e::es) (Ef te t):=by intro pins s Z H acc Q I h;rw[hv];show wpAny _ _ (eval e X.env) _ _ s;refine thn (he pins s Z H _ I h) λv s1 ⟨x,H1,I1,r1,z,hx,hz,q⟩=>?_;subst hx;obtain⟨t,rfl⟩:=r1;exact⟨z,t,rfl,hz,hs pins s1 Z H1 (acc++z) Q I1 q⟩
def CP (t:TJ):TE:=λZ H Q=>t Z H Str.empty λout H'=>out.length<=sizeLine/\Q (.str out) H'
theorem n8 {v1 v2:Expr} {rest:List Expr} {t:TJ} {pos:Pos} (h:PJ X (v1::v2::rest) t):PE X (.JoinedStr (v1::v2::rest) pos) (CP t):=by
 intro pins s Z H Q I hq;refine wpAny_JoinedStr ?_;have j:=h pins s Z H Str.empty _ I hq;have mono:∀(parts:List (Sem Value)) (acc:Str) (Q Q':Str->Shared->Prop) (s:Shared),(∀o s',Q o s'->Q' o s')->Joins (model X.prog X.w) X.A X.xe parts acc Q s->Joins (model X.prog X.w) X.A X.xe parts acc Q' s:=by
  intro parts;induction parts with
  |nil=>intro acc Q Q' s k z;exact k _ _ z
  |cons p r ih=>
   intro acc Q Q' s k z;refine dn z (λv s1 ⟨y,t,e,hl,q⟩=>⟨y,t,e,hl,ih _ _ _ _ k q⟩) λ_ _ x=>x
 refine mono _ _ _ _ _ (λout s' ⟨H',I',hl,q⟩=>⟨hl,.str out,H',I'.tok _,⟨_,rfl⟩,q⟩) j
end
section
variable {D:Addr} {g:TG} {tt:TT} {te:TE} {Z':St} {H1:Hp} {Q:Hp->Prop}
end
section
variable {k:Nat} {f ex:Addr} {ps:List Str} {sp:Sp} {dvs:List V} {ds:List Value} {x:Str} {p pos:Pos} {e:Expr} {es:List Expr} {t:TA}
end
theorem Fun.ok1 {x qual:Str} {st:Stmt} {f:Addr} {N ps:List Str} {k:Nat} {sp:Sp} (F:Fun K x qual st f fd) (S:bc N ps (aE st)) (len:∀vs H Q E,sp vs H Q E->vs.length=ps.length)
  (hbody:∀(cdv:Value) (A:Around) (outer:List Env) (s:Shared) (H:Hp) (vs:List V) (Q:VK) (E:XK),Room k (A.deeper (envOfC qual (aE st) s.heap.objs.size f cdv))->sp vs H Q E->
   ∃t,PSs (eV (CX1 P w) P w K mg base N qual (aE st) f cdv A outer s H E) (cW st) t/\t {nx:=λ_ H'=>Q .non H',rt:=Q} (start N vs) H):ag P w K mg base (CX1 P w) (k+1) f fd ps sp:=by
 obtain⟨oc,od,kV,doc,pm,an,cdv,ct,osl,rfl,lk,hcd⟩:=F.ex;exact xv lk hcd S len λA outer s H vs Q E hr hsp=>hbody cdv A outer s H vs Q E hr hsp
end L2
end
section
namespace K51
open PySem L2
def digits (n:Nat):List Nat:=(Nat.toDigits 10 n).map Char.toNat
theorem pM {n:Nat} (h:n<10):digits n=[48+n]:=by
 unfold digits;rw[Nat.toDigits_of_lt_base h];have:∀d:Nat,d<10->(Nat.digitChar d).toNat=48+d:=by decide
 simp[this n h]
theorem zI {n:Nat} (h:10<=n):digits n=digits (n/10)++[48+n%10]:=by have hm:n%10<10:=pB n (by decide);have t:Nat.toDigits 10 (n/10)++Nat.toDigits 10 (n%10)=Nat.toDigits 10 (10*(n/10)+n%10):=Nat.toDigits_append_toDigits (by decide) (by lia) hm;rw[Nat.div_add_mod] at t;rw[<-pM hm];unfold digits;rw[<-t,bf]
theorem nG:∀(m n:Nat),n<10 ^ (m+1)->(digits n).length<=m+1
 |0,n,h=>by
  rw[pM (by simpa using h)];simp
 |m+1,n,h=>by
  by_cases h10:n<10
  .rw[pM h10];simp
  .rw[zI (by lia),aZ,cM];have:=nG m (n/10) (by rw[Nat.pow_succ] at h;lia);lia
theorem ql (n:Nat):((toString ((n:Nat):Int):String):Str)=txt (digits n):=by rw[<-CK (Str.ofString (toString ((n:Nat):Int))),Ko];rfl
end K51
end
section
namespace L2
open PySem PySem.Spec PyProof.Rows PySem.W
structure fP (K:W.Frag) (D:Addr):Prop where
 ga:W.findIn K (.ref D) "__getattribute__" = some (some (.builtin "BaseException.__getattribute__"))
 ha:W.findIn K (.ref D) "__getattr__" = some none
 cl:W.findIn K (.ref D) "__class__" = some (some (.builtin "object.__class__"))
 gt:W.specialIn K (.builtin "object.__class__") "__get__" = some (some (.builtin "getset_descriptor.__get__"))
 tk:W.takesIn K (.builtin "object.__class__")=some true
 mo:W.mroIn K D (.type "object")=some true
 mb:W.mroIn K D (.type "BaseException")=some true
 cd:(W.clsIn K D).isSome=true
section
variable {prog:Program} {x D:Addr} {ox:Obj}
end
section
theorem jr {c:String}:cL X (.builtin "isinstance") (λxs H Q=>∃(x:V) (ty:Value) (b:Bool),xs=[x,.ty c]/\cZ X.K H x ty/\W.kitOne X.K ty (.type c)=some b/\Q (.bl b) H):=by intro pins s Z H xs us Q I r h;obtain⟨x,ty,b,rfl,hty,e,q⟩:=h;obtain⟨u,w',rfl,ru,rw'⟩:=vals2 r;cases (show w'=Value.type c from rw');exact AX I ru hty e λtk=>⟨.bl b,H,I.tok _,rfl,q⟩
end
end L2
end
section
namespace K51
open PySem L2
structure cH (mg:Str->Option Value):Prop where
 len:mg "len" = none
 int:mg "int" = none
 str:mg "str" = none
 isi:mg "isinstance" = none
 range:mg "range" = none
 list:mg "list" = none
 tuple:mg "tuple" = none
 bool:mg "bool" = none
 all:mg "all" = none
 ve:mg "ValueError" = none
 rev:mg "reversed" = none
 enum:mg "enumerate" = none
theorem DT {α:Type} (l:List α) (a b:Nat):oV l (some (a:Int)) (some (b:Int))=(l.drop a).take (b-a):=by
 unfold oV;rw[HT.sIx_nat,HT.sIx_nat];by_cases h:a<=l.length
 .rw[pA h];by_cases hb:b<=l.length
  .rw[pA hb]
  .rw[Nat.min_eq_right (by lia),jb (by rw[i9];lia),jb (by rw[i9];lia)]
 .rw[HX (show l.length<=a by lia),HX (show l.length<=min a l.length by lia)];simp
theorem Cy {α:Type} (l:List α) (a:Nat):oV l (some (a:Int)) none=l.drop a:=by have h:=DT l a l.length;rw[jb (by rw[i9];lia)] at h;rw[<-h];unfold oV;rw[HT.sIx_none,HT.sIx_nat,HT.sIx_nat,Nat.min_self]
theorem line5000:5010<=sizeLine:=by rw[dv];decide
theorem cu {t:Addr} {o:HO} (h:H t=none):Same H (upd H t o):=λb u e=>by rw[aj (ak e h)];exact e
theorem fB {n:Nat} (h:n<10 ^ 60):((n:Nat):Int).natAbs.log2<1920:=by
 show n.log2<1920;by_cases h0:n=0
 .subst h0;decide
 .exact (yc h0).mpr (b_ (yd h (show 10 ^ 60<2 ^ 200 by decide)) (yg (by decide) (by decide)))
theorem nH {N:List Str} (nd:N.Nodup) (kind:scope.kind=.function) (nc:scope.names.all (λy=>y.2 != .cell&&y.2 != .free)=true)
  (nm:scope.names.all (λy=>y.2 != .local||scope.names.lookup y.1==some .local)=true):fG X N (N.map λ_=>none) scope:=by
 have h1:∀y∈scope.names,y.2≠.cell/\y.2≠.free:=λy hy=>by
  have:=jV.mp nc y hy;simpa using this
 refine⟨nd,by simp,kind,λy hy=>(h1 y hy).1,λy hy e=>?_,λy hy e=>absurd e (h1 y hy).2,λj i x e _=>?_⟩
 .have:=jV.mp nm y hy;rw[e] at this;simpa using this
 .rw[bp] at e;cases q:N[j]? with
  |none=>rw[q] at e;cases e
  |some z=>rw[q] at e;cases e
theorem mx (a b:Int):decide (V.int a=V.int b)=decide (a=b):=by rw[iw];simp
end K51
end
section
namespace K31
open K51
abbrev Side:=Nat×Nat
abbrev Lps:=List (List Nat)
end K31
end
section
namespace L2
open PySem PySem.Spec PyProof.Rows
section
end
theorem kQ {a:Addr} {g:TG} {tb:TS} {D:Ends} (Pv:Nat->St->Hp->Prop) (h0:Pv 0 Z H) (hl:∀i Z H,i<=xs.length->Pv i Z H->SqL K H a xs)
  (hs:∀i x p Z H,xs[i]?=some x->Pv i Z H->H p=none->g (.ref p) Z (upd H p (.tup [.int (i:Int),x])) λZ2 H2=>tb {D with nx:=Pv (i+1),ct:=Pv (i+1),bk:=D.nx} Z2 H2) (hd:∀Z H,Pv xs.length Z H->D.nx Z H) :
  ∃W:Nat->Nat->St->Hp->Prop,(∃m,W 0 m Z H)/\∀i m Z H,W i m Z H->
   ((Ite K a).stop i H/\D.nx Z H)\/((Ite K a).go i H/\∃N:St->Hp->Prop,(∀Z' H',N Z' H'->∃m',m'<m/\W (i+1) m' Z' H')/\∀x H',(Ite K a).yld i H x H'->g x Z H' λZ2 H2=>tb {D with nx:=N,ct:=N,bk:=D.nx} Z2 H2):=by
 refine⟨λi m Z H=>m=xs.length-i/\i<=xs.length/\Pv i Z H,⟨xs.length,by simp,aU _,h0⟩,?_⟩;rintro i m Z H ⟨rfl,hi,p⟩;have q:=hl i Z H hi p;by_cases hlt:i<xs.length
 .refine .inr ⟨⟨xs,xs[i],q,bZ hlt⟩,Pv (i+1),λZ' H' p'=>⟨xs.length-(i+1),by lia,rfl,hlt,p'⟩,λx H' y=>?_⟩;obtain⟨b,v,hb,rfl,rfl,y⟩:=y;exact hs i v b Z H (y xs q) p hb
 .have e:i=xs.length:=by lia
  subst e;exact .inl ⟨⟨xs,q,ar _⟩,hd Z H p⟩
end L2
end
section
namespace K15
abbrev Tri:=Nat×Nat×Nat
abbrev Ent:=(Nat×Nat)×Nat
def ents (ts:List Tri):List Ent:=ts.flatMap λt=>[((t.1,t.2.1),t.2.2),((t.2.1,t.2.2),t.1),((t.2.2,t.1),t.2.1)]
theorem dU {ts:List Tri} {a b c:Nat}:((a,b),c)∈ents ts↔(a,b,c)∈ts\/(c,a,b)∈ts\/(b,c,a)∈ts:=by
 unfold ents;rw[fV];constructor
 .rintro⟨⟨x,y,z⟩,ht,h⟩;simp only[aT,mZ,or_false,IA] at h;rcases h with ⟨⟨rfl,rfl⟩,rfl⟩|⟨⟨rfl,rfl⟩,rfl⟩|⟨⟨rfl,rfl⟩,rfl⟩
  .exact .inl ht
  .exact .inr (.inl ht)
  .exact .inr (.inr ht)
 .rintro (h|h|h)
  .exact⟨_,h,by simp⟩
  .exact⟨_,h,by simp⟩
  .exact⟨_,h,by simp⟩
structure Sk (E:Nat->Nat->Nat->Prop):Prop where
 rot:∀{a b c},E a b c->E b c a
 one:∀{a b c d},E a b c->E a b d->c=d
 ne:∀{a b c},E a b c->a≠b
def En (ts:List Tri) (a b c:Nat):Prop:=((a,b),c)∈ents ts
structure Good (ts:List Tri):Prop where
 ne:∀t∈ts,t.1≠t.2.1/\t.2.1≠t.2.2/\t.2.2≠t.1
 nd:((ents ts).map (·.1)).Nodup
theorem uk {α β:Type} {l:List (α×β)} (h:(l.map (·.1)).Nodup) {a:α} {b c:β} (hb:(a,b)∈l) (hc:(a,c)∈l):b=c:=by
 induction l with
 |nil=>cases hb
 |cons x l ih=>
  rw[a8,d_] at h;rcases aT.mp hb with e|hb'
  .rcases aT.mp hc with e' | hc'
   .rw[<-e] at e';exact (jf e').2.symm
   .exact (h.1 (aD.mpr ⟨_,hc',by rw[<-e]⟩)).elim
  .rcases aT.mp hc with e' | hc'
   .exact (h.1 (aD.mpr ⟨_,hb',by rw[<-e']⟩)).elim
   .exact ih h.2 hb' hc'
theorem nK {l:List Nat} (h:l.Nodup):∀{i j x:Nat},l[i]?=some x->l[j]?=some x->i=j:=by
 induction l with
 |nil=>intro i j x h1;simp at h1
 |cons a l ih=>
  intro i j x h1 h2;rw[d_] at h;cases i with
  |zero=>
   cases j with
   |zero=>rfl
   |succ j=>
    simp at h1 h2;subst h1;exact (h.1 (bE h2)).elim
  |succ i=>
   cases j with
   |zero=>
    simp at h1 h2;subst h2;exact (h.1 (bE h1)).elim
   |succ j=>
    simp at h1 h2;rw[ih h.2 h1 h2]
theorem Good.sk {ts:List Tri} (g:Good ts):Sk (En ts):=by
 refine⟨λ{a b c} h=>?_,λ{a b c d} h1 h2=>uk g.nd h1 h2,λ{a b c} h=>?_⟩
 .unfold En at *;rw[dU] at *;rcases h with h|h|h
  .exact .inr (.inl h)
  .exact .inr (.inr h)
  .exact .inl h
 .unfold En at h;rw[dU] at h;rcases h with h|h|h
  .exact (g.ne _ h).1
  .exact (g.ne _ h).2.1
  .exact (g.ne _ h).2.2
section
variable {E:Nat->Nat->Nat->Prop}
theorem Sk.inj (k:Sk E) {v p p' q:Nat} (h:E v p q) (h':E v p' q):p=p':=k.one (k.rot (k.rot h)) (k.rot (k.rot h'))
structure Fan (E:Nat->Nat->Nat->Prop) (v:Nat) (F:List Nat):Prop where
 ne:F≠[]
 nd:F.Nodup
 ch:∀i p q,F[i]?=some p->F[i+1]?=some q->E v p q
 key:∀p∈F,∃q,E v p q
 clF:∀p∈F,∀q,E v p q->(∃r,E v q r)->q∈F
 clB:∀p∈F,∀o,E v o p->o∈F
def One (E:Nat->Nat->Nat->Prop) (v:Nat):Prop:=∃F,Fan E v F/\∀p,(∃q,E v p q)->p∈F
theorem Cc (k:Sk E) {v:Nat} {L:List Nat} {at_:Nat} (hne:L≠[]) (nd:L.Nodup) (hkey:∀p∈L,∃q,E v p q) (ch:∀i p q,L[i]?=some p->L[i+1]?=some q->E v p q)
  (hlast:∀p,L.getLast?=some p->E v p at_) (hstop:(∃q,E v at_ q)->at_∈L) {s:Nat} (hs:L.head?=some s) (hfirst:(∀o,¬E v o s)\/∀p,(∃q,E v p q)->∃o,E v o p) :
  (∀p,(∃q,E v p q)->p∈L)↔One E v:=by
 constructor
 .intro hall;exact⟨L,⟨hne,nd,ch,hkey,λp _ q _ hq=>hall q hq,λp _ o ho=>hall o ⟨p,ho⟩⟩,hall⟩
 .rintro⟨F,hF,hall⟩;have hsL:s∈L:=by cases L with|nil=>cases hs|cons a l=>cases hs;simp
  have clo:∀x∈L,∀y,E v x y->(∃r,E v y r)->y∈L:=by
   intro x hx y hy hr;obtain⟨i,hi⟩:=fu hx;have hil:=(aJ.mp hi).1;by_cases h:i+1<L.length
   .have h1:L[i+1]?=some L[i+1]:=bZ h;have:=k.one hy (ch i _ _ hi h1);rw[this];exact bE h1
   .have e:L.getLast?=some x:=by rw[pk,show L.length-1=i by lia];exact hi
    have:=k.one hy (hlast x e);rw[this] at hr |-;exact hstop hr
  have hsF:s∈F:=hall s (hkey s hsL);obtain⟨j,hj⟩:=fu hsF;have fw:∀i0:Nat,(∀y,F[i0]?=some y->y∈L)->∀(m:Nat) (y:Nat),F[i0+m]?=some y->y∈L:=by
   intro i0 h0 m;induction m with
   |zero=>intro y hy;exact h0 y hy
   |succ m ih=>
    intro y hy;have hl:i0+m<F.length:=by have:=(aJ.mp hy).1;lia
    have h1:F[i0+m]?=some F[i0+m]:=bZ hl;exact clo _ (ih _ h1) y (hF.ch _ _ _ h1 hy) (hF.key y (bE hy))
  have fromj:=fw j (λy hy=>by rw[hj] at hy;cases hy;exact hsL);have zero:∀y,F[0]?=some y->y∈L:=by
   intro y hy;by_cases hj0:j=0
   .subst hj0;rw[hj] at hy;cases hy;exact hsL
   .have hjl:=(aJ.mp hj).1;have h1:F[j-1]?=some F[j-1]:=bZ (by lia);have hin:=hF.ch (j-1) _ _ h1 (by rw[show j-1+1=j by lia];exact hj);rcases hfirst with h|h
    .exact (h _ hin).elim
    .obtain⟨o,ho⟩:=h y (hF.key y (bE hy));have hoF:=hF.clB y (bE hy) o ho;obtain⟨i,hi⟩:=fu hoF;have hil:=(aJ.mp hi).1;by_cases hlt:i+1<F.length
     .have h2:F[i+1]?=some F[i+1]:=bZ hlt;have e:=k.one (hF.ch i _ _ hi h2) ho;rw[e] at h2;have:=nK hF.nd h2 hy;lia
     .have:o∈L:=fromj (i-j) o (by rw[show j+(i-j)=i by lia];exact hi);exact clo o this y ho (hF.key y (bE hy))
  intro p hp;obtain⟨i,hi⟩:=fu (hall p hp);exact fw 0 zero i p (by rw[j5];exact hi)
theorem vp {v:Nat} {F G:List Nat} (ch:∀i p q,F[i]?=some p->F[i+1]?=some q->E v p q) (key:∀p∈F,∃q,E v p q) (hG:Fan E v G) {x:Nat} (x1:x∈F) (x2:x∈G):∀y∈F,y∈G:=by
 obtain⟨j,hj⟩:=fu x1;have fw:∀(m:Nat) (y:Nat),F[j+m]?=some y->y∈G:=by
  intro m;induction m with
  |zero=>intro y hy;rw[Im,hj] at hy;cases hy;exact x2
  |succ m ih=>
   intro y hy;have hl:j+m<F.length:=by have:=(aJ.mp hy).1;lia
   have h1:F[j+m]?=some F[j+m]:=bZ hl;exact hG.clF _ (ih _ h1) y (ch (j+m) _ _ h1 hy) (key y (bE hy))
 have bw:∀m:Nat,m<=j->∀y:Nat,F[j-m]?=some y->y∈G:=by
  intro m;induction m with
  |zero=>intro _ y hy;rw[Ir,hj] at hy;cases hy;exact x2
  |succ m ih=>
   intro hm y hy;have hl:j-m<F.length:=by have:=(aJ.mp hj).1;lia
   have h1:F[j-m]?=some F[j-m]:=bZ hl;have e:j-(m+1)+1=j-m:=by lia
   exact hG.clB _ (ih (by lia) _ h1) y (ch (j-(m+1)) _ _ hy (by rw[e];exact h1))
 intro y hy;obtain⟨i,hi⟩:=fu hy;by_cases h:j<=i
 .exact fw (i-j) y (by rw[show j+(i-j)=i by lia];exact hi)
 .exact bw (j-i) (by lia) y (by rw[show j-(j-i)=i by lia];exact hi)
theorem Ck (k:Sk E) {v:Nat} {fs:List (List Nat)} {left F:List Nat} {x0:Nat} (hfs:∀G∈fs,Fan E v G) (hleft:∀p,(∃q,E v p q)->p∈left\/∃G∈fs,p∈G) (hdis:∀p∈left,∀G∈fs,p∉G)
  (nd:F.Nodup) (key:∀p∈F,∃q,E v p q) (ch:∀i p q,F[i]?=some p->F[i+1]?=some q->E v p q) (x1:x0∈F) (x2:x0∈left)
  (hend:∀p,F.getLast?=some p->∀q,E v p q->q∈left->q∈F) (hbeg:∀p,F.head?=some p->∀o,E v o p->o∈F):Fan E v F/\∀p∈F,∀G∈fs,p∉G:=by
 have dis:∀p∈F,∀G∈fs,p∉G:=λp hp G hG hpG=>hdis x0 x2 G hG (vp ch key (hfs G hG) hp hpG x0 x1);refine⟨⟨λz=>(by rw[z] at x1;cases x1),nd,ch,key,λp hp q hq hr=>?_,λp hp o ho=>?_⟩,dis⟩
 .obtain⟨i,hi⟩:=fu hp;have hil:=(aJ.mp hi).1;by_cases h:i+1<F.length
  .have h1:F[i+1]?=some F[i+1]:=bZ h;rw[k.one hq (ch i _ _ hi h1)];exact bE h1
  .have e:F.getLast?=some p:=by rw[pk,show F.length-1=i by lia];exact hi
   rcases hleft q hr with z|⟨G,hG,hqG⟩
   .exact hend p e q hq z
   .exact (dis p hp G hG ((hfs G hG).clB q hqG p hq)).elim
 .obtain⟨i,hi⟩:=fu hp;cases i with
  |zero=>exact hbeg p (by rw[xR];exact hi) o ho
  |succ i=>
   have hil:=(aJ.mp hi).1;have h1:F[i]?=some F[i]:=bZ (by lia);rw[k.inj ho (ch i _ _ h1 hi)];exact bE h1
structure Fans (E:Nat->Nat->Nat->Prop) (v:Nat) (fs:List (List Nat)):Prop where
 fan:∀F∈fs,Fan E v F
 all:∀p,(∃q,E v p q)->∃F∈fs,p∈F
 dis:fs.Pairwise λF G=>∀p∈F,p∉G
theorem Dv (k:Sk E) {v:Nat} {fs:List (List Nat)} (h:Fans E v fs) (hne:fs≠[]):One E v↔fs.length=1:=by
 cases fs with
 |nil=>exact (hne rfl).elim
 |cons F r=>
  have hF:=h.fan F (by simp);constructor
  .rintro⟨H,hH,hall⟩;cases r with
   |nil=>rfl
   |cons G r=>
    have hG:=h.fan G (by simp);obtain⟨x,hx⟩:=rM F hF.ne;obtain⟨y,hy⟩:=rM G hG.ne;have hd:=(rW.mp h.dis).1 G (by simp);have yF:y∈F:=vp hH.ch hH.key hF (hall x (hF.key x hx)) hx y (hall y (hG.key y hy));exact (hd y yF hy).elim
  .intro hl;have hr:r=[]:=Ie.mp (by simpa using hl);subst hr;refine⟨F,hF,λp hp=>?_⟩;obtain⟨G,hG,hpG⟩:=h.all p hp;rw[aV.mp hG] at hpG;exact hpG
def rn (v n:Nat) (F:List Nat) (a b:Nat):Nat:=if a=v/\b∈F then n else a
def ren (v n:Nat) (F:List Nat) (t:Tri):Tri:=(rn v n F t.1 t.2.1,rn v n F t.2.1 t.2.2,rn v n F t.2.2 t.1)
def Rn (E:Nat->Nat->Nat->Prop) (v n:Nat) (F:List Nat) (x y z:Nat):Prop:=∃a b c,E a b c/\x=rn v n F a b/\y=rn v n F b c/\z=rn v n F c a
theorem Fx {ts:List Tri} {v n:Nat} {F:List Nat} {x y z:Nat}:En (ts.map (ren v n F)) x y z↔Rn (En ts) v n F x y z:=by
 unfold En Rn;rw[dU];constructor
 .intro h;have key:∀p q r,(p,q,r)∈ts.map (ren v n F)->∃a b c,(a,b,c)∈ts/\p=rn v n F a b/\q=rn v n F b c/\r=rn v n F c a:=by
   intro p q r hp;obtain⟨⟨a,b,c⟩,ht,e⟩:=aD.mp hp;unfold ren at e;simp only[IA] at e;exact⟨a,b,c,ht,e.1.symm,e.2.1.symm,e.2.2.symm⟩
  rcases h with h|h|h
  .obtain⟨a,b,c,ht,e1,e2,e3⟩:=key _ _ _ h;exact⟨a,b,c,dU.mpr (.inl ht),e1,e2,e3⟩
  .obtain⟨a,b,c,ht,e1,e2,e3⟩:=key _ _ _ h;exact⟨b,c,a,dU.mpr (.inr (.inl ht)),e2,e3,e1⟩
  .obtain⟨a,b,c,ht,e1,e2,e3⟩:=key _ _ _ h;exact⟨c,a,b,dU.mpr (.inr (.inr ht)),e3,e1,e2⟩
 .rintro⟨a,b,c,h,rfl,rfl,rfl⟩;rcases dU.mp h with h|h|h
  .exact .inl (aD.mpr ⟨_,h,rfl⟩)
  .exact .inr (.inl (aD.mpr ⟨_,h,rfl⟩))
  .exact .inr (.inr (aD.mpr ⟨_,h,rfl⟩))
theorem e8 {v n:Nat} {F:List Nat} {a b:Nat} (h:a≠v):rn v n F a b=a:=by unfold rn;rw[KH λz=>h z.1]
theorem oN {v n:Nat} {F:List Nat} {b:Nat} (h:b∈F):rn v n F v b=n:=by unfold rn;rw[KI ⟨rfl,h⟩]
theorem qK {v n:Nat} {F:List Nat} {b:Nat} (h:b∉F):rn v n F v b=v:=by unfold rn;rw[KH λz=>h z.2]
section
variable {v n:Nat} {F:List Nat}
theorem gv {a b:Nat} (ha:a≠n) (h:rn v n F a b=n):a=v/\b∈F:=by
 unfold rn at h
 split at h
 .assumption
 .exact (ha h).elim
theorem ff {a b:Nat} (h:rn v n F a b≠n):rn v n F a b=a:=by
 unfold rn at h |-
 split
 .rename_i z;rw[KI z] at h;exact (h rfl).elim
 .rfl
variable (k:Sk E) (fr:∀a b c,E a b c->a≠n) (hF:Fan E v F)
include k fr
theorem lh {p q:Nat}:Rn E v n F n p q↔E v p q/\p∈F:=by
 constructor
 .rintro⟨a,b,c,h,e1,rfl,rfl⟩;obtain⟨rfl,hb⟩:=gv (fr _ _ _ h) e1.symm;rw[e8 (av (k.ne h)),e8 (k.ne (k.rot (k.rot h)))];exact⟨h,hb⟩
 .rintro⟨h,hp⟩;exact⟨v,p,q,h,(oN hp).symm,(e8 (av (k.ne h))).symm,(e8 (k.ne (k.rot (k.rot h)))).symm⟩
theorem jC (hv:v≠n) {p q:Nat}:Rn E v n F v p q↔E v p q/\p∉F:=by
 constructor
 .rintro⟨a,b,c,h,e1,rfl,rfl⟩;have:a=v:=by
   have e2:=ff (v:=v) (n:=n) (F:=F) (a:=a) (b:=b) (by rw[<-e1];exact hv);rw[e1,e2]
  subst this;have hb:b∉F:=λz=>by rw[oN z] at e1;exact hv e1
  rw[e8 (av (k.ne h)),e8 (k.ne (k.rot (k.rot h)))];exact⟨h,hb⟩
 .rintro⟨h,hp⟩;exact⟨v,p,q,h,(qK hp).symm,(e8 (av (k.ne h))).symm,(e8 (k.ne (k.rot (k.rot h)))).symm⟩
theorem Gn:Sk (Rn E v n F):=by
 refine⟨?_,?_,?_⟩
 .rintro x y z ⟨a,b,c,h,e1,e2,e3⟩;exact⟨b,c,a,k.rot h,e2,e3,e1⟩
 .rintro x y z z' ⟨a,b,c,h,e1,e2,e3⟩ ⟨a',b',c',h',e1',e2',e3'⟩;have fa:a≠n:=fr _ _ _ h;have fa':a'≠n:=fr _ _ _ h';have fb:b≠n:=fr _ _ _ (k.rot h);have fb':b'≠n:=fr _ _ _ (k.rot h');have ea:a=a':=by
   by_cases hx:x=n
   .rw[(gv fa (e1.symm.trans hx)).1,(gv fa' (e1'.symm.trans hx)).1]
   .rw[<-ff (v:=v) (n:=n) (F:=F) (a:=a) (b:=b) (by rw[<-e1];exact hx),<-ff (v:=v) (n:=n) (F:=F) (a:=a') (b:=b') (by rw[<-e1'];exact hx),<-e1,<-e1']
  have eb:b=b':=by
   by_cases hy:y=n
   .rw[(gv fb (e2.symm.trans hy)).1,(gv fb' (e2'.symm.trans hy)).1]
   .rw[<-ff (v:=v) (n:=n) (F:=F) (a:=b) (b:=c) (by rw[<-e2];exact hy),<-ff (v:=v) (n:=n) (F:=F) (a:=b') (b:=c') (by rw[<-e2'];exact hy),<-e2,<-e2']
  subst ea eb;rw[e3,e3',k.one h h']
 .rintro x y z ⟨a,b,c,h,rfl,rfl,_⟩;have fa:a≠n:=fr _ _ _ h;have fb:b≠n:=fr _ _ _ (k.rot h);have nab:=k.ne h;intro e;by_cases hx:rn v n F a b=n
  .have h1:=(gv fa hx).1;have h2:=(gv fb (e.symm.trans hx)).1;exact nab (h1.trans h2.symm)
  .have h1:=ff hx;have h2:=ff (v:=v) (n:=n) (F:=F) (a:=b) (b:=c) (by rw[<-e];exact hx);exact nab (by rw[<-h1,e,h2])
include hF
theorem BP:One (Rn E v n F) n:=by
 refine⟨F,⟨hF.ne,hF.nd,λi p q hp hq=>(lh k fr).mpr ⟨hF.ch i p q hp hq,bE hp⟩,λp hp=>?_,λp hp q hq hr=>?_,λp hp o ho=>((lh k fr).mp ho).2⟩,λp ⟨q,hq⟩=>((lh k fr).mp hq).2⟩
 .obtain⟨q,hq⟩:=hF.key p hp;exact⟨q,(lh k fr).mpr ⟨hq,hp⟩⟩
 .obtain⟨r,hr⟩:=hr;exact ((lh k fr).mp hr).2
omit hF in
theorem Cj (hv:v≠n) {G:List Nat} (hG:Fan E v G) (hd:∀p∈F,p∉G):Fan (Rn E v n F) v G:=by
 have out:∀p∈G,p∉F:=λp hp z=>hd p z hp;refine⟨hG.ne,hG.nd,λi p q hp hq=>(jC k fr hv).mpr ⟨hG.ch i p q hp hq,out p (bE hp)⟩,λp hp=>?_,λp hp q hq hr=>?_,λp hp o ho=>hG.clB p hp o ((jC k fr hv).mp ho).1⟩
 .obtain⟨q,hq⟩:=hG.key p hp;exact⟨q,(jC k fr hv).mpr ⟨hq,out p hp⟩⟩
 .obtain⟨r,hr⟩:=hr;exact hG.clF p hp q ((jC k fr hv).mp hq).1 ⟨r,((jC k fr hv).mp hr).1⟩
theorem AB (hv:v≠n) {u:Nat} (huv:u≠v) (hun:u≠n) (h:One E u):One (Rn E v n F) u:=by
 obtain⟨G,hG,hall⟩:=h
 let cond:Prop:=(∃q∈F,E u v q)\/((∃p,E u p v)/\u∈F)
 have dec:=Classical.propDecidable cond
 let ρ:Nat->Nat:=λx=>if x=v then (if cond then n else v) else x
 have ρo:∀x,x≠v->ρ x=x:=λx hx=>KH hx;have ρv:ρ v=if cond then n else v:=KI rfl
 have rp:∀p q,E u p q->rn v n F p q=ρ p:=by
  intro p q h;by_cases hp:p=v
  .subst hp;by_cases hq:q∈F
   .rw[oN hq,ρv,KI (.inl ⟨q,hq,h⟩)]
   .rw[qK hq,ρv,KH];rintro (⟨q',hq',h'⟩|⟨⟨p',hp'⟩,huF⟩)
    .exact hq (by rw[k.one h h'];exact hq')
    .exact hq (hF.clB u huF q (k.rot h))
  .rw[e8 hp,ρo p hp]
 have rq:∀p q,E u p q->rn v n F q u=ρ q:=by
  intro p q h;by_cases hq:q=v
  .subst hq;by_cases hu:u∈F
   .rw[oN hu,ρv,KI (.inr ⟨⟨p,h⟩,hu⟩)]
   .rw[qK hu,ρv,KH];rintro (⟨q',hq',h'⟩|⟨_,huF⟩)
    .exact hu (hF.clF q' hq' u (k.rot h') ⟨p,k.rot (k.rot h)⟩)
    .exact hu huF
  .rw[e8 hq,ρo q hq]
 have ru:∀b,rn v n F u b=u:=λb=>e8 huv;have to:∀p q,E u p q->Rn E v n F u (ρ p) (ρ q):=λp q h=>⟨u,p,q,h,(ru p).symm,(rp p q h).symm,(rq p q h).symm⟩;have back:∀x y,Rn E v n F u x y->∃p q,E u p q/\x=ρ p/\y=ρ q:=by
  rintro x y ⟨a,b,c,h,e1,e2,e3⟩;have ha:a=u:=by
   by_cases hx:rn v n F a b=n
   .exact (hun (e1.trans hx)).elim
   .rw[e1,ff hx]
  subst ha;exact⟨b,c,h,e2.trans (rp b c h),e3.trans (rq b c h)⟩
 have fresh:∀p q,E u p q->p≠n/\q≠n:=λp q h=>⟨fr _ _ _ (k.rot h),fr _ _ _ (k.rot (k.rot h))⟩;have inj:∀x y,x≠n->y≠n->ρ x=ρ y->x=y:=by
  intro x y hx hy e;by_cases h1:x=v
  .by_cases h2:y=v
   .rw[h1,h2]
   .rw[h1,ρo y h2,ρv] at e
    split at e
    .exact (hy e.symm).elim
    .exact (h2 e.symm).elim
  .by_cases h2:y=v
   .rw[h2,ρo x h1,ρv] at e
    split at e
    .exact (hx e).elim
    .exact (h1 e).elim
   .rw[ρo x h1,ρo y h2] at e;exact e
 have gn:∀x∈G,x≠n:=λx hx=>by
  obtain⟨q,hq⟩:=hG.key x hx;exact (fresh x q hq).1
 have gm:∀x,x≠n->ρ x∈G.map ρ->x∈G:=λx hx h=>by
  obtain⟨y,hy,e⟩:=aD.mp h;rw[<-inj y x (gn y hy) hx e];exact hy
 have get:∀(i:Nat) (x:Nat),(G.map ρ)[i]?=some x->∃p,G[i]?=some p/\x=ρ p:=λi x h=>by
  rw[bp] at h;cases e:G[i]? with
  |none=>rw[e] at h;cases h
  |some p=>rw[e] at h;cases h;exact⟨p,rfl,rfl⟩
 refine⟨G.map ρ,⟨by simpa using hG.ne,?_,λi p q hp hq=>?_,λp hp=>?_,λx hx y hy hr=>?_,λx hx y hy=>?_⟩,?_⟩
 .have:∀l:List Nat,(∀x∈l,x≠n)->l.Nodup->(l.map ρ).Nodup:=by
   intro l;induction l with
   |nil=>intro _ _;exact jZ
   |cons a l ih=>
    intro h1 h2;rw[d_] at h2;rw[a8,d_];refine⟨λz=>?_,ih (λx hx=>h1 x (cN _ hx)) h2.2⟩;obtain⟨y,hy,e⟩:=aD.mp z;have:=inj y a (h1 y (cN _ hy)) (h1 a (by simp)) e;exact h2.1 (this ▸ hy)
  exact this G gn hG.nd
 .obtain⟨p',hp',rfl⟩:=get i p hp;obtain⟨q',hq',rfl⟩:=get (i+1) q hq;exact to p' q' (hG.ch i p' q' hp' hq')
 .obtain⟨p',hp',rfl⟩:=aD.mp hp;obtain⟨q,hq⟩:=hG.key p' hp';exact⟨_,to p' q hq⟩
 .obtain⟨p',hp',rfl⟩:=aD.mp hx;obtain⟨p,q,h1,e1,rfl⟩:=back _ _ hy;have ep:=inj p' p (gn p' hp') (fresh p q h1).1 e1;subst ep;obtain⟨r,hr⟩:=hr;obtain⟨p2,q2,h2,e2,_⟩:=back _ _ hr;have eq:=inj q p2 (fresh p' q h1).2 (fresh p2 q2 h2).1 e2;subst eq;exact aD.mpr ⟨q,hG.clF p' hp' q h1 ⟨q2,h2⟩,rfl⟩
 .obtain⟨p',hp',rfl⟩:=aD.mp hx;obtain⟨p,q,h1,rfl,e1⟩:=back _ _ hy;have eq:=inj p' q (gn p' hp') (fresh p q h1).2 e1;subst eq;exact aD.mpr ⟨p,hG.clB p' hp' p h1,rfl⟩
 .rintro x ⟨y,hy⟩;obtain⟨p,q,h1,rfl,_⟩:=back _ _ hy;exact aD.mpr ⟨p,hall p ⟨q,h1⟩,rfl⟩
end
end
end K15
end
section
namespace K31
open PySem L2 K51
theorem same_of {H H1:Hp} {p:Addr} {o:HO} (g:H p=none) (e:upd H p o=H1):Same H H1:=by rw[<-e];exact cu g
theorem at_of {H H1:Hp} {p:Addr} {o:HO} (e:upd H p o=H1):H1 p=some o:=by rw[<-e];exact aO
def nV (l:List Nat):List V:=l.map λn:Nat=>V.int (n:Int)
def mE (H:Hp) (v:V) (l:List Nat):Prop:=∃a,v=.ref a/\H a=some (.lst (nV l))
abbrev jR (H:Hp):List V->Lps->Prop:=Paired (mE H)
def my (H:Hp) (v:V) (t:Nat×Nat×Nat):Prop:=∃a,v=.ref a/\H a=some (.tup [.int (t.1:Int),.int (t.2.1:Int),.int (t.2.2:Int)])
abbrev aG (H:Hp):List V->List (Nat×Nat×Nat)->Prop:=Paired (my H)
theorem mE.same {v:V} {l:List Nat} (s:Same H H') (h:mE H v l):mE H' v l:=by obtain⟨a,e,h⟩:=h;exact⟨a,e,s a _ h⟩
theorem jR.same {ls:Lps} (s:Same H H') (h:jR H vs ls):jR H' vs ls:=Paired.imp' (λ_ _ q=>q.same s) h
theorem my.same {v:V} {t:Nat×Nat×Nat} (s:Same H H') (h:my H v t):my H' v t:=by obtain⟨a,e,h⟩:=h;exact⟨a,e,s a _ h⟩
theorem aG.same {ls:List (Nat×Nat×Nat)} (s:Same H H') (h:aG H vs ls):aG H' vs ls:=Paired.imp' (λ_ _ q=>q.same s) h
section
variable {α β:Type} {F:α->β->Prop}
theorem aN:∀{xs:List α} {ys:List β},Paired F xs ys->xs.length=ys.length
 |_,_,.nil=>rfl
 |_,_,.cons _ t=>by rw[bQ,bQ,aN t]
theorem dz:∀{xs:List α} {ys:List β} {xs':List α} {ys':List β},Paired F xs ys->Paired F xs' ys'->Paired F (xs++xs') (ys++ys')
 |_,_,_,_,.nil,h=>h
 |_,_,_,_,.cons a t,h=>.cons a (dz t h)
theorem qw:∀{xs:List α} {ys:List β} (k:Nat),Paired F xs ys->Paired F (xs.take k) (ys.take k)
 |_,_,0,_=>by simp only[xY];exact .nil
 |_,_,_+1,.nil=>by simp only[List.take_nil];exact .nil
 |_,_,k+1,.cons a t=>.cons a (qw k t)
theorem pr_drop:∀{xs:List α} {ys:List β} (k:Nat),Paired F xs ys->Paired F (xs.drop k) (ys.drop k)
 |_,_,0,h=>h
 |_,_,_+1,.nil=>by simp only[List.drop_nil];exact .nil
 |_,_,k+1,.cons a t=>pr_drop k t
theorem qM:∀{xs:List α} {ys:List β} {i:Nat} {y:β},Paired F xs ys->ys[i]?=some y->∃x,xs[i]?=some x/\F x y
 |_,_,_,_,.nil,h=>by simp at h
 |_,_,0,_,.cons a t,h=>by
  simp at h;subst h;exact⟨_,rfl,a⟩
 |_,_,i+1,_,.cons a t,h=>by simpa using qM (i:=i) t (by simpa using h)
theorem cB:∀{xs:List α} {ys:List β} {i:Nat} {x:α},Paired F xs ys->xs[i]?=some x->∃y,ys[i]?=some y/\F x y
 |_,_,_,_,.nil,h=>by simp at h
 |_,_,0,_,.cons a t,h=>by
  simp at h;subst h;exact⟨_,rfl,a⟩
 |_,_,i+1,_,.cons a t,h=>by simpa using cB (i:=i) t (by simpa using h)
end
theorem bq (l:List Nat):(nV l).length=l.length:=aC ..
theorem eQ (l r:List Nat):nV l++nV r=nV (l++r):=(bf ..).symm
theorem qR (n:Nat):[V.int (n:Int)]=nV [n]:=rfl
theorem E7 {l:List Nat} {i n:Nat} (h:l[i]?=some n):(nV l)[i]?=some (.int (n:Int)):=by unfold nV;rw[bp,h];rfl
theorem wr_of {H H1:Hp} {p:Addr} {o:HO} (e:upd H p o=H1):∀b,b≠p->H1 b=H b:=λb hb=>by rw[<-e,aj hb]
def ky (p q:Nat):List Key:=[Sum.inl (p:Int),Sum.inl (q:Int)]
theorem oF {p q p' q':Nat}:ky p q=ky p' q'↔(p,q)=(p',q'):=by
 unfold ky;constructor
 .intro h;injection h with h1 h2;injection h2 with h2 _;injection h1 with h1;injection h2 with h2;have:p=p':=by lia
  have:q=q':=by lia
  simp[*]
 .intro h;injection h with h1 h2;rw[h1,h2]
def SdAt (H:Hp) (v:V) (s:Side):Prop:=∃a,v=.ref a/\H a=some (.tup ((ky s.1 s.2).map kV))
abbrev SdsAt (H:Hp):List V->List Side->Prop:=Paired (SdAt H)
theorem lit1:1<=sizeLine:=by show 1<=sizeLine;decide
theorem lit2:2<=sizeLine:=by show 2<=sizeLine;decide
theorem lit3:3<=sizeLine:=by show 3<=sizeLine;decide
theorem dS {N:List Str} {fr:List (Option Nat)} (nd:N.Nodup) (len:fr.length=N.length) (kind:scope.kind=.function) (nc:scope.names.all (λy=>y.2 != .cell)=true)
  (nm:scope.names.all (λy=>y.2 != .local||scope.names.lookup y.1==some .local)=true)
  (frc:∀y∈scope.names,y.2=.free->X.env.kindOf y.1=some .cell\/X.env.kindOf y.1=some .free)
  (frn:∀(j i:Nat) (x:Str),fr[j]?=some (some i)->N[j]?=some x->X.N[i]?=some x/\scope.names.lookup x=some .free):fG X N fr scope:=by
 refine⟨nd,len,kind,λy hy=>?_,λy hy e=>?_,frc,frn⟩
 .have:=jV.mp nc y hy;simpa using this
 .have:=jV.mp nm y hy;rw[e] at this;simpa using this
end K31
end
local macro_rules | `(tactic| walk_at $s:str) => let i := fun (x : String) => Lean.mkIdent (Lean.Name.mkSimple x); match s.getString.splitOn " " with | [h, p, g, h1, t, y] => `(tactic| (generalize hq : L2.upd $(i h) $(i p) _ = $(i h1); have $(i t) := K31.same_of $(i g) hq; have $(i y) := K31.at_of hq; clear hq)) | [h, p, h1, k, y] => `(tactic| (generalize hq : L2.upd $(i h) $(i p) _ = $(i h1); have $(i k) := K31.wr_of hq; have $(i y) := K31.at_of hq; clear hq)) | ["cs"] => `(tactic| ((intro y hy e; simp only [List.mem_cons, List.not_mem_nil, or_false] at hy; repeat' first | subst hy | rcases hy with hy | hy) <;> first | (cases e; done) | exact .inl rfl | exact .inr rfl)) | ["ct"] => `(tactic| (intro j i y e1 e2; rcases j with _ | _ | _ | _ | _ | _ | j <;> first | (simp at e1; done) | (simp at e1 e2; subst e1 e2; exact ⟨rfl, rfl⟩))) | ["sc"] => `(tactic| exact ⟨rfl, rfl, rfl, by decide +kernel, rfl, by decide +kernel, by decide +kernel⟩) | _ => Lean.Macro.throwUnsupported
section
namespace K51
open PySem L2
def mixed (ns:List Int) (k:Int):Int:=(ns.take 40).foldl (λs c=>(s*48271+c)%2147483647) (7+1009*k)
def jN (ns:List Int) (k:Int):Int:=if k<(ns.length:Int) then ns.getD k.toNat 0 else 0
def potOf (ns:List Int) (k:Int):Int×Int:=(if jN ns k<1000000000000000000 then 0 else jN ns k,mixed ns k)
def refill (p:Int×Int):Int×Int:=if p.1=0 then (((p.2*16807+11)%2147483647)*((p.2*16807+11)%2147483647)%2147483629,(p.2*16807+11)%2147483647) else p
def digO (p:Int×Int) (b:Int):Int:=(refill p).1%b
def nxt (p:Int×Int) (b:Int):Int×Int:=((refill p).1/b,(refill p).2)
def bo (p:Int×Int):List V:=[.int p.1,.int p.2]
def bu (p:Int×Int):Prop:=-(2 ^ 60)<p.2/\p.2<2 ^ 60
theorem Av {p:Int×Int} (h:bu p):bu (refill p):=by
 unfold refill
 split
 .have:=o_ (p.2*16807+11) (show (0:Int)<2147483647 by decide);have:=pb (p.2*16807+11) (show (2147483647:Int)≠0 by decide);unfold bu;constructor<;>(show _<_;lia)
 .exact h
theorem a9 {p:Int×Int} {b:Int} (h:bu p):bu (nxt p b):=Av h
theorem uZ (ns:List Int) {k:Int} (h0:0<=k) (h1:k<1000):-(2 ^ 60)<mixed ns k/\mixed ns k<2 ^ 60:=by
 unfold mixed;have:∀(l:List Int) (s:Int),(-(2 ^ 60)<s/\s<2 ^ 60)->(-(2 ^ 60)<l.foldl (λs c=>(s*48271+c)%2147483647) s/\l.foldl (λs c=>(s*48271+c)%2147483647) s<2 ^ 60):=by
  intro l;induction l with
  |nil=>intro s h;exact h
  |cons c r ih=>
   intro s h;rw[xO];refine ih _ ?_;have:=o_ (s*48271+c) (show (0:Int)<2147483647 by decide);have:=pb (s*48271+c) (show (2147483647:Int)≠0 by decide);constructor<;>lia
 exact this _ _ (by constructor<;>lia)
theorem jw:OpR X (binaryOp .FloorDiv) (rI (λ_ j=>0<j/\j.natAbs.log2<9000) λi j=>.int (i/j)):=opI λi j _ _ _ _ _ hc q=>by
 have e:i.fdiv j=i/j:=by rw[Int.fdiv_eq_ediv_of_nonneg _ (Int.le_of_lt hc.1)]
 rw[<-e] at q;exact JQ (by lia) q (.inl (PyProof.noPylong_of_log2 hc.2))
def Gj (K:W.Frag) (vs:List V) (H:Hp) (Q:VK) (a:Addr) (ns:List Int) (k:Int):Prop:=vs=[.ref a,.int k]/\SqL [] H a (ns.map V.int)/\0<=k/\Q (.int (jN ns k)) H
def spAt (K:W.Frag):Sp:=λvs H Q _=>Exists (Ex3 (Gj K vs H Q))
def Eu (K:W.Frag) (vs:List V) (H:Hp) (Q:VK) (a:Addr) (ns:List Int) (k:Int):Prop:=vs=[.ref a,.int k]/\SqL [] H a (ns.map V.int)/\0<=k/\k<1000/\
 ∀(p:Addr) (H':Hp),H p=none->Same H H'->H' p=some (.lst (bo (potOf ns k)))->Q (.ref p) H'
def xk (K:W.Frag):Sp:=λvs H Q _=>Exists (Ex3 (Eu K vs H Q))
def Bv (vs:List V) (H:Hp) (Q:VK) (p:Addr) (q:Int×Int) (b:Int):Prop:=vs=[.ref p,.int b]/\H p=some (.lst (bo q))/\bu q/\0<b/\b.natAbs.log2<9000/\WrO H p (.lst (bo (nxt q b))) (Q (.int (digO q b)))
def fJ:Sp:=λvs H Q _=>Exists (Ex3 (Bv vs H Q))
section
theorem scAt:bc ["_law_script","_law_k"] ["_law_script","_law_k"] (aE sAt):=by walk_at"sc"
theorem GU {f:Addr} (U:Fun K "_law_at" "_law_at" sAt f fd) (T:cH mg):ag P w K mg base CX0 1 f fd ["_law_script","_law_k"] (spAt K):=by
 refine U.ok scAt (λvs H Q E h=>?_) (λcdv A outer s H vs Q E hr h=>?_)
 .obtain⟨a,ns,k,rfl,_⟩:=h;rfl
 .obtain⟨a,ns,k,rfl,hS,h0,q⟩:=h;refine⟨_,ah (br (ba iT (pv 1) (aL c9 (by rfl) T.len di (aa (pv 0) ae)) (nomark _)) (ao (aX (bL cv (pv 0) (pv 1) (λ_ _=>rfl)))) bK) (ao (aX ai)),?_⟩;refine⟨_,rfl,_,rfl,a,_,rfl,.inl hS,_,_,rfl,rfl,_,rfl,?_⟩;unfold jN at q;rw[aC];refine ite2 (λc=>?_) (λc=>?_)
  .have c:k<(ns.length:Int):=KM c;rw[KI c] at q;have hk:k.toNat<ns.length:=by lia
   refine⟨_,rfl,_,rfl,a,_,k,.int (ns.getD k.toNat 0),rfl,rfl,hS,?_,q⟩;have e:((k.toNat:Nat):Int)=k:=by lia
   rw[<-e];refine ck ?_;have e2:ns[k.toNat]?=some (ns.getD k.toNat 0):=by simp[List.getD,hk]
   rw[bp,e2];rfl
  .have c:¬k<(ns.length:Int):=λz=>c (KJ z);rw[KH c] at q;exact q
theorem vO:bc ["_law_pot_here","_law_base","_law_digit_here"] ["_law_pot_here","_law_base"] (aE lN):=by walk_at"sc"
theorem B1 {f:Addr} (U:Fun K "_law_digit" "_law_digit" lN f fd):ag P w K mg base CX0 1 f fd ["_law_pot_here","_law_base"] fJ:=by
 refine U.ok vO (λvs H Q E h=>?_) (λcdv A outer s H vs Q E hr h=>?_)
 .obtain⟨p,q,b,rfl,_⟩:=h;rfl
 .obtain⟨p,⟨n,z⟩,b,rfl,hp,hok,hb0,hb1,q⟩:=h;refine⟨_,ah (br (ba eK (bL cv (pv 0) ai (λ_ _=>rfl)) ai (nomark _))
    (ah (gh (aA eP (aA cy (aA fM (bL cv (pv 0) ai (λ_ _=>rfl)) ai) ai) ai) (qN (pv 0) ai pY))
     (ao (gh (aA eP (aA fM (bL cv (pv 0) ai (λ_ _=>rfl)) (bL cv (pv 0) ai (λ_ _=>rfl))) ai) (qN (pv 0) ai pY)))) bK)
   (ah (az (i:=2) vO.nd rfl (.inl rfl) (aA eP (bL cv (pv 0) ai (λ_ _=>rfl)) (pv 1)))
   (ah (gh (aA jw (bL cv (pv 0) ai (λ_ _=>rfl)) (pv 1)) (qN (pv 0) ai pY))
   (ao (aX (pv 2))))),?_⟩
  have a0:∀(x y:Int),atI [V.int x,V.int y] 0=some (V.int x):=λ_ _=>rfl;have a1:∀(x y:Int),atI [V.int x,V.int y] 1=some (V.int y):=λ_ _=>rfl;have b0:∀(x y:V),ixN [x,y].length 0=some 0:=λ_ _=>rfl;have b1:∀(x y:V),ixN [x,y].length 1=some 1:=λ_ _=>rfl;have hz1:=hok.1;have hz2:=hok.2;refine⟨_,rfl,p,_,0,_,rfl,rfl,SqL.of hp,a0 _ _,rfl,_,rfl,?_⟩;have hz1:-(2 ^ 60)<z:=hz1;have hz2:z<2 ^ 60:=hz2;refine ite2 (λc=>?_) (λc=>?_)
  .have c:n=0:=by
    have:=KM c;injection this
   have m1:=o_ (z*16807+11) (show (0:Int)<2147483647 by decide);have m2:=pb (z*16807+11) (show (2147483647:Int)≠0 by decide);refine⟨_,rfl,p,_,1,_,rfl,rfl,SqL.of hp,a1 _ _,_,_,rfl,rfl,.inl ⟨by lia,by lia⟩,_,_,rfl,rfl,_,_,rfl,rfl,(show (0:Int)<2147483647 by decide),_,rfl,p,_,_,_,rfl,rfl,hp,b1 _ _,λH1 k1 u1=>?_⟩;refine⟨_,rfl,p,_,1,_,rfl,rfl,SqL.of u1,a1 _ _,_,rfl,p,_,1,_,rfl,rfl,SqL.of u1,a1 _ _,_,_,rfl,rfl,.inl ⟨by lia,by lia⟩,_,_,rfl,rfl,(show (0:Int)<2147483629 by decide),_,rfl,p,_,_,_,rfl,rfl,u1,b0 _ _,λH2 k2 u2=>?_⟩;refine⟨_,rfl,p,_,0,_,rfl,rfl,SqL.of u2,a0 _ _,_,rfl,_,_,rfl,rfl,hb0,?_⟩;refine⟨_,rfl,p,_,0,_,rfl,rfl,SqL.of u2,a0 _ _,_,rfl,_,_,rfl,rfl,⟨hb0,hb1⟩,_,rfl,p,_,_,_,rfl,rfl,u2,b0 _ _,λH3 k3 u3=>?_⟩;refine⟨_,rfl,?_⟩;have e:refill (n,z)=((z*16807+11)%2147483647*((z*16807+11)%2147483647)%2147483629,(z*16807+11)%2147483647):=by unfold refill;rw[KI c]
   unfold digO nxt bo at q;rw[e] at q;exact q H3 (λb h=>(k3 b h).trans ((k2 b h).trans (k1 b h))) u3
  .have c:¬n=0:=λy=>c (by rw[y];exact KJ rfl);refine⟨_,rfl,p,_,0,_,rfl,rfl,SqL.of hp,a0 _ _,_,rfl,_,_,rfl,rfl,hb0,?_⟩;refine⟨_,rfl,p,_,0,_,rfl,rfl,SqL.of hp,a0 _ _,_,rfl,_,_,rfl,rfl,⟨hb0,hb1⟩,_,rfl,p,_,_,_,rfl,rfl,hp,b0 _ _,λH3 k3 u3=>?_⟩;refine⟨_,rfl,?_⟩;have e:refill (n,z)=(n,z):=by
    unfold refill;rw[KH c]
   unfold digO nxt bo at q;rw[e] at q;exact q H3 k3 u3
theorem jP:bc ["_law_script","_law_k","_law_seed","_law_cell","_law_number"] ["_law_script","_law_k"] (aE mq):=by walk_at"sc"
theorem Bi (ns:List Int):iZ (ns.map V.int) none (some 40)=(ns.take 40).map V.int:=by
 unfold iZ;have e1:HT.sIx (ns.map V.int).length 0 none=0:=rfl;have e2:HT.sIx (ns.map V.int).length (ns.map V.int).length (some 40)=min 40 ns.length:=by rw[aC];have:=HT.sIx_nat ns.length ns.length 40;simpa using this
 rw[e1,e2,xJ,<-rT,Ir]
 congr 1
 rw[List.take_eq_take_iff];lia
theorem E4 {f fA:Addr} {fd fdA:FuncData} (U:Fun K "_law_pot" "_law_pot" mq f fd) (UA:Fun K "_law_at" "_law_at" sAt fA fdA) (bA:Binds K fdA ["_law_script","_law_k"] []) (mA:mg "_law_at" = some (.ref fA)) (kA:W.keepIn K (.ref fA)=true) (T:cH mg) :
  ag P w K mg base CX0 2 f fd ["_law_script","_law_k"] (xk K):=by
 have GA:ag P w K mg base CX0 1 fA fdA ["_law_script","_law_k"] (spAt K):=GU UA T;refine U.ok jP (λvs H Q E h=>?_) (λcdv A outer s H vs Q E hr h=>?_)
 .obtain⟨a,ns,k,rfl,_⟩:=h;rfl
 .obtain⟨a,ns,k,rfl,hS,h0,h1,q⟩:=h;refine⟨_,ah (az (i:=2) jP.nd rfl (.inl rfl) (aA cy ai (aA fM ai (pv 1))))
   (ah (cD cI rfl (cC (uV vL (pv 0) vS (vR ai))) (ay (i:=3) jP.nd rfl (.inl rfl))
    (ao (az (i:=2) jP.nd rfl (.inl rfl) (aA eP (aA cy (aA fM (pv 2) ai) (pv 3)) ai))))
   (ah (az (i:=4) jP.nd rfl (.inl rfl) (aw GA hr rfl mA kA bA .nil pass0 (aa (pv 0) (aa (pv 1) ae))))
   (ah (br (ba iT (pv 4) (aA oB ai ai) (nomark _)) (ao (az (i:=4) jP.nd rfl (.inl rfl) ai)) bK)
   (ao (aX (bY (aa (pv 4) (aa (pv 2) ae)))))))),?_⟩
  refine⟨_,rfl,_,_,rfl,rfl,.inl ⟨by lia,by lia⟩,_,_,rfl,rfl,?_⟩;refine⟨_,rfl,40,rfl,a,_,rfl,hS,λl H1 hl sm yl=>?_⟩;rw[Bi] at yl;refine⟨l,rfl,⟨_,SqL.of yl⟩,eu (K:=[]) (a:=l) (xs:=(ns.take 40).map V.int) (λi Z H2=>∃v,Z=[some (.ref a),some (.int k),some (.int (((ns.take 40).take i).foldl (λs c=>(s*48271+c)%2147483647) (7+1009*k))),v,none]/\H2=H1/\
   (-(2 ^ 60)<(((ns.take 40).take i).foldl (λs c=>(s*48271+c)%2147483647) (7+1009*k))/\(((ns.take 40).take i).foldl (λs c=>(s*48271+c)%2147483647) (7+1009*k))<2 ^ 60))
   ⟨none,rfl,rfl,by simp only[xY,HZ];constructor<;>lia⟩ (λi Z H2 _ ⟨_,_,e,_⟩=>by rw[e];exact SqL.of yl) ?_ ?_⟩
  .rintro i y Z H2 hi ⟨v,rfl,rfl,hb1,hb2⟩;obtain⟨c,hc,rfl⟩:∃c,(ns.take 40)[i]?=some c/\V.int c=y:=by
    rw[bp] at hi;exact cT.mp hi
   have e:(ns.take 40).take (i+1)=(ns.take 40).take i++[c]:=by rw[bV,hc];rfl
   refine⟨_,rfl,_,_,rfl,rfl,.inl ⟨by lia,by lia⟩,_,rfl,_,_,rfl,rfl,_,_,rfl,rfl,(show (0:Int)<2147483647 by decide),?_⟩;refine⟨some (.int c),?_,rfl,?_⟩
   .rw[e,HY];rfl
   .rw[e,HY];have m1:=o_ ((((ns.take 40).take i).foldl (λs c=>(s*48271+c)%2147483647) (7+1009*k))*48271+c) (show (0:Int)<2147483647 by decide);have m2:=pb ((((ns.take 40).take i).foldl (λs c=>(s*48271+c)%2147483647) (7+1009*k))*48271+c) (show (2147483647:Int)≠0 by decide);simp only[xO,HZ];constructor<;>lia
  .rintro Z H2 ⟨v,rfl,rfl,_,_⟩;rw[aC,c7];refine⟨_,rfl,_,rfl,a,ns,k,rfl,sm.seq hS,h0,?_⟩;refine⟨_,rfl,_,_,rfl,rfl,⟨by decide,by decide,by decide⟩,_,_,rfl,rfl,_,rfl,?_⟩;have fin:∀(r:Addr) (H3:Hp),H2 r=none->Same H2 H3->H3 r=some (.lst (bo (potOf ns k)))->Q (.ref r) H3:=λr H3 hr' s2 y2=>q r H3 (sm.free hr') (sm.trans s2) y2;unfold potOf at fin;refine ite2 (λc=>?_) (λc=>?_)
   .have c:jN ns k<1000000000000000000:=KM c;rw[KI c] at fin;exact⟨_,rfl,_,rfl,(show 2<=sizeLine by decide),fin⟩
   .have c:¬jN ns k<1000000000000000000:=λy=>c (KJ y);rw[KH c] at fin;exact⟨_,rfl,_,rfl,(show 2<=sizeLine by decide),fin⟩
end
theorem cA {q:Int×Int} {b:Int} (hb:0<b):0<=digO q b/\digO q b<b:=⟨pb _ (by lia),o_ _ hb⟩
theorem iF {b:Int} (h0:0<b) (h:b<=10 ^ 60):b.natAbs.log2<9000:=by
 have h1:b.natAbs≠0:=by lia
 refine (yc h1).mpr ?_;have h2:b.natAbs<=10 ^ 60:=by lia
 exact se h2 (b_ (show 10 ^ 60<2 ^ 200 by decide) (yg (by decide) (by decide)))
end K51
end
section
namespace K15
open PySem L2 K51 K31
def bH (e:Ent):List Key×V:=(ky e.1.1 e.1.2,V.int (e.2:Int))
theorem gR {l:List Ent} {p q:Nat}:bj (l.map bH) (ky p q)=none↔(p,q)∉l.map (·.1):=by
 induction l with
 |nil=>simp[bj]
 |cons e l ih=>
  rw[a8,a8,aT];by_cases h:(bH e).1=ky p q
  .rw[gU h];have:e.1=(p,q):=oF.mp h;simp[this]
  .rw[fH h,ih];have:(p,q)≠e.1:=λz=>h (oF.mpr (by rw[z]));simp[this]
theorem Bf {l:List Ent} (nd:(l.map (·.1)).Nodup) {p q c:Nat}:bj (l.map bH) (ky p q)=some (V.int (c:Int))↔((p,q),c)∈l:=by
 induction l with
 |nil=>simp[bj]
 |cons e l ih=>
  rw[a8,d_] at nd;rw[a8,aT];by_cases h:(bH e).1=ky p q
  .rw[gU h];have e1:e.1=(p,q):=oF.mp h;constructor
   .intro z;injection z with z;injection z with z;left;have:e.2=c:=by lia
    rw[<-e1,<-this]
   .rintro (z|z)
    .rw[<-z];rfl
    .exact (nd.1 (aD.mpr ⟨_,z,e1.symm⟩)).elim
  .rw[fH h,ih nd.2];constructor
   .exact .inr
   .rintro (z|z)
    .exact (h (oF.mpr (by rw[<-z]))).elim
    .exact z
theorem CI {l:List Ent} {p q:Nat} {v:V} (h:bj (l.map bH) (ky p q)=some v):∃c:Nat,v=V.int (c:Int):=by
 induction l with
 |nil=>cases h
 |cons e l ih=>
  rw[a8] at h;by_cases h1:(bH e).1=ky p q
  .rw[gU h1] at h;injection h with h;exact⟨e.2,h.symm⟩
  .rw[fH h1] at h;exact ih h
theorem vx {ts:List Tri} (g:Good ts) (p q:Nat):(∃c,En ts p q c/\bj ((ents ts).map bH) (ky p q)=some (V.int (c:Int)))\/((∀c,¬En ts p q c)/\bj ((ents ts).map bH) (ky p q)=none):=by
 cases h:bj ((ents ts).map bH) (ky p q) with
 |none=>
  refine .inr ⟨λc hc=>?_,rfl⟩;exact gR.mp h (aD.mpr ⟨_,hc,rfl⟩)
 |some v=>
  obtain⟨c,rfl⟩:=CI h;exact .inl ⟨c,(Bf g.nd).mp h,rfl⟩
theorem fc (a b:List Tri):ents (a++b)=ents a++ents b:=by simp[ents]
theorem e_ (ts:List Tri):(ents ts).length=3*ts.length:=by
 induction ts with
 |nil=>rfl
 |cons t ts ih=>
  rw[show t::ts=[t]++ts from rfl,fc,aZ,ih,aZ];show 3+_=3*(1+_);lia
theorem nX {l:List Ent} {a b c:Nat} (h:((l++[((a,b),c)]).map (·.1)).Nodup):(l.map (·.1)).Nodup/\(a,b)∉l.map (·.1):=by rw[bf,dq] at h;refine⟨h.1,λz=>?_⟩;exact h.2.2 _ z (a,b) (by simp) rfl
theorem n6 {l:List Ent} {a b c:Nat} (h:(a,b)∉l.map (·.1)):cY (l.map bH) (ky a b) (V.int (c:Int))=(l++[((a,b),c)]).map bH:=by rw[nQ _ (gR.mpr h),bf];rfl
def dN (t:Tri):List (Nat×Nat):=[(t.1,t.2.1),(t.2.1,t.2.2),(t.2.2,t.1)]
def Bp (vs:List V) (H:Hp) (Q:VK) (t:Addr) (x:Tri):Prop:=vs=[.ref t]/\H t=some (.tup [.int (x.1:Int),.int (x.2.1:Int),.int (x.2.2:Int)])/\
 ∀r zs H',H r=none->Same H H'->H' r=some (.lst zs)->SdsAt H' zs (dN x)->Q (.ref r) H'
def nW:Sp:=λvs H Q _=>Exists (Ex2 (Bp vs H Q))
def Aj (vs:List V) (H:Hp) (Q:VK) (T:Addr) (vt:List V) (ts:List Tri):Prop:=vs=[.ref T]/\H T=some (.lst vt)/\aG H vt ts/\ts.length<=400/\((ents ts).map (·.1)).Nodup/\
 ∀D H',H D=none->Same H H'->H' D=some (.dT ((ents ts).map bH))->Q (.ref D) H'
def kx:Sp:=λvs H Q _=>Exists (Ex3 (Aj vs H Q))
def ip (ts:List Tri) (x:Tri):Bool:=(dN x).all λs=>decide (s∉(ents ts).map (·.1))
def C3 (vs:List V) (H:Hp) (Q:VK) (D t:Addr) (ts:List Tri) (x:Tri):Prop:=vs=[.ref D,.ref t]/\H D=some (.dT ((ents ts).map bH))/\H t=some (.tup [.int (x.1:Int),.int (x.2.1:Int),.int (x.2.2:Int)])/\
 ∀H',Same H H'->Q (.bl (ip ts x)) H'
def qH:Sp:=λvs H Q _=>Exists (Ex4 (C3 vs H Q))
section
theorem nY:bc ["_law_triple","_law_a","_law_b","_law_c"] ["_law_triple"] (aE lF):=by walk_at"sc"
theorem BU {f:Addr} (U:Fun K "_law_sides" "_law_sides" lF f fd):ag P w K mg base CX0 1 f fd ["_law_triple"] nW:=by
 refine U.ok nY (λvs H Q E h=>?_) (λcdv A outer s H vs Q E hr h=>?_)
 .obtain⟨t,x,rfl,_⟩:=h;rfl
 .obtain⟨t,x,rfl,ht,q⟩:=h;refine⟨_,ah (gh (pv 0) (de rfl (aW (ay (i:=1) nY.nd rfl (.inl rfl)) (aW (ay (i:=2) nY.nd rfl (.inl rfl)) (aW (ay (i:=3) nY.nd rfl (.inl rfl)) c_)))))
   (ao (aX (bY (aa (aI (aa (pv 1) (aa (pv 2) ae))) (aa (aI (aa (pv 2) (aa (pv 3) ae))) (aa (aI (aa (pv 3) (aa (pv 1) ae))) ae)))))),?_⟩
  refine⟨_,rfl,t,_,rfl,SqT.of ht,rfl,_,_,rfl,_,_,rfl,_,_,rfl,rfl,?_⟩;refine⟨_,rfl,_,rfl,lit2,λt1 H1 h1 s1 y1=>?_⟩;refine⟨_,rfl,_,rfl,lit2,λt2 H2 h2 s2 y2=>?_⟩;refine⟨_,rfl,_,rfl,lit2,λt3 H3 h3 s3 y3=>?_⟩;refine⟨lit3,λr H4 h4 s4 y4=>?_⟩;exact q r _ H4 (((s1.trans s2).trans s3).free h4) (((s1.trans s2).trans s3).trans s4) y4 (.cons ⟨t1,rfl,((s2.trans s3).trans s4) _ _ y1⟩ (.cons ⟨t2,rfl,(s3.trans s4) _ _ y2⟩ (.cons ⟨t3,rfl,s4 _ _ y3⟩ .nil)))
theorem kE:bc ["_law_triples","_law_thirds_here","_law_a","_law_b","_law_c"] ["_law_triples"] (aE kY):=by walk_at"sc"
theorem AD {f:Addr} (U:Fun K "_law_thirds" "_law_thirds" kY f fd):ag P w K mg base CX0 1 f fd ["_law_triples"] kx:=by
 refine U.ok kE (λvs H Q E h=>?_) (λcdv A outer s H vs Q E hr h=>?_)
 .obtain⟨T,vt,ts,rfl,_⟩:=h;rfl
 .obtain⟨T,vt,ts,rfl,hT,ht,hl,hnd,q⟩:=h;have hu:=dA hr;refine⟨_,ah (az (i:=1) kE.nd rfl (.inl rfl) uX)
   (ah (cD cI rfl (cC (pv 0)) (de rfl (aW (ay (i:=2) kE.nd rfl (.inl rfl)) (aW (ay (i:=3) kE.nd rfl (.inl rfl)) (aW (ay (i:=4) kE.nd rfl (.inl rfl)) c_))))
    (ah (iK hu (pv 1) (aI (aa (pv 2) (aa (pv 3) ae))) (pv 4) rfl)
    (ah (iK hu (pv 1) (aI (aa (pv 3) (aa (pv 4) ae))) (pv 2) rfl)
    (ao (iK hu (pv 1) (aI (aa (pv 4) (aa (pv 2) ae))) (pv 3) rfl)))))
   (ao (aX (pv 1)))),?_⟩
  have hline:=line5000;have hlen:=aN ht;refine λD H1 h1 s1 y1=>?_;refine⟨_,rfl,T,rfl,⟨_,SqL.of (s1 _ _ hT)⟩,eu (K:=[]) (a:=T) (xs:=vt) (λi Z H2=>∃v2 v3 v4,Z=[some (.ref T),some (.ref D),v2,v3,v4]/\Same H H2/\H2 D=some (.dT ((ents (ts.take i)).map bH)))
   ⟨none,none,none,rfl,s1,y1⟩ (by rintro i Z H2 _ ⟨_,_,_,_,e,_⟩;exact SqL.of (e _ _ hT)) ?_ ?_⟩
  .rintro i x Z H2 hi ⟨v2,v3,v4,rfl,sm,hD⟩;obtain⟨⟨a,b,c⟩,hs,t,rfl,hb⟩:=cB ht hi;have hb:H t=some (.tup [.int (a:Int),.int (b:Int),.int (c:Int)]):=hb;have hil:i<ts.length:=(aJ.mp hs).1;have et:ts.take (i+1)=ts.take i++[(a,b,c)]:=by rw[bV,hs];rfl
   have nd1:((ents (ts.take (i+1))).map (·.1)).Nodup:=by rw[<-gI (i+1) ts,fc,bf,dq] at hnd;exact hnd.1
   have ee:ents (ts.take (i+1))=((ents (ts.take i)++[((a,b),c)])++[((b,c),a)])++[((c,a),b)]:=by rw[et,fc];simp[ents]
   rw[ee] at nd1;obtain⟨nd2,n3⟩:=nX nd1;obtain⟨nd3,n2⟩:=nX nd2;obtain⟨_,n1⟩:=nX nd3;have l0:=e_ (ts.take i);rw[cE] at l0;refine⟨t,_,rfl,SqT.of (sm _ _ hb),rfl,_,_,rfl,_,_,rfl,_,_,rfl,rfl,?_⟩;refine⟨_,rfl,_,rfl,_,rfl,_,rfl,lit2,λt1 H3 g1 s3 y3=>?_⟩;refine⟨D,_,rfl,DPut.t (k:=ky a b) (s3 _ _ hD) y3 (by rw[aC];lia),?_⟩;rw[n6 n1];walk_at"H3 D H4 k4 y4";refine⟨_,rfl,_,rfl,_,rfl,_,rfl,lit2,λt2 H5 g2 s5 y5=>?_⟩;refine⟨D,_,rfl,DPut.t (k:=ky b c) (s5 _ _ y4) y5 (by rw[aC,aZ,cM];lia),?_⟩;rw[n6 n2];walk_at"H5 D H6 k6 y6";refine⟨_,rfl,_,rfl,_,rfl,_,rfl,lit2,λt3 H7 g3 s7 y7=>?_⟩;refine⟨D,_,rfl,DPut.t (k:=ky c a) (s7 _ _ y6) y7 (by rw[aC,aZ,aZ,cM,cM];lia),?_⟩;rw[n6 n3];walk_at"H7 D H8 k8 y8";refine⟨_,_,_,rfl,λb' o e=>?_,by rw[y8,ee]⟩;have nb:=ak e h1;exact (k8 b' nb).trans (s7 _ _ ((k6 b' nb).trans (s5 _ _ ((k4 b' nb).trans (s3 _ _ (sm _ _ e))))))
  .rintro Z H2 ⟨v2,v3,v4,rfl,sm,hD⟩;rw[hlen,c7] at hD;exact⟨_,rfl,q D H2 h1 sm hD⟩
end
theorem vv:bootBuiltins "all" = some (.builtin "all"):=by decide +kernel
theorem jm:bootBuiltins "sorted" = some (.builtin "sorted"):=by decide +kernel
def flat (ts:List Tri):List Nat:=ts.flatMap λt=>[t.1,t.2.1,t.2.2]
def kb (c:Nat):Key×V:=(Sum.inl (c:Int),V.bl true)
theorem Fi {c d:Nat}:(kb c).1=(Sum.inl (d:Int):Key)↔c=d:=by
 unfold kb;constructor
 .intro h;injection h with h;lia
 .rintro rfl;rfl
theorem EV (dd:List Nat) (c:Nat):cY (dd.map kb) (Sum.inl (c:Int)) (V.bl true)=(if c∈dd then dd else dd++[c]).map kb:=by
 by_cases h:c∈dd
 .rw[KI h];have ha:((dd.map kb).any λkv=>decide (kv.1=(Sum.inl (c:Int):Key)))=true:=rL.mpr ⟨kb c,aD.mpr ⟨c,h,rfl⟩,KJ rfl⟩;unfold cY;rw[KI ha,cq];refine rS λx _=>?_;show (if (kb x).1=(Sum.inl (c:Int):Key) then ((kb x).1,V.bl true) else kb x)=kb x
  split<;>rfl
 .rw[KH h,nQ,bf]
  .rfl
  .cases e:bj (dd.map kb) (Sum.inl (c:Int)) with
   |none=>rfl
   |some v=>
    have:=CJ e;rw[cq] at this;obtain⟨x,hx,ex⟩:=aD.mp this;exact (h (Fi.mp ex ▸ hx)).elim
def Cs (ts:List Tri) (cs:List Nat):Prop:=cs.Pairwise (· < ·)/\∀c,c∈cs↔c∈flat ts
theorem pP {dd:List Nat} {ms:List Int} (nd:dd.Nodup) (hp:ms.Perm (dd.map λc:Nat=>(c:Int))) (hs:ms.Pairwise (·<=·)):∃cs:List Nat,ms=cs.map (λc:Nat=>(c:Int))/\cs.Pairwise (· < ·)/\cs.Perm dd:=by
 have e:ms=(ms.map Int.toNat).map (λc:Nat=>(c:Int)):=by
  rw[cq];have:∀x∈ms,((λc:Nat=>(c:Int)) ∘ Int.toNat) x=id x:=by intro x hx;obtain⟨c,_,rfl⟩:=aD.mp (hp.mem_iff.mp hx);simp
  rw[rS this,Ih]
 have pm:(ms.map Int.toNat).Perm dd:=by
  have:=hp.map Int.toNat;rw[cq] at this;have e2:dd.map (Int.toNat ∘ λc:Nat=>(c:Int))=dd:=by
   have:∀x∈dd,(Int.toNat ∘ λc:Nat=>(c:Int)) x=id x:=λx _=>by simp
   rw[rS this,Ih]
  rw[e2] at this;exact this
 refine⟨ms.map Int.toNat,e,?_,pm⟩;have nd':(ms.map Int.toNat).Nodup:=pm.nodup_iff.mpr nd;rw[e] at hs;rw[j3] at hs;have:=hs.and nd';refine this.imp λ{a b} h=>?_;have h1:=h.1;have h2:=h.2;lia
def zR (vs:List V) (H:Hp) (Q:VK) (T:Addr) (vt:List V) (ts:List Tri):Prop:=vs=[.ref T]/\H T=some (.lst vt)/\aG H vt ts/\ts.length<=200/\
 ∀r cs H',H r=none->Same H H'->H' r=some (.lst (nV cs))->Cs ts cs->cs.length<=3*ts.length->Q (.ref r) H'
def gP:Sp:=λvs H Q _=>Exists (Ex3 (zR vs H Q))
section
theorem EB:bc ["_law_thirds_here","_law_triple"] ["_law_thirds_here","_law_triple"] (aE l8):=by walk_at"sc"
theorem DB {f f1:Addr} {fd d1:FuncData} (U:Fun K "_law_free" "_law_free" l8 f fd) (T:cH mg) (G:ag P w K mg base CX0 1 f1 d1 ["_law_triple"] nW) (b1:Binds K d1 ["_law_triple"] []) (m1:mg "_law_sides" = some (.ref f1)) (k1:W.keepIn K (.ref f1)=true) :
  ag P w K mg base CX0 2 f fd ["_law_thirds_here","_law_triple"] qH:=by
 refine U.ok EB (λvs H Q E h=>?_) (λcdv A outer s H vs Q E hr h=>?_)
 .obtain⟨D,t,ts,x,rfl,_⟩:=h;rfl
 .obtain⟨D,t,ts,x,rfl,hD,ht,q⟩:=h;have hu:=dA hr;refine⟨_,ao (aX (aL (sX rfl) (by rfl) T.all vv (aa (dO (N:=["_law_side","_law_thirds_here"]) (fr:=[none,some 0]) (dS (by decide +kernel) rfl rfl (by decide +kernel) (by decide +kernel) (by walk_at"cs") (by walk_at"ct")) rfl (cC (aw G hr rfl m1 k1 b1 .nil pass0 (aa (pv 1) ae)))
     (λC' s' H' fp pins=>⟨ay (i:=0) (show (["_law_side","_law_thirds_here"]:List Str).Nodup by decide +kernel) rfl (.inl rfl) (.inr rfl),eO,EZ (uj hu (pv 0) (pv 1))⟩)) ae))),?_⟩
  have hline:=line5000;refine⟨_,rfl,t,x,rfl,ht,λr zs H1 hr1 s1 y1 sd=>?_⟩;have hl:=aN sd;refine⟨r,rfl,⟨_,SqL.of y1⟩,λZ_ hZ=>eF (K:=[]) (a:=r) (xs:=zs) (λi Z ys H'=>∃o,Z=[o,some (.ref D)]/\ys=(((dN x).take i).map λs=>decide (s∉(ents ts).map (·.1))).map V.bl/\Same H1 H'/\H' Z_=some (.lst ys)) ⟨none,rfl,rfl,cu hZ,aO⟩ (by rintro i Z ys H' _ ⟨_,_,_,e,_⟩;exact SqL.of (e _ _ y1)) ?_ ?_⟩
  .rintro i y Z ys H' hi ⟨o,rfl,rfl,sZ,yZ⟩;obtain⟨⟨a,b⟩,hs,c,rfl,hc⟩:=cB sd hi;have hil:=(aJ.mp hs).1;refine⟨_,rfl,_,rfl,D,_,rfl,DGet.t (k:=ky a b) (sZ _ _ (s1 _ _ hD)) (sZ _ _ hc),yZ,?_,λH3 k3 y3=>⟨_,rfl,?_,λb o e=>(k3 b (ak e hZ)).trans (sZ _ _ e),y3⟩⟩
   .rw[aC,aC,cE];have:(dN x).length=3:=rfl;lia
   .rw[bV,hs];show _=((((dN x).take i)++[(a,b)]).map _).map _;rw[bf,bf]
    congr 1
    show [V.bl _]=[V.bl _]
    congr 2
    cases hv:bj ((ents ts).map bH) (ky a b) with
    |none=>exact (KJ (gR.mp hv)).symm
    |some v=>exact (KL λz=>by rw[gR.mpr z] at hv;cases hv).symm
  .rintro Z ys H' ⟨o,rfl,rfl,sZ,yZ⟩;refine⟨Z_,(dN x).map λs=>decide (s∉(ents ts).map (·.1)),rfl,SqL.of ?_,?_⟩
   .rw[yZ,hl,c7]
   .rw[HQ];exact q _ (s1.trans sZ)
theorem nI:bc ["_law_triples","_law_found","_law_triple","_law_corner"] ["_law_triples"] (aE kL):=by walk_at"sc"
theorem zZ {f:Addr} (U:Fun K "_law_corners" "_law_corners" kL f fd) (mS:mg "sorted" = none):ag P w K mg base CX0 1 f fd ["_law_triples"] gP:=by
 refine U.ok nI (λvs H Q E h=>?_) (λcdv A outer s H vs Q E hr h=>?_)
 .obtain⟨T,vt,ts,rfl,_⟩:=h;rfl
 .obtain⟨T,vt,ts,rfl,hT,ht,hl,q⟩:=h;have hu:=dA hr;refine⟨_,ah (az (i:=1) nI.nd rfl (.inl rfl) kO)
   (ah (cD cI rfl (cC (pv 0)) (ay (i:=2) nI.nd rfl (.inl rfl))
    (ao (cD cI rfl (lQ (pv 2)) (ay (i:=3) nI.nd rfl (.inl rfl)) (ao (iK hu (pv 1) (pv 3) eR rfl)))))
   (ao (aX (aL (nA rfl) (by rfl) mS jm (aa (pv 1) ae))))),?_⟩
  have hline:=line5000;have hlen:=aN ht;refine λD H1 h1 s1 y1=>?_;refine⟨_,rfl,T,rfl,⟨_,SqL.of (s1 _ _ hT)⟩,eu (K:=[]) (a:=T) (xs:=vt) (λi Z H2=>∃v2 v3 dd,Z=[some (.ref T),some (.ref D),v2,v3]/\Same H H2/\H2 D=some (.dK (dd.map kb))/\dd.Nodup/\(∀c,c∈dd↔c∈flat (ts.take i))/\dd.length<=3*i)
   ⟨none,none,[],rfl,s1,y1,jZ,by simp[flat],aU _⟩ (by rintro i Z H2 _ ⟨_,_,_,_,e,_⟩;exact SqL.of (e _ _ hT)) ?_ ?_⟩
  .rintro i x Z H2 hi ⟨v2,v3,dd,rfl,sm,hD,nd,hm,hz⟩;obtain⟨⟨a,b,c⟩,hs,t,rfl,hb⟩:=cB ht hi;have hb:H t=some (.tup [.int (a:Int),.int (b:Int),.int (c:Int)]):=hb;have hil:i<ts.length:=(aJ.mp hs).1;have et:flat (ts.take (i+1))=flat (ts.take i)++[a,b,c]:=by rw[bV,hs];simp[flat]
   refine⟨_,rfl,t,rfl,⟨_,SqT.of (sm _ _ hb)⟩,vZ (K:=[]) (a:=t) (xs:=[.int (a:Int),.int (b:Int),.int (c:Int)]) (λj Z H3=>∃v3 dd,Z=[some (.ref T),some (.ref D),some (.ref t),v3]/\Same H H3/\H3 D=some (.dK (dd.map kb))/\dd.Nodup/\(∀z,z∈dd↔z∈flat (ts.take i)++[a,b,c].take j)/\dd.length<=3*i+j)
    ⟨_,dd,rfl,sm,hD,nd,by simpa using hm,hz⟩ (by rintro j Z H3 _ ⟨_,_,_,e,_⟩;exact SqT.of (e _ _ hb)) ?_ ?_⟩
   .rintro j y Z H3 hj ⟨v3,dd,rfl,sm3,hD3,nd3,hm3,hz3⟩;obtain⟨n,hn,rfl⟩:∃n:Nat,[a,b,c][j]?=some n/\y=.int (n:Int):=by
     match j,hj with
     |0,hj=>simp at hj;exact⟨a,rfl,hj.symm⟩
     |1,hj=>simp at hj;exact⟨b,rfl,hj.symm⟩
     |2,hj=>simp at hj;exact⟨c,rfl,hj.symm⟩
     |j+3,hj=>simp at hj
    have hj3:j<3:=(aJ.mp hn).1;refine⟨_,rfl,_,rfl,D,_,rfl,DPut.k (k:=Sum.inl (n:Int)) hD3 (by rw[aC];lia),?_⟩;rw[EV];walk_at"H3 D H4 k4 y4";refine⟨_,_,rfl,λb' o e=>(k4 b' (ak e h1)).trans (sm3 _ _ e),y4,?_,λz=>?_,?_⟩
    .split
     .exact nd3
     .rename_i h;exact dq.mpr ⟨nd3,by simp,λx hx y hy=>by rw[aV.mp hy];rintro rfl;exact h hx⟩
    .rw[bV,hn,<-gD];show _↔z∈(flat (ts.take i)++[a,b,c].take j)++[n];rw[bh,<-hm3 z]
     split
     .rename_i h;constructor
      .exact .inl
      .rintro (h' | h')
       .exact h'
       .rw[aV.mp h'];exact h
     .rw[bh]
    .split
     .lia
     .rw[aZ,cM];lia
   .rintro Z H3 ⟨v3,dd,rfl,sm3,hD3,nd3,hm3,hz3⟩;refine⟨_,_,dd,rfl,sm3,hD3,nd3,λz=>?_,?_⟩
    .rw[et];exact hm3 z
    .have:([V.int (a:Int),.int (b:Int),.int (c:Int)]:List V).length=3:=rfl;lia
  .rintro Z H2 ⟨v2,v3,dd,rfl,sm,hD,nd,hm,hz⟩;rw[hlen,c7] at hm;refine⟨_,rfl,D,rfl,.inl ⟨_,hD⟩,λks vs hk=>.inl ⟨dd.map (λc:Nat=>(c:Int)),?_,by rw[aC];lia,λp ms hp pm ps=>?_⟩⟩
   .rcases hk with ⟨kvs,e,rfl,_⟩|⟨kvs,as,e,_⟩
    .rw[hD] at e;cases e;rw[cq,cq];rfl
    .rw[hD] at e;cases e
   .obtain⟨cs,rfl,pl,pc⟩:=pP nd pm ps;have hcl:=pc.length_eq;have e:(cs.map (λc:Nat=>(c:Int))).map V.int=nV cs:=by rw[cq];rfl
    rw[e];exact q p cs _ (sm.free hp) (sm.trans (cu hp)) aO ⟨pl,λc=>by rw[pc.mem_iff];exact hm c⟩ (by lia)
end
theorem iN (l:List Nat):(nV l).all gk=true:=by rw[jV];intro v hv;obtain⟨n,_,rfl⟩:=aD.mp hv;rfl
theorem ie (c:Nat) (l:List Nat):inV (V.int (c:Int)) (nV l)=decide (c∈l):=by
 unfold inV nV;rw[HS,iw,decide_eq_true_eq,rL];constructor
 .rintro⟨x,hx,e⟩;have:(x:Int)=(c:Int):=by simpa [eqV] using e
  have:x=c:=by lia
  rw[<-this];exact hx
 .intro h;exact⟨c,h,by simp[eqV]⟩
theorem DJ (l:List Nat):inV V.non (nV l)=false:=by unfold inV nV;rw[HS,HR];intro x _;simp[eqV]
theorem AM {l m:List Nat} (h:l.Nodup) (hs:∀x∈l,x∈m):l.length<=m.length:=by
 induction l generalizing m with
 |nil=>exact aU _
 |cons a l ih=>
  rw[d_] at h;have ha:=hs a (by simp);have:=ih (m:=m.erase a) h.2 λx hx=>by
   have hne:x≠a:=λz=>h.1 (z ▸ hx);exact (List.mem_erase_of_ne hne).mpr (hs x (cN _ hx))
  rw[List.length_erase_of_mem ha] at this;have hpos:0<m.length:=List.length_pos_of_mem ha;rw[bQ];lia
theorem jn {K:W.Frag} {D:Addr} {l:List Ent} {ks vs:List V} (hD:H D=some (.dT (l.map bH))) (hk:DKeys H D ks vs):SdsAt H ks (l.map (·.1)):=by
 rcases hk with ⟨kvs,e,_⟩|⟨kvs,as,e,hp,rfl,_⟩
 .rw[hD] at e;cases e
 .rw[hD] at e;cases e;rename_i hv;clear hD hv;induction l generalizing as with
  |nil=>cases hp;exact .nil
  |cons x l ih=>
   cases hp with
   |cons h t=>exact .cons ⟨_,rfl,h⟩ (ih _ t)
theorem uR {ks:List V} {ss:List (Nat×Nat)} (h:SdsAt H ks ss):Tups K H ks (ss.map λs=>[(s.1:Int),(s.2:Int)]):=by
 induction h with
 |nil=>exact .nil
 |cons q _ ih=>
  obtain⟨a,rfl,ha⟩:=q;exact .cons ⟨a,rfl,SqT.of ha,by simp⟩ ih
theorem pZ {ks:List V} {ss:List (Nat×Nat)} (h:SdsAt H ks ss):∀ix:List Nat,(∀i∈ix,i<ks.length)->SdsAt H (ix.map λi=>ks.getD i .non) (ix.map λi=>ss.getD i (0,0))
 | [],_=>.nil
 |i::ix,hi=>by
  have hik:=hi i (by simp);have h1:ks[i]?=some ks[i]:=bZ hik;obtain⟨y,hy,hf⟩:=cB h h1;refine .cons ?_ (pZ h ix λj hj=>hi j (cN _ hj));simp only[List.getD,h1,hy,Iy];exact hf
theorem ui {ss:List (Nat×Nat)} {ix:List Nat} (h:ix.Perm (List.range ss.length)):(ix.map λi=>ss.getD i (0,0)).Perm ss:=by
 have:=h.map λi=>ss.getD i (0,0);refine this.trans (xH ?_);refine xM λi=>?_;rw[bp];by_cases hi:i<ss.length
 .rw[List.getElem?_range hi];simp[List.getD,bZ hi]
 .rw[Ib (by simpa using hi),Ib (by lia)];rfl
theorem Fy (l:List Nat):Dts K H (nV l) (l.map λn:Nat=>PyData.int (n:Int)):=by
 induction l with
 |nil=>exact .nil
 |cons a l ih=>exact .cons (.int _) ih
theorem FD (l:List Nat):(PyData.list (l.map λn:Nat=>PyData.int (n:Int))).depth<=3:=by
 have:PyData.depthAll (l.map λn:Nat=>PyData.int (n:Int))<=1:=by
  induction l with
  |nil=>simp[PyData.depthAll]
  |cons a l ih=>simp only[a8,PyData.depthAll,PyData.depth];lia
 simp only[PyData.depth];lia
theorem Cn (ds:List PyData):PyData.eqv (.list ds) (.list [])=ds.isEmpty:=by cases ds<;>simp[PyData.eqv,PyData.eqvAll]
structure Run (ts:List Tri) (v x0:Nat) (F:List Nat):Prop where
 nd:F.Nodup
 key:∀p∈F,∃q,En ts v p q
 ch:∀i p q,F[i]?=some p->F[i+1]?=some q->En ts v p q
 x1:x0∈F
section
variable {ts:List Tri} {v x0 p c o:Nat} {F:List Nat}
theorem C_ (h:∃q,En ts v x0 q):Run ts v x0 [x0]:=⟨by simp,λp hp=>by rw[aV.mp hp];exact h,λi p q _ h2=>by simp at h2,by simp⟩
theorem Dc (r:Run ts v x0 F) (hl:F.getLast?=some p) (e:En ts v p c) (hk:∃q,En ts v c q) (hc:c∉F):Run ts v x0 (F++[c]):=by
 refine⟨dq.mpr ⟨r.nd,by simp,λx hx y hy=>by rw[aV.mp hy];rintro rfl;exact hc hx⟩,λq hq=>?_,λi a b h1 h2=>?_,dQ _ r.x1⟩
 .rcases bh.mp hq with h|h
  .exact r.key q h
  .rw[aV.mp h];exact hk
 .by_cases hi:i+1<F.length
  .rw[gE hi] at h2;rw[gE (by lia)] at h1;exact r.ch i a b h1 h2
  .have hb:=(aJ.mp h2).1;rw[aZ,cM] at hb;have ei:i+1=F.length:=by lia
   rw[pk,<-ei,rZ] at hl;rw[gE (by lia),hl] at h1;rw[ei,jX (ar _),yh] at h2;cases h1;cases h2;exact e
theorem Da (r:Run ts v x0 F) (hh:F.head?=some p) (e:En ts v o p) (ho:o∉F):Run ts v x0 (o::F):=by
 refine⟨d_.mpr ⟨ho,r.nd⟩,λq hq=>?_,λi a b h1 h2=>?_,cN _ r.x1⟩
 .rcases aT.mp hq with rfl|h
  .exact⟨p,e⟩
  .exact r.key q h
 .cases i with
  |zero=>
   rw[H_,<-xR,hh] at h2;cases h1;cases h2;exact e
  |succ i=>
   rw[H_] at h1 h2;exact r.ch i a b h1 h2
theorem qr (r:Run ts v x0 F) (hl:ts.length<=200):F.length<=600:=by
 have:=AM (m:=(ents ts).map (·.1.2)) r.nd λx hx=>by
  obtain⟨q,hq⟩:=r.key x hx;exact aD.mpr ⟨_,hq,rfl⟩
 rw[aC,e_] at this;lia
theorem qJ (r:Run ts v x0 F):F≠[]:=λz=>by have:=r.x1;rw[z] at this;cases this
theorem vW (h:F≠[]):∃p,F.getLast?=some p:=⟨_,List.getLast?_eq_some_getLast h⟩
theorem DK (h:F≠[]):∃p,F.head?=some p:=by
 cases F with
 |nil=>exact (h rfl).elim
 |cons a l=>exact⟨a,rfl⟩
theorem FH {α:Type} {l:List α} {x:α} (h:l[l.length-1]?=some x):atI l (-1)=some x:=by have hl:=(aJ.mp h).1;unfold atI ixN;rw[KH (by decide),KI (by lia)];rw[show ((-1:Int)+(l.length:Int)).toNat=l.length-1 by lia];exact h
theorem DY (h:F.getLast?=some p):atI (nV F) (-1)=some (V.int (p:Int)):=by refine FH ?_;rw[bq,nV,bp,<-pk,h];rfl
theorem wk (h:F.head?=some p):atI (nV F) 0=some (V.int (p:Int)):=by
 have:(nV F)[0]?=some (V.int (p:Int)):=by rw[nV,bp,<-xR,h];rfl
 exact ck this
end
theorem tU {c:TT} {tb:TS} {D:Ends} (R:St->Hp->Prop) (h:∀NX:St->Hp->Prop,(∀Z H,R Z H->NX Z H)->qD c tb {D with nx:=NX} Z H) (out:∀Z H,R Z H->D.nx Z H):qD c tb D Z H:=h D.nx out
theorem zX {α β:Type} {F G:α->β->Prop} {xs:List α} {ys:List β} (h:∀x y,x∈xs->F x y->G x y) (p:Paired F xs ys):Paired G xs ys:=by
 induction p with
 |nil=>exact .nil
 |cons a _ ih=>exact .cons (h _ _ (by simp) a) (ih λx y hx=>h x y (cN _ hx))
def C4 (vs:List V) (H:Hp) (Q:VK) (T:Addr) (vt:List V) (ts:List Tri) (v:Nat):Prop:=vs=[.ref T,.int (v:Int)]/\H T=some (.lst vt)/\aG H vt ts/\ts.length<=200/\Good ts/\
 ∀r gs fs H',H r=none->Same H H'->H' r=some (.lst gs)->jR H' gs fs->Fans (En ts) v fs->fs.length<=600->Q (.ref r) H'
def qI:Sp:=λvs H Q _=>Exists (Ex4 (C4 vs H Q))
section
theorem jH:bc ["_law_triples","_law_corner","_law_thirds_here","_law_left","_law_found","_law_fan"] ["_law_triples","_law_corner"] (aE l_):=by walk_at"sc"
theorem DC {f f1:Addr} {fd d1:FuncData} (U:Fun K "_law_fans" "_law_fans" l_ f fd) (mS:mg "sorted" = none) (G:ag P w K mg base CX0 1 f1 d1 ["_law_triples"] kx) (b1:Binds K d1 ["_law_triples"] []) (m1:mg "_law_thirds" = some (.ref f1)) (k1:W.keepIn K (.ref f1)=true) :
  ag P w K mg base CX0 2 f fd ["_law_triples","_law_corner"] qI:=by
 refine U.ok jH (λvs H Q E h=>?_) (λcdv A outer s H vs Q E hr h=>?_)
 .obtain⟨T,vt,ts,v,rfl,_⟩:=h;rfl
 .obtain⟨T,vt,ts,v,rfl,hT,ht,hl,g,q⟩:=h;have hu:=dA hr;refine⟨_,ah (az (i:=2) jH.nd rfl (.inl rfl) (aw G hr rfl m1 k1 b1 .nil pass0 (aa (pv 0) ae)))
   (ah (qv (i:=3) (N:=["_law_a","_law_p","_law_corner"]) (fr:=[none,none,some 1]) (g:=oS [] 2 (iU (dg 0) (iU (dg 1) oU))) (dS (by decide +kernel) rfl rfl (by decide +kernel) (by decide +kernel) (by walk_at"cs") (by walk_at"ct")) rfl (cC (aL (nA rfl) (by rfl) mS jm (aa (pv 2) ae)))
     (λC' s' H' fp pins=>⟨de rfl (aW (ay (i:=0) (show (["_law_a","_law_p","_law_corner"]:List Str).Nodup by decide +kernel) rfl (.inl rfl) (.inr rfl)) (aW (ay (i:=1) (show (["_law_a","_law_p","_law_corner"]:List Str).Nodup by decide +kernel) rfl (.inl rfl) (.inr rfl)) c_)),iL (ba eK (pv 0) (pv 2) (nomark _)),pv 1⟩) jH.nd rfl (.inl rfl))
   (ah (az (i:=4) jH.nd rfl (.inl rfl) (bY ae))
   (ah (nR cI (ba (oC hr.units) (pv 3) (bY ae) (nomark _)) (ah (az (i:=5) jH.nd rfl (.inr rfl) (bY (aa (bL cv (pv 3) ai (λ_ _=>rfl)) ae)))
    (ah (nR cI (PW.pt (gg (ba nJ (BO hu (pv 2) (aI (aa (pv 1) (aa (bL cv (pv 5) (ma lB ai) (λ_ _=>rfl)) ae))) ⟨rfl,rfl,rfl,rfl⟩) (pv 3) rfl) (gZ (ba kh (jD hu (pv 2) (aI (aa (pv 1) (aa (bL cv (pv 5) (ma lB ai) (λ_ _=>rfl)) ae))) (λ_ _=>rfl)) (pv 5) rfl)))) (ao (cU (df dG iA iB fE (pv 5) (aa (jD hu (pv 2) (aI (aa (pv 1) (aa (bL cv (pv 5) (ma lB ai) (λ_ _=>rfl)) ae))) (λ_ _=>rfl)) ae)))))
    (ah (nR cI (PW.pt (gg (oy (qP hu (aI (aa (bL cv (pv 5) ai (λ_ _=>rfl)) (aa (pv 1) ae))) (pv 2))) (gZ (ba kh (jD hu (pv 2) (aI (aa (bL cv (pv 5) ai (λ_ _=>rfl)) (aa (pv 1) ae))) (λ_ _=>rfl)) (pv 5) rfl)))) (ao (cU (df dG j9 ni jq (pv 5) (aa ai (aa (jD hu (pv 2) (aI (aa (bL cv (pv 5) ai (λ_ _=>rfl)) (aa (pv 1) ae))) (λ_ _=>rfl)) ae))))))
    (ah (qv (i:=3) (N:=["_law_p","_law_fan"]) (fr:=[none,some 5]) (tt:=qV (tOp (rIn [] true) (cz 0) (cz 1))) (dS (by decide +kernel) rfl rfl (by decide +kernel) (by decide +kernel) (by walk_at"cs") (by walk_at"ct")) rfl (cC (pv 3))
     (λC' s' H' fp pins=>⟨ay (i:=0) (show (["_law_p","_law_fan"]:List Str).Nodup by decide +kernel) rfl (.inl rfl) (.inr rfl),iL (ba kh (pv 0) (pv 1) rfl),pv 0⟩) jH.nd rfl (.inl rfl))
    (ao (cU (df dG iA iB fE (pv 4) (aa (pv 5) ae)))))))))
   (ao (aX (pv 4)))))),?_⟩
  have hline:=line5000;have k:=g.sk;refine⟨_,rfl,T,vt,ts,rfl,hT,ht,by lia,g.nd,λD H1 hD0 s1 hD=>?_⟩;refine⟨_,rfl,D,rfl,.inr ⟨_,hD⟩,λks vs hk=>.inr ⟨_,uR (jn (K:=[]) hD hk),?_,λp ix hp pm _=>?_⟩⟩
  .rw[aN (jn (K:=[]) hD hk),aC,e_];lia
  have sd0:=jn (K:=[]) hD hk;have lk:=aN sd0;walk_at"H1 p hp H2 s2 y2";have ixb:∀i∈ix,i<ks.length:=λi hi=>jY.mp (pm.mem_iff.mp hi);have sdz:=pZ (Paired.imp' (λ_ _ ⟨a,e,h⟩=>⟨a,e,s2 _ _ h⟩) sd0:SdsAt H2 ks ((ents ts).map (·.1))) ix ixb;have pss:(ix.map λi=>((ents ts).map (·.1)).getD i (0,0)).Perm ((ents ts).map (·.1)):=ui (by rw[<-lk];exact pm);generalize (ix.map λi=>((ents ts).map (·.1)).getD i (0,0))=ss at sdz pss;generalize (ix.map λi=>ks.getD i .non)=zs at sdz y2;have lz:=aN sdz;have lss:ss.length<=600:=by rw[pss.length_eq,aC,e_];lia
  refine⟨p,rfl,⟨_,SqL.of y2⟩,λZ_ hZ=>eF (K:=[]) (a:=p) (xs:=zs) (λi Z ys H'=>∃o1 o2,Z=[o1,o2,some (.int (v:Int))]/\ys=nV (((ss.take i).filter λs=>decide (s.1=v)).map (·.2))/\Same H2 H'/\H' Z_=some (.lst ys)) ⟨none,none,rfl,rfl,cu hZ,aO⟩ (by rintro i Z ys H' _ ⟨_,_,_,_,e,_⟩;exact SqL.of (e _ _ y2)) ?_ ?_⟩
  .rintro i y Z ys H' hi ⟨o1,o2,rfl,rfl,sZ,yZ⟩;obtain⟨⟨a,b⟩,hs,c,rfl,hc⟩:=cB sdz hi;have et:ss.take (i+1)=ss.take i++[(a,b)]:=by rw[bV,hs];rfl
   refine⟨c,_,rfl,SqT.of (sZ _ _ hc),rfl,_,_,rfl,_,_,rfl,rfl,?_⟩;refine⟨_,rfl,_,rfl,rfl,_,rfl,?_⟩;show if decide (V.int (a:Int)=V.int (v:Int))=true then _ else _
   rw[mx];by_cases hav:a=v
   .rw[KJ (by rw[hav])];refine a6 ⟨_,rfl,yZ,?_,λH3 k3 y3=>⟨_,_,rfl,?_,λb o e=>(k3 b (ak e hZ)).trans (sZ _ _ e),y3⟩⟩
    .rw[bq,aC];have h1:=i_ (λs:Nat×Nat=>decide (s.1=v)) (ss.take i);rw[cE] at h1;lia
    .rw[et,jW,eM,KI (KJ hav),mV,bf,<-eQ];rfl
   .rw[KL (by lia)];refine aP ⟨_,_,rfl,?_,sZ,yZ⟩;rw[et,jW,eM,KH (by simp[hav]),mV,eL]
  .rintro Z ys H3 ⟨o1,o2,rfl,rfl,sZ,yZ⟩;rw[lz,c7] at yZ;have hlf:∀x,x∈((ss.filter λs=>decide (s.1=v)).map (·.2))↔∃q,En ts v x q:=by
    intro x;rw[aD];constructor
    .rintro⟨⟨a,b⟩,hm,rfl⟩;rw[gG,pss.mem_iff] at hm;obtain⟨hm,ha⟩:=hm;have ha:a=v:=KM ha;obtain⟨⟨e1,c⟩,he,e2⟩:=aD.mp hm;have e2:e1=(a,b):=e2;subst e2 ha;exact⟨c,he⟩
    .rintro⟨c,hc⟩;exact⟨(v,x),gG.mpr ⟨pss.mem_iff.mpr (aD.mpr ⟨_,hc,rfl⟩),KJ rfl⟩,rfl⟩
   have ndlf:((ss.filter λs=>decide (s.1=v)).map (·.2)).Nodup:=by
    have nd1:ss.Nodup:=pss.nodup_iff.mpr g.nd;have:∀l:List (Nat×Nat),l.Nodup->((l.filter λs=>decide (s.1=v)).map (·.2)).Nodup:=by
     intro l;induction l with
     |nil=>intro _;exact jZ
     |cons x l ih=>
      intro h;rw[d_] at h;rw[eM]
      split
      .rename_i hx;rw[a8,d_];refine⟨λz=>?_,ih h.2⟩;obtain⟨y,hy,e⟩:=aD.mp z;rw[gG] at hy;have h1:y.1=v:=KM hy.2;have h2:x.1=v:=KM hx;have:y=x:=pD (h1.trans h2.symm) e;exact h.1 (this ▸ hy.1)
      .exact ih h.2
    exact this ss nd1
   have llf:((ss.filter λs=>decide (s.1=v)).map (·.2)).length<=600:=by rw[aC];exact cF (i_ _ _) lss
   generalize ((ss.filter λs=>decide (s.1=v)).map (·.2))=lf0 at hlf ndlf llf yZ;have q3:=(s1.trans s2).trans sZ;refine⟨aU _,λFd H4 hFd s4 y4=>?_⟩;have q4:=q3.trans s4;have hD4:=((s2.trans sZ).trans s4) _ _ hD;refine⟨λm Z H'=>∃v5 Lf lf Fd gs fs,Z=[some (V.ref T),some (.int (v:Int)),some (.ref D),some (.ref Lf),some (.ref Fd),v5]/\m=lf.length/\H Fd=none/\Same H H'/\H' D=some (.dT ((ents ts).map bH))/\H' Lf=some (.lst (nV lf))/\H' Fd=some (.lst gs)/\jR H' gs fs/\lf.Nodup/\
     (∀x∈lf,∃q,En ts v x q)/\(∀F∈fs,Fan (En ts) v F)/\(∀x,(∃q,En ts v x q)->x∈lf\/∃F∈fs,x∈F)/\(∀x∈lf,∀F∈fs,x∉F)/\(fs.Pairwise λF G=>∀x∈F,x∉G)/\fs.length+lf.length<=600/\V.ref Fd∉gs,
    ⟨_,none,Z_,lf0,Fd,[],[],rfl,rfl,q3.free hFd,q4,hD4,s4 _ _ yZ,y4,.nil,ndlf,λx hx=>(hlf x).mp hx,by simp,λx hx=>.inl ((hlf x).mpr hx),by simp,List.Pairwise.nil,by simpa using llf,by simp⟩,?_⟩
   rintro m Z H5 ⟨v5,Lf,lf,Fd,gs,fs,rfl,rfl,hFd0,sm,hD5,hLf,hFd5,hgs,ndl,hkey,hfan,hcov,hdis,hpw,hsz,hnot⟩;refine⟨_,rfl,aU _,λpe H6 hpe s6 y6=>?_⟩;refine⟨_,_,.lst (SqL.of (s6 _ _ hLf)) (Fy lf),.lst (SqL.of y6) .nil,cF (FD lf) (by decide),_,rfl,?_⟩;rw[KI rfl,Cn];cases lf with
   |nil=>
    refine aP ?_;refine⟨_,rfl,q Fd gs fs H6 hFd0 (sm.trans s6) (s6 _ _ hFd5) (hgs.same s6) ⟨hfan,λx hx=>?_,hpw⟩ (by simp at hsz;lia)⟩;exact (hcov x hx).resolve_left (by simp)
   |cons x0 lf=>
    refine a6 ?_;have hx0:=hkey x0 (by simp);refine⟨_,λZ' H' h=>h,?_⟩;refine⟨_,rfl,Lf,_,0,V.int (x0:Int),rfl,rfl,SqL.of (s6 _ _ hLf),wk rfl,lit1,λfa H7 hfa s7 y7=>?_⟩;have nD:∀{b:Addr} {ob:HO},H6 b=some ob->b≠fa:=λe=>ak e hfa;have hD6:=s6 _ _ hD5;have hL6:=s6 _ _ hLf;refine tU (λZ H'=>∃F,Z=[some (V.ref T),some (.int (v:Int)),some (.ref D),some (.ref Lf),some (.ref Fd),some (.ref fa)]/\Same H6 H'/\H' fa=some (.lst (nV F))/\Run ts v x0 F/\∀p,F.getLast?=some p->∀q,En ts v p q->q∈x0::lf->q∈F) (λNX z=>?_) ?_
    .refine⟨λm Z H'=>∃F,Z=[some (V.ref T),some (.int (v:Int)),some (.ref D),some (.ref Lf),some (.ref Fd),some (.ref fa)]/\m=1000-F.length/\Same H6 H'/\H' fa=some (.lst (nV F))/\Run ts v x0 F,⟨_,[x0],rfl,rfl,s7,y7,C_ hx0⟩,?_⟩;rintro m Z H8 ⟨F,rfl,rfl,sm8,y8,rn⟩;have hFl:=qr rn hl;obtain⟨p,hp⟩:=vW (qJ rn);have ap:=DY hp;refine⟨_,rfl,D,rfl,.inr ⟨_,.inl (sm8 _ _ hD6)⟩,_,rfl,_,rfl,_,rfl,fa,_,_,_,rfl,rfl,SqL.of y8,ap,lit2,λk1 H9 g1 s9 y9=>?_⟩;have sm9:=sm8.trans s9;rcases vx g v p with ⟨c,hc,e⟩|⟨hc,e⟩
     .refine⟨_,e ▸ DGet.t (k:=ky v p) (sm9 _ _ hD6) y9,_,rfl,Lf,_,rfl,.inl (SqL.of (sm9 _ _ hL6)),rfl,iN _,_,rfl,?_⟩;show if (if false=true then _ else inV (V.int (c:Int)) (nV (x0::lf)))=true then _ else _
      rw[KH bN,ie];by_cases hcl:c∈x0::lf
      .rw[KJ hcl];refine a6 ?_;refine⟨_,rfl,_,rfl,_,rfl,_,rfl,fa,_,_,_,rfl,rfl,SqL.of (s9 _ _ y8),ap,lit2,λk2 H10 g2 s10 y10=>?_⟩;have sm10:=sm9.trans s10;refine⟨D,V.int (c:Int),rfl,e ▸ DGet.t (k:=ky v p) (sm10 _ _ hD6) y10,_,rfl,fa,_,rfl,.inl (SqL.of (s10 _ _ (s9 _ _ y8))),rfl,iN _,_,rfl,?_⟩;show if (if true=true then !inV (V.int (c:Int)) (nV F) else _)=true then _ else _
       rw[KI rfl,ie];by_cases hcF:c∈F
       .rw[KJ hcF];refine aP (z _ _ ⟨F,rfl,sm10,s10 _ _ (s9 _ _ y8),rn,λp' hp' q hq _=>?_⟩);rw[hp] at hp';cases hp';rw[k.one hq hc];exact hcF
       .rw[KL hcF];refine a6 ⟨_,λZ' H' h=>h,?_⟩;refine⟨_,rfl,.inl ⟨rfl,_,SqL.of (s10 _ _ (s9 _ _ y8))⟩,_,rfl,_,rfl,_,rfl,_,rfl,fa,_,_,_,rfl,rfl,SqL.of (s10 _ _ (s9 _ _ y8)),ap,lit2,λk3 H11 g3 s11 y11=>?_⟩;have sm11:=sm10.trans s11;refine⟨D,V.int (c:Int),rfl,e ▸ DGet.t (k:=ky v p) (sm11 _ _ hD6) y11,fa,_,_,rfl,rfl,s11 _ _ (s10 _ _ (s9 _ _ y8)),by rw[bq];lia,λH12 k12 y12=>?_⟩;refine⟨_,?_,F++[c],rfl,rfl,λb' o e=>(k12 b' (nD e)).trans (sm11 _ _ e),?_,Dc rn hp hc (hkey c hcl) hcF⟩
        .rw[aZ,cM];lia
        .rw[y12];simp[nV]
      .rw[KL hcl];refine aP (aP (z _ _ ⟨F,rfl,sm9,s9 _ _ y8,rn,λp' hp' q hq hl'=>?_⟩));rw[hp] at hp';cases hp';rw[k.one hq hc] at hl';exact (hcl hl').elim
     .refine⟨_,e ▸ DGet.t (k:=ky v p) (sm9 _ _ hD6) y9,_,rfl,Lf,_,rfl,.inl (SqL.of (sm9 _ _ hL6)),rfl,iN _,_,rfl,?_⟩;show if (if false=true then _ else inV V.non (nV (x0::lf)))=true then _ else _
      rw[KH bN,DJ];refine aP (aP (z _ _ ⟨F,rfl,sm9,s9 _ _ y8,rn,λp' hp' q hq _=>?_⟩));rw[hp] at hp';cases hp';exact (hc q hq).elim
    rintro Z H8 ⟨F,rfl,sm8,y8,rn,hend⟩;clear y7 s7 H7;refine tU (λZ H'=>∃F,Z=[some (V.ref T),some (.int (v:Int)),some (.ref D),some (.ref Lf),some (.ref Fd),some (.ref fa)]/\Same H6 H'/\H' fa=some (.lst (nV F))/\Run ts v x0 F/\(∀p,F.getLast?=some p->∀q,En ts v p q->q∈x0::lf->q∈F)/\∀p,F.head?=some p->∀o,En ts v o p->o∈F) (λNX z=>?_) ?_
    .refine⟨λm Z H'=>∃F,Z=[some (V.ref T),some (.int (v:Int)),some (.ref D),some (.ref Lf),some (.ref Fd),some (.ref fa)]/\m=1000-F.length/\Same H6 H'/\H' fa=some (.lst (nV F))/\Run ts v x0 F/\∀p,F.getLast?=some p->∀q,En ts v p q->q∈x0::lf->q∈F,⟨_,F,rfl,rfl,sm8,y8,rn,hend⟩,?_⟩;clear hend rn y8 sm8;clear F H8;rintro m Z H8 ⟨F,rfl,rfl,sm8,y8,rn,hend⟩;have hFl:=qr rn hl;obtain⟨p,hp⟩:=DK (qJ rn);have ap:=wk hp;refine⟨_,rfl,fa,_,_,_,rfl,rfl,SqL.of y8,ap,_,rfl,lit2,λk1 H9 g1 s9 y9=>?_⟩;have sm9:=sm8.trans s9;rcases vx g p v with ⟨c,hc,e⟩|⟨hc,e⟩
     .refine⟨_,rfl,D,_,rfl,e ▸ DGet.t (k:=ky p v) (sm9 _ _ hD6) y9,_,rfl,?_⟩;refine a6 ?_;refine⟨_,rfl,_,rfl,fa,_,_,_,rfl,rfl,SqL.of (s9 _ _ y8),ap,_,rfl,lit2,λk2 H10 g2 s10 y10=>?_⟩;have sm10:=sm9.trans s10;refine⟨D,V.int (c:Int),rfl,e ▸ DGet.t (k:=ky p v) (sm10 _ _ hD6) y10,_,rfl,fa,_,rfl,.inl (SqL.of (s10 _ _ (s9 _ _ y8))),rfl,iN _,_,rfl,?_⟩;show if (if true=true then !inV (V.int (c:Int)) (nV F) else _)=true then _ else _
      rw[KI rfl,ie];by_cases hcF:c∈F
      .rw[KJ hcF];refine aP (z _ _ ⟨F,rfl,sm10,s10 _ _ (s9 _ _ y8),rn,hend,λp' hp' o ho=>?_⟩);rw[hp] at hp';cases hp';rw[k.one (k.rot (k.rot ho)) hc];exact hcF
      .rw[KL hcF];refine a6 ⟨_,λZ' H' h=>h,?_⟩;refine⟨_,rfl,.inl ⟨rfl,_,SqL.of (s10 _ _ (s9 _ _ y8))⟩,_,rfl,_,rfl,fa,_,_,_,rfl,rfl,SqL.of (s10 _ _ (s9 _ _ y8)),ap,_,rfl,lit2,λk3 H11 g3 s11 y11=>?_⟩;have sm11:=sm10.trans s11;refine⟨D,V.int (c:Int),rfl,e ▸ DGet.t (k:=ky p v) (sm11 _ _ hD6) y11,fa,_,0,_,rfl,rfl,s11 _ _ (s10 _ _ (s9 _ _ y8)),aU _,by rw[bq];lia,λH12 k12 y12=>?_⟩;refine⟨_,?_,c::F,rfl,rfl,λb' o e=>(k12 b' (nD e)).trans (sm11 _ _ e),?_,Da rn hp (k.rot hc) hcF,λp' hp' q hq hql=>?_⟩
       .rw[bQ];lia
       .rw[y12];simp[nV]
       .refine cN _ (hend p' ?_ q hq hql);rw[<-hp'];obtain⟨z,hz⟩:=vW (qJ rn);rw[List.getLast?_cons,hz];rfl
     .refine⟨_,rfl,D,_,rfl,e ▸ DGet.t (k:=ky p v) (sm9 _ _ hD6) y9,_,rfl,?_⟩;refine aP (aP (z _ _ ⟨F,rfl,sm9,s9 _ _ y8,rn,hend,λp' hp' o ho=>?_⟩));rw[hp] at hp';cases hp';exact (hc _ (k.rot (k.rot ho))).elim
    clear hend rn y8 sm8;clear F H8;rintro Z H8 ⟨F,rfl,sm8,y8,rn,hend,hbeg⟩;have hFl:=qr rn hl;obtain⟨fF,dF⟩:=Ck k hfan hcov hdis rn.nd rn.key rn.ch rn.x1 (by simp) hend hbeg;have hL8:=sm8 _ _ hL6;refine⟨_,rfl,Lf,rfl,⟨_,SqL.of hL8⟩,λZ_ hZ=>eF (K:=[]) (a:=Lf) (xs:=nV (x0::lf)) (λi Z ys H'=>∃o,Z=[o,some (.ref fa)]/\ys=nV (((x0::lf).take i).filter λp=>decide (p∉F))/\Same H8 H'/\H' Z_=some (.lst ys)) ⟨none,rfl,rfl,cu hZ,aO⟩ (by rintro i Z ys H' _ ⟨_,_,_,e,_⟩;exact SqL.of (e _ _ hL8)) ?_ ?_⟩
    .rintro i y Z ys H' hi ⟨o,rfl,rfl,sZ,yZ⟩;rw[nV,bp] at hi;obtain⟨n,hn,rfl⟩:=cT.mp hi;have et:(x0::lf).take (i+1)=(x0::lf).take i++[n]:=by rw[bV,hn];rfl
     refine⟨_,rfl,_,rfl,fa,_,rfl,.inl (SqL.of (sZ _ _ y8)),rfl,iN _,_,rfl,?_⟩;show if (if true=true then !inV (V.int (n:Int)) (nV F) else _)=true then _ else _
     rw[KI rfl,ie];by_cases hnF:n∈F
     .rw[KJ hnF];refine aP ⟨_,rfl,?_,sZ,yZ⟩;rw[et,jW,eM,KH (by simp[hnF]),mV,eL]
     .rw[KL hnF];refine a6 ⟨_,rfl,yZ,?_,λH3 k3 y3=>⟨_,rfl,?_,λb o e=>(k3 b (ak e hZ)).trans (sZ _ _ e),y3⟩⟩
      .rw[bq];have h1:=i_ (λp=>decide (p∉F)) ((x0::lf).take i);rw[cE] at h1;rw[bQ] at hsz h1;lia
      .rw[et,jW,eM,KI (by simp[hnF]),mV,<-eQ];rfl
    .rintro Z ys H9 ⟨o,rfl,rfl,sZ,yZ⟩;rw[bq,c7] at yZ;have e0:((x0::lf).filter λp=>decide (p∉F))=lf.filter λp=>decide (p∉F):=by
      rw[eM,KH (by simp[rn.x1])]
     have l0:=i_ (λp=>decide (p∉F)) lf;rw[<-e0] at l0;have hmem:∀x,x∈((x0::lf).filter λp=>decide (p∉F))↔x∈x0::lf/\x∉F:=λx=>by rw[gG,decide_eq_true_eq]
     have ndf:((x0::lf).filter λp=>decide (p∉F)).Nodup:=ndl.filter _;generalize ((x0::lf).filter λp=>decide (p∉F))=lf' at *;have sm9:=sm8.trans sZ;have hF6:=s6 _ _ hFd5;have hF9:=sm9 _ _ hF6;have hg:=aN hgs;rw[bQ] at hsz;refine⟨_,rfl,.inl ⟨rfl,_,SqL.of hF9⟩,_,rfl,Fd,gs,_,rfl,rfl,hF9,by rw[hg];lia,λH10 k10 y10=>?_⟩;have nFa:Fd≠fa:=nD hF6;have nFD:D≠Fd:=λz=>by rw[z,hF6] at hD6;cases hD6
     have nFZ:Z_≠Fd:=λz=>by rw[z,sm8 _ _ hF6] at hZ;cases hZ
     have sH:Same H H9:=(sm.trans s6).trans sm9;refine⟨lf'.length,by rw[bQ];lia,_,Z_,lf',Fd,gs++[V.ref fa],fs++[F],rfl,rfl,hFd0,λb' o e=>(k10 b' (ak e hFd0)).trans (sH _ _ e),(k10 D nFD).trans (sm9 _ _ hD6),(k10 Z_ nFZ).trans yZ,y10,?_,ndf,λx hx=>hkey x ((hmem x).mp hx).1,?_,?_,?_,?_,?_,?_⟩
     .refine dz ?_ (.cons ⟨fa,rfl,(k10 fa (av nFa)).trans (sZ _ _ y8)⟩ .nil);refine zX (λu l hu ⟨a,e1,e2⟩=>⟨a,e1,(k10 a λz=>hnot (by rw[<-z,<-e1];exact hu)).trans (sm9 _ _ (s6 _ _ e2))⟩) hgs
     .intro G hG;rcases bh.mp hG with h|h
      .exact hfan G h
      .rw[aV.mp h];exact fF
     .intro x hx;rcases hcov x hx with h|⟨G,hG,h⟩
      .by_cases hxF:x∈F
       .exact .inr ⟨F,by simp,hxF⟩
       .exact .inl ((hmem x).mpr ⟨h,hxF⟩)
      .exact .inr ⟨G,dQ _ hG,h⟩
     .intro x hx G hG;rcases bh.mp hG with h|h
      .exact hdis x ((hmem x).mp hx).1 G h
      .rw[aV.mp h];exact ((hmem x).mp hx).2
     .refine xW.mpr ⟨hpw,rY _ _,λG hG F' hF' x hx hxF=>?_⟩;rw[aV.mp hF'] at hxF;exact dF x hxF G hG hx
     .rw[aZ,cM];lia
     .intro z;rcases bh.mp z with h|h
      .exact hnot h
      .have:=aV.mp h;cases this;exact nFa rfl
end
end K15
end
section
namespace K15
def reE (v n:Nat) (F:List Nat) (e:Ent):Ent:=((rn v n F e.1.1 e.1.2,rn v n F e.1.2 e.2),rn v n F e.2 e.1.1)
theorem Cr {ts:List Tri} {v n:Nat} {F:List Nat}:ents (ts.map (ren v n F))=(ents ts).map (reE v n F):=by
 induction ts with
 |nil=>rfl
 |cons t ts ih=>
  have h1:ents ((t::ts).map (ren v n F))=ents [ren v n F t]++ents (ts.map (ren v n F)):=by simp[ents]
  have h2:ents (t::ts)=ents [t]++ents ts:=by simp[ents]
  rw[h1,h2,bf,ih];rfl
def Co (ts:List Tri) (u:Nat):Prop:=∃p q,En ts u p q
theorem Cd {ts:List Tri} {v n:Nat} {F:List Nat} (g:Good ts) (fr:∀a b c,En ts a b c->a≠n):Good (ts.map (ren v n F)):=by
 have k:=g.sk;have ks:=Gn (v:=v) (F:=F) k fr;refine⟨λt ht=>?_,?_⟩
 .obtain⟨⟨a,b,c⟩,h,rfl⟩:=aD.mp ht;have e1:En ts a b c:=dU.mpr (.inl h);have e2:=k.rot e1;have e3:=k.rot e2;exact⟨ks.ne (c:=rn v n F c a) ⟨a,b,c,e1,rfl,rfl,rfl⟩,ks.ne (c:=rn v n F a b) ⟨b,c,a,e2,rfl,rfl,rfl⟩,ks.ne (c:=rn v n F b c) ⟨c,a,b,e3,rfl,rfl,rfl⟩⟩
 .rw[Cr,cq];have nd:=g.nd;have mem:∀e∈ents ts,En ts e.1.1 e.1.2 e.2:=λe he=>he;rw[List.Nodup,j3] at nd |-;refine nd.imp_of_mem λ{x y} hx hy h z=>h ?_;have z:=jf z;obtain⟨⟨a,b⟩,c⟩:=x;obtain⟨⟨a',b'⟩,c'⟩:=y;have e:En ts a b c:=mem _ hx;have e':En ts a' b' c':=mem _ hy;have z1:rn v n F a b=rn v n F a' b':=z.1;have z2:rn v n F b c=rn v n F b' c':=z.2;have key:∀{p q p' q'},p≠n->p'≠n->rn v n F p q=rn v n F p' q'->p=p':=by
   intro p q p' q' h1 h2 h3;by_cases hx:rn v n F p q=n
   .rw[(gv h1 hx).1,(gv h2 (h3 ▸ hx)).1]
   .rw[<-ff hx,h3,ff (h3 ▸ hx)]
  show (a,b)=(a',b');rw[key (fr _ _ _ e) (fr _ _ _ e') z1,key (fr _ _ _ (k.rot e)) (fr _ _ _ (k.rot e')) z2]
structure Mid (ts:List Tri) (v:Nat) (F0:List Nat) (fs:List (List Nat)) (rest:List Nat):Prop where
 good:Good ts
 fans:Fans (En ts) v (F0::fs)
 oth:∀u,Co ts u->u=v\/u∈rest\/One (En ts) u
theorem Dw {E E':Nat->Nat->Nat->Prop} (h:∀a b c,E a b c↔E' a b c):E=E':=by funext a b c;exact propext (h a b c)
theorem B4 {ts:List Tri} {v n:Nat} {F0 F:List Nat} {fs:List (List Nat)} {rest:List Nat} (m:Mid ts v F0 (F::fs) rest) (fr:∀u,Co ts u->u≠n):Mid (ts.map (ren v n F)) v F0 fs rest:=by
 have fr':∀a b c,En ts a b c->a≠n:=λa b c h=>fr a ⟨b,c,h⟩;have k:=m.good.sk;have eE:En (ts.map (ren v n F))=Rn (En ts) v n F:=Dw λ_ _ _=>Fx;have hF:=m.fans.fan F (by simp);have hv:v≠n:=by obtain⟨p,hp⟩:=rM _ hF.ne;obtain⟨q,hq⟩:=hF.key p hp;exact fr' _ _ _ hq
 have dis:=m.fans.dis;rw[rW,rW] at dis;obtain⟨d0,d1,d2⟩:=dis;have dF:∀G∈F0::fs,∀p∈F,p∉G:=by
  intro G hG p hp hpG;rcases aT.mp hG with rfl|h
  .exact d0 F (by simp) p hpG hp
  .exact d1 G h p hp hpG
 refine⟨Cd m.good fr',?_,?_⟩
 .rw[eE];refine⟨λG hG=>?_,λp ⟨q,hq⟩=>?_,?_⟩
  .refine Cj k fr' hv (m.fans.fan G ?_) (dF G hG);rcases aT.mp hG with rfl|h
   .simp
   .exact cN _ (cN _ h)
  .obtain⟨h1,h2⟩:=(jC k fr' hv).mp hq;obtain⟨G,hG,hp⟩:=m.fans.all p ⟨q,h1⟩;rcases aT.mp hG with rfl|h
   .exact⟨G,by simp,hp⟩
   .rcases aT.mp h with rfl|h
    .exact (h2 hp).elim
    .exact⟨G,cN _ h,hp⟩
  .rw[rW];exact⟨λG hG=>d0 G (cN _ hG),d2⟩
 .rintro u ⟨p,q,h⟩;rw[eE] at h |-;by_cases hun:u=n
  .subst hun;exact .inr (.inr (BP k fr' hF))
  .obtain⟨a,b,c,h,e1,_,_⟩:=h;have ea:u=a:=by rw[e1];exact ff (by rw[<-e1];exact hun)
   subst ea;rcases m.oth u ⟨b,c,h⟩ with h1|h1|h1
   .exact .inl h1
   .exact .inr (.inl h1)
   .by_cases huv:u=v
    .exact .inl huv
    .exact .inr (.inr (AB k fr' hF hv huv hun h1))
theorem DG {ts:List Tri} {v:Nat} {F0:List Nat} {rest:List Nat} (m:Mid ts v F0 [] rest) (u:Nat) (hu:Co ts u):u∈rest\/One (En ts) u:=by
 rcases m.oth u hu with rfl|h
 .refine .inr ⟨F0,m.fans.fan F0 (by simp),λp hp=>?_⟩;obtain⟨G,hG,h⟩:=m.fans.all p hp;rw[aV.mp hG] at h;exact h
 .exact h
theorem AR {ts:List Tri} {v:Nat} {F0:List Nat} {fs:List (List Nat)} {rest:List Nat} (g:Good ts) (h:Fans (En ts) v (F0::fs)) (o:∀u,Co ts u->u∈v::rest\/One (En ts) u):Mid ts v F0 fs rest:=
 ⟨g,h,λu hu=>(o u hu).elim (λz=>(aT.mp z).elim .inl λz=>.inr (.inl z)) λz=>.inr (.inr z)⟩
theorem B5 {ts:List Tri} {v:Nat} {rest:List Nat} (h:Fans (En ts) v []) (o:∀u,Co ts u->u∈v::rest\/One (En ts) u) (u:Nat) (hu:Co ts u):u∈rest\/One (En ts) u:=by
 rcases o u hu with z|z
 .rcases aT.mp z with rfl|z
  .obtain⟨p,q,hp⟩:=hu;obtain⟨G,hG,_⟩:=h.all p ⟨q,hp⟩;cases hG
  .exact .inl z
 .exact .inr z
theorem cG {ts:List Tri} {u:Nat}:Co ts u↔∃t∈ts,u=t.1\/u=t.2.1\/u=t.2.2:=by
 constructor
 .rintro⟨p,q,h⟩;rcases dU.mp h with h|h|h
  .exact⟨_,h,.inl rfl⟩
  .exact⟨_,h,.inr (.inl rfl)⟩
  .exact⟨_,h,.inr (.inr rfl)⟩
 .rintro⟨⟨a,b,c⟩,h,rfl|rfl|rfl⟩
  .exact⟨b,c,dU.mpr (.inl h)⟩
  .exact⟨c,a,dU.mpr (.inr (.inl h))⟩
  .exact⟨a,b,dU.mpr (.inr (.inr h))⟩
end K15
end
section
namespace L2
open PySem PySem.Spec PyProof.Rows
section
theorem Inv.bareTup {a:Addr} (I:Inv X pins Z H s) (h:Rd H a (.tup xs)) :
  s.TypeIs (.ref a) "tuple"/\∃ob,s.heap.get? a=some ob/\ob.dict=none:=by
 obtain⟨⟨_,b⟩,its,r,p⟩:=h.ok I.hok;exact⟨p.typeIs,b⟩
def tTM2 (r:V->List V->Hp->VK->Prop) (x:V) (Q:VK):List V->Hp->Prop:=λvs H2=>r x vs H2 Q
def tTM1 (r:V->List V->Hp->VK->Prop) (t:TA) (Z:St) (Q:VK):VK:=λx H1=>(∃a xs,x=.ref a/\Rd H1 a (.tup xs))/\t Z H1 (tTM2 r x Q)
def tTM (r:V->List V->Hp->VK->Prop) (to:TE) (t:TA):TE:=λZ H Q=>to Z H (tTM1 r t Z Q)
theorem GO {o e:Expr} {es:List Expr} {to:TE} {t:TA} {name:Str} {apos cpos:Pos} {id:String} {r:V->List V->Hp->VK->Prop} (pa:PlainAttrs "tuple") (slot:Slot "tuple" name id) (hty:typeOf (.builtin id)=pure (.type "method_descriptor")) (hm:MtM X id r) (ho:PE X o to) (ha:PA X (e::es) t)
  (hbase:attributeBase o name X.env (eval o X.env)=eval o X.env:=by rfl)
  (hfew:((backTo cpos (starEach (e::es) X.env)).all (λx=>!x.1)&&(backToKw cpos (keywordEach [] X.env)).all (λx=>x.1.isSome)
   && decide ((e::es).length+([]:List Keyword).length+(if ([]:List Keyword).isEmpty then 0 else 1)<30))=true:=by rfl)
  (hline:(apos.endLine==cpos.line)=true:=by rfl) (hs:starEach (e::es) X.env=(false,eval e X.env)::starEach es X.env:=by rfl) (hplain:(backTo cpos (starEach es X.env)).any (·.1)=false:=by rfl) :
  PE X (.Call (.Attribute o name apos) (e::es) [] cpos) (tTM r to t):=by
 intro pins s Z H Q I h;refine Jo hbase hfew hline rfl (thn (ho pins s Z H _ I h) λv s1 ⟨x,H1,I1,r1,⟨a,xs,ex,hx⟩,q1⟩=>?_);subst ex;obtain rfl:v=Value.ref a:=r1;obtain⟨h1,h2⟩:=I1.bareTup hx;refine⟨"tuple",id,pa,slot,hty,h1,λb e=>by cases e;exact h2,?_⟩;have hA:=ha cpos pins s1 Z H1 _ I1 q1;rw[hs] at hA |-;refine mK (by show (false||(backTo cpos (starEach es X.env)).any (·.1))=false;rw[hplain]<;>rfl) (mL ?_);exact thn hA λus s2 ⟨vs,H2,I2,r2,q2⟩=>hm pins s2 Z H2 (.ref a) vs (.ref a) us Q I2 rfl r2 q2
end
end L2
end
section
namespace K15
open PySem L2 K51 K31
theorem iI {A B:TS} {D:Ends} (R:St->Hp->Prop) (hA:∀NX:St->Hp->Prop,(∀Z H,R Z H->NX Z H)->A {D with nx:=NX} Z H) (hB:∀Z H,R Z H->B D Z H):oR A B D Z H:=hA (B D) hB
theorem CG {x:V} {i:Nat} {B:TS} {D:Ends} (h:B D (Z.set i (some x)) H):oR (mn (tC x) (dg i)) B D Z H:=h
theorem Dd {v n a b c:Nat} {F:List Nat} (h1:a=v->b∉F) (h2:b=v->c∉F) (h3:c=v->a∉F):rn v n F a b=a/\rn v n F b c=b/\rn v n F c a=c:=by unfold rn;exact⟨KH λz=>h1 z.1 z.2,KH λz=>h2 z.1 z.2,KH λz=>h3 z.1 z.2⟩
theorem EI {v n a b c:Nat} {F:List Nat} (h:a=v/\b∈F\/b=v/\c∈F\/c=v/\a∈F) (n1:a≠b) (n2:b≠c) (n3:c≠a) :
  rn v n F a b=(if a=v then n else a)/\rn v n F b c=(if b=v then n else b)/\rn v n F c a=if c=v then n else c:=by
 unfold rn;rcases h with ⟨rfl,h⟩|⟨rfl,h⟩|⟨rfl,h⟩
 .exact⟨by rw[KI ⟨rfl,h⟩,KI rfl],by rw[KH λz=>n1 z.1.symm,KH λz=>n1 z.symm],by rw[KH λz=>n3 z.1,KH n3]⟩
 .exact⟨by rw[KH λz=>n1 z.1,KH n1],by rw[KI ⟨rfl,h⟩,KI rfl],by rw[KH λz=>n2 z.1.symm,KH λz=>n2 z.symm]⟩
 .exact⟨by rw[KH λz=>n3 z.1.symm,KH λz=>n3 z.symm],by rw[KH λz=>n2 z.1,KH n2],by rw[KI ⟨rfl,h⟩,KI rfl]⟩
def Bn (vs:List V) (H:Hp) (Q:VK) (T:Addr) (vt:List V) (ts:List Tri):Prop:=vs=[.ref T]/\H T=some (.lst vt)/\aG H vt ts/\ts.length<=20/\Good ts/\
 ∀r vr ts' H',Same H H'->H' r=some (.lst vr)->aG H' vr ts'->ts'.length=ts.length->Good ts'->(∀u,Co ts' u->One (En ts') u)->Q (.ref r) H'
def qm:Sp:=λvs H Q _=>Exists (Ex3 (Bn vs H Q))
section
theorem fK:bc ["_law_triples","_law_corner","_law_fan","_law_new","_law_made_here","_law_triple","_law_at_here"] ["_law_triples"] (aE lE):=by walk_at"sc"
theorem BR {f f1 f2:Addr} {fd d1 d2:FuncData} (U:Fun K "_law_split" "_law_split" lE f fd) (T:cH mg) (mM:mg "max" = none)
  (G1:ag P w K mg base CX0 2 f1 d1 ["_law_triples"] gP) (b1:Binds K d1 ["_law_triples"] []) (m1:mg "_law_corners" = some (.ref f1)) (k1:W.keepIn K (.ref f1)=true)
  (G2:ag P w K mg base CX0 2 f2 d2 ["_law_triples","_law_corner"] qI) (b2:Binds K d2 ["_law_triples","_law_corner"] []) (m2:mg "_law_fans" = some (.ref f2)) (k2:W.keepIn K (.ref f2)=true) :
  ag P w K mg base CX0 3 f fd ["_law_triples"] qm:=by
 refine U.ok fK (λvs H Q E h=>?_) (λcdv A outer s H vs Q E hr h=>?_)
 .obtain⟨T,vt,ts,rfl,_⟩:=h;rfl
 .obtain⟨T0,vt,ts,rfl,hT,ht,hl,g,q⟩:=h;have hu:=dA hr;refine⟨_,(ah (cD cI rfl (cC (aw G1 hr rfl m1 k1 b1 .nil pass0 (aa (pv 0) ae))) (ay (i:=1) fK.nd rfl (.inr rfl)) (ao (cD cI rfl (cC (uV vL (aw G2 hr rfl m2 k2 b2 .nil pass0 (aa (pv 0) (aa (pv 1) ae))) (vR ai) vS)) (ay (i:=2) fK.nd rfl (.inl rfl)) (ah (az (i:=3) fK.nd rfl (.inr rfl) (aA cy (aL (pL rfl) (by rfl) mM yk (aa (aw G1 hr rfl m1 k1 b1 .nil pass0 (aa (pv 0) ae)) ae)) ai))
   (ah (az (i:=4) fK.nd rfl (.inl rfl) (bY ae))
   (ah (cD cI rfl (cC (pv 0)) (ay (i:=5) fK.nd rfl (.inl rfl)) (ah (az (i:=6) fK.nd rfl (.inl rfl) ai)
   (ah (br (ba nJ (pv 1) (pv 5) rfl) (ao (az (i:=6) fK.nd rfl (.inl rfl) (GO PySem.F.plainAttrs_tuple IS PySem.F.type_tuple_index (AO hr.units) (pv 5) (aa (pv 1) ae)))) bK)
   (ah (br (PW.pt (gg (ba iT (pv 6) ai (nomark _)) (gZ (ba nJ (bL ic (pv 5) (aA eP (aA cy (pv 6) ai) ai) (λ_ _=>rfl)) (pv 2) rfl)))) (ao (az (i:=5) fK.nd rfl (.inl rfl) (er kg (by rfl) T.tuple j6 (aa (dO (N:=["_law_one","_law_new","_law_corner"]) (fr:=[none,some 3,some 1]) (te:=tOp (rIxL []) (rA (dX (cz 0) (dX (cz 1) fR))) (tCB (λxs H Q=>(∃i,xs=[.int i]/\Q (.int i) H)\/∃k,xs=[.bl k]/\Q (.int (if k then 1 else 0)) H) (dX (tOp rEq (cz 0) (cz 2)) fR))) (dS (by decide +kernel) rfl rfl (by decide +kernel) (by decide +kernel) (by walk_at"cs") (by walk_at"ct")) rfl (lQ (pv 5))
     (λC' s' H' fp pins=>⟨ay (i:=0) (show (["_law_one","_law_new","_law_corner"]:List Str).Nodup by decide +kernel) rfl (.inl rfl) (.inr rfl),eO,bL cv (bY (aa (pv 0) (aa (pv 1) ae))) (er nN (by rfl) T.int nh (aa (fg eK (pv 0) (pv 2) (nomark _)) ae)) (λ_ _=>rfl)⟩)) ae)))) bK)
   (ao (cU (df dG iA iB fE (pv 4) (aa (pv 5) ae))))))))
   (ao (az (i:=0) fK.nd rfl (.inl rfl) (pv 4)))))))))
   (ao (aX (pv 0)))),?_⟩
  have hline:=line5000;refine⟨_,rfl,T0,vt,ts,rfl,hT,ht,by lia,λr0 cs H1 hr0 s1 y1 hcs hcl=>?_⟩;refine⟨r0,rfl,⟨_,SqL.of y1⟩,eu (K:=[]) (a:=r0) (xs:=nV cs) (λi Z H'=>∃v1 v2 v3 v4 v5 v6 Tc vc tc,Z=[some (V.ref Tc),v1,v2,v3,v4,v5,v6]/\Same H1 H'/\H' Tc=some (.lst vc)/\aG H' vc tc/\tc.length=ts.length/\Good tc/\∀u,Co tc u->u∈cs.drop i\/One (En tc) u)
   ⟨none,none,none,none,none,none,T0,vt,ts,rfl,Same.refl _,s1 _ _ hT,ht.same s1,rfl,g,λu hu=>.inl ?_⟩ (by rintro i Z H' _ ⟨_,_,_,_,_,_,_,_,_,_,e,_⟩;exact SqL.of (e _ _ y1)) ?_ ?_⟩
  .rw[xJ,hcs.2];obtain⟨t,htm,hu⟩:=cG.mp hu;exact fV.mpr ⟨t,htm,by simpa using hu⟩
  .rintro i x Z H2 hi ⟨v1,v2,v3,v4,v5,v6,Tc,vc,tc,rfl,sm2,hTc,htc,hlc,gc,oc⟩;rw[nV,bp] at hi;obtain⟨v,hv,rfl⟩:=cT.mp hi;have hil:=(aJ.mp hv).1;have edr:cs.drop i=v::cs.drop (i+1):=by
    rw[pf hil,(aJ.mp hv).2]
   rw[edr] at oc;refine⟨_,rfl,_,rfl,Tc,vc,tc,v,rfl,hTc,htc,by lia,gc,λr gs fs H3 hr3 s3 y3 lps hfn hfl=>?_⟩;refine⟨1,rfl,r,gs,rfl,SqL.of y3,λp H4 hp s4 y4=>?_⟩;rw[show iZ gs (some 1) none=gs.drop 1 from Cy gs 1] at y4;have sm4:=(sm2.trans s3).trans s4;cases fs with
   |nil=>
    cases lps;refine⟨p,rfl,⟨_,SqL.of y4⟩,eu (K:=[]) (a:=p) (xs:=[]) (λj Z H'=>Z=[some (V.ref Tc),some (.int (v:Int)),v2,v3,v4,v5,v6]/\H'=H4) ⟨rfl,rfl⟩ (λj Z H' _ ⟨_,e⟩=>by rw[e];exact SqL.of y4) (λj x Z H' h=>by simp at h) ?_⟩;rintro Z H' ⟨rfl,rfl⟩;exact⟨_,_,_,_,_,_,Tc,vc,tc,rfl,sm4,s4 _ _ (s3 _ _ hTc),(htc.same s3).same s4,hlc,gc,B5 hfn oc⟩
   |cons F0 fs=>
    obtain⟨g0,gs,rfl,hg0,hgs⟩:∃g0 gs',gs=g0::gs'/\mE H3 g0 F0/\jR H3 gs' fs:=by
     cases lps with
     |cons a b=>exact⟨_,_,rfl,a,b⟩
    refine⟨p,rfl,⟨_,SqL.of y4⟩,eu (K:=[]) (a:=p) (xs:=gs) (λj Z H'=>∃v2 v3 v4 v5 v6 Tc vc tc,Z=[some (V.ref Tc),some (.int (v:Int)),v2,v3,v4,v5,v6]/\Same H4 H'/\H' Tc=some (.lst vc)/\aG H' vc tc/\tc.length=ts.length/\Mid tc v F0 (fs.drop j) (cs.drop (i+1)))
     ⟨v2,v3,v4,v5,v6,Tc,vc,tc,rfl,Same.refl _,s4 _ _ (s3 _ _ hTc),(htc.same s3).same s4,hlc,AR gc hfn oc⟩ (by rintro j Z H' _ ⟨_,_,_,_,_,_,_,_,_,e,_⟩;exact SqL.of (e _ _ y4)) ?_ ?_⟩
    .rintro j x Z H5 hj ⟨v2,v3,v4,v5,v6,Tc,vc,tc,rfl,sm5,hTc,htc,hlc,md⟩;obtain⟨F,hF,fa,rfl,hfa⟩:=cB hgs hj;have hjl:=(aJ.mp hF).1;have efs:fs.drop j=F::fs.drop (j+1):=by
      rw[pf hjl,(aJ.mp hF).2]
     rw[efs] at md;have hfa5:=sm5 _ _ (s4 _ _ hfa);refine⟨_,rfl,Tc,vc,tc,rfl,hTc,htc,by lia,λrc cs2 H6 hrc s6 y6 hcs2 hcl2=>?_⟩;have ev:nV cs2=(cs2.map (λc:Nat=>(c:Int))).map V.int:=by rw[cq];rfl
     have hco:∀u,Co tc u->u∈cs2:=λu hu=>by
      rw[hcs2.2];obtain⟨t,htm,hu⟩:=cG.mp hu;exact fV.mpr ⟨t,htm,by simpa using hu⟩
     have hvc:Co tc v:=by have fF:=md.fans.fan F (by simp);obtain⟨p,hp⟩:=rM _ fF.ne;obtain⟨q,hq⟩:=fF.key p hp;exact⟨p,q,hq⟩
     refine⟨rc,_,rfl,SqL.of (by rw[y6,ev]),λz=>?_,λm hm hmax=>⟨_,_,rfl,rfl,?_⟩⟩
     .have:=hco v hvc;rw[xS.mp z] at this;cases this
     obtain⟨n0,hn0,rfl⟩:=aD.mp hm;have hfr:∀u,Co tc u->u≠n0+1:=λu hu z=>by
      have:=hmax (u:Int) (aD.mpr ⟨u,hco u hu,rfl⟩);lia
     have en:V.int ((n0:Int)+1)=V.int ((n0+1:Nat):Int):=rfl;have mdS:=B4 md hfr;have hvn:=hfr v hvc;generalize n0+1=n at hfr en mdS hvn;refine⟨aU _,λmo H7 hmo s7 y7=>?_⟩;have hT7:=s7 _ _ (s6 _ _ hTc);have ht7:=(htc.same s6).same s7;refine⟨_,rfl,Tc,rfl,⟨_,SqL.of hT7⟩,eu (K:=[]) (a:=Tc) (xs:=vc) (λk Z H'=>∃v5 v6 vm,Z=[some (V.ref Tc),some (.int (v:Int)),some (.ref fa),some (.int (n:Int)),some (.ref mo),v5,v6]/\Same H6 H'/\H' mo=some (.lst vm)/\aG H' vm ((tc.take k).map (ren v n F)))
      ⟨v5,v6,[],by rw[<-en];rfl,s7,y7,.nil⟩ (by rintro k Z H' _ ⟨_,_,_,_,e,_⟩;exact SqL.of (e _ _ (s6 _ _ hTc))) ?_ ?_⟩
     .rintro k x Z H8 hk ⟨v5,v6,vm,rfl,sm8,hmo8,hvm⟩;obtain⟨⟨a,b,c⟩,hs,t,rfl,hb⟩:=cB htc hk;have hb:H5 t=some (.tup [.int (a:Int),.int (b:Int),.int (c:Int)]):=hb;have hb8:=sm8 _ _ (s6 _ _ hb);have hF8:=sm8 _ _ (s6 _ _ hfa5);obtain⟨n1,n2,n3⟩:a≠b/\b≠c/\c≠a:=md.good.ne (a,b,c) (bE hs);have et:(tc.take (k+1)).map (ren v n F)=(tc.take k).map (ren v n F)++[(rn v n F a b,rn v n F b c,rn v n F c a)]:=by rw[bV,hs,bf];rfl
      have vml:vm.length<=20:=by rw[aN hvm,aC,cE];lia
      refine CG ?_;refine iI (λZ H'=>∃j:Nat,Z=[some (V.ref Tc),some (.int (v:Int)),some (.ref fa),some (.int (n:Int)),some (.ref mo),some (.ref t),some (.int (j:Int))]/\H'=H8/\(j=3/\a≠v/\b≠v/\c≠v\/j=0/\a=v\/j=1/\b=v\/j=2/\c=v)) (λNX z=>?_) ?_
      .refine⟨_,rfl,_,rfl,t,_,rfl,.inr (SqT.of hb8),rfl,rfl,_,rfl,?_⟩;show if (if false=true then _ else inV (V.int (v:Int)) (nV [a,b,c]))=true then _ else _
       rw[KH bN,ie];by_cases hv3:v∈[a,b,c]
       .rw[KJ hv3];refine a6 ⟨_,rfl,⟨t,_,rfl,.inl hb8⟩,_,rfl,?_⟩;have dts:Dts [] H8 [V.int (a:Int),.int (b:Int),.int (c:Int)] [.int (a:Int),.int (b:Int),.int (c:Int)]:=.cons (.int _) (.cons (.int _) (.cons (.int _) .nil));have eqi:∀x y:Nat,PyData.eqv (.int (x:Int)) (.int (y:Int))=decide (x=y):=λx y=>by
         rw[iw];simp[PyData.eqv];lia
        have dd:(PyData.int (v:Int)).depth<=60:=by simp[PyData.depth]
        by_cases ha:a=v
        .exact⟨t,_,_,_,_,0,rfl,rfl,SqT.of hb8,dts,.int _,dd,by simp,by show PyData.eqv (.int (a:Int)) _=true;rw[eqi];exact KJ ha,λm hm=>by lia,z _ _ ⟨0,rfl,rfl,.inr (.inl ⟨rfl,ha⟩)⟩⟩
        .have f0:PyData.eqv (.int (a:Int)) (.int (v:Int))=false:=by rw[eqi];exact KL ha
         by_cases hbv:b=v
         .refine⟨t,_,_,_,_,1,rfl,rfl,SqT.of hb8,dts,.int _,dd,by simp,by show PyData.eqv (.int (b:Int)) _=true;rw[eqi];exact KJ hbv,λm hm=>?_,z _ _ ⟨1,rfl,rfl,.inr (.inr (.inl ⟨rfl,hbv⟩))⟩⟩;obtain rfl:m=0:=by lia
          exact f0
         .have f1:PyData.eqv (.int (b:Int)) (.int (v:Int))=false:=by rw[eqi];exact KL hbv
          have hcv:c=v:=by
           simp only[aT,mZ,or_false] at hv3;rcases hv3 with h|h|h
           .exact (ha h.symm).elim
           .exact (hbv h.symm).elim
           .exact h.symm
          refine⟨t,_,_,_,_,2,rfl,rfl,SqT.of hb8,dts,.int _,dd,by simp,by show PyData.eqv (.int (c:Int)) _=true;rw[eqi];exact KJ hcv,λm hm=>?_,z _ _ ⟨2,rfl,rfl,.inr (.inr (.inr ⟨rfl,hcv⟩))⟩⟩;obtain rfl|rfl:m=0\/m=1:=by lia
          .exact f0
          .exact f1
       .rw[KL hv3];simp only[aT,mZ,or_false,not_or] at hv3;exact aP (z _ _ ⟨3,rfl,rfl,.inl ⟨rfl,av hv3.1,av hv3.2.1,av hv3.2.2⟩⟩)
      rintro Z H9 ⟨j,rfl,rfl,hj3⟩;refine iI (λZ H'=>∃t' w6,Z=[some (V.ref Tc),some (.int (v:Int)),some (.ref fa),some (.int (n:Int)),some (.ref mo),some (.ref t'),w6]/\Same H9 H'/\H' t'=some (.tup [.int (rn v n F a b:Int),.int (rn v n F b c:Int),.int (rn v n F c a:Int)])) (λNX z=>?_) ?_
      .obtain⟨y,hy,hyr⟩:∃y:Nat,(j<3->atI [V.int (a:Int),.int (b:Int),.int (c:Int)] (((j:Int)+1)%3)=some (V.int (y:Int)))/\(j<3->(y∈F->a=v/\b∈F\/b=v/\c∈F\/c=v/\a∈F)/\(y∉F->(a=v->b∉F)/\(b=v->c∉F)/\(c=v->a∉F))):=by
        rcases hj3 with ⟨rfl,_⟩|⟨rfl,h⟩|⟨rfl,h⟩|⟨rfl,h⟩
        .exact⟨0,λz=>by lia,λz=>by lia⟩
        .exact⟨b,λ_=>ck (j:=1) rfl,λ_=>⟨λz=>.inl ⟨h,z⟩,λz=>⟨λ_=>z,λe=>(n1 (h.trans e.symm)).elim,λe=>(n3 (e.trans h.symm)).elim⟩⟩⟩
        .exact⟨c,λ_=>ck (j:=2) rfl,λ_=>⟨λz=>.inr (.inl ⟨h,z⟩),λz=>⟨λe=>(n1 (e.trans h.symm)).elim,λ_=>z,λe=>(n2 (h.trans e.symm)).elim⟩⟩⟩
        .exact⟨a,λ_=>ck (j:=0) rfl,λ_=>⟨λz=>.inr (.inr ⟨h,z⟩),λz=>⟨λe=>(n3 (h.trans e.symm)).elim,λe=>(n2 (e.trans h.symm)).elim,λ_=>z⟩⟩⟩
       have same:(a=v->b∉F)/\(b=v->c∉F)/\(c=v->a∉F)->NX [some (V.ref Tc),some (.int (v:Int)),some (.ref fa),some (.int (n:Int)),some (.ref mo),some (.ref t),some (.int (j:Int))] H9:=λh=>by
        obtain⟨e1,e2,e3⟩:=Dd (n:=n) h.1 h.2.1 h.2.2;exact z _ _ ⟨t,_,rfl,Same.refl _,by rw[e1,e2,e3];exact hb8⟩
       refine⟨_,rfl,_,_,rfl,rfl,_,rfl,?_⟩;show if decide ((j:Int)<3)=true then _ else _
       by_cases hj:j<3
       .rw[KJ (show (j:Int)<3 by lia)];refine a6 ?_;refine⟨_,rfl,_,rfl,_,_,rfl,rfl,_,_,rfl,rfl,by lia,t,_,_,_,rfl,rfl,SqT.of hb8,hy hj,_,rfl,fa,_,rfl,.inl (SqL.of hF8),rfl,iN _,_,rfl,?_⟩;show if (if false=true then _ else inV (V.int (y:Int)) (nV F))=true then _ else _
        rw[KH bN,ie];by_cases hyF:y∈F
        .rw[KJ hyF];refine a6 ?_;obtain⟨e1,e2,e3⟩:=EI (n:=n) ((hyr hj).1 hyF) n1 n2 n3;have fv:∀z:Nat,atI [V.int (z:Int),V.int (n:Int)] (if decide ((z:Int)=(v:Int))=true then 1 else 0)=some (V.int ((if z=v then n else z:Nat):Int)):=λz=>by
          by_cases h:z=v
          .rw[KI (KJ (by lia)),KI h];exact ck (j:=1) rfl
          .rw[KH (by simp;lia),KH h];exact ck (j:=0) rfl
         refine⟨_,rfl,t,rfl,⟨_,SqT.of hb8⟩,λZ_ hZ=>qf (K:=[]) (a:=t) (xs:=nV [a,b,c]) (λi Z ys H'=>∃o,Z=[o,some (.int (n:Int)),some (.int (v:Int))]/\ys=nV (([a,b,c].take i).map λz=>if z=v then n else z)/\Same H9 H'/\H' Z_=some (.lst ys)) ⟨none,rfl,rfl,cu hZ,aO⟩ (by rintro i Z ys H' _ ⟨_,_,_,e,_⟩;exact SqT.of (e _ _ hb8)) ?_ ?_⟩
         .rintro i x Z ys H' hi ⟨o,rfl,rfl,sm',hZ'⟩;rw[nV,bp] at hi;obtain⟨z,hz,rfl⟩:=cT.mp hi;have hil:i<3:=(aJ.mp hz).1;refine⟨_,rfl,_,rfl,lit2,λl2 H'' hl2 s'' y''=>?_⟩;refine⟨_,rfl,_,rfl,rfl,.inr ⟨_,rfl,l2,_,_,V.int ((if z=v then n else z:Nat):Int),rfl,rfl,SqL.of y'',?_,s'' _ _ hZ',?_,λH3 k3 y3=>⟨_,rfl,?_,λb' o e=>(k3 b' (λq=>by rw[q] at e;rw[e] at hZ;cases hZ)).trans (s'' _ _ (sm' _ _ e)),y3⟩⟩⟩
          .rw[mx];exact fv z
          .rw[bq,aC,cE];simp;lia
          .rw[bV,hz,bf,<-eQ];rfl
         .rintro Z ys H' ⟨o,rfl,rfl,sm',hZ'⟩;refine⟨Z_,_,rfl,.inl ⟨SqL.of hZ',λt' ht'=>?_⟩⟩;exact z _ _ ⟨t',_,rfl,sm'.trans (cu ht'),by rw[aO,e1,e2,e3];rfl⟩
        .rw[KL hyF];exact aP (same ((hyr hj).2 hyF))
       .rw[KL (show ¬(j:Int)<3 by lia)];refine aP (aP (same ?_));rcases hj3 with ⟨_,h1,h2,h3⟩|⟨h,_⟩|⟨h,_⟩|⟨h,_⟩
        .exact⟨λz=>(h1 z).elim,λz=>(h2 z).elim,λz=>(h3 z).elim⟩
        all_goals lia
      .rintro Z H10 ⟨t',w6,rfl,sm10,ht'⟩;have hm10:=sm10 _ _ hmo8;refine⟨_,rfl,.inl ⟨rfl,_,SqL.of hm10⟩,_,rfl,mo,vm,_,rfl,rfl,hm10,by lia,λH11 k11 y11=>?_⟩;refine⟨_,_,_,rfl,λb' o e=>(k11 b' (ak e hmo)).trans ((sm8.trans sm10) _ _ e),y11,?_⟩;rw[et];have tn:∀{b':Addr} {xs:List V},H10 b'=some (.tup xs)->b'≠mo:=λe=>cK e hm10 (by simp);refine dz (Paired.imp' (λ_ _ ⟨b',e1,e2⟩=>⟨b',e1,(k11 b' (tn (sm10 _ _ e2))).trans (sm10 _ _ e2)⟩) hvm) (.cons ⟨t',rfl,(k11 t' (tn ht')).trans ht'⟩ .nil)
     .rintro Z H8 ⟨v5,v6,vm,rfl,sm8,hmo8,hvm⟩;rw[aN htc,c7] at hvm;exact⟨_,rfl,_,_,_,_,_,mo,vm,_,rfl,(sm5.trans s6).trans sm8,hmo8,hvm,by rw[aC];exact hlc,mdS⟩
    .rintro Z H5 ⟨v2,v3,v4,v5,v6,Tc,vc,tc,rfl,sm5,hTc,htc,hlc,md⟩;rw[aN hgs,HW] at md;exact⟨_,_,_,_,_,_,Tc,vc,tc,rfl,sm4.trans sm5,hTc,htc,hlc,md.good,DG md⟩
  .rintro Z H2 ⟨v1,v2,v3,v4,v5,v6,Tc,vc,tc,rfl,sm2,hTc,htc,hlc,gc,oc⟩;rw[bq,HW] at oc;exact⟨_,rfl,q Tc vc tc H2 (s1.trans sm2) hTc htc hlc gc λu hu=>(oc u hu).resolve_left (by simp)⟩
end
def But (p:Addr) (H H':Hp):Prop:=∀b o,b≠p->H b=some o->H' b=some o
theorem But.refl {p:Addr}:But p H H:=λ_ _ _ e=>e
theorem But.same {p:Addr} {H H' H'':Hp} (h:But p H H') (s:Same H' H''):But p H H'':=λb o n e=>s _ _ (h b o n e)
theorem uv {ts ts':List Tri} (g:Good ts) (h:(ents ts').Perm (ents ts)):Good ts':=by refine⟨λt ht=>?_,(h.map _).nodup_iff.mpr g.nd⟩;have k:=g.sk;obtain⟨a,b,c⟩:=t;have e:En ts a b c:=h.mem_iff.mp (dU.mpr (.inl ht));exact⟨k.ne e,k.ne (k.rot e),k.ne (k.rot (k.rot e))⟩
theorem lg20 {n:Nat} (h:n<=1000):((n:Int)+1).natAbs.log2<9000:=by
 have e:((n:Int)+1).natAbs=n+1:=by lia
 rw[e];have:=yc (n:=n+1) (k:=9000) (by lia);rw[this];exact b_ (show n+1<2 ^ 10 by lia) (yg (by decide) (by decide))
theorem nM {ts:List Tri} {x:Tri} (g:Good ts) (hne:x.1≠x.2.1/\x.2.1≠x.2.2/\x.2.2≠x.1) (hf:ip ts x=true):Good (ts++[x]):=by
 refine⟨λt ht=>?_,?_⟩
 .rcases bh.mp ht with h|h
  .exact g.ne t h
  .rw[aV.mp h];exact hne
 .rw[fc,bf,dq];obtain⟨a,b,c⟩:=x;obtain⟨n1,n2,n3⟩:a≠b/\b≠c/\c≠a:=hne;have hf':∀s∈dN (a,b,c),s∉(ents ts).map (·.1):=by
   intro s hs;unfold ip at hf;exact KM (jV.mp hf s hs)
  have ek:(ents [(a,b,c)]).map (·.1)=[(a,b),(b,c),(c,a)]:=rfl;rw[ek];refine⟨g.nd,?_,λs hs s' hs' z=>hf' s' hs' (z ▸ hs)⟩;simp[n1,n2,n3,av n1,av n2,av n3]
end K15
end
section
namespace K15
def nam (f:Nat->Nat) (t:Tri):Tri:=(f t.1,f t.2.1,f t.2.2)
def naE (f:Nat->Nat) (e:Ent):Ent:=((f e.1.1,f e.1.2),f e.2)
theorem qe {f:Nat->Nat} {ts:List Tri}:ents (ts.map (nam f))=(ents ts).map (naE f):=by
 induction ts with
 |nil=>rfl
 |cons t ts ih=>
  have h1:ents ((t::ts).map (nam f))=ents [nam f t]++ents (ts.map (nam f)):=by simp[ents]
  have h2:ents (t::ts)=ents [t]++ents ts:=by simp[ents]
  rw[h1,h2,bf,ih];rfl
theorem vd {f:Nat->Nat} {ts:List Tri} (g:Good ts) (inj:∀a b,Co ts a->Co ts b->f a=f b->a=b):Good (ts.map (nam f)):=by
 have k:=g.sk;refine⟨λt ht=>?_,?_⟩
 .obtain⟨⟨a,b,c⟩,h,rfl⟩:=aD.mp ht;have ca:Co ts a:=cG.mpr ⟨_,h,.inl rfl⟩;have cb:Co ts b:=cG.mpr ⟨_,h,.inr (.inl rfl)⟩;have cc:Co ts c:=cG.mpr ⟨_,h,.inr (.inr rfl)⟩;obtain⟨n1,n2,n3⟩:a≠b/\b≠c/\c≠a:=g.ne _ h;exact⟨λz=>n1 (inj _ _ ca cb z),λz=>n2 (inj _ _ cb cc z),λz=>n3 (inj _ _ cc ca z)⟩
 .rw[qe,cq];have nd:=g.nd;rw[List.Nodup,j3] at nd |-;refine nd.imp_of_mem λ{x y} hx hy h z=>h ?_;obtain⟨⟨a,b⟩,c⟩:=x;obtain⟨⟨a',b'⟩,c'⟩:=y;have z:=jf z;have e:En ts a b c:=hx;have e':En ts a' b' c':=hy;have z1:f a=f a':=z.1;have z2:f b=f b':=z.2;show (a,b)=(a',b');rw[inj a a' ⟨b,c,e⟩ ⟨b',c',e'⟩ z1,inj b b' ⟨c,a,k.rot e⟩ ⟨c',a',k.rot e'⟩ z2]
theorem w9 {f:Nat->Nat} {ts:List Tri} {u:Nat} (h:Co (ts.map (nam f)) u):∃a,Co ts a/\u=f a:=by
 obtain⟨t,ht,hu⟩:=cG.mp h;obtain⟨⟨a,b,c⟩,hm,rfl⟩:=aD.mp ht;rcases hu with rfl|rfl|rfl
 .exact⟨a,cG.mpr ⟨_,hm,.inl rfl⟩,rfl⟩
 .exact⟨b,cG.mpr ⟨_,hm,.inr (.inl rfl)⟩,rfl⟩
 .exact⟨c,cG.mpr ⟨_,hm,.inr (.inr rfl)⟩,rfl⟩
def Win (w j x:Nat):Prop:=w=0/\x=j\/w=1/\7*j<=x/\x<7*j+7\/w=2/\x+(j+1)*10 ^ 9+1<=10 ^ 60/\10 ^ 60<x+(j+2)*10 ^ 9+1
theorem CH {w i j x:Nat} (h:Win w i x) (h':Win w j x):i=j:=by
 rcases h with ⟨rfl,h⟩|⟨rfl,h1,h2⟩|⟨rfl,h1,h2⟩
 .rcases h' with ⟨_,h'⟩|⟨z,_⟩|⟨z,_⟩
  .lia
  .cases z
  .cases z
 .rcases h' with ⟨z,_⟩|⟨_,h3,h4⟩|⟨z,_⟩
  .cases z
  .lia
  .cases z
 .rcases h' with ⟨z,_⟩|⟨z,_⟩|⟨_,h3,h4⟩
  .cases z
  .cases z
  .lia
theorem D6 {w j x:Nat} (hj:j<=1000) (h:Win w j x):x<10 ^ 60:=by
 rcases h with ⟨_,h⟩|⟨_,_,h⟩|⟨_,h,_⟩
 .lia
 .lia
 .lia
end K15
end
section
namespace K15
open PySem L2 K51 K31
theorem tm {l:List Nat} (nd:l.Nodup) {i a:Nat} (h:l[i]?=some a):a∉l.eraseIdx i/\(l.eraseIdx i).Nodup/\(∀x∈l.eraseIdx i,x∈l)/\(l.eraseIdx i).length=l.length-1:=by
 have hi:=(aJ.mp h).1;refine⟨λz=>?_,nd.sublist (i8 l i),λx hx=>(i8 l i).subset hx,rQ hi⟩;obtain⟨j,hj⟩:=fu z;rw[List.getElem?_eraseIdx] at hj
 split at hj
 .have:=nK nd h hj;lia
 .have:=nK nd h hj;lia
theorem pops3 {n s0 s1 s2:Nat} (h0:s0<n) (h1:s1<n-1) (h2:s2<n-2):∃a b c,(List.range n)[s0]?=some a/\((List.range n).eraseIdx s0)[s1]?=some b/\(((List.range n).eraseIdx s0).eraseIdx s1)[s2]?=some c/\a≠b/\b≠c/\c≠a:=by
 have g0:s0<(List.range n).length:=by rw[mY];exact h0
 obtain⟨a1,a2,a3,a4⟩:=tm (Ii (n:=n)) (bZ g0);rw[mY] at a4;have g1:s1<((List.range n).eraseIdx s0).length:=by lia
 obtain⟨b1,b2,b3,b4⟩:=tm a2 (bZ g1);have g2:s2<(((List.range n).eraseIdx s0).eraseIdx s1).length:=by lia
 refine⟨_,_,_,bZ g0,bZ g1,bZ g2,λz=>a1 ?_,λz=>b1 ?_,λz=>a1 ?_⟩
 .rw[z];exact pj g1
 .rw[z];exact pj g2
 .rw[<-z];exact b3 _ (pj g2)
theorem Cm (l:List Nat) (k:Nat):(nV l).eraseIdx k=nV (l.eraseIdx k):=by
 induction l generalizing k with
 |nil=>rfl
 |cons a l ih=>
  cases k with
  |zero=>rfl
  |succ k=>
   show _::(nV l).eraseIdx k=_;rw[ih];rfl
theorem qp {n k:Nat} (h:k<n):seqIndex? (k:Int) n=some k:=by refine (qz ?_).1;unfold ixN;rw[KI (by lia),KI (by lia)];simp
theorem DX {n:Nat} (h:3<=n):(n:Int)*((n:Int)-1)*((n:Int)-2)=((n*(n-1)*(n-2):Nat):Int):=by
 have e1:(n:Int)-1=((n-1:Nat):Int):=by lia
 have e2:(n:Int)-2=((n-2:Nat):Int):=by lia
 rw[e1,e2,HG,HG]
theorem CF {n:Nat} (h:3<=n):0<n*(n-1)*(n-2):=Ip (Ip (by lia) (by lia)) (by lia)
theorem DW {n:Nat} (h:n<=9):n*(n-1)*(n-2)<=504:=ye (ye h (show n-1<=8 by lia)) (show n-2<=7 by lia)
theorem uG {n m:Nat} (h:3<=n) (hm:m<n*(n-1)*(n-2)):m/n/(n-1)<n-2:=by rw[Nat.div_div_eq_div_mul];exact Nat.div_lt_of_lt_mul hm
def Bu (vs:List V) (H:Hp) (Q:VK) (p:Addr) (q:Int×Int) (m:Nat):Prop:=vs=[.ref p,.int (m:Int)]/\H p=some (.lst (bo q))/\bu q/\m<=16/\
 ∀r vr ts q' H',H r=none->But p H H'->H' p=some (.lst (bo q'))->bu q'->H' r=some (.lst vr)->aG H' vr ts->ts.length<=m->Good ts->Q (.ref r) H'
def qo:Sp:=λvs H Q _=>Exists (Ex3 (Bu vs H Q))
section
theorem iJ:bc ["_law_pot_here","_law_most","_law_n","_law_triples","_law_k","_law_number","_law_left","_law_triple"] ["_law_pot_here","_law_most"] (aE lM):=by walk_at"sc"
theorem B0 {f f1 f2 f3:Addr} {fd d1 d2 d3:FuncData} (U:Fun K "_law_drawn" "_law_drawn" lM f fd) (T:cH mg)
  (GD:ag P w K mg base CX0 2 f1 d1 ["_law_pot_here","_law_base"] fJ) (bD:Binds K d1 ["_law_pot_here","_law_base"] []) (mD:mg "_law_digit" = some (.ref f1)) (kD:W.keepIn K (.ref f1)=true)
  (GT:ag P w K mg base CX0 2 f2 d2 ["_law_triples"] kx) (bT:Binds K d2 ["_law_triples"] []) (mT:mg "_law_thirds" = some (.ref f2)) (kT:W.keepIn K (.ref f2)=true)
  (GF:ag P w K mg base CX0 2 f3 d3 ["_law_thirds_here","_law_triple"] qH) (bF:Binds K d3 ["_law_thirds_here","_law_triple"] []) (mF:mg "_law_free" = some (.ref f3)) (kF:W.keepIn K (.ref f3)=true) :
  ag P w K mg base CX0 3 f fd ["_law_pot_here","_law_most"] qo:=by
 refine U.ok iJ (λvs H Q E h=>?_) (λcdv A outer s H vs Q E hr h=>?_)
 .obtain⟨p,q,m,rfl,_⟩:=h;rfl
 .obtain⟨p,q,m,rfl,hp,pok,hm,Qq⟩:=h;have hu:=dA hr;refine⟨_,(ah (az (i:=2) iJ.nd rfl (.inl rfl) (aA cy ai (aw GD hr rfl mD kD bD .nil pass0 (aa (pv 0) (aa ai ae)))))
   (ah (az (i:=3) iJ.nd rfl (.inl rfl) (bY ae))
   (ah (cD cI rfl (jo rfl T.range (aa (aw GD hr rfl mD kD bD .nil pass0 (aa (pv 0) (aa (aA cy (pv 1) ai) ae))) ae)) (ay (i:=4) iJ.nd rfl (.inl rfl)) (ah (az (i:=5) iJ.nd rfl (.inl rfl) (aw GD hr rfl mD kD bD .nil pass0 (aa (pv 0) (aa (aA fM (aA fM (pv 2) (aA ib (pv 2) ai)) (aA ib (pv 2) ai)) ae))))
   (ah (az (i:=6) iJ.nd rfl (.inr rfl) (er (zl rfl) (by rfl) T.list yj (aa (er zc (by rfl) T.range JO (aa (pv 2) ae)) ae)))
   (ah (az (i:=7) iJ.nd rfl (.inl rfl) (er kg (by rfl) T.tuple j6 (aa (dO (N:=["_law_spot","_law_left"]) (fr:=[none,some 6]) (te:=tBM [] "list" wJ (cz 1) (dX (cz 0) fR)) (dS (by decide +kernel) rfl rfl (by decide +kernel) (by decide +kernel) (by walk_at"cs") (by walk_at"ct")) rfl (cC (bY (aa (aA eP (pv 5) (pv 2)) (aa (aA eP (aA jw (pv 5) (pv 2)) (aA ib (pv 2) ai)) (aa (aA jw (aA jw (pv 5) (pv 2)) (aA ib (pv 2) ai)) ae)))))
     (λC' s' H' fp pins=>⟨ay (i:=0) (show (["_law_spot","_law_left"]:List Str).Nodup by decide +kernel) rfl (.inl rfl) (.inr rfl),eO,df dG yp yq qb (pv 1) (aa (pv 0) ae)⟩)) ae)))
   (ao (br (cQ (aw GF hr rfl mF kF bF .nil pass0 (aa (aw GT hr rfl mT kT bT .nil pass0 (aa (pv 3) ae)) (aa (pv 7) ae)))) (ao (cU (df dG iA iB fE (pv 3) (aa (pv 7) ae)))) bK))))))
   (ao (aX (pv 3)))))),?_⟩
  have hline:=line5000;obtain⟨d1,d2⟩:=cA (q:=q) (b:=7) (by decide);refine⟨_,rfl,p,q,7,rfl,hp,pok,by decide,by decide +kernel,λH1 k1 y1=>⟨_,_,rfl,rfl,?_⟩⟩;obtain⟨n,en,hn3,hn9⟩:∃n:Nat,3+digO q 7=(n:Int)/\3<=n/\n<=9:=⟨(3+digO q 7).toNat,by lia,by lia,by lia⟩;show dg 2 (V.int (3+digO q 7)) _ _ _;rw[en];refine⟨aU _,λfo H2 hfo s2 y2=>?_⟩;have nfp:p≠fo:=ak y1 hfo;have hfo0:H fo=none:=(k1 fo (av nfp)).symm.trans hfo;obtain⟨d3,d4⟩:=cA (q:=nxt q 7) (b:=(m:Int)+1) (by lia);refine⟨_,rfl,_,rfl,_,_,rfl,rfl,p,nxt q 7,_,rfl,s2 _ _ y1,a9 pok,by lia,lg20 (by lia),λH3 k3 y3=>⟨_,rfl,by lia,by lia,?_⟩⟩;have hN:(digO (nxt q 7) ((m:Int)+1)).toNat<=m:=by lia
  generalize (digO (nxt q 7) ((m:Int)+1)).toNat=N at hN;refine kr (lo:=0) (n:=N) (λi Z H'=>∃o4 o5 o6 o7 vf tf q',Z=[some (V.ref p),some (.int (m:Int)),some (.int (n:Int)),some (.ref fo),o4,o5,o6,o7]/\But p H H'/\H' p=some (.lst (bo q'))/\bu q'/\H' fo=some (.lst vf)/\aG H' vf tf/\tf.length<=i/\Good tf)
   ⟨none,none,none,none,[],[],_,rfl,λb' o nb e=>(k3 b' nb).trans (s2 _ _ ((k1 b' nb).trans e)),y3,a9 (a9 pok),(k3 fo (av nfp)).trans y2,.nil,ar _,⟨by simp,by simp[ents]⟩⟩ ?_ ?_
  .rintro i Z H4 hi ⟨o4,o5,o6,o7,vf,tf,q4,rfl,sm,hp4,pok4,hfo4,hvf,htl,gf⟩;have hB:=DX hn3;have hB0:=CF hn3;have hB1:=DW hn9;refine⟨_,rfl,_,rfl,_,rfl,_,_,rfl,rfl,_,_,rfl,rfl,.inl ⟨by lia,by lia⟩,_,rfl,_,_,rfl,rfl,_,_,rfl,rfl,.inr ⟨by lia,by lia⟩,p,q4,_,rfl,hp4,pok4,by rw[hB];lia,iF (by rw[hB];lia) (by rw[hB];exact rK (show ((n*(n-1)*(n-2):Nat):Int)<=504 by lia) (by decide)),λH5 k5 y5=>?_⟩;obtain⟨d5,d6⟩:=cA (q:=q4) (b:=(n:Int)*((n:Int)-1)*((n:Int)-2)) (by rw[hB];lia);obtain⟨num,enum⟩:∃num:Nat,digO q4 ((n:Int)*((n:Int)-1)*((n:Int)-2))=(num:Int):=⟨_,(dM d5).symm⟩;rw[enum] at d6 |-;rw[hB] at d6;have hnum:num<n*(n-1)*(n-2):=by lia
   clear d6 d5;refine⟨_,rfl,_,rfl,λra hra=>?_⟩;walk_at"H5 ra hra H6 s6 y6";refine⟨ra,n,rfl,y6,by lia,λLf hLf=>?_⟩;walk_at"H6 Lf hLf H7 s7 y7";have y7:H7 Lf=some (.lst (nV (List.range n))):=y7;have lgn:(n:Int).natAbs.log2<9000:=iF (by lia) (rK (show (n:Int)<=9 by lia) (by decide));have lgn1:((n:Int)-1).natAbs.log2<9000:=iF (by lia) (rK (show (n:Int)-1<=9 by lia) (by decide));refine⟨_,rfl,_,rfl,_,_,rfl,rfl,by lia,_,rfl,_,rfl,_,_,rfl,rfl,⟨by lia,lgn⟩,_,rfl,_,_,rfl,rfl,_,_,rfl,rfl,by lia,_,rfl,_,rfl,_,_,rfl,rfl,⟨by lia,lgn⟩,_,rfl,_,_,rfl,rfl,_,_,rfl,rfl,⟨by lia,lgn1⟩,lit3,λdl H8 hdl s8 y8=>?_⟩;have ed:([V.int ((num:Int)%(n:Int)),V.int ((num:Int)/(n:Int)%((n:Int)-1)),V.int ((num:Int)/(n:Int)/((n:Int)-1))]:List V)=nV [num%n,num/n%(n-1),num/n/(n-1)]:=by
    have e1:(n:Int)-1=((n-1:Nat):Int):=by lia
    rw[e1];rfl
   rw[ed] at y8;obtain⟨a,b,c,ha,hb,hc,n1,n2,n3⟩:=pops3 (n:=n) (s0:=num%n) (s1:=num/n%(n-1)) (s2:=num/n/(n-1)) (pB _ (by lia)) (pB _ (by lia)) (uG hn3 hnum);have yL:=s8 _ _ y7;have nLd:dl≠Lf:=av (ak y7 hdl);refine⟨dl,rfl,⟨_,SqL.of y8⟩,λZ_ hZ=>?_⟩;have nLZ:Lf≠Z_:=ak yL hZ;have nz1:num%n<100:=b_ (pB _ (by lia)) (by lia);have nz2:num/n%(n-1)<100:=b_ (pB _ (by lia)) (by lia);have nz3:num/n/(n-1)<100:=b_ (uG hn3 hnum) (by lia);have sm6:But p H H6:=λb' o nb e=>s6 _ _ ((k5 b' nb).trans (sm _ _ nb e));have hfo6:H6 fo=some (.lst vf):=s6 _ _ ((k5 fo (av nfp)).trans hfo4);have hp6:=s6 _ _ y5;have hvf6:aG H6 vf tf:=Paired.imp' (λ_ _ ⟨b',e1,e2⟩=>⟨b',e1,s6 _ _ ((k5 b' (cK e2 hp4 (by simp))).trans e2)⟩) hvf;generalize num%n=s0 at *;generalize num/n%(n-1)=s1 at *;generalize num/n/(n-1)=s2' at *;refine eF (K:=[]) (a:=dl) (xs:=nV [s0,s1,s2']) (λi Z ys H'=>∃o l,Z=[o,some (V.ref Lf)]/\(i=0/\l=List.range n/\ys=[]\/i=1/\l=(List.range n).eraseIdx s0/\ys=nV [a]\/i=2/\l=((List.range n).eraseIdx s0).eraseIdx s1/\ys=nV [a,b]\/i=3/\ys=nV [a,b,c])/\But Lf H8 H'/\H' Lf=some (.lst (nV l))/\H' Z_=some (.lst ys))
    ⟨none,_,rfl,.inl ⟨rfl,rfl,rfl⟩,But.refl.same (cu hZ),cu hZ _ _ yL,aO⟩ (by rintro i Z ys H' _ ⟨_,_,_,_,e,_⟩;exact SqL.of (e _ _ nLd y8)) ?_ ?_
   .rintro i x Z ys H' hi ⟨o,l,rfl,hc3,bt,hL',hZ'⟩;rw[nV,bp] at hi;obtain⟨s,hs,rfl⟩:=cT.mp hi;obtain⟨y,hy,hs100,hyl,hnext⟩:∃y:Nat,l[s]?=some y/\s<100/\ys.length<=3/\(i+1=0/\l.eraseIdx s=List.range n/\ys++[V.int (y:Int)]=[]\/i+1=1/\l.eraseIdx s=(List.range n).eraseIdx s0/\ys++[V.int (y:Int)]=nV [a]\/i+1=2/\l.eraseIdx s=((List.range n).eraseIdx s0).eraseIdx s1/\ys++[V.int (y:Int)]=nV [a,b]\/i+1=3/\ys++[V.int (y:Int)]=nV [a,b,c]):=by
     rcases hc3 with ⟨rfl,rfl,rfl⟩|⟨rfl,rfl,rfl⟩|⟨rfl,rfl,rfl⟩|⟨rfl,rfl⟩
     .cases hs;exact⟨a,ha,nz1,by simp,.inr (.inl ⟨rfl,rfl,rfl⟩)⟩
     .cases hs;exact⟨b,hb,nz2,by simp[nV],.inr (.inr (.inl ⟨rfl,rfl,rfl⟩))⟩
     .cases hs;exact⟨c,hc,nz3,by simp[nV],.inr (.inr (.inr ⟨rfl,rfl⟩))⟩
     .cases hs
    have hsl:=(aJ.mp hy).1;refine⟨_,rfl,.inl ⟨rfl,_,SqL.of hL'⟩,_,rfl,Lf,nV l,(s:Int),s,V.int (y:Int),rfl,rfl,hL',by lia,by lia,qp (by rw[bq];exact hsl),by rw[nV,bp,hy];rfl,λH'' k'' y''=>?_⟩;exact⟨(k'' Z_ (av nLZ)).trans hZ',by lia,λH3 k3 y3=>⟨_,_,rfl,hnext,λb' o nb e=>(k3 b' (ak e hZ)).trans ((k'' b' nb).trans (bt _ _ nb e)),(k3 Lf nLZ).trans (by rw[y'',Cm]),y3⟩⟩
   .rintro Z ys H' ⟨o,l,rfl,hc3,bt,hL',hZ'⟩;obtain rfl:ys=nV [a,b,c]:=by
     have e3:(nV [s0,s1,s2']).length=3:=rfl;rw[e3] at hc3;rcases hc3 with ⟨h,_⟩|⟨h,_⟩|⟨h,_⟩|⟨_,h⟩
     .cases h
     .cases h
     .cases h
     .exact h
    refine⟨Z_,_,rfl,.inl ⟨SqL.of hZ',λt ht=>?_⟩⟩;walk_at"H' t ht H9 s9 y9";have st9:Same H6 H9:=λb' o e=>s9 _ _ (bt _ _ (ak e hLf) (s8 _ _ (s7 _ _ e)));refine⟨_,rfl,fo,vf,tf,rfl,st9 _ _ hfo6,hvf6.same st9,by lia,gf.nd,λD H10 hD0 s10 hD=>?_⟩;refine⟨_,rfl,D,t,tf,(a,b,c),rfl,hD,s10 _ _ y9,λH11 s11=>?_⟩;have st:=(st9.trans s10).trans s11;have y11:=s11 _ _ (s10 _ _ y9);refine⟨_,rfl,?_⟩;cases hfr:ip tf (a,b,c) with
    |false=>
     exact aP ⟨_,_,_,_,vf,tf,_,rfl,λb' o nb e=>st _ _ (sm6 _ _ nb e),st _ _ hp6,a9 pok4,st _ _ hfo6,hvf6.same st,by lia,gf⟩
    |true=>
     have hfo11:=st _ _ hfo6;refine a6 ⟨_,rfl,.inl ⟨rfl,_,SqL.of hfo11⟩,_,rfl,fo,vf,_,rfl,rfl,hfo11,by rw[aN hvf];lia,λH12 k12 y12=>?_⟩;have tn:∀{b':Addr} {xs:List V},H11 b'=some (.tup xs)->b'≠fo:=λe=>cK e hfo11 (by simp);refine⟨_,_,_,_,_,tf++[(a,b,c)],_,rfl,λb' o nb e=>(k12 b' (ak e hfo0)).trans (st _ _ (sm6 _ _ nb e)),(k12 p nfp).trans (st _ _ hp6),a9 pok4,y12,?_,by rw[aZ,cM];lia,nM gf ⟨n1,n2,n3⟩ hfr⟩;exact dz (Paired.imp' (λ_ _ ⟨b',e1,e2⟩=>⟨b',e1,(k12 b' (tn (st _ _ e2))).trans (st _ _ e2)⟩) hvf6) (.cons ⟨t,rfl,(k12 t (tn y11)).trans y11⟩ .nil)
  .rintro Z H4 ⟨o4,o5,o6,o7,vf,tf,q4,rfl,sm,hp4,pok4,hfo4,hvf,htl,gf⟩;exact⟨_,rfl,Qq fo vf tf q4 H4 hfo0 sm hp4 pok4 hfo4 hvf (by lia) gf⟩
end
end K15
end
section
namespace K15
theorem wZ {f:Nat->Nat} {ts:List Tri} (g:Good ts) (inj:∀a b,Co ts a->Co ts b->f a=f b->a=b) {a b c:Nat} (h:En (ts.map (nam f)) a b c):∃a' b' c',En ts a' b' c'/\a=f a'/\b=f b'/\c=f c':=by unfold En at h;rw[qe] at h;obtain⟨⟨⟨a',b'⟩,c'⟩,h1,h2⟩:=aD.mp h;have h2:=jf h2;have h3:=jf h2.1;exact⟨a',b',c',h1,h3.1.symm,h3.2.symm,h2.2.symm⟩
theorem wN {f:Nat->Nat} {ts:List Tri} {a b c:Nat} (h:En ts a b c):En (ts.map (nam f)) (f a) (f b) (f c):=by unfold En;rw[qe];exact aD.mpr ⟨_,h,rfl⟩
theorem Du {f:Nat->Nat} {ts:List Tri} (g:Good ts) (inj:∀a b,Co ts a->Co ts b->f a=f b->a=b) {v:Nat} (hv:Co ts v) (h:One (En ts) v):One (En (ts.map (nam f))) (f v):=by
 obtain⟨F,hF,hall⟩:=h;have k:=g.sk;have key:∀p∈F,Co ts p:=λp hp=>by
  obtain⟨q,hq⟩:=hF.key p hp;exact⟨q,v,k.rot hq⟩
 have nx:∀{x y z:Nat},En ts x y z->Co ts y:=λ{x y z} e=>⟨z,x,k.rot e⟩;have nx2:∀{x y z:Nat},En ts x y z->Co ts z:=λ{x y z} e=>⟨x,y,k.rot (k.rot e)⟩;have back:∀{p q:Nat},En (ts.map (nam f)) (f v) p q->∃p' q',En ts v p' q'/\p=f p'/\q=f q':=λ{p q} e=>by
  obtain⟨a',b',c',h1,h2,h3,h4⟩:=wZ g inj e;have:v=a':=inj v a' hv ⟨b',c',h1⟩ h2;subst this;exact⟨b',c',h1,h3,h4⟩
 refine⟨F.map f,⟨λz=>hF.ne (xS.mp z),?_,λi p q hp hq=>?_,λp hp=>?_,λp hp q hq hr=>?_,λp hp o ho=>?_⟩,λp ⟨q,hq⟩=>?_⟩
 .have:=hF.nd;rw[List.Nodup] at this |-;rw[j3];exact this.imp_of_mem λ{x y} hx hy hn z=>hn (inj x y (key x hx) (key y hy) z)
 .rw[bp] at hp hq;obtain⟨p',h1,rfl⟩:=cT.mp hp;obtain⟨q',h2,rfl⟩:=cT.mp hq;exact wN (hF.ch i p' q' h1 h2)
 .obtain⟨p',h1,rfl⟩:=aD.mp hp;obtain⟨q,hq⟩:=hF.key p' h1;exact⟨f q,wN hq⟩
 .obtain⟨p',h1,rfl⟩:=aD.mp hp;obtain⟨p2,q2,e,h2,rfl⟩:=back hq;have:p'=p2:=inj p' p2 (key p' h1) (nx e) h2;subst this;obtain⟨r,hr⟩:=hr;obtain⟨q3,r3,e3,h3,_⟩:=back hr;have:q2=q3:=inj q2 q3 (nx2 e) (nx e3) h3;subst this;exact aD.mpr ⟨q2,hF.clF p' h1 q2 e ⟨r3,e3⟩,rfl⟩
 .obtain⟨p',h1,rfl⟩:=aD.mp hp;obtain⟨o2,p2,e,rfl,h2⟩:=back ho;have:p'=p2:=inj p' p2 (key p' h1) (nx2 e) h2;subst this;exact aD.mpr ⟨o2,hF.clB p' h1 o2 e,rfl⟩
 .obtain⟨p2,q2,e,rfl,rfl⟩:=back hq;exact aD.mpr ⟨p2,hall p2 ⟨q2,e⟩,rfl⟩
theorem pX (a:Tri) (l:List Tri):ents (a::l)=ents [a]++ents l:=by simp[ents]
theorem Cq {ts ts':List Tri} (h:ts'.Sublist ts):(ents ts').Sublist (ents ts):=by
 induction h with
 |slnil=>exact HP _
 |cons a _ ih=>rw[pX a];exact ih.trans (List.sublist_append_right _ _)
 |cons_cons a _ ih=>rw[pX a,pX a];exact JL (HP _) ih
theorem qc {ts ts':List Tri} (g:Good ts) (h:ts'.Sublist ts):Good ts':=by refine⟨λt ht=>g.ne t (h.subset ht),g.nd.sublist (HN _ ?_)⟩;exact Cq h
theorem Cf {as bs:List Tri} (g:Good as) (g':Good bs) (h:∀a,Co as a->¬Co bs a):Good (as++bs):=by
 have e:ents (as++bs)=ents as++ents bs:=by simp[ents]
 refine⟨λt ht=>(bh.mp ht).elim (g.ne t) (g'.ne t),?_⟩;rw[e,bf,dq];refine⟨g.nd,g'.nd,λs hs s' hs' z=>?_⟩;obtain⟨⟨⟨a,b⟩,c⟩,h1,h2⟩:=aD.mp hs;obtain⟨⟨⟨a',b'⟩,c'⟩,h1',h2'⟩:=aD.mp hs';have h2:(a,b)=s:=h2;have h2':(a',b')=s':=h2';have:(a,b)=(a',b'):=by rw[h2,h2',z]
 cases this;exact h a ⟨b,c,h1⟩ ⟨b,c',h1'⟩
theorem A0 {l:List Tri} {a b c n:Nat} (g:Good (l++[(a,b,c)])) (hn:¬Co (l++[(a,b,c)]) n):Good (l++[(a,b,n),(b,c,n),(c,a,n)]):=by
 have e:∀m,ents (l++m)=ents l++ents m:=λm=>by simp[ents]
 have gl:Good l:=qc g (by simp);have nd:=g.nd;rw[e,bf,dq] at nd;obtain⟨n1,n2,n3⟩:a≠b/\b≠c/\c≠a:=g.ne (a,b,c) (by simp);have co:∀x,x=a\/x=b\/x=c->Co (l++[(a,b,c)]) x:=λx hx=>cG.mpr ⟨(a,b,c),by simp,hx⟩;have na:n≠a:=λz=>hn (co n (.inl z));have nb:n≠b:=λz=>hn (co n (.inr (.inl z)));have nc:n≠c:=λz=>hn (co n (.inr (.inr z)));have nl:∀s∈(ents l).map (·.1),s.1≠n/\s.2≠n:=λs hs=>by
  obtain⟨⟨⟨x,y⟩,z⟩,h1,rfl⟩:=aD.mp hs;have h1:En l x y z:=h1;have cx:∀u,Co l u->Co (l++[(a,b,c)]) u:=λu ⟨p,q,hu⟩=>⟨p,q,by unfold En at *;rw[e];exact dQ _ hu⟩;exact⟨λw=>hn (w ▸ cx x ⟨y,z,h1⟩),λw=>hn (w ▸ cx y ⟨z,x,gl.sk.rot h1⟩)⟩
 have dj:∀s∈(ents l).map (·.1),s≠(a,b)/\s≠(b,c)/\s≠(c,a):=λs hs=>by
  have h:=nd.2.2 s hs;exact⟨h (a,b) (by simp[ents]),h (b,c) (by simp[ents]),h (c,a) (by simp[ents])⟩
 refine⟨λt ht=>?_,?_⟩
 .rcases bh.mp ht with h|h
  .exact gl.ne t h
  .simp only[aT,mZ,or_false] at h;rcases h with rfl|rfl|rfl
   .exact⟨n1,av nb,na⟩
   .exact⟨n2,av nc,nb⟩
   .exact⟨n3,av na,nc⟩
 .rw[e,bf,dq];refine⟨gl.nd,?_,λs hs s' hs' z=>?_⟩
  .simp[ents,n1,n2,n3,na,nb,nc,av n1,av n2,av n3,av na,av nb,av nc]
  .subst z;obtain⟨m1,m2⟩:=nl s hs;obtain⟨d1,d2,d3⟩:=dj s hs;simp[ents] at hs';rcases hs' with rfl|rfl|rfl|rfl|rfl|rfl|rfl|rfl|rfl
   all_goals first|exact d1 rfl|exact d2 rfl|exact d3 rfl|exact m1 rfl|exact m2 rfl
end K15
end
section
namespace K15
open PySem L2 K51 K31
theorem Fk (cl:List Nat) (d v:Nat):(nV cl).take d++V.int (v:Int)::(nV cl).drop d=nV (cl.take d++v::cl.drop d):=by unfold nV;rw[bf,a8,rT,List.map_drop]
def nmV (x:Nat×Nat):Key×V:=(Sum.inl (x.1:Int),V.int (x.2:Int))
theorem wt {nm:List (Nat×Nat)} {c:Nat} (h:c∉nm.map (·.1)):bj (nm.map nmV) (Sum.inl (c:Int):Key)=none:=by
 induction nm with
 |nil=>simp[bj]
 |cons x nm ih=>
  rw[a8,aT,not_or] at h;rw[a8,fH (λz=>h.1 ?_)]
  .exact ih h.2
  .have:(x.1:Int)=(c:Int):=nq z;lia
theorem qL {nm:List (Nat×Nat)} {c x:Nat} (h:c∉nm.map (·.1)):cY (nm.map nmV) (Sum.inl (c:Int):Key) (V.int (x:Int))=(nm++[(c,x)]).map nmV:=by rw[nQ _ (wt h),bf];rfl
def nmF (nm:List (Nat×Nat)) (c:Nat):Nat:=(nm.lookup c).getD 0
theorem lR {nm:List (Nat×Nat)} {c:Nat} (h:c∈nm.map (·.1)):∃k x:Nat,nm[k]?=some (c,x)/\bj (nm.map nmV) (Sum.inl (c:Int):Key)=some (V.int (x:Int))/\nmF nm c=x:=by
 induction nm with
 |nil=>cases h
 |cons y nm ih=>
  obtain⟨c',x⟩:=y;by_cases e:c'=c
  .subst e;exact⟨0,x,rfl,gU (p:=nmV (c',x)) (r:=nm.map nmV) rfl,by simp[nmF]⟩
  .rw[a8] at h;obtain⟨k,x',h1,h2,h3⟩:=ih ((aT.mp h).resolve_left λz=>e z.symm);refine⟨k+1,x',h1,?_,?_⟩
   .rw[a8,fH (λz=>e ?_)]
    .exact h2
    .have:(c':Int)=(c:Int):=nq z;lia
   .have:(c==c')=false:=by simpa using λz:c=c'=>e z.symm
    unfold nmF at h3 |-;rw[iz,this];exact h3
def Bq (vs:List V) (H:Hp) (Q:VK) (p T:Addr) (q:Int×Int) (vt:List V) (ts:List Tri):Prop:=vs=[.ref p,.ref T]/\H p=some (.lst (bo q))/\bu q/\H T=some (.lst vt)/\T≠p/\aG H vt ts/\ts.length<=200/\Good ts/\
 ∀r vr ts' q' H',H r=none->But p H H'->H' p=some (.lst (bo q'))->bu q'->H' r=some (.lst vr)->aG H' vr ts'->ts'.length=ts.length->Good ts'->(∀u,Co ts' u->u<10 ^ 60)->((∀c,Co ts c->One (En ts) c)->∀c,Co ts' c->One (En ts') c)->Q (.ref r) H'
def vG:Sp:=λvs H Q _=>Exists (Ex5 (Bq vs H Q))
section
theorem gX:bc ["_law_pot_here","_law_triples","_law_way","_law_corners_here","_law_corner","_law_names","_law_i","_law_far"] ["_law_pot_here","_law_triples"] (aE lG):=by walk_at"sc"
theorem BV {f f1 f2:Addr} {fd d1 d2:FuncData} (U:Fun K "_law_named" "_law_named" lG f fd) (T:cH mg)
  (GD:ag P w K mg base CX0 1 f1 d1 ["_law_pot_here","_law_base"] fJ) (bD:Binds K d1 ["_law_pot_here","_law_base"] []) (mD:mg "_law_digit" = some (.ref f1)) (kD:W.keepIn K (.ref f1)=true)
  (GC:ag P w K mg base CX0 1 f2 d2 ["_law_triples"] gP) (bC:Binds K d2 ["_law_triples"] []) (mC:mg "_law_corners" = some (.ref f2)) (kC:W.keepIn K (.ref f2)=true) :
  ag P w K mg base CX0 2 f fd ["_law_pot_here","_law_triples"] vG:=by
 refine U.ok gX (λvs H Q E h=>?_) (λcdv A outer s H vs Q E hr h=>?_)
 .obtain⟨p,T,q,vt,ts,rfl,_⟩:=h;rfl
 .obtain⟨p,T0,q,vt,ts,rfl,hp,pok,hT,nTp,ht,hl,g,Qq⟩:=h;have hu:=dA hr;refine⟨_,(ah (az (i:=2) gX.nd rfl (.inl rfl) (aw GD hr rfl mD kD bD .nil pass0 (aa (pv 0) (aa ai ae))))
   (ah (az (i:=3) gX.nd rfl (.inl rfl) (bY ae))
   (ah (cD cI rfl (cC (aw GC hr rfl mC kC bC .nil pass0 (aa (pv 1) ae))) (ay (i:=4) gX.nd rfl (.inl rfl)) (ao (cU (df dG j9 ni jq (pv 3) (aa (aw GD hr rfl mD kD bD .nil pass0 (aa (pv 0) (aa (aA cy (aL c9 (by rfl) T.len di (aa (pv 3) ae)) ai) ae))) (aa (pv 4) ae))))))
   (ah (az (i:=5) gX.nd rfl (.inr rfl) kO)
   (ah (cD cI rfl (ll rfl T.enum (aa (pv 3) ae)) (de rfl (aW (ay (i:=6) gX.nd rfl (.inl rfl)) (aW (ay (i:=4) gX.nd rfl (.inl rfl)) c_))) (ah (az (i:=7) gX.nd rfl (.inl rfl) (aA ib (aA ib (aA ib (aA oB ai ai) ai) (aA fM (aA cy (pv 6) ai) (aA oB ai ai))) (aw GD hr rfl mD kD bD .nil pass0 (aa (pv 0) (aa (aA oB ai ai) ae)))))
   (ao (iK hu (pv 5) (pv 4) (bL cv (bY (aa (pv 6) (aa (aA cy (aA fM ai (pv 6)) (aw GD hr rfl mD kD bD .nil pass0 (aa (pv 0) (aa ai ae)))) (aa (pv 7) ae)))) (pv 2) (λ_ _=>rfl)) rfl))))
   (ao (aX (dO (N:=["_law_triple","_law_names"]) (fr:=[none,some 5]) (te:=tCB (λxs H Q=>∃p ys,xs=[.ref p]/\((SqL [] H p ys/\∀l,H l=none->Q (.ref l) (upd H l (.tup ys)))\/(SqT [] H p ys/\Q (.ref p) H))) (dX (oM (rF [] (cz 0)) (dg 0) (λ_ H Q=>Q true H) (qW (cz 1) (cz 0)) [none,some 1]) fR)) (dS (by decide +kernel) rfl rfl (by decide +kernel) (by decide +kernel) (by walk_at"cs") (by walk_at"ct")) rfl (cC (pv 1))
     (λC' s' H' fp pins=>⟨ay (i:=0) (show (["_law_triple","_law_names"]:List Str).Nodup by decide +kernel) rfl (.inl rfl) (.inr rfl),eO,er kg (by rfl) T.tuple j6 (aa (dO (N:=["_law_corner","_law_names"]) (fr:=[none,some 1]) (te:=qW (cz 1) (cz 0)) (dS (by decide +kernel) rfl rfl (by decide +kernel) (by decide +kernel) (by walk_at"cs") (by walk_at"ct")) rfl (lQ (pv 0))
     (λC2 s2 H2 fp2 pins2=>⟨ay (i:=0) (show (["_law_corner","_law_names"]:List Str).Nodup by decide +kernel) rfl (.inl rfl) (.inr rfl),eO,jD hu (pv 1) (pv 0) (λ_ _=>rfl)⟩)) ae)⟩))))))))),?_⟩
  have hline:=line5000;obtain⟨d1,d2⟩:=cA (q:=q) (b:=3) (by decide);obtain⟨wy,ew⟩:∃wy:Nat,digO q 3=(wy:Int):=⟨_,(dM d1).symm⟩;refine⟨_,rfl,p,q,3,rfl,hp,pok,by decide,by decide +kernel,λH1 k1 y1=>?_⟩;rw[ew] at d2 |-;have hwy:wy<3:=by lia
  refine⟨aU _,λch H2 hch s2 y2=>?_⟩;have ncp:p≠ch:=ak y1 hch;have hch0:H ch=none:=(k1 ch (av ncp)).symm.trans hch;have hT2:=s2 _ _ ((k1 T0 nTp).trans hT);have ht2:aG H2 vt ts:=Paired.imp' (λ_ _ ⟨b',e1,e2⟩=>⟨b',e1,s2 _ _ ((k1 b' (cK e2 hp (by simp))).trans e2)⟩) ht;refine⟨_,rfl,T0,vt,ts,rfl,hT2,ht2,hl,λr0 cs H3 hr0 s3 y3 hcs hcl=>?_⟩;have nrp:r0≠p:=av (ak (s2 _ _ y1) hr0);have nrc:r0≠ch:=av (ak y2 hr0);refine⟨r0,rfl,⟨_,SqL.of y3⟩,eu (K:=[]) (a:=r0) (xs:=nV cs) (λi Z H'=>∃o4 cl q',Z=[some (V.ref p),some (.ref T0),some (.int (wy:Int)),some (.ref ch),o4,none,none,none]/\(∀b o,b≠p->b≠ch->H3 b=some o->H' b=some o)/\H' p=some (.lst (bo q'))/\bu q'/\H' ch=some (.lst (nV cl))/\cl.Perm (cs.take i))
   ⟨none,[],_,rfl,λ_ _ _ _ e=>e,s3 _ _ (s2 _ _ y1),a9 pok,s3 _ _ y2,HM _⟩ (λi Z H' _ ⟨_,_,_,_,e,_⟩=>SqL.of (e _ _ nrp nrc y3)) ?_ ?_⟩
  .rintro i x Z H4 hi ⟨o4,cl,q4,rfl,sm,hp4,pok4,hch4,hpm⟩;rw[nV,bp] at hi;obtain⟨v,hv,rfl⟩:=cT.mp hi;have hil:=(aJ.mp hv).1;have cll:(nV cl).length=i:=by
    rw[bq,hpm.length_eq,cE];lia
   refine⟨_,rfl,.inl ⟨rfl,_,SqL.of hch4⟩,_,rfl,_,rfl,ch,nV cl,rfl,.inl (SqL.of hch4),_,_,rfl,rfl,p,q4,_,rfl,hp4,pok4,by lia,by rw[cll];exact lg20 (by lia),λH5 k5 y5=>?_⟩;obtain⟨dq1,dq2⟩:=cA (q:=q4) (b:=((nV cl).length:Int)+1) (by lia);obtain⟨d,hd⟩:∃d:Nat,digO q4 (((nV cl).length:Int)+1)=(d:Int):=⟨_,(dM dq1).symm⟩;rw[hd] at dq2 |-;have hch5:=(k5 ch (av ncp)).trans hch4;refine⟨_,rfl,ch,nV cl,d,_,rfl,rfl,hch5,by lia,by lia,λH6 k6 y6=>?_⟩;refine⟨_,cl.take d++v::cl.drop d,_,rfl,λb' o n1 n2 e=>(k6 b' n2).trans ((k5 b' n1).trans (sm _ _ n1 n2 e)),(k6 p ncp).trans y5,a9 pok4,by rw[y6,Fk],?_⟩;have e1:cs.take (i+1)=cs.take i++[v]:=by rw[bV,hv];rfl
   rw[e1];refine List.Perm.trans List.perm_middle ?_;rw[gI];exact (List.Perm.cons v hpm).trans (gH (l₁:=[v]) (l₂:=cs.take i))
  .rintro Z H4 ⟨o4,cl,q4,rfl,sm,hp4,pok4,hch4,hpm⟩;rw[bq,c7] at hpm;refine λNd H5 hNd s5 y5=>?_;have cll:cl.length<=600:=by rw[hpm.length_eq];lia
   have ndc:cl.Nodup:=hpm.nodup_iff.mpr (hcs.1.imp λh=>bJ h);have nNp:p≠Nd:=ak hp4 hNd;have hch5:=s5 _ _ hch4;have nNc:ch≠Nd:=ak hch4 hNd;refine⟨_,rfl,ch,nV cl,rfl,SqL.of hch5,kQ (K:=[]) (a:=ch) (xs:=nV cl) (λj Z H'=>∃o4 o6 o7 nm q',Z=[some (V.ref p),some (.ref T0),some (.int (wy:Int)),some (.ref ch),o4,some (.ref Nd),o6,o7]/\(∀b o,b≠p->b≠Nd->H5 b=some o->H' b=some o)/\H' p=some (.lst (bo q'))/\bu q'/\H' Nd=some (.dK (nm.map nmV))/\nm.map (·.1)=cl.take j/\∀k c x,nm[k]?=some (c,x)->Win wy k x)
    ⟨_,none,none,[],_,rfl,λ_ _ _ _ e=>e,s5 _ _ hp4,pok4,y5,rfl,λk c x h=>by simp at h⟩ (λj Z H' _ ⟨_,_,_,_,_,_,e,_⟩=>SqL.of (e _ _ (av ncp) nNc hch5)) ?_ ?_⟩
   .rintro j x pt Z H6 hj ⟨o4,o6,o7,nm,q6,rfl,sm6,hp6,pok6,hN6,hnm,hwin⟩ hpt;rw[nV,bp] at hj;obtain⟨c,hc,rfl⟩:=cT.mp hj;have hjl:=(aJ.mp hc).1;walk_at"H6 pt hpt H7 s7 y7";refine⟨pt,_,rfl,SqT.of y7,rfl,_,_,rfl,_,_,rfl,rfl,?_⟩;have cp:∀k:Int,0<=k->k<=100->CPow 10 k:=λk h1 h2=>⟨h1,by lia,by decide⟩;have hp7:=s7 _ _ hp6;refine⟨_,_,rfl,rfl,cp _ (by decide) (by decide),_,_,rfl,rfl,_,rfl,_,_,rfl,rfl,_,_,rfl,rfl,cp _ (by decide) (by decide),_,_,rfl,rfl,.inl ⟨by lia,by lia⟩,_,_,rfl,rfl,_,rfl,_,_,rfl,rfl,cp _ (by decide) (by decide),p,q6,(10:Int) ^ 9,rfl,hp7,pok6,by decide,by decide +kernel,λH8 k8 y8=>⟨_,_,rfl,rfl,?_⟩⟩;obtain⟨f1,f2⟩:=cA (q:=q6) (b:=(10:Int) ^ 9) (by decide);obtain⟨d9,e9⟩:∃d9:Nat,digO q6 ((10:Int) ^ 9)=(d9:Int):=⟨_,(dM f1).symm⟩;rw[e9] at f2;have hd9:d9<10 ^ 9:=by lia
    show dg 7 (V.int (10 ^ 60-1-((j:Int)+1)*10 ^ 9-digO q6 ((10:Int) ^ 9))) _ _ _;rw[e9];have efar:(10:Int) ^ 60-1-((j:Int)+1)*10 ^ 9-(d9:Int)=((10 ^ 60-1-(j+1)*10 ^ 9-d9:Nat):Int):=by lia
    rw[efar];refine⟨_,rfl,_,rfl,_,_,rfl,rfl,.inl ⟨by decide,by decide⟩,_,rfl,p,_,7,rfl,y8,a9 pok6,by decide,by decide +kernel,λH9 k9 y9=>⟨_,_,rfl,rfl,?_⟩⟩;obtain⟨f3,f4⟩:=cA (q:=nxt q6 ((10:Int) ^ 9)) (b:=7) (by decide);obtain⟨d7,e7⟩:∃d7:Nat,digO (nxt q6 ((10:Int) ^ 9)) 7=(d7:Int):=⟨_,(dM f3).symm⟩;rw[e7] at f4;refine⟨_,rfl,lit3,λl H10 hl9 s10 y10=>?_⟩;rw[show ([V.int (j:Int),(λi j=>V.int (i+j)) (7*(j:Int)) (digO (nxt q6 ((10:Int) ^ 9)) 7),V.int ((10 ^ 60-1-(j+1)*10 ^ 9-d9:Nat):Int)]:List V)=nV [j,7*j+d7,10 ^ 60-1-(j+1)*10 ^ 9-d9] by rw[e7];rfl] at y10;obtain⟨x,hx,hw⟩:∃x:Nat,[j,7*j+d7,10 ^ 60-1-(j+1)*10 ^ 9-d9][wy]?=some x/\Win wy j x:=by
     obtain rfl|rfl|rfl:wy=0\/wy=1\/wy=2:=by lia
     .exact⟨_,rfl,.inl ⟨rfl,rfl⟩⟩
     .exact⟨_,rfl,.inr (.inl ⟨rfl,by lia,by lia⟩)⟩
     .exact⟨_,rfl,.inr (.inr ⟨rfl,by lia,by lia⟩)⟩
    have hN10:H10 Nd=some (.dK (nm.map nmV)):=s10 _ _ ((k9 Nd (av nNp)).trans ((k8 Nd (av nNp)).trans (s7 _ _ hN6)));have nml:nm.length=j:=by have:=congrArg List.length hnm;rw[aC,cE] at this;lia
    have hcn:c∉nm.map (·.1):=by rw[hnm];intro z;obtain⟨k,hk⟩:=fu z;have hkl:=(aJ.mp hk).1;rw[cE] at hkl;rw[xQ (by lia)] at hk;have:=nK ndc hk hc;lia
    refine⟨_,rfl,l,_,_,V.int (x:Int),rfl,rfl,SqL.of y10,ck (by rw[nV,bp,hx];rfl),_,rfl,_,rfl,Nd,_,rfl,DPut.k (k:=Sum.inl (c:Int)) hN10 (by rw[aC];lia),?_⟩;rw[qL hcn];walk_at"H10 Nd H11 k11 y11";refine⟨_,_,_,nm++[(c,x)],_,rfl,λb' o n1 n2 e=>?_,(k11 p nNp).trans (s10 _ _ y9),a9 (a9 pok6),y11,?_,λk c' x' h=>?_⟩
    .exact (k11 b' n2).trans (s10 _ _ ((k9 b' n1).trans ((k8 b' n1).trans (s7 _ _ (sm6 _ _ n1 n2 e)))))
    .rw[bf,hnm,bV,hc];rfl
    .by_cases hk:k<nm.length
     .rw[gE hk] at h;exact hwin k c' x' h
     .have hk2:=(aJ.mp h).1;rw[aZ,cM] at hk2;have ek:k=nm.length:=by lia
      rw[ek,jX (ar _),yh] at h;cases h;rw[ek,nml];exact hw
   .rintro Z H6 ⟨o4,o6,o7,nm,q6,rfl,sm6,hp6,pok6,hN6,hnm,hwin⟩;rw[bq,c7] at hnm;have st:But p H H6:=λb' o nb e=>by
     have e3:H3 b'=some o:=s3 _ _ (s2 _ _ ((k1 b' nb).trans e));have e4:H4 b'=some o:=sm _ _ nb (ak e hch0) e3;exact sm6 _ _ nb (ak e4 hNd) (s5 _ _ e4)
    have hT6:=st _ _ nTp hT;have ht6:aG H6 vt ts:=Paired.imp' (λ_ _ ⟨b',e1,e2⟩=>⟨b',e1,st _ _ (cK e2 hp (by simp)) e2⟩) ht;have hin:∀c,Co ts c->c∈nm.map (·.1):=λc hc=>by
     rw[hnm,hpm.mem_iff,hcs.2];obtain⟨t,htm,hu⟩:=cG.mp hc;exact fV.mpr ⟨t,htm,by simpa using hu⟩
    have nml:nm.length<=600:=by have:=congrArg List.length hnm;rw[aC] at this;lia
    have inj:∀a b,Co ts a->Co ts b->nmF nm a=nmF nm b->a=b:=λa b ha hb e=>by
     obtain⟨k,x,h1,_,h3⟩:=lR (hin a ha);obtain⟨k',x',h1',_,h3'⟩:=lR (hin b hb);have ex:x=x':=by rw[<-h3,<-h3',e]
     subst ex;have ek:=CH (hwin _ _ _ h1) (hwin _ _ _ h1');subst ek;rw[h1] at h1';exact (jf (dh h1')).1
    have lt60:∀a,Co ts a->nmF nm a<10 ^ 60:=λa ha=>by
     obtain⟨k,x,h1,_,h3⟩:=lR (hin a ha);have hk:=(aJ.mp h1).1;rw[h3];exact D6 (by lia) (hwin _ _ _ h1)
    refine⟨_,rfl,T0,rfl,⟨_,SqL.of hT6⟩,λZ_ hZ=>eF (K:=[]) (a:=T0) (xs:=vt) (λi Z ys H'=>∃o,Z=[o,some (V.ref Nd)]/\aG H' ys ((ts.take i).map (nam (nmF nm)))/\Same H6 H'/\H' Z_=some (.lst ys)) ⟨none,rfl,.nil,cu hZ,aO⟩ (λi Z ys H' _ ⟨_,_,_,e,_⟩=>SqL.of (e _ _ hT6)) ?_ ?_⟩
    .rintro i x Z ys H' hi ⟨o,rfl,hys,sm',hZ'⟩;obtain⟨⟨a,b,c⟩,hs,t,rfl,hb⟩:=cB ht6 hi;have hb:H6 t=some (.tup (nV [a,b,c])):=hb;have hb':=sm' _ _ hb;have htm:=bE hs;have hil:=(aJ.mp hs).1;have ysl:ys.length<=200:=by rw[aN hys,aC,cE];lia
     have cor:∀z∈[a,b,c],Co ts z:=λz hz=>by
      refine cG.mpr ⟨_,htm,?_⟩;simpa using hz
     refine⟨_,rfl,t,rfl,⟨_,SqT.of hb'⟩,λY hY=>qf (K:=[]) (a:=t) (xs:=nV [a,b,c]) (λk Z ys2 H''=>∃o,Z=[o,some (V.ref Nd)]/\ys2=nV (([a,b,c].take k).map (nmF nm))/\Same H' H''/\H'' Y=some (.lst ys2)) ⟨none,rfl,rfl,cu hY,aO⟩ (by rintro k Z ys2 H'' _ ⟨_,_,_,e,_⟩;exact SqT.of (e _ _ hb')) ?_ ?_⟩
     .rintro k x Z ys2 H'' hk ⟨o,rfl,rfl,sY,hY'⟩;rw[nV,bp] at hk;obtain⟨z,hz,rfl⟩:=cT.mp hk;have hkl:k<3:=(aJ.mp hz).1;obtain⟨_,x',_,h2,h3⟩:=lR (hin z (cor z (bE hz)));subst h3;refine⟨_,rfl,_,rfl,Nd,V.int (nmF nm z:Int),rfl,h2 ▸ DGet.k (k:=Sum.inl (z:Int)) (sY _ _ (sm' _ _ hN6)),hY',?_,λHn kn yn=>⟨_,rfl,?_,λb' o e=>(kn b' (ak e hY)).trans (sY _ _ e),yn⟩⟩
      .rw[bq,aC,cE];have:([a,b,c]:List Nat).length=3:=rfl;lia
      .rw[bV,hz,bf,<-eQ];rfl
     .rintro Z ys2 H'' ⟨o,rfl,rfl,sY,hY'⟩;refine⟨Y,_,rfl,.inl ⟨SqL.of hY',λt' ht'=>?_⟩⟩;walk_at"H'' t' ht' H9 s9 y9";have hZ9:=s9 _ _ (sY _ _ hZ');have tn:∀{b':Addr} {xs:List V},H9 b'=some (.tup xs)->b'≠Z_:=λe=>cK e hZ9 (by simp);have et:(ts.take (i+1)).map (nam (nmF nm))=(ts.take i).map (nam (nmF nm))++[nam (nmF nm) (a,b,c)]:=by rw[bV,hs,bf];rfl
      refine⟨hZ9,by lia,λH10 k10 y10=>⟨_,rfl,?_,λb' o e=>?_,y10⟩⟩
      .rw[et];refine dz (Paired.imp' (λ_ _ ⟨b',e1,e2⟩=>⟨b',e1,by have e3:=s9 _ _ (sY _ _ e2);exact (k10 _ (tn e3)).trans e3⟩) hys) (.cons ⟨t',rfl,(k10 _ (tn y9)).trans y9⟩ .nil)
      .exact (k10 _ (ak e hZ)).trans (s9 _ _ (sY _ _ (sm' _ _ e)))
    .rintro Z ys H' ⟨o,rfl,hys,sm',hZ'⟩;rw[aN ht6,c7] at hys;have hZ0:H Z_=none:=by
      cases e:H Z_ with
      |none=>rfl
      |some o=>
       have nZp:Z_≠p:=λz=>by rw[z,hp6] at hZ;cases hZ
       rw[st _ _ nZp e] at hZ;cases hZ
     exact Qq Z_ ys _ q6 H' hZ0 (st.same sm') (sm' _ _ hp6) pok6 hZ' hys (aC ..) (vd g inj) (λu hu=>by
      obtain⟨a,ha,rfl⟩:=w9 hu;exact lt60 a ha) λhall c hc=>by
      obtain⟨a,ha,rfl⟩:=w9 hc;exact Du g inj ha (hall a ha)
end
structure Use (P:Program) (w:World) (K:W.Frag) (mg:Str->Option Value) (base:Heap) (n:Nat) (x:Str) (ps:List Str) (sp:Sp) (f:Addr) (fd:FuncData):Prop where
 g:ag P w K mg base CX0 n f fd ps sp
 b:Binds K fd ps []
 m:mg x=some (.ref f)
 k:W.keepIn K (.ref f)=true
theorem mv {u:TT} {Q:Bool->Hp->Prop} (h:u Z H Q):iR (mm u Z Q) true H:=aP (A:=Q true H) h
theorem iY {t u:TS} {D:Ends} (h:u D Z H):iR (iX t u D Z) true H:=aP (A:=t D Z H) h
theorem jO {t u:TS} {D:Ends} (h:t D Z H):iR (iX t u D Z) false H:=a6 (B:=u D Z H) h
structure oW (K:W.Frag):Prop where
 t:W.kitOne K (.type "tuple") (.type "tuple")=some true
 i:W.kitOne K (.type "int") (.type "int")=some true
 b:W.kitOne K (.type "int") (.type "bool")=some false
section
theorem C9:bc ["thing"] ["thing"] (aE lC):=by walk_at"sc"
theorem zV:bc ["thing"] ["thing"] (aE ko):=by walk_at"sc"
end
section
theorem nC:bc ["thing","a","b","c"] ["thing"] (aE km):=by walk_at"sc"
end
def Ho (K:W.Frag) (H:Hp) (x:V):Prop:=∃ty,cZ K H x ty/\(W.kitOne K ty (.type "int")=some false\/W.kitOne K ty (.type "int")=some true/\W.kitOne K ty (.type "bool")=some true)
def El (K:W.Frag) (H:Hp) (x:V):Option Int->Prop
 |some n=>x=.int n
 |none=>Ho K H x
def eJ:List (Option Int)->Option Tri
 | [some a,some b,some c]=>if 0<=a/\0<=b/\0<=c/\a≠b/\b≠c/\c≠a then some (a.toNat,b.toNat,c.toNat) else none
 |_=>none
def Th (K:W.Frag) (H:Hp) (v:V) (o:Option Tri):Prop:=
 (o=none/\∃ty,cZ K H v ty/\W.kitOne K ty (.type "tuple")=some false)\/∃a xs es,v=.ref a/\H a=some (.tup xs)/\Paired (El K H) xs es/\o=eJ es
theorem cZ.same {x:V} {ty:Value} (s:Same H H') (h:cZ K H x ty):cZ K H' x ty:=by
 cases h with
 |non=>exact .non
 |bl x=>exact .bl x
 |int i=>exact .int i
 |str x=>exact .str x
 |flt x=>exact .flt x
 |lst e=>exact .lst (s _ _ e)
 |frz e=>exact .frz (s _ _ e)
 |tup e=>exact .tup (s _ _ e)
 |dK e=>exact .dK (s _ _ e)
 |dT e=>exact .dT (s _ _ e)
 |ins e cl ha hn htk hm=>exact .ins (s _ _ e) cl ha hn htk hm
theorem El.same {x:V} {o:Option Int} (s:Same H H') (h:El K H x o):El K H' x o:=by
 cases o with
 |some n=>exact h
 |none=>obtain⟨ty,t,q⟩:=h;exact⟨ty,cZ.same s t,q⟩
theorem Th.same {v:V} {o:Option Tri} (s:Same H H') (h:Th K H v o):Th K H' v o:=by
 rcases h with ⟨e,ty,t,q⟩|⟨a,xs,es,e1,e2,e3,e4⟩
 .exact .inl ⟨e,ty,cZ.same s t,q⟩
 .exact .inr ⟨a,xs,es,e1,s _ _ e2,Paired.imp' (λ_ _ q=>El.same s q) e3,e4⟩
abbrev gp (K:W.Frag) (H:Hp):List V->List (Option Tri)->Prop:=Paired (Th K H)
theorem gp.same {os:List (Option Tri)} (s:Same H H') (h:gp K H vs os):gp K H' vs os:=Paired.imp' (λ_ _ q=>Th.same s q) h
theorem tG {es:List (Option Int)} {t:Tri} (h:eJ es=some t):es=[some (t.1:Int),some (t.2.1:Int),some (t.2.2:Int)]/\(t.1≠t.2.1/\t.2.1≠t.2.2/\t.2.2≠t.1):=by
 unfold eJ at h
 split at h
 .split at h
  .rename_i a b c hh;cases h;obtain⟨h1,h2,h3,h4,h5,h6⟩:=hh;rw[show (((a.toNat,b.toNat,c.toNat):Tri).1:Int)=a from dM h1,show (((a.toNat,b.toNat,c.toNat):Tri).2.1:Int)=b from dM h2,show (((a.toNat,b.toNat,c.toNat):Tri).2.2:Int)=c from dM h3];refine⟨rfl,?_,?_,?_⟩
   .show a.toNat≠b.toNat;lia
   .show b.toNat≠c.toNat;lia
   .show c.toNat≠a.toNat;lia
  .cases h
 .cases h
theorem Th.tri {v:V} {t:Tri} (h:Th K H v (some t)):my H v t/\(t.1≠t.2.1/\t.2.1≠t.2.2/\t.2.2≠t.1):=by
 rcases h with ⟨e,_⟩|⟨a,xs,es,rfl,e2,e3,e4⟩
 .cases e
 .obtain⟨rfl,ne⟩:=tG e4.symm;cases e3 with
  |cons h1 r1=>cases r1 with
   |cons h2 r2=>cases r2 with
    |cons h3 r3=>
     cases r3;have h1:_=_:=h1;have h2:_=_:=h2;have h3:_=_:=h3;subst h1 h2 h3;exact⟨⟨a,rfl,e2⟩,ne⟩
def uI (K:W.Frag):Sp:=λvs H Q _=>∃x o,vs=[x]/\El K H x o/\Q (.bl o.isSome) H
def cnr:Option Int->Bool
 |some n=>decide (0<=n)
 |none=>false
def s_ (K:W.Frag):Sp:=λvs H Q _=>∃x o,vs=[x]/\El K H x o/\Q (.bl (cnr o)) H
def ki (K:W.Frag):Sp:=λvs H Q _=>∃x o,vs=[x]/\Th K H x o/\Q (.bl o.isSome) H
theorem oK {u:TT} {Q:Bool->Hp->Prop} (h:Q true H):iR (mm u Z Q) false H:=a6 (B:=u Z H Q) h
theorem xr {u:TT} {Q:Bool->Hp->Prop} {b:Bool} (h1:b=false->Q true H) (h2:b=true->u Z H Q):iR (mm u Z Q) b H:=by
 cases b with
 |true=>exact mv (h2 rfl)
 |false=>exact oK (h1 rfl)
theorem GV {t u:TS} {D:Ends} {b:Bool} (h1:b=false->t D Z H) (h2:b=true->u D Z H):iR (iX t u D Z) b H:=by
 cases b with
 |true=>exact iY (h2 rfl)
 |false=>exact jO (h1 rfl)
section
theorem AC {f:Addr} (U:Fun K "is_whole" "is_whole" lC f fd) (T:cH mg) (F:oW K):ag P w K mg base CX0 1 f fd ["thing"] (uI K):=by
 refine U.ok C9 (λvs H Q E h=>?_) (λcdv A outer s H vs Q E hr h=>?_)
 .obtain⟨x,o,rfl,_⟩:=h;rfl
 .refine⟨_,ao (aX (h_ (aL (jr (c:="int")) (by rfl) T.isi du (aa (pv 0) (aa (g_ (v:=.ty "int") rfl T.int nh rfl) ae)))
   (jK (EY (aL (jr (c:="bool")) (by rfl) T.isi du (aa (pv 0) (aa (g_ (v:=.ty "bool") rfl T.bool IC rfl) ae))))))),?_⟩
  obtain⟨x,o,rfl,h,q⟩:=h;cases o with
  |some n=>cases (show x=.int n from h);exact⟨_,rfl,_,_,true,rfl,.int n,F.i,true,rfl,a6 ⟨_,rfl,_,_,false,rfl,.int n,F.b,false,rfl,q⟩⟩
  |none=>
   obtain⟨ty,ht,h⟩:=h;rcases h with h|⟨h1,h2⟩
   .exact⟨_,rfl,_,_,false,rfl,ht,h,false,rfl,aP q⟩
   .exact⟨_,rfl,_,_,true,rfl,ht,h1,true,rfl,a6 ⟨_,rfl,_,_,true,rfl,ht,h2,true,rfl,q⟩⟩
theorem zq {f f1:Addr} {fd d1:FuncData} (U:Fun K "is_corner" "is_corner" ko f fd) (G:ag P w K mg base CX0 1 f1 d1 ["thing"] (uI K)) (b1:Binds K d1 ["thing"] []) (m1:mg "is_whole" = some (.ref f1)) (k1:W.keepIn K (.ref f1)=true) :
  ag P w K mg base CX0 2 f fd ["thing"] (s_ K):=by
 refine U.ok zV (λvs H Q E h=>?_) (λcdv A outer s H vs Q E hr h=>?_)
 .obtain⟨x,o,rfl,_⟩:=h;rfl
 .refine⟨_,ao (aX (h_ (aw G hr rfl m1 k1 b1 .nil pass0 (aa (pv 0) ae)) (jK (fg GQ (pv 0) ai (nomark _))))),?_⟩;obtain⟨x,o,rfl,h,q⟩:=h;refine⟨_,rfl,x,o,rfl,h,?_⟩;cases o with
  |some n=>cases (show x=.int n from h);exact⟨true,rfl,a6 ⟨_,rfl,_,_,rfl,rfl,q⟩⟩
  |none=>exact⟨false,rfl,aP q⟩
end
theorem uU {α β:Type} {R:α->β->Prop} {xs:List α} {ys:List β} (h:Paired R xs ys) (l:xs.length=3):∃a b c x y z,xs=[a,b,c]/\ys=[x,y,z]/\R a x/\R b y/\R c z:=by
 cases h with
 |nil=>cases l
 |cons h1 r1=>cases r1 with
  |nil=>cases l
  |cons h2 r2=>cases r2 with
   |nil=>cases l
   |cons h3 r3=>cases r3 with
    |nil=>exact⟨_,_,_,_,_,_,rfl,rfl,h1,h2,h3⟩
    |cons _ _=>simp at l
theorem tZ {es:List (Option Int)} (h:es.length≠3):eJ es=none:=by
 unfold eJ
 split
 .exact absurd rfl h
 .rfl
theorem vA (x y z:Option Int):(eJ [x,y,z]).isSome=(cnr x&&cnr y&&cnr z&&(!decide (x=y)&&(!decide (y=z)&&!decide (z=x)))):=by
 cases x with
 |none=>rfl
 |some a=>cases y with
  |none=>simp[eJ,cnr]
  |some b=>cases z with
   |none=>simp[eJ,cnr]
   |some c=>
    show (if _ then _ else _:Option Tri).isSome=(decide (0<=a)&&decide (0<=b)&&decide (0<=c)&&_);by_cases h:0<=a/\0<=b/\0<=c/\a≠b/\b≠c/\c≠a
    .rw[KI h];obtain⟨h1,h2,h3,h4,h5,h6⟩:=h;simp[h1,h2,h3,h4,h5,h6]
    .rw[KH h];symm;show _=false;rw[jU];intro z;simp at z;exact h (by obtain⟨⟨⟨z1,z2⟩,z3⟩,z4,z5,z6⟩:=z;exact⟨z1,z2,z3,z4,z5,z6⟩)
section
theorem zp {f f1:Addr} {fd d1:FuncData} (U:Fun K "is_triple" "is_triple" km f fd) (T:cH mg) (F:oW K) (G:ag P w K mg base CX0 2 f1 d1 ["thing"] (s_ K)) (b1:Binds K d1 ["thing"] []) (m1:mg "is_corner" = some (.ref f1)) (k1:W.keepIn K (.ref f1)=true) :
  ag P w K mg base CX0 3 f fd ["thing"] (ki K):=by
 refine U.ok nC (λvs H Q E h=>?_) (λcdv A outer s H vs Q E hr h=>?_)
 .obtain⟨x,o,rfl,_⟩:=h;rfl
 .obtain⟨x,o,rfl,h,q⟩:=h;refine⟨_,ah (br (PW.pt (fq (eA (cQ (aL (jr (c:="tuple")) (by rfl) T.isi du (aa (pv 0) (aa (g_ (v:=.ty "tuple") rfl T.tuple j6 rfl) ae)))))
     (iO (ba gj (aL c9 (by rfl) T.len di (aa (pv 0) ae)) ai (nomark _))))) (ao (aX eR)) bK)
   (ah (gh (pv 0) (de rfl (aW (ay (i:=1) nC.nd rfl (.inl rfl)) (aW (ay (i:=2) nC.nd rfl (.inl rfl)) (aW (ay (i:=3) nC.nd rfl (.inl rfl)) c_)))))
   (ah (br (PW.pt (fq (eA (cQ (aw G hr rfl m1 k1 b1 .nil pass0 (aa (pv 1) ae)))) (fq (eA (cQ (aw G hr rfl m1 k1 b1 .nil pass0 (aa (pv 2) ae)))) (iO (eA (cQ (aw G hr rfl m1 k1 b1 .nil pass0 (aa (pv 3) ae)))))))) (ao (aX eR)) bK)
   (ao (aX (h_ (fg gj (pv 1) (pv 2) (nomark _)) (h_ (fg gj (pv 2) (pv 3) (nomark _)) (jK (fg gj (pv 3) (pv 1) (nomark _))))))))),?_⟩
  rcases h with ⟨rfl,ty,ht,hk⟩|⟨t,xs,es,rfl,ht,hp,rfl⟩
  .exact⟨_,rfl,_,_,false,rfl,ht,hk,_,rfl,oK q⟩
  refine⟨_,rfl,_,_,true,rfl,.tup ht,F.t,_,rfl,mv ?_⟩;refine⟨_,rfl,t,_,rfl,.inr (SqT.of ht),rfl,_,rfl,?_⟩;refine HC (p:=xs.length=3) (λhl=>?_) λhl=>?_
  .obtain⟨a,b,c,x,y,z,rfl,rfl,h1,h2,h3⟩:=uU hp hl;refine aP ⟨_,rfl,t,_,rfl,SqT.of ht,rfl,_,_,rfl,_,_,rfl,_,_,rfl,rfl,?_⟩;rw[vA] at q;refine⟨_,rfl,a,x,rfl,h1,_,rfl,xr (λe=>?_) λe1=>⟨_,rfl,b,y,rfl,h2,_,rfl,xr (λe=>?_) λe2=>⟨_,rfl,c,z,rfl,h3,_,rfl,GV (λe=>?_) λe3=>?_⟩⟩⟩
   .rw[e,eX,eX,eX] at q;exact q
   .rw[e,oY,eX,eX] at q;exact q
   .rw[e,oY,eX] at q;exact q
   .rw[e1,e2,e3] at q;cases x with
    |none=>cases e1
    |some a'=>cases y with
     |none=>cases e2
     |some b'=>cases z with
      |none=>cases e3
      |some c'=>
       cases (show a=.int a' from h1);cases (show b=.int b' from h2);cases (show c=.int c' from h3);have e:∀a b:Int,(!decide ((some a:Option Int)=some b))=!decide (V.int a=V.int b):=λa b=>by simp
       rw[e,e,e] at q;have q:Q (V.bl (!decide (V.int a'=V.int b')&&(!decide (V.int b'=V.int c')&&!decide (V.int c'=V.int a')))) H:=q;refine⟨_,rfl,_,rfl,rfl,_,rfl,ite2 (λz1=>?_) λz1=>?_⟩
       .rw[z1] at q;refine⟨_,rfl,_,rfl,rfl,_,rfl,ite2 (λz2=>?_) λz2=>?_⟩
        .rw[z2] at q;exact⟨_,rfl,_,rfl,rfl,q⟩
        .rw[jU.mpr z2] at q;exact q
       .rw[jU.mpr z1] at q;exact q
  .show if (!decide (V.int (xs.length:Int)=V.int 3))=true then _ else _
   rw[mx,KL (by lia)];rw[tZ (by rw[<-aN hp];exact hl)] at q;exact a6 q
end
theorem uy:bootBuiltins "min" = some (.builtin "min"):=by decide +kernel
def Bg (t u:Tri):Prop:=(u=t\/u=(t.2.1,t.2.2,t.1)\/u=(t.2.2,t.1,t.2.1))/\u.1<=u.2.1/\u.1<=u.2.2
def kyT (u:Tri):List Int:=[(u.1:Int),(u.2.1:Int),(u.2.2:Int)]
theorem uE {us:List Tri} (h:aG H vs us):Tups K H vs (us.map kyT):=by
 induction h with
 |nil=>exact .nil
 |cons q _ ih=>
  obtain⟨a,rfl,ha⟩:=q;exact .cons ⟨a,rfl,SqT.of ha,by simp[kyT]⟩ ih
def Bw (vs:List V) (H:Hp) (Q:VK) (t:Addr) (x:Tri):Prop:=vs=[.ref t]/\H t=some (.tup [.int (x.1:Int),.int (x.2.1:Int),.int (x.2.2:Int)])/\
 ∀r u H',Same H H'->H' r=some (.tup [.int (u.1:Int),.int (u.2.1:Int),.int (u.2.2:Int)])->Bg x u->Q (.ref r) H'
def vK:Sp:=λvs H Q _=>Exists (Ex2 (Bw vs H Q))
theorem jx {a b:Int} {xs ys:List Int} (h:HT.lexLt (b::ys) (a::xs)=false):a<=b:=by
 unfold HT.lexLt at h
 split at h
 .lia
 .have:=of_decide_eq_false h;lia
section
theorem nZ:bc ["triple","a","b","c"] ["triple"] (aE lO):=by walk_at"sc"
theorem B2 {f:Addr} (U:Fun K "begun_least" "begun_least" lO f fd) (mN:mg "min" = none):ag P w K mg base CX0 1 f fd ["triple"] vK:=by
 refine U.ok nZ (λvs H Q E h=>?_) (λcdv A outer s H vs Q E hr h=>?_)
 .obtain⟨t,x,rfl,_⟩:=h;rfl
 .obtain⟨t,⟨a,b,c⟩,rfl,ht,q⟩:=h;have ht:H t=some (.tup [.int (a:Int),.int (b:Int),.int (c:Int)]):=ht;refine⟨_,ah (gh (pv 0) (de rfl (aW (ay (i:=1) nZ.nd rfl (.inl rfl)) (aW (ay (i:=2) nZ.nd rfl (.inl rfl)) (aW (ay (i:=3) nZ.nd rfl (.inl rfl)) c_)))))
   (ao (aX (aL (zj rfl hr.units) (by rfl) mN uy (aa (bY (aa (aI (aa (pv 1) (aa (pv 2) (aa (pv 3) ae)))) (aa (aI (aa (pv 2) (aa (pv 3) (aa (pv 1) ae)))) (aa (aI (aa (pv 3) (aa (pv 1) (aa (pv 2) ae)))) ae)))) ae)))),?_⟩
  refine⟨_,rfl,t,_,rfl,SqT.of ht,rfl,_,_,rfl,_,_,rfl,_,_,rfl,rfl,?_⟩;refine⟨_,rfl,_,rfl,_,rfl,lit3,λt1 H1 g1 s1 y1=>?_⟩;refine⟨_,rfl,_,rfl,_,rfl,lit3,λt2 H2 g2 s2 y2=>?_⟩;refine⟨_,rfl,_,rfl,_,rfl,lit3,λt3 H3 g3 s3 y3=>?_⟩;refine⟨lit3,λl H4 g4 s4 y4=>?_⟩;have z1:=((s2.trans s3).trans s4) _ _ y1;have z2:=(s3.trans s4) _ _ y2;have z3:=s4 _ _ y3;have hs:=((s1.trans s2).trans s3).trans s4;have tr:aG H4 [V.ref t1,.ref t2,.ref t3] [(a,b,c),(b,c,a),(c,a,b)]:=.cons ⟨t1,rfl,z1⟩ (.cons ⟨t2,rfl,z2⟩ (.cons ⟨t3,rfl,z3⟩ .nil));refine⟨l,_,_,rfl,SqL.of y4,uE tr,by simp,λi y hy hmin=>?_⟩;have m0:=hmin 0 (by simp);have m1:=hmin 1 (by simp);have m2:=hmin 2 (by simp)
  match i,hy with
  |0,hy=>
   cases hy;have h1:(a:Int)<=b:=jx m1;have h2:(a:Int)<=c:=jx m2;exact q t1 (a,b,c) H4 hs z1 ⟨.inl rfl,by show a<=b;lia,by show a<=c;lia⟩
  |1,hy=>
   cases hy;have h1:(b:Int)<=a:=jx m0;have h2:(b:Int)<=c:=jx m2;exact q t2 (b,c,a) H4 hs z2 ⟨.inr (.inl rfl),by show b<=c;lia,by show b<=a;lia⟩
  |2,hy=>
   cases hy;have h1:(c:Int)<=a:=jx m0;have h2:(c:Int)<=b:=jx m1;exact q t3 (c,a,b) H4 hs z3 ⟨.inr (.inr rfl),by show c<=a;lia,by show c<=b;lia⟩
  |i+3,hy=>simp at hy
end
end K15
end
section
namespace L2
open PySem PySem.Spec PyProof.Rows
section
def tDM0 (r:V->List V->Hp->VK->Prop) (to:TE):TE:=λZ H Q=>to Z H λx H1=>(∃a,x=.ref a/\IsD H1 a)/\r x [] H1 Q
theorem wL {o:Expr} {to:TE} {name:Str} {apos cpos:Pos} {id:String} {r:V->List V->Hp->VK->Prop} (slot:Slot "dict" name id) (hty:typeOf (.builtin id)=pure (.type "method_descriptor")) (hm:MtM X id r) (ho:PE X o to)
  (hbase:attributeBase o name X.env (eval o X.env)=eval o X.env:=by rfl) (hline:(apos.endLine==cpos.line)=true:=by rfl):PE X (.Call (.Attribute o name apos) [] [] cpos) (tDM0 r to):=by
 intro pins s Z H Q I h;refine wpAny_Call_method0_late hbase hline (thn (ho pins s Z H _ I h) λv s1 ⟨x,H1,I1,r1,⟨a,ex,hd⟩,q1⟩=>?_);subst ex;obtain rfl:v=Value.ref a:=r1;obtain⟨t1,t2,_⟩:=qS I1 hd;exact⟨"dict",id,sy,slot,hty,t1,t2,mK rfl (PySem.evalArgs_none (hm pins s1 Z H1 (.ref a) [] (.ref a) [] Q I1 rfl .nil q1))⟩
end
section
open PySem.W in
def Df (K:W.Frag):List V->Hp->VK->Prop:=λxs H Q=>∃(a:Addr) (u:HO),xs=[.ref a]/\Rd H a u/\dY u/\∀ks vs,DKV H u ks vs->
 (∃ns:List Int,ks=ns.map V.int/\ns.length<5000/\∀(p:Addr) (ms:List Int),H p=none->ms.Perm ns->ms.Pairwise (·<=·)->Q (.ref p) (upd H p (.lst (ms.map V.int)))) \/
 ∃kz:List (List Int),Tups K H ks kz/\ks.length<5000/\∀(p:Addr) (ix:List Nat),H p=none->ix.Perm (List.range ks.length)->(ix.map λi=>kz.getD i []).Pairwise (λa b=>HT.lexLt b a=false)->Q (.ref p) (upd H p (.lst (ix.map λi=>ks.getD i .non)))
open PySem.W in
theorem yV (hc:X.calm=true):cL X (.builtin "sorted") (Df []):=by
 intro pins s Z H xs us Q I r h;obtain⟨a,u0,rfl,hd,hu,k⟩:=h;obtain⟨u,rfl,ru⟩:=Vals.one r;cases ru;obtain⟨lo,ks,vs,es,ep,dk,hz,dm,r1,r2⟩:=lU I hd hu;obtain⟨m,F⟩:=I.fr;have hl1:ks.length=es.size:=by have:=r1.length;simpa using this
 refine kdu_sorted (dSrc (es:=es) (ep:=ep) lo) (I.ok.hd hc) F (qa (g:=X.base) (L:=X.env.locals)) dm (by rw[<-hl1];exact hz) λD h' tk vs' F' N' hD hl hv=>?_;obtain⟨k1,k2⟩:=I.newsKept (t':=s.toks) (more:=[(D,listOf vs'.toArray 0)]) F F' N';have nD:=N' (D,listOf vs'.toArray 0) (.head _);have hD0:s.heap.get? D=none:=by
  cases e:s.heap.get? D with
  |none=>rfl
  |some o=>exact absurd (hD (D,o) (pN nD.2.1 nD.2.2 e)) (ef _)
 have ev:vs'=es.toList.map (·.key):=by refine tJ (by rw[hl];simp) λj v e=>?_;obtain⟨hj,rfl⟩:=hv j v e;rw[bp];simp[hj]
 have I':Inv X pins Z (upd H D (.lst ks)) {s with heap:=h',toks:=tk}:=I.laidN (t':=tk) k1 k2 hD0 (λH'=>⟨hz,vs',0,by rw[ev];exact r1,nD.1⟩) (λ_ _ z=>by cases z);have z:=tq (X:=oP X) pins _ Z _ (.ref D) [] (.ref D) [] (λ_ H'=>Q (.ref D) H') I'.toIn1 rfl .nil (uP (I.hok.none_of hD0) (k ks vs dk));exact thn z λ_ s' ⟨_,H',J,_,q'⟩=>⟨.ref D,H',J.ofIn1,rfl,q'⟩
end
def Sm (H H':Hp):Prop:=∀b o,H b=some o->H' b=some o\/(dY o/\∃ob,H' b=some (.frz ob o))
theorem Sm.refl (H:Hp):Sm H H:=λ_ _ e=>.inl e
theorem Sm.of (s:Same H H'):Sm H H':=λb o e=>.inl (s b o e)
theorem Sm.trans {H H1 H2:Hp} (a:Sm H H1) (b:Sm H1 H2):Sm H H2:=λc o e=>by
 rcases a c o e with e1|⟨hd,ob,e1⟩
 .exact b c o e1
 .rcases b c _ e1 with e2|⟨hd2,_⟩
  .exact .inr ⟨hd,ob,e2⟩
  .exact False.elim hd2
theorem Sm.free (s:Sm H H') {l:Addr} (h:H' l=none):H l=none:=by
 cases q:H l with
 |none=>rfl
 |some o=>rcases s l o q with e|⟨_,_,e⟩<;>(rw[h] at e;cases e)
theorem Sm.keep (s:Sm H H') {b:Addr} {o:HO} (e:H b=some o) (hn:¬dY o):H' b=some o:=(s b o e).elim id λz=>(hn z.1).elim
theorem Sm.rd (s:Sm H H') {b:Addr} {o:HO} (e:Rd H b o):Rd H' b o:=by
 rcases e with e|⟨ob,e⟩
 .rcases s b o e with z|⟨_,ob,z⟩
  .exact .inl z
  .exact .inr ⟨ob,z⟩
 .exact .inr ⟨ob,s.keep e (λz=>z)⟩
theorem Fz.sm {H H2:Hp} {d:Addr} {o:Obj} {u:HO} (f:Fz H H2 d o u):Sm H H2:=λb w e=>by
 by_cases hb:b=d
 .subst hb;rcases f.1 with z|z
  .rw[z] at e;cases e;exact .inr ⟨f.2.1,o,f.at⟩
  .rw[z] at e;cases e;exact .inl f.at
 .exact .inl ((f.ne hb).trans e)
section
variable {d D:Addr} {o:Obj} {u:HO} {ks vs:List V} {g:TG} {tt:TT} {te:TE} {Z':St} {H1:Hp} {Q:Hp->Prop}
theorem Ba (Pv:Nat->St->List V->Hp->Prop) (h0:Pv 0 Z' [] (upd H1 D (.lst []))) (hl:∀i Z ys H,i<=ks.length->Pv i Z ys H->H d=some (.frz o u))
  (hs:∀i x Z ys H,ks[i]?=some x->Pv i Z ys H->g x Z H (jS tt te D ys (Pv (i+1))))
  (hd:∀Z ys H,Pv ks.length Z ys H->Q H):hU (Itk d o ks) g tt te D Z' H1 Q:=by
 refine⟨λi m Z ys H=>m=ks.length-i/\i<=ks.length/\Pv i Z ys H,⟨ks.length,by simp,aU _,h0⟩,?_⟩;rintro i m Z ys H ⟨rfl,hi,p⟩;have q:=hl i Z ys H hi p;by_cases hlt:i<ks.length
 .refine .inr ⟨⟨hlt,u,q⟩,Pv (i+1),λZ' ys' H' p'=>⟨ks.length-(i+1),by lia,rfl,hlt,p'⟩,λx H' y=>?_⟩;obtain⟨e,y⟩:=y;subst e;exact hs i x Z ys _ y p
 .have e:i=ks.length:=by lia
  subst e;exact .inl ⟨⟨ar _,u,q⟩,hd Z ys H p⟩
theorem A1 {tb:TS} {D:Ends} (Pv:Nat->St->Hp->Prop) (h0:Pv 0 Z H) (hl:∀i Z H,i<=ks.length->Pv i Z H->H d=some (.frz o u))
  (hs:∀i x y p Z H,ks[i]?=some x->vs[i]?=some y->Pv i Z H->H p=none->g (.ref p) Z (upd H p (.tup [x,y])) λZ2 H2=>tb {D with nx:=Pv (i+1),ct:=Pv (i+1),bk:=D.nx} Z2 H2) (hd:∀Z H,Pv ks.length Z H->D.nx Z H) :
  ∃W:Nat->Nat->St->Hp->Prop,(∃m,W 0 m Z H)/\∀i m Z H,W i m Z H->
   ((Iti d o ks vs).stop i H/\D.nx Z H)\/((Iti d o ks vs).go i H/\∃N:St->Hp->Prop,(∀Z' H',N Z' H'->∃m',m'<m/\W (i+1) m' Z' H')/\∀x H',(Iti d o ks vs).yld i H x H'->g x Z H' λZ2 H2=>tb {D with nx:=N,ct:=N,bk:=D.nx} Z2 H2):=by
 refine⟨λi m Z H=>m=ks.length-i/\i<=ks.length/\Pv i Z H,⟨ks.length,by simp,aU _,h0⟩,?_⟩;rintro i m Z H ⟨rfl,hi,p⟩;have q:=hl i Z H hi p;by_cases hlt:i<ks.length
 .refine .inr ⟨⟨hlt,u,q⟩,Pv (i+1),λZ' H' p'=>⟨ks.length-(i+1),by lia,rfl,hlt,p'⟩,λx H' y=>?_⟩;obtain⟨b,k,v,hb,rfl,rfl,y1,y2⟩:=y;exact hs i k v b Z H y1 y2 p hb
 .have e:i=ks.length:=by lia
  subst e;exact .inl ⟨⟨ar _,u,q⟩,hd Z H p⟩
end
end L2
end
section
namespace K15
open PySem L2 K51 K31
def Bt (vs:List V) (H:Hp) (Q:VK) (d:Addr) (l:List (Nat×Nat)):Prop:=vs=[.ref d]/\Rd H d (.dK (l.map nmV))/\l≠[]/\l.length<=1000/\
 ∀(s:Nat) H',Sm H H'->s∈l.map (·.1)->((∀o,(o,s)∉l)\/∀p,p∈l.map (·.1)->∃o,(o,p)∈l)->Q (.int (s:Int)) H'
def vJ:Sp:=λvs H Q _=>Exists (Ex2 (Bt vs H Q))
theorem vU (l:List (Nat×Nat)):(l.map nmV).map (λp=>kV p.1)=nV (l.map (·.1)):=by rw[cq];unfold nV;rw[cq];rfl
theorem DF (l:List (Nat×Nat)):(l.map nmV).map (·.2)=nV (l.map (·.2)):=by rw[cq];unfold nV;rw[cq];rfl
section
theorem qq:bc ["onward","reached","begins"] ["onward"] (aE lK):=by walk_at"sc"
theorem BZ {f:Addr} (U:Fun K "first_of" "first_of" lK f fd) (T:cH mg) (mN:mg "min" = none):ag P w K mg base CX0 1 f fd ["onward"] vJ:=by
 refine U.ok qq (λvs H Q E h=>?_) (λcdv A outer s H vs Q E hr h=>?_)
 .obtain⟨d,l,rfl,_⟩:=h;rfl
 .obtain⟨d,l,rfl,hd,hne,hl,q⟩:=h;refine⟨_,ah (az (i:=1) qq.nd rfl (.inr rfl) (er (zd rfl) (by rfl) T.list yj (aa (wL IR PySem.F.type_dict_values AN (pv 0)) ae)))
   (ah (qv (i:=2) (N:=["p","reached"]) (fr:=[none,some 1]) (tt:=qV (tOp (rIn [] true) (cz 0) (cz 1))) (dS (by decide +kernel) rfl rfl (by decide +kernel) (by decide +kernel) (by walk_at"cs") (by walk_at"ct")) rfl (Dq (pv 0))
     (λC' s' H' fp pins=>⟨ay (i:=0) (show (["p","reached"]:List Str).Nodup by decide +kernel) rfl (.inl rfl) (.inr rfl),iL (ba kh (pv 0) (pv 1) rfl),pv 0⟩) qq.nd rfl (.inl rfl))
   (ao (aX (BM (BJ (pv 2) (λ_=>rfl)) (bL cv (pv 2) ai (λ_ _=>rfl)) (aL (zk rfl) (by rfl) mN uy (aa (pv 0) ae)))))),?_⟩
  have hline:=line5000;refine⟨_,rfl,⟨d,rfl,.inl ⟨_,hd⟩⟩,d,_,rfl,rfl,hd,λv hv=>?_⟩;walk_at"H v hv H1 s1 y1";have hd1:=(Sm.of s1).rd hd;refine⟨v,d,_,rfl,y1,hd1,λr hr0=>?_⟩;walk_at"H1 r hr0 H2 s2 y2";have hd2:=(Sm.of s2).rd hd1;rw[DF] at y2;refine⟨_,rfl,d,_,rfl,hd2,True.intro,λks vs o H3 hk hz=>?_⟩;have ek:ks=nV (l.map (·.1)):=by
   rcases hk with ⟨kvs,e,e1,_⟩|⟨kvs,as,e,_⟩
   .cases e;rw[e1,vU]
   .cases e
  subst ek;have y3:H3 r=some (.lst (nV (l.map (·.2)))):=hz.sm.keep y2 (λz=>z);refine λZ_ hZ=>Ba (d:=d) (o:=o) (u:=.dK (l.map nmV)) (ks:=nV (l.map (·.1))) (λi Z ys H'=>∃o,Z=[o,some (.ref r)]/\ys=nV (((l.map (·.1)).take i).filter λp=>decide (p∉l.map (·.2)))/\Same H3 H'/\H' Z_=some (.lst ys)) ⟨none,rfl,rfl,cu hZ,aO⟩ (by rintro i Z ys H' _ ⟨_,_,_,e,_⟩;exact e _ _ hz.at) ?_ ?_
  .rintro i y Z ys H' hi ⟨o,rfl,rfl,sZ,hZ'⟩;rw[nV,bp] at hi;obtain⟨n,hn,rfl⟩:=cT.mp hi;have et:(l.map (·.1)).take (i+1)=(l.map (·.1)).take i++[n]:=by rw[bV,hn];rfl
   refine⟨_,rfl,_,rfl,r,_,rfl,.inl (SqL.of (sZ _ _ y3)),rfl,iN _,_,rfl,?_⟩;show if (if true=true then !inV (V.int (n:Int)) (nV (l.map (·.2))) else _)=true then _ else _
   rw[KI rfl,ie];by_cases hnF:n∈l.map (·.2)
   .rw[KJ hnF];refine aP ⟨_,rfl,?_,sZ,hZ'⟩;rw[et,jW,eM,KH (by simpa using hnF),mV,eL]
   .rw[KL hnF];refine a6 ⟨_,rfl,hZ',?_,λHn kn yn=>⟨_,rfl,?_,λb o e=>(kn b (ak e hZ)).trans (sZ _ _ e),yn⟩⟩
    .rw[bq];have h1:=i_ (λp=>decide (p∉l.map (·.2))) ((l.map (·.1)).take i);rw[cE,aC] at h1;lia
    .rw[et,jW,eM,KI (by simpa using hnF),mV,<-eQ];rfl
  .rintro Z ys H4 ⟨o',rfl,rfl,sZ,yZ⟩;rw[bq,c7] at yZ;have sm4:Sm H H4:=((Sm.of (s1.trans s2)).trans hz.sm).trans (Sm.of sZ);have hmem:∀x,x∈((l.map (·.1)).filter λp=>decide (p∉l.map (·.2)))↔x∈l.map (·.1)/\x∉l.map (·.2):=λx=>by rw[gG,decide_eq_true_eq]
   have rch:∀x,x∉l.map (·.2)->∀o,(o,x)∉l:=λx hx o ho=>hx (aD.mpr ⟨_,ho,rfl⟩);generalize ((l.map (·.1)).filter λp=>decide (p∉l.map (·.2)))=bs at hmem yZ;refine⟨_,rfl,_,.inl ⟨_,SqL.of yZ,rfl⟩,?_⟩;cases bs with
   |cons b bs=>
    refine a6 ⟨_,rfl,Z_,_,_,_,rfl,rfl,SqL.of yZ,ck (j:=0) rfl,?_⟩;obtain⟨h1,h2⟩:=(hmem b).mp (by simp);exact q b H4 sm4 h1 (.inl (rch b h2))
   |nil=>
    refine aP ⟨_,rfl,d,_,(l.map (·.1)).map (λn:Nat=>(n:Int)),rfl,(Sm.of sZ).rd (.inr ⟨_,hz.at⟩),by rw[vU,cq];rfl,?_,λm hm hmin=>?_⟩
    .cases l with
     |nil=>exact absurd rfl hne
     |cons a l=>simp
    .obtain⟨n,hn,rfl⟩:=aD.mp hm;refine q n H4 sm4 hn (.inr λp hp=>?_);have:p∈l.map (·.2):=mO λz=>by
      have:=(hmem p).mpr ⟨hp,z⟩;cases this
     obtain⟨⟨o,p'⟩,ho,rfl⟩:=aD.mp this;exact⟨o,ho⟩
end
structure Abt (E:Nat->Nat->Nat->Prop) (v:Nat) (l:List (Nat×Nat)):Prop where
 nd:(l.map (·.1)).Nodup
 mem:∀p q,(p,q)∈l↔E v p q
def C1 (vs:List V) (H:Hp) (Q:VK) (d:Addr) (l:List (Nat×Nat)) (E:Nat->Nat->Nat->Prop) (v:Nat):Prop:=vs=[.ref d]/\Rd H d (.dK (l.map nmV))/\l≠[]/\l.length<=1000/\Sk E/\Abt E v l/\
 ∀(b:Bool) H',Sm H H'->(b=true↔One E v)->Q (.bl b) H'
def wH:Sp:=λvs H Q _=>Exists (Ex4 (C1 vs H Q))
theorem DR (l:List (Nat×Nat)) (c:Nat):iV (l.map nmV) (Sum.inl (c:Int):Key)=(l.filter λx=>decide (x.1≠c)).map nmV:=by
 unfold iV;rw[List.filter_map]
 congr 1
 apply List.filter_congr;intro x _;show decide ((Sum.inl (x.1:Int):Key)≠Sum.inl (c:Int))=decide (x.1≠c);by_cases h:x.1=c
 .simp[h]
 .have z:¬(Sum.inl (x.1:Int):Key)=Sum.inl (c:Int):=λz=>h (by have:(x.1:Int)=(c:Int):=nq z;lia);simp only[ne_eq,h,z,not_false_eq_true]
theorem A3 {α:Type} (l:List α) (f:α->Bool) {x:α} (hx:x∈l) (hf:f x=false):(l.filter f).length<l.length:=by
 induction l with
 |nil=>cases hx
 |cons a l ih=>
  rw[eM];have:=i_ f l;rcases aT.mp hx with e|h
  .subst e;rw[KH (by rw[hf];decide),bQ];lia
  .have:=ih h
   split<;>simp only[bQ]<;>lia
section
theorem ow:bc ["about","at","left"] ["about"] (aE lZ):=by walk_at"sc"
theorem DA {f f1:Addr} {fd d1:FuncData} (U:Fun K "hang_together" "hang_together" lZ f fd) (T:cH mg) (mD:mg "dict" = none) (G:ag P w K mg base CX0 1 f1 d1 ["onward"] vJ) (b1:Binds K d1 ["onward"] []) (m1:mg "first_of" = some (.ref f1)) (k1:W.keepIn K (.ref f1)=true) :
  ag P w K mg base CX0 2 f fd ["about"] wH:=by
 refine U.ok ow (λvs H Q E h=>?_) (λcdv A outer s H vs Q E hr h=>?_)
 .obtain⟨d,l,E,v,rfl,_⟩:=h;rfl
 .obtain⟨d,l,E,v,rfl,hd,hne,hl,k,ab,q⟩:=h;have hu:=dA hr;refine⟨_,ah (az (i:=1) ow.nd rfl (.inl rfl) (aw G hr rfl m1 k1 b1 .nil pass0 (aa (pv 0) ae)))
   (ah (az (i:=2) ow.nd rfl (.inl rfl) (er ze (by rfl) mD JN (aa (pv 0) ae)))
   (ah (nR cI (oy (qP hu (pv 1) (pv 2))) (ao (az (i:=1) ow.nd rfl (.inl rfl) (BN (pv 2) (pv 1) ⟨rfl,rfl,rfl,rfl⟩))))
   (ao (aX (fg eK (aL Bb (by rfl) T.len di (aa (pv 2) ae)) ai (nomark _)))))),?_⟩
  refine⟨_,rfl,d,l,rfl,hd,hne,hl,λs1 H1 sm1 hs1 hfirst=>?_⟩;refine⟨_,rfl,d,_,rfl,sm1.rd hd,λp hp=>?_⟩;walk_at"H1 p hp H2 s2 y2";have hfirst':(∀o,¬E v o s1)\/∀p,(∃q,E v p q)->∃o,E v o p:=by
   rcases hfirst with h|h
   .exact .inl λo ho=>h o ((ab.mem _ _).mpr ho)
   .refine .inr λp ⟨q,hq⟩=>?_;obtain⟨o,ho⟩:=h p (aD.mpr ⟨_,(ab.mem _ _).mpr hq,rfl⟩);exact⟨o,(ab.mem _ _).mp ho⟩
  refine⟨λm Z H'=>∃(L:List Nat) (at_:Nat) (lf:List (Nat×Nat)),Z=[some (.ref d),some (.int (at_:Int)),some (.ref p)]/\m=lf.length/\Sm H H'/\H' p=some (.dK (lf.map nmV))/\lf.length<=1000/\(lf.map (·.1)).Nodup/\(∀x,x∈lf↔x∈l/\x.1∉L)/\
   L.Nodup/\(∀p∈L,∃q,E v p q)/\(∀i p q,L[i]?=some p->L[i+1]?=some q->E v p q)/\(L=[]/\at_=s1\/L.head?=some s1/\∀p,L.getLast?=some p->E v p at_),
   ⟨_,[],s1,l,rfl,rfl,sm1.trans (Sm.of s2),y2,hl,ab.nd,by simp,jZ,by simp,by simp,.inl ⟨rfl,rfl⟩⟩,?_⟩
  rintro m Z H' ⟨L,at_,lf,rfl,rfl,sm,hp',hlf,nd,mem,ndL,key,ch,hat⟩;refine⟨_,rfl,_,rfl,p,_,rfl,DGet.k (k:=Sum.inl (at_:Int)) hp',?_⟩;by_cases hin:at_∈lf.map (·.1)
  .obtain⟨i,x,h1,h2,_⟩:=lR hin;have hx:(at_,x)∈lf:=bE h1;obtain⟨hxl,hxL⟩:=(mem _).mp hx;have hE:E v at_ x:=(ab.mem _ _).mp hxl;refine⟨true,by rw[h2];rfl,?_⟩;refine a6 ⟨λZ' H''=>∃(L:List Nat) (at':Nat) (lf':List (Nat×Nat)),Z'=[some (.ref d),some (.int (at':Int)),some (.ref p)]/\lf'.length<lf.length/\Sm H H''/\H'' p=some (.dK (lf'.map nmV))/\lf'.length<=1000/\(lf'.map (·.1)).Nodup/\(∀x,x∈lf'↔x∈l/\x.1∉L)/\
    L.Nodup/\(∀p∈L,∃q,E v p q)/\(∀i p q,L[i]?=some p->L[i+1]?=some q->E v p q)/\(L=[]/\at'=s1\/L.head?=some s1/\∀p,L.getLast?=some p->E v p at'),
    λZ' H'' ⟨L,at',lf',e,hlt,r⟩=>⟨_,hlt,L,at',lf',e,rfl,r⟩,?_⟩
   refine⟨_,rfl,p,rfl,.inl ⟨_,.inl hp'⟩,_,rfl,_,Sum.inl (at_:Int),_,hp',rfl,h2,?_⟩;rw[DR];have hpH:H p=none:=(sm1.free hp);have hlt:=A3 lf (λy=>decide (y.1≠at_)) hx (by simp);refine λH3 k3 y3=>⟨L++[at_],x,lf.filter λy=>decide (y.1≠at_),rfl,hlt,λb o e=>?_,y3,by lia,?_,λy=>?_,?_,λy hy=>?_,λi p q hp hq=>?_,.inr ⟨?_,λp hp=>?_⟩⟩
   .rw[k3 _ (ak e hpH)];exact sm b o e
   .exact nd.sublist (HN _ List.filter_sublist)
   .rw[gG,mem y,bh,aV,decide_eq_true_eq];constructor
    .rintro⟨⟨a,b⟩,c⟩;exact⟨a,λz=>z.elim b c⟩
    .rintro⟨a,b⟩;exact⟨⟨a,λz=>b (.inl z)⟩,λz=>b (.inr z)⟩
   .rw[dq];exact⟨ndL,by simp,λa ha b hb=>by rw[aV] at hb;rintro rfl;rw[hb] at ha;exact hxL ha⟩
   .rcases bh.mp hy with h|h
    .exact key y h
    .rw[aV.mp h];exact⟨x,hE⟩
   .by_cases hi:i+1<L.length
    .rw[gE (by lia)] at hp;rw[gE hi] at hq;exact ch i p q hp hq
    .by_cases hi2:i+1=L.length
     .rw[gE (by lia)] at hp;rw[jX (by lia)] at hq;have:i+1-L.length=0:=by lia
      rw[this] at hq;simp at hq;subst hq;rcases hat with ⟨rfl,_⟩|⟨_,h⟩
      .simp at hi2
      .exact h p (by rw[pk,show L.length-1=i by lia];exact hp)
     .rw[jX (by lia)] at hq;have:=(aJ.mp hq).1;rw[cM] at this;lia
   .rcases hat with ⟨rfl,rfl⟩|⟨h,_⟩
    .rfl
    .cases L with
     |nil=>cases h
     |cons a L=>exact h
   .rw[List.getLast?_append] at hp;simp at hp;subst hp;exact hE
  .refine⟨false,by rw[wt hin];rfl,aP ?_⟩;have hLne:L≠[]:=by
    rintro rfl;rcases hat with ⟨_,rfl⟩|⟨h,_⟩
    .obtain⟨⟨a,b⟩,h1,rfl⟩:=aD.mp hs1;exact hin (aD.mpr ⟨_,(mem _).mpr ⟨h1,by simp⟩,rfl⟩)
    .cases h
   obtain⟨hh,hlast⟩:L.head?=some s1/\∀p,L.getLast?=some p->E v p at_:=hat.resolve_left λz=>hLne z.1;have hend:=Cc k hLne ndL key ch hlast (λ⟨r,hr'⟩=>mO λz=>hin (aD.mpr ⟨_,(mem (at_,r)).mpr ⟨(ab.mem _ _).mpr hr',z⟩,rfl⟩)) hh hfirst';refine⟨_,rfl,p,_,rfl,hp',rfl,?_⟩;rw[aC];refine q _ H' sm ?_;rw[mx,decide_eq_true_eq,<-hend];constructor
   .intro h0 p ⟨r,hr'⟩;have:lf=[]:=Ie.mp (by lia);refine mO λz=>?_;have:=(mem (p,r)).mpr ⟨(ab.mem _ _).mpr hr',z⟩;rw[‹lf=[]›] at this;cases this
   .intro hall;have:lf=[]:=by
     cases lf with
     |nil=>rfl
     |cons y lf=>
      obtain⟨h1,h2⟩:=(mem y).mp (by simp);obtain⟨a,b⟩:=y;exact absurd (hall a ⟨b,(ab.mem _ _).mp h1⟩) h2
    rw[this];rfl
end
def EnAt (H:Hp) (v:V) (e:Ent):Prop:=∃u s,v=.ref u/\H u=some (.tup [.ref s,.int (e.2:Int)])/\H s=some (.tup ((ky e.1.1 e.1.2).map kV))
section
theorem iE:bc ["things","triples","k","thing","a","b","c"] ["things"] (aE jv):=by walk_at"sc"
theorem gW:bc ["triples","thirds","k","a","b","c","side","third"] ["triples"] (aE lb):=by walk_at"sc"
end
def stV (x:Nat×Addr):Key×V:=(Sum.inl (x.1:Int),V.ref x.2)
theorem D7 {L:List (Nat×Addr)} {c:Nat} (h:c∉L.map (·.1)):bj (L.map stV) (Sum.inl (c:Int):Key)=none:=by
 induction L with
 |nil=>simp[bj]
 |cons x L ih=>
  rw[a8,aT,not_or] at h;rw[a8,fH (λz=>h.1 ?_)]
  .exact ih h.2
  .have:(x.1:Int)=(c:Int):=nq z;lia
theorem qF {L:List (Nat×Addr)} {c:Nat} (h:c∈L.map (·.1)):∃a,(c,a)∈L/\bj (L.map stV) (Sum.inl (c:Int):Key)=some (V.ref a):=by
 induction L with
 |nil=>cases h
 |cons y L ih=>
  obtain⟨c',x⟩:=y;by_cases e:c'=c
  .subst e;exact⟨x,by simp,gU (p:=stV (c',x)) (r:=L.map stV) rfl⟩
  .rw[a8] at h;obtain⟨a,h1,h2⟩:=ih ((aT.mp h).resolve_left λz=>e z.symm);refine⟨a,cN _ h1,?_⟩;rw[a8,fH (λz=>e ?_)]
   .exact h2
   .have:(c':Int)=(c:Int):=nq z;lia
def abt (es:List Ent) (c:Nat):List (Nat×Nat):=(es.filter λe=>decide (e.1.1=c)).map λe=>(e.1.2,e.2)
theorem om {es:List Ent} {c p q:Nat}:(p,q)∈abt es c↔((c,p),q)∈es:=by
 unfold abt;rw[aD];constructor
 .rintro⟨⟨⟨a,b⟩,d⟩,h1,h2⟩;rw[gG,decide_eq_true_eq] at h1;obtain⟨h1,rfl⟩:=h1;cases h2;exact h1
 .intro h;exact⟨_,gG.mpr ⟨h,KJ rfl⟩,rfl⟩
theorem wo (es:List Ent) (c:Nat):(abt es c).length<=es.length:=by unfold abt;rw[aC];exact i_ _ _
theorem vw {es:List Ent} {c p:Nat} (h:p∈(abt es c).map (·.1)):(c,p)∈es.map (·.1):=by obtain⟨⟨p',q⟩,h1,rfl⟩:=aD.mp h;exact aD.mpr ⟨_,om.mp h1,rfl⟩
theorem FM {es:List Ent} (h:(es.map (·.1)).Nodup) (c:Nat):((abt es c).map (·.1)).Nodup:=by
 induction es with
 |nil=>simp[abt]
 |cons e es ih=>
  rw[a8,d_] at h;by_cases he:e.1.1=c
  .have e1:abt (e::es) c=(e.1.2,e.2)::abt es c:=by unfold abt;rw[eM,KI (KJ he)];rfl
   rw[e1,a8,d_];refine⟨λz=>h.1 ?_,ih h.2⟩;have:=vw z;rw[<-he] at this;exact this
  .have e1:abt (e::es) c=abt es c:=by unfold abt;rw[eM,KH (by simpa using he)]
   rw[e1];exact ih h.2
theorem qh (es:List Ent) (c p q c':Nat):abt (es++[((c,p),q)]) c'=if c=c' then abt es c'++[(p,q)] else abt es c':=by
 unfold abt;rw[jW,bf,eM];by_cases h:c=c'
 .rw[KI h,KI (KJ h)];rfl
 .rw[KH h,KH (by simpa using h)];simp
structure StAt (H0 H:Hp) (S:Addr) (es:List Ent) (L:List (Nat×Addr)):Prop where
 at_:H S=some (.dK (L.map stV))
 len:L.length<=es.length
 nk:(L.map (·.1)).Nodup
 na:(L.map (·.2)).Nodup
 fr:∀x∈L,H0 x.2=none/\x.2≠S
 ab:∀x∈L,H x.2=some (.dK ((abt es x.1).map nmV))
 key:∀c,c∈L.map (·.1)↔∃p q,((c,p),q)∈es
def Bm (vs:List V) (H:Hp) (Q:VK) (D:Addr) (es:List Ent):Prop:=vs=[.ref D]/\H D=some (.dT (es.map bH))/\(es.map (·.1)).Nodup/\es.length<=1200/\
 ∀S L H',H S=none->Sm H H'->StAt H H' S es L->Q (.ref S) H'
def vE:Sp:=λvs H Q _=>Exists (Ex2 (Bm vs H Q))
theorem DH {L:List (Nat×Addr)} (nk:(L.map (·.1)).Nodup) (na:(L.map (·.2)).Nodup) {c c':Nat} {a:Addr} (h:(c,a)∈L) (h':(c',a)∈L):c=c':=by
 induction L with
 |nil=>cases h
 |cons x L ih=>
  rw[a8,d_] at nk na;rcases aT.mp h with e|h
  .rcases aT.mp h' with e' | h'
   .rw[<-e] at e';cases e';rfl
   .exact (na.1 (aD.mpr ⟨_,h',by rw[<-e]⟩)).elim
  .rcases aT.mp h' with e' | h'
   .exact (na.1 (aD.mpr ⟨_,h,by rw[<-e']⟩)).elim
   .exact ih nk.2 na.2 h h'
section
theorem jB:bc ["thirds","steps","c","p","q","about"] ["thirds"] (aE lD):=by walk_at"sc"
theorem BQ {f:Addr} (U:Fun K "steps_by_corner" "steps_by_corner" lD f fd):ag P w K mg base CX0 1 f fd ["thirds"] vE:=by
 refine U.ok jB (λvs H Q E h=>?_) (λcdv A outer s H vs Q E hr h=>?_)
 .obtain⟨D,es,rfl,_⟩:=h;rfl
 .obtain⟨D,es,rfl,hD,hnd,hl,q⟩:=h;have hu:=dA hr;refine⟨_,ah (az (i:=1) jB.nd rfl (.inl rfl) kO)
   (ah (cD cI rfl (BL (wL IK PySem.F.type_dict_items B3 (pv 0))) (de rfl (aW (de rfl (aW (ay (i:=2) jB.nd rfl (.inl rfl)) (aW (ay (i:=3) jB.nd rfl (.inl rfl)) c_))) (aW (ay (i:=4) jB.nd rfl (.inl rfl)) c_)))
    (ah (az (i:=5) jB.nd rfl (.inl rfl) (df sy IQ PySem.F.type_dict_setdefault zh (pv 1) (aa (pv 2) (aa kO ae))))
    (ao (iK hu (pv 5) (pv 3) (pv 4) rfl))))
   (ao (aX (pv 1)))),?_⟩
  have hline:=line5000;refine λS H1 hS s1 y1=>?_;have hD1:=s1 _ _ hD;refine⟨_,rfl,⟨D,rfl,.inr ⟨_,.inl hD1⟩⟩,D,_,rfl,rfl,.inl hD1,True.intro,λv hv=>?_⟩;walk_at"H1 v hv H2 s2 y2";have hD2:=s2 _ _ hD1;refine⟨v,D,_,rfl,y2,.inl hD2,True.intro,λks vs o H3 hk hz=>?_⟩;obtain⟨as,pa,rfl,rfl⟩:∃as,Paired (λ(p:List Key×V) a=>H2 a=some (.tup (p.1.map kV))) (es.map bH) as/\ks=as.map V.ref/\vs=(es.map bH).map (·.2):=by
   rcases hk with ⟨kvs,e,_⟩|⟨kvs,as,e,h1,h2,h3⟩
   .cases e
   .cases e;exact⟨as,h1,h2,h3⟩
  have lk:as.length=es.length:=by rw[<-aN pa,aC]
  have sm3:Sm H H3:=(Sm.of (s1.trans s2)).trans hz.sm;have yS3:H3 S=some (.dK (([]:List (Nat×Addr)).map stV)):=by rw[hz.ne (λz=>by rw[z,hD1] at y1;cases y1)];exact s2 _ _ y1
  refine A1 (d:=D) (o:=o) (u:=.dT (es.map bH)) (ks:=as.map V.ref) (vs:=(es.map bH).map (·.2)) (λi Z H'=>∃v2 v3 v4 v5 L,Z=[some (.ref D),some (.ref S),v2,v3,v4,v5]/\Sm H H'/\H' D=some (.frz o (.dT (es.map bH)))/\(∀a xs,H2 a=some (.tup xs)->H' a=some (.tup xs))/\StAt H H' S (es.take i) L)
   ⟨none,none,none,none,[],rfl,sm3,hz.at,λa xs e=>hz.sm.keep e (λz=>z),⟨yS3,aU _,jZ,jZ,by simp,by simp,by simp⟩⟩ (λi Z H' _ ⟨_,_,_,_,_,_,_,e,_⟩=>e) ?_ ?_
  .rintro i x y pr Z H' hx hy ⟨v2,v3,v4,v5,L,rfl,sm,hfz,tps,st⟩ hpr;rw[bp] at hx hy;obtain⟨a,ha,rfl⟩:=cT.mp hx;rw[bp] at hy;obtain⟨kv,hkv,rfl⟩:=cT.mp hy;obtain⟨⟨⟨c,p⟩,w'⟩,he,rfl⟩:=cT.mp hkv;have hat:H2 a=some (.tup [.int (c:Int),.int (p:Int)]):=by
    obtain⟨kv',h1,h2⟩:=cB pa (show (es.map bH)[i]?=some (bH ((c,p),w')) by rw[bp,he];rfl);rw[ha] at h1;cases h1;exact h2
   have et:es.take (i+1)=es.take i++[((c,p),w')]:=by rw[bV,he];rfl
   have hil:i<es.length:=(aJ.mp he).1;have nd1:((es.take (i+1)).map (·.1)).Nodup:=by rw[<-gI (i+1) es,bf,dq] at hnd;exact hnd.1
   rw[et] at nd1;obtain⟨nd0,notin⟩:=nX nd1;have hp0:p∉(abt (es.take i) c).map (·.1):=λz=>notin (vw z);rw[show (bH ((c,p),w')).2=V.int (w':Int) from rfl];walk_at"H' pr hpr H4 s4 y4";refine⟨pr,_,rfl,SqT.of y4,rfl,_,_,rfl,a,_,rfl,SqT.of (s4 _ _ (tps _ _ hat)),rfl,_,_,rfl,_,_,rfl,rfl,_,_,rfl,rfl,?_⟩;have hS4:=s4 _ _ st.at_;have lt:(es.take i).length<=1200:=by rw[cE];lia
   refine⟨_,rfl,.inr (.inr (.inl ⟨rfl,.inl ⟨_,hS4⟩⟩)),_,rfl,λz H5 hz0 s5 y5=>?_⟩;have hS5:=s5 _ _ hS4;have sm5:Sm H H5:=(sm.trans (Sm.of s4)).trans (Sm.of s5);have zH:H z=none:=(sm.trans (Sm.of s4)).free hz0;have zH':H' z=none:=s4.free hz0;have s45:=s4.trans s5;have la:=wo (es.take i) c;refine⟨S,_,Sum.inl (c:Int),.ref z,rfl,rfl,hS5,by rw[aC];have:=st.len;lia,λu hu'=>?_,λhn=>?_⟩
   .have hc:c∈L.map (·.1):=mO λzz=>by rw[D7 zz] at hu';cases hu'
    obtain⟨ad,hL,hval⟩:=qF hc;rw[hval] at hu';cases hu';have hab:H5 ad=some (.dK ((abt (es.take i) c).map nmV)):=s45 _ _ (st.ab _ hL);obtain⟨adH,adS⟩:H ad=none/\ad≠S:=st.fr _ hL;refine⟨_,rfl,_,rfl,_,rfl,ad,_,rfl,DPut.k (k:=Sum.inl (p:Int)) hab (by rw[aC];lia),?_⟩;rw[qL hp0];walk_at"H5 ad H6 k6 y6";refine⟨_,_,_,_,L,rfl,λb o e=>?_,?_,λb xs e=>?_,⟨(k6 S adS.symm).trans hS5,?_,st.nk,st.na,st.fr,λx hx'=>?_,λc'=>?_⟩⟩
    .rw[k6 b (ak e adH)];exact sm5 b o e
    .rw[k6 D (λzz=>by rw[zz,adH] at hD;cases hD)];exact s45 _ _ hfz
    .have e2:=s45 _ _ (tps b xs e);rw[k6 b (λzz=>by rw[zz,hab] at e2;cases e2)];exact e2
    .rw[et,aZ];have:=st.len;lia
    .obtain⟨c',b⟩:=x;rw[et,qh];by_cases hcc:c=c'
     .subst hcc;rw[KI rfl];have:b=ad:=uk st.nk hx' hL;subst this;exact y6
     .rw[KH hcc];have nb:b≠ad:=λzz=>hcc (by subst zz;exact DH st.nk st.na hL hx');rw[k6 b nb];exact s45 _ _ (st.ab _ hx')
    .rw[st.key c',et];constructor
     .rintro⟨p1,q1,h1⟩;exact⟨p1,q1,dQ _ h1⟩
     .rintro⟨p1,q1,h1⟩;rcases bh.mp h1 with h1|h1
      .exact⟨p1,q1,h1⟩
      .rw[aV] at h1;cases h1;exact (st.key _).mp hc
   .have hc:c∉L.map (·.1):=λzz=>by
     obtain⟨_,_,h⟩:=qF zz;rw[hn] at h;cases h
    have putS:cY (L.map stV) (Sum.inl (c:Int):Key) (V.ref z)=(L++[(c,z)]).map stV:=by rw[nQ _ hn,bf];rfl
    rw[putS];have zS:z≠S:=λzz=>by rw[zz,hS] at zH;rw[zz] at hz0;rw[hS4] at hz0;cases hz0
    walk_at"H5 S H6 k6 y6";have a0:abt (es.take i) c=[]:=by
     cases e:abt (es.take i) c with
     |nil=>rfl
     |cons x r=>
      obtain⟨p1,q1⟩:=x;have:(p1,q1)∈abt (es.take i) c:=by rw[e];simp
      exact (hc ((st.key c).mpr ⟨p1,q1,om.mp this⟩)).elim
    have hz6:H6 z=some (.dK (([]:List (Nat×Nat)).map nmV)):=(k6 z zS).trans y5;refine⟨_,rfl,_,rfl,_,rfl,z,_,rfl,DPut.k (k:=Sum.inl (p:Int)) hz6 (by simp;lia),?_⟩;rw[qL (by simp)];walk_at"H6 z H7 k7 y7";have nbS:∀b,H b≠none->b≠S:=λb h zz=>h (by rw[zz];exact hS);refine⟨_,_,_,_,L++[(c,z)],rfl,λb o e=>?_,?_,λb xs e=>?_,⟨(k7 S zS.symm).trans y6,?_,?_,?_,λx hx'=>?_,λx hx'=>?_,λc'=>?_⟩⟩
    .rw[k7 b (ak e zH),k6 b (ak e hS)];exact sm5 b o e
    .have e1:=s45 _ _ hfz;rw[k7 D (λzz=>by rw[zz,zH] at hD;cases hD),k6 D (λzz=>by rw[zz,hS] at hD;cases hD)];exact e1
    .have e2:=tps b xs e;rw[k7 b (ak e2 zH'),k6 b (λzz=>by rw[zz,st.at_] at e2;cases e2)];exact s45 _ _ e2
    .rw[et,aZ,aZ];have:=st.len;simp only[cM];lia
    .rw[bf,dq];refine⟨st.nk,by simp,λa1 h1 b1 h2=>?_⟩;simp at h2;subst h2;rintro rfl;exact hc h1
    .rw[bf,dq];refine⟨st.na,by simp,λa1 h1 b1 h2=>?_⟩;simp at h2;subst h2;rintro rfl;obtain⟨x,hx1,hx2⟩:=aD.mp h1;have:=st.ab x hx1;rw[hx2,zH'] at this;cases this
    .rcases bh.mp hx' with h|h
     .exact st.fr x h
     .rw[aV.mp h];exact⟨zH,zS⟩
    .rcases bh.mp hx' with h|h
     .have hne:x.1≠c:=λzz=>hc (aD.mpr ⟨x,h,zz⟩);rw[et,qh,KH (λzz=>hne zz.symm)];have e1:=st.ab x h;rw[k7 x.2 (ak e1 zH'),k6 x.2 (st.fr x h).2];exact s45 _ _ e1
     .rw[aV.mp h,et,qh,KI rfl,a0];exact y7
    .rw[bf,bh,st.key c',et];constructor
     .rintro (⟨p1,q1,h1⟩|h1)
      .exact⟨p1,q1,dQ _ h1⟩
      .simp at h1;subst h1;exact⟨p,w',by simp⟩
     .rintro⟨p1,q1,h1⟩;rcases bh.mp h1 with h1|h1
      .exact .inl ⟨p1,q1,h1⟩
      .rw[aV] at h1;cases h1;exact .inr (by simp)
  .rintro Z H' ⟨v2,v3,v4,v5,L,rfl,sm,hfz,tps,st⟩;rw[aC,lk,c7] at st;exact⟨_,rfl,q S L H' hS sm st⟩
end
end K15
end
section
namespace L2
open PySem PySem.Spec PyProof.Rows
section
variable {M:Model} {env:Env}
variable {nm q:Str} {C N:Addr} {bs bm:List Value} {hdct:Bool} {sn:List Str} {sub:List Value} {ab:Bool} {col:Option Bool} {dd:Option Addr} {k0 k1 k2 k3 k5:Option Value} {newId:String}
theorem zW {x:Sem Value} {Q:Flow->Shared->Prop} (hbase:bm.contains (.type "BaseException")=true) (hh:A.handled=none)
  (h:wpAny M A x (λv s₁=>∃e d vs sl,v=.ref e/\s₁.heap.get? C=some (excClassObj nm q C N bs bm hdct sn sub ab col dd k0 k1 k2 k3 k5 newId)/\
   s₁.heap.get? e=some {cls:=.ref C,dict:=d,data:=.fields vs,slots:=sl}/\vs[1]?=some .none/\E (.ref e) s₁) E s) :
  wpAny M A (raiseStmt env (some x) none) Q E s:=by
 have hcB:(Value.ref C::bm).contains (.type "BaseException")=true:=by rw[HU,hbase,xD]
 unfold raiseStmt;refine af (dn h (λv s₁ h₁=>?_) λ_ _ x=>x);obtain⟨e,d,vs,sl,rfl,hC,he,hv,hE⟩:=h₁;obtain⟨hp,g,dr,tk,os⟩:=s₁;refine af (aq (af (eg ?_)));unfold excFromValue
 repeat (first|with_reducible refine jj he ?_|with_reducible refine jj hC ?_|(with_reducible refine sQ hC ?_;rw[hcB])|wp_step)
 rw[hv];refine aq ?_;rw[KH (by decide)];exact aq (wpAny_raiseNew_none hh hE)
end
section
variable {prog:Program} {h:Heap} {g:Array GenState} {d:Drawn} {t:Nat} {os:OsState}
variable {nm q:Str} {C N:Addr} {bs bm bmB:List Value} {hdct:Bool} {sn:List Str} {sub:List Value} {ab:Bool} {col:Option Bool} {dd:Option Addr} {k0 k1 k2 k3 k5:Option Value} {B newId initId:String}
theorem AS (F:ExcBaseFacts B newId initId bmB) (T:OwnTail h bmB bm) {rest:List Value} {fI:Addr} {Q:Fin->Shared->Prop} (X:K.In h)
  (hC:h.get? C=some (excClassObj nm q C N bs bm hdct sn sub ab col dd k0 k1 k2 k3 k5 newId)) (hi:W.findIn K (.ref C) "__init__" = some (some (.ref fI))) (hf:W.typeIn K (.ref fI)=some (.type "function"))
  (hq:∀h' e,Heap.MadeExcOf h h' e (.ref C) rest->wpAny (model prog w) A (call (.ref fI) (.ref e::rest)) (λr s'=>r=.none/\Q (.done (.ret (.ref e))) s') E ⟨h',g,d,t,os⟩) (hrest:rest.length<=sizeLine) :
  wpAny (model prog w) A (Builtin.«type.__call__» ⟨.ref C::rest,[]⟩) Q E ⟨h,g,d,t,os⟩:=by
 repeat (first|with_reducible refine jj hC ?_|with_reducible refine wpAny_madeBy_exc hC ?_|wp_step)
 refine codeAny_call_builtin_code (HD _ F.quiet) (wpAny_check_new_subT F T hC (codeAny_exc_new_subT F T hC ?_ hrest));show wpAny _ _ _ _ _ _;generalize hO:({cls:=.ref C,data:=.fields #[.ref h.objs.size,.none,.none,.none,.bool false,.none]}:Obj)=oe;have kp:∀b o,h.get? b=some o->((h.push {cls:=.type "tuple",data:=.seq rest.toArray}).push oe).get? b=some o:=λb o e=>aR _ (aR _ e);have hC₁:=kp _ _ hC;have hget:((h.push {cls:=.type "tuple",data:=.seq rest.toArray}).push oe).get? (h.objs.size+1)=some oe:=by subst hO;heap_get
 have hcls:oe.cls=.ref C:=by subst hO;rfl
 have hcC:(Value.ref C::bm).contains (.ref C)=true:=by simp
 unfold isInstance
 repeat (first|(with_reducible refine jj hget ?_;rw[hcls])|(with_reducible refine sQ hC₁ ?_;rw[hcC])|wp_step)
 show wpAny _ _ (typeLookup (.ref C) _) _ _ _;refine yw X hi _ _ _ _ kp ?_;refine eg (af (IT X _ hf _ _ _ _ kp ?_));refine af (dn (hq _ (h.objs.size+1) ⟨kp,mP (jd _),h.objs.size,by subst hO;exact hget,mP (ar _),?_⟩) (λr s' hr=>?_) λ_ _ x=>x)
 .exact aR _ (HF rfl rfl)
 .obtain⟨rfl,hQ⟩:=hr
  wp_walk
  exact hQ
theorem ux (F:ExcBaseFacts B newId initId bmB) (T:OwnTail h bmB bm) {rest:List Value} {fI:Addr} {Q:Value->Shared->Prop} (X:K.In h)
  (hC:h.get? C=some (excClassObj nm q C N bs bm hdct sn sub ab col dd k0 k1 k2 k3 k5 newId)) (hi:W.findIn K (.ref C) "__init__" = some (some (.ref fI))) (hf:W.typeIn K (.ref fI)=some (.type "function"))
  (hq:∀h' e,Heap.MadeExcOf h h' e (.ref C) rest->wpAny (model prog w) (A.under (.builtin "type.__call__" ⟨.ref C::rest,[]⟩)) (call (.ref fI) (.ref e::rest)) (λr s'=>r=.none/\Q (.ref e) s') E ⟨h',g,d,t,os⟩) (hrest:rest.length<=sizeLine) :
  wpAny (model prog w) A (call (.ref C) rest) Q E ⟨h,g,d,t,os⟩:=by
 have f1:=tc_lookup;have f2:=tc_bind (.ref C);have hT:(⟨h,g,d,t,os⟩:Shared).TypeIs (.ref C) "type":=⟨_,hC,rfl⟩;refine iC (codeAny_of_tree ?_);show wpAny _ _ (callAny (.ref C) _) _ _ _
 repeat (any_goals (first|assumption|with_reducible refine jj hC ?_|wp_step))
 refine⟨rfl,?_⟩;exact codeAny_call_builtin_at (HD _ (by decide +kernel)) entry_typeCall (wpAny_check_type_call_sub hC (AS F T X hC hi hf (λh' e hm=>hq h' e hm) hrest))
end
end L2
end
section
namespace L2
open PySem PySem.Spec PyProof.Rows
section
variable {prog:Program} {h:Heap} {g:Array GenState} {d:Drawn} {t:Nat} {os:OsState}
variable {nm q:Str} {C N:Addr} {bs bm bmB:List Value} {hdct:Bool} {sn:List Str} {sub:List Value} {ab:Bool} {col:Option Bool} {dd:Option Addr} {k0 k1 k2 k3 k5:Option Value} {B newId initId:String}
theorem Bc (F:ExcBaseFacts B newId initId bmB) (T:OwnTail h bmB bm) {e:Addr} {dx:Option Addr} {vs:Array Value} {sl:Array (Option Value)} {rest:List Value} {Q:Value->Shared->Prop}
  (hC:h.get? C=some (excClassObj nm q C N bs bm hdct sn sub ab col dd k0 k1 k2 k3 k5 newId)) (he:h.get? e=some ⟨.ref C,dx,.fields vs,sl⟩) {t0:Addr} (h0:vs[0]?=some (.ref t0)) (hrest:rest.length<=sizeLine)
  (hq:∀h' (v0:Addr),(∀b o,b≠e->h.get? b=some o->h'.get? b=some o)->h'.get? e=some ⟨.ref C,dx,.fields (vs.setIfInBounds 0 (.ref v0)),sl⟩->Q .none ⟨h',g,d,t,os⟩) :
  wpAny (model prog w) A (call (.builtin initId) (.ref e::rest)) Q E ⟨h,g,d,t,os⟩:=by
 refine iC (sI F.init.plain F.initEntry (wpAny_check_init_subT F T hC he rfl ?_))
 wp_walk
 rw[h0];refine aq (af ?_);have e1:(h.push {cls:=.type "tuple",data:=.seq rest.toArray}).get? e=some ⟨.ref C,dx,.fields vs,sl⟩:=aR _ he;refine jk e1 rfl (i7.mp h0).1 ?_
 wp_walk
 refine hq _ h.objs.size (λb o hb hh=>?_) ?_
 .rw[fT _ _ (av hb)];exact aR _ hh
 .exact iy _ e1 rfl
end
def n_:List Value->Bool
 |.ref _::r=>n_ r
 |l=>l==bmV
theorem tj (self:Value):∀{l:List Value},n_ l=true->refuseLoop self "__setattr__" l=pure ()
 |.ref c::r,e=>by rw[refuseLoop_ref];exact tj self e
 |.type n::r,e=>by rw[show Value.type n::r=bmV from beq_iff_eq.mp e];exact PySem.F.store_ValueError.passes self
 | [],e=>by cases e
structure dI (K:W.Frag) (C:Addr) (name:Str):Prop where
 sa:W.findIn K (.ref C) "__setattr__" = some (some (.builtin "object.__setattr__"))
 mo:W.mroIn K C (.type "object")=some true
 ov:(W.clsIn K C).any (λcd=>n_ cd.mro)=true
 no:W.findIn K (.ref C) name=some none
 hd:(W.clsIn K C).any (·.hasDict)=true
section
variable {prog:Program} {x C:Addr} {vs:Array Value} {sl:Array (Option Value)} {name:Str} {v:Value}
theorem DO {Q:Unit->Shared->Prop} (X:K.In s.heap) (hx:s.heap.get? x=some ⟨.ref C,none,.fields vs,sl⟩) (c:dI K C name)
  (hq:∀h' dx tk,s.heap.get? dx=none->dx≠x->(∀b o,b≠x->s.heap.get? b=some o->h'.get? b=some o)->h'.get? x=some ⟨.ref C,some dx,.fields vs,sl⟩->h'.Ns1 dx (λy=>if y=name then some v else none)->Q () {s with heap:=h',toks:=tk}) :
  wpAny (model prog w) A (setAttr (.ref x) name v) Q E s:=by
 have I:W.InstAt s.heap x ⟨.ref C,none,.fields vs,sl⟩ C none:=⟨hx,rfl,rfl,trivial⟩;refine IY X I c.sa ?_;obtain⟨hh,g,d,t,os⟩:=s;have SF:=PySem.F.store_object;obtain⟨cd,hc,ho⟩:=yu c.ov;obtain⟨cd',hc',hd⟩:=yu c.hd;rw[hc] at hc';cases hc';have L0:=I.type (M:=model prog w);have LI:W.Looks (model prog w) hh (isInstance (.ref x) (.type "object")) true:=L0.andThen (W.looks_mroIn X c.mo);refine sI SF.slot.plain SF.entry (@W.check_slot (model prog w) _ _ ⟨hh,g,d,t+1,os⟩ "object.__setattr__" "object" "__setattr__" (.ref x) [.str name t,v] [] _ SF.kind SF.split LI (SF.args (.ref x) (.str name t) v) ?_);have hm:W.Looks (model prog w) hh (mroOf (.ref C)) cd.mro:=(yv X hc).andThen .now;have ha:=yw (M:=model prog w) X c.no;have L1:=yv (M:=model prog w) X hc;rw[W.osa_eq,refuse_eq];refine af (af (L0.at (af (hm.at ?_))));rw[tj _ ho];refine aq (af (L0.at (af (ha.at (af (aq ?_))))));show wpAny _ _ (Builtin.ObjectAttr.storeInOwnDict _ _ _ _ _ _) _ _ _;unfold Builtin.ObjectAttr.storeInOwnDict Builtin.ObjectAttr.ownDictForStores;refine af (aq ?_);dsimp only;rw[KH (show ¬((Value.ref C==Value.type "module")=true) by simp)];unfold instanceDict;refine af (af (yP hx ?_));refine af (L1.at ?_);rw[hd];have hx1:(hh.push {cls:=.type "dict",data:=.dict #[]}).get? x=some ⟨.ref C,none,.fields vs,sl⟩:=aR _ hx;have hxs:x≠hh.objs.size:=bJ (aK hx);refine af (wpAny_alloc' ?_);refine af (wpAny_update' hx1 ?_);refine aq ?_;have e2:((hh.push {cls:=.type "dict",data:=.dict #[]}).update x λo=>{cls:=o.cls,dict:=some hh.objs.size,data:=o.data,slots:=o.slots}).get? x=some ⟨.ref C,some hh.objs.size,.fields vs,sl⟩:=iy _ hx1 rfl;have hnd:((hh.push {cls:=.type "dict",data:=.dict #[]}).update x λo=>{cls:=o.cls,dict:=some hh.objs.size,data:=o.data,slots:=o.slots}).Ns hh.objs.size (λ_=>none):=
  ⟨_,#[],_,(oZ _ _ _ _ hxs.symm).trans (HF rfl rfl),rfl,λe he=>absurd he (by simp),λ_=>rfl⟩
 show wpAny _ _ (Builtin.ObjectAttr.storeInDict hh.objs.size (.str name t) name v) _ _ _;unfold Builtin.ObjectAttr.storeInDict Builtin.ObjectAttr.newKeyGuard;refine af (aq (af (wpAny_nsSet1 (HE hnd) λh' hn' hs=>?_)));obtain⟨oD,esD,epD,hoD,hdD,hcD⟩:=hn'.count (Within.cons name v Within.nil);refine af (Jz hoD (by rw[hdD];exact Jh (cF hcD (by rw[bQ,ja,dv];lia))) ?_);refine aq ?_;refine hq h' hh.objs.size _ (mP (ar _)) hxs.symm (λb o hb e=>?_) ((hs.2 x hxs).trans e2) hn';exact (hs.2 b (bJ (aK e))).trans ((oZ _ _ _ _ hb).trans (aR _ e))
end
end L2
end
section
namespace L2
open PySem PySem.Spec PyProof.Rows PySem.W
section
variable {prog:Program} {x D:Addr} {ox od:Obj} {name:Str} {v:Value} {expr:Bool}
theorem v9 {Q:Value->Shared->Prop} (X:K.In s.heap) (c:fP K D) (cf:dI K D name) (I:W.InstAt s.heap x ox D (some od)) (hl:lookIn name od=some (some v)) (hv:handedIn v=true)
  (h:Q v {s with toks:=s.toks+1}):wpAny (model prog w) A (getAttr (.ref x) name expr) Q E s:=by
 obtain⟨hh,g,d,t,os⟩:=s;have L0:=I.type (M:=model prog w);have L1:=sJ (M:=model prog w) X c.ga;have L2:=sJ (M:=model prog w) X c.ha;have hf:findObj K D (some od) name=some (.value v):=findObj_own cf.hd cf.no rfl hl;have L3:=looks_find (M:=model prog w) X I hf;have L4:=looks_mroIn (M:=model prog w) X c.mb;have hx2:(onTheHeap (Value.ref D)&&Value.builtin "BaseException.__getattribute__"==Value.builtin "object.__getattribute__")=false:=by
  have:(Value.builtin "BaseException.__getattribute__"==Value.builtin "object.__getattribute__")=false:=by decide +kernel
  rw[this];rfl
 unfold getAttr getAttrBy;refine af (wpAny_mkText (eg (af (L0.at (af (L1.at ?_))))));dsimp only;rw[hx2];show wpAny _ _ (getAttrByItsOwn _ _ _ _ _ _) _ _ _;unfold getAttrByItsOwn hookBefore;refine af ?_;show wpAny _ _ (typeLookup (.ref D) "__getattr__") _ _ _;refine L2.at (af (jg (eg ?_)));unfold callGetattribute;rw[show (expr&&onTheHeap (Value.builtin "BaseException.__getattribute__"))=false from oY _,KH (by decide)];unfold boundAndCalled;rw[F.excAttr_ValueError.ga.bind (.ref x)];refine af (aq ?_);refine iC (sI F.excAttr_ValueError.ga.plain F.entry_bexc_ga ?_);have hk:builtinKind "BaseException.__getattribute__" = some .slot:=by decide +kernel
 have hsplit:splitId "BaseException.__getattribute__" = some ("BaseException","__getattribute__"):=by decide +kernel
 have LI:Looks (model prog w) hh (isInstance (.ref x) (.type "BaseException")) true:=L0.andThen L4;refine @check_slot (model prog w) _ _ ⟨hh,g,d,t+1,os⟩ "BaseException.__getattribute__" "BaseException" "__getattribute__" (.ref x) [.str name t] [] _ hk hsplit LI (F.args_bexc_ga (.ref x) (.str name t)) ?_;unfold Builtin.«object.__getattribute__»;refine af (m:=slotArgs _ _ _) (kd (a:=(.ref x,[.str name t])) rfl ?_);refine af (kd (a:=name) rfl ?_);refine af (L0.at (af (L3.at ?_)));refine aq ?_;exact handed_on hv h
end
def a7 (x C:Addr) (d:Option Addr):HO:=.ext λh=>∃(vs:Array Value) (sl:Array (Option Value)) (t0:Addr),h.get? x=some ⟨.ref C,d,.fields vs,sl⟩/\vs[0]?=some (.ref t0)/\vs[1]?=some .none/\vs[2]?=some .none
theorem lq {h:Heap} {x C:Addr} {d:Option Addr} {vs:Array Value} {sl:Array (Option Value)} {t0:Addr} (e:h.get? x=some ⟨.ref C,d,.fields vs,sl⟩) (h0:vs[0]?=some (.ref t0)) (h1:vs[1]?=some .none) (h2:vs[2]?=some .none) :
  aQ P w H h x (a7 x C d):=by
 refine⟨⟨vs,sl,t0,e,h0,h1,h2⟩,⟨_,e⟩,λa b p k=>?_⟩;obtain⟨vs,sl,t0,e,r⟩:=p;exact⟨vs,sl,t0,k _ e,r⟩
def ia (K:W.Frag) (C:Addr):Bool:=(L2.clsIn K C).any λbm=>tailIn K bmV bm
theorem p7 {C:Addr} {h:Heap} (X:K.In h) (q:ia K C=true) :
  ∃bm N nm q bs hdct sn sub ab col dd k0 k1 k2 k3 k5,h.get? C=some (excClassObj nm q C N bs bm hdct sn sub ab col dd k0 k1 k2 k3 k5 "ValueError.__new__")/\OwnTail h bmV bm:=by
 unfold ia at q;cases e:L2.clsIn K C with
 |none=>rw[e] at q;cases q
 |some bm=>
  rw[e] at q;obtain⟨N,nm,q',bs,hd,sn,sub,ab,col,dd,k0,k1,k2,k3,k5,hC⟩:=qB X e;exact⟨bm,N,nm,q',bs,hd,sn,sub,ab,col,dd,k0,k1,k2,k3,k5,hC,tail_of_in X q⟩
structure BInit (K:W.Frag) (S:Addr):Prop where
 sp:specialIn K (.ref S) "__getattribute__" = some (some (.builtin "type.__getattribute__"))
 rd:readsIn K S (.type "type")=true
 fd:findCls K (.ref S) (.type "type") "__init__" = some (.val (.builtin "ValueError.__init__"))
section
variable {y:Str} {S:Addr} {p apos pos:Pos} {e o value:Expr} {es:List Expr} {t:TA} {ta tv:TE} {f:Str}
def Es (K:W.Frag) (t:TA):TE:=λZ H Q=>t Z H λvs H1=>∃(x C:Addr) (rest:List V),vs=.ref x::rest/\H1 x=some (a7 x C none)/\ia K C=true/\rest.length<=sizeLine/\Q .non H1
theorem p6 {pl:Sem Bool} (hg:Gl X y) (hm:X.mg y=some (.ref S)) (b:BInit X.K S) (ha:PA X (e::es) t) (hdb:(y==("__debug__" : Str))=false:=by decide)
  (hst:starEach (e::es) X.env=(false,eval e X.env)::starEach es X.env:=by rfl) (hpl:(backTo pos (starEach es X.env)).any (·.1)=false:=by rfl)
  (ht:eval (.Call (.Attribute (.Name y p) "__init__" apos) (e::es) [] pos) X.env=(do
   let ov <-eval (.Name y p) X.env
   standAt apos.atName
   let (f,first) <-holding [ov] (getMethod ov "__init__" pl)
   callWith pos f first (backTo pos (starEach (e::es) X.env)) (backToKw pos (keywordEach [] X.env))):=by rfl) :
  PE X (.Call (.Attribute (.Name y p) "__init__" apos) (e::es) [] pos) (Es X.K t):=by
 intro pins s Z H Q I h;refine methodCall_KW (pl:=pl) (gd I hg hm ?_ hdb) ht;refine method_cls I.kIn b.sp (cls_value I.kIn b.rd b.fd rfl ?_);have hA:=ha pos pins {s with toks:=s.toks+1} Z H _ (I.tok _) h;show wpAny _ _ (callWith pos (.builtin "ValueError.__init__") [] _ []) _ _ _;rw[hst] at hA |-;refine mK (by show (false||(backTo pos (starEach es X.env)).any (·.1))=false;rw[hpl]<;>rfl) (mL ?_);refine thn hA λus s1 ⟨vs,H1,I1,r1,x,C,rest,ev,hx,hov,hz,q1⟩=>?_;subst ev
 match us,r1 with
 |u::us',.cons ru rr=>
  obtain rfl:u=Value.ref x:=ru;obtain⟨bm,N,nm,q',bs,hd,sn,sub,ab,col,dd,k0,k1,k2,k3,k5,hC,T⟩:=p7 I1.kIn hov;obtain⟨⟨wv,sl,t0,hxo,h0,h1,h2⟩,_⟩:=(show aQ X.prog X.w H1 s1.heap x (a7 x C none) from I1.hok x _ hx);obtain⟨hh,g,d,tk,os⟩:=s1;refine Bc j7 T hC hxo h0 (by rw[<-rr.length];exact hz) λh' v0 keep here=>?_;have z0:(0:Nat)<wv.size:=(i7.mp h0).1;have I2:=I1.write (x:=x) (e:=x) (o:=a7 x C none) (h':=h') (t':=tk) (by rw[hx];exact True.intro) (.inl rfl) keep ⟨_,here⟩
   (lq here (t0:=v0) (by simp[z0]) (by rw[xC (by decide)];exact h1) (by rw[xC (by decide)];exact h2))
  have e1:upd H1 x (a7 x C none)=H1:=by
   funext b;by_cases hb:b=x
   .subst hb;rw[aO,hx]
   .rw[aj hb]
  rw[e1] at I2;exact⟨.non,H1,I2,rfl,q1⟩
def Gk (K:W.Frag) (ta tv:TE) (f:Str):TS:=λD Z H=>tv Z H λy H1=>ta Z H1 λx H2=>∃a C,x=.ref a/\H2 a=some (a7 a C none)/\dI K C f/\
 ∀dx,H2 dx=none->dx≠a->D.nx Z (upd (upd H2 a (a7 a C (some dx))) dx (.xd [(f,y)]))
theorem qu (ha:PE X o ta) (hv:PE X value tv) (hs:swapsWith value (some (.Attribute o f apos)) pos.line X.env=pure false):PS X (.Assign [.Attribute o f apos] value pos) (Gk X.K ta tv f):=by
 intro pins s Z H D I h;refine Ji (thn (hv pins s Z H _ I h) λu s1 ⟨y,H1,I1,ry,q⟩=>thn (ha pins s1 Z H1 _ I1 q) λov s2 ⟨x,H2,I2,rx,a,C,ex,ea,cf,q2⟩=>?_) hs;subst ex;obtain rfl:ov=Value.ref a:=rx;obtain⟨⟨wv,sl,t0,hxo,h0,h1,h2⟩,_⟩:=(show aQ X.prog X.w H2 s2.heap a (a7 a C none) from I2.hok a _ ea);refine DO I2.kIn hxo cf λh' dx tk hdn hne keep here hns=>?_;have hdH:H2 dx=none:=I2.hok.none_of' hdn;have nd:∀b ob,s2.heap.get? b=some ob->b≠dx:=λb ob e z=>by rw[z,hdn] at e;cases e
 have ndH:∀b ob,H2 b=some ob->b≠dx:=λb ob e z=>by rw[z,hdH] at e;cases e
 have na:∀b,H2 b=none->b≠a:=λb e z=>by rw[z,ea] at e;cases e
 have up:∀b,b≠dx->b≠a->upd (upd H2 a (a7 a C (some dx))) dx (.xd [(f,y)]) b=H2 b:=λb z1 z2=>by rw[aj z1,aj z2]
 have un:Un X.fs [] H2 (upd (upd H2 a (a7 a C (some dx))) dx (.xd [(f,y)])) s2.heap h':=by
  refine⟨λb ob e n _ _=>keep b ob (na b n) e,λb ob e n _ _=>⟨ob.slots,keep b ob (na b n) e⟩,λb ob e n _=>by rw[up b (nd b ob e) (na b n)];exact n,λb ob e _=>?_,λb xs e=>?_,λb ob xs e=>?_,λb ps e=>⟨#[],?_⟩⟩
  .by_cases hb:b=a
   .rw[hb];exact⟨_,here⟩
   .exact⟨_,keep b ob hb e⟩
  .rw[up b (ndH b _ e) (λz=>by rw[z,ea] at e;cases e)];exact e
  .rw[up b (ndH b _ e) (λz=>by rw[z,ea] at e;cases e)];exact e
  .rw[up b (ndH b _ e) (λz=>by rw[z,ea] at e;cases e),e];simp
 have hok:HOk X.prog X.w (upd (upd H2 a (a7 a C (some dx))) dx (.xd [(f,y)])) h':=λb ob e=>by
  by_cases hb:b=dx
  .subst hb;rw[aO] at e;cases e;refine⟨_,hns,λg=>?_⟩;show dB (List.lookup g [(f,y)]) (if g=f then some u else none);by_cases hg:g=f
   .have hb:(g==f)=true:=beq_iff_eq.mpr hg;simp only[List.lookup,hb,KI hg];exact ry
   .have hb:(g==f)=false:=beq_eq_false_iff_ne.mpr hg;simp only[List.lookup,hb,KH hg];trivial
  .by_cases hba:b=a
   .subst hba;rw[aj hb,aO] at e;cases e;exact lq here h0 h1 h2
   .rw[up b hb hba] at e;refine (I2.hok b ob e).stay (λc w' hc r=>keep c w' (λz=>?_) r) (λc r=>?_) λc xs r=>?_
    .rcases hc with z' | z'
     .exact hba (z'.symm.trans z)
     .rw[z,ea] at z';cases z'
    .rw[up c (ndH c _ r) (λz=>by rw[z,ea] at r;cases r)];exact r
    .rw[up c (ndH c _ r) (λz=>by rw[z,ea] at r;cases r)];exact r
 exact⟨Z,_,I2.un (t':=tk) un hok,q2 dx hdH hne⟩
def FN (K:W.Frag) (ta:TE) (f:Str):TE:=λZ H Q=>ta Z H λx H1=>∃a C dx fs v,x=.ref a/\H1 a=some (eB a (.ref C) (some dx))/\H1 dx=some (.xd fs)/\fP K C/\dI K C f/\fs.lookup f=some v/\Q v H1
theorem Dr (he:PE X e ta) (hb:attributeBase e f X.env (eval e X.env)=eval e X.env):PE X (.Attribute e f pos) (FN X.K ta f):=by
 intro pins s Z H Q I h;refine wj hb (thn (he pins s Z H _ I h) λu s1 ⟨x,H1,I1,rx,a,C,dx,fs,v,ex,ea,ed,c,cf,l,q⟩=>?_);subst ex;obtain rfl:u=Value.ref a:=rx;obtain⟨⟨oe,vs,h1,h2,h3,h4,_⟩,_⟩:=(show aQ X.prog X.w H1 s1.heap a (eB a (.ref C) (some dx)) from I1.hok a _ ea);obtain⟨mA,hns,hr⟩:=(show aQ X.prog X.w H1 s1.heap dx (.xd fs) from I1.hok dx _ ed);obtain⟨od,hod,hl⟩:=kq hns;obtain⟨u',hu,ru⟩:=dB.some_of (v:=v) (o:=mA f) (by rw[<-l];exact hr f);refine v9 I1.kIn c cf ⟨h1,h2,?_,?_⟩ (by rw[hl f,hu]) (uu ru) ⟨v,H1,I1.tok _,ru,q⟩
 .unfold W.notCls;rw[h4]
 .rw[h3];exact hod
end
structure eU (K:W.Frag) (C f:Addr):Prop where
 over:ia K C=true
 init:findIn K (.ref C) "__init__" = some (some (.ref f))
 fn:typeIn K (.ref f)=some (.type "function")
 kp:keepIn K (.ref C)=true
def del (H:Hp) (x:Addr):Hp:=λb=>if b=x then none else H b
theorem eI {x b:Addr} (h:b≠x):del H x b=H b:=by unfold del;rw[KH h]
theorem vn {x:Addr}:del H x x=none:=by unfold del;rw[KI rfl]
section
variable {E:XK} {k:Nat} {x:Str} {C f:Addr} {ps:List Str} {sp:Sp} {np cpos pos:Pos} {e:Expr} {es:List Expr} {t:TA}
def CN (E:XK) (C:Addr) (sp:Sp) (t:TA):TS:=λ_ Z H=>t Z H λvs H1=>vs.length<=sizeLine/\∀x,H1 x=none->sp (.ref x::vs) (upd H1 x (a7 x C none)) (λv H2=>v=.non/\∃d,H2 x=some (a7 x C d)/\E (.ref C) d (del H2 x)) E0
theorem pS (hE:Lets X E) (hc:X.calm=true) (hnx:X.ex=[]) (M:eU X.K C f) (F:ag X.prog X.w X.K X.mg X.base CX0 k f fd ps sp) (hr:Room (k+1) X.A) (hb:Binds X.K fd ps []) (hg:Gl X x) (hm:X.mg x=some (.ref C)) (ha:PA X (e::es) t)
  (he:starEach (e::es) X.env=(false,eval e X.env)::starEach es X.env:=by rfl) (hpl:(backTo cpos (starEach es X.env)).any (·.1)=false:=by rfl) (hd:(x==("__debug__" : Str))=false:=by decide) :
  PS X (.Raise (some (.Call (.Name x np) (e::es) [] cpos)) none pos) (CN E C sp t):=by
 intro pins s Z H D I h;obtain⟨bm,N,nm,q',bs,hdc,sn,sub,ab,col,dd,k0,k1,k2,k3,k5,hC,T⟩:=p7 I.ok.mod.kin M.over;rw[arm_exec_Raise];show wpAny _ _ (do standAt pos;raiseStmt X.env (some (do let v <-eval (.Call (.Name x np) (e::es) [] cpos) X.env;standAt pos;pure v)) none) _ _ _;refine af (nz (zW (nm:=nm) (q:=q') (C:=C) (N:=N) (bs:=bs) (bm:=bm) (hdct:=hdc) (sn:=sn) (sub:=sub) (ab:=ab) (col:=col) (dd:=dd) (k0:=k0) (k1:=k1) (k2:=k2) (k3:=k3) (k5:=k5) (newId:="ValueError.__new__") (T.hasType j7.hasBase) (I.ok.hd hc) ?_));refine af (dn (j_ (gd I hg hm ?_ hd)) (λv s₃ h₃=>af (nz (aq h₃))) λ_ _ z=>z);refine yz (h₀:=X.base) I.ok.mod.kin M.kp (thn (ha cpos pins s Z H _ I h) λus s1 ⟨vs,H1,I1,r,hz,q⟩=>⟨I1.kIn,?_⟩) he hpl;obtain⟨hh,g,d,tk,os⟩:=s1;show wpAny _ _ (call (.ref C) us) _ _ _;refine ux j7 (T.keeps I1.bk) I1.kIn (I1.bk _ _ hC) M.init M.fn (λh' x' me=>?_) (by rw[<-r.length];exact hz);obtain⟨tt,hx',_,_⟩:=me.there;have hnew:hh.get? x'=none:=me.new;have hxH:H1 x'=none:=I1.hok.none_of' hnew;have hok1:HOk X.prog X.w (upd H1 x' (a7 x' C none)) h':=λb ob e=>by
  by_cases hb:b=x'
  .subst hb;rw[aO] at e;cases e;exact lq hx' rfl rfl rfl
  .rw[aj hb] at e;exact (I1.hok b ob e).stay (λc w' _ r=>me.keeps c w' r) (λc r=>by rw[aj (ak r hxH)];exact r) λc xs r=>by rw[aj (ak r hxH)];exact r
 have e0:gA X.prog X.w X.K X.mg X.base X.A X.stack ⟨h',g,d,tk,os⟩ (upd H1 x' (a7 x' C none)):=by
  have E1:=I1.env0;refine⟨E1.frames,E1.mod,λb ob e=>?_,?_,E1.funs.of_keeps λb o hb _=>⟨o,me.keeps _ _ hb,rfl⟩,λb hb=>?_,hok1,E1.bare⟩
  .obtain⟨a1,a2⟩:=E1.bs b ob e;exact⟨me.keeps _ _ a1,by rw[aj (λz=>by rw[z] at a1;have a1:hh.get? x'=_:=a1;rw[hnew] at a1;cases a1)];exact a2⟩
  .obtain⟨m,⟨o,es,ep,ho,_⟩,_⟩:=I1.loc;exact cF I1.ok.bsz (cF I1.ok.above (jc (aK (me.keeps _ _ ho))))
  .rw[aj (λz=>?_)];exact E1.frf b hb;obtain⟨_,o,ho,_⟩:=E1.funs.mem hb;rw[z] at ho;have ho:hh.get? x'=_:=ho;rw[hnew] at ho;cases ho
 have hl:(Value.ref x'::us++[]).length=ps.length:=by have e:=(show Vals (V.ref x'::vs) (Value.ref x'::us) from .cons rfl r).length;rw[F.len _ _ _ _ (q x' hxH)] at e;rw[eL];exact e.symm
 have kin':X.K.In h':=I1.kIn.keeps me.keeps;have bb:=hb ⟨h',g,d,tk,os⟩ (Value.ref x'::us) kin' hl;rw[eL] at bb;refine iC (nr (F.run _ X.stack _ _ ⟨Value.ref x'::us,[]⟩ (Value.ref x'::us) (V.ref x'::vs) _ E0 (hr.make C us []) (e0.make C us []) bb (.cons rfl r) (q x' hxH)) λr' s' hq'=>?_);cases r' with
 |error e=>exact hq'.elim
 |ok fl=>
  cases fl with
  |next=>exact hq'.elim
  |brk=>exact hq'.elim
  |cont=>exact hq'.elim
  |ret u=>
   obtain⟨v,H',os',bare',un',hok',rv,ev,d',hx2,q2⟩:=hq';subst ev;have os':s'.os=os:=os';refine⟨rv,?_⟩;have nx:∀b ob,hh.get? b=some ob->b≠x':=λb ob e z=>by rw[z,hnew] at e;cases e
   have nxH:∀b ob,H1 b=some ob->b≠x':=λb ob e z=>by rw[z,hxH] at e;cases e
   have un:Un (frs X.stack) [] H1 (del H' x') hh s'.heap:=by
    refine⟨λb ob e n hb hx=>un'.keep b ob (me.keeps _ _ e) (by rw[aj (nx b ob e)];exact n) hb hx,λb ob e n hb hx=>un'.slot b ob (me.keeps _ _ e) (by rw[aj (nx b ob e)];exact n) hb hx,
     λb ob e n hx=>by rw[eI (nx b ob e)];exact un'.free b ob (me.keeps _ _ e) (by rw[aj (nx b ob e)];exact n) hx,λb ob e hx=>un'.there b ob (me.keeps _ _ e) hx,
     λb xs e=>by rw[eI (nxH b _ e)];exact un'.tups b xs (by rw[aj (nxH b _ e)];exact e),λb ob xs e=>by rw[eI (nxH b _ e)];exact un'.frzs b ob xs (by rw[aj (nxH b _ e)];exact e),λb ps e=>?_⟩
    obtain⟨more,z⟩:=un'.tbls b ps (by rw[aj (nxH b _ e)];exact e);exact⟨more,by rw[eI (nxH b _ e)];exact z⟩
   have hok2:HOk X.prog X.w (del H' x') s'.heap:=λb ob e=>by
    have hb:b≠x':=λz=>by rw[z,vn] at e;cases e
    rw[eI hb] at e;refine (hok' b ob e).stay (λ_ _ _ r=>r) (λc r=>?_) λc xs r=>?_
    .rw[eI (λz=>by rw[z,hx2] at r;cases r)];exact r
    .rw[eI (λz=>by rw[z,hx2] at r;cases r)];exact r
   have I3:=I1.call' (ch:=[]) os' un hok2 bare' (λb z=>absurd z (by simp));obtain⟨⟨wv,sl,t0,hxo,h0,h1,h2⟩,_⟩:=(show aQ X.prog X.w H' s'.heap x' (a7 x' C d') from hok' x' _ hx2);refine⟨x',d',wv,sl,rfl,I3.bk _ _ hC,hxo,h1,?_⟩;refine hE pins Z _ s' x' (.ref C) d' I3 ⟨_,wv,hxo,rfl,rfl,rfl,h2,.inl h1⟩ (I1.oldNone hnew (by rw[hnx];simp)) (λp hp z=>?_) vn q2;have e:=(I1.pin p hp).1;rw[z] at e;have e:hh.get? x'=_:=e;rw[hnew] at e;cases e
end
end L2
end
section
namespace L2
open PySem PySem.Spec PyProof.Rows
section
def GE (K:W.Frag):V->Hp->VK->Prop:=λx H Q=>∃d:PyData,Dt K H x d/\d.showable=true/\d.depth<=60/\d.shown.length<=sizeLine/\Q (.str d.shown) H
theorem qy {e:Expr} {te:TE} {pos:Pos} (hu:X.A.units+64<cLine) (hg:X.A.guards=some []) (he:PE X e te):PE X (.FormattedValue e 114 none pos) (tUn (GE []) te):=by
 intro pins s Z H Q I h;refine wpAny_FormattedValue_repr (thn (he pins s Z H _ I h) λu s1 ⟨x,H1,I1,ru,d,hd,hs,hz,hl,q⟩=>?_);obtain⟨as,ra⟩:=Dt.reads I1 d x u hd ru;have hc:=PyData.hasDict_of_canLay d (Dt.can d x hd);have fin:∀(s2:Shared) (t:Tok),Inv X pins Z H1 s2->wpAny (model X.prog X.w) X.A (formatField (.str d.shown t) Str.empty) (EP X pins Z Q) X.xe s2:=λs2 t I2=>
  Jw ⟨.str d.shown,H1,I2,⟨_,rfl⟩,q⟩ ⟨.str d.shown,H1,I2.tok _,⟨_,rfl⟩,q⟩ hl
 cases hd with
 |non=>cases ru;exact pyReprObj_none (fin _ _ (I1.tok _))
 |bl b=>cases ru;exact pyReprObj_bool (fin _ _ (I1.tok _))
 |int i=>obtain⟨t,rfl⟩:=ru;exact pyReprObj_int (by simpa [PyData.showable] using hs) (fin _ _ (I1.tok _))
 |str y hy=>obtain⟨t,rfl⟩:=ru;exact pyReprObj_str (fin _ _ (I1.tok _)) (hx:=hl)
 |lst h1 h2=>
  cases ru;exact Jj ra hs (IB hc) hg (by lia) (λ_ _ z=>z) (λh' u tk k=>fin _ _ (I1.kept k)) (hsz:=hl)
 |tup h1 h2=>
  cases ru;exact Jj ra hs (IB hc) hg (by lia) (λ_ _ z=>z) (λh' u tk k=>fin _ _ (I1.kept k)) (hsz:=hl)
end
end L2
end
section
namespace K15
open PySem L2 K51 K31
def Am (K:W.Frag) (vs:List V) (H:Hp) (Q:VK) (x C:Addr) (v:V) (d:PyData):Prop:=vs=[.ref x,v]/\H x=some (a7 x C none)/\ia K C=true/\dI K C "fault"/\
 (Dt [] H v d/\d.showable=true/\d.depth<=60/\d.shown.length<=10000)/\∀dx,H dx=none->dx≠x->Q .non (upd (upd H x (a7 x C (some dx))) dx (.xd [("fault",v)]))
def jt (K:W.Frag):Sp:=λvs H Q _=>Exists (Ex4 (Am K vs H Q))
section
theorem BB:bc ["self","fault"] ["self","fault"] (aE gY):=by walk_at"sc"
theorem AG {f S:Addr} (U:Fun K "__init__" "NoSkin.__init__" gY f fd) (mS:mg "ShapeError" = some (.ref S)) (b:BInit K S):ag P w K mg base CX0 1 f fd ["self","fault"] (jt K):=by
 refine U.ok BB (λvs H Q E h=>?_) (λcdv A outer s H vs Q E hr h=>?_)
 .obtain⟨x,C,v,d,rfl,_⟩:=h;rfl
 .obtain⟨x,C,v,d,rfl,hx,ho,hf,⟨d1,d2,d3,d4⟩,q⟩:=h;refine⟨_,ah (cU (p6 rfl mS b (aa (pv 0) (aa (n8 (fZ cw (fZ (qy hr.units hr.gu (pv 1)) oA))) ae)))) (ao (qu (pv 0) (pv 1) rfl)),?_⟩;have l0:(Str.empty++("no skin: " : Str)).length<=20:=by decide +kernel
  have hz:10020<=sizeLine:=by rw[dv];lia
  have l1:((Str.empty++("no skin: " : Str))++d.shown).length<=sizeLine:=by rw[eN];lia
  refine⟨_,rfl,_,rfl,by lia,_,rfl,d,d1,d2,d3,by lia,_,rfl,l1,l1,x,C,_,rfl,hx,ho,by show 1<=sizeLine;lia,?_⟩;exact⟨_,rfl,_,rfl,x,C,rfl,hx,hf,λdx h1 h2=>q dx h1 h2⟩
end
def mw (c:Nat):PyData:=.tuple [.str "round",.int (c:Int)]
theorem vh {c:Nat} (h:c<10 ^ 60):(mw c).showable=true/\(mw c).depth<=60/\(mw c).shown.length<=10000:=by
 refine⟨?_,?_,?_⟩
 .show (true&&(decide (((c:Nat):Int).natAbs.log2<1920)&&true))=true;rw[KJ (fB h)];rfl
 .show max 0 (max 0 0)+1<=60;decide
 .have h1:((toString ((c:Nat):Int):String):Str).length<=60:=by rw[ql,qi];exact nG 59 c h
  show (tupleText [reprText "round",(toString ((c:Nat):Int):String)]).length<=10000;have h2:(reprText "round").length<=20:=by decide +kernel
  unfold tupleText;rw[eN,eN];have h3:=yI [reprText "round",(toString ((c:Nat):Int):String)] (by simp);have h4:(("(" : Str)).length=1:=by decide +kernel
  have h5:(Str.ofString ")").length=1:=by decide +kernel
  have h6:piled [reprText "round",((toString ((c:Nat):Int):String):Str)]<=100:=by generalize ((toString ((c:Nat):Int):String):Str)=z at h1;simp[piled];lia
  show _+_+(Str.ofString ")").length<=_;lia
def CZ (C:Addr) (vs:List V) (H:Hp) (Q:VK) (E:XK) (S:Addr) (ts:List Tri) (L:List (Nat×Addr)):Prop:=vs=[.ref S]/\H S=some (.dK (L.map stV))/\(L.map (·.1)).Nodup/\(∀x∈L,Rd H x.2 (.dK ((abt (ents ts) x.1).map nmV)))/\
 (∀c,c∈L.map (·.1)↔Co ts c)/\L.length<5000/\ts.length<=200/\Good ts/\((∀c,Co ts c->One (En ts) c)\/∀c,Co ts c->c<10 ^ 60)/\
 (∀H',Sm H H'->(∀c,Co ts c->One (En ts) c)->Q .non H')/\
 ∀(c:Nat) d t H',Sm H H'->H' d=some (.xd [("fault",.ref t)])->H' t=some (.tup [.str "round",.int (c:Int)])->Co ts c->¬One (En ts) c->(∀c',Co ts c'->c'<c->One (En ts) c')->E (.ref C) (some d) H'
def wG (C:Addr):Sp:=λvs H Q E=>Exists (Ex3 (CZ C vs H Q E))
theorem FL {ts:List Tri} (g:Good ts) (c:Nat):Abt (En ts) c (abt (ents ts) c):=⟨FM g.nd c,λ_ _=>om⟩
section
theorem vM:bc ["steps","corner"] ["steps"] (aE lH):=by walk_at"sc"
theorem BX {f f1 f2 C:Addr} {fd d1 d2:FuncData} (U:Fun K "look_rounds_through" "look_rounds_through" lH f fd) (mS:mg "sorted" = none) (G:ag P w K mg base CX0 2 f1 d1 ["about"] wH) (b1:Binds K d1 ["about"] []) (m1:mg "hang_together" = some (.ref f1)) (k1:W.keepIn K (.ref f1)=true)
  (M:eU K C f2) (cf:dI K C "fault") (F:ag P w K mg base CX0 1 f2 d2 ["self","fault"] (jt K)) (b2:Binds K d2 ["self","fault"] []) (mC:mg "NoSkin" = some (.ref C)) :
  ag P w K mg base (CX1 P w) 3 f fd ["steps"] (wG C):=by
 refine U.ok1 vM (λvs H Q E h=>?_) (λcdv A outer s H vs Q E hr h=>?_)
 .obtain⟨S,ts,L,rfl,_⟩:=h;rfl
 .obtain⟨S,ts,L,rfl,hS,nk,hab,hkey,hL,hl,g,hbd,q1,q2⟩:=h;have hu:=dA hr;refine⟨_,ao (cD su rfl (cC (aL (nA rfl) (by rfl) mS jm (aa (pv 0) ae))) (ay (i:=1) vM.nd rfl (.inl rfl))
   (ao (br (eA (cQ (aw G hr rfl m1 k1 b1 .nil pass0 (aa (jD hu (pv 0) (pv 1) (λ_ _=>rfl)) ae)))) (ao (pS lets1 rfl rfl M F hr b2 rfl mC (aa (aI (aa cw (aa (pv 1) ae))) ae))) bK))),?_⟩
  have hline:=line5000;refine⟨_,rfl,S,rfl,.inl ⟨_,hS⟩,λks vs hk=>.inl ⟨(L.map (·.1)).map (λc:Nat=>(c:Int)),?_,by rw[aC,aC];exact hL,λp ms hp pm ps=>?_⟩⟩
  .rcases hk with ⟨kvs,e,rfl,_⟩|⟨kvs,as,e,_⟩
   .rw[hS] at e;cases e;rw[cq,cq,cq];rfl
   .rw[hS] at e;cases e
  obtain⟨cs,rfl,pl,pc⟩:=pP nk pm ps;have e:(cs.map (λc:Nat=>(c:Int))).map V.int=nV cs:=by rw[cq];rfl
  rw[e];walk_at"H p hp H1 s1 y1";refine⟨p,rfl,⟨_,SqL.of y1⟩,eu (K:=[]) (a:=p) (xs:=nV cs) (λi Z H'=>∃o1,Z=[some (.ref S),o1]/\Sm H1 H'/\∀c∈cs.take i,One (En ts) c) ⟨none,rfl,Sm.refl _,by simp⟩ (λi Z H' _ ⟨_,_,e,_⟩=>SqL.of (e.keep y1 (λz=>z))) ?_ ?_⟩
  .rintro i x Z H2 hi ⟨o1,rfl,sm,hone⟩;rw[nV,bp] at hi;obtain⟨c,hc,rfl⟩:=cT.mp hi;have hcm:c∈L.map (·.1):=pc.mem_iff.mp (bE hc);have hco:Co ts c:=(hkey c).mp hcm;obtain⟨a,ha,hval⟩:=qF hcm;have smH:Sm H H2:=(Sm.of s1).trans sm;have hrd:=smH.rd (hab _ ha);have et:cs.take (i+1)=cs.take i++[c]:=by rw[bV,hc];rfl
   have hne:abt (ents ts) c≠[]:=λz=>by
    obtain⟨p',q',h⟩:=hco;have:=om.mpr h;rw[z] at this;cases this
   have hlen:(abt (ents ts) c).length<=1000:=by have:=wo (ents ts) c;rw[e_] at this;lia
   refine⟨_,rfl,_,rfl,S,_,rfl,.inl ⟨_,Sum.inl (c:Int),smH.rd (.inl hS),rfl,hval.symm⟩,a,_,En ts,c,rfl,hrd,hne,hlen,g.sk,FL g c,λb H3 sm3 hb=>?_⟩;refine⟨_,rfl,?_⟩;cases b with
   |true=>
    refine iY ⟨_,rfl,sm.trans sm3,λc' hc'=>?_⟩;rw[et] at hc';rcases bh.mp hc' with h|h
    .exact hone c' h
    .rw[aV.mp h];exact hb.mp rfl
   |false=>
    have hnot:¬One (En ts) c:=λz=>by have:=hb.mpr z;cases this
    have hbd':c<10 ^ 60:=(hbd.resolve_left λz=>hnot (z c hco)) c hco;obtain⟨f1',f2',f3'⟩:=vh hbd';refine jO ⟨_,rfl,lit2,λt H4 ht s4 y4=>?_⟩;refine⟨lit1,λx hx=>?_⟩;refine⟨x,C,.ref t,mw c,rfl,aO,M.over,cf,⟨.tup (SqT.of (cu hx _ _ y4)) (.cons (.str _ (by decide +kernel)) (.cons (.int _) .nil)),f1',f2',f3'⟩,λdx hdx hne'=>⟨rfl,some dx,?_,?_⟩⟩
    .rw[aj (av hne'),aO]
    .have hx4:H4 dx=none:=by rw[aj hne'] at hdx;exact hdx
     refine q2 c dx t _ (λb o e=>?_) ?_ ?_ hco hnot λc' hc' hlt=>hone c' ?_
     .rcases ((Sm.of s1).trans (sm.trans (sm3.trans (Sm.of s4)))) b o e with z|⟨z1,ob,z⟩
      .refine .inl ?_;rw[eI (ak z hx),aj (ak z hx4),aj (ak z hx),aj (ak z hx)];exact z
      .refine .inr ⟨z1,ob,?_⟩;rw[eI (ak z hx),aj (ak z hx4),aj (ak z hx),aj (ak z hx)];exact z
     .rw[eI hne',aO]
     .rw[eI (ak y4 hx),aj (ak y4 hx4),aj (ak y4 hx),aj (ak y4 hx)];exact y4
     .have hm:c'∈cs:=pc.mem_iff.mpr ((hkey c').mpr hc');obtain⟨j,hj⟩:=fu hm;have hjl:=(aJ.mp hj).1;have hil:=(aJ.mp hc).1;have hji:j<i:=by
       refine mO λz=>?_;by_cases hji:j=i
       .subst hji;rw[hc] at hj;cases hj;lia
       .have:=rX.mp pl i j hil hjl (by lia);rw[(aJ.mp hc).2,(aJ.mp hj).2] at this;lia
      exact bE (by rw[ph,KI hji];exact hj)
  .rintro Z H2 ⟨o1,rfl,sm,hone⟩;rw[bq,c7] at hone;exact q1 H2 ((Sm.of s1).trans sm) λc hc=>hone c (pc.mem_iff.mpr ((hkey c).mpr hc))
end
def rh (H:Hp) (d:Addr) (xs:List V):Prop:=∃t,H d=some (.xd [("fault",.ref t)])/\H t=some (.tup xs)
theorem uT {C f2 t:Addr} {d:PyData} {H4:Hp} {E:XK} (M:eU K C f2) (cf:dI K C "fault") (y4:H4 t=some (.tup xs)) (hd:∀H',Same H4 H'->Dt [] H' (.ref t) d)
  (hs:d.showable=true/\d.depth<=60/\d.shown.length<=10000) (q:∀dx H',Same H4 H'->H' dx=some (.xd [("fault",.ref t)])->E (.ref C) (some dx) H') :
  [V.ref t].length<=sizeLine/\∀x,H4 x=none->jt K [.ref x,.ref t] (upd H4 x (a7 x C none)) (λv H2=>v=.non/\∃d,H2 x=some (a7 x C d)/\E (.ref C) d (del H2 x)) E0:=by
 refine⟨lit1,λx hx=>?_⟩;refine⟨x,C,.ref t,d,rfl,aO,M.over,cf,⟨hd _ (cu hx),hs.1,hs.2.1,hs.2.2⟩,λdx hdx hne'=>⟨rfl,some dx,?_,?_⟩⟩
 .rw[aj (av hne'),aO]
 .have hx4:H4 dx=none:=by rw[aj hne'] at hdx;exact hdx
  refine q dx _ (λb o z=>?_) ?_
  .rw[eI (ak z hx),aj (ak z hx4),aj (ak z hx),aj (ak z hx)];exact z
  .rw[eI hne',aO]
def zw (K:W.Frag) (C:Addr) (vs:List V) (H:Hp) (Q:VK) (E:XK) (T:Addr) (vt:List V) (os:List (Option Tri)):Prop:=vs=[.ref T]/\H T=some (.lst vt)/\gp K H vt os/\os.length<=400/\
 (∀r vr (ts:List Tri) H',os=ts.map some->H r=none->Same H H'->H' r=some (.lst vr)->aG H' vr ts->(∀t∈ts,t.1≠t.2.1/\t.2.1≠t.2.2/\t.2.2≠t.1)->Q (.ref r) H')/\
 ∀(k:Nat) d H',os[k]?=some none->(∃ts:List Tri,os.take k=ts.map some)->Same H H'->rh H' d [.str "triple",.int (k:Int)]->E (.ref C) (some d) H'
def tI (K:W.Frag) (C:Addr):Sp:=λvs H Q E=>Exists (Ex3 (zw K C vs H Q E))
def lW (k:Nat):PyData:=.tuple [.str "triple",.int (k:Int)]
theorem tY {c:Nat} (h:c<10 ^ 60):(lW c).showable=true/\(lW c).depth<=60/\(lW c).shown.length<=10000:=by
 refine⟨?_,?_,?_⟩
 .show (true&&(decide (((c:Nat):Int).natAbs.log2<1920)&&true))=true;rw[KJ (fB h)];rfl
 .show max 0 (max 0 0)+1<=60;decide
 .have h1:((toString ((c:Nat):Int):String):Str).length<=60:=by rw[ql,qi];exact nG 59 c h
  show (tupleText [reprText "triple",(toString ((c:Nat):Int):String)]).length<=10000;have h2:(reprText "triple").length<=20:=by decide +kernel
  unfold tupleText;rw[eN,eN];have h3:=yI [reprText "triple",(toString ((c:Nat):Int):String)] (by simp);have h4:(("(" : Str)).length=1:=by decide +kernel
  have h5:(Str.ofString ")").length=1:=by decide +kernel
  have h6:piled [reprText "triple",((toString ((c:Nat):Int):String):Str)]<=100:=by generalize ((toString ((c:Nat):Int):String):Str)=z at h1;simp[piled];lia
  show _+_+(Str.ofString ")").length<=_;lia
theorem gQ {n:Nat} (h:n<=1000):n<10 ^ 60:=se h (by decide)
section
theorem zC {f f1 f2 C:Addr} {fd d1 d2:FuncData} (U:Fun K "checked_triples" "checked_triples" jv f fd) (T:cH mg) (G:ag P w K mg base CX0 3 f1 d1 ["thing"] (ki K)) (b1:Binds K d1 ["thing"] []) (m1:mg "is_triple" = some (.ref f1)) (k1:W.keepIn K (.ref f1)=true)
  (M:eU K C f2) (cf:dI K C "fault") (F:ag P w K mg base CX0 1 f2 d2 ["self","fault"] (jt K)) (b2:Binds K d2 ["self","fault"] []) (mC:mg "NoSkin" = some (.ref C)) :
  ag P w K mg base (CX1 P w) 4 f fd ["things"] (tI K C):=by
 refine U.ok1 iE (λvs H Q E h=>?_) (λcdv A outer s H vs Q E hr h=>?_)
 .obtain⟨T,vt,ts,rfl,_⟩:=h;rfl
 .obtain⟨T0,vt,os,rfl,hT,ht,hl,q,qE⟩:=h;have hr2:Room 2 (A.deeper (PyProof.Rows.envOfC "checked_triples" (aE jv) s.heap.objs.size f cdv)):=hr.mono (by decide);refine⟨_,ah (az (i:=1) iE.nd rfl (.inl rfl) (bY ae))
   (ah (cD su rfl (ll rfl T.enum (aa (pv 0) ae)) (de rfl (aW (ay (i:=2) iE.nd rfl (.inl rfl)) (aW (ay (i:=3) iE.nd rfl (.inl rfl)) c_)))
    (ah (br (eA (cQ (aw G hr rfl m1 k1 b1 .nil pass0 (aa (pv 3) ae)))) (ao (pS lets1 rfl rfl M F hr2 b2 rfl mC (aa (aI (aa cw (aa (pv 2) ae))) ae))) bK)
    (ah (gh (pv 3) (de rfl (aW (ay (i:=4) iE.nd rfl (.inl rfl)) (aW (ay (i:=5) iE.nd rfl (.inl rfl)) (aW (ay (i:=6) iE.nd rfl (.inl rfl)) c_)))))
    (ao (cU (df dG iA iB fE (pv 1) (aa (aI (aa (er nN (by rfl) T.int nh (aa (pv 4) ae)) (aa (er nN (by rfl) T.int nh (aa (pv 5) ae)) (aa (er nN (by rfl) T.int nh (aa (pv 6) ae)) ae)))) ae)))))))
   (ao (aX (pv 1)))),?_⟩
  have hline:=line5000;have hlen:=aN ht;refine⟨aU _,λr H1 hr0 s1 y1=>?_⟩;refine⟨_,rfl,T0,vt,rfl,SqL.of (s1 _ _ hT),kQ (K:=[]) (a:=T0) (xs:=vt) (λi Z H'=>∃o2 o3 o4 o5 o6 vr,∃ts:List Tri,Z=[some (V.ref T0),some (.ref r),o2,o3,o4,o5,o6]/\Same H H'/\H' r=some (.lst vr)/\aG H' vr ts/\os.take i=ts.map some/\∀t∈ts,t.1≠t.2.1/\t.2.1≠t.2.2/\t.2.2≠t.1)
   ⟨none,none,none,none,none,[],[],rfl,s1,y1,.nil,rfl,by simp⟩ (λi Z H' _ ⟨_,_,_,_,_,_,_,_,e,_⟩=>SqL.of (e _ _ hT)) ?_ ?_⟩
  .rintro i x p Z H2 hi ⟨o2,o3,o4,o5,o6,vr,ts,rfl,sm,hv,tr,hos,hne⟩ hp;obtain⟨o,hs,hth⟩:=cB ht hi;have hil:i<os.length:=(aJ.mp hs).1;have et:os.take (i+1)=os.take i++[o]:=by rw[bV,hs];rfl
   walk_at"H2 p hp H3 s3 y3";refine⟨p,_,rfl,SqT.of y3,rfl,_,_,rfl,_,_,rfl,rfl,?_⟩;refine⟨_,rfl,x,o,rfl,Th.same (sm.trans s3) hth,_,rfl,?_⟩;cases o with
   |none=>
    refine jO ⟨_,rfl,lit2,λt H4 ht4 s4 y4=>?_⟩;refine uT (d:=lW i) M cf y4 (λH' s'=>.tup (SqT.of (s' _ _ y4)) (.cons (.str _ (by decide +kernel)) (.cons (.int _) .nil))) (tY (gQ (by lia))) λdx H' s5 e5=>?_;exact qE i dx H' hs ⟨ts,hos⟩ (((sm.trans s3).trans s4).trans s5) ⟨t,e5,s5 _ _ y4⟩
   |some t3=>
    obtain⟨⟨t,rfl,hb⟩,n3⟩:=Th.tri hth;obtain⟨a,b,c⟩:=t3;have hb:H t=some (.tup [.int (a:Int),.int (b:Int),.int (c:Int)]):=hb;refine iY ⟨_,rfl,t,_,rfl,SqT.of (s3 _ _ (sm _ _ hb)),rfl,_,_,rfl,_,_,rfl,_,_,rfl,rfl,?_⟩;refine⟨_,rfl,.inl ⟨rfl,_,SqL.of (s3 _ _ hv)⟩,_,rfl,.inl ⟨_,rfl,_,rfl,.inl ⟨_,rfl,_,rfl,.inl ⟨_,rfl,lit3,λt1 H4 g1 s4 y4=>?_⟩⟩⟩⟩;have hv4:=s4 _ _ (s3 _ _ hv);have l1:=aN tr;have l2:=congrArg List.length hos;rw[cE,aC] at l2;refine⟨r,_,_,rfl,rfl,hv4,by lia,λH5 k5 y5=>?_⟩;have hrH:H r=none:=hr0;have n1:∀b' o,H b'=some o->b'≠r:=λb' o e=>ak e hrH;refine⟨_,_,_,_,_,_,ts++[(a,b,c)],rfl,λb' o e=>(k5 b' (n1 b' o e)).trans (s4 _ _ (s3 _ _ (sm _ _ e))),y5,?_,?_,?_⟩
    .exact dz (Paired.imp' (λv' t' ⟨a',e,hh⟩=>⟨a',e,(k5 a' (λz=>by rw[z,hv] at hh;cases hh)).trans (s4 _ _ (s3 _ _ hh))⟩) tr) (.cons ⟨t1,rfl,(k5 t1 (λz=>by rw[<-z,y4] at hv4;cases hv4)).trans y4⟩ .nil)
    .rw[et,hos,bf];rfl
    .intro t ht';rcases bh.mp ht' with z|z
     .exact hne t z
     .rw[aV.mp z];exact n3
  .rintro Z H2 ⟨o2,o3,o4,o5,o6,vr,ts,rfl,sm,hv,tr,hos,hne⟩;rw[hlen,c7] at hos;exact⟨_,rfl,q r vr ts H2 hos hr0 sm hv tr hne⟩
end
def ent3 (t:Tri):List Ent:=[((t.1,t.2.1),t.2.2),((t.2.1,t.2.2),t.1),((t.2.2,t.1),t.2.1)]
def SdF (ts:List Tri) (k:Nat) (s:Nat×Nat):Prop:=((ents (ts.take k)).map (·.1)).Nodup/\∃t j,ts[k]?=some t/\((ent3 t).map (·.1))[j]?=some s/\s∈(ents (ts.take k)).map (·.1)/\∀s'∈((ent3 t).map (·.1)).take j,s'∉(ents (ts.take k)).map (·.1)
def FltS (H:Hp) (d:Addr) (k m n:Nat):Prop:=∃t u,H d=some (.xd [("fault",.ref t)])/\H t=some (.tup [.str "side",.int (k:Int),.ref u])/\H u=some (.tup [.int (m:Int),.int (n:Int)])
def zP (C:Addr) (vs:List V) (H:Hp) (Q:VK) (E:XK) (T:Addr) (vt:List V) (ts:List Tri):Prop:=vs=[.ref T]/\H T=some (.lst vt)/\aG H vt ts/\ts.length<=400/\(∀t∈ts,t.1≠t.2.1/\t.2.1≠t.2.2/\t.2.2≠t.1)/\(((ents ts).map (·.1)).Nodup\/∀t∈ts,t.1<10 ^ 60/\t.2.1<10 ^ 60/\t.2.2<10 ^ 60)/\
 (∀D H',((ents ts).map (·.1)).Nodup->H D=none->Same H H'->H' D=some (.dT ((ents ts).map bH))->Q (.ref D) H')/\
 ∀k m n d H',SdF ts k (m,n)->Same H H'->FltS H' d k m n->E (.ref C) (some d) H'
def ud (C:Addr):Sp:=λvs H Q E=>Exists (Ex3 (zP C vs H Q E))
theorem pW (ts:List Tri) (t:Tri):ents (ts++[t])=ents ts++ent3 t:=by rw[fc];simp[ents,ent3]
theorem SdF.not {ts:List Tri} {k:Nat} {s:Nat×Nat} (h:SdF ts k s):¬((ents ts).map (·.1)).Nodup:=λnd=>by
 obtain⟨_,t,j,ht,hj,hs,_⟩:=h;rw[<-gI (k+1) ts,fc,bf,dq] at nd;have nd:=nd.1;rw[bV,ht] at nd;have nd:((ents (ts.take k++[t])).map (·.1)).Nodup:=nd;rw[pW,bf,dq] at nd;exact nd.2.2 _ hs _ (bE hj) rfl
theorem wa {t:Tri} (h:t.1≠t.2.1/\t.2.1≠t.2.2/\t.2.2≠t.1):((ent3 t).map (·.1)).Nodup:=by obtain⟨a,b,c⟩:=t;obtain⟨h1,h2,h3⟩:=h;have h1:a≠b:=h1;have h2:b≠c:=h2;have h3:c≠a:=h3;simp[ent3];lia
def lY (k m n:Nat):PyData:=.tuple [.str "side",.int (k:Int),.tuple [.int (m:Int),.int (n:Int)]]
theorem hJ {c:Nat} (h:c<10 ^ 60):((toString ((c:Nat):Int):String):Str).length<=60:=by rw[ql,qi];exact nG 59 c h
theorem p4 {n:Nat}:∀{xs:List Str},(∀x∈xs,x.length<=n)->piled xs<=xs.length*(n+2)
 | [],_=>by simp[piled]
 |x::xs,h=>by
  have h1:=h x (by simp);have h2:=p4 (n:=n) (xs:=xs) λy hy=>h y (by simp[hy]);have h3:piled (x::xs)=x.length+2+piled xs:=by simp[piled]
  rw[h3,bQ,Nat.succ_mul];lia
theorem qj {xs:List Str} {n:Nat} (h1:2<=xs.length) (h:∀x∈xs,x.length<=n):(tupleText xs).length<=xs.length*(n+2)+3:=by
 unfold tupleText;rw[eN,eN];have h3:=yI xs (λz=>by rw[z] at h1;simp at h1);have h4:(("(" : Str)).length=1:=by decide +kernel
 have h5:(Str.ofString ")").length=1:=by decide +kernel
 have h6:=p4 h;rw[KH (by simp;lia)];show _+_+(Str.ofString ")").length<=_;lia
theorem uf {k m n:Nat} (hk:k<10 ^ 60) (hm:m<10 ^ 60) (hn:n<10 ^ 60):(lY k m n).showable=true/\(lY k m n).depth<=60/\(lY k m n).shown.length<=10000:=by
 refine⟨?_,?_,?_⟩
 .show (true&&(decide (((k:Nat):Int).natAbs.log2<1920)&&((decide (((m:Nat):Int).natAbs.log2<1920)&&(decide (((n:Nat):Int).natAbs.log2<1920)&&true))&&true)))=true;rw[KJ (fB hk),KJ (fB hm),KJ (fB hn)];rfl
 .show max 0 (max 0 (max (max 0 (max 0 0)+1) 0))+1<=60;decide
 .show (tupleText [reprText "side",(toString ((k:Nat):Int):String),tupleText [(toString ((m:Nat):Int):String),(toString ((n:Nat):Int):String)]]).length<=10000;have h2:(reprText "side").length<=20:=by decide +kernel
  have i1:=hJ hk;have i2:=hJ hm;have i3:=hJ hn;have h1:(tupleText [((toString ((m:Nat):Int):String):Str),((toString ((n:Nat):Int):String):Str)]).length<=2*(60+2)+3:=qj (by simp) λx hx=>by
   rcases aT.mp hx with rfl|hx
   .exact i2
   .rw[aV.mp hx];exact i3
  refine cF (qj (n:=200) (by simp) λx hx=>?_) (by show 3*(200+2)+3<=10000;decide);rcases aT.mp hx with rfl|hx
  .lia
  .rcases aT.mp hx with rfl|hx
   .lia
   .rw[aV.mp hx];lia
section
theorem z7 {f f2 C:Addr} {fd d2:FuncData} (U:Fun K "thirds_by_side" "thirds_by_side" lb f fd) (T:cH mg)
  (MX:eU K C f2) (cf:dI K C "fault") (F:ag P w K mg base CX0 1 f2 d2 ["self","fault"] (jt K)) (b2:Binds K d2 ["self","fault"] []) (mC:mg "NoSkin" = some (.ref C)):ag P w K mg base (CX1 P w) 3 f fd ["triples"] (ud C):=by
 refine U.ok1 gW (λvs H Q E h=>?_) (λcdv A outer s H vs Q E hr h=>?_)
 .obtain⟨T,vt,ts,rfl,_⟩:=h;rfl
 .obtain⟨T0,vt,ts,rfl,hT,ht,hl,hne,hbd,q,qE⟩:=h;have hu:=dA hr;refine⟨_,ah (az (i:=1) gW.nd rfl (.inl rfl) uX)
   (ah (cD su rfl (ll rfl T.enum (aa (pv 0) ae)) (de rfl (aW (ay (i:=2) gW.nd rfl (.inl rfl)) (aW (de rfl (aW (ay (i:=3) gW.nd rfl (.inl rfl)) (aW (ay (i:=4) gW.nd rfl (.inl rfl)) (aW (ay (i:=5) gW.nd rfl (.inl rfl)) c_)))) c_)))
    (ao (cD su rfl (cC (bY (aa (aI (aa (aI (aa (pv 3) (aa (pv 4) ae))) (aa (pv 5) ae))) (aa (aI (aa (aI (aa (pv 4) (aa (pv 5) ae))) (aa (pv 3) ae))) (aa (aI (aa (aI (aa (pv 5) (aa (pv 3) ae))) (aa (pv 4) ae))) ae))))) (de rfl (aW (ay (i:=6) gW.nd rfl (.inl rfl)) (aW (ay (i:=7) gW.nd rfl (.inl rfl)) c_)))
     (ah (br (oy (qP hu (pv 6) (pv 1))) (ao (pS lets1 rfl rfl MX F hr b2 rfl mC (aa (aI (aa cw (aa (pv 2) (aa (pv 6) ae)))) ae))) bK)
     (ao (iK hu (pv 1) (pv 6) (pv 7) rfl))))))
   (ao (aX (pv 1)))),?_⟩
  have hline:=line5000;have hlen:=aN ht;refine λD H1 h1 s1 y1=>?_;refine⟨_,rfl,T0,vt,rfl,SqL.of (s1 _ _ hT),kQ (K:=[]) (a:=T0) (xs:=vt) (λi Z H2=>∃v2 v3 v4 v5 v6 v7,Z=[some (.ref T0),some (.ref D),v2,v3,v4,v5,v6,v7]/\Same H H2/\H2 D=some (.dT ((ents (ts.take i)).map bH))/\((ents (ts.take i)).map (·.1)).Nodup)
   ⟨none,none,none,none,none,none,rfl,s1,y1,List.Pairwise.nil⟩ (λi Z H2 _ ⟨_,_,_,_,_,_,_,e,_⟩=>SqL.of (e _ _ hT)) ?_ ?_⟩
  .rintro i x p Z H2 hi ⟨v2,v3,v4,v5,v6,v7,rfl,sm,hD,ndi⟩ hp;obtain⟨⟨a,b,c⟩,hs,t,rfl,hb⟩:=cB ht hi;have hb:H t=some (.tup [.int (a:Int),.int (b:Int),.int (c:Int)]):=hb;have et:ts.take (i+1)=ts.take i++[(a,b,c)]:=by rw[bV,hs];rfl
   walk_at"H2 p hp H3 s3 y3";refine⟨p,_,rfl,SqT.of y3,rfl,_,_,rfl,_,_,rfl,t,_,rfl,SqT.of (s3 _ _ (sm _ _ hb)),rfl,_,_,rfl,_,_,rfl,_,_,rfl,rfl,rfl,?_⟩;refine⟨_,rfl,_,rfl,lit2,λsa H4 ga s4 y4=>?_⟩;refine⟨_,rfl,lit2,λua H5 gua s5 y5=>?_⟩;refine⟨_,rfl,_,rfl,lit2,λsb H6 gb s6 y6=>?_⟩;refine⟨_,rfl,lit2,λub H7 gub s7 y7=>?_⟩;refine⟨_,rfl,_,rfl,lit2,λsc H8 gc s8 y8=>?_⟩;refine⟨_,rfl,lit2,λuc H9 guc s9 y9=>?_⟩;refine⟨lit3,λM Ha gM sA yM=>?_⟩;have s37:Same H3 H7:=((s4.trans s5).trans s6).trans s7;have s7a:Same H7 Ha:=(s8.trans s9).trans sA;have s3a:Same H3 Ha:=s37.trans s7a;have en:Paired (EnAt Ha) [V.ref ua,.ref ub,.ref uc] [((a,b),c),((b,c),a),((c,a),b)]:=
    .cons ⟨ua,sa,rfl,s7a _ _ (s7 _ _ (s6 _ _ y5)),s7a _ _ (s7 _ _ (s6 _ _ (s5 _ _ y4)))⟩ (.cons ⟨ub,sb,rfl,s7a _ _ y7,s7a _ _ (s7 _ _ y6)⟩ (.cons ⟨uc,sc,rfl,sA _ _ y9,sA _ _ (s9 _ _ y8)⟩ .nil))
   have hDa:Ha D=some (.dT ((ents (ts.take i)).map bH)):=s3a _ _ (s3 _ _ hD);have ee:ents (ts.take (i+1))=ents (ts.take i)++[((a,b),c),((b,c),a),((c,a),b)]:=by rw[et,fc];simp[ents]
   have n3:=wa (hne _ (bE hs));have n3:(([((a,b),c),((b,c),a),((c,a),b)]:List Ent).map (·.1)).Nodup:=n3;have he0:ent3 (a,b,c)=[((a,b),c),((b,c),a),((c,a),b)]:=rfl;have hil:i<ts.length:=(aJ.mp hs).1;have l0:=e_ (ts.take i);rw[cE] at l0;have smA:Same H Ha:=(sm.trans s3).trans s3a;generalize he3:[((a,b),c),((b,c),a),((c,a),b)]=e3 at en n3 ee he0;have le3:e3.length=3:=by rw[<-he3];rfl
   have hMD:M≠D:=λz=>by rw[z,hDa] at yM;cases yM
   refine⟨M,rfl,⟨_,SqL.of yM⟩,eu (K:=[]) (a:=M) (xs:=[V.ref ua,.ref ub,.ref uc]) (λj Z H'=>∃w6 w7,Z=[some (.ref T0),some (.ref D),some (.int (i:Int)),some (.int (a:Int)),some (.int (b:Int)),some (.int (c:Int)),w6,w7]/\(∀b' o,b'≠D->Ha b'=some o->H' b'=some o)/\H' D=some (.dT ((ents (ts.take i)++e3.take j).map bH))/\∀s'∈(e3.take j).map (·.1),s'∉(ents (ts.take i)).map (·.1))
    ⟨v6,v7,rfl,λ_ _ _ e=>e,by rw[xY,eL];exact hDa,by simp⟩ (λj Z H' _ ⟨_,_,_,e,_⟩=>SqL.of (e _ _ hMD yM)) ?_ ?_⟩
   .rintro j x Z H' hj ⟨w6,w7,rfl,but,hD',hno⟩;obtain⟨⟨⟨m,n⟩,o⟩,ho,u,sd,rfl,hu1,hs1⟩:=cB en hj;have hu1:Ha u=some (.tup [.ref sd,.int (o:Int)]):=hu1;have hs1:Ha sd=some (.tup ((ky m n).map kV)):=hs1;have ej:e3.take (j+1)=e3.take j++[((m,n),o)]:=by rw[bV,ho];rfl
    have hjl:j<e3.length:=(aJ.mp ho).1;have nu:u≠D:=λz=>by rw[z,hDa] at hu1;cases hu1
    have ns:sd≠D:=λz=>by rw[z,hDa] at hs1;cases hs1
    refine⟨u,_,rfl,SqT.of (but _ _ nu hu1),rfl,_,_,rfl,_,_,rfl,rfl,?_⟩;have smB:Same H H':=λb' o e=>but b' o (ak e h1) (smA _ _ e);by_cases hin:(m,n)∈(ents (ts.take i)).map (·.1)
    .have hbd':∀t∈ts,t.1<10 ^ 60/\t.2.1<10 ^ 60/\t.2.2<10 ^ 60:=hbd.resolve_left λnd=>by
      have sd:SdF ts i (m,n):=⟨ndi,(a,b,c),j,hs,by rw[he0,bp,ho];rfl,hin,by rw[he0,<-rT];exact hno⟩;exact sd.not nd
     have sdf:SdF ts i (m,n):=⟨ndi,(a,b,c),j,hs,by rw[he0,bp,ho];rfl,hin,by rw[he0,<-rT];exact hno⟩;have hc:=hbd' _ (bE hs);have hmn:m<10 ^ 60/\n<10 ^ 60:=by
      have hm:=bE ho;rw[<-he3] at hm;obtain⟨c1,c2,c3⟩:=hc;simp at hm;rcases hm with ⟨⟨rfl,rfl⟩,_⟩|⟨⟨rfl,rfl⟩,_⟩|⟨⟨rfl,rfl⟩,_⟩
      .exact⟨c1,c2⟩
      .exact⟨c2,c3⟩
      .exact⟨c3,c1⟩
     obtain⟨x,hx⟩:∃x,bj ((ents (ts.take i)++e3.take j).map bH) (ky m n)=some x:=by
      cases hv:bj ((ents (ts.take i)++e3.take j).map bH) (ky m n) with
      |some x=>exact⟨x,rfl⟩
      |none=>exact absurd (by rw[bf];exact dQ _ hin) (gR.mp hv)
     refine⟨_,rfl,_,rfl,D,_,rfl,DGet.t (k:=ky m n) hD' (but _ _ ns hs1),true,by rw[hx];rfl,a6 ?_⟩;refine⟨_,rfl,_,rfl,lit3,λt5 H5 g5 s5 y5=>?_⟩;have hs5:H5 sd=some (.tup [.int (m:Int),.int (n:Int)]):=s5 _ _ (but _ _ ns hs1);refine uT (d:=lY i m n) MX cf y5 (λH' s'=>.tup (SqT.of (s' _ _ y5)) (.cons (.str _ (by decide +kernel)) (.cons (.int _) (.cons (.tup (SqT.of (s' _ _ hs5)) (.cons (.int _) (.cons (.int _) .nil))) .nil)))) (uf (gQ (by lia)) hmn.1 hmn.2) λdx H6 s6 e6=>?_;exact qE i m n dx H6 sdf ((smB.trans s5).trans s6) ⟨t5,sd,e6,s6 _ _ y5,s6 _ _ hs5⟩
    .have notin:(m,n)∉(ents (ts.take i)++e3.take j).map (·.1):=by
      rw[bf,bh];rintro (z|z)
      .exact hin z
      .rw[<-gI (j+1) e3,ej,gD,bf,dq] at n3;exact n3.2.2 _ z (m,n) (by simp) rfl
     refine⟨_,rfl,_,rfl,D,_,rfl,DGet.t (k:=ky m n) hD' (but _ _ ns hs1),false,by rw[gR.mpr notin];rfl,aP ?_⟩;refine⟨_,rfl,_,rfl,_,rfl,D,_,rfl,DPut.t (k:=ky m n) hD' (but _ _ ns hs1) (by rw[aC,aZ,cE];lia),?_⟩;rw[n6 notin];walk_at"H' D Hb kb yb";refine⟨_,_,rfl,λb' o e1 e2=>(kb b' e1).trans (but b' o e1 e2),by rw[yb,ej,gD],λs' hs'=>?_⟩;rw[ej,bf] at hs';rcases bh.mp hs' with z|z
     .exact hno s' z
     .rw[aV.mp z];exact hin
   .rintro Z H' ⟨w6,w7,rfl,but,hD',hno⟩;have:e3.take [V.ref ua,.ref ub,.ref uc].length=e3:=jb (by rw[le3];exact ar 3);rw[this] at hD' hno;refine⟨_,_,_,_,_,_,rfl,λb' o e=>but b' o (ak e h1) (smA _ _ e),by rw[hD',ee],?_⟩;rw[ee,bf,dq];exact⟨ndi,n3,λa' ha' b' hb' z=>hno b' hb' (z ▸ ha')⟩
  .rintro Z H2 ⟨v2,v3,v4,v5,v6,v7,rfl,sm,hD,ndi⟩;rw[hlen,c7] at hD ndi;exact⟨_,rfl,q D H2 ndi h1 sm hD⟩
end
inductive Flt
 |many
 |triple (k:Nat)
 |side (k m n:Nat)
 |round (c:Nat)
def fj (os:List (Option Tri)):Option Flt->Prop
 |some .many=>200<os.length
 |some (.triple k)=>os.length<=200/\os[k]?=some none/\∃ts:List Tri,os.take k=ts.map some
 |some (.side k m n)=>os.length<=200/\∃ts:List Tri,os=ts.map some/\SdF ts k (m,n)
 |some (.round c)=>os.length<=200/\∃ts:List Tri,os=ts.map some/\((ents ts).map (·.1)).Nodup/\Co ts c/\¬One (En ts) c/\∀c',Co ts c'->c'<c->One (En ts) c'
 |none=>os.length<=200/\∃ts:List Tri,os=ts.map some/\((ents ts).map (·.1)).Nodup/\∀c,Co ts c->One (En ts) c
def Refuses (C CM:Addr) (H:Hp):Flt->Value->Option Addr->Prop
 |.many,c,d=>c=.ref CM/\d=none
 |.triple k,c,d=>c=.ref C/\∃d0,d=some d0/\rh H d0 [.str "triple",.int (k:Int)]
 |.side k m n,c,d=>c=.ref C/\∃d0,d=some d0/\FltS H d0 k m n
 |.round k,c,d=>c=.ref C/\∃d0,d=some d0/\rh H d0 [.str "round",.int (k:Int)]
structure SCls (K:W.Frag) (C:Addr):Prop where
 cl:Cls K C
 ordered:ik K C "ordered"
 rising:ik K C "rising"
 thirds:ik K C "thirds"
 steps:ik K C "steps"
def SmB (x:Addr) (H H':Hp):Prop:=∀b o,b≠x->H b=some o->H' b=some o\/(dY o/\∃ob,H' b=some (.frz ob o))
def SmF (os:List (Option Tri)) (H H':Hp):Prop:=Sm H H'/\(none∈os->Same H H')
def Bo (K:W.Frag) (Cs C CM:Addr) (vs:List V) (H:Hp) (Q:VK) (E:XK) (x dx T:Addr) (vt:List V) (os:List (Option Tri)):Prop:=vs=[.ref x,.ref T]/\H x=some (.ins Cs dx [])/\H T=some (.lst vt)/\gp K H vt os/\os.length<=400/\
 (∀t,some t∈os->t.1<10 ^ 60/\t.2.1<10 ^ 60/\t.2.2<10 ^ 60)/\
 (∀H',fj os none->SmB x H H'->Q .non H')/\∀fl c d H',fj os (some fl)->SmF os H H'->Refuses C CM H' fl c d->E c d H'
def vF (K:W.Frag) (Cs C CM:Addr):Sp:=λvs H Q E=>Exists (Ex5 (Bo K Cs C CM vs H Q E))
theorem p9 {ts:List Tri}:none∉ts.map some:=λz=>by
 obtain⟨_,_,e⟩:=aD.mp z;cases e
theorem vY {ts:List Tri} (h1:∀t∈ts,t.1≠t.2.1/\t.2.1≠t.2.2/\t.2.2≠t.1) (h2:((ents ts).map (·.1)).Nodup):Good ts:=⟨h1,h2⟩
theorem SmF.same {os:List (Option Tri)} (s:Same H H'):SmF os H H':=⟨Sm.of s,λ_=>s⟩
theorem SmF.sm {ts:List Tri} (s:Sm H H'):SmF (ts.map some) H H':=⟨s,λz=>absurd z p9⟩
section
theorem ou:bc ["self","triples","checked","thirds","steps"] ["self","triples"] (aE fQ):=by walk_at"sc"
theorem BS {f f1 f2 f3 f4 f5 Cs C CM:Addr} {fd d1 d2 d3 d4 d5:FuncData} (U:Fun K "__init__" "Skin.__init__" fQ f fd) (T:cH mg) (mS:mg "sorted" = none) {tM:Tok} (mM:mg "MOST_TRIPLES" = some (.int 200 tM)) (X:SCls K Cs)
  (mCM:mg "TooMany" = some (.ref CM)) (hCM:W.excIn K CM bmV "ValueError.__new__" = true)
  (G1:ag P w K mg base (CX1 P w) 4 f1 d1 ["things"] (tI K C)) (b1:Binds K d1 ["things"] []) (m1:mg "checked_triples" = some (.ref f1)) (k1:W.keepIn K (.ref f1)=true)
  (G2:ag P w K mg base (CX1 P w) 3 f2 d2 ["triples"] (ud C)) (b2:Binds K d2 ["triples"] []) (m2:mg "thirds_by_side" = some (.ref f2)) (k2:W.keepIn K (.ref f2)=true)
  (G3:ag P w K mg base CX0 1 f3 d3 ["thirds"] vE) (b3:Binds K d3 ["thirds"] []) (m3:mg "steps_by_corner" = some (.ref f3)) (k3:W.keepIn K (.ref f3)=true)
  (G4:ag P w K mg base (CX1 P w) 3 f4 d4 ["steps"] (wG C)) (b4:Binds K d4 ["steps"] []) (m4:mg "look_rounds_through" = some (.ref f4)) (k4:W.keepIn K (.ref f4)=true)
  (G5:ag P w K mg base CX0 1 f5 d5 ["triple"] vK) (b5:Binds K d5 ["triple"] []) (m5:mg "begun_least" = some (.ref f5)) (k5:W.keepIn K (.ref f5)=true) :
  ag P w K mg base (CX1 P w) 5 f fd ["self","triples"] (vF K Cs C CM):=by
 refine U.ok1 ou (λvs H Q E h=>?_) (λcdv A outer s H vs Q E hr h=>?_)
 .obtain⟨x,dx,T,vt,ts,rfl,_⟩:=h;rfl
 .obtain⟨x,dx,T0,vt,os,rfl,hx,hT,ht,hl,hbd,q1,qE⟩:=h;have hr1:Room 1 (A.deeper (PyProof.Rows.envOfC "Skin.__init__" (aE fQ) s.heap.objs.size f cdv)):=hr.mono (by decide);have hr3:Room 3 (A.deeper (PyProof.Rows.envOfC "Skin.__init__" (aE fQ) s.heap.objs.size f cdv)):=hr.mono (by decide);refine⟨_,ah (br (ba oO (aL c9 (by rfl) T.len di (aa (pv 1) ae)) (cJ (v:=.int 200) rfl mM ⟨_,rfl⟩) (nomark _)) (ao (BK lets1 rfl rfl rfl mCM hCM (aa (n8 (fZ (wK (aL c9 (by rfl) T.len di (aa (pv 1) ae))) (fZ cw (fZ (wK (cJ (v:=.int 200) rfl mM ⟨_,rfl⟩)) oA)))) ae))) bK)
   (ah (az (i:=2) ou.nd rfl (.inl rfl) (aw G1 hr rfl m1 k1 b1 .nil pass1 (aa (pv 1) ae)))
   (ah (az (i:=3) ou.nd rfl (.inl rfl) (aw G2 hr3 rfl m2 k2 b2 .nil pass1 (aa (pv 2) ae)))
   (ah (az (i:=4) ou.nd rfl (.inl rfl) (aw G3 hr1 rfl m3 k3 b3 .nil pass0 (aa (pv 3) ae)))
   (ah (cU (aw G4 hr3 rfl m4 k4 b4 .nil pass1 (aa (pv 4) ae)))
   (ah (oz (pv 0) (aL yW (by rfl) mS jm (aa (dO (N:=["triple"]) (fr:=[none]) (nH (by decide +kernel) rfl (by decide +kernel) (by decide +kernel)) rfl (cC (pv 2))
     (λC s H fp pins=>⟨ay (i:=0) (show (["triple"]:List Str).Nodup by decide +kernel) rfl (.inl rfl) (.inr rfl),eO,aw G5 hr1 rfl m5 k5 b5 .nil pass0 (aa (pv 0) ae)⟩)) ae)) rfl)
   (ah (oz (pv 0) (aL (yV rfl) (by rfl) mS jm (aa (pv 4) ae)) rfl)
   (ah (oz (pv 0) (pv 3) rfl)
   (ao (oz (pv 0) (pv 4) rfl))))))))),?_⟩
  have hline:=line5000;have hlen:=aN ht;refine⟨_,rfl,T0,_,rfl,.inl (SqL.of hT),_,_,rfl,rfl,_,rfl,ite2 (λhgt=>?_) λhgt=>?_⟩
  .have hgt:(200:Int)<(vt.length:Int):=KM hgt;have hv:vt.length<10 ^ 60:=gQ (by lia);have i1:((toString ((vt.length:Nat):Int):String):Str).length<=60:=hJ hv;have i2:((toString (200:Int):String):Str).length<=60:=by decide +kernel
   have i3:((" triples, more than " : Str)).length<=60:=by decide +kernel
   have hz:10020<=sizeLine:=by rw[dv];lia
   have i0:(Str.empty).length=0:=rfl;have l1:(Str.empty++((toString ((vt.length:Nat):Int):String):Str)).length<=200:=by rw[eN];lia
   have l2:((Str.empty++((toString ((vt.length:Nat):Int):String):Str))++(" triples, more than " : Str)).length<=300:=by rw[eN];lia
   have l3:(((Str.empty++((toString ((vt.length:Nat):Int):String):Str))++(" triples, more than " : Str))++((toString (200:Int):String):Str)).length<=400:=by rw[eN];lia
   refine⟨_,rfl,T0,_,rfl,.inl (SqL.of hT),_,.inr ⟨_,rfl,fB hv,rfl⟩,_,rfl,by lia,_,rfl,by lia,_,.inr ⟨_,rfl,by decide +kernel,rfl⟩,_,rfl,by lia,by lia,lit1,?_⟩;exact qE .many _ _ H (by show 200<os.length;lia) (.same λ_ _ z=>z) ⟨rfl,rfl⟩
  have hle:os.length<=200:=by have:¬(200:Int)<(vt.length:Int):=λz=>hgt (KJ z);lia
  refine⟨_,rfl,T0,vt,os,rfl,hT,ht,by lia,λr vr ts H1 hos hr0 s1 y1 tr1 hne=>?_,λk d H1 e1 e2 s1 e3=>qE (.triple k) _ _ H1 ⟨hle,e1,e2⟩ (.same s1) ⟨rfl,d,rfl,e3⟩⟩;subst hos;have hl2:ts.length<=200:=by rw[aC] at hle;exact hle
  have hbd':∀t∈ts,t.1<10 ^ 60/\t.2.1<10 ^ 60/\t.2.2<10 ^ 60:=λt ht'=>hbd t (aD.mpr ⟨t,ht',rfl⟩);refine⟨_,rfl,r,vr,ts,rfl,y1,tr1,by lia,hne,.inr hbd',λD H2 hnd hD0 s2 y2=>?_,λk m n d H2 e1 s2 e3=>qE (.side k m n) _ _ H2 ⟨hle,ts,rfl,e1⟩ (.same (s1.trans s2)) ⟨rfl,d,rfl,e3⟩⟩;have g:Good ts:=vY hne hnd;have hbc:∀c,Co ts c->c<10 ^ 60:=λc hc=>by
   obtain⟨p',q',hp'⟩:=hc;rcases dU.mp hp' with z|z|z
   .exact (hbd' _ z).1
   .exact (hbd' _ z).2.1
   .exact (hbd' _ z).2.2
  refine⟨_,rfl,D,ents ts,rfl,y2,g.nd,by rw[e_];lia,λS L H3 hS0 sm3 st=>?_⟩;have lL:L.length<5000:=by have:=st.len;rw[e_] at this;lia
  have hlen:vt.length=ts.length:=by rw[hlen,aC]
  refine⟨_,rfl,S,ts,L,rfl,st.at_,st.nk,λz hz=>.inl (st.ab z hz),st.key,lL,by lia,g,.inr hbc,λH4 sm4 hone=>?_,λc d t H4 sm4 e1 e2 e3 e4 e5=>qE (.round c) _ _ H4 ⟨hle,ts,rfl,hnd,e3,e4,e5⟩ (.sm (((Sm.of (s1.trans s2)).trans sm3).trans sm4)) ⟨rfl,d,rfl,t,e1,e2⟩⟩
  .have smH:Sm H H4:=((Sm.of (s1.trans s2)).trans sm3).trans sm4;have hx4:H4 x=some (.ins Cs dx []):=smH.keep hx (λz=>z);have sm24:Sm H2 H4:=sm3.trans sm4;have hr4:H4 r=some (.lst vr):=sm24.keep (s2 _ _ y1) (λz=>z);have tr4:aG H4 vr ts:=Paired.imp' (λv' t' ⟨a',e,hh⟩=>⟨a',e,sm24.keep (s2 _ _ hh) (λz=>z)⟩) tr1;have hlr:=aN tr4;refine⟨_,rfl,r,rfl,⟨_,SqL.of hr4⟩,λZ_ hZ=>eF (K:=[]) (a:=r) (xs:=vr) (λi Z ys H'=>∃o us,Z=[o]/\Same H4 H'/\H' Z_=some (.lst ys)/\aG H' ys us/\us.length=i) ⟨none,[],rfl,cu hZ,aO,.nil,rfl⟩
    (λi Z ys H' _ ⟨_,_,_,e,_⟩=>SqL.of (e _ _ hr4)) ?_ ?_⟩
   .rintro i v Z ys H' hi ⟨o,us,rfl,sm,hZ',tr,bg⟩;obtain⟨t3,hs,t,rfl,hb⟩:=cB tr4 hi;have hil:i<ts.length:=(aJ.mp hs).1;have ly:ys.length<=200:=by rw[aN tr];lia
    refine⟨_,rfl,t,t3,rfl,sm _ _ hb,λr' u H5 s5 y5 hbg=>⟨s5 _ _ hZ',by lia,λHn kn yn=>⟨some (.ref t),us++[u],rfl,λb o e=>(kn b (ak e hZ)).trans (s5 _ _ (sm _ _ e)),yn,?_,by rw[aZ,bg];rfl⟩⟩⟩;have hz5:=s5 _ _ hZ';have tn:∀{b':Addr} {xs:List V},H5 b'=some (.tup xs)->b'≠Z_:=λe=>cK e hz5 (by simp);exact dz (Paired.imp' (λ_ _ ⟨b',e1,e2⟩=>⟨b',e1,by have e3:=s5 _ _ e2;exact (kn _ (tn e3)).trans e3⟩) tr) (.cons ⟨r',rfl,(kn _ (tn y5)).trans y5⟩ .nil)
   .rintro Z ys H5 ⟨o,ws,rfl,s5,hZ5,tr5,bg⟩;have lys:ys.length=ts.length:=by rw[aN tr5,bg,hlr]
    have ly:ys.length<=200:=by lia
    refine⟨Z_,ys,ws.map kyT,rfl,SqL.of hZ5,uE tr5,by lia,λO ix hO pm ps=>?_⟩;have lvo:(ix.map λi=>ys.getD i .non).length=ts.length:=by rw[aC,pm.length_eq,mY,lys]
    generalize (ix.map λi=>ys.getD i .non)=vo at lvo |-;walk_at"H5 O hO H6 s6 y6";have s46:Same H4 H6:=s5.trans s6;refine⟨_,rfl,x,Cs,dx,_,rfl,s46 _ _ hx4,X.cl,X.ordered,(by show 0<1000;decide),?_⟩;have hS6:Rd H6 S (.dK (L.map stV)):=(Sm.of s46).rd (sm4.rd (.inl st.at_));have hx6:=s46 _ _ hx4;walk_at"H6 x H7 k7 y7";have rdn:∀{b:Addr} {u:HO},dY u->Rd H6 b u->b≠x:=λ{b u} hu hb z=>by
     subst z;rcases hb with e|⟨ob,e⟩
     .rw[hx6] at e;cases e;exact hu
     .rw[hx6] at e;cases e
    have rd7:∀{b:Addr} {u:HO},dY u->Rd H6 b u->Rd H7 b u:=λ{b u} hu hb=>by
     have n:=rdn hu hb;rcases hb with e|⟨ob,e⟩
     .exact .inl ((k7 b n).trans e)
     .exact .inr ⟨ob,(k7 b n).trans e⟩
    have hS7:=rd7 (u:=.dK (L.map stV)) True.intro hS6;have hD6:Rd H6 D (.dT ((ents ts).map bH)):=(Sm.of s46).rd (sm24.rd (.inl y2));have hD7:=rd7 (u:=.dT ((ents ts).map bH)) True.intro hD6;refine⟨_,rfl,S,_,rfl,hS7,True.intro,λks vs hk=>.inl ⟨(L.map (·.1)).map (λc:Nat=>(c:Int)),?_,by rw[aC,aC];exact lL,λR ms hR pm ps=>?_⟩⟩
    .rcases hk with ⟨kvs,e,rfl,_⟩|⟨kvs,as,e,_⟩
     .cases e;rw[cq,cq,cq];rfl
     .cases e
    obtain⟨cs,rfl,pl,pc⟩:=pP st.nk pm ps;have e:(cs.map (λc:Nat=>(c:Int))).map V.int=nV cs:=by rw[cq];rfl
    rw[e];walk_at"H7 R hR H8 s8 y8";refine⟨_,rfl,x,Cs,dx,_,rfl,s8 _ _ y7,X.cl,X.rising,(by show 1<1000;decide),?_⟩;walk_at"H8 x H9 k9 y9";refine⟨_,rfl,_,rfl,x,Cs,dx,_,rfl,y9,X.cl,X.thirds,(by show 2<1000;decide),?_⟩;walk_at"H9 x Ha ka ya";refine⟨_,rfl,_,rfl,x,Cs,dx,_,rfl,ya,X.cl,X.steps,(by show 3<1000;decide),?_⟩;walk_at"Ha x Hb kb yb";have k8b:∀b,b≠x->Hb b=H8 b:=λb n=>(kb b n).trans ((ka b n).trans (k9 b n));have k6b:∀b o,b≠x->H6 b=some o->Hb b=some o:=λb o n e=>(k8b b n).trans (s8 _ _ ((k7 b n).trans e));refine q1 Hb ⟨hle,ts,rfl,hnd,hone⟩ (λb o n e=>?_);rcases smH b o e with z|⟨z1,ob,z⟩
    .exact .inl (k6b b _ n (s46 _ _ z))
    .exact .inr ⟨z1,ob,k6b b _ n (s46 _ _ z)⟩
end
section
theorem xn:bc ["_law_thing","_law_one"] ["_law_thing"] (aE kl):=by walk_at"sc"
theorem zo {f:Addr} (U:Fun K "_law_is_triple" "_law_is_triple" kl f fd) (T:cH mg) (F:oW K) :
  ag P w K mg base CX0 1 f fd ["_law_thing"] (ki K):=by
 refine U.ok xn (λvs H Q E h=>?_) (λcdv A outer s H vs Q E hr h=>?_)
 .obtain⟨x,o,rfl,_⟩:=h;rfl
 .obtain⟨x,o,rfl,h,q⟩:=h;refine⟨_,ah (br (PW.pt (fq (eA (cQ (aL (jr (c:="tuple")) (by rfl) T.isi du (aa (pv 0) (aa (g_ (v:=.ty "tuple") rfl T.tuple j6 rfl) ae)))))
     (iO (ba gj (aL c9 (by rfl) T.len di (aa (pv 0) ae)) ai (nomark _))))) (ao (aX eR)) bK)
   (ah (cD cI rfl (lQ (pv 0)) (ay (i:=1) xn.nd rfl (.inl rfl))
    (ao (br (PW.pt (fq (eA (cQ (aL (jr (c:="int")) (by rfl) T.isi du (aa (pv 1) (aa (g_ (v:=.ty "int") rfl T.int nh rfl) ae)))))
     (fq (cQ (aL (jr (c:="bool")) (by rfl) T.isi du (aa (pv 1) (aa (g_ (v:=.ty "bool") rfl T.bool IC rfl) ae))))
     (iO (ba iT (pv 1) ai (nomark _)))))) (ao (aX eR)) bK)))
   (ao (aX (h_ (fg gj (bL ic (pv 0) ai (λ_ _=>rfl)) (bL ic (pv 0) ai (λ_ _=>rfl)) (nomark _)) (h_ (fg gj (bL ic (pv 0) ai (λ_ _=>rfl)) (bL ic (pv 0) ai (λ_ _=>rfl)) (nomark _)) (jK (fg gj (bL ic (pv 0) ai (λ_ _=>rfl)) (bL ic (pv 0) ai (λ_ _=>rfl)) (nomark _)))))))),?_⟩
  rcases h with ⟨rfl,ty,ht,hk⟩|⟨t,xs,es,rfl,ht,hp,rfl⟩
  .exact⟨_,rfl,_,_,false,rfl,ht,hk,_,rfl,oK q⟩
  refine⟨_,rfl,_,_,true,rfl,.tup ht,F.t,_,rfl,mv ?_⟩;refine⟨_,rfl,t,_,rfl,.inr (SqT.of ht),rfl,_,rfl,?_⟩;refine HC (p:=xs.length=3) (λhl=>?_) λhl=>?_
  .obtain⟨a,b,c,x,y,z,rfl,rfl,h1,h2,h3⟩:=uU hp hl;rw[vA] at q;refine aP ⟨_,rfl,t,rfl,⟨_,SqT.of ht⟩,vZ (K:=[]) (a:=t) (xs:=[a,b,c]) (λi Z H'=>(∃o,Z=[some (.ref t),o])/\H'=H/\∀e∈([x,y,z]:List (Option Int)).take i,cnr e=true) ⟨⟨none,rfl⟩,rfl,by simp⟩ (λi Z H' _ ⟨_,e,_⟩=>by rw[e];exact SqT.of ht) ?_ ?_⟩
   .rintro i v Z H' hi ⟨⟨o,rfl⟩,rfl,hc⟩;obtain⟨e,he,hv⟩:=cB hp hi;have hil:i<([x,y,z]:List (Option Int)).length:=(aJ.mp he).1;have et:([x,y,z]:List (Option Int)).take (i+1)=([x,y,z]:List (Option Int)).take i++[e]:=by rw[bV,he];rfl
    have bad:cnr e=false->Q (.bl false) H':=λz'=>by
     have hm:=bE he;simp at hm;rcases hm with rfl|rfl|rfl
     .rw[z',eX,eX,eX] at q;exact q
     .rw[z',oY,eX,eX] at q;exact q
     .rw[z',oY,eX] at q;exact q
    cases e with
    |none=>
     obtain⟨ty,hty,hk⟩:=hv;rcases hk with hk|⟨k1,k2⟩
     .exact⟨_,rfl,_,_,false,rfl,hty,hk,_,rfl,oK (bad rfl)⟩
     .exact⟨_,rfl,_,_,true,rfl,hty,k1,_,rfl,mv ⟨_,rfl,_,_,true,rfl,hty,k2,_,rfl,a6 (bad rfl)⟩⟩
    |some n=>
     cases (show v=.int n from hv);refine⟨_,rfl,_,_,true,rfl,.int n,F.i,_,rfl,mv ⟨_,rfl,_,_,false,rfl,.int n,F.b,_,rfl,aP ⟨_,rfl,_,_,rfl,rfl,_,rfl,ite2 (λhn=>?_) λhn=>?_⟩⟩⟩
     .exact bad (KL (by have:n<0:=KM hn;lia))
     .refine⟨⟨_,rfl⟩,rfl,λe he'=>?_⟩;rw[et] at he';rcases bh.mp he' with z' | z'
      .exact hc e z'
      .rw[aV.mp z'];exact KJ (by have:¬n<0:=λz=>hn (KJ z);lia)
   .rintro Z H' ⟨⟨o,rfl⟩,rfl,hc⟩;have e1:=hc x (by simp);have e2:=hc y (by simp);have e3:=hc z (by simp);rw[e1,e2,e3] at q;cases x with
    |none=>cases e1
    |some a'=>cases y with
     |none=>cases e2
     |some b'=>cases z with
      |none=>cases e3
      |some c'=>
       cases (show a=.int a' from h1);cases (show b=.int b' from h2);cases (show c=.int c' from h3);have e:∀a b:Int,(!decide ((some a:Option Int)=some b))=!decide (V.int a=V.int b):=λa b=>by simp
       rw[e,e,e] at q;have q:Q (V.bl (!decide (V.int a'=V.int b')&&(!decide (V.int b'=V.int c')&&!decide (V.int c'=V.int a')))) H':=q;refine⟨_,rfl,t,_,_,_,rfl,rfl,SqT.of ht,rfl,_,rfl,t,_,_,_,rfl,rfl,SqT.of ht,rfl,rfl,_,rfl,ite2 (λz1=>?_) λz1=>?_⟩
       .rw[z1] at q;refine⟨_,rfl,t,_,_,_,rfl,rfl,SqT.of ht,rfl,_,rfl,t,_,_,_,rfl,rfl,SqT.of ht,rfl,rfl,_,rfl,ite2 (λz2=>?_) λz2=>?_⟩
        .rw[z2] at q;exact⟨_,rfl,t,_,_,_,rfl,rfl,SqT.of ht,rfl,_,rfl,t,_,_,_,rfl,rfl,SqT.of ht,rfl,rfl,q⟩
        .rw[jU.mpr z2] at q;exact q
       .rw[jU.mpr z1] at q;exact q
  .show if (!decide (V.int (xs.length:Int)=V.int 3))=true then _ else _
   rw[mx,KL (by lia)];rw[tZ (by rw[<-aN hp];exact hl)] at q;exact a6 q
end
theorem SdF.lt {ts:List Tri} {k k':Nat} {s s':Nat×Nat} (h:SdF ts k s) (h':SdF ts k' s'):¬k<k':=λhk=>by
 obtain⟨nd,t,j,ht,hj,hs,hf⟩:=h;have e:(ts.take k').take k=ts.take k:=by rw[List.take_take,pA (jc hk)]
 have z:SdF (ts.take k') k s:=⟨by rw[e];exact nd,t,j,by rw[ph,KI hk];exact ht,hj,by rw[e];exact hs,by rw[e];exact hf⟩;exact z.not h'.1
theorem SdF.one {ts:List Tri} {k k':Nat} {s s':Nat×Nat} (h:SdF ts k s) (h':SdF ts k' s'):k=k'/\s=s':=by
 have e:k=k':=by have h1:=h.lt h';have h2:=h'.lt h;lia
 subst e;refine⟨rfl,?_⟩;obtain⟨nd,t,j,ht,hj,hs,hf⟩:=h;obtain⟨_,t',j',ht',hj',hs',hf'⟩:=h';rw[ht] at ht';cases ht';have no:∀{i i':Nat} {x:Nat×Nat},((ent3 t).map (·.1))[i]?=some x->i<i'->x∈((ent3 t).map (·.1)).take i':=λ{i i' x} h1 h2=>bE (i:=i) (by rw[ph,KI h2];exact h1);have e:j=j':=by have h1:¬j<j':=λz=>hf' _ (no hj z) hs;have h2:¬j'<j:=λz=>hf _ (no hj' z) hs';lia
 subst e;exact dh (hj.symm.trans hj')
theorem fY:∀{ts us:List Tri},ts.map some=us.map some->ts=us
 | [],[],_=>rfl
 | [],_::_,h=>by cases h
 |_::_,[],h=>by cases h
 |a::ts,b::us,h=>by
  rw[a8,a8] at h;injection h with h1 h2;rw[dh h1,fY h2]
theorem iM {os:List (Option Tri)} {ts:List Tri} {k:Nat} (h:os=ts.map some) (e:os[k]?=some none):False:=by subst h;exact p9 (bE e)
theorem tL {os:List (Option Tri)} {k k':Nat} {ts:List Tri} (e:os[k]?=some none) (h:os.take k'=ts.map some):¬k<k':=λhk=>
 iM h (k:=k) (by rw[ph,KI hk];exact e)
theorem fault_one {os:List (Option Tri)} {a b:Option Flt} (h:fj os a) (h':fj os b):a=b:=by
 have big:∀{b:Option Flt},200<os.length->fj os b->b=some .many:=λ{b} hl hb=>by
  match b,hb with
  |some .many,_=>rfl
  |some (.triple k),hb=>exact absurd hb.1 (by lia)
  |some (.side k m n),hb=>exact absurd hb.1 (by lia)
  |some (.round c),hb=>exact absurd hb.1 (by lia)
  |none,hb=>exact absurd hb.1 (by lia)
 match a,b,h,h' with
 |some .many,b,h,h'=>exact (big h h').symm
 |a,some .many,h,h'=>exact big h' h
 |some (.triple k),some (.triple k'),⟨_,h1,t1,h2⟩,⟨_,h3,t2,h4⟩=>
  have e:k=k':=by have z1:=tL h1 h4;have z2:=tL h3 h2;lia
  rw[e]
 |some (.triple k),some (.side _ _ _),⟨_,h1,_⟩,⟨_,ts,h2,_⟩=>exact (iM h2 h1).elim
 |some (.triple k),some (.round _),⟨_,h1,_⟩,⟨_,ts,h2,_⟩=>exact (iM h2 h1).elim
 |some (.triple k),none,⟨_,h1,_⟩,⟨_,ts,h2,_⟩=>exact (iM h2 h1).elim
 |some (.side _ _ _),some (.triple k),⟨_,ts,h2,_⟩,⟨_,h1,_⟩=>exact (iM h2 h1).elim
 |some (.round _),some (.triple k),⟨_,ts,h2,_⟩,⟨_,h1,_⟩=>exact (iM h2 h1).elim
 |none,some (.triple k),⟨_,ts,h2,_⟩,⟨_,h1,_⟩=>exact (iM h2 h1).elim
 |some (.side k m n),some (.side k' m' n'),⟨_,ts,h1,h2⟩,⟨_,us,h3,h4⟩=>
  have e:=fY (h1.symm.trans h3);subst e;obtain⟨e1,e2⟩:=h2.one h4;cases e2;rw[e1]
 |some (.side k m n),some (.round _),⟨_,ts,h1,h2⟩,⟨_,us,h3,h4,_⟩=>
  have e:=fY (h1.symm.trans h3);subst e;exact (h2.not h4).elim
 |some (.side k m n),none,⟨_,ts,h1,h2⟩,⟨_,us,h3,h4,_⟩=>
  have e:=fY (h1.symm.trans h3);subst e;exact (h2.not h4).elim
 |some (.round _),some (.side k m n),⟨_,us,h3,h4,_⟩,⟨_,ts,h1,h2⟩=>
  have e:=fY (h1.symm.trans h3);subst e;exact (h2.not h4).elim
 |none,some (.side k m n),⟨_,us,h3,h4,_⟩,⟨_,ts,h1,h2⟩=>
  have e:=fY (h1.symm.trans h3);subst e;exact (h2.not h4).elim
 |some (.round c),some (.round c'),⟨_,ts,h1,_,a1,a2,a3⟩,⟨_,us,h3,_,b1,b2,b3⟩=>
  have e:=fY (h1.symm.trans h3);subst e;have:c=c':=by have z1:¬c<c':=λz=>a2 (b3 c a1 z);have z2:¬c'<c:=λz=>b2 (a3 c' b1 z);lia
  rw[this]
 |some (.round c),none,⟨_,ts,h1,_,a1,a2,a3⟩,⟨_,us,h3,_,b1⟩=>
  have e:=fY (h1.symm.trans h3);subst e;exact (a2 (b1 c a1)).elim
 |none,some (.round c),⟨_,us,h3,_,b1⟩,⟨_,ts,h1,_,a1,a2,a3⟩=>
  have e:=fY (h1.symm.trans h3);subst e;exact (a2 (b1 c a1)).elim
 |none,none,_,_=>rfl
def Rim (ts:List Tri) (s:Nat×Nat):Prop:=s∈(ents ts).map (·.1)/\(s.2,s.1)∉(ents ts).map (·.1)
theorem _root_.K31.SdsAt.same {ls:List (Nat×Nat)} (s:Same H H') (h:SdsAt H vs ls):SdsAt H' vs ls:=Paired.imp' (λ_ _ ⟨a,e,q⟩=>⟨a,e,s _ _ q⟩) h
def Et (vs:List V) (H:Hp) (Q:VK) (T:Addr) (vt:List V) (ts:List Tri):Prop:=vs=[.ref T]/\H T=some (.lst vt)/\aG H vt ts/\ts.length<=200/\((ents ts).map (·.1)).Nodup/\
 ∀r zs rs H',H r=none->Same H H'->H' r=some (.lst zs)->SdsAt H' zs rs->(∀s∈rs,Rim ts s)->rs.length<=600->rs.Nodup/\(∀s,Rim ts s->s∈rs)->Q (.ref r) H'
def xj:Sp:=λvs H Q _=>Exists (Ex3 (Et vs H Q))
section
theorem xm:bc ["_law_triples","_law_thirds_here"] ["_law_triples"] (aE kj):=by walk_at"sc"
theorem E3 {f f1:Addr} {fd d1:FuncData} (U:Fun K "_law_rim_sides" "_law_rim_sides" kj f fd) (mS:mg "sorted" = none) (G:ag P w K mg base CX0 1 f1 d1 ["_law_triples"] kx) (b1:Binds K d1 ["_law_triples"] []) (m1:mg "_law_thirds" = some (.ref f1)) (k1:W.keepIn K (.ref f1)=true) :
  ag P w K mg base CX0 2 f fd ["_law_triples"] xj:=by
 refine U.ok xm (λvs H Q E h=>?_) (λcdv A outer s H vs Q E hr h=>?_)
 .obtain⟨T,vt,ts,rfl,_⟩:=h;rfl
 .obtain⟨T,vt,ts,rfl,hT,ht,hl,hnd,q⟩:=h;have hu:=dA hr;refine⟨_,ah (az (i:=1) xm.nd rfl (.inr rfl) (aw G hr rfl m1 k1 b1 .nil pass0 (aa (pv 0) ae)))
   (ao (aX (dO (N:=["_law_a","_law_b","_law_thirds_here"]) (fr:=[none,none,some 1]) (g:=oS [] 2 (iU (dg 0) (iU (dg 1) oU))) (dS (by decide +kernel) rfl rfl (by decide +kernel) (by decide +kernel) (by walk_at"cs") (by walk_at"ct")) rfl (cC (aL (nA rfl) (by rfl) mS jm (aa (pv 1) ae)))
     (λC' s' H' fp pins=>⟨de rfl (aW (ay (i:=0) (show (["_law_a","_law_b","_law_thirds_here"]:List Str).Nodup by decide +kernel) rfl (.inl rfl) (.inr rfl)) (aW (ay (i:=1) (show (["_law_a","_law_b","_law_thirds_here"]:List Str).Nodup by decide +kernel) rfl (.inl rfl) (.inr rfl)) c_)),
      iL (oy (uj hu (aI (aa (pv 1) (aa (pv 0) ae))) (pv 2))),aI (aa (pv 0) (aa (pv 1) ae))⟩)))),?_⟩
  have hline:=line5000;refine⟨_,rfl,T,vt,ts,rfl,hT,ht,by lia,hnd,λD H1 hD0 s1 hD=>?_⟩;refine⟨_,rfl,D,rfl,.inr ⟨_,hD⟩,λks vs hk=>.inr ⟨_,uR (jn (K:=[]) hD hk),?_,λp ix hp pm _=>?_⟩⟩
  .rw[aN (jn (K:=[]) hD hk),aC,e_];lia
  have sd0:=jn (K:=[]) hD hk;have lk:=aN sd0;walk_at"H1 p hp H2 s2 y2";have ixb:∀i∈ix,i<ks.length:=λi hi=>jY.mp (pm.mem_iff.mp hi);have sdz:=pZ (Paired.imp' (λ_ _ ⟨a,e,h⟩=>⟨a,e,s2 _ _ h⟩) sd0:SdsAt H2 ks ((ents ts).map (·.1))) ix ixb;have pss:(ix.map λi=>((ents ts).map (·.1)).getD i (0,0)).Perm ((ents ts).map (·.1)):=ui (by rw[<-lk];exact pm);generalize (ix.map λi=>((ents ts).map (·.1)).getD i (0,0))=ss at sdz pss;generalize (ix.map λi=>ks.getD i .non)=zs at sdz y2;have lz:=aN sdz;have ndss:ss.Nodup:=pss.nodup_iff.mpr hnd;have lss:ss.length<=600:=by rw[pss.length_eq,aC,e_];lia
  refine⟨p,rfl,⟨_,SqL.of y2⟩,λZ_ hZ=>eF (K:=[]) (a:=p) (xs:=zs) (λi Z ys H'=>∃o1 o2 rs,Z=[o1,o2,some (.ref D)]/\Same H2 H'/\H' Z_=some (.lst ys)/\SdsAt H' ys rs/\(∀s∈rs,Rim ts s)/\rs.length<=i/\rs.Nodup/\(∀s∈rs,s∈ss.take i)/\∀s∈ss.take i,Rim ts s->s∈rs) ⟨none,none,[],rfl,cu hZ,aO,.nil,by simp,ar _,.nil,by simp,by simp⟩ (by rintro i Z ys H' _ ⟨_,_,_,_,e,_⟩;exact SqL.of (e _ _ y2)) ?_ ?_⟩
  .rintro i y Z ys H' hi ⟨o1,o2,rs,rfl,sm,hZ',sd,hrs,lrs,ndr,inr,allr⟩;obtain⟨⟨a,b⟩,hs,c,rfl,hc⟩:=cB sdz hi;have hil:i<ss.length:=(aJ.mp hs).1;have hm:(a,b)∈(ents ts).map (·.1):=pss.mem_iff.mp (bE hs);have et:ss.take (i+1)=ss.take i++[(a,b)]:=by rw[bV,hs];rfl
   refine⟨c,_,rfl,SqT.of (sm _ _ hc),rfl,_,_,rfl,_,_,rfl,rfl,?_⟩;refine⟨_,rfl,_,rfl,lit2,λt1 H3 g1 s3 y3=>?_⟩;have lys:ys.length<=600:=by rw[aN sd];lia
   refine⟨_,rfl,D,_,rfl,DGet.t (k:=ky b a) (s3 _ _ (sm _ _ (s2 _ _ hD))) y3,?_⟩;by_cases hba:(b,a)∈(ents ts).map (·.1)
   .have hv:(bj ((ents ts).map bH) (ky b a)).isSome=true:=by
     cases e:bj ((ents ts).map bH) (ky b a) with
     |none=>exact (gR.mp e hba).elim
     |some v=>rfl
    refine⟨false,by rw[hv];rfl,aP ⟨_,_,rs,rfl,sm.trans s3,s3 _ _ hZ',K31.SdsAt.same s3 sd,hrs,by lia,ndr,λs hs'=>by rw[et];exact dQ _ (inr s hs'),λs hs' hr'=>by
     rw[et] at hs';rcases bh.mp hs' with h|h
     .exact allr s h hr'
     .rw[aV.mp h] at hr';exact (hr'.2 hba).elim⟩⟩
   .refine⟨true,by rw[gR.mpr hba];rfl,a6 ⟨_,rfl,_,rfl,lit2,λt2 H4 g2 s4 y4=>?_⟩⟩;have hZ4:=s4 _ _ (s3 _ _ hZ');have tn:∀{b':Addr} {xs:List V},H4 b'=some (.tup xs)->b'≠Z_:=λe=>cK e hZ4 (by simp);refine⟨hZ4,by lia,λH5 k5 y5=>⟨_,_,rs++[(a,b)],rfl,λb' o e=>(k5 _ (ak e hZ)).trans (s4 _ _ (s3 _ _ (sm _ _ e))),y5,?_,?_,by rw[aZ,cM];lia,?_,λs hs'=>?_,λs hs' hr'=>?_⟩⟩
    .exact dz (Paired.imp' (λ_ _ ⟨b',e1,e2⟩=>⟨b',e1,by have e3:=s4 _ _ (s3 _ _ e2);exact (k5 _ (tn e3)).trans e3⟩) sd) (.cons ⟨t2,rfl,(k5 _ (tn y4)).trans y4⟩ .nil)
    .intro s hs';rcases bh.mp hs' with h|h
     .exact hrs s h
     .rw[aV.mp h];exact⟨hm,hba⟩
    .rw[dq];refine⟨ndr,by simp,λx hx z hz e=>?_⟩;rw[aV.mp hz] at e;rw[e] at hx;have nd:=ndss;rw[<-gI (i+1) ss,et,dq,dq] at nd;exact nd.1.2.2 _ (inr _ hx) _ (by simp) rfl
    .rw[et];rcases bh.mp hs' with h|h
     .exact dQ _ (inr s h)
     .exact fU _ h
    .rw[et] at hs';rcases bh.mp hs' with h|h
     .exact dQ _ (allr s h hr')
     .exact fU _ h
  .rintro Z ys H' ⟨o1,o2,rs,rfl,sm,hZ',sd,hrs,lrs,ndr,inr,allr⟩;refine q Z_ ys rs H' ?_ ((s1.trans s2).trans sm) hZ' sd hrs (by lia) ⟨ndr,λs hs=>allr s (by rw[jb (by lia)];exact pss.mem_iff.mpr hs.1) hs⟩;exact (s1.trans s2).free hZ
end
theorem G_ {g:TG} {x:V} {tb:TS} {rt:VK} {bk P:St->Hp->Prop} (h:∀N:St->Hp->Prop,(∀Z' H',P Z' H'->N Z' H')->g x Z H (tb ⟨N,rt,bk,N⟩)):g x Z H λZ2 H2=>tb ⟨P,rt,bk,P⟩ Z2 H2:=h P λ_ _ z=>z
def Bs (vs:List V) (H:Hp) (Q:VK) (p:Addr) (q:Int×Int) (m:Nat):Prop:=vs=[.ref p,.int (m:Int)]/\H p=some (.lst (bo q))/\bu q/\m<=16/\
 ∀r vr ts q' H',H r=none->But p H H'->H' p=some (.lst (bo q'))->bu q'->H' r=some (.lst vr)->aG H' vr ts->ts.length<=m->Good ts->Q (.ref r) H'
def vI:Sp:=λvs H Q _=>Exists (Ex3 (Bs vs H Q))
def Cov (ts:List Tri) (n:Nat):Prop:=∀c,Co ts c↔c<n
theorem FF {ts:List Tri} {cs:List Nat} {n:Nat} (h:Cs ts cs) (hc:Cov ts n):cs.length=n:=by
 have nd:cs.Nodup:=h.1.imp λhab=>bJ hab;have:cs.Perm (List.range n):=(List.perm_ext_iff_of_nodup nd Ii).mpr λa=>by
  rw[jY,h.2 a];refine Iff.trans ?_ (hc a);rw[cG];unfold flat;rw[fV];constructor
  .rintro⟨t,h1,h2⟩;exact⟨t,h1,by simpa using h2⟩
  .rintro⟨t,h1,h2⟩;exact⟨t,h1,by simpa using h2⟩
 rw[this.length_eq,mY]
theorem Cz {ts:List Tri} {n a b x:Nat} (hc:Cov ts n) (ha:a<n) (hb:b<n) (hx:x<n\/x=n):Cov (ts++[(b,a,x)]) (if x=n then n+1 else n):=λc=>by
 have:Co (ts++[(b,a,x)]) c↔Co ts c\/c=b\/c=a\/c=x:=by
  rw[cG,cG];constructor
  .rintro⟨t,h1,h2⟩;rcases bh.mp h1 with h|h
   .exact .inl ⟨t,h,h2⟩
   .rw[aV] at h;subst h;exact .inr h2
  .rintro (⟨t,h1,h2⟩|h)
   .exact⟨t,dQ _ h1,h2⟩
   .exact⟨(b,a,x),by simp,h⟩
 rw[this,hc c]
 split<;>lia
theorem DU {ts:List Tri} {n:Nat} (hc:Cov ts n):Cov (ts++[(n,n+1,n+2)]) (n+3):=λc=>by
 have:Co (ts++[(n,n+1,n+2)]) c↔Co ts c\/c=n\/c=n+1\/c=n+2:=by
  rw[cG,cG];constructor
  .rintro⟨t,h1,h2⟩;rcases bh.mp h1 with h|h
   .exact .inl ⟨t,h,h2⟩
   .rw[aV] at h;subst h;exact .inr h2
  .rintro (⟨t,h1,h2⟩|h)
   .exact⟨t,dQ _ h1,h2⟩
   .exact⟨(n,n+1,n+2),by simp,h⟩
 rw[this,hc c];lia
def sdD (s:Nat×Nat):PyData:=.tuple [.int (s.1:Int),.int (s.2:Int)]
theorem oq {ss:List (Nat×Nat)} (h:SdsAt H vs ss):Dts K H vs (ss.map sdD):=by
 induction h with
 |nil=>exact .nil
 |cons q _ ih=>
  obtain⟨a,rfl,ha⟩:=q;exact .cons (.tup (SqT.of ha) (.cons (.int _) (.cons (.int _) .nil))) ih
theorem By (ss:List (Nat×Nat)):(PyData.list (ss.map sdD)).depth<=60:=by
 have:PyData.depthAll (ss.map sdD)<=1:=by
  induction ss with
  |nil=>exact aU _
  |cons u us ih=>
   rw[a8];show max (sdD u).depth _<=1;have:(sdD u).depth=1:=by simp[sdD,PyData.depth,PyData.depthAll]
   lia
 show PyData.depthAll _+1<=60;lia
theorem DQ (ds:List PyData):PyData.eqv (.list ds) (.list [])=ds.isEmpty:=by cases ds<;>simp[PyData.eqv,PyData.eqvAll]
theorem free_of {ts:List Tri} (g:Good ts) {x:Tri} (h:∀s∈dN x,∀c,¬En ts s.1 s.2 c):ip ts x=true:=by unfold ip;rw[jV];intro s hs;refine KJ λz=>?_;obtain⟨⟨⟨a,b⟩,c⟩,h1,rfl⟩:=aD.mp z;exact h (a,b) hs c h1
section
theorem fe:bc ["_law_pot_here","_law_most","_law_triples","_law_k","_law_rim","_law_come","_law_new","_law_a","_law_b","_law_thirds_here","_law_some","_law_near"] ["_law_pot_here","_law_most"] (aE kZ):=by walk_at"sc"
theorem BY {f f1 f2 f3 f4 f5:Addr} {fd d1 d2 d3 d4 d5:FuncData} (U:Fun K "_law_grown" "_law_grown" kZ f fd) (T:cH mg)
  (GD:ag P w K mg base CX0 2 f1 d1 ["_law_pot_here","_law_base"] fJ) (bD:Binds K d1 ["_law_pot_here","_law_base"] []) (mD:mg "_law_digit" = some (.ref f1)) (kD:W.keepIn K (.ref f1)=true)
  (GT:ag P w K mg base CX0 2 f2 d2 ["_law_triples"] kx) (bT:Binds K d2 ["_law_triples"] []) (mT:mg "_law_thirds" = some (.ref f2)) (kT:W.keepIn K (.ref f2)=true)
  (GF:ag P w K mg base CX0 2 f3 d3 ["_law_thirds_here","_law_triple"] qH) (bF:Binds K d3 ["_law_thirds_here","_law_triple"] []) (mF:mg "_law_free" = some (.ref f3)) (kF:W.keepIn K (.ref f3)=true)
  (GR:ag P w K mg base CX0 2 f4 d4 ["_law_triples"] xj) (bR:Binds K d4 ["_law_triples"] []) (mR:mg "_law_rim_sides" = some (.ref f4)) (kR:W.keepIn K (.ref f4)=true)
  (GC:ag P w K mg base CX0 2 f5 d5 ["_law_triples"] gP) (bC:Binds K d5 ["_law_triples"] []) (mC:mg "_law_corners" = some (.ref f5)) (kC:W.keepIn K (.ref f5)=true) :
  ag P w K mg base CX0 3 f fd ["_law_pot_here","_law_most"] vI:=by
 refine U.ok fe (λvs H Q E h=>?_) (λcdv A outer s H vs Q E hr h=>?_)
 .obtain⟨p,q,m,rfl,_⟩:=h;rfl
 .obtain⟨p,q,m,rfl,hp,pok,hm,Qq⟩:=h;have hu:=dA hr;refine⟨_,(ah (az (i:=2) fe.nd rfl (.inl rfl) (bY ae))
   (ah (cD cI rfl (jo rfl T.range (aa (aw GD hr rfl mD kD bD .nil pass0 (aa (pv 0) (aa (aA cy (pv 1) ai) ae))) ae)) (ay (i:=3) fe.nd rfl (.inl rfl))
    (ah (az (i:=4) fe.nd rfl (.inr rfl) (aw GR hr rfl mR kR bR .nil pass0 (aa (pv 2) ae)))
   (ah (az (i:=5) fe.nd rfl (.inl rfl) (aw GC hr rfl mC kC bC .nil pass0 (aa (pv 2) ae)))
   (ah (az (i:=6) fe.nd rfl (.inl rfl) (aL c9 (by rfl) T.len di (aa (pv 5) ae)))
   (ah (br (ba (wM hr.units) (pv 4) (bY ae) (nomark _)) (ah (cU (df dG iA iB fE (pv 2) (aa (aI (aa (pv 6) (aa (aA cy (pv 6) ai) (aa (aA cy (pv 6) ai) ae)))) ae)))
   (ao zB)) bK)
   (ah (gh (bL cv (pv 4) (aw GD hr rfl mD kD bD .nil pass0 (aa (pv 0) (aa (aL c9 (by rfl) T.len di (aa (pv 4) ae)) ae))) (λ_ _=>rfl)) (de rfl (aW (ay (i:=7) fe.nd rfl (.inr rfl)) (aW (ay (i:=8) fe.nd rfl (.inr rfl)) c_))))
   (ah (az (i:=9) fe.nd rfl (.inr rfl) (aw GT hr rfl mT kT bT .nil pass0 (aa (pv 2) ae)))
   (ah (az (i:=10) fe.nd rfl (.inl rfl) (aA fN (dO (N:=["_law_x","_law_a","_law_b","_law_thirds_here"]) (fr:=[none,some 7,some 8,some 9])  (dS (by decide +kernel) rfl rfl (by decide +kernel) (by decide +kernel) (by walk_at"cs") (by walk_at"ct")) rfl (cC (pv 5))
     (λC' s' H' fp pins=>⟨(ay (i:=0) (show (["_law_x","_law_a","_law_b","_law_thirds_here"]:List Str).Nodup by decide +kernel) rfl (.inl rfl) (.inr rfl)),iL (PW.pt (gg (ba (show OpR _ (compareOp .NotIn) (rIn [] true) from kh) (pv 0) (aI (aa (pv 1) (aa (pv 2) ae))) rfl) (gZ (cQ (aw GF hr rfl mF kF bF .nil pass0 (aa (pv 3) (aa (aI (aa (pv 2) (aa (pv 1) (aa (pv 0) ae)))) ae))))))),(pv 0)⟩)) (bY (aa (pv 6) ae))))
   (ah (az (i:=11) fe.nd rfl (.inl rfl) (aA fN (dO (N:=["_law_x","_law_a","_law_b","_law_rim"]) (fr:=[none,some 7,some 8,some 4])  (dS (by decide +kernel) rfl rfl (by decide +kernel) (by decide +kernel) (by walk_at"cs") (by walk_at"ct")) rfl (cC (pv 10))
     (λC' s' H' fp pins=>⟨(ay (i:=0) (show (["_law_x","_law_a","_law_b","_law_rim"]:List Str).Nodup by decide +kernel) rfl (.inl rfl) (.inr rfl)),iL (PW.pt (fq (ba (show OpR _ (compareOp .In) (rD [] false) from qQ hr.units) (aI (aa (pv 2) (aa (pv 0) ae))) (pv 3) rfl) (iO (ba (show OpR _ (compareOp .In) (rD [] false) from qQ hr.units) (aI (aa (pv 0) (aa (pv 1) ae))) (pv 3) rfl)))),(pv 0)⟩)) (pv 10)))
   (ao (cU (df dG iA iB fE (pv 2) (aa (aI (aa (pv 8) (aa (pv 7) (aa (bL cv (pv 11) (aw GD hr rfl mD kD bD .nil pass0 (aa (pv 0) (aa (aL c9 (by rfl) T.len di (aa (pv 11) ae)) ae))) (λ_ _=>rfl)) ae)))) ae)))))))))))))
   (ao (aX (pv 2))))),?_⟩
  have hline:=line5000;refine⟨aU _,λfo H1 hfo s1 y1=>?_⟩;obtain⟨d3,d4⟩:=cA (q:=q) (b:=(m:Int)+1) (by lia);refine⟨_,rfl,_,rfl,_,_,rfl,rfl,p,q,_,rfl,s1 _ _ hp,pok,by lia,lg20 (by lia),λH2 k2 y2=>⟨_,rfl,by lia,by lia,?_⟩⟩;have nfp:fo≠p:=λz=>by rw[z,hp] at hfo;cases hfo
  have hN:(digO q ((m:Int)+1)).toNat<=m:=by lia
  generalize (digO q ((m:Int)+1)).toNat=N at hN;refine kr (lo:=0) (n:=N) (λi Z H'=>∃o3 o4 o5 o6 o7 o8 o9 oa ob vf tf q' n,Z=[some (V.ref p),some (.int (m:Int)),some (.ref fo),o3,o4,o5,o6,o7,o8,o9,oa,ob]/\But p H H'/\H' p=some (.lst (bo q'))/\bu q'/\H' fo=some (.lst vf)/\aG H' vf tf/\tf.length<=i/\Good tf/\Cov tf n)
   ⟨none,none,none,none,none,none,none,none,none,[],[],_,0,rfl,λb' o nb e=>(k2 b' nb).trans (s1 _ _ e),y2,a9 pok,(k2 fo nfp).trans y1,.nil,ar _,⟨by simp,by simp[ents]⟩,λc=>by simp[cG]⟩ ?_ ?_
  .rintro i Z H4 hi ⟨o3,o4,o5,o6,o7,o8,o9,oa,ob,vf,tf,q4,n,rfl,sm,hp4,pok4,hfo4,tr4,htl,gf,cov⟩;refine G_ λNX hN=>?_;have ltf:tf.length<=16:=by lia
   have lvf:=aN tr4;have fin:∀(t:Addr) (u:Tri) (H8:Hp) (q8:Int×Int) (n':Nat) (x3 x4 x5 x6 x7 x8 x9 xa xb:Option V),But p H H8->H8 p=some (.lst (bo q8))->bu q8->H8 fo=some (.lst vf)->aG H8 vf tf->H8 t=some (.tup [.int (u.1:Int),.int (u.2.1:Int),.int (u.2.2:Int)])->Good (tf++[u])->Cov (tf++[u]) n'->∀H9:Hp,(∀b',b'≠fo->H9 b'=H8 b')->H9 fo=some (.lst (vf++[V.ref t]))->
     ∃o3 o4 o5 o6 o7 o8 o9 oa ob vf' tf' q' n',[some (V.ref p),some (.int (m:Int)),some (.ref fo),x3,x4,x5,x6,x7,x8,x9,xa,xb]=[some (V.ref p),some (.int (m:Int)),some (.ref fo),o3,o4,o5,o6,o7,o8,o9,oa,ob]/\But p H H9/\H9 p=some (.lst (bo q'))/\bu q'/\H9 fo=some (.lst vf')/\aG H9 vf' tf'/\tf'.length<=i+1/\Good tf'/\Cov tf' n':=by
    intro t u H8 q8 n' x3 x4 x5 x6 x7 x8 x9 xa xb b8 p8 k8 f8 tr8 ht g8 c8 H9 k9 y9;have tn:∀{b':Addr} {xs:List V},H8 b'=some (.tup xs)->b'≠fo:=λe=>cK e f8 (by simp);refine⟨_,_,_,_,_,_,_,_,_,_,tf++[u],q8,n',rfl,λb' o nb e=>(k9 b' (ak e hfo)).trans (b8 b' o nb e),(k9 p (av nfp)).trans p8,k8,y9,?_,by rw[aZ,cM];lia,g8,c8⟩;exact dz (Paired.imp' (λ_ _ ⟨b',e1,e2⟩=>⟨b',e1,(k9 _ (tn e2)).trans e2⟩) tr8) (.cons ⟨t,rfl,(k9 _ (tn ht)).trans ht⟩ .nil)
   have notco:∀{a b c:Nat},En tf a b c->a<n/\b<n:=λ{a b c} e=>⟨(cov a).mp ⟨b,c,e⟩,(cov b).mp ⟨c,a,gf.sk.rot e⟩⟩;refine⟨_,rfl,fo,vf,tf,rfl,hfo4,tr4,by lia,gf.nd,λRm zs rs H5 hR0 s5 y5 sd hrim lrs _=>?_⟩;refine⟨_,rfl,fo,vf,tf,rfl,s5 _ _ hfo4,tr4.same s5,by lia,λL cs H6 hL0 s6 y6 hcs lcs=>?_⟩;have lcn:=FF hcs cov;refine⟨_,rfl,L,_,rfl,.inl (SqL.of y6),?_⟩;rw[bq,lcn];have s46:=s5.trans s6;refine⟨_,rfl,aU _,λz H7 hz s7 y7=>?_⟩;have s47:=s46.trans s7;refine⟨.list (rs.map sdD),.list [],.lst (SqL.of (s7 _ _ (s6 _ _ y5))) (oq (K31.SdsAt.same s7 (K31.SdsAt.same s6 sd))),.lst (SqL.of y7) .nil,By rs,_,rfl,?_⟩;rw[KH bN,DQ];cases rs with
   |nil=>
    refine a6 ⟨_,rfl,.inl ⟨rfl,_,SqL.of (s47 _ _ hfo4)⟩,_,rfl,_,rfl,_,_,rfl,rfl,_,rfl,_,_,rfl,rfl,lit3,λt H8 ht s8 y8=>?_⟩;have s48:=s47.trans s8;refine⟨fo,vf,_,rfl,rfl,s48 _ _ hfo4,by lia,λH9 k9 y9=>hN _ _ ?_⟩;refine fin t (n,n+1,n+2) H8 q4 (n+3) _ _ _ _ _ _ _ _ _ (sm.same s48) (s48 _ _ hp4) pok4 (s48 _ _ hfo4) (tr4.same s48) y8 (nM gf ⟨by show n≠n+1;lia,by show n+1≠n+2;lia,by show n+2≠n;lia⟩ (free_of gf λs hs c e=>?_)) (DU cov) H9 k9 y9;have:=notco e;simp only[dN,aT,mZ,or_false] at hs;rcases hs with rfl|rfl|rfl<;>simp only at this<;>lia
   |cons r0 rs=>
    refine aP ?_;generalize hrs:r0::rs=rl at *;have hrl:0<rl.length:=by rw[<-hrs];simp
    have lzs:=aN sd;obtain⟨e1,e2⟩:=cA (q:=q4) (b:=(zs.length:Int)) (by lia);obtain⟨k,hk⟩:∃k:Nat,digO q4 (zs.length:Int)=(k:Int):=⟨_,(dM e1).symm⟩;have hkl:k<rl.length:=by lia
    obtain⟨⟨a,b⟩,hab⟩:∃s,rl[k]?=some s:=⟨_,bZ hkl⟩;obtain⟨zv,hzv,tt,rfl,htt⟩:=qM sd hab;obtain⟨rim1,rim2⟩:=hrim (a,b) (bE hab);refine⟨_,rfl,_,rfl,_,rfl,Rm,_,rfl,.inl (SqL.of (s7 _ _ (s6 _ _ y5))),p,q4,_,rfl,s47 _ _ hp4,pok4,by lia,iF (by lia) (by lia),λH8 k8 y8=>?_⟩;rw[hk];have nRp:∀{b':Addr} {o:HO},H4 b'=none->H7 b'=some o->b'≠p:=λh0 h1 z=>by rw[z,hp4] at h0;cases h0
    have s78:∀b' o,b'≠p->H7 b'=some o->H8 b'=some o:=λb' o nb e=>(k8 b' nb).trans e;have hRm7:H7 Rm=some (.lst zs):=s7 _ _ (s6 _ _ y5);have hRm8:=s78 _ _ (nRp hR0 hRm7) hRm7;have htt7:H7 tt=some (.tup [.int (a:Int),.int (b:Int)]):=s7 _ _ (s6 _ _ htt);have hp7:=s47 _ _ hp4;have htt8:=s78 _ _ (cK htt7 hp7 (by simp)) htt7;have sd8:SdsAt H8 zs rl:=Paired.imp' (λ_ _ ⟨b',e1,e2⟩=>⟨b',e1,by have e3:=s7 _ _ (s6 _ _ e2);exact s78 _ _ (cK e3 hp7 (by simp)) e3⟩) sd;have hfo8:=s78 _ _ nfp (s47 _ _ hfo4);have tr8:aG H8 vf tf:=Paired.imp' (λ_ _ ⟨b',e1,e2⟩=>⟨b',e1,by have e3:=s47 _ _ e2;exact s78 _ _ (cK e3 hp7 (by simp)) e3⟩) tr4;have hL7:H7 L=some (.lst (nV cs)):=s7 _ _ y6;have nLp:L≠p:=λzz=>by rw[zz,s5 _ _ hp4] at hL0;cases hL0
    have hL8:=s78 _ _ nLp hL7;have but8:But p H H8:=λb' o nb e=>s78 _ _ nb (s47 _ _ (sm b' o nb e));obtain⟨hab1,hab2⟩:a<n/\b<n:=by obtain⟨⟨⟨x,y⟩,c⟩,h1,h2⟩:=aD.mp rim1;cases h2;exact notco h1
    have hne:a≠b:=by obtain⟨⟨⟨x,y⟩,c⟩,h1,h2⟩:=aD.mp rim1;cases h2;exact gf.sk.ne h1
    refine⟨Rm,zs,(k:Int),_,rfl,rfl,SqL.of hRm8,ck hzv,tt,_,rfl,SqT.of htt8,rfl,_,_,rfl,_,_,rfl,rfl,?_⟩;refine⟨_,rfl,fo,vf,tf,rfl,hfo8,tr8,by lia,gf.nd,λD H9 hD0 s9 y9=>?_⟩;refine⟨_,rfl,L,rfl,⟨_,SqL.of (s9 _ _ hL8)⟩,λZ_ hZ=>eF (K:=[]) (a:=L) (xs:=nV cs) (λi Z ys H'=>∃o sl,Z=[o,some (.int (a:Int)),some (.int (b:Int)),some (.ref D)]/\Same H9 H'/\H' Z_=some (.lst ys)/\ys=nV sl/\(∀x∈sl,x<n/\x≠a/\x≠b/\ip tf (b,a,x)=true)/\sl.length<=i)
     ⟨none,[],rfl,cu hZ,aO,rfl,by simp,ar _⟩ (by rintro i Z ys H' _ ⟨_,_,_,e,_⟩;exact SqL.of (e _ _ (s9 _ _ hL8))) ?_ ?_⟩
    .rintro j y Z ys H' hj ⟨o,sl,rfl,sj,hZj,rfl,hsl,lsl⟩;rw[nV,bp] at hj;obtain⟨x,hx,rfl⟩:=cT.mp hj;have hjl:=(aJ.mp hx).1;have hxn:x<n:=by
      refine (cov x).mp ?_;have:=(hcs.2 x).mp (bE hx);rw[cG];unfold flat at this;rw[fV] at this;obtain⟨t,h1,h2⟩:=this;exact⟨t,h1,by simpa using h2⟩
     refine⟨_,rfl,_,rfl,_,rfl,lit2,λt1 Ha g1 sA yA=>?_⟩;refine⟨t1,_,rfl,.inr (SqT.of yA),rfl,rfl,_,rfl,?_⟩;show if (if true=true then !inV (V.int (x:Int)) (nV [a,b]) else _)=true then _ else _
     rw[KI rfl,ie];by_cases hxab:x∈[a,b]
     .rw[KJ hxab];exact aP (aP ⟨_,sl,rfl,sj.trans sA,sA _ _ hZj,rfl,hsl,by lia⟩)
     .rw[KL hxab];refine a6 ⟨_,rfl,_,rfl,_,rfl,_,rfl,lit3,λt2 Hb g2 sB yB=>?_⟩;refine⟨D,t2,tf,(b,a,x),rfl,sB _ _ (sA _ _ (sj _ _ y9)),yB,λHc sC=>?_⟩;have sjC:=((sj.trans sA).trans sB).trans sC;have hZc:=sC _ _ (sB _ _ (sA _ _ hZj));refine⟨_,rfl,?_⟩;by_cases hfr:ip tf (b,a,x)=true
      .rw[hfr];refine a6 ⟨_,rfl,hZc,by rw[bq];lia,λH3 k3 y3=>⟨_,sl++[x],rfl,λb' o e=>(k3 b' (ak e hZ)).trans (sjC _ _ e),y3,by rw[qR,eQ],λy hy=>?_,by rw[aZ,cM];lia⟩⟩
       .rcases bh.mp hy with h|h
        .exact hsl y h
        .rw[aV.mp h];simp at hxab;exact⟨hxn,hxab.1,hxab.2,hfr⟩
      .rw[jU.mpr hfr];exact aP ⟨_,sl,rfl,sjC,hZc,rfl,hsl,by lia⟩
    .rintro Z ys Ha ⟨o,sl,rfl,sA,hZa,rfl,hsl,lsl⟩;rw[bq,lcn] at lsl;refine⟨_,rfl,lit1,λl1 Hb g1 sB yB=>?_⟩;refine⟨Z_,l1,_,_,rfl,rfl,sB _ _ hZa,yB,by rw[bq];simp only[cM];lia,λSo Hc g2 sC yC=>?_⟩;rw[qR,eQ] at yC;have s9c:=(sA.trans sB).trans sC;refine⟨_,rfl,So,rfl,⟨_,SqL.of yC⟩,λY hY=>eF (K:=[]) (a:=So) (xs:=nV (sl++[n])) (λi Z ys H'=>∃o nl,Z=[o,some (.int (a:Int)),some (.int (b:Int)),some (.ref Rm)]/\Same Hc H'/\H' Y=some (.lst ys)/\ys=nV nl/\(∀x∈nl,x∈sl++[n])/\nl.length<=i)
      ⟨none,[],rfl,cu hY,aO,rfl,by simp,ar _⟩ (by rintro i Z ys H' _ ⟨_,_,_,e,_⟩;exact SqL.of (e _ _ yC)) ?_ ?_⟩
     .rintro j y Z ys H' hj ⟨o,nl,rfl,sj,hYj,rfl,hnl,lnl⟩;rw[nV,bp] at hj;obtain⟨x,hx,rfl⟩:=cT.mp hj;have hjl:=(aJ.mp hx).1;rw[aZ,cM] at hjl;have hxm:=bE hx;have hRmj:∀{Hx:Hp},Same H' Hx->Hx Rm=some (.lst zs)/\SdsAt Hx zs rl:=λsx=>⟨sx _ _ (sj _ _ (s9c _ _ (s9 _ _ hRm8))),K31.SdsAt.same (((s9.trans s9c).trans sj).trans sx) sd8⟩;have take:∀Hx:Hp,Same H' Hx->Hx Y=some (.lst (nV nl))/\(nV nl).length<sizeLine/\∀H3:Hp,(∀b',b'≠Y->H3 b'=Hx b')->H3 Y=some (.lst (nV nl++[V.int (x:Int)]))->∃o nl',[some (V.int (x:Int)),some (.int (a:Int)),some (.int (b:Int)),some (.ref Rm)]=[o,some (.int (a:Int)),some (.int (b:Int)),some (.ref Rm)]/\Same Hc H3/\H3 Y=some (.lst (nV nl++[V.int (x:Int)]))/\nV nl++[V.int (x:Int)]=nV nl'/\(∀y∈nl',y∈sl++[n])/\nl'.length<=j+1:=λHx sx=>by
       refine⟨sx _ _ hYj,by rw[bq];lia,λH3 k3 y3=>⟨_,nl++[x],rfl,λb' o e=>(k3 b' (ak e hY)).trans (sx _ _ (sj _ _ e)),y3,by rw[qR,eQ],λy hy=>?_,by rw[aZ,cM];lia⟩⟩
       .rcases bh.mp hy with h|h
        .exact hnl y h
        .rw[aV.mp h];exact hxm
      refine⟨_,rfl,_,rfl,lit2,λt1 Hd g1 sD yD=>?_⟩;obtain⟨r1,r2⟩:=hRmj sD;refine⟨_,rfl,sdD (b,x),Rm,zs,_,.tup (SqT.of yD) (.cons (.int _) (.cons (.int _) .nil)),rfl,.inl (SqL.of r1),oq r2,by show max 0 (max 0 0)+1<=60;decide,_,rfl,?_⟩;rw[KH bN];generalize (rl.map sdD).any _=b1;cases b1 with
      |true=>exact a6 (a6 ⟨_,rfl,take Hd sD⟩)
      |false=>
       refine aP ⟨_,rfl,_,rfl,lit2,λt2 He g2 sE yE=>?_⟩;obtain⟨r1,r2⟩:=hRmj (sD.trans sE);refine⟨_,rfl,sdD (x,a),Rm,zs,_,.tup (SqT.of yE) (.cons (.int _) (.cons (.int _) .nil)),rfl,.inl (SqL.of r1),oq r2,by show max 0 (max 0 0)+1<=60;decide,_,rfl,?_⟩;rw[KH bN];generalize (rl.map sdD).any _=b2;cases b2 with
       |true=>exact a6 ⟨_,rfl,take He (sD.trans sE)⟩
       |false=>exact aP ⟨_,nl,rfl,sj.trans (sD.trans sE),sE _ _ (sD _ _ hYj),rfl,hnl,by lia⟩
     .rintro Z ys Hd ⟨o,nl,rfl,sD,hYd,rfl,hnl,lnl⟩;rw[bq,aZ,cM] at lnl;refine⟨_,rfl,Y,So,_,_,rfl,rfl,hYd,sD _ _ yC,by rw[bq,bq,aZ,cM];lia,λNr He g3 sE yE=>?_⟩;rw[eQ] at yE;have s8e:Same H8 He:=((s9.trans s9c).trans sD).trans sE;have hpe:He p=some (.lst (bo (nxt q4 (zs.length:Int)))):=s8e _ _ y8;obtain⟨e3,e4⟩:=cA (q:=nxt q4 (zs.length:Int)) (b:=((nV (nl++(sl++[n]))).length:Int)) (by rw[bq];simp only[aZ,cM];lia);obtain⟨k2',hk2⟩:∃k:Nat,digO (nxt q4 (zs.length:Int)) ((nV (nl++(sl++[n]))).length:Int)=(k:Int):=⟨_,(dM e3).symm⟩;have lne:(nV (nl++(sl++[n]))).length=nl.length+(sl.length+1):=by rw[bq];simp
      have hk2l:k2'<(nl++(sl++[n])).length:=by have l2:=bq (nl++(sl++[n]));lia
      have hxg:(nl++(sl++[n]))[k2']?=some (nl++(sl++[n]))[k2']:=bZ hk2l;generalize (nl++(sl++[n]))[k2']=x at hxg;have hxs:x∈sl++[n]:=by
       rcases bh.mp (bE hxg) with h|h
       .exact hnl x h
       .exact h
      refine⟨_,rfl,.inl ⟨rfl,_,SqL.of (s8e _ _ hfo8)⟩,_,rfl,_,rfl,_,rfl,_,rfl,_,rfl,Nr,_,rfl,.inl (SqL.of yE),p,_,_,rfl,hpe,a9 pok4,by lia,iF (by lia) (by lia),λHf kf yf=>?_⟩;rw[hk2];have sef:∀b' o,b'≠p->He b'=some o->Hf b'=some o:=λb' o nb e=>(kf b' nb).trans e;have nNe:Nr≠p:=λzz=>by rw[zz,sD _ _ (s9c _ _ (s9 _ _ y8))] at g3;cases g3
      refine⟨Nr,_,(k2':Int),_,rfl,rfl,SqL.of (sef _ _ nNe yE),ck (E7 hxg),lit3,λt Hg ht sG yG=>?_⟩;have hfog:=sG _ _ (sef _ _ nfp (s8e _ _ hfo8));refine⟨fo,vf,_,rfl,rfl,hfog,by lia,λH9 k9 y9=>hN _ _ ?_⟩;have good:Good (tf++[(b,a,x)])/\(x<n\/x=n):=by
       rcases bh.mp hxs with h|h
       .obtain⟨h1,h2,h3,h4⟩:=hsl x h;exact⟨nM gf ⟨av hne,av h2,h3⟩ h4,.inl h1⟩
       .rw[aV.mp h];refine⟨nM gf ⟨av hne,by show a≠n;lia,by show n≠b;lia⟩ (free_of gf λs hs c e=>?_),.inr rfl⟩;have hn:=notco e;simp only[dN,aT,mZ,or_false] at hs;rcases hs with rfl|rfl|rfl
        .exact rim2 (aD.mpr ⟨_,e,rfl⟩)
        .simp only at hn;lia
        .simp only at hn;lia
      exact fin t (b,a,x) Hg _ _ _ _ _ _ _ _ _ _ _ (λb' o nb e=>sG _ _ (sef _ _ nb (s8e _ _ (but8 b' o nb e)))) (sG _ _ yf) (a9 (a9 pok4)) hfog (Paired.imp' (λ_ _ ⟨b',e1,e2⟩=>⟨b',e1,by have e3:=s8e _ _ e2;exact sG _ _ (sef _ _ (cK e3 hpe (by simp)) e3)⟩) tr8) yG good.1 (Cz cov hab1 hab2 good.2) H9 k9 y9
  .rintro Z H4 ⟨o3,o4,o5,o6,o7,o8,o9,oa,ob,vf,tf,q4,n,rfl,sm,hp4,pok4,hfo4,tr4,htl,gf,cov⟩;exact⟨_,rfl,Qq fo vf tf q4 H4 hfo sm hp4 pok4 hfo4 tr4 (by lia) gf⟩
end
def rtF (i:Nat):List Tri:=[(i,(i+1)%7,(i+3)%7),(i,(i+3)%7,(i+2)%7)]
def rt:List Tri:=(List.range 7).flatMap rtF
theorem qt:Good rt:=⟨by decide +kernel,by decide +kernel⟩
theorem EH:∀i:Fin 14,∀j:Fin 13,∃t∈(rt.eraseIdx i).eraseIdx j,6=t.1\/6=t.2.1\/6=t.2.2:=by decide +kernel
theorem xo:∀t∈rt,t.1<7/\t.2.1<7/\t.2.2<7:=by decide +kernel
theorem pQ {α:Type}:∀{l:List α} {i:Nat} {x:α},l[i]?=some x->(l.eraseIdx i++[x]).Perm l
 | [],i,x,h=>by simp at h
 |a::l,0,x,h=>by
  simp at h;subst h;exact (gH (l₁:=l) (l₂:=[a]))
 |a::l,i+1,x,h=>(pQ (l:=l) (i:=i) (by simpa using h)).cons a
theorem A5 {as bs:List Tri} (h:as.Perm bs):(ents as).Perm (ents bs):=h.flatMap_right _
theorem nP {H H1:Hp} {fo t:Addr} {vf:List V} {tf:List Tri} {u:Tri} (hf:H fo=some (.lst vf)) (k:∀b,b≠fo->H1 b=H b) (tr:aG H vf tf) (ht:H t=some (.tup [.int (u.1:Int),.int (u.2.1:Int),.int (u.2.2:Int)])) :
  aG H1 (vf++[V.ref t]) (tf++[u]):=by
 have tn:∀{b':Addr} {xs:List V},H b'=some (.tup xs)->b'≠fo:=λe=>cK e hf (by simp);exact dz (Paired.imp' (λ_ _ ⟨b',e1,e2⟩=>⟨b',e1,(k _ (tn e2)).trans e2⟩) tr) (.cons ⟨t,rfl,(k _ (tn ht)).trans ht⟩ .nil)
theorem vz {p:Addr} {vf pv:List V} {tf:List Tri} (b:But p H H') (hp:H p=some (.lst pv)) (h:aG H vf tf):aG H' vf tf:=
 Paired.imp' (λ_ _ ⟨b',e1,e2⟩=>⟨b',e1,b _ _ (cK e2 hp (by simp)) e2⟩) h
theorem p0 {α β:Type} {F:α->β->Prop}:∀{xs:List α} {ys:List β} (k:Nat),Paired F xs ys->Paired F (xs.eraseIdx k) (ys.eraseIdx k)
 |_,_,_,.nil=>.nil
 |_,_,0,.cons _ t=>t
 |_,_,k+1,.cons h t=>.cons h (p0 k t)
def CW (vs:List V) (H:Hp) (Q:VK) (p:Addr) (q:Int×Int):Prop:=vs=[.ref p]/\H p=some (.lst (bo q))/\bu q/\
 ∀r vr ts q' H',H r=none->But p H H'->H' p=some (.lst (bo q'))->bu q'->H' r=some (.lst vr)->aG H' vr ts->ts.length<=16->Good ts->Q (.ref r) H'
def wD:Sp:=λvs H Q _=>Exists (Ex2 (CW vs H Q))
section
theorem hV:bc ["_law_pot_here","_law_triples","_law_i","_law_way","_law_k","_law_gone","_law_new"] ["_law_pot_here"] (aE lJ):=by walk_at"sc"
theorem Dy {f f1 f2 f3:Addr} {fd d1 d2 d3:FuncData} (U:Fun K "_law_ring" "_law_ring" lJ f fd) (T:cH mg) (mM:mg "max" = none)
  (GD:ag P w K mg base CX0 2 f1 d1 ["_law_pot_here","_law_base"] fJ) (bD:Binds K d1 ["_law_pot_here","_law_base"] []) (mD:mg "_law_digit" = some (.ref f1)) (kD:W.keepIn K (.ref f1)=true)
  (GC:ag P w K mg base CX0 2 f2 d2 ["_law_triples"] gP) (bC:Binds K d2 ["_law_triples"] []) (mC:mg "_law_corners" = some (.ref f2)) (kC:W.keepIn K (.ref f2)=true)
  (GS:ag P w K mg base CX0 2 f3 d3 ["_law_triple"] nW) (bS:Binds K d3 ["_law_triple"] []) (mS:mg "_law_sides" = some (.ref f3)) (kS:W.keepIn K (.ref f3)=true) :
  ag P w K mg base CX0 3 f fd ["_law_pot_here"] wD:=by
 refine U.ok hV (λvs H Q E h=>?_) (λcdv A outer s H vs Q E hr h=>?_)
 .obtain⟨p,q,rfl,_⟩:=h;rfl
 .obtain⟨p,q,rfl,hp,pok,Qq⟩:=h;have hu:=dA hr;refine⟨_,(ah (az (i:=1) hV.nd rfl (.inl rfl) (bY ae))
   (ah (cD cI rfl (jo rfl T.range (aa ai ae)) (ay (i:=2) hV.nd rfl (.inl rfl))
    (ah (cU (df dG iA iB fE (pv 1) (aa (aI (aa (pv 2) (aa (aA eP (aA cy (pv 2) ai) ai) (aa (aA eP (aA cy (pv 2) ai) ai) ae)))) ae)))
   (ao (cU (df dG iA iB fE (pv 1) (aa (aI (aa (pv 2) (aa (aA eP (aA cy (pv 2) ai) ai) (aa (aA eP (aA cy (pv 2) ai) ai) ae)))) ae))))))
   (ah (az (i:=3) hV.nd rfl (.inl rfl) (aw GD hr rfl mD kD bD .nil pass0 (aa (pv 0) (aa ai ae))))
   (ah (cD cI rfl (jo rfl T.range (aa (aA eP (pv 3) ai) ae)) (ay (i:=4) hV.nd rfl (.inl rfl))
    (ah (az (i:=5) hV.nd rfl (.inl rfl) (df dG yp yq qb (pv 1) (aa (aw GD hr rfl mD kD bD .nil pass0 (aa (pv 0) (aa (aL c9 (by rfl) T.len di (aa (pv 1) ae)) ae))) ae)))
   (ao (br (ba eK (pv 4) ai (nomark _)) (ah (az (i:=6) hV.nd rfl (.inr rfl) (aA cy (aL (pL rfl) (by rfl) mM yk (aa (aw GC hr rfl mC kC bC .nil pass0 (aa (pv 1) ae)) ae)) ai))
   (ao (az (i:=1) hV.nd rfl (.inl rfl) (aA fN (pv 1) (dO (N:=["_law_p","_law_q","_law_new"]) (fr:=[none,none,some 6]) (g:=oS [] 2 (iU (dg 0) (iU (dg 1) oU))) (te:=rm (dX (cz 0) (dX (cz 1) (dX (cz 2) fR)))) (dS (by decide +kernel) rfl rfl (by decide +kernel) (by decide +kernel) (by walk_at"cs") (by walk_at"ct")) rfl (cC (aw GS hr rfl mS kS bS .nil pass0 (aa (pv 5) ae)))
     (λC' s' H' fp pins=>⟨(de rfl (aW (ay (i:=0) (show (["_law_p","_law_q","_law_new"]:List Str).Nodup by decide +kernel) rfl (.inl rfl) (.inr rfl)) (aW (ay (i:=1) (show (["_law_p","_law_q","_law_new"]:List Str).Nodup by decide +kernel) rfl (.inl rfl) (.inr rfl)) c_))),eO,(aI (aa (pv 0) (aa (pv 1) (aa (pv 2) ae))))⟩)))))) bK))))
   (ao (aX (pv 1))))))),?_⟩
  have hline:=line5000;refine⟨aU _,λfo H1 hfo s1 y1=>?_⟩;have nfp:fo≠p:=λz=>by rw[z,hp] at hfo;cases hfo
  refine⟨_,rfl,by decide,by decide,?_⟩;refine kr (lo:=0) (n:=7) (λi Z H'=>∃o2 vf,Z=[some (V.ref p),some (.ref fo),o2,none,none,none,none]/\Same H H'/\H' fo=some (.lst vf)/\aG H' vf ((List.range i).flatMap rtF))
   ⟨none,[],rfl,s1,y1,.nil⟩ ?_ ?_
  .rintro i Z H2 hi ⟨o2,vf,rfl,sm,hf2,tr2⟩;have lvf:vf.length<=100:=by
    rw[aN tr2,List.length_flatMap];have:((List.range i).map λa=>(rtF a).length).sum=2*i:=by
     have e:(List.range i).map (λa=>(rtF a).length)=List.replicate i 2:=by rw[List.eq_replicate_iff];exact⟨by simp,λb hb=>by obtain⟨x,_,rfl⟩:=aD.mp hb;rfl⟩
     rw[e];clear e;have:∀n:Nat,(List.replicate n 2).sum=2*n:=λn=>by
      induction n with
      |zero=>rfl
      |succ n ih=>rw[List.replicate_succ,List.sum_cons,ih];lia
     exact this i
    lia
   refine⟨_,rfl,.inl ⟨rfl,_,SqL.of hf2⟩,_,rfl,_,rfl,_,_,rfl,rfl,_,_,rfl,rfl,(show (0:Int)<7 by decide),_,rfl,_,_,rfl,rfl,_,_,rfl,rfl,(show (0:Int)<7 by decide),lit3,λt H3 ht s3 y3=>?_⟩;have y3':H3 t=some (.tup [.int (i:Int),.int (((i+1)%7:Nat):Int),.int (((i+3)%7:Nat):Int)]):=by rw[show (0+(i:Int))=(i:Int) by lia] at y3;exact y3
   have hf3:=s3 _ _ hf2;refine⟨fo,vf,_,rfl,rfl,hf3,by lia,λH4 k4 y4=>?_⟩;have tr4:=nP (u:=(i,(i+1)%7,(i+3)%7)) hf3 k4 (tr2.same s3) y3';have sm4:Same H H4:=λb' o e=>(k4 b' (ak e hfo)).trans (s3 _ _ (sm _ _ e));refine⟨_,rfl,.inl ⟨rfl,_,SqL.of y4⟩,_,rfl,_,rfl,_,_,rfl,rfl,_,_,rfl,rfl,(show (0:Int)<7 by decide),_,rfl,_,_,rfl,rfl,_,_,rfl,rfl,(show (0:Int)<7 by decide),lit3,λt2 H5 ht2 s5 y5=>?_⟩;have y5':H5 t2=some (.tup [.int (i:Int),.int (((i+3)%7:Nat):Int),.int (((i+2)%7:Nat):Int)]):=by rw[show (0+(i:Int))=(i:Int) by lia] at y5;exact y5
   have hf5:=s5 _ _ y4;refine⟨fo,_,_,rfl,rfl,hf5,by rw[aZ,cM];lia,λH6 k6 y6=>?_⟩;have tr6:=nP (u:=(i,(i+3)%7,(i+2)%7)) hf5 k6 (tr4.same s5) y5';refine⟨_,_,rfl,λb' o e=>(k6 b' (ak e hfo)).trans (s5 _ _ (sm4 _ _ e)),y6,?_⟩;rw[List.range_succ,List.flatMap_append];simpa [rtF] using tr6
  .rintro Z H2 ⟨o2,vf,rfl,sm,hf2,tr2⟩;have tr2:aG H2 vf rt:=tr2;obtain⟨d1,d2⟩:=cA (q:=q) (b:=4) (by decide);obtain⟨wy,ew⟩:∃wy:Nat,digO q 4=(wy:Int):=⟨_,(dM d1).symm⟩;refine⟨_,rfl,p,q,4,rfl,sm _ _ hp,pok,by decide,by decide +kernel,λH3 k3 y3=>?_⟩;rw[ew] at d2 |-;refine⟨_,rfl,_,_,rfl,rfl,(show (0:Int)<3 by decide),_,rfl,by lia,by lia,?_⟩;have hw:((wy:Int)%3).toNat<=2:=by lia
   generalize ((wy:Int)%3).toNat=W at hw;have b3:But p H H3:=λb' o n e=>(k3 b' n).trans (sm _ _ e);refine kr (lo:=0) (n:=W) (λi Z H'=>∃o2 o4 o5 o6 Tc vc tc q',Z=[some (V.ref p),some (.ref Tc),o2,some (.int (wy:Int)),o4,o5,o6]/\But p H H'/\H' p=some (.lst (bo q'))/\bu q'/\H Tc=none/\H' Tc=some (.lst vc)/\aG H' vc tc/\(i=0/\tc=rt\/(i=1/\∃j:Fin 14,tc=rt.eraseIdx j)\/i=2/\tc.length<=16/\Good tc))
    ⟨_,none,none,none,fo,vf,rt,_,rfl,b3,y3,a9 pok,hfo,(k3 fo nfp).trans hf2,Paired.imp' (λ_ _ ⟨b',e1,e2⟩=>⟨b',e1,(k3 b' (cK e2 (sm _ _ hp) (by simp))).trans e2⟩) tr2,.inl ⟨rfl,rfl⟩⟩ ?_ ?_
   .rintro i Z H4 hi ⟨o2,o4,o5,o6,Tc,vc,tc,q4,rfl,b4,hp4,pok4,hTc0,hT4,tr4,hcase⟩;have hcase:i=0/\tc=rt\/(i=1/\∃j:Fin 14,tc=rt.eraseIdx j):=hcase.imp_right λh=>h.resolve_right λ⟨z,_⟩=>by lia
    have ltc:13<=tc.length/\tc.length<=14:=by
     rcases hcase with ⟨_,rfl⟩|⟨_,j,rfl⟩
     .decide
     .rw[rQ (show (j:Nat)<rt.length from j.2)];decide
    have lvc:=aN tr4;obtain⟨e1,e2⟩:=cA (q:=q4) (b:=(vc.length:Int)) (by lia);obtain⟨k,hk⟩:∃k:Nat,digO q4 (vc.length:Int)=(k:Int):=⟨_,(dM e1).symm⟩;have hkl:k<tc.length:=by lia
    obtain⟨⟨a,b,c⟩,habc⟩:∃s,tc[k]?=some s:=⟨_,bZ hkl⟩;obtain⟨zv,hzv,tt,rfl,htt⟩:=qM tr4 habc;have nTp:Tc≠p:=λz=>by rw[z,hp] at hTc0;cases hTc0
    refine⟨_,rfl,.inl ⟨rfl,_,SqL.of hT4⟩,_,rfl,_,rfl,Tc,_,rfl,.inl (SqL.of hT4),p,q4,_,rfl,hp4,pok4,by lia,iF (by lia) (by lia),λH5 k5 y5=>?_⟩;rw[hk];have hT5:=(k5 Tc nTp).trans hT4;refine⟨Tc,vc,(k:Int),k,_,rfl,rfl,hT5,by lia,by lia,qp (by lia),hzv,λH6 k6 y6=>?_⟩;have b5:But p H H5:=λb' o n e=>(k5 b' n).trans (b4 _ _ n e);have tr5:aG H5 vc tc:=Paired.imp' (λ_ _ ⟨b',e1,e2⟩=>⟨b',e1,(k5 b' (cK e2 hp4 (by simp))).trans e2⟩) tr4;have htt5:H5 tt=some (.tup [.int (a:Int),.int (b:Int),.int (c:Int)]):=(k5 tt (cK htt hp4 (by simp))).trans htt;have b6:But p H H6:=λb' o n e=>(k6 b' (ak e hTc0)).trans (b5 _ _ n e);have hp6:H6 p=some (.lst (bo (nxt q4 (vc.length:Int)))):=(k6 p (av nTp)).trans y5;have tr6:aG H6 (vc.eraseIdx k) (tc.eraseIdx k):=Paired.imp' (λ_ _ ⟨b',e1,e2⟩=>⟨b',e1,(k6 b' (cK e2 hT5 (by simp))).trans e2⟩) (p0 k tr5);have htt6:=(k6 tt (cK htt5 hT5 (by simp))).trans htt5;refine⟨_,rfl,rfl,_,rfl,?_⟩;rcases hcase with ⟨rfl,rfl⟩|⟨rfl,j,rfl⟩
    .exact aP ⟨_,_,_,_,Tc,_,_,_,rfl,b6,hp6,a9 pok4,hTc0,y6,tr6,.inr (.inl ⟨rfl,⟨k,hkl⟩,rfl⟩)⟩
    .refine a6 ?_;have l13:(rt.eraseIdx j).length=13:=by rw[rQ (show (j:Nat)<rt.length from j.2)];rfl
     have l12:((rt.eraseIdx j).eraseIdx k).length=12:=by rw[rQ hkl,l13]
     have lvk:=aN tr6;refine⟨_,rfl,Tc,_,_,rfl,y6,tr6,by lia,λrc cs H7 hrc s7 y7 hcs lcs=>?_⟩;have six:6∈cs:=by rw[hcs.2];obtain⟨t,h1,h2⟩:=EH j ⟨k,by lia⟩;exact fV.mpr ⟨t,h1,by simpa using h2⟩
     have hle:∀x∈cs,x<7:=λx hx=>by
      rw[hcs.2] at hx;obtain⟨t,h1,h2⟩:=fV.mp hx;have h3:=xo t ((i8 _ _).subset ((i8 _ _).subset h1));have h2:x=t.1\/x=t.2.1\/x=t.2.2:=by simpa using h2
      lia
     refine⟨rc,cs.map (λc:Nat=>(c:Int)),rfl,SqL.of (by rw[y7];simp[nV]),λz=>?_,λm hm hmax=>⟨_,_,rfl,rfl,?_⟩⟩
     .rw[xS.mp z] at six;cases six
     have em:m=6:=by obtain⟨x,hx,rfl⟩:=aD.mp hm;have:=hmax 6 (aD.mpr ⟨6,six,rfl⟩);have:=hle x hx;lia
     subst em;refine⟨_,rfl,_,rfl,tt,(a,b,c),rfl,s7 _ _ htt6,λZ_ zs H8 hZ0 s8 y8 sd=>?_⟩;have s68:=s7.trans s8;refine⟨Z_,rfl,⟨_,SqL.of y8⟩,λY hY=>eF (K:=[]) (a:=Z_) (xs:=zs) (λi Z ys H'=>∃o1 o2,Z=[o1,o2,some (.int 7)]/\Same H8 H'/\H' Y=some (.lst ys)/\aG H' ys (((dN (a,b,c)).take i).map λs=>(s.1,s.2,7)))
      ⟨none,none,rfl,cu hY,aO,.nil⟩ (by rintro i Z ys H' _ ⟨_,_,_,e,_⟩;exact SqL.of (e _ _ y8)) ?_ ?_⟩
     .rintro i x Z ys H' hi ⟨o1,o2',rfl,sm',hY',tr'⟩;obtain⟨⟨x1,x2⟩,hs,c',rfl,hc'⟩:=cB sd hi;refine⟨c',_,rfl,SqT.of (sm' _ _ hc'),rfl,_,_,rfl,_,_,rfl,rfl,?_⟩;refine⟨_,rfl,_,rfl,_,rfl,lit3,λt H9 ht s9 y9=>?_⟩;have hY9:=s9 _ _ hY';refine⟨hY9,?_,λHn kn yn=>⟨_,_,rfl,λb' o e=>(kn b' (ak e hY)).trans (s9 _ _ (sm' _ _ e)),yn,?_⟩⟩
      .rw[aN tr',aC,cE];simp[dN];lia
      .rw[bV,hs,bf];exact nP (u:=(x1,x2,7)) hY9 kn (tr'.same s9) y9
     .rintro Z ys H9 ⟨o1,o2',rfl,sm',hY',tr'⟩;have l3:zs.length=3:=aN sd;rw[l3] at tr';have tr':aG H9 ys [(a,b,7),(b,c,7),(c,a,7)]:=tr';have s69:=s68.trans sm';refine⟨Tc,Y,_,_,rfl,rfl,s69 _ _ y6,hY',by have:=aN tr';simp at this;lia,λR H10 hR s10 y10=>?_⟩;have st:=s69.trans s10;have hR0:H R=none:=by
       cases e:H R with
       |none=>rfl
       |some o=>
        by_cases ep:R=p
        .rw[ep,s69 _ _ hp6] at hR;cases hR
        .rw[s69 _ _ (b6 _ _ ep e)] at hR;cases hR
      refine⟨_,_,_,_,R,_,_,_,rfl,λb' o n e=>st _ _ (b6 _ _ n e),st _ _ hp6,a9 pok4,hR0,y10,dz (tr6.same st) (tr'.same s10),.inr (.inr ⟨rfl,?_,?_⟩)⟩
      .rw[aZ,l12];exact (show 12+3<=16 by decide)
      .refine A0 (uv (qc qt (i8 rt j)) (A5 (pQ habc))) λz=>?_;obtain⟨t,h1,h2⟩:=cG.mp z;have h3:=xo t ((i8 _ _).subset ((pQ habc).mem_iff.mp h1));lia
   .rintro Z H4 ⟨o2,o4,o5,o6,Tc,vc,tc,q4,rfl,b4,hp4,pok4,hTc0,hT4,tr4,hcase⟩;have hh:tc.length<=16/\Good tc:=by
     rcases hcase with ⟨_,rfl⟩|⟨_,j,rfl⟩|⟨_,h⟩
     .exact⟨by decide,qt⟩
     .exact⟨cF (i8 rt j).length_le (by decide),qc qt (i8 rt j)⟩
     .exact h
    exact⟨_,rfl,Qq Tc vc tc q4 H4 hTc0 b4 hp4 pok4 hT4 tr4 hh.1 hh.2⟩
end
def Ap (vs:List V) (H:Hp) (Q:VK) (S T:Addr) (vs' vt:List V) (ss ts:List Tri):Prop:=vs=[.ref S,.ref T]/\H S=some (.lst vs')/\aG H vs' ss/\ss.length<=10/\Good ss/\H T=some (.lst vt)/\aG H vt ts/\ts.length<=10/\Good ts/\
 ∀r vr rs H',H r=none->Same H H'->H' r=some (.lst vr)->aG H' vr rs->rs.length<=20->Good rs->Q (.ref r) H'
def uN:Sp:=λvs H Q _=>Exists (Ex6 (Ap vs H Q))
section
theorem uS:bc ["_law_one","_law_other","_law_more"] ["_law_one","_law_other"] (aE kJ):=by walk_at"sc"
theorem AJ {f f2:Addr} {fd d2:FuncData} (U:Fun K "_law_beside" "_law_beside" kJ f fd) (T:cH mg) (mM:mg "max" = none)
  (GC:ag P w K mg base CX0 2 f2 d2 ["_law_triples"] gP) (bC:Binds K d2 ["_law_triples"] []) (mC:mg "_law_corners" = some (.ref f2)) (kC:W.keepIn K (.ref f2)=true) :
  ag P w K mg base CX0 3 f fd ["_law_one","_law_other"] uN:=by
 refine U.ok uS (λvs H Q E h=>?_) (λcdv A outer s H vs Q E hr h=>?_)
 .obtain⟨S,T0,vs',vt,ss,ts,rfl,_⟩:=h;rfl
 .obtain⟨S,T0,vs',vt,ss,ts,rfl,hS,trS,lS,gS,hT,trT,lT,gT,Qq⟩:=h;have hu:=dA hr;refine⟨_,(ah (az (i:=2) uS.nd rfl (.inr rfl) (aA cy (aL (pL rfl) (by rfl) mM yk (aa (aA fN (aw GC hr rfl mC kC bC .nil pass0 (aa (pv 0) ae)) (bY (aa (ma lB ai) ae))) ae)) ai))
   (ao (aX (aA fN (pv 0) (dO (N:=["_law_triple","_law_more"]) (fr:=[none,some 2]) (te:=tCB (λxs H Q=>∃p ys,xs=[.ref p]/\((SqL [] H p ys/\∀l,H l=none->Q (.ref l) (upd H l (.tup ys)))\/(SqT [] H p ys/\Q (.ref p) H))) (dX (oM (rF [] (cz 0)) (dg 0) (λ_ H Q=>Q true H) (tOp (rI0 λi j=>.int (i+j)) (cz 0) (cz 1)) [none,some 1]) fR)) (dS (by decide +kernel) rfl rfl (by decide +kernel) (by decide +kernel) (by walk_at"cs") (by walk_at"ct")) rfl (cC (pv 1))
     (λC' s' H' fp pins=>⟨(ay (i:=0) (show (["_law_triple","_law_more"]:List Str).Nodup by decide +kernel) rfl (.inl rfl) (.inr rfl)),eO,(er kg (by rfl) T.tuple j6 (aa (dO (N:=["_law_corner","_law_more"]) (fr:=[none,some 1]) (te:=tOp (rI0 λi j=>.int (i+j)) (cz 0) (cz 1)) (dS (by decide +kernel) rfl rfl (by decide +kernel) (by decide +kernel) (by walk_at"cs") (by walk_at"ct")) rfl (lQ (pv 0))
     (λC' s' H' fp pins=>⟨(ay (i:=0) (show (["_law_corner","_law_more"]:List Str).Nodup by decide +kernel) rfl (.inl rfl) (.inr rfl)),eO,(aA cy (pv 0) (pv 1))⟩)) ae))⟩)))))),?_⟩
  have hline:=line5000;refine⟨_,rfl,S,vs',ss,rfl,hS,trS,by lia,λL cs H1 hL0 s1 y1 hcs lcs=>?_⟩;refine⟨_,rfl,lit1,λl1 H2 g1 s2 y2=>?_⟩;refine⟨L,l1,_,_,rfl,rfl,s2 _ _ y1,y2,by rw[bq];simp only[cM];lia,λl2 H3 g2 s3 y3=>?_⟩;refine⟨l2,cs.map (λc:Nat=>(c:Int))++[-1],rfl,SqL.of (by rw[y3];simp[nV]),by simp,λm hm hmax=>⟨_,_,rfl,rfl,?_⟩⟩;obtain⟨n,hn⟩:∃n:Nat,m+1=(n:Int):=by have:=hmax (-1) (by simp);exact⟨(m+1).toNat,by lia⟩
  have hlt:∀c,Co ss c->c<n:=λc hc=>by
   have:c∈cs:=by rw[hcs.2];obtain⟨t,h1,h2⟩:=cG.mp hc;exact fV.mpr ⟨t,h1,by simpa using h2⟩
   have:=hmax (c:Int) (dQ _ (aD.mpr ⟨c,this,rfl⟩));lia
  show dg 2 (V.int (m+1)) _ _ _;rw[hn];have s03:=(s1.trans s2).trans s3;have hT3:=s03 _ _ hT;have trT3:=trT.same s03;have gN:Good (ts.map (nam (· + n))):=vd gT (λa b _ _ h=>by simpa using h);refine⟨_,rfl,_,rfl,T0,rfl,⟨_,SqL.of hT3⟩,λZ_ hZ=>eF (K:=[]) (a:=T0) (xs:=vt) (λi Z ys H'=>∃o,Z=[o,some (.int (n:Int))]/\Same H3 H'/\H' Z_=some (.lst ys)/\aG H' ys ((ts.take i).map (nam (· + n))))
   ⟨none,rfl,cu hZ,aO,.nil⟩ (by rintro i Z ys H' _ ⟨_,_,e,_⟩;exact SqL.of (e _ _ hT3)) ?_ ?_⟩
  .rintro i x Z ys H' hi ⟨o,rfl,sm,hZ',tr'⟩;obtain⟨⟨a,b,c⟩,hs,t,rfl,hb⟩:=cB trT3 hi;have hb:H3 t=some (.tup [.int (a:Int),.int (b:Int),.int (c:Int)]):=hb;have hil:=(aJ.mp hs).1;refine⟨_,rfl,t,rfl,⟨_,SqT.of (sm _ _ hb)⟩,λY hY=>qf (K:=[]) (a:=t) (xs:=nV [a,b,c]) (λi Z ys H''=>∃o,Z=[o,some (.int (n:Int))]/\ys=nV (([a,b,c].take i).map (· + n))/\Same H' H''/\H'' Y=some (.lst ys)) ⟨none,rfl,rfl,cu hY,aO⟩ (by rintro i Z ys H'' _ ⟨_,_,_,e,_⟩;exact SqT.of (e _ _ (sm _ _ hb))) ?_ ?_⟩
   .rintro j x Z zs H4 hj ⟨o,rfl,rfl,sm4,hY4⟩;rw[nV,bp] at hj;obtain⟨z,hz,rfl⟩:=cT.mp hj;have hjl:j<3:=(aJ.mp hz).1;refine⟨_,rfl,_,rfl,_,_,rfl,rfl,hY4,?_,λHn kn yn=>⟨_,rfl,?_,λb' o e=>(kn b' (ak e hY)).trans (sm4 _ _ e),yn⟩⟩
    .rw[bq,aC,cE];simp;lia
    .rw[bV,hz,bf,<-eQ];rfl
   .rintro Z zs H4 ⟨o,rfl,rfl,sm4,hY4⟩;refine⟨Y,_,rfl,.inl ⟨SqL.of hY4,λt' ht'=>?_⟩⟩;walk_at"H4 t' ht' H5 s5 y5";have st:=sm4.trans s5;have hZ5:=st _ _ hZ';refine⟨hZ5,?_,λHn kn yn=>⟨_,rfl,λb' o e=>(kn b' (ak e hZ)).trans (st _ _ (sm _ _ e)),yn,?_⟩⟩
    .rw[aN tr',aC,cE];lia
    .rw[bV,hs,bf];exact nP (u:=(a+n,b+n,c+n)) hZ5 kn (tr'.same st) y5
  .rintro Z ys H4 ⟨o,rfl,sm,hZ',tr'⟩;rw[aN trT3,c7] at tr';have lz:=aN tr';rw[aC] at lz;have lv:=aN trS;have s04:=s03.trans sm;refine⟨S,Z_,_,_,rfl,rfl,s04 _ _ hS,hZ',by lia,λR H5 hR s5 y5=>?_⟩;refine Qq R _ _ H5 (s04.free hR) (s04.trans s5) y5 (dz (trS.same (s04.trans s5)) (tr'.same s5)) ?_ ?_
   .rw[aZ,aC];lia
   .refine Cf gS gN λa ha hb=>?_;have:=hlt a ha;obtain⟨b,c,e⟩:=hb;obtain⟨a',b',c',_,h2,_⟩:=wZ gT (λa b _ _ h=>by simpa using h) e;have h2:a=a' + n:=h2;lia
end
theorem CL {r p:Addr} {vr:List V} {ts:List Tri} {q:Int×Int} (hr:H r=some (.lst vr)) (tr:aG H vr ts) (hp:H p=some (.lst (bo q))):r≠p:=λz=>by
 rw[z,hp] at hr;cases hr;cases tr with
 |cons h _=>
  obtain⟨b,e,_⟩:=h;cases e
def Br (vs:List V) (H:Hp) (Q:VK) (p:Addr) (q:Int×Int):Prop:=vs=[.ref p,.int 16]/\H p=some (.lst (bo q))/\bu q/\
 ∀r vr ts q' H',r≠p->But p H H'->H' p=some (.lst (bo q'))->bu q'->H' r=some (.lst vr)->aG H' vr ts->ts.length<=20->Good ts->(∀c,Co ts c->One (En ts) c)->Q (.ref r) H'
def vH:Sp:=λvs H Q _=>Exists (Ex2 (Br vs H Q))
section
theorem vN:bc ["_law_pot_here","_law_most","_law_way"] ["_law_pot_here","_law_most"] (aE lI):=by walk_at"sc"
theorem BW {f f1 f2 f3 f4 f5 f6:Addr} {fd d1 d2 d3 d4 d5 d6:FuncData} (U:Fun K "_law_skin" "_law_skin" lI f fd)
  (GD:ag P w K mg base CX0 3 f1 d1 ["_law_pot_here","_law_base"] fJ) (bD:Binds K d1 ["_law_pot_here","_law_base"] []) (mD:mg "_law_digit" = some (.ref f1)) (kD:W.keepIn K (.ref f1)=true)
  (GR:ag P w K mg base CX0 3 f2 d2 ["_law_pot_here"] wD) (bR:Binds K d2 ["_law_pot_here"] []) (mR:mg "_law_ring" = some (.ref f2)) (kR:W.keepIn K (.ref f2)=true)
  (GS:ag P w K mg base CX0 3 f3 d3 ["_law_triples"] qm) (bS:Binds K d3 ["_law_triples"] []) (mS:mg "_law_split" = some (.ref f3)) (kS:W.keepIn K (.ref f3)=true)
  (GB:ag P w K mg base CX0 3 f4 d4 ["_law_one","_law_other"] uN) (bB:Binds K d4 ["_law_one","_law_other"] []) (mB:mg "_law_beside" = some (.ref f4)) (kB:W.keepIn K (.ref f4)=true)
  (GG:ag P w K mg base CX0 3 f5 d5 ["_law_pot_here","_law_most"] vI) (bG:Binds K d5 ["_law_pot_here","_law_most"] []) (mG:mg "_law_grown" = some (.ref f5)) (kG:W.keepIn K (.ref f5)=true)
  (GW:ag P w K mg base CX0 3 f6 d6 ["_law_pot_here","_law_most"] qo) (bW:Binds K d6 ["_law_pot_here","_law_most"] []) (mW:mg "_law_drawn" = some (.ref f6)) (kW:W.keepIn K (.ref f6)=true) :
  ag P w K mg base CX0 4 f fd ["_law_pot_here","_law_most"] vH:=by
 refine U.ok vN (λvs H Q E h=>?_) (λcdv A outer s H vs Q E hr h=>?_)
 .obtain⟨p,q,rfl,_⟩:=h;rfl
 .obtain⟨p,q,rfl,hp,pok,Qq⟩:=h;refine⟨_,(ah (az (i:=2) vN.nd rfl (.inl rfl) (aw GD hr rfl mD kD bD .nil pass0 (aa (pv 0) (aa ai ae))))
   (ah (br (PW.pt (gg (ba eK (pv 2) ai (nomark _)) (gZ (ba oO (pv 1) ai (nomark _))))) (ao (aX (aw GS hr rfl mS kS bS .nil pass0 (aa (aw GR hr rfl mR kR bR .nil pass0 (aa (pv 0) ae)) ae)))) bK)
   (ah (br (ba eK (pv 2) ai (nomark _)) (ao (aX (aw GS hr rfl mS kS bS .nil pass0 (aa (aw GB hr rfl mB kB bB .nil pass0 (aa (aw GG hr rfl mG kG bG .nil pass0 (aa (pv 0) (aa (aA jw (pv 1) ai) ae))) (aa (aw GW hr rfl mW kW bW .nil pass0 (aa (pv 0) (aa (aA jw (pv 1) ai) ae))) ae))) ae)))) bK)
   (ah (br (ba iT (pv 2) ai (nomark _)) (ao (aX (aw GS hr rfl mS kS bS .nil pass0 (aa (aw GW hr rfl mW kW bW .nil pass0 (aa (pv 0) (aa (pv 1) ae))) ae)))) bK)
   (ao (aX (aw GS hr rfl mS kS bS .nil pass0 (aa (aw GG hr rfl mG kG bG .nil pass0 (aa (pv 0) (aa (pv 1) ae))) ae)))))))),?_⟩
  obtain⟨d1,d2⟩:=cA (q:=q) (b:=8) (by decide);refine⟨_,rfl,p,q,8,rfl,hp,pok,by decide,by decide +kernel,λH1 k1 y1=>?_⟩;have b1:But p H H1:=λb' o n e=>(k1 b' n).trans e;have end_:∀(R:Addr) (vr:List V) (ts:List Tri) (q':Int×Int) (H2:Hp),But p H1 H2->H2 p=some (.lst (bo q'))->bu q'->H2 R=some (.lst vr)->aG H2 vr ts->ts.length<=20->Good ts->qm [.ref R] H2 Q E:=by intro R vr ts q' H2 b2 hp2 pok2 hR tr hl hg;refine⟨R,vr,ts,rfl,hR,tr,hl,hg,λr vr' ts' H3 s3 hr3 tr3 l3 g3 o3=>?_⟩;exact Qq r vr' ts' q' H3 (CL hr3 tr3 (s3 _ _ hp2)) (λb' o n e=>s3 _ _ (b2 b' o n (b1 b' o n e))) (s3 _ _ hp2) pok2 hr3 tr3 (by lia) g3 o3
  refine⟨_,rfl,rfl,_,rfl,?_⟩;generalize digO q 8=wy at *;by_cases h0:wy=0
  .subst h0;refine a6 ⟨_,rfl,_,_,rfl,rfl,_,rfl,a6 ?_⟩;refine⟨_,rfl,p,_,rfl,y1,a9 pok,λR vr ts q2 H2 hR0 b2 hp2 pok2 hR tr hl hg=>?_⟩;exact end_ R vr ts q2 H2 b2 hp2 pok2 hR tr (by lia) hg
  .rw[show decide (V.int wy=V.int 0)=false from KL λz=>h0 (V.int.inj z)];refine aP (aP ⟨_,rfl,rfl,_,rfl,?_⟩);by_cases h1:wy=1
   .subst h1;refine a6 ?_;refine⟨_,rfl,_,rfl,_,_,rfl,rfl,⟨by decide,by decide +kernel⟩,p,_,8,rfl,y1,a9 pok,by decide,λR vr ts q2 H2 hR0 b2 hp2 pok2 hR tr hl hg=>?_⟩;refine⟨_,rfl,_,rfl,_,_,rfl,rfl,⟨by decide,by decide +kernel⟩,p,_,8,rfl,hp2,pok2,by decide,λR3 vr3 ts3 q3 H3 hR30 b3 hp3 pok3 hR3 tr3 hl3 hg3=>?_⟩;have nRp:R≠p:=λz=>by rw[z,y1] at hR0;cases hR0
    refine⟨R,R3,vr,vr3,ts,ts3,rfl,b3 _ _ nRp hR,vz b3 hp2 tr,by lia,hg,hR3,tr3,by lia,hg3,λR4 vr4 ts4 H4 hR40 s4 hR4 tr4 hl4 hg4=>?_⟩;exact end_ R4 vr4 ts4 q3 H4 (λb' o n e=>s4 _ _ (b3 b' o n (b2 b' o n e))) (s4 _ _ hp3) pok3 hR4 tr4 (by lia) hg4
   .rw[show decide (V.int wy=V.int 1)=false from KL λz=>h1 (V.int.inj z)];refine aP ⟨_,rfl,_,_,rfl,rfl,_,rfl,?_⟩;show if decide (wy<5)=true then _ else _
    by_cases h5:wy<5
    .rw[KJ h5];refine a6 ?_;refine⟨_,rfl,_,rfl,p,_,16,rfl,y1,a9 pok,by decide,λR vr ts q2 H2 hR0 b2 hp2 pok2 hR tr hl hg=>?_⟩;exact end_ R vr ts q2 H2 b2 hp2 pok2 hR tr (by lia) hg
    .rw[KL h5];refine aP ?_;refine⟨_,rfl,_,rfl,p,_,16,rfl,y1,a9 pok,by decide,λR vr ts q2 H2 hR0 b2 hp2 pok2 hR tr hl hg=>?_⟩;exact end_ R vr ts q2 H2 b2 hp2 pok2 hR tr (by lia) hg
end
def dC (H:Hp) (a:Addr):Flt->Prop
 |.many=>H a=some (.tup [.str "many"])
 |.triple k=>H a=some (.tup [.str "triple",.int (k:Int)])
 |.side k m n=>∃u,H a=some (.tup [.str "side",.int (k:Int),.ref u])/\H u=some (.tup [.int (m:Int),.int (n:Int)])
 |.round c=>H a=some (.tup [.str "round",.int (c:Int)])
def An (K:W.Frag) (vs:List V) (H:Hp) (Q:VK) (T:Addr) (vt:List V) (os:List (Option Tri)):Prop:=vs=[.ref T]/\H T=some (.lst vt)/\gp K H vt os/\os.length<=400/\
 (∀H',fj os none->Same H H'->Q .non H')/\∀fl a H',fj os (some fl)->Same H H'->dC H' a fl->Q (.ref a) H'
def uL (K:W.Frag):Sp:=λvs H Q _=>Exists (Ex3 (An K vs H Q))
theorem vB:∀{vt:List V} {ts:List Tri},gp K H vt (ts.map some)->aG H vt ts/\∀t∈ts,t.1≠t.2.1/\t.2.1≠t.2.2/\t.2.2≠t.1
 | [],[],_=>⟨.nil,by simp⟩
 | [],_::_,h=>by cases h
 |_::_,[],h=>by cases h
 |v::vt,t::ts,h=>by
  rw[a8] at h;cases h with
  |cons h1 h2=>
   obtain⟨a1,a2⟩:=vB h2;obtain⟨b1,b2⟩:=Th.tri h1;refine⟨.cons b1 a1,λx hx=>?_⟩;rcases aT.mp hx with rfl|hx
   .exact b2
   .exact a2 x hx
theorem q_ {ts:List Tri} {c:Nat}:c∈flat ts↔Co ts c:=by rw[cG,flat,fV];refine exists_congr λt=>and_congr_right λ_=>?_;simp
theorem wX (s u:Nat×Nat):PyData.eqv (sdD s) (sdD u)=decide (s=u):=by rw[iw];obtain⟨a,b⟩:=s;obtain⟨c,d⟩:=u;simp[sdD,PyData.eqv,PyData.eqvAll];lia
theorem FI (ss:List (Nat×Nat)) (s:Nat×Nat):((ss.map sdD).any λz=>PyData.eqv z (sdD s))=decide (s∈ss):=by
 rw[iw,rL,decide_eq_true_iff];constructor
 .rintro⟨z,hz,e⟩;obtain⟨u,hu,rfl⟩:=aD.mp hz;rw[wX] at e;rw[<-KM e];exact hu
 .intro h;exact⟨sdD s,aD.mpr ⟨s,h,rfl⟩,by rw[wX];exact KJ rfl⟩
section
theorem gq:bc ["_law_things","_law_k","_law_thing","_law_come","_law_triple","_law_side","_law_corner"] ["_law_things"] (aE jJ):=by walk_at"sc"
theorem AH {f f1 f2 f3 f4:Addr} {fd d1 d2 d3 d4:FuncData} (U:Fun K "_law_fault" "_law_fault" jJ f fd) (T:cH mg)
  (G1:ag P w K mg base CX0 1 f1 d1 ["_law_thing"] (ki K)) (b1:Binds K d1 ["_law_thing"] []) (m1:mg "_law_is_triple" = some (.ref f1)) (k1:W.keepIn K (.ref f1)=true)
  (G2:ag P w K mg base CX0 1 f2 d2 ["_law_triple"] nW) (b2:Binds K d2 ["_law_triple"] []) (m2:mg "_law_sides" = some (.ref f2)) (k2:W.keepIn K (.ref f2)=true)
  (G3:ag P w K mg base CX0 2 f3 d3 ["_law_triples"] gP) (b3:Binds K d3 ["_law_triples"] []) (m3:mg "_law_corners" = some (.ref f3)) (k3:W.keepIn K (.ref f3)=true)
  (G4:ag P w K mg base CX0 2 f4 d4 ["_law_triples","_law_corner"] qI) (b4:Binds K d4 ["_law_triples","_law_corner"] []) (m4:mg "_law_fans" = some (.ref f4)) (k4:W.keepIn K (.ref f4)=true) :
  ag P w K mg base CX0 3 f fd ["_law_things"] (uL K):=by
 refine U.ok gq (λvs H Q E h=>?_) (λcdv A outer s H vs Q E hr h=>?_)
 .obtain⟨T,vt,os,rfl,_⟩:=h;rfl
 .obtain⟨T0,vt,os,rfl,hT,ht,hl,q0,q1⟩:=h;have hr1:Room 1 (A.deeper (PyProof.Rows.envOfC "_law_fault" (aE jJ) s.heap.objs.size f cdv)):=hr.mono (by decide);refine⟨_,ah (br (ba oO (aL c9 (by rfl) T.len di (aa (pv 0) ae)) ai (nomark _)) (ao (aX (aI (aa cw ae)))) bK)
   (ah (cD cI rfl (ll rfl T.enum (aa (pv 0) ae)) (de rfl (aW (ay (i:=1) gq.nd rfl (.inl rfl)) (aW (ay (i:=2) gq.nd rfl (.inl rfl)) c_)))
    (ao (br (eA (cQ (aw G1 hr1 rfl m1 k1 b1 .nil pass0 (aa (pv 2) ae)))) (ao (aX (aI (aa cw (aa (pv 1) ae))))) bK)))
   (ah (az (i:=3) gq.nd rfl (.inl rfl) (bY ae))
   (ah (cD cI rfl (ll rfl T.enum (aa (pv 0) ae)) (de rfl (aW (ay (i:=1) gq.nd rfl (.inl rfl)) (aW (ay (i:=4) gq.nd rfl (.inl rfl)) c_)))
    (ah (cD cI rfl (cC (aw G2 hr1 rfl m2 k2 b2 .nil pass0 (aa (pv 4) ae))) (ay (i:=5) gq.nd rfl (.inl rfl))
     (ao (br (ba (qQ hr.units) (pv 5) (pv 3) rfl) (ao (aX (aI (aa cw (aa (pv 1) (aa (pv 5) ae)))))) bK)))
    (ao (az (i:=3) gq.nd rfl (.inl rfl) (aA fN (pv 3) (aw G2 hr1 rfl m2 k2 b2 .nil pass0 (aa (pv 4) ae)))))))
   (ah (cD cI rfl (cC (aw G3 hr rfl m3 k3 b3 .nil pass0 (aa (pv 0) ae))) (ay (i:=6) gq.nd rfl (.inl rfl))
    (ao (br (ba oO (aL c9 (by rfl) T.len di (aa (aw G4 hr rfl m4 k4 b4 .nil pass0 (aa (pv 0) (aa (pv 6) ae))) ae)) ai (nomark _)) (ao (aX (aI (aa cw (aa (pv 6) ae))))) bK)))
   (ao (aX qO)))))),?_⟩
  have hline:=line5000;have hlen:=aN ht;refine⟨_,rfl,T0,_,rfl,.inl (SqL.of hT),_,_,rfl,rfl,_,rfl,ite2 (λhgt=>?_) λhgt=>?_⟩
  .have hgt:(200:Int)<(vt.length:Int):=KM hgt;refine⟨lit1,λa H1 g1 s1 y1=>q1 .many a H1 (by show 200<os.length;lia) s1 y1⟩
  have hle:os.length<=200:=by have:¬(200:Int)<(vt.length:Int):=λz=>hgt (KJ z);lia
  refine⟨_,rfl,T0,vt,rfl,SqL.of hT,kQ (K:=[]) (a:=T0) (xs:=vt) (λi Z H'=>∃o1 o2,∃ts:List Tri,Z=[some (V.ref T0),o1,o2,none,none,none,none]/\Same H H'/\os.take i=ts.map some)
   ⟨none,none,[],rfl,λ_ _ z=>z,rfl⟩ (λi Z H' _ ⟨_,_,_,_,e,_⟩=>SqL.of (e _ _ hT)) ?_ ?_⟩
  .rintro i x p Z H2 hi ⟨o1,o2,ts,rfl,sm,hos⟩ hp;obtain⟨o,hs,hth⟩:=cB ht hi;have et:os.take (i+1)=os.take i++[o]:=by rw[bV,hs];rfl
   walk_at"H2 p hp H3 s3 y3";refine⟨p,_,rfl,SqT.of y3,rfl,_,_,rfl,_,_,rfl,rfl,?_⟩;refine⟨_,rfl,x,o,rfl,Th.same (sm.trans s3) hth,_,rfl,?_⟩;cases o with
   |none=>exact jO ⟨_,rfl,lit2,λt H4 ht4 s4 y4=>q1 (.triple i) t H4 ⟨hle,hs,ts,hos⟩ ((sm.trans s3).trans s4) y4⟩
   |some t3=>exact iY ⟨_,_,ts++[t3],rfl,sm.trans s3,by rw[et,hos,bf];rfl⟩
  rintro Z H1 ⟨o1,o2,ts,rfl,s1,hos⟩;rw[hlen,c7] at hos;subst hos;obtain⟨tr,hne⟩:=vB ht;have hl2:ts.length<=200:=by rw[aC] at hle;exact hle
  have hlv:=aN tr;refine⟨aU _,λC0 H2 hC0 s2 y2=>?_⟩;have sm2:Same H H2:=s1.trans s2;refine⟨_,rfl,T0,vt,rfl,SqL.of (sm2 _ _ hT),kQ (K:=[]) (a:=T0) (xs:=vt) (λi Z H'=>∃o1 o2 o4 o5 C zs,Z=[some (V.ref T0),o1,o2,some (.ref C),o4,o5,none]/\Same H H'/\H' C=some (.lst zs)/\SdsAt H' zs ((ents (ts.take i)).map (·.1))/\((ents (ts.take i)).map (·.1)).Nodup)
   ⟨_,_,none,none,C0,[],rfl,sm2,y2,.nil,List.Pairwise.nil⟩ (λi Z H' _ ⟨_,_,_,_,_,_,_,e,_⟩=>SqL.of (e _ _ hT)) ?_ ?_⟩
  .rintro i x p Z H3 hi ⟨o1,o2,o4,o5,C,zs,rfl,sm3,hC,sd,nd⟩ hp;obtain⟨t3,hs,t,rfl,hb⟩:=cB tr hi;have et:ts.take (i+1)=ts.take i++[t3]:=by rw[bV,hs];rfl
   walk_at"H3 p hp H4 s4 y4";have sm4:=sm3.trans s4;refine⟨p,_,rfl,SqT.of y4,rfl,_,_,rfl,_,_,rfl,rfl,?_⟩;refine⟨_,rfl,t,t3,rfl,sm4 _ _ hb,λr zr H5 hr0 s5 y5 sr=>?_⟩;have sm5:=sm4.trans s5;have hC5:=s5 _ _ (s4 _ _ hC);have sd5:SdsAt H5 zs ((ents (ts.take i)).map (·.1)):=Paired.imp' (λ_ _ ⟨b',e1,e2⟩=>⟨b',e1,s5 _ _ (s4 _ _ e2)⟩) sd;have hlr:=aN sr;refine⟨r,rfl,⟨_,SqL.of y5⟩,eu (K:=[]) (a:=r) (xs:=zr) (λj Z H'=>(∃o5,Z=[some (V.ref T0),some (.int (i:Int)),o2,some (.ref C),some (.ref t),o5,none])/\H'=H5/\∀s'∈(dN t3).take j,s'∉(ents (ts.take i)).map (·.1))
    ⟨⟨_,rfl⟩,rfl,by simp⟩ (λj Z H' _ ⟨_,e,_⟩=>by rw[e];exact SqL.of y5) ?_ ?_⟩
   .rintro j x Z H' hj ⟨⟨o5,rfl⟩,rfl,hno⟩;obtain⟨⟨m,n⟩,ho,sdx,rfl,hsd⟩:=cB sr hj;have hsd:H' sdx=some (.tup [.int (m:Int),.int (n:Int)]):=hsd;have ej:(dN t3).take (j+1)=(dN t3).take j++[(m,n)]:=by rw[bV,ho];rfl
    refine⟨_,rfl,_,rfl,sdD (m,n),C,zs,_,.tup (SqT.of hsd) (.cons (.int _) (.cons (.int _) .nil)),rfl,.inl (SqL.of hC5),oq sd5,by simp[sdD,PyData.depth,PyData.depthAll],_,rfl,?_⟩;show if (((ents (ts.take i)).map (·.1)).map sdD |>.any λz=>PyData.eqv z (sdD (m,n)))=true then _ else _
    rw[FI];refine ite2 (λhin=>?_) λhin=>?_
    .have hin:=KM hin;exact⟨_,rfl,_,rfl,lit3,λu H6 g6 s6 y6=>q1 (.side i m n) u H6 ⟨hle,ts,rfl,nd,t3,j,hs,ho,hin,hno⟩ (sm5.trans s6) ⟨sdx,y6,s6 _ _ hsd⟩⟩
    .refine⟨⟨_,rfl⟩,rfl,λs' hs'=>?_⟩;rw[ej] at hs';rcases bh.mp hs' with z|z
     .exact hno s' z
     .rw[aV.mp z];exact λz=>hin (KJ z)
   .rintro Z H' ⟨⟨o5,rfl⟩,rfl,hno⟩;rw[hlr,c7] at hno;refine⟨_,rfl,_,rfl,t,t3,rfl,sm5 _ _ hb,λr2 z2 H6 hr2 s6 y6 sr2=>?_⟩;have l1:=aN sd5;have l2:=aN sr2;have l3:=e_ (ts.take i);rw[cE] at l3;rw[aC] at l1;have l4:(dN t3).length=3:=rfl;refine⟨C,r2,_,_,rfl,rfl,s6 _ _ hC5,y6,by lia,λC2 H7 g7 s7 y7=>?_⟩;have sA:SdsAt H7 (zs++z2) ((ents (ts.take (i+1))).map (·.1)):=by
     rw[et,pW,bf];exact dz (Paired.imp' (λ_ _ ⟨b',e1,e2⟩=>⟨b',e1,s7 _ _ (s6 _ _ e2)⟩) sd5) (Paired.imp' (λ_ _ ⟨b',e1,e2⟩=>⟨b',e1,s7 _ _ e2⟩) sr2)
    refine⟨_,_,_,_,C2,_,rfl,(sm5.trans s6).trans s7,y7,sA,?_⟩;rw[et,pW,bf,dq];exact⟨nd,wa (hne _ (bE hs)),λa' ha' b' hb' z=>hno b' hb' (z ▸ ha')⟩
  rintro Z H3 ⟨o1,o2,o4,o5,C,zs,rfl,sm3,hC,sd,nd⟩;rw[hlv,c7] at nd;have g:Good ts:=vY hne nd;have tr3:aG H3 vt ts:=Paired.imp' (λ_ _ ⟨b',e1,e2⟩=>⟨b',e1,sm3 _ _ e2⟩) tr;refine⟨_,rfl,T0,vt,ts,rfl,sm3 _ _ hT,tr3,hl2,λr cs H4 hr0 s4 y4 hcs hcl=>?_⟩;have sm4:=sm3.trans s4;refine⟨r,rfl,⟨_,SqL.of y4⟩,eu (K:=[]) (a:=r) (xs:=nV cs) (λi Z H'=>(∃o6,Z=[some (V.ref T0),o1,o2,some (.ref C),o4,o5,o6])/\Same H4 H'/\∀c∈cs.take i,One (En ts) c)
   ⟨⟨none,rfl⟩,λ_ _ z=>z,by simp⟩ (λi Z H' _ ⟨_,e,_⟩=>SqL.of (e _ _ y4)) ?_ ?_⟩
  .rintro i x Z H5 hi ⟨⟨o6,rfl⟩,s5,hone⟩;rw[nV,bp] at hi;obtain⟨c,hc,rfl⟩:=cT.mp hi;have hco:Co ts c:=q_.mp ((hcs.2 c).mp (bE hc));have et:cs.take (i+1)=cs.take i++[c]:=by rw[bV,hc];rfl
   have sm5:=sm4.trans s5;have tr5:aG H5 vt ts:=Paired.imp' (λ_ _ ⟨b',e1,e2⟩=>⟨b',e1,sm5 _ _ e2⟩) tr;refine⟨_,rfl,_,rfl,T0,vt,ts,c,rfl,sm5 _ _ hT,tr5,hl2,g,λrf gs fs H6 hr6 s6 y6 lp fans hfl=>?_⟩;have lg:=aN lp;have hfe:fs≠[]:=λz=>by
    obtain⟨p',q',h⟩:=hco;obtain⟨F,hF,_⟩:=fans.all p' ⟨q',h⟩;rw[z] at hF;cases hF
   have iff1:=Dv g.sk fans hfe;have hf1:1<=fs.length:=by cases fs with
    |nil=>exact (hfe rfl).elim
    |cons _ _=>simp
   refine⟨rf,_,rfl,.inl (SqL.of y6),_,_,rfl,rfl,_,rfl,ite2 (λhgt=>?_) λhgt=>?_⟩
   .have hgt:(1:Int)<(gs.length:Int):=KM hgt;refine⟨_,rfl,lit2,λu H7 g7 s7 y7=>q1 (.round c) u H7 ⟨hle,ts,rfl,nd,hco,λz=>by have:=iff1.mp z;lia,λc' hc' hlt=>hone c' ?_⟩ ((sm5.trans s6).trans s7) y7⟩;obtain⟨j,hj⟩:=fu ((hcs.2 c').mpr (q_.mpr hc'));have hjl:=(aJ.mp hj).1;have hil:=(aJ.mp hc).1;have hji:j<i:=by
     refine mO λz=>?_;by_cases hji:j=i
     .subst hji;rw[hc] at hj;cases hj;lia
     .have:=rX.mp hcs.1 i j hil hjl (by lia);rw[(aJ.mp hc).2,(aJ.mp hj).2] at this;lia
    exact bE (by rw[ph,KI hji];exact hj)
   .refine⟨⟨_,rfl⟩,s5.trans s6,λc' hc'=>?_⟩;rw[et] at hc';rcases bh.mp hc' with z|z
    .exact hone c' z
    .rw[aV.mp z];refine iff1.mpr ?_;have:¬(1:Int)<(gs.length:Int):=λz=>hgt (KJ z);lia
  .rintro Z H5 ⟨⟨o6,rfl⟩,s5,hone⟩;rw[bq,c7] at hone;exact q0 H5 ⟨hle,ts,rfl,nd,λc hc=>hone c ((hcs.2 c).mpr (q_.mpr hc))⟩ (sm4.trans s5)
end
end K15
end
section
namespace L2
open PySem PySem.Spec PyProof.Rows
def Dx (H:Hp) (v:V) (d:PyData):Prop:=Dt [] H v d\/∃a b i j,v=.ref a/\H a=some (.tup [.int i,.int j,.ref b])/\H b=some (.dK [])/\d=.tuple [.int i,.int j,.dict []]
section
theorem Dts.readsX (I:Inv X pins Z H s) (n:∀a xs,SqL [] H a xs->a≠sysModules) (ds:List PyData) (xs:List V) (us:List Value) (h:Dts [] H xs ds) (r:Vals xs us):∃as,ReadsAll s.heap us ds as/\sysModules∉as:=
 Dts.rec (motive_1:=λv d _=>∀u,ax v u->∃as,Reads s.heap u d as/\sysModules∉as) (motive_2:=λxs ds _=>∀us,Vals xs us->∃as,ReadsAll s.heap us ds as/\sysModules∉as)
  (λu r=>by cases r;exact⟨_,.none,by simp⟩) (λb u r=>by cases r;exact⟨_,.bool b,by simp⟩) (λi u r=>by obtain⟨t,rfl⟩:=r;exact⟨_,.int i t,by simp⟩) (λx _ u r=>by obtain⟨t,rfl⟩:=r;exact⟨_,.str x t,by simp⟩)
  (λh _ ih u r=>by
   cases r;obtain⟨its,rv,⟨o,m,e,c,_,dd⟩,_⟩:=I.list h;obtain⟨as,q,k⟩:=ih _ rv;exact⟨_,.list e c dd (by simpa using q),by simpa using ⟨av (n _ _ h),k⟩⟩)
  (λh _ ih u r=>by
   cases r;obtain⟨its,rv,⟨o,e,c,m,dd⟩,_⟩:=I.tuple h;obtain⟨as,q,k⟩:=ih _ rv;exact⟨_,.tuple e c dd (by simpa using q),k⟩)
  (λu r=>by cases r;exact⟨_,.nil,by simp⟩)
  (λ_ _ ih ihs us r=>by
   cases r with
   |cons r rs=>
    obtain⟨as,q,k⟩:=ih _ r;obtain⟨bs,p,k'⟩:=ihs _ rs;exact⟨_,.cons q p,by simpa using ⟨k,k'⟩⟩) h us r
theorem Dx.reads (I:Inv X pins Z H s) (n:∀a xs,SqL [] H a xs->a≠sysModules) {d:PyData} {v:V} {u:Value} (h:Dx H v d) (r:ax v u):∃as,Reads s.heap u d as/\sysModules∉as:=by
 rcases h with h|⟨a,b,i,j,rfl,ha,hb,rfl⟩
 .obtain⟨as,q,k⟩:=Dts.readsX I n _ _ _ (.cons h .nil) (.cons r .nil);cases q with
  |cons q t=>cases t;rw[eL] at k;exact⟨_,q,k⟩
 .cases r;obtain⟨its,rv,⟨o,e,c,m,dd⟩,_⟩:=I.tuple (SqT.of ha);cases rv with
  |cons r1 rv=>cases rv with
   |cons r2 rv=>cases rv with
    |cons r3 rv=>
     cases rv;obtain⟨t1,rfl⟩:=r1;obtain⟨t2,rfl⟩:=r2;cases r3;obtain⟨z,hd,vs,rel,dc⟩:=ml I.hok hb;cases rel;obtain⟨o',es,ep,e',c',d',x1,ps,_⟩:=dc;have he:es.toList=[]:=by generalize es.toList=l at ps;cases ps;rfl
     have rb:Reads s.heap (.ref b) (.dict []) (b::[]++[]):=.dict e' c'.1 d' (by rw[he];exact .nil) (by rw[he];exact .nil);exact⟨_,.tuple e c dd (.cons (.int i t1) (.cons (.int j t2) (.cons rb .nil))),by simpa using λz=>by rw[z] at hd;simp at hd⟩
theorem Dxs.reads (I:Inv X pins Z H s) (n:∀a xs,SqL [] H a xs->a≠sysModules) {ds:List PyData} (h:Paired (Dx H) xs ds):∀{us:List Value},Vals xs us->∃as,ReadsAll s.heap us ds as/\sysModules∉as:=by
 induction h with
 |nil=>intro us r;cases r;exact⟨_,.nil,by simp⟩
 |cons h _ ih=>
  intro us r;cases r with
  |cons r rs=>
   obtain⟨as,q,k⟩:=h.reads I n r;obtain⟨bs,p,k'⟩:=ih rs;exact⟨_,.cons q p,by simpa using ⟨k,k'⟩⟩
def EN:List V->Hp->VK->Prop:=λxs H Q=>∃(a:Addr) (vs:List V) (ds:List PyData),xs=[.ref a]/\H a=some (.lst vs)/\Paired (Dx H) vs ds/\(PyData.list ds).showable=true/\(PyData.list ds).depth<=60/\(PyData.list ds).shown.length<=sizeLine/\Q (.str (PyData.list ds).shown) H
theorem tS (hu:X.A.units+64<cLine) (hg:X.A.guards=some []) (hS:(X.K.lookup sysModules).isSome=true):cL X (.builtin "repr") EN:=by
 intro pins s Z H xs us Q I r h;obtain⟨a,vs,ds,rfl,ha,hd,hs,hz,hl,q⟩:=h;obtain⟨u,rfl,ru⟩:=Vals.one r;cases ru;have n:∀a xs,SqL [] H a xs->a≠sysModules:=by
  rintro a xs h rfl;obtain⟨o,ho⟩:=je.mp hS;have hb:=(I.bs _ _ (I.mod.kin _ _ ho)).2;rcases h with (h|⟨o,h⟩)|⟨_,_,_,h,_⟩
  .rw[hb] at h;cases h
  .rw[hb] at h;cases h
  .cases h
 obtain⟨its,rv,⟨o,m,e,c,_,dd⟩,_⟩:=I.list (SqL.of ha);obtain⟨as,ra,na⟩:=Dxs.reads I n hd rv;exact repr_of_reads' (.list e c dd (by simpa using ra)) hs (λ_=>by simpa using ⟨av (n _ _ (SqL.of ha)),na⟩) hg (by lia) (λ_ _ z=>z) (λh' u tk k=>⟨.str _,H,I.kept k,⟨_,rfl⟩,q⟩) (hsz:=hl)
end
end L2
end
section
namespace K15
open PySem L2 K51 K31
def cR (p T:Addr) (H H':Hp):Prop:=∀b o,b≠p->b≠T->H b=some o->H' b=some o
theorem cR.trans {p T:Addr} {H H1 H2:Hp} (a:cR p T H H1) (b:cR p T H1 H2):cR p T H H2:=λc o n1 n2 e=>b c o n1 n2 (a c o n1 n2 e)
theorem cR.of {p T:Addr} {H H1:Hp} (s:Same H H1):cR p T H H1:=λc o _ _ e=>s c o e
def TgA (K:W.Frag) (H:Hp) (v:V) (o:Option Tri):Prop:=Th K H v o/\(∀t,o=some t->t.1<10 ^ 60/\t.2.1<10 ^ 60/\t.2.2<10 ^ 60)/\∃d,Dx H v d/\d.showable=true/\d.depth<=20/\d.shown.length<=250
def Tg (K:W.Frag) (p T:Addr) (H:Hp) (v:V) (o:Option Tri):Prop:=∀H',cR p T H H'->TgA K H' v o
theorem Tg.but {p T:Addr} {H H1:Hp} {v:V} {o:Option Tri} (b:cR p T H H1) (h:Tg K p T H v o):Tg K p T H1 v o:=λH' b'=>h H' (b.trans b')
abbrev Tgs (K:W.Frag) (p T:Addr) (H:Hp):List V->List (Option Tri)->Prop:=Paired (Tg K p T H)
theorem Tgs.but {p T:Addr} {H H1:Hp} {os:List (Option Tri)} (b:cR p T H H1) (h:Tgs K p T H vs os):Tgs K p T H1 vs os:=Paired.imp' (λ_ _ q=>q.but b) h
theorem Tgs.ths {p T:Addr} {os:List (Option Tri)} (h:Tgs K p T H vs os):gp K H vs os:=Paired.imp' (λ_ _ q=>(q H λ_ _ _ _ e=>e).1) h
theorem eG {a p:Addr} {xs ys:List V} (ha:H a=some (.tup xs)) (hp:H p=some (.lst ys)):a≠p:=λz=>by rw[z,hp] at ha;cases ha
section
variable {p T a:Addr} {xp xT:List V}
theorem tgT {es:List (Option Int)} {d:PyData} (hp:H p=some (.lst xp)) (hT:H T=some (.lst xT)) (ha:H a=some (.tup xs)) (hn:eJ es=none) (hs:d.showable=true/\d.depth<=20/\d.shown.length<=250)
  (hx:∀H',cR p T H H'->H' a=some (.tup xs)->Paired (El K H') xs es/\Dx H' (.ref a) d):Tg K p T H (.ref a) none:=λH' b=>by
 have ha':=b a _ (eG ha hp) (eG ha hT) ha;obtain⟨h1,h2⟩:=hx H' b ha';exact⟨.inr ⟨a,xs,es,rfl,ha',h1,hn.symm⟩,(λt e=>nomatch e),d,h2,hs⟩
theorem uF {x y z:Nat} (hx:x<10 ^ 60) (hy:y<10 ^ 60) (hz:z<10 ^ 60):(PyData.tuple [.int (x:Int),.int (y:Int),.int (z:Int)]).showable=true/\(PyData.tuple [.int (x:Int),.int (y:Int),.int (z:Int)]).depth<=20/\(PyData.tuple [.int (x:Int),.int (y:Int),.int (z:Int)]).shown.length<=250:=by
 refine⟨?_,?_,?_⟩
 .show (decide (((x:Nat):Int).natAbs.log2<1920)&&(decide (((y:Nat):Int).natAbs.log2<1920)&&(decide (((z:Nat):Int).natAbs.log2<1920)&&true)))=true;rw[KJ (fB hx),KJ (fB hy),KJ (fB hz)];rfl
 .show max 0 (max 0 (max 0 0))+1<=20;decide
 .show (tupleText [((toString ((x:Nat):Int):String):Str),((toString ((y:Nat):Int):String):Str),((toString ((z:Nat):Int):String):Str)]).length<=250;refine cF (qj (n:=60) (by simp) λs hs=>?_) (by show 3*(60+2)+3<=250;decide);rcases aT.mp hs with rfl|hs
  .exact hJ hx
  .rcases aT.mp hs with rfl|hs
   .exact hJ hy
   .rw[aV.mp hs];exact hJ hz
theorem tg3 {x y z:Nat} (hp:H p=some (.lst xp)) (hT:H T=some (.lst xT)) (ha:H a=some (.tup [.int (x:Int),.int (y:Int),.int (z:Int)])) (hx:x<10 ^ 60) (hy:y<10 ^ 60) (hz:z<10 ^ 60):Tg K p T H (.ref a) (eJ [some (x:Int),some (y:Int),some (z:Int)]):=λH' b=>by
 have ha':=b a _ (eG ha hp) (eG ha hT) ha;refine⟨.inr ⟨a,_,[some (x:Int),some (y:Int),some (z:Int)],rfl,ha',.cons rfl (.cons rfl (.cons rfl .nil)),rfl⟩,λt e=>?_,_,.inl (.tup (SqT.of ha') (.cons (.int _) (.cons (.int _) (.cons (.int _) .nil)))),uF hx hy hz⟩;obtain⟨e1,_⟩:=tG e;simp at e1;lia
end
section
theorem elS (x:Str):El K H (.str x) none:=⟨_,.str x,.inl rfl⟩
theorem elB (x:Bool):El K H (.bl x) none:=⟨_,.bl x,.inr ⟨rfl,rfl⟩⟩
theorem elT {a:Addr} (h:H a=some (.tup xs)):El K H (.ref a) none:=⟨_,.tup h,.inl rfl⟩
theorem elL {a:Addr} (h:H a=some (.lst xs)):El K H (.ref a) none:=⟨_,.lst h,.inl rfl⟩
theorem elD {a:Addr} {xs:List (Key×V)} (h:H a=some (.dK xs)):El K H (.ref a) none:=⟨_,.dK h,.inl rfl⟩
theorem elI (i:Int):El K H (.int i) (some i):=rfl
end
def zQ (K:W.Frag) (vs:List V) (H:Hp) (Q:VK) (p T:Addr) (q:Int×Int) (vt:List V) (os:List (Option Tri)):Prop:=vs=[.ref p,.ref T]/\H p=some (.lst (bo q))/\bu q/\H T=some (.lst vt)/\T≠p/\Tgs K p T H vt os/\os.length<=40/\
 ∀vt' os' q' H',cR p T H H'->H' p=some (.lst (bo q'))->bu q'->H' T=some (.lst vt')->Tgs K p T H' vt' os'->os'.length<=os.length+1->Q .non H'
def ue (K:W.Frag):Sp:=λvs H Q _=>Exists (Ex5 (zQ K vs H Q))
section
structure SE (X:Cx) (e:Expr) (t:TE):Prop where
 out:PE X e t
structure SA (X:Cx) (es:List Expr) (t:TA):Prop where
 out:PA X es t
structure SS (X:Cx) (st:Stmt) (t:TS):Prop where
 out:PS X st t
structure SSs (X:Cx) (ss:List Stmt) (t:TS):Prop where
 out:PSs X ss t
section
variable {e a b:Expr} {es:List Expr} {te ta tb:TE} {t:TA} {pos:Pos} {st:Stmt} {rest:List Stmt} {ts us:TS}
theorem cX:SA X [] fR:=⟨ae⟩
theorem aH (ha:SE X e te) (hr:SA X es t) (hs:starEach (e::es) X.env=(false,eval e X.env)::starEach es X.env:=by rfl):SA X (e::es) (dX te t):=⟨aa ha.out hr.out hs⟩
theorem jG (h:SA X es t):SE X (.List es pos) (rA t):=⟨bY h.out⟩
theorem dW {k:Nat} (h:SA X es t):SE X (.Tuple es k pos) (rm t):=⟨aI h.out⟩
theorem bz {i:Int} {j:Nat}:SE X (.Constant (.int i) j pos) (tC (.int i)):=⟨ai⟩
theorem xl {i:Bool} {j:Nat}:SE X (.Constant (.bool i) j pos) (tC (.bl i)):=⟨eR⟩
theorem Ey {j:Nat}:SE X (.Constant .none j pos) (tC .non):=⟨qO⟩
theorem wI {x:Str} {j:Nat}:SE X (.Constant (.str x) j pos) (tC (.str x)):=⟨cw⟩
theorem C8:SE X (.Dict [] [] pos) wA:=⟨kO⟩
theorem Ez (ha:SE X a ta):SE X (.UnaryOp .USub a pos) (tUn (rU λi=>.int (-i)) ta):=⟨ma lB ha.out⟩
theorem EA (ha:SE X a ta) (hb:SE X b tb):SE X (.BinOp a .Add b pos) (tOp rCat ta tb):=⟨aA fN ha.out hb.out⟩
theorem wC {i:Nat} {x:Str} {pos':Pos} (hN:X.N.Nodup) (hi:X.N[i]?=some x) (hx:Loc X.env.scope x) (he:SE X e te) (hs:swapsWith e (some (.Name x pos')) pos.line X.env=pure false:=by rfl) (hf:X.fn x=true\/X.env.scope.names.lookup x=some .local:=by first|exact .inl rfl|exact .inr rfl):SS X (.Assign [.Name x pos'] e pos) (mn te (dg i)):=⟨az hN hi hx he.out hs hf⟩
theorem uH (h1:SS X st ts) (h2:SSs X rest us):SSs X (st::rest) (oR ts us):=⟨ah h1.out h2.out⟩
end
theorem DL {x qual:Str} {st:Stmt} {f:Addr} {N ps:List Str} {k:Nat} {sp:Sp} (F:Fun K x qual st f fd) (S:bc N ps (aE st)) (len:∀vs H Q E,sp vs H Q E->vs.length=ps.length)
  (hbody:∀(cdv:Value) (A:Around) (outer:List Env) (s:Shared) (H:Hp) (vs:List V) (Q:VK) (E:XK),Room k (A.deeper (PyProof.Rows.envOfC qual (aE st) s.heap.objs.size f cdv))->sp vs H Q E->
   ∃t,SSs (eV CX0 P w K mg base N qual (aE st) f cdv A outer s H E).nox (cW st) t/\t {nx:=λ_ H'=>Q .non H',rt:=Q} (start N vs) H):ag P w K mg base CX0 (k+1) f fd ps sp:=
 F.ok S len λcdv A outer s H vs Q E hr h=>by
  obtain⟨t,h,q⟩:=hbody cdv A outer s H vs Q E hr h;exact⟨t,h.out,q⟩
theorem lit0:0<=sizeLine:=aU _
theorem lit4:4<=sizeLine:=by show 4<=sizeLine;decide
theorem lit8:8<=sizeLine:=by show 8<=sizeLine;decide
theorem lit10:10<=sizeLine:=by show 10<=sizeLine;decide
theorem lit18:18<=sizeLine:=by show 18<=sizeLine;decide
theorem tgN {p T:Addr} {v:V} {d:PyData} (hs:d.showable=true/\d.depth<=20/\d.shown.length<=250) (hx:∀H',cR p T H H'->(∃ty,cZ K H' v ty/\W.kitOne K ty (.type "tuple")=some false)/\Dx H' v d):Tg K p T H v none:=λH' b=>by
 obtain⟨h1,h2⟩:=hx H' b;exact⟨.inl ⟨rfl,h1⟩,(λt e=>nomatch e),d,h2,hs⟩
theorem dxT {a:Addr} {ds:List PyData} (h:H a=some (.tup xs)) (r:Dts [] H xs ds):Dx H (.ref a) (.tuple ds):=.inl (.tup (SqT.of h) r)
theorem dtL {a:Addr} {ds:List PyData} (h:H a=some (.lst xs)) (r:Dts [] H xs ds):Dt [] H (.ref a) (.list ds):=.lst (SqL.of h) r
theorem DE {p T:Addr} {xp xT:List V} {t1 t2 t3 t4 t5 t6 t7 l2 t8 t9 t10 t11 t12 l3 t13 D t14 l4 l5 t15:Addr} (hp:H p=some (.lst xp)) (hT:H T=some (.lst xT)) (e_t1:H t1=some (.tup [.int 0,.int 1])) (e_t2:H t2=some (.tup [.int 0,.int 1,.int 2,.int 3])) (e_t3:H t3=some (.tup [.int 4,.int 4,.int 1])) (e_t4:H t4=some (.tup [.int 1,.int 4,.int 4])) (e_t5:H t5=some (.tup [.int 4,.int 1,.int 4])) (e_t6:H t6=some (.tup [.int 0,.int 1,.int (-1)])) (e_t7:H t7=some (.tup [.int 0,.int 2,.bl true])) (e_l2:H l2=some (.lst [.int 0,.int 1,.int 2])) (e_t8:H t8=some (.tup [.int 0,.int 1,.str "2"])) (e_t9:H t9=some (.tup [])) (e_t10:H t10=some (.tup [.int 0])) (e_t11:H t11=some (.tup [.ref t10,.int 1,.int 2])) (e_t12:H t12=some (.tup [.bl false,.int 1,.int 2])) (e_l3:H l3=some (.lst [.int 0])) (e_t13:H t13=some (.tup [.ref l3,.int 1,.int 2])) (e_D:H D=some (.dK [])) (e_t14:H t14=some (.tup [.int 0,.int 1,.ref D])) (e_l4:H l4=some (.lst [])) (e_l5:H l5=some (.lst [])) (e_t15:H t15=some (.tup [.int 0,.ref l4,.ref l5])) (n_l2:l2≠p/\l2≠T) (n_l3:l3≠p/\l3≠T) (n_D:D≠p/\D≠T) (n_l4:l4≠p/\l4≠T) (n_l5:l5≠p/\l5≠T):Tgs K p T H [.non,.int 3,.str "012",.ref t1,.ref t2,.ref t3,.ref t4,.ref t5,.ref t6,.ref t7,.ref l2,.ref t8,.ref t9,.ref t11,.ref t12,.ref t13,.ref t14,.ref t15] (List.replicate 18 none):=
 .cons (tgN (d:=.none) ⟨by decide +kernel,by decide +kernel,by decide +kernel⟩ λH' b=>⟨⟨_,.non,rfl⟩,.inl .non⟩)
 (.cons (tgN (d:=.int 3) ⟨by decide +kernel,by decide +kernel,by decide +kernel⟩ λH' b=>⟨⟨_,.int 3,rfl⟩,.inl (.int 3)⟩)
 (.cons (tgN (d:=.str "012") ⟨by decide +kernel,by decide +kernel,by decide +kernel⟩ λH' b=>⟨⟨_,.str _,rfl⟩,.inl (.str _ (by decide +kernel))⟩)
 (.cons (tgT (es:=[some (0),some (1)]) (d:=.tuple [.int (0),.int (1)]) hp hT e_t1 (by decide +kernel) ⟨by decide +kernel,by decide +kernel,by decide +kernel⟩ λH' b a=>⟨.cons (elI 0) (.cons (elI 1) (.nil)),dxT a (.cons (.int 0) (.cons (.int 1) (.nil)))⟩)
 (.cons (tgT (es:=[some (0),some (1),some (2),some (3)]) (d:=.tuple [.int (0),.int (1),.int (2),.int (3)]) hp hT e_t2 (by decide +kernel) ⟨by decide +kernel,by decide +kernel,by decide +kernel⟩ λH' b a=>⟨.cons (elI 0) (.cons (elI 1) (.cons (elI 2) (.cons (elI 3) (.nil)))),dxT a (.cons (.int 0) (.cons (.int 1) (.cons (.int 2) (.cons (.int 3) (.nil)))))⟩)
 (.cons (tgT (es:=[some (4),some (4),some (1)]) (d:=.tuple [.int (4),.int (4),.int (1)]) hp hT e_t3 (by decide +kernel) ⟨by decide +kernel,by decide +kernel,by decide +kernel⟩ λH' b a=>⟨.cons (elI 4) (.cons (elI 4) (.cons (elI 1) (.nil))),dxT a (.cons (.int 4) (.cons (.int 4) (.cons (.int 1) (.nil))))⟩)
 (.cons (tgT (es:=[some (1),some (4),some (4)]) (d:=.tuple [.int (1),.int (4),.int (4)]) hp hT e_t4 (by decide +kernel) ⟨by decide +kernel,by decide +kernel,by decide +kernel⟩ λH' b a=>⟨.cons (elI 1) (.cons (elI 4) (.cons (elI 4) (.nil))),dxT a (.cons (.int 1) (.cons (.int 4) (.cons (.int 4) (.nil))))⟩)
 (.cons (tgT (es:=[some (4),some (1),some (4)]) (d:=.tuple [.int (4),.int (1),.int (4)]) hp hT e_t5 (by decide +kernel) ⟨by decide +kernel,by decide +kernel,by decide +kernel⟩ λH' b a=>⟨.cons (elI 4) (.cons (elI 1) (.cons (elI 4) (.nil))),dxT a (.cons (.int 4) (.cons (.int 1) (.cons (.int 4) (.nil))))⟩)
 (.cons (tgT (es:=[some (0),some (1),some (-1)]) (d:=.tuple [.int (0),.int (1),.int (-1)]) hp hT e_t6 (by decide +kernel) ⟨by decide +kernel,by decide +kernel,by decide +kernel⟩ λH' b a=>⟨.cons (elI 0) (.cons (elI 1) (.cons (elI (-1)) (.nil))),dxT a (.cons (.int 0) (.cons (.int 1) (.cons (.int (-1)) (.nil))))⟩)
 (.cons (tgT (es:=[some (0),some (2),none]) (d:=.tuple [.int (0),.int (2),.bool true]) hp hT e_t7 (by decide +kernel) ⟨by decide +kernel,by decide +kernel,by decide +kernel⟩ λH' b a=>⟨.cons (elI 0) (.cons (elI 2) (.cons (elB true) (.nil))),dxT a (.cons (.int 0) (.cons (.int 2) (.cons (.bl true) (.nil))))⟩)
 (.cons (tgN (d:=.list [.int 0,.int 1,.int 2]) ⟨by decide +kernel,by decide +kernel,by decide +kernel⟩ λH' b=>have z:=b l2 _ n_l2.1 n_l2.2 e_l2;⟨⟨_,.lst z,rfl⟩,.inl (dtL z (.cons (.int 0) (.cons (.int 1) (.cons (.int 2) (.nil)))))⟩)
 (.cons (tgT (es:=[some (0),some (1),none]) (d:=.tuple [.int (0),.int (1),.str "2"]) hp hT e_t8 (by decide +kernel) ⟨by decide +kernel,by decide +kernel,by decide +kernel⟩ λH' b a=>⟨.cons (elI 0) (.cons (elI 1) (.cons (elS "2") (.nil))),dxT a (.cons (.int 0) (.cons (.int 1) (.cons (.str "2" (by decide +kernel)) (.nil))))⟩)
 (.cons (tgT (es:=[]) (d:=.tuple []) hp hT e_t9 (by decide +kernel) ⟨by decide +kernel,by decide +kernel,by decide +kernel⟩ λH' b a=>⟨.nil,dxT a (.nil)⟩)
 (.cons (tgT (es:=[none,some (1),some (2)]) (d:=.tuple [.tuple [.int 0],.int (1),.int (2)]) hp hT e_t11 (by decide +kernel) ⟨by decide +kernel,by decide +kernel,by decide +kernel⟩ λH' b a=>have z:=b t10 _ (eG e_t10 hp) (eG e_t10 hT) e_t10;⟨.cons (elT z) (.cons (elI 1) (.cons (elI 2) (.nil))),dxT a (.cons (.tup (SqT.of z) (.cons (.int 0) .nil)) (.cons (.int 1) (.cons (.int 2) (.nil))))⟩)
 (.cons (tgT (es:=[none,some (1),some (2)]) (d:=.tuple [.bool false,.int (1),.int (2)]) hp hT e_t12 (by decide +kernel) ⟨by decide +kernel,by decide +kernel,by decide +kernel⟩ λH' b a=>⟨.cons (elB false) (.cons (elI 1) (.cons (elI 2) (.nil))),dxT a (.cons (.bl false) (.cons (.int 1) (.cons (.int 2) (.nil))))⟩)
 (.cons (tgT (es:=[none,some (1),some (2)]) (d:=.tuple [.list [.int 0],.int (1),.int (2)]) hp hT e_t13 (by decide +kernel) ⟨by decide +kernel,by decide +kernel,by decide +kernel⟩ λH' b a=>have z:=b l3 _ n_l3.1 n_l3.2 e_l3;⟨.cons (elL z) (.cons (elI 1) (.cons (elI 2) (.nil))),dxT a (.cons (dtL z (.cons (.int 0) .nil)) (.cons (.int 1) (.cons (.int 2) (.nil))))⟩)
 (.cons (tgT (es:=[some 0,some 1,none]) (d:=.tuple [.int 0,.int 1,.dict []]) hp hT e_t14 (by decide +kernel) ⟨by decide +kernel,by decide +kernel,by decide +kernel⟩ λH' b a=>have z:=b D _ n_D.1 n_D.2 e_D;⟨.cons (elI 0) (.cons (elI 1) (.cons (elD z) .nil)),.inr ⟨t14,D,0,1,rfl,a,z,rfl⟩⟩)
 (.cons (tgT (es:=[some (0),none,none]) (d:=.tuple [.int (0),.list [],.list []]) hp hT e_t15 (by decide +kernel) ⟨by decide +kernel,by decide +kernel,by decide +kernel⟩ λH' b a=>have z1:=b l4 _ n_l4.1 n_l4.2 e_l4;have z2:=b l5 _ n_l5.1 n_l5.2 e_l5;⟨.cons (elI 0) (.cons (elL z1) (.cons (elL z2) (.nil))),dxT a (.cons (.int 0) (.cons (dtL z1 .nil) (.cons (dtL z2 .nil) (.nil))))⟩)
 (.nil))))))))))))))))))
theorem qC {p T:Addr}:∀{vs:List V} {os:List (Option Tri)},Tgs K p T H vs os->∀t,some t∈os->t.1<10 ^ 60/\t.2.1<10 ^ 60/\t.2.2<10 ^ 60
 |_,_,.nil,_,h=>by cases h
 |_,_,.cons h r,t,ht=>by
  rcases aT.mp ht with e|ht
  .exact (h H λ_ _ _ _ e=>e).2.1 t e.symm
  .exact qC r t ht
theorem wB {tA tB:TT} {Q:Bool->Hp->Prop} {a b:Bool} (hA:∀Q':Bool->Hp->Prop,Q' a H->tA Z H Q') (hB:a=true->∀Q':Bool->Hp->Prop,Q' b H->tB Z H Q') (q:Q (a&&b) H):tAnd tA tB Z H Q:=hA _ (by
 cases a with
 |false=>exact aP q
 |true=>exact a6 (hB rfl _ q))
theorem fC:bc ["_law_pot_here","_law_things","_law_odd","_law_way","_law_at_here","_law_a","_law_b","_law_c","_law_triple","_law_come"] ["_law_pot_here","_law_things"] (aE kH):=by walk_at"sc"
theorem zY {f f1 f2 f3:Addr} {fd d1 d2 d3:FuncData} (U:Fun K "_law_spoilt" "_law_spoilt" kH f fd) (T:cH mg)
  (GD:ag P w K mg base CX0 2 f1 d1 ["_law_pot_here","_law_base"] fJ) (bD:Binds K d1 ["_law_pot_here","_law_base"] []) (mD:mg "_law_digit" = some (.ref f1)) (kD:W.keepIn K (.ref f1)=true)
  (GI:ag P w K mg base CX0 2 f2 d2 ["_law_thing"] (ki K)) (bI:Binds K d2 ["_law_thing"] []) (mI:mg "_law_is_triple" = some (.ref f2)) (kI:W.keepIn K (.ref f2)=true)
  (GC:ag P w K mg base CX0 2 f3 d3 ["_law_triples"] gP) (bC:Binds K d3 ["_law_triples"] []) (mC:mg "_law_corners" = some (.ref f3)) (kC:W.keepIn K (.ref f3)=true) :
  ag P w K mg base CX0 3 f fd ["_law_pot_here","_law_things"] (ue K):=by
 refine DL U fC (λvs H Q E h=>?_) (λcdv A outer s H vs Q E hr h=>?_)
 .obtain⟨p,T,q,vt,os,rfl,_⟩:=h;rfl
 .obtain⟨p,T0,q,vt,os,rfl,hp,pok,hT,nTp,ht,hl,Qq⟩:=h;have hu:=dA hr;have hline:=line5000;refine⟨_,(uH (wC (i:=2) fC.nd rfl (.inl rfl) (jG (aH Ey (aH bz (aH wI
     (aH (dW (aH bz (aH bz cX)))
     (aH (dW (aH bz (aH bz (aH bz (aH bz cX)))))
     (aH (dW (aH bz (aH bz (aH bz cX))))
     (aH (dW (aH bz (aH bz (aH bz cX))))
     (aH (dW (aH bz (aH bz (aH bz cX))))
     (aH (dW (aH bz (aH bz (aH (Ez bz) cX))))
     (aH (dW (aH bz (aH bz (aH xl cX)))) cX))))))))))))
   (uH (wC (i:=2) fC.nd rfl (.inl rfl) (EA ⟨pv 2⟩ (jG
     (aH (jG (aH bz (aH bz (aH bz cX))))
     (aH (dW (aH bz (aH bz (aH wI cX))))
     (aH (dW cX)
     (aH (dW (aH (dW (aH bz cX)) (aH bz (aH bz cX))))
     (aH (dW (aH xl (aH bz (aH bz cX))))
     (aH (dW (aH (jG (aH bz cX)) (aH bz (aH bz cX))))
     (aH (dW (aH bz (aH bz (aH C8 cX))))
     (aH (dW (aH bz (aH (jG cX) (aH (jG cX) cX)))) cX)))))))))))
   ⟨(ah (az (i:=3) fC.nd rfl (.inl rfl) (aw GD hr rfl mD kD bD .nil pass0 (aa (pv 0) (aa ai ae))))
   (ah (az (i:=4) fC.nd rfl (.inl rfl) (aw GD hr rfl mD kD bD .nil pass0 (aa (pv 0) (aa (aA cy (aL c9 (by rfl) T.len di (aa (pv 1) ae)) ai) ae))))
   (ao (br (ba eK (pv 3) ai (nomark _))
    (ao (cU (df dG j9 ni jq (pv 1) (aa (pv 4) (aa (bL cv (pv 2) (aw GD hr rfl mD kD bD .nil pass0 (aa (pv 0) (aa (aL c9 (by rfl) T.len di (aa (pv 2) ae)) ae))) (λ_ _=>rfl)) ae)))))
    (ao (br (PW.pt (gg (ba eK (pv 3) ai (nomark _)) (gg (ba iT (pv 4) (aL c9 (by rfl) T.len di (aa (pv 1) ae)) (nomark _)) (gZ (cQ (aw GI hr rfl mI kI bI .nil pass0 (aa (bL cv (pv 1) (pv 4) (λ_ _=>rfl)) ae)))))))
     (ah (gh (bL cv (pv 1) (pv 4) (λ_ _=>rfl)) (de rfl (aW (ay (i:=5) fC.nd rfl (.inl rfl)) (aW (ay (i:=6) fC.nd rfl (.inl rfl)) (aW (ay (i:=7) fC.nd rfl (.inl rfl)) c_)))))
     (ah (az (i:=8) fC.nd rfl (.inl rfl) (bL cv (bY (aa (aI (aa (pv 5) (aa (pv 6) (aa (pv 7) ae)))) (aa (aI (aa (pv 6) (aa (pv 7) (aa (pv 5) ae)))) (aa (aI (aa (pv 7) (aa (pv 5) (aa (pv 6) ae)))) ae)))) (aw GD hr rfl mD kD bD .nil pass0 (aa (pv 0) (aa ai ae))) (λ_ _=>rfl)))
     (ao (cU (df dG j9 ni jq (pv 1) (aa (aw GD hr rfl mD kD bD .nil pass0 (aa (pv 0) (aa (aA cy (aL c9 (by rfl) T.len di (aa (pv 1) ae)) ai) ae))) (aa (pv 8) ae)))))))
     (ao (br (ba eK (pv 3) ai (nomark _))
      (ah (az (i:=9) fC.nd rfl (.inr rfl) (aA fN (aw GC hr rfl mC kC bC .nil pass0 (aa (dO (N:=["_law_thing"]) (fr:=[none]) (nH (by decide +kernel) rfl (by decide +kernel) (by decide +kernel)) rfl (cC (pv 1))
       (λC s H fp pins=>⟨ay (i:=0) (show (["_law_thing"]:List Str).Nodup by decide +kernel) rfl (.inl rfl) (.inr rfl),iL (cQ (aw GI hr rfl mI kI bI .nil pass0 (aa (pv 0) ae))),pv 0⟩)) ae)) (bY (aa ai (aa ai (aa ai ae))))))
      (ao (cU (df dG j9 ni jq (pv 1) (aa (pv 4) (aa (er kg (by rfl) T.tuple j6 (aa (dO (N:=["_law_i","_law_come","_law_pot_here"]) (fr:=[none,some 9,some 0]) (dS (by decide +kernel) rfl rfl (by decide +kernel) (by decide +kernel) (by walk_at"cs") (by walk_at"ct")) rfl (jo rfl T.range (aa ai ae))
       (λC' s' H' fp pins=>⟨ay (i:=0) (show (["_law_i","_law_come","_law_pot_here"]:List Str).Nodup by decide +kernel) rfl (.inl rfl) (.inr rfl),eO,bL cv (pv 1) (aw GD hr rfl mD kD bD .nil pass0 (aa (pv 2) (aa (aL c9 (by rfl) T.len di (aa (pv 1) ae)) ae))) (λ_ _=>rfl)⟩)) ae)) ae))))))
      (ao (br (ba iT (pv 4) (aL c9 (by rfl) T.len di (aa (pv 1) ae)) (nomark _)) (ao (cU (df dG yp yq qb (pv 1) (aa (pv 4) ae)))) bK))))))))))⟩)),?_⟩
  refine⟨lit2,λt1 H1 g1 s1 y1=>⟨lit4,λt2 H2 g2 s2 y2=>⟨lit3,λt3 H3 g3 s3 y3=>⟨lit3,λt4 H4 g4 s4 y4=>⟨lit3,λt5 H5 g5 s5 y5=>⟨_,rfl,lit3,λt6 H6 g6 s6 y6=>⟨lit3,λt7 H7 g7 s7 y7=>⟨lit10,λl1 H8 g8 s8 y8=>?_⟩⟩⟩⟩⟩⟩⟩⟩;refine⟨_,rfl,⟨lit3,λl2 H9 g9 s9 y9=>⟨lit3,λt8 H10 g10 s10 y10=>⟨lit0,λt9 H11 g11 s11 y11=>⟨lit1,λt10 H12 g12 s12 y12=>⟨lit3,λt11 H13 g13 s13 y13=>⟨lit3,λt12 H14 g14 s14 y14=>⟨lit1,λl3 H15 g15 s15 y15=>⟨lit3,λt13 H16 g16 s16 y16=>λD H17 g17 s17 y17=>⟨lit3,λt14 H18 g18 s18 y18=>⟨lit0,λl4 H19 g19 s19 y19=>⟨lit0,λl5 H20 g20 s20 y20=>⟨lit3,λt15 H21 g21 s21 y21=>⟨lit8,λl6 H22 g22 s22 y22=>⟨l1,l6,_,_,rfl,rfl,(s22 _ _ (s21 _ _ (s20 _ _ (s19 _ _ (s18 _ _ (s17 _ _ (s16 _ _ (s15 _ _ (s14 _ _ (s13 _ _ (s12 _ _ (s11 _ _ (s10 _ _ (s9 _ _ y8)))))))))))))),y22,lit18,λl7 H23 g23 s23 y23=>?_⟩⟩⟩⟩⟩⟩⟩⟩⟩⟩⟩⟩⟩⟩⟩;have d22:Same H22 H23:=s23;have d21:=s22.trans d22;have d20:=s21.trans d21;have d19:=s20.trans d20;have d18:=s19.trans d19;have d17:=s18.trans d18;have d16:=s17.trans d17;have d15:=s16.trans d16;have d14:=s15.trans d15;have d13:=s14.trans d14;have d12:=s13.trans d13;have d11:=s12.trans d12;have d10:=s11.trans d11;have d9:=s10.trans d10;have d8:=s9.trans d9;have d7:=s8.trans d8;have d6:=s7.trans d7;have d5:=s6.trans d6;have d4:=s5.trans d5;have d3:=s4.trans d4;have d2:=s3.trans d3;have d1:=s2.trans d2;have d0:=s1.trans d1;have n9:l2≠p/\l2≠T0:=⟨av (ak (s8 _ _ (s7 _ _ (s6 _ _ (s5 _ _ (s4 _ _ (s3 _ _ (s2 _ _ (s1 _ _ (hp))))))))) g9),av (ak (s8 _ _ (s7 _ _ (s6 _ _ (s5 _ _ (s4 _ _ (s3 _ _ (s2 _ _ (s1 _ _ (hT))))))))) g9)⟩;have n15:l3≠p/\l3≠T0:=⟨av (ak (s14 _ _ (s13 _ _ (s12 _ _ (s11 _ _ (s10 _ _ (s9 _ _ (s8 _ _ (s7 _ _ (s6 _ _ (s5 _ _ (s4 _ _ (s3 _ _ (s2 _ _ (s1 _ _ (hp))))))))))))))) g15),av (ak (s14 _ _ (s13 _ _ (s12 _ _ (s11 _ _ (s10 _ _ (s9 _ _ (s8 _ _ (s7 _ _ (s6 _ _ (s5 _ _ (s4 _ _ (s3 _ _ (s2 _ _ (s1 _ _ (hT))))))))))))))) g15)⟩;have n17:D≠p/\D≠T0:=⟨av (ak (s16 _ _ (s15 _ _ (s14 _ _ (s13 _ _ (s12 _ _ (s11 _ _ (s10 _ _ (s9 _ _ (s8 _ _ (s7 _ _ (s6 _ _ (s5 _ _ (s4 _ _ (s3 _ _ (s2 _ _ (s1 _ _ (hp))))))))))))))))) g17),av (ak (s16 _ _ (s15 _ _ (s14 _ _ (s13 _ _ (s12 _ _ (s11 _ _ (s10 _ _ (s9 _ _ (s8 _ _ (s7 _ _ (s6 _ _ (s5 _ _ (s4 _ _ (s3 _ _ (s2 _ _ (s1 _ _ (hT))))))))))))))))) g17)⟩;have n19:l4≠p/\l4≠T0:=⟨av (ak (s18 _ _ (s17 _ _ (s16 _ _ (s15 _ _ (s14 _ _ (s13 _ _ (s12 _ _ (s11 _ _ (s10 _ _ (s9 _ _ (s8 _ _ (s7 _ _ (s6 _ _ (s5 _ _ (s4 _ _ (s3 _ _ (s2 _ _ (s1 _ _ (hp))))))))))))))))))) g19),av (ak (s18 _ _ (s17 _ _ (s16 _ _ (s15 _ _ (s14 _ _ (s13 _ _ (s12 _ _ (s11 _ _ (s10 _ _ (s9 _ _ (s8 _ _ (s7 _ _ (s6 _ _ (s5 _ _ (s4 _ _ (s3 _ _ (s2 _ _ (s1 _ _ (hT))))))))))))))))))) g19)⟩;have n20:l5≠p/\l5≠T0:=⟨av (ak (s19 _ _ (s18 _ _ (s17 _ _ (s16 _ _ (s15 _ _ (s14 _ _ (s13 _ _ (s12 _ _ (s11 _ _ (s10 _ _ (s9 _ _ (s8 _ _ (s7 _ _ (s6 _ _ (s5 _ _ (s4 _ _ (s3 _ _ (s2 _ _ (s1 _ _ (hp)))))))))))))))))))) g20),av (ak (s19 _ _ (s18 _ _ (s17 _ _ (s16 _ _ (s15 _ _ (s14 _ _ (s13 _ _ (s12 _ _ (s11 _ _ (s10 _ _ (s9 _ _ (s8 _ _ (s7 _ _ (s6 _ _ (s5 _ _ (s4 _ _ (s3 _ _ (s2 _ _ (s1 _ _ (hT)))))))))))))))))))) g20)⟩;have ho:Tgs K p T0 H23 _ _:=DE (d0 _ _ hp) (d0 _ _ hT) (d1 _ _ y1) (d2 _ _ y2) (d3 _ _ y3) (d4 _ _ y4) (d5 _ _ y5) (d6 _ _ y6) (d7 _ _ y7) (d9 _ _ y9) (d10 _ _ y10) (d11 _ _ y11) (d12 _ _ y12) (d13 _ _ y13) (d14 _ _ y14) (d15 _ _ y15) (d16 _ _ y16) (d17 _ _ y17) (d18 _ _ y18) (d19 _ _ y19) (d20 _ _ y20) (d21 _ _ y21) n9 n15 n17 n19 n20;have c22:Same H H22:=(((((((((((((((((((((s1.trans s2).trans s3).trans s4).trans s5).trans s6).trans s7).trans s8).trans s9).trans s10).trans s11).trans s12).trans s13).trans s14).trans s15).trans s16).trans s17).trans s18).trans s19).trans s20).trans s21).trans s22);have n23:l7≠p/\l7≠T0:=⟨av (ak (c22 _ _ hp) g23),av (ak (c22 _ _ hT) g23)⟩;obtain⟨vo,hvo,ho⟩:∃vo,H23 l7=some (.lst vo)/\Tgs K p T0 H23 vo (List.replicate 18 none):=⟨_,y23,ho⟩;obtain⟨np,nT⟩:=n23;have s:Same H H23:=d0;clear d0 d1 d2 d3 d4 d5 d6 d7 d8 d9 d10 d11 d12 d13 d14 d15 d16 d17 d18 d19 d20 d21 d22 s1 y1 g1 s2 y2 g2 s3 y3 g3 s4 y4 g4 s5 y5 g5 s6 y6 g6 s7 y7 g7 s8 y8 g8 s9 y9 g9 s10 y10 g10 s11 y11 g11 s12 y12 g12 s13 y13 g13 s14 y14 g14 s15 y15 g15 s16 y16 g16 s17 y17 g17 s18 y18 g18 s19 y19 g19 s20 y20 g20 s21 y21 g21 s22 y22 g22 s23 y23 g23 n9 n15 n17 n19 n20;have lvo:vo.length=18:=aN ho;have lvt:=aN ht;have hp3:=s _ _ hp;have hT3:=s _ _ hT;have ht3:Tgs K p T0 H23 vt os:=ht.but (.of s);generalize H23=H3 at *;have bt0:cR p T0 H H3:=.of s;obtain⟨w1,w2⟩:=cA (q:=q) (b:=4) (by decide);refine⟨_,rfl,p,q,4,rfl,hp3,pok,by decide,by decide +kernel,λH4 k4 y4=>?_⟩;have hT4:=(k4 T0 nTp).trans hT3;have ho4:=(k4 l7 np).trans hvo;obtain⟨a1,a2⟩:=cA (q:=nxt q 4) (b:=(vt.length:Int)+1) (by lia);refine⟨_,rfl,_,rfl,T0,vt,rfl,.inl (SqL.of hT4),_,_,rfl,rfl,p,nxt q 4,_,rfl,y4,a9 pok,by lia,lg20 (by lia),λH5 k5 y5=>?_⟩;have hT5:=(k5 T0 nTp).trans hT4;have ho5:=(k5 l7 np).trans ho4;have pok5:=a9 (b:=(vt.length:Int)+1) (a9 (b:=4) pok);generalize nxt (nxt q 4) ((vt.length:Int)+1)=q5 at *;obtain⟨d,hd⟩:∃d:Nat,digO (nxt q 4) ((vt.length:Int)+1)=(d:Int):=⟨_,(dM a1).symm⟩;rw[hd] at a2 |-;have hdl:d<=vt.length:=by lia
  have bt5:cR p T0 H H5:=λb o n1 n2 e=>(k5 b n1).trans ((k4 b n1).trans (bt0 b o n1 n2 e));have b35:cR p T0 H3 H5:=λb o n1 n2 e=>(k5 b n1).trans ((k4 b n1).trans e);have ht5:=ht3.but b35;have ho5':=ho.but b35;clear ht3 ho hd a1 a2 bt0 hvo hp3 hT3 k4 k5 y4 hT4 ho4 b35;have fin_ins:∀(d:Nat) (v:V) (o:Option Tri) (q':Int×Int) (Hn:Hp),cR p T0 H5 Hn->Hn p=some (.lst (bo q'))->bu q'->Hn T0=some (.lst (vt.take d++v::vt.drop d))->Tg K p T0 Hn v o->Q .non Hn:=λd v o q' Hn b h1 h2 h3 h4=>
   Qq _ (os.take d++o::os.drop d) q' Hn (bt5.trans b) h1 h2 h3 (dz (qw d (ht5.but b)) (.cons h4 (pr_drop d (ht5.but b)))) (by rw[aZ,bQ,cE,i9];lia)
  generalize digO q 4=wy at *;refine⟨_,rfl,rfl,_,rfl,?_⟩;by_cases h0:wy=0
  .subst h0;refine a6 ?_;obtain⟨x1,x2⟩:=cA (q:=q5) (b:=(vo.length:Int)) (by lia);refine⟨_,rfl,.inl ⟨rfl,_,SqL.of hT5⟩,_,rfl,_,rfl,_,rfl,_,rfl,l7,vo,rfl,.inl (SqL.of ho5),p,q5,_,rfl,y5,pok5,by lia,by rw[lvo];decide +kernel,λH6 k6 y6=>?_⟩;obtain⟨j,hj⟩:∃j:Nat,digO q5 (vo.length:Int)=(j:Int):=⟨_,(dM x1).symm⟩;rw[hj] at x2 |-;obtain⟨v,hv⟩:∃v,vo[j]?=some v:=⟨_,bZ (by lia)⟩;obtain⟨o,ho',hvo⟩:=cB ho5' hv;have hT6:=(k6 T0 nTp).trans hT5;refine⟨l7,vo,_,v,rfl,rfl,SqL.of ((k6 l7 np).trans ho5),ck hv,T0,vt,d,_,rfl,rfl,hT6,hdl,by lia,λH7 k7 y7=>?_⟩;have b57:cR p T0 H5 H7:=λb o n1 n2 e=>(k7 b n2).trans ((k6 b n1).trans e);exact fin_ins d v o _ H7 b57 ((k7 p (av nTp)).trans y6) (a9 pok5) y7 (hvo.but b57)
  rw[show decide (V.int wy=V.int 0)=false from KL λz=>h0 (V.int.inj z)];refine aP ?_;have hth5:=ht5.ths;refine wB (a:=decide (V.int wy=V.int 1)) (b:=decide ((d:Int)<(vt.length:Int))&&((os[d]?).bind id).isSome) (λQ' q=>⟨_,rfl,rfl,_,rfl,q⟩) (λ_ Q' q=>wB (λQ' q=>⟨_,rfl,_,rfl,T0,vt,rfl,.inl (SqL.of hT5),_,_,rfl,rfl,_,rfl,q⟩) (λh Q' q=>?_) q) ?_
  .have h:(d:Int)<(vt.length:Int):=KM h;obtain⟨v,hv⟩:∃v,vt[d]?=some v:=⟨_,bZ (by lia)⟩;obtain⟨o,ho',hvo⟩:=cB hth5 hv;rw[ho'] at q;exact⟨_,rfl,_,rfl,T0,vt,_,v,rfl,rfl,SqL.of hT5,ck hv,v,o,rfl,hvo,_,rfl,q⟩
  generalize hc:(decide (V.int wy=V.int 1)&&(decide ((d:Int)<(vt.length:Int))&&((os[d]?).bind id).isSome))=c;cases c with
  |true=>
   refine a6 ?_;rw[eC,eC] at hc;obtain⟨_,hc1,hc2⟩:=hc;have hc1:(d:Int)<(vt.length:Int):=KM hc1;obtain⟨v,hv⟩:∃v,vt[d]?=some v:=⟨_,bZ (by lia)⟩;obtain⟨o,ho',hvo⟩:=cB ht5 hv;rw[ho'] at hc2;obtain⟨⟨x,y,z⟩,rfl⟩:=je.mp hc2;obtain⟨th,hbd,_⟩:=hvo H5 λ_ _ _ _ e=>e;obtain⟨⟨t,rfl,hb⟩,_⟩:=th.tri;obtain⟨b1,b2,b3⟩:=hbd _ rfl;have hb:H5 t=some (.tup [.int (x:Int),.int (y:Int),.int (z:Int)]):=hb;refine⟨_,rfl,_,rfl,T0,vt,_,_,rfl,rfl,SqL.of hT5,ck hv,t,_,rfl,SqT.of hb,rfl,_,_,rfl,_,_,rfl,_,_,rfl,rfl,?_⟩;refine⟨_,rfl,_,rfl,_,rfl,lit3,λt1 H6 g1 s6 y6=>?_⟩;refine⟨_,rfl,_,rfl,_,rfl,lit3,λt2 H7 g2 s7 y7=>?_⟩;refine⟨_,rfl,_,rfl,_,rfl,lit3,λt3 H8 g3 s8 y8=>?_⟩;refine⟨lit3,λl H9 g4 s9 y9=>?_⟩;have sm:=((s6.trans s7).trans s8).trans s9;have hp9:=sm _ _ y5;have hT9:=sm _ _ hT5;have nl:l≠p:=λz=>by rw[z,((s6.trans s7).trans s8) _ _ y5] at g4;cases g4
   refine⟨_,rfl,p,q5,3,rfl,hp9,pok5,by decide,by decide +kernel,λH10 k10 y10=>?_⟩;obtain⟨dp1,dp2⟩:=cA (q:=q5) (b:=3) (by decide);obtain⟨tr,X,Y,Z_,hat,htr,hX,hY,hZ⟩:∃(tr:Addr) (X Y Z_:Nat),atI [V.ref t1,.ref t2,.ref t3] (digO q5 3)=some (.ref tr)/\H9 tr=some (.tup [.int (X:Int),.int (Y:Int),.int (Z_:Int)])/\X<10 ^ 60/\Y<10 ^ 60/\Z_<10 ^ 60:=by
    obtain h|h|h:digO q5 3=(0:Nat)\/digO q5 3=(1:Nat)\/digO q5 3=(2:Nat):=by lia
    .rw[h];exact⟨t1,x,y,z,ck rfl,s9 _ _ (s8 _ _ (s7 _ _ y6)),b1,b2,b3⟩
    .rw[h];exact⟨t2,y,z,x,ck rfl,s9 _ _ (s8 _ _ y7),b2,b3,b1⟩
    .rw[h];exact⟨t3,z,x,y,ck rfl,s9 _ _ y8,b3,b1,b2⟩
   refine⟨l,_,_,_,rfl,rfl,SqL.of ((k10 l nl).trans y9),hat,?_⟩;have hT10:=(k10 T0 nTp).trans hT9;obtain⟨e1,e2⟩:=cA (q:=nxt q5 3) (b:=(vt.length:Int)+1) (by lia);refine⟨_,rfl,.inl ⟨rfl,_,SqL.of hT10⟩,_,rfl,_,rfl,T0,vt,rfl,.inl (SqL.of hT10),_,_,rfl,rfl,p,nxt q5 3,_,rfl,y10,a9 pok5,by lia,lg20 (by lia),λH11 k11 y11=>?_⟩;obtain⟨m,hm⟩:∃m:Nat,digO (nxt q5 3) ((vt.length:Int)+1)=(m:Int):=⟨_,(dM e1).symm⟩;rw[hm] at e2 |-;have hT11:=(k11 T0 nTp).trans hT10;refine⟨_,rfl,T0,vt,m,_,rfl,rfl,hT11,by lia,by lia,λH12 k12 y12=>?_⟩;have b9:cR p T0 H9 H12:=λb o n1 n2 e=>(k12 b n2).trans ((k11 b n1).trans ((k10 b n1).trans e));exact fin_ins m _ _ _ H12 (cR.trans (.of sm) b9) ((k12 p (av nTp)).trans y11) (a9 (a9 pok5)) y12 ((tg3 hp9 hT9 htr hX hY hZ).but b9)
  |false=>
   refine aP ⟨_,rfl,rfl,_,rfl,?_⟩;by_cases h2:wy=2
   .subst h2;refine a6 ?_;refine⟨_,rfl,T0,rfl,⟨_,SqL.of hT5⟩,λZ_ hZ=>eF (K:=[]) (a:=T0) (xs:=vt) (λi Z ys H'=>∃o,Z=[o]/\Same H5 H'/\H' Z_=some (.lst ys)/\aG H5 ys ((os.take i).filterMap id)/\ys.length<=i) ⟨none,rfl,cu hZ,aO,.nil,ar _⟩ (by rintro i Z ys H' _ ⟨_,_,e,_⟩;exact SqL.of (e _ _ hT5)) ?_ ?_⟩
    .rintro i x Z ys H' hi ⟨o,rfl,sm,hZ',tr,lys⟩;obtain⟨o',hs,hx⟩:=cB hth5 hi;have hil:=(aJ.mp hs).1;refine⟨_,rfl,x,o',rfl,hx.same sm,o'.isSome,rfl,?_⟩;have et:(os.take (i+1)).filterMap id=(os.take i).filterMap id++o'.toList:=by
      rw[bV,hs,List.filterMap_append];cases o'<;>rfl
     cases o' with
     |none=>exact aP ⟨_,rfl,sm,hZ',by rw[et,Option.toList_none,eL];exact tr,Nat.le_succ_of_le lys⟩
     |some t=>exact a6 ⟨_,rfl,hZ',by lia,λHn kn yn=>⟨_,rfl,λb o e=>(kn b (ak e hZ)).trans (sm _ _ e),yn,by rw[et];exact dz tr (.cons hx.tri.1 .nil),by rw[aZ,cM];lia⟩⟩
    .rintro Z ys H6 ⟨o,rfl,s6,hZ',tr,lys⟩;have e1:os.take vt.length=os:=by rw[lvt,c7]
     rw[e1] at tr;have ltr:=aN tr;refine⟨Z_,ys,_,rfl,hZ',tr.same s6,by lia,λL cs H7 hL0 s7 y7 hcs lcs=>?_⟩;refine⟨lit3,λl1 H8 g8 s8 y8=>?_⟩;have lc:(nV cs).length<=600:=by rw[bq];lia
     refine⟨L,l1,_,_,rfl,rfl,s8 _ _ y7,y8,by show (nV cs).length+3<=sizeLine;lia,λl2 H9 g9 s9 y9=>?_⟩;have y9:H9 l2=some (.lst (nV (cs++[0,1,2]))):=by rw[y9,<-eQ];rfl
     have s59:=((s6.trans s7).trans s8).trans s9;have bcs:∀c∈cs++[0,1,2],c<10 ^ 60:=λc hc=>by
      rcases bh.mp hc with hc|hc
      .obtain⟨t,ht',hc'⟩:=fV.mp ((hcs.2 c).mp hc);obtain⟨o',ho',e⟩:=pq.mp ht';obtain⟨b1,b2,b3⟩:=qC ht5 t (by rw[<-show o'=some t from e];exact ho');simp at hc';rcases hc' with rfl|rfl|rfl
       .exact b1
       .exact b2
       .exact b3
      .simp at hc;have:(3:Nat)<10 ^ 60:=by decide
       lia
     have lcs3:(cs++[0,1,2]).length<=603:=by rw[aZ];rw[bq] at lc;simp;lia
     have pcs:0<(cs++[0,1,2]).length:=by rw[aZ];simp
     generalize cs++[0,1,2]=zs at *;have hp9:=s59 _ _ y5;have hT9:=s59 _ _ hT5;have nl2:l2≠p:=λz=>by rw[z,((s6.trans s7).trans s8) _ _ y5] at g9;cases g9
     refine⟨_,rfl,.inl ⟨rfl,_,SqL.of hT9⟩,_,rfl,3,rfl,by decide,by decide,λY hY=>Ae (lo:=0) (n:=3) (λi Z ys H'=>∃o ns q',Z=[o,some (.ref l2),some (.ref p)]/\But p H9 H'/\H' p=some (.lst (bo q'))/\bu q'/\H' Y=some (.lst ys)/\ys=nV ns/\ns.length=i/\∀n∈ns,n<10 ^ 60)
      ⟨none,[],q5,rfl,But.refl.same (cu hY),cu hY _ _ hp9,pok5,aO,rfl,rfl,by simp⟩ ?_ ?_⟩
     .rintro i Z ys H' hi ⟨o,ns,q',rfl,bt,hp',pok',hY',rfl,lns,bns⟩;have hl2:=bt _ _ nl2 y9;obtain⟨x1,x2⟩:=cA (q:=q') (b:=((nV zs).length:Int)) (by rw[bq];lia);refine⟨_,rfl,_,rfl,_,rfl,l2,_,rfl,.inl (SqL.of hl2),p,q',_,rfl,hp',pok',by rw[bq];lia,iF (by rw[bq];lia) (by rw[bq];exact rK (show (zs.length:Int)<=603 by lia) (by decide)),λH10 k10 y10=>?_⟩;obtain⟨j,hj⟩:∃j:Nat,digO q' ((nV zs).length:Int)=(j:Int):=⟨_,(dM x1).symm⟩;rw[hj] at x2 |-;rw[bq] at x2;obtain⟨n,hn⟩:∃n,zs[j]?=some n:=⟨_,bZ (by lia)⟩;have hv:(nV zs)[j]?=some (.int (n:Int)):=by rw[nV,bp,hn];rfl
      have nYp:Y≠p:=λz=>by rw[z,hp9] at hY;cases hY
      refine⟨l2,_,_,_,rfl,rfl,SqL.of ((k10 l2 nl2).trans hl2),ck hv,(k10 Y nYp).trans hY',by rw[bq];lia,λHn kn yn=>⟨_,ns++[n],_,rfl,λb o nb e=>(kn b (ak e hY)).trans ((k10 b nb).trans (bt _ _ nb e)),(kn p (av nYp)).trans y10,a9 pok',yn,by rw[<-eQ];rfl,by rw[aZ,lns];rfl,λm hm=>?_⟩⟩;rcases bh.mp hm with hm|hm
      .exact bns m hm
      .rw[aV.mp hm];exact bcs n (bE hn)
     .rintro Z ys H' ⟨o,ns,q',rfl,bt,hp',pok',hY',rfl,lns,bns⟩;refine⟨Y,_,rfl,.inl ⟨SqL.of hY',λt ht=>?_⟩⟩;walk_at"H' t ht H10 s10 y10";have hT':=bt _ _ nTp hT9;refine⟨T0,vt,d,_,rfl,rfl,s10 _ _ hT',hdl,by lia,λH11 k11 y11=>?_⟩;have b10:cR p T0 H10 H11:=λb o n1 n2 e=>(k11 b n2).trans e;have b5:cR p T0 H5 H10:=λb o n1 n2 e=>s10 _ _ (bt _ _ n1 (s59 _ _ e))
      match ns,lns,bns,y10 with
      | [x,y,z],_,bns,y10=>exact fin_ins d _ _ _ H11 (b5.trans b10) ((k11 p (av nTp)).trans (s10 _ _ hp')) pok' y11 ((tg3 (s10 _ _ hp') (s10 _ _ hT') y10 (bns x (by simp)) (bns y (by simp)) (bns z (by simp))).but b10)
   rw[show decide (V.int wy=V.int 2)=false from KL λz=>h2 (V.int.inj z)];refine aP ⟨_,rfl,_,rfl,T0,vt,rfl,.inl (SqL.of hT5),_,_,rfl,rfl,_,rfl,ite2 (λh=>?_) λh=>?_⟩
   .have h:(d:Int)<(vt.length:Int):=KM h;have hdl:d<vt.length:=by lia
    obtain⟨v,hv⟩:∃v,vt[d]?=some v:=⟨_,bZ hdl⟩;refine⟨_,rfl,.inl ⟨rfl,_,SqL.of hT5⟩,_,rfl,T0,vt,(d:Int),d,v,rfl,rfl,hT5,by lia,by lia,qp hdl,hv,λH6 k6 y6=>?_⟩;have b56:cR p T0 H5 H6:=λb o n1 n2 e=>(k6 b n2).trans e;exact Qq _ (os.eraseIdx d) q5 H6 (bt5.trans b56) ((k6 p (av nTp)).trans y5) pok5 y6 (p0 d (ht5.but b56)) (cF (List.length_eraseIdx_le ..) (jd _))
   .exact Qq vt os q5 H5 bt5 y5 pok5 hT5 ht5 (jd _)
end
def Ak (K:W.Frag) (vs:List V) (H:Hp) (Q:VK) (x C:Addr) (v:V) (d:PyData):Prop:=vs=[.ref x,v]/\H x=some (a7 x C none)/\ia K C=true/\dI K C "kind"/\
 (Dt [] H v d/\d.showable=true/\d.depth<=60/\d.shown.length<=10000)/\∀dx,H dx=none->dx≠x->Q .non (upd (upd H x (a7 x C (some dx))) dx (.xd [("kind",v)]))
def uJ (K:W.Frag):Sp:=λvs H Q _=>Exists (Ex4 (Ak K vs H Q))
section
theorem Bz:bc ["self","kind"] ["self","kind"] (aE gL):=by walk_at"sc"
theorem AE {f S:Addr} (U:Fun K "__init__" "Spoilt.__init__" gL f fd) (mS:mg "ShapeError" = some (.ref S)) (b:BInit K S):ag P w K mg base CX0 1 f fd ["self","kind"] (uJ K):=by
 refine U.ok Bz (λvs H Q E h=>?_) (λcdv A outer s H vs Q E hr h=>?_)
 .obtain⟨x,C,v,d,rfl,_⟩:=h;rfl
 .obtain⟨x,C,v,d,rfl,hx,ho,hf,⟨d1,d2,d3,d4⟩,q⟩:=h;refine⟨_,ah (cU (p6 rfl mS b (aa (pv 0) (aa (n8 (fZ cw (fZ (qy hr.units hr.gu (pv 1)) oA))) ae)))) (ao (qu (pv 0) (pv 1) rfl)),?_⟩;have l0:(Str.empty++("the deed leaves no skin: " : Str)).length<=40:=by decide +kernel
  have hz:10040<=sizeLine:=by rw[dv];lia
  have l1:((Str.empty++("the deed leaves no skin: " : Str))++d.shown).length<=sizeLine:=by rw[eN];lia
  refine⟨_,rfl,_,rfl,by lia,_,rfl,d,d1,d2,d3,by lia,_,rfl,l1,l1,x,C,_,rfl,hx,ho,by show 1<=sizeLine;lia,?_⟩;exact⟨_,rfl,_,rfl,x,C,rfl,hx,hf,λdx h1 h2=>q dx h1 h2⟩
end
def Al (K:W.Frag) (vs:List V) (H:Hp) (Q:VK) (x C:Addr) (v:V) (d:PyData):Prop:=vs=[.ref x,v]/\H x=some (a7 x C none)/\ia K C=true/\dI K C "at"/\
 (Dt [] H v d/\d.showable=true/\d.depth<=60/\d.shown.length<=10000)/\∀dx,H dx=none->dx≠x->Q .non (upd (upd H x (a7 x C (some dx))) dx (.xd [("at",v)]))
def uK (K:W.Frag):Sp:=λvs H Q _=>Exists (Ex4 (Al K vs H Q))
section
theorem BA:bc ["self","at"] ["self","at"] (aE gO):=by walk_at"sc"
theorem AF {f S:Addr} (U:Fun K "__init__" "NoWord.__init__" gO f fd) (mS:mg "ShapeError" = some (.ref S)) (b:BInit K S):ag P w K mg base CX0 1 f fd ["self","at"] (uK K):=by
 refine U.ok BA (λvs H Q E h=>?_) (λcdv A outer s H vs Q E hr h=>?_)
 .obtain⟨x,C,v,d,rfl,_⟩:=h;rfl
 .obtain⟨x,C,v,d,rfl,hx,ho,hf,⟨d1,d2,d3,d4⟩,q⟩:=h;refine⟨_,ah (cU (p6 rfl mS b (aa (pv 0) (aa (n8 (fZ cw (fZ (qy hr.units hr.gu (pv 1)) oA))) ae)))) (ao (qu (pv 0) (pv 1) rfl)),?_⟩;have l0:(Str.empty++("no word, at letter " : Str)).length<=40:=by decide +kernel
  have hz:10040<=sizeLine:=by rw[dv];lia
  have l1:((Str.empty++("no word, at letter " : Str))++d.shown).length<=sizeLine:=by rw[eN];lia
  refine⟨_,rfl,_,rfl,by lia,_,rfl,d,d1,d2,d3,by lia,_,rfl,l1,l1,x,C,_,rfl,hx,ho,by show 1<=sizeLine;lia,?_⟩;exact⟨_,rfl,_,rfl,x,C,rfl,hx,hf,λdx h1 h2=>q dx h1 h2⟩
end
end K15
end
section
namespace L2
open PySem PySem.Spec PyProof.Rows
section
theorem tV:∀{cs:List Addr} {us:List Value},Vals (cs.map V.ref) us->us=cs.map Value.ref
 | [],_,r=>by cases r;rfl
 |c::cs,_,r=>by
  rw[a8] at r;cases r with
  |cons h t=>
   rw[a8,<-tV t];cases (show _=Value.ref c from h);rfl
end
end L2
end
section
namespace L2
open PySem PySem.Spec PyProof.Rows PySem.W
section
variable {prog:Program} {x D:Addr} {ox:Obj} {od:Option Obj}
theorem Ac {Q:Option Value->Shared->Prop} (X:K.In s.heap) (c:fP K D) (I:W.InstAt s.heap x ox D od) (h:Q (some (.ref D)) {s with toks:=s.toks+1}):wpAny (model prog w) A (getAttr? (.ref x) "__class__") Q E s:=by
 obtain⟨hh,g,d,t,os⟩:=s;have L0:=I.type (M:=model prog w);have L1:=sJ (M:=model prog w) X c.ga;have L2:=sJ (M:=model prog w) X c.ha;have hf:findObj K D od "__class__" = some (.bind (.builtin "getset_descriptor.__get__") (.builtin "object.__class__")):=by obtain⟨cd,hc⟩:=je.mp c.cd;unfold findObj;rw[hc,Iv,c.cl,Iv];simp[c.gt,c.tk]
 have L3:=looks_find (M:=model prog w) X I hf;have L4:=looks_mroIn (M:=model prog w) X c.mb;have hx2:(onTheHeap (Value.ref D)&&Value.builtin "BaseException.__getattribute__"==Value.builtin "object.__getattribute__")=false:=by
  have:(Value.builtin "BaseException.__getattribute__"==Value.builtin "object.__getattribute__")=false:=by decide +kernel
  rw[this];rfl
 unfold getAttr? getAttrBy? getAttrBy;refine af (wpAny_mkText (af (jg (eg (af (L0.at (af (L1.at ?_))))))));dsimp only;rw[hx2];show wpAny _ _ (getAttrByItsOwn _ _ _ _ _ _) _ _ _;unfold getAttrByItsOwn hookBefore;refine af ?_;show wpAny _ _ (typeLookup (.ref D) "__getattr__") _ _ _;refine L2.at (af (jg (eg ?_)));show wpAny _ _ (boundAndCalled _ _ _) _ _ _;unfold boundAndCalled;rw[F.excAttr_ValueError.ga.bind (.ref x)];refine af (aq ?_);refine iC (sI F.excAttr_ValueError.ga.plain F.entry_bexc_ga ?_);have hk:builtinKind "BaseException.__getattribute__" = some .slot:=by decide +kernel
 have hsplit:splitId "BaseException.__getattribute__" = some ("BaseException","__getattribute__"):=by decide +kernel
 have ha:=F.args_bexc_ga (.ref x) (.str "__class__" t);have LI:Looks (model prog w) hh (isInstance (.ref x) (.type "BaseException")) true:=L0.andThen L4;have chk:∀(A:Around) (E:Value->Shared->Prop) (Q:Unit->Shared->Prop),Q () ⟨hh,g,d,t+1,os⟩->wpAny (model prog w) A (checkBuiltinCall "BaseException.__getattribute__" ⟨[.ref x,.str "__class__" t],[]⟩) Q E ⟨hh,g,d,t+1,os⟩:=by
  intro A E Q hq;simp only[checkBuiltinCall,hk,hsplit];refine af (LI.at ?_)
  repeat (any_goals (first|assumption|wp_step))
 refine chk _ _ _ ?_;unfold Builtin.«object.__getattribute__»;refine af (m:=slotArgs _ _ _) (kd (a:=(.ref x,[.str "__class__" t])) rfl ?_);refine af (kd (a:=("__class__" : Str)) rfl ?_);refine af (L0.at (af (L3.at ?_)));show wpAny _ _ (Builtin.ObjectAttr.bindTo (.builtin "getset_descriptor.__get__") (.builtin "object.__class__") (.ref x) (.ref D)) _ _ _;unfold Builtin.ObjectAttr.bindTo;dsimp only;refine af (eg (iC (class_get (s:=⟨hh,g,d,t+1,os⟩) X I c.mo ?_)));exact aq (handed_on rfl (aq h))
theorem pU (c:fP K D):W.KitX K (.ref x) (.ref D) (λh=>∃ox od,W.InstAt h x ox D od) where
 ty:=λ_ _ _ ⟨_,_,I⟩=>I.type
 it:=λ_ _ X _=>by
  obtain⟨cdD,hcD⟩:=je.mp c.cd;unfold W.clsIn at hcD
  split at hcD
  .rename_i c' d' cd' sl' ho;intro A' Q' E' s' k q;unfold isType loadHead;exact af (yP (k _ _ (X _ _ ho)) (aq q))
  .cases hcD
 ne:=λh tp dd its n sl X htp=>by
  obtain⟨cdD,hcD⟩:=je.mp c.cd;refine jU.mpr λq=>?_;have e:D=tp:=Value.ref.inj (beq_iff_eq.mp q);subst e;unfold W.clsIn at hcD
  split at hcD
  .rename_i c' d' cd' sl' ho;have z:=(X _ _ ho).symm.trans htp;cases z
  .cases hcD
 ca:=λX ⟨_,_,I⟩ k=>Ac X c I k
end
end L2
end
section
namespace L2
open PySem PySem.Spec PyProof.Rows PySem.W
section
def ir (H:Hp) (x D:Addr):Prop:=H x=some (eB x (.ref D) none)\/∃d fs,H x=some (eB x (.ref D) (some d))/\H d=some (.xd fs)
theorem ir.inst {x D:Addr} (I:Inv X pins Z H s) (h:ir H x D):∃ox od,W.InstAt s.heap x ox D od:=by
 rcases h with h|⟨d,fs,h,hd⟩
 .obtain⟨⟨oe,vs,h1,h2,h3,h4,_⟩,_⟩:=(show aQ X.prog X.w H s.heap x (eB x (.ref D) none) from I.hok x _ h);refine⟨oe,none,h1,h2,?_,?_⟩
  .unfold W.notCls;rw[h4]
  .rw[h3];trivial
 .obtain⟨⟨oe,vs,h1,h2,h3,h4,_⟩,_⟩:=(show aQ X.prog X.w H s.heap x (eB x (.ref D) (some d)) from I.hok x _ h);obtain⟨mA,hns,hr⟩:=(show aQ X.prog X.w H s.heap d (.xd fs) from I.hok d _ hd);obtain⟨od,hod,hl⟩:=kq hns;refine⟨oe,some od,h1,h2,?_,?_⟩
  .unfold W.notCls;rw[h4]
  .rw[h3];exact hod
theorem ir.same {x D:Addr} (s:Same H H') (h:ir H x D):ir H' x D:=by
 rcases h with h|⟨d,fs,h,hd⟩
 .exact .inl (s _ _ h)
 .exact .inr ⟨d,fs,s _ _ h,s _ _ hd⟩
def Gy (K:W.Frag) (y:V) (c:Value):List V->Hp->VK->Prop:=λxs H Q=>∃(x D:Addr) (b:Bool),xs=[.ref x,y]/\ir H x D/\fP K D/\W.kitOne K (.ref D) c=some b/\Q (.bl b) H
theorem ku {y:V} {c:Value} (hy:∀u,ax y u->u=c):cL X (.builtin "isinstance") (Gy X.K y c):=by intro pins s Z H xs us Q I r h;obtain⟨x,D,b,rfl,hx,hc,e,q⟩:=h;obtain⟨u,w',rfl,ru,rw'⟩:=vals2 r;cases (show u=Value.ref x from ru);cases hy w' rw';exact eY (pU hc) I.kIn (hx.inst I) e (λz=>nomatch z) λtk=>⟨.bl b,H,I.tok _,rfl,q⟩
def EU (K:W.Frag):List V->Hp->VK->Prop:=λxs H Q=>∃(x D tp:Addr) (cs:List Addr) (b:Bool),xs=[.ref x,.ref tp]/\ir H x D/\fP K D/\H tp=some (.tup (cs.map V.ref))/\W.kitAny K (.ref D) (cs.map Value.ref)=some b/\Q (.bl b) H
theorem tT:cL X (.builtin "isinstance") (EU X.K):=by
 intro pins s Z H xs us Q I r h;obtain⟨x,D,tp,cs,b,rfl,hx,hc,ht,e,q⟩:=h;obtain⟨u,w',rfl,ru,rw'⟩:=vals2 r;cases (show u=Value.ref x from ru);cases (show w'=Value.ref tp from rw');obtain⟨its,rv,⟨o,e1,c1,n,d1⟩,_⟩:=I.tuple (SqT.of ht);have ei:=tV rv;subst ei;have htp:s.heap.get? tp=some ⟨.type "tuple",o.dict,.seq (cs.map Value.ref).toArray n,o.slots⟩:=by rw[e1];cases o;simp only at c1 d1;subst c1 d1;rfl
 exact W.kia_tup (pU hc) I.kIn (hx.inst I) htp e (λz=>nomatch z) λtk=>⟨.bl b,H,I.tok _,rfl,q⟩
end
end L2
end
section
namespace K15
open PySem L2 K51 K31
def eW (H:Hp) (a:Addr):Option Flt->Prop
 |none=>H a=some (.tup [.str "taken"])
 |some fl=>dC H a fl
structure Knd (K:W.Frag) (D S cn cm:Addr) (gs tw:List Addr) (isN:Bool):Prop where
 xc:fP K D
 cls:∃bm,clsIn K D=some bm/\(Value.ref D::bm).contains (.ref S)=true
 odd:W.kitAny K (.ref D) (gs.map Value.ref)=some false
 two:W.kitAny K (.ref D) (tw.map Value.ref)=some false
 val:W.kitOne K (.ref D) (.type "ValueError")=some true
 nos:W.kitOne K (.ref D) (.ref cn)=some isN
 too:W.kitOne K (.ref D) (.ref cm)=some (!isN)
def Aq (K:W.Frag) (vs:List V) (H:Hp) (Q:VK) (T:Addr) (vt:List V) (os:List (Option Tri)):Prop:=vs=[.ref T]/\H T=some (.lst vt)/\gp K H vt os/\os.length<=400/\(∀t,some t∈os->t.1<10 ^ 60/\t.2.1<10 ^ 60/\t.2.2<10 ^ 60)/\
 ∀o a H',fj os o->SmF os H H'->eW H' a o->Q (.ref a) H'
def uO (K:W.Frag):Sp:=λvs H Q _=>Exists (Ex3 (Aq K vs H Q))
theorem C5 {x dx:Addr} {Cs:Addr} (h1:H x=none) (h2:H dx=none) (s:SmB x (upd (upd H dx (.own x)) x (.ins Cs dx [])) H'):Sm H H':=λb o e=>by
 have n1:=ak e h1;have n2:=ak e h2;exact s b o n1 (by rw[aj n1,aj n2];exact e)
theorem Au {x dx:Addr} {Cs:Addr} (h1:H x=none) (h2:H dx=none):Same H (upd (upd H dx (.own x)) x (.ins Cs dx [])):=λb o e=>by
 rw[aj (ak e h1),aj (ak e h2)];exact e
theorem SmF.trans {os:List (Option Tri)} {H H1 H2:Hp} (a:SmF os H H1) (b:SmF os H1 H2):SmF os H H2:=⟨a.1.trans b.1,λz=>(a.2 z).trans (b.2 z)⟩
theorem dC.same {a:Addr} (s:Same H H'):∀{fl:Flt},dC H a fl->dC H' a fl
 |.many,h=>s _ _ h
 |.triple _,h=>s _ _ h
 |.side _ _ _,⟨u,h1,h2⟩=>⟨u,s _ _ h1,s _ _ h2⟩
 |.round _,h=>s _ _ h
theorem zA {C CM:Addr} {fl:Flt} {c:Value} {d:Option Addr} (h:Refuses C CM H fl c d):c=.ref CM/\d=none/\fl=.many\/c=.ref C/\∃d0 t,d=some d0/\H d0=some (.xd [("fault",.ref t)])/\dC H t fl:=by
 cases fl with
 |many=>exact .inl ⟨h.1,h.2,rfl⟩
 |triple k=>obtain⟨h1,d0,h2,t,h3,h4⟩:=h;exact .inr ⟨h1,d0,t,h2,h3,h4⟩
 |side k m n=>obtain⟨h1,d0,h2,t,u,h3,h4,h5⟩:=h;exact .inr ⟨h1,d0,t,h2,h3,u,h4,h5⟩
 |round k=>obtain⟨h1,d0,h2,t,h3,h4⟩:=h;exact .inr ⟨h1,d0,t,h2,h3,h4⟩
section
theorem iS:bc ["_law_things","_law_told_here","_law_e","_law_strange"] ["_law_things"] (aE kK):=by walk_at"sc"
theorem AK {f f1 Cs C CM S g1 g2 g3 g4 g5 g6 g7 g8 g9 g10 h1 h2:Addr} {fd d1:FuncData} (U:Fun K "_law_answer" "_law_answer" kK f fd) (T:cH mg) (M:Mk K Cs f1) (mC:mg "Skin" = some (.ref Cs)) (G:ag P w K mg base (CX1 P w) 5 f1 d1 ["self","triples"] (vF K Cs C CM)) (b1:Binds K d1 ["self","triples"] [])
  (mS:mg "ShapeError" = some (.ref S)) (cS:∃bm,clsIn K S=some bm/\bm.contains (.type "BaseException")=true) (mN:mg "NoSkin" = some (.ref C)) (mM:mg "TooMany" = some (.ref CM))
  (m1:mg "Gone" = some (.ref g1)) (m2:mg "NoCaps" = some (.ref g2)) (m3:mg "NoCode" = some (.ref g3)) (m4:mg "NoCorner" = some (.ref g4)) (m5:mg "NoDeed" = some (.ref g5)) (m6:mg "NoLetter" = some (.ref g6)) (m7:mg "NoPast" = some (.ref g7)) (m8:mg "NoSide" = some (.ref g8)) (m9:mg "NoText" = some (.ref g9)) (m10:mg "NoWord" = some (.ref g10))
  (n1:mg "Spoilt" = some (.ref h1)) (n2:mg "Taken" = some (.ref h2)) (xf:dI K C "fault")
  (kN:Knd K C S C CM [g1,g2,g3,g4,g5,g6,g7,g8,g9,g10] [h1,h2] true) (kM:Knd K CM S C CM [g1,g2,g3,g4,g5,g6,g7,g8,g9,g10] [h1,h2] false) :
  ag P w K mg base CX0 7 f fd ["_law_things"] (uO K):=by
 refine U.ok iS (λvs H Q E h=>?_) (λcdv A outer s H vs Q E hr h=>?_)
 .obtain⟨T,vt,os,rfl,_⟩:=h;rfl
 .obtain⟨T0,vt,os,rfl,hT,ht,hl,hbd,q⟩:=h;obtain⟨bm,hcl,hbm⟩:=cS;refine⟨_,ah (az (i:=1) iS.nd rfl (.inl rfl) (aI (aa cw ae)))
   (ah (EW (i:=2) ⟨rfl,rfl⟩ rfl iS.nd rfl rfl rfl mS hcl hbm
    (λpins xe E hp hl=>ao (cU (Ds M G hr rfl mC b1 .nil hp (aa (pv 0) ae))))
    (λx=>ah (az (i:=1) iS.nd rfl (.inl rfl) (aI (aa cw ae)))
     (ah (az (i:=3) iS.nd rfl (.inl rfl) (aL tT (by rfl) T.isi du (aa (pv 2) (aa (aI (aa (cJ (v:=.ref g1) rfl m1 rfl) (aa (cJ (v:=.ref g2) rfl m2 rfl) (aa (cJ (v:=.ref g3) rfl m3 rfl) (aa (cJ (v:=.ref g4) rfl m4 rfl) (aa (cJ (v:=.ref g5) rfl m5 rfl) (aa (cJ (v:=.ref g6) rfl m6 rfl) (aa (cJ (v:=.ref g7) rfl m7 rfl) (aa (cJ (v:=.ref g8) rfl m8 rfl) (aa (cJ (v:=.ref g9) rfl m9 rfl) (aa (cJ (v:=.ref g10) rfl m10 rfl) ae))))))))))) ae))))
     (ah (br (PW.pt (fq (cQ (pv 3)) (fq (cQ (aL tT (by rfl) T.isi du (aa (pv 2) (aa (aI (aa (cJ (v:=.ref h1) rfl n1 rfl) (aa (cJ (v:=.ref h2) rfl n2 rfl) ae))) ae)))) (iO (eA (cQ (aL (ku (y:=.ty "ValueError") (c:=.type "ValueError") (λ_ e=>e)) (by rfl) T.isi du (aa (pv 2) (aa (g_ (v:=.ty "ValueError") rfl T.ve rfl rfl) ae)))))))))
      (ao (aX (pv 1))) bK)
     (ah (br (PW.pt (gg (cQ (aL (ku (y:=.ref CM) (c:=.ref CM) (λ_ e=>e)) (by rfl) T.isi du (aa (pv 2) (aa (cJ (v:=.ref CM) rfl mM rfl) ae)))) (gZ (eA (cQ (aL (ku (y:=.ref C) (c:=.ref C) (λ_ e=>e)) (by rfl) T.isi du (aa (pv 2) (aa (cJ (v:=.ref C) rfl mN rfl) ae))))))))
      (ao (az (i:=1) iS.nd rfl (.inl rfl) (aI (aa cw ae)))) bK)
     (ao (br (PW.pt (gg (cQ (aL (ku (y:=.ref C) (c:=.ref C) (λ_ e=>e)) (by rfl) T.isi du (aa (pv 2) (aa (cJ (v:=.ref C) rfl mN rfl) ae)))) (gZ (eA (cQ (aL (ku (y:=.ref CM) (c:=.ref CM) (λ_ e=>e)) (by rfl) T.isi du (aa (pv 2) (aa (cJ (v:=.ref CM) rfl mM rfl) ae))))))))
      (ao (az (i:=1) iS.nd rfl (.inl rfl) (Dr (pv 2) rfl))) bK)))))))
   (ao (aX (pv 1)))),?_⟩
  refine⟨lit1,λt0 H1 g0 s1 y1=>?_⟩;refine⟨λcls d H'=>∃fl,fj os (some fl)/\SmF os H1 H'/\Refuses C CM H' fl cls d,?_,?_⟩
  .refine⟨_,rfl,λx dx hx hdx hne=>?_⟩;have sm0:=Au (Cs:=Cs) hx hdx;refine⟨x,dx,T0,vt,os,rfl,aO,sm0 _ _ (s1 _ _ hT),(ht.same s1).same sm0,hl,hbd,λH' fi sm=>⟨rfl,_,rfl,?_⟩,λfl c d H' fi sm rf=>⟨fl,fi,(SmF.same sm0).trans sm,rf⟩⟩;have sm':=C5 hx hdx sm;refine q none t0 H' fi ⟨(Sm.of s1).trans sm',λz=>?_⟩ (sm'.keep y1 (λz=>z));obtain⟨_,ts,rfl,_⟩:=fi;exact absurd z p9
  .rintro cls d H2 ⟨fl,fi,sm,rf⟩;obtain⟨D,isN,rfl,kn,hf,htr⟩:∃D isN,cls=.ref D/\Knd K D S C CM [g1,g2,g3,g4,g5,g6,g7,g8,g9,g10] [h1,h2] isN/\(isN=false->d=none/\fl=.many)/\(isN=true->D=C/\∃d0 t,d=some d0/\H2 d0=some (.xd [("fault",.ref t)])/\dC H2 t fl):=by
    rcases zA rf with ⟨e1,e2,e3⟩|⟨e1,d0,t,e2,e3,e4⟩
    .exact⟨CM,false,e1,kM,λ_=>⟨e2,e3⟩,λz=>nomatch z⟩
    .exact⟨C,true,e1,kN,(λz=>nomatch z),λ_=>⟨rfl,d0,t,e2,e3,e4⟩⟩
   obtain⟨xc,⟨bmD,hcD,hsub⟩,odd,two,val,nos,too⟩:=kn;refine⟨D,bmD,rfl,hcD,hsub,λx hx=>?_⟩;have s2:=cu (o:=eB x (.ref D) d) hx;have ha:ir (upd H2 x (eB x (.ref D) d)) x D:=by
    cases isN with
    |false=>obtain⟨rfl,_⟩:=hf rfl;exact .inl aO
    |true=>obtain⟨_,d0,t,rfl,e,_⟩:=htr rfl;exact .inr ⟨d0,_,aO,s2 _ _ e⟩
   refine⟨lit1,λt1 H4 g4' s4 y4=>?_⟩;refine⟨_,rfl,lit10,λtp H5 g5' s5 y5=>?_⟩;refine⟨x,D,tp,[g1,g2,g3,g4,g5,g6,g7,g8,g9,g10],false,rfl,(ha.same s4).same s5,xc,y5,odd,?_⟩;refine⟨_,rfl,_,rfl,aP ⟨_,rfl,lit2,λtp2 H6 g6' s6 y6=>?_⟩⟩;have s26:=((s2.trans s4).trans s5).trans s6;have ha6:=((ha.same s4).same s5).same s6;refine⟨x,D,tp2,[h1,h2],false,rfl,ha6,xc,y6,two,_,rfl,aP ⟨_,rfl,x,D,true,rfl,ha6,xc,val,_,rfl,iY ?_⟩⟩;cases isN with
   |false=>
    obtain⟨rfl,rfl⟩:=hf rfl;refine⟨_,rfl,x,D,true,rfl,ha6,xc,too,_,rfl,a6 ⟨_,rfl,x,D,false,rfl,ha6,xc,nos,_,rfl,jO ?_⟩⟩;refine⟨lit1,λt2 H7 g7' s7 y7=>?_⟩;refine⟨_,rfl,x,D,false,rfl,ha6.same s7,xc,nos,_,rfl,aP (aP ?_)⟩;exact⟨_,rfl,q (some .many) t2 H7 fi (((SmF.same s1).trans sm).trans (.same (s26.trans s7))) y7⟩
   |true=>
    obtain⟨rfl,d0,t,rfl,e1,e2⟩:=htr rfl;refine⟨_,rfl,x,D,false,rfl,ha6,xc,too,_,rfl,aP (aP ?_)⟩;refine⟨_,rfl,x,D,true,rfl,ha6,xc,nos,_,rfl,a6 ⟨_,rfl,x,D,false,rfl,ha6,xc,too,_,rfl,jO ?_⟩⟩;refine⟨_,rfl,x,D,d0,_,_,rfl,((s4.trans s5).trans s6) _ _ aO,s26 _ _ e1,xc,xf,rfl,?_⟩;exact⟨_,rfl,q (some fl) t H6 fi (((SmF.same s1).trans sm).trans (.same s26)) (e2.same s26)⟩
end
end K15
end
section
namespace L2
open PySem PySem.Spec PyProof.Rows PySem.W
section
theorem uz (h:Heap):∀{bs:List Bool} {us:List Value},Vals (bs.map V.bl) us->∃as,ReadsAll h us (bs.map PyData.bool) as
 | [],_,r=>by cases r;exact⟨_,.nil⟩
 |b::bs,_,r=>by
  rw[a8] at r;cases r with
  |cons hh t=>
   obtain⟨as,q⟩:=uz h t;cases (show _=Value.bool b from hh);exact⟨_,.cons (.bool b) q⟩
def Dm:V->List V->Hp->VK->Prop:=λx vs H Q=>∃(a:Addr) (bs:List Bool) (b:Bool),x=.ref a/\vs=[.bl b]/\H a=some (.lst (bs.map V.bl))/\Q (.int (bs.count b:Nat)) H
theorem A8 (bs:List Bool) (b:Bool):(Spec.countIn (.bool b) (bs.map PyData.bool):Int)=(bs.count b:Nat):=by
 induction bs with
 |nil=>rfl
 |cons c bs ih=>
  rw[a8,List.count_cons];show (if Spec.same (.bool c) (.bool b) then (1:Int) else 0)+Spec.countIn (.bool b) (bs.map PyData.bool)=_;rw[ih];have e:Spec.same (.bool c) (.bool b)=(c==b):=by cases b<;>cases c<;>decide
  rw[e];cases h:(c==b)<;>simp<;>lia
theorem AQ:MtM X "list.count" Dm:=by intro pins s Z H x vs v us Q I rx rv h;obtain⟨a,bs,b,rfl,rfl,hH,q⟩:=h;cases rx;obtain⟨u,rfl,ru⟩:=rv.one;cases (show u=Value.bool b from ru);obtain⟨its,r,p,hz⟩:=I.list (SqL.of hH);obtain⟨as,ra⟩:=uz s.heap r;refine count_list_bools p.isList ra (by simp[Shape.has]) ⟨.int _,H,I.tok _,⟨_,rfl⟩,?_⟩;rw[A8];exact q
end
section
variable {k:Nat} {x:Str} {C f:Addr} {ps:List Str} {sp:Sp} {np pos:Pos} {e:Expr} {es:List Expr} {t:TA}
def Ee (C:Addr) (sp:Sp) (t:TA):TE:=λZ H Q=>t Z H λvs H1=>vs.length<=sizeLine/\∀x,H1 x=none->sp (.ref x::vs) (upd H1 x (a7 x C none)) (λv H2=>v=.non/\Q (.ref x) H2) E0
theorem p5 (M:eU X.K C f) (F:ag X.prog X.w X.K X.mg X.base CX0 k f fd ps sp) (hr:Room (k+1) X.A) (hb:Binds X.K fd ps []) (hg:Gl X x) (hm:X.mg x=some (.ref C)) (ha:PA X (e::es) t)
  (he:starEach (e::es) X.env=(false,eval e X.env)::starEach es X.env:=by rfl) (hpl:(backTo pos (starEach es X.env)).any (·.1)=false:=by rfl) (hd:(x==("__debug__" : Str))=false:=by decide) :
  PE X (.Call (.Name x np) (e::es) [] pos) (Ee C sp t):=by
 intro pins s Z H Q I h;obtain⟨bm,N,nm,q',bs,hdc,sn,sub,ab,col,dd,k0,k1,k2,k3,k5,hC,T⟩:=p7 I.ok.mod.kin M.over;refine j_ (gd I hg hm ?_ hd);refine yz (h₀:=X.base) I.ok.mod.kin M.kp (thn (ha pos pins s Z H _ I h) λus s1 ⟨vs,H1,I1,r,hz,q⟩=>⟨I1.kIn,?_⟩) he hpl;obtain⟨hh,g,d,tk,os⟩:=s1;show wpAny _ _ (call (.ref C) us) _ _ _;refine ux j7 (T.keeps I1.bk) I1.kIn (I1.bk _ _ hC) M.init M.fn (λh' x' me=>?_) (by rw[<-r.length];exact hz);obtain⟨tt,hx',_,_⟩:=me.there;have hnew:hh.get? x'=none:=me.new;have hxH:H1 x'=none:=I1.hok.none_of' hnew;have hok1:HOk X.prog X.w (upd H1 x' (a7 x' C none)) h':=λb ob e=>by
  by_cases hb:b=x'
  .subst hb;rw[aO] at e;cases e;exact lq hx' rfl rfl rfl
  .rw[aj hb] at e;exact (I1.hok b ob e).stay (λc w' _ r=>me.keeps c w' r) (λc r=>by rw[aj (ak r hxH)];exact r) λc xs r=>by rw[aj (ak r hxH)];exact r
 have e0:gA X.prog X.w X.K X.mg X.base X.A X.stack ⟨h',g,d,tk,os⟩ (upd H1 x' (a7 x' C none)):=by
  have E1:=I1.env0;refine⟨E1.frames,E1.mod,λb ob e=>?_,?_,E1.funs.of_keeps λb o hb _=>⟨o,me.keeps _ _ hb,rfl⟩,λb hb=>?_,hok1,E1.bare⟩
  .obtain⟨a1,a2⟩:=E1.bs b ob e;exact⟨me.keeps _ _ a1,by rw[aj (λz=>by rw[z] at a1;have a1:hh.get? x'=_:=a1;rw[hnew] at a1;cases a1)];exact a2⟩
  .obtain⟨m,⟨o,es,ep,ho,_⟩,_⟩:=I1.loc;exact cF I1.ok.bsz (cF I1.ok.above (jc (aK (me.keeps _ _ ho))))
  .rw[aj (λz=>?_)];exact E1.frf b hb;obtain⟨_,o,ho,_⟩:=E1.funs.mem hb;rw[z] at ho;have ho:hh.get? x'=_:=ho;rw[hnew] at ho;cases ho
 have hl:(Value.ref x'::us++[]).length=ps.length:=by have e:=(show Vals (V.ref x'::vs) (Value.ref x'::us) from .cons rfl r).length;rw[F.len _ _ _ _ (q x' hxH)] at e;rw[eL];exact e.symm
 have kin':X.K.In h':=I1.kIn.keeps me.keeps;have bb:=hb ⟨h',g,d,tk,os⟩ (Value.ref x'::us) kin' hl;rw[eL] at bb;refine iC (nr (F.run _ X.stack _ _ ⟨Value.ref x'::us,[]⟩ (Value.ref x'::us) (V.ref x'::vs) _ E0 (hr.make C us []) (e0.make C us []) bb (.cons rfl r) (q x' hxH)) λr' s' hq'=>?_);cases r' with
 |error e=>exact hq'.elim
 |ok fl=>
  cases fl with
  |next=>exact hq'.elim
  |brk=>exact hq'.elim
  |cont=>exact hq'.elim
  |ret u=>
   obtain⟨v,H',os',bare',un',hok',rv,ev,q2⟩:=hq';subst ev;have os':s'.os=os:=os';refine⟨rv,?_⟩;have nx:∀b ob,hh.get? b=some ob->b≠x':=λb ob e z=>by rw[z,hnew] at e;cases e
   have nxH:∀b ob,H1 b=some ob->b≠x':=λb ob e z=>by rw[z,hxH] at e;cases e
   have un:Un (frs X.stack) [] H1 H' hh s'.heap:=
    ⟨λb ob e n hb hx=>un'.keep b ob (me.keeps _ _ e) (by rw[aj (nx b ob e)];exact n) hb hx,λb ob e n hb hx=>un'.slot b ob (me.keeps _ _ e) (by rw[aj (nx b ob e)];exact n) hb hx,
     λb ob e n hx=>un'.free b ob (me.keeps _ _ e) (by rw[aj (nx b ob e)];exact n) hx,λb ob e hx=>un'.there b ob (me.keeps _ _ e) hx,
     λb xs e=>un'.tups b xs (by rw[aj (nxH b _ e)];exact e),λb ob xs e=>un'.frzs b ob xs (by rw[aj (nxH b _ e)];exact e),λb ps e=>un'.tbls b ps (by rw[aj (nxH b _ e)];exact e)⟩
   exact⟨.ref x',H',I1.call' (ch:=[]) os' un hok' bare' (λb z=>absurd z (by simp)),rfl,q2⟩
end
end L2
end
section
namespace L2
open PySem PySem.Spec PyProof.Rows PySem.W
section
variable {e:Expr} {ta:TE} {f:Str} {pos:Pos}
def iW (H:Hp) (x D:Addr):Prop:=H x=some (a7 x D none)\/∃d fs,H x=some (a7 x D (some d))/\H d=some (.xd fs)
theorem iW.inst {x D:Addr} (I:Inv X pins Z H s) (h:iW H x D):∃ox od,W.InstAt s.heap x ox D od:=by
 rcases h with h|⟨d,fs,h,hd⟩
 .obtain⟨⟨vs,sl,t0,h1,_⟩,_⟩:=(show aQ X.prog X.w H s.heap x (a7 x D none) from I.hok x _ h);exact⟨_,none,h1,rfl,rfl,trivial⟩
 .obtain⟨⟨vs,sl,t0,h1,_⟩,_⟩:=(show aQ X.prog X.w H s.heap x (a7 x D (some d)) from I.hok x _ h);obtain⟨mA,hns,hr⟩:=(show aQ X.prog X.w H s.heap d (.xd fs) from I.hok d _ hd);obtain⟨od,hod,hl⟩:=kq hns;exact⟨_,some od,h1,rfl,rfl,hod⟩
def qY (K:W.Frag) (y:V) (c:Value):List V->Hp->VK->Prop:=λxs H Q=>∃(x D:Addr) (b:Bool),xs=[.ref x,y]/\iW H x D/\fP K D/\W.kitOne K (.ref D) c=some b/\Q (.bl b) H
theorem iG {y:V} {c:Value} (hy:∀u,ax y u->u=c):cL X (.builtin "isinstance") (qY X.K y c):=by intro pins s Z H xs us Q I r h;obtain⟨x,D,b,rfl,hx,hc,e,q⟩:=h;obtain⟨u,w',rfl,ru,rw'⟩:=vals2 r;cases (show u=Value.ref x from ru);cases hy w' rw';exact eY (pU hc) I.kIn (hx.inst I) e (λz=>nomatch z) λtk=>⟨.bl b,H,I.tok _,rfl,q⟩
def FV (K:W.Frag) (ta:TE) (f:Str):TE:=λZ H Q=>ta Z H λx H1=>∃a C dx fs v,x=.ref a/\H1 a=some (a7 a C (some dx))/\H1 dx=some (.xd fs)/\fP K C/\dI K C f/\fs.lookup f=some v/\Q v H1
theorem qx (he:PE X e ta) (hb:attributeBase e f X.env (eval e X.env)=eval e X.env):PE X (.Attribute e f pos) (FV X.K ta f):=by intro pins s Z H Q I h;refine wj hb (thn (he pins s Z H _ I h) λu s1 ⟨x,H1,I1,rx,a,C,dx,fs,v,ex,ea,ed,c,cf,l,q⟩=>?_);subst ex;obtain rfl:u=Value.ref a:=rx;obtain⟨⟨vs,sl,t0,h1,_⟩,_⟩:=(show aQ X.prog X.w H1 s1.heap a (a7 a C (some dx)) from I1.hok a _ ea);obtain⟨mA,hns,hr⟩:=(show aQ X.prog X.w H1 s1.heap dx (.xd fs) from I1.hok dx _ ed);obtain⟨od,hod,hl⟩:=kq hns;obtain⟨u',hu,ru⟩:=dB.some_of (v:=v) (o:=mA f) (by rw[<-l];exact hr f);exact v9 I1.kIn c cf ⟨h1,rfl,rfl,hod⟩ (by rw[hl f,hu]) (uu ru) ⟨v,H1,I1.tok _,ru,q⟩
end
end L2
end
section
namespace L2
open PySem PySem.Spec PyProof.Rows PySem.W
section
variable {x:Str} {C:Addr} {np pos:Pos} {e:Expr} {es:List Expr} {t:TA}
def Ed (C:Addr) (t:TA):TE:=λZ H Q=>t Z H λvs H1=>vs.length<=sizeLine/\∀x,H1 x=none->Q (.ref x) (upd H1 x (a7 x C none))
theorem uW (kp:W.keepIn X.K (.ref C)=true) (hq:W.excIn X.K C bmV "ValueError.__new__" = true) (hg:Gl X x) (hm:X.mg x=some (.ref C)) (ha:PA X (e::es) t)
  (he:starEach (e::es) X.env=(false,eval e X.env)::starEach es X.env:=by rfl) (hpl:(backTo pos (starEach es X.env)).any (·.1)=false:=by rfl) (hd:(x==("__debug__" : Str))=false:=by decide) :
  PE X (.Call (.Name x np) (e::es) [] pos) (Ed C t):=by
 intro pins s Z H Q I h;obtain⟨tl,N,nm,q',bs,hdct,sn,sub,ab,col,dd,k0,k1,k2,k3,k5,mN,hC,hN,hni,T⟩:=v8 I.mod.kin hq;refine j_ (gd I hg hm ?_ hd);refine yz (h₀:=X.base) I.ok.mod.kin kp (thn (ha pos pins s Z H _ I h) λus s1 ⟨vs,H1,I1,r,hz,q⟩=>⟨I1.kIn,?_⟩) he hpl;obtain⟨hh,g,d,tk,os⟩:=s1;show wpAny _ _ (call (.ref C) us) _ _ _;refine wpAny_call_exc_subT j7 (T.keeps I1.bk) (I1.bk _ _ hC) (hN.keeps I1.bk) hni (λh' x' me=>?_) (by rw[<-r.length];exact hz);obtain⟨tt,hx',_,_⟩:=me.there;have hnew:hh.get? x'=none:=me.new;have hxH:H1 x'=none:=I1.hok.none_of' hnew;have nxH:∀b ob,H1 b=some ob->b≠x':=λb ob e z=>by rw[z,hxH] at e;cases e
 have nx:∀b ob,hh.get? b=some ob->b≠x':=λb ob e z=>by rw[z,hnew] at e;cases e
 have hok1:HOk X.prog X.w (upd H1 x' (a7 x' C none)) h':=λb ob e=>by
  by_cases hb:b=x'
  .subst hb;rw[aO] at e;cases e;exact lq hx' rfl rfl rfl
  .rw[aj hb] at e;exact (I1.hok b ob e).stay (λc w' _ r=>me.keeps c w' r) (λc r=>by rw[aj (nxH c _ r)];exact r) λc xs r=>by rw[aj (nxH c _ r)];exact r
 have un:Un X.fs [] H1 (upd H1 x' (a7 x' C none)) hh h':=
  ⟨λb ob e _ _ _=>me.keeps _ _ e,λb ob e _ _ _=>⟨_,me.keeps _ _ e⟩,λb ob e n _=>by rw[aj (nx b ob e)];exact n,λb ob e _=>⟨_,me.keeps _ _ e⟩,
   λb xs e=>by rw[aj (nxH b _ e)];exact e,λb ob u e=>by rw[aj (nxH b _ e)];exact e,λb ps e=>⟨#[],by rw[aj (nxH b _ e),Array.append_empty];exact e⟩⟩
 exact⟨.ref x',_,I1.un (t':=tk) un hok1,rfl,q x' hxH⟩
end
theorem iW.same {x D:Addr} (s:Same H H') (h:iW H x D):iW H' x D:=by
 rcases h with h|⟨d,fs,h,hd⟩
 .exact .inl (s _ _ h)
 .exact .inr ⟨d,fs,s _ _ h,s _ _ hd⟩
def FR (i j k:Nat) (ta:TA):TS:=λD Z H=>ta Z H λvs H1=>∃v w z,vs=[v,w,z]/\D.nx (((Z.set i (some v)).set j (some w)).set k (some z)) H1
theorem Dp {i j k:Nat} {x y z:Str} {a b c:Expr} {ta:TA} {px py pz pt pos:Pos} {kt k2 pt2} (hc:X.calm=true) (hN:X.N.Nodup) (hi:X.N[i]?=some x) (hj:X.N[j]?=some y) (hk:X.N[k]?=some z) (hij:i≠j/\i≠k/\j≠k)
  (hx:X.env.scope.names.lookup x=some .local) (hy:X.env.scope.names.lookup y=some .local) (hz:X.env.scope.names.lookup z=some .local) (ha:PA X [a,b,c] ta)
  (hw:swappedStores [.Tuple [.Name x px,.Name y py,.Name z pz] kt pt] (.Tuple [a,b,c] k2 pt2) X.env=pure (some [x,y,z]))
  (hs:swapsWithSole [.Tuple [.Name x px,.Name y py,.Name z pz] kt pt] (.Tuple [a,b,c] k2 pt2) pos.line X.env=pure false:=by rfl) :
  PS X (.Assign [.Tuple [.Name x px,.Name y py,.Name z pz] kt pt] (.Tuple [a,b,c] k2 pt2) pos) (FR i j k ta):=by
 intro pins s Z H D I h;rw[exec_Assign_arm];refine af (nz ?_);rw[hs];refine af (aq ?_);rw[KH (by decide)];refine af (Tuple_ (thn (ha _ pins s Z H _ I h) λus s1 ⟨vs,H1,I1,r1,q1⟩=>?_));obtain⟨v,w,v3,e1,q1⟩:=q1;subst e1;obtain⟨u1,u2,u3,rfl,rv,rw',r3⟩:∃u1 u2 u3,us=[u1,u2,u3]/\ax v u1/\ax w u2/\ax v3 u3:=by
  cases r1 with
  |cons p q=>cases q with
   |cons p' q'=>cases q' with
    |cons p3 q3=>cases q3;exact⟨_,_,_,rfl,p,p',p3⟩
 refine fX ?_ (by show 3<=sizeLine;decide);have I2:Inv X pins Z H1 {s1 with heap:=s1.heap.push {cls:=.type "tuple",data:=.seq [u1,u2,u3].toArray}}:=I1.kept (t':=s1.toks) λb o e=>aR _ e;rw[hw];refine af (aq ?_);show wpAny (model X.prog X.w) X.A (do rule "assign.swapped-stores";let items <-unpackItems (.ref s1.heap.objs.size) 3 none;assignInOrder [λv=>bindName X.env z v,λv=>bindName X.env y v,λv=>bindName X.env x v] items.reverse;pure Flow.next) _ _ _;refine af (wpAny_rule (af (unpackItems_tuple (items:=#[u1,u2,u3]) (I.ok.hd hc) (HJ s1.heap _) λh' hx'=>?_)));have I3:=I2.kept (h':=h') (t':=s1.toks) λb o e=>hx' b o (bJ (aK e)) e;show wpAny _ _ (assignInOrder [λv=>bindName X.env z v,λv=>bindName X.env y v,λv=>bindName X.env x v] [u3,u2,u1] >>= λ_=>pure Flow.next) _ _ _;refine af (sF (sN (iH I3 hN hk (.inl hz) r3 (λs2 I4=>?_) (.inr hz))));refine sF (sN (iH I4 hN hj (.inl hy) rw' (λs3 I5=>?_) (.inr hy)));refine sF (sN (iH I5 hN hi (.inl hx) rv (λs4 I6=>Jd (aq ?_)) (.inr hx)));rw[xX _ _ (av hij.1),xX _ _ (av hij.2.1),xX _ _ (av hij.2.2)] at I6;exact⟨_,H1,I6,q1⟩
end L2
end
section
namespace K15
open PySem L2 K51 K31
def jT:Option Flt->Prop
 |some (.triple k)=>k<10 ^ 60
 |some (.side k m n)=>k<10 ^ 60/\m<10 ^ 60/\n<10 ^ 60
 |some (.round k)=>k<10 ^ 60
 |_=>True
structure Mdk (K:W.Frag) (S c0 c1 c2 c3 c4 D:Addr) (i:Nat):Prop where
 xc:fP K D
 sh:W.kitOne K (.ref D) (.ref S)=some true
 val:W.kitOne K (.ref D) (.type "ValueError")=some true
 k0:W.kitOne K (.ref D) (.ref c0)=some (i==0)
 k1:W.kitOne K (.ref D) (.ref c1)=some (i==1)
 k2:W.kitOne K (.ref D) (.ref c2)=some (i==2)
 k3:W.kitOne K (.ref D) (.ref c3)=some (i==3)
 k4:W.kitOne K (.ref D) (.ref c4)=some (i==4)
def gi:Flt->PyData
 |.many=>.tuple [.str "many"]
 |.triple k=>lW k
 |.side k m n=>lY k m n
 |.round c=>mw c
theorem dC.dt {a:Addr}:∀{fl:Flt},dC H a fl->Dt [] H (.ref a) (gi fl)
 |.many,h=>.tup (SqT.of h) (.cons (.str "many" (by decide +kernel)) .nil)
 |.triple _,h=>.tup (SqT.of h) (.cons (.str "triple" (by decide +kernel)) (.cons (.int _) .nil))
 |.side _ _ _,⟨_,h1,h2⟩=>.tup (SqT.of h1) (.cons (.str "side" (by decide +kernel)) (.cons (.int _) (.cons (.tup (SqT.of h2) (.cons (.int _) (.cons (.int _) .nil))) .nil)))
 |.round _,h=>.tup (SqT.of h) (.cons (.str "round" (by decide +kernel)) (.cons (.int _) .nil))
theorem wW (fl:Flt):fS (gi fl)=true:=by cases fl<;>rfl
theorem qd {d:PyData} (h:fS d=true):PyData.eqv d d=true:=(v_ d d h h).mpr rfl
theorem pT {x dx:Addr} {o o2 o3:HO} (hx:H x=none) (hd:upd H x o dx=none) (ne:dx≠x):Same H (upd (upd (upd H x o) x o2) dx o3)/\upd (upd (upd H x o) x o2) dx o3 x=some o2/\upd (upd (upd H x o) x o2) dx o3 dx=some o3:=by refine⟨λb u e=>?_,by rw[aj (av ne),aO],aO⟩;rw[aj ne] at hd;rw[aj (ak e hd),aj (ak e hx),aj (ak e hx)];exact e
theorem tN:∀{fl:Flt},jT (some fl)->(gi fl).showable=true/\(gi fl).depth<=60/\(gi fl).shown.length<=10000
 |.many,_=>⟨by decide +kernel,by decide +kernel,by decide +kernel⟩
 |.triple _,h=>tY h
 |.side _ _ _,⟨h1,h2,h3⟩=>uf h1 h2 h3
 |.round _,h=>vh h
theorem dC.but {a p:Addr} (hp:H p=some (.lst xs)) (b:But p H H'):∀{fl:Flt},dC H a fl->dC H' a fl
 |.many,h=>b _ _ (eG h hp) h
 |.triple _,h=>b _ _ (eG h hp) h
 |.side _ _ _,⟨u,h1,h2⟩=>⟨u,b _ _ (eG h1 hp) h1,b _ _ (eG h2 hp) h2⟩
 |.round _,h=>b _ _ (eG h hp) h
theorem eW.but {a p:Addr} (hp:H p=some (.lst xs)) (b:But p H H'):∀{o:Option Flt},eW H a o->eW H' a o
 |none,h=>b _ _ (eG h hp) h
 |some _,h=>dC.but hp b h
theorem Bd {a:Addr}:∀{o:Option Flt},eW H a o->∃nm rest,H a=some (.tup (.str nm::rest))/\(inV (.str nm) [.str "taken",.str "many"]=true\/inV (.str nm) [.str "taken",.str "many"]=false/\∃fl,o=some fl)
 |none,h=>⟨_,_,h,.inl (by decide +kernel)⟩
 |some .many,h=>⟨_,_,h,.inl (by decide +kernel)⟩
 |some (.triple _),h=>⟨_,_,h,.inr ⟨by decide +kernel,_,rfl⟩⟩
 |some (.side _ _ _),⟨_,h,_⟩=>⟨_,_,h,.inr ⟨by decide +kernel,_,rfl⟩⟩
 |some (.round _),h=>⟨_,_,h,.inr ⟨by decide +kernel,_,rfl⟩⟩
theorem orNe {u:TT} {Q:Bool->Hp->Prop} {d:PyData} (h:fS d=true) (h2:u Z H Q):mm u Z Q (if true=true then !PyData.eqv d d else PyData.eqv d d) H:=by rw[KI rfl,qd h];exact aP h2
theorem ifNe {t u:TS} {D:Ends} {d:PyData} (h:fS d=true) (h2:u D Z H):iX t u D Z (if true=true then !PyData.eqv d d else PyData.eqv d d) H:=by rw[KI rfl,qd h];exact aP h2
theorem Ci:∀i,i<5->(([i==0,i==1,i==2,i==3]++[i==4]).count true)=1:=by decide
theorem lit5:5<=sizeLine:=by show 5<=sizeLine;decide
def CY (vs:List V) (H:Hp) (Q:VK) (a p:Addr) (o:Option Flt) (q:Int×Int):Prop:=vs=[.ref a,.ref p]/\eW H a o/\jT o/\H p=some (.lst (bo q))/\bu q/\∀q' H',But p H H'->H' p=some (.lst (bo q'))->bu q'->Q (.bl true) H'
def wF:Sp:=λvs H Q _=>Exists (Ex4 (CY vs H Q))
section
theorem hW:bc ["_law_fault_here","_law_pot_here","_law_kind","_law_at_here","_law_one","_law_other","_law_last","_law_some","_law_e","_law_kinds"] ["_law_fault_here","_law_pot_here"] (aE jI):=by walk_at"sc"
theorem Dz {f fD f1 f2 f3 S c0 c1 c2 c3 c4:Addr} {fd dD d1 d2 d3:FuncData} (U:Fun K "_law_made" "_law_made" jI f fd) (T:cH mg)
  (GD:ag P w K mg base CX0 1 fD dD ["_law_pot_here","_law_base"] fJ) (bD:Binds K dD ["_law_pot_here","_law_base"] []) (mD:mg "_law_digit" = some (.ref fD)) (kD:W.keepIn K (.ref fD)=true)
  (M1:eU K c0 f1) (F1:ag P w K mg base CX0 1 f1 d1 ["self","fault"] (jt K)) (b1:Binds K d1 ["self","fault"] []) (m1:mg "NoSkin" = some (.ref c0)) (x1:dI K c0 "fault")
  (M2:eU K c1 f2) (F2:ag P w K mg base CX0 1 f2 d2 ["self","kind"] (uJ K)) (b2:Binds K d2 ["self","kind"] []) (m2:mg "Spoilt" = some (.ref c1)) (x2:dI K c1 "kind")
  (M3:eU K c2 f3) (F3:ag P w K mg base CX0 1 f3 d3 ["self","at"] (uK K)) (b3:Binds K d3 ["self","at"] []) (m3:mg "NoWord" = some (.ref c2)) (x3:dI K c2 "at")
  (m4:mg "TooMany" = some (.ref c3)) (e4:W.excIn K c3 bmV "ValueError.__new__" = true) (q4:W.keepIn K (.ref c3)=true) (m5:mg "Taken" = some (.ref c4)) (e5:W.excIn K c4 bmV "ValueError.__new__" = true) (q5:W.keepIn K (.ref c4)=true) (mS:mg "ShapeError" = some (.ref S))
  (k0:Mdk K S c0 c1 c2 c3 c4 c0 0) (k1:Mdk K S c0 c1 c2 c3 c4 c1 1) (k2:Mdk K S c0 c1 c2 c3 c4 c2 2) (k3:Mdk K S c0 c1 c2 c3 c4 c3 3) (k4:Mdk K S c0 c1 c2 c3 c4 c4 4) :
  ag P w K mg base CX0 3 f fd ["_law_fault_here","_law_pot_here"] wF:=by
 refine U.ok hW (λvs H Q E h=>?_) (λcdv A outer s H vs Q E hr h=>?_)
 .obtain⟨a,p,o,q,rfl,_⟩:=h;rfl
 .obtain⟨a,p,o,q,rfl,hA,hB,hp,pok,Qq⟩:=h;have hu:=dA hr;have hline:=line5000;have hrD:Room 1 (A.deeper (PyProof.Rows.envOfC "_law_made" (aE jI) s.heap.objs.size f cdv)):=hr.mono (by decide);refine⟨_,(ah (az (i:=2) hW.nd rfl (.inl rfl) (bL cv (bY (aa cw (aa cw (aa cw (aa cw ae))))) (aw GD hrD rfl mD kD bD .nil pass0 (aa (pv 1) (aa ai ae))) (λ_ _=>rfl)))
   (ah (az (i:=3) hW.nd rfl (.inl rfl) (aw GD hrD rfl mD kD bD .nil pass0 (aa (pv 1) (aa ai ae))))
   (ah (br (ba nJ (bL ic (pv 0) ai (λ_ _=>rfl)) (aI (aa cw (aa cw ae))) rfl)
    (ao (az (i:=0) hW.nd rfl (.inl rfl) (bL cv (bY (aa (aI (aa cw (aa (pv 3) ae))) (aa (aI (aa cw (aa (pv 3) (aa (aI (aa (pv 3) (aa (aA cy (pv 3) ai) ae))) ae)))) (aa (aI (aa cw (aa (pv 3) ae))) ae)))) (aw GD hrD rfl mD kD bD .nil pass0 (aa (pv 1) (aa ai ae))) (λ_ _=>rfl)))) bK)
   (ah (Dp (i:=4) (j:=5) (k:=6) rfl hW.nd rfl rfl rfl (by decide) rfl rfl rfl (aa (p5 M1 F1 (hr.mono (by decide)) b1 rfl m1 (aa (pv 0) ae)) (aa (p5 M2 F2 (hr.mono (by decide)) b2 rfl m2 (aa (pv 2) ae)) (aa (p5 M3 F3 (hr.mono (by decide)) b3 rfl m3 (aa (pv 3) ae)) ae))) rfl)
   (ah (br (PW.pt (fq (ba (oC hr.units) (qx (pv 4) rfl) (pv 0) (nomark _)) (fq (ba (oC hr.units) (qx (pv 5) rfl) (pv 2) (nomark _)) (iO (ba (oC hr.units) (qx (pv 6) rfl) (pv 3) (nomark _)))))) (ao (aX eR)) bK)
   (ah (az (i:=7) hW.nd rfl (.inl rfl) (bY (aa (pv 4) (aa (pv 5) (aa (pv 6) (aa (uW q4 e4 rfl m4 (aa cw ae)) (aa (uW q5 e5 rfl m5 (aa cw ae)) ae)))))))
   (ah (br (eA (cQ (aL (sX rfl) (by rfl) T.all vv (aa (dO (N:=["_law_e"]) (fr:=[none]) (te:=xi (tCB (qY K (.ref S) (.ref S)) (dX (cz 0) (dX (tC (.ref S)) fR))) (tCB (qY K (.ty "ValueError") (.type "ValueError")) (dX (cz 0) (dX (tC (.ty "ValueError")) fR)))) (nH (by decide +kernel) rfl (by decide +kernel) (by decide +kernel)) rfl (cC (pv 7))
     (λC s H fp pins=>⟨ay (i:=0) (show (["_law_e"]:List Str).Nodup by decide +kernel) rfl (.inl rfl) (.inr rfl),eO,h_ (aL (iG (y:=.ref S) (c:=.ref S) (λ_ e=>e)) (by rfl) T.isi du (aa (pv 0) (aa (cJ (v:=.ref S) rfl mS rfl) ae))) (jK (aL (iG (y:=.ty "ValueError") (c:=.type "ValueError") (λ_ e=>e)) (by rfl) T.isi du (aa (pv 0) (aa (g_ (v:=.ty "ValueError") rfl T.ve rfl rfl) ae))))⟩)) ae)))) (ao (aX eR)) bK)
   (ah (cD cI rfl (cC (pv 7)) (ay (i:=8) hW.nd rfl (.inl rfl))
    (ah (az (i:=9) hW.nd rfl (.inl rfl) (bY (aa (aL (iG (y:=.ref c0) (c:=.ref c0) (λ_ e=>e)) (by rfl) T.isi du (aa (pv 8) (aa (cJ (v:=.ref c0) rfl m1 rfl) ae))) (aa (aL (iG (y:=.ref c1) (c:=.ref c1) (λ_ e=>e)) (by rfl) T.isi du (aa (pv 8) (aa (cJ (v:=.ref c1) rfl m2 rfl) ae))) (aa (aL (iG (y:=.ref c2) (c:=.ref c2) (λ_ e=>e)) (by rfl) T.isi du (aa (pv 8) (aa (cJ (v:=.ref c2) rfl m3 rfl) ae))) (aa (aL (iG (y:=.ref c3) (c:=.ref c3) (λ_ e=>e)) (by rfl) T.isi du (aa (pv 8) (aa (cJ (v:=.ref c3) rfl m4 rfl) ae))) ae))))))
    (ao (br (ba gj (df dG PySem.F.slot_list_count PySem.F.type_list_count AQ (aA fN (pv 9) (bY (aa (aL (iG (y:=.ref c4) (c:=.ref c4) (λ_ e=>e)) (by rfl) T.isi du (aa (pv 8) (aa (cJ (v:=.ref c4) rfl m5 rfl) ae))) ae))) (aa eR ae)) ai (nomark _)) (ao (aX eR)) bK))))
   (ao (aX eR)))))))))),?_⟩
  refine⟨lit4,λl H1 g1 s1 y1=>?_⟩;have nlp:l≠p:=av (ak hp g1);obtain⟨w1,w2⟩:=cA (q:=q) (b:=4) (by decide);refine⟨_,rfl,p,q,4,rfl,s1 _ _ hp,pok,by decide,by decide +kernel,λH2 r2 y2=>?_⟩;obtain⟨ks,hks,hk1,hk2⟩:∃ks:Str,atI [V.str "many",.str "triple",.str "side",.str "round"] (digO q 4)=some (.str ks)/\(PyData.str ks).canLay0=true/\(PyData.str ks).showable=true/\(PyData.str ks).depth<=60/\(PyData.str ks).shown.length<=10000:=by
   obtain h|h|h|h:digO q 4=(0:Nat)\/digO q 4=(1:Nat)\/digO q 4=(2:Nat)\/digO q 4=(3:Nat):=by lia
   .rw[h];exact⟨_,ck rfl,by decide +kernel,by decide +kernel,by decide +kernel,by decide +kernel⟩
   .rw[h];exact⟨_,ck rfl,by decide +kernel,by decide +kernel,by decide +kernel,by decide +kernel⟩
   .rw[h];exact⟨_,ck rfl,by decide +kernel,by decide +kernel,by decide +kernel,by decide +kernel⟩
   .rw[h];exact⟨_,ck rfl,by decide +kernel,by decide +kernel,by decide +kernel,by decide +kernel⟩
  refine⟨l,_,_,_,rfl,rfl,SqL.of ((r2 l nlp).trans y1),hks,?_⟩;refine⟨_,rfl,p,nxt q 4,200,rfl,y2,a9 pok,by decide,by decide +kernel,λH3 r3 y3=>?_⟩;obtain⟨n,hn,hn2⟩:∃n:Nat,digO (nxt q 4) 200=(n:Int)/\n<200:=by obtain⟨x1,x2⟩:=cA (q:=nxt q 4) (b:=200) (by decide);exact⟨_,(dM x1).symm,by lia⟩
  show dg 3 (V.int (digO (nxt q 4) 200)) _ _ _;rw[hn];dsimp only [dg];have b3:But p H H3:=λb o nb e=>(r3 b nb).trans ((r2 b nb).trans (s1 _ _ e));have pok3:=a9 (b:=200) (a9 (b:=4) pok);generalize nxt (nxt q 4) 200=q3 at *;have hA3:=hA.but hp b3;clear hn w1 w2 hks g1 y1 y2 r2 r3 s1 nlp;have small:∀m:Nat,m<=200->m<10 ^ 60:=λm h=>se h (by decide);refine iI (λZ H'=>∃a' fl q',Z=[some (.ref a'),some (.ref p),some (.str ks),some (.int (n:Int)),none,none,none,none,none,none]/\But p H H'/\H' p=some (.lst (bo q'))/\bu q'/\dC H' a' fl/\jT (some fl)) (λNX hOut=>?_) ?_
  .obtain⟨nm,rest,hf,hin⟩:=Bd hA3;refine⟨_,rfl,a,_,_,_,rfl,rfl,SqT.of hf,ck (j:=0) rfl,lit2,λtp H4 g4 s4 y4=>⟨tp,_,rfl,.inr (SqT.of y4),rfl,rfl,_,rfl,?_⟩⟩;have b4:But p H H4:=b3.same s4;rcases hin with hin|⟨hin,fl,rfl⟩
   .show iX _ _ _ _ (inV (.str nm) [.str "taken",.str "many"]) _;rw[hin];refine a6 ⟨_,rfl,lit2,λt1 H5 g5 s5 y5=>?_⟩;refine⟨_,rfl,_,rfl,_,rfl,_,_,rfl,rfl,lit2,λu H6 g6 s6 y6=>⟨lit3,λt2 H7 g7 s7 y7=>?_⟩⟩;refine⟨_,rfl,lit2,λt3 H8 g8 s8 y8=>⟨lit3,λl2 H9 g9 s9 y9=>?_⟩⟩;have hp8:=s8 _ _ (s7 _ _ (s6 _ _ (s5 _ _ (s4 _ _ y3))));have nl2:l2≠p:=av (ak hp8 g9);refine⟨_,rfl,p,q3,3,rfl,s9 _ _ hp8,pok3,by decide,by decide +kernel,λH10 r10 y10=>?_⟩;obtain⟨a',fl,hat,hF,hB'⟩:∃a' fl,atI [V.ref t1,.ref t2,.ref t3] (digO q3 3)=some (.ref a')/\dC H9 a' fl/\jT (some fl):=by
     obtain⟨x1,x2⟩:=cA (q:=q3) (b:=3) (by decide);obtain h|h|h:digO q3 3=(0:Nat)\/digO q3 3=(1:Nat)\/digO q3 3=(2:Nat):=by lia
     .rw[h];exact⟨t1,.triple n,ck rfl,s9 _ _ (s8 _ _ (s7 _ _ (s6 _ _ y5))),small n (by lia)⟩
     .rw[h];exact⟨t2,.side n n (n+1),ck rfl,⟨u,s9 _ _ (s8 _ _ y7),s9 _ _ (s8 _ _ (s7 _ _ y6))⟩,small n (by lia),small n (by lia),small _ (by lia)⟩
     .rw[h];exact⟨t3,.round n,ck rfl,s9 _ _ y8,small n (by lia)⟩
    refine⟨l2,_,_,_,rfl,rfl,SqL.of ((r10 l2 nl2).trans y9),hat,hOut _ _ ⟨a',fl,_,rfl,?_,y10,a9 pok3,hF.but (s9 _ _ hp8) (λb o nb e=>(r10 b nb).trans e),hB'⟩⟩;exact λb o nb e=>(r10 b nb).trans (s9 _ _ (s8 _ _ (s7 _ _ (s6 _ _ (s5 _ _ (b4 _ _ nb e))))))
   .show iX _ _ _ _ (inV (.str nm) [.str "taken",.str "many"]) _;rw[hin];exact aP (hOut _ _ ⟨a,fl,q3,rfl,b4,s4 _ _ y3,pok3,dC.same s4 hA3,hB⟩)
  rintro Z H4 ⟨a',fl,q4',rfl,bt,hp4,pok4,hF,hB'⟩;have hsh:=tN hB';refine⟨_,rfl,lit1,λz1 hz1=>⟨z1,c0,.ref a',gi fl,rfl,aO,M1.over,x1,⟨(hF.same (cu hz1)).dt,hsh⟩,λdx1 hd1 hn1=>⟨rfl,?_⟩⟩⟩;obtain⟨s5,e1,e1'⟩:=pT (o2:=a7 z1 c0 (some dx1)) (o3:=.xd [("fault",V.ref a')]) hz1 hd1 hn1;generalize upd (upd (upd H4 z1 (a7 z1 c0 none)) z1 (a7 z1 c0 (some dx1))) dx1 (.xd [("fault",V.ref a')])=H5 at *;refine⟨_,rfl,lit1,λz2 hz2=>⟨z2,c1,.str ks,.str ks,rfl,aO,M2.over,x2,⟨.str _ hk1,hk2⟩,λdx2 hd2 hn2'=>⟨rfl,?_⟩⟩⟩;obtain⟨s6,e2,e2'⟩:=pT (o2:=a7 z2 c1 (some dx2)) (o3:=.xd [("kind",V.str ks)]) hz2 hd2 hn2';generalize upd (upd (upd H5 z2 (a7 z2 c1 none)) z2 (a7 z2 c1 (some dx2))) dx2 (.xd [("kind",V.str ks)])=H6 at *;have hn60:=small n (by lia);refine⟨_,rfl,lit1,λz3 hz3=>⟨z3,c2,.int (n:Int),.int (n:Int),rfl,aO,M3.over,x3,⟨.int _,KJ (fB hn60),aU _,cF (hJ hn60) (by decide)⟩,λdx3 hd3 hn3=>⟨rfl,_,_,_,rfl,?_⟩⟩⟩;obtain⟨s7,e3,e3'⟩:=pT (o2:=a7 z3 c2 (some dx3)) (o3:=.xd [("at",V.int (n:Int))]) hz3 hd3 hn3;generalize upd (upd (upd H6 z3 (a7 z3 c2 none)) z3 (a7 z3 c2 (some dx3))) dx3 (.xd [("at",V.int (n:Int))])=H7 at *;have e1:=s7 _ _ (s6 _ _ e1);have e1':=s7 _ _ (s6 _ _ e1');have e2:=s7 _ _ e2;have e2':=s7 _ _ e2';have hF7:=hF.same ((s5.trans s6).trans s7);refine⟨_,rfl,z1,c0,dx1,_,_,rfl,e1,e1',k0.xc,x1,rfl,_,rfl,gi fl,gi fl,hF7.dt,hF7.dt,hsh.2.1,_,rfl,orNe (wW fl) ?_⟩;refine⟨_,rfl,z2,c1,dx2,_,_,rfl,e2,e2',k1.xc,x2,rfl,_,rfl,.str ks,.str ks,.str _ hk1,.str _ hk1,aU _,_,rfl,orNe rfl ?_⟩;refine⟨_,rfl,z3,c2,dx3,_,_,rfl,e3,e3',k2.xc,x3,rfl,_,rfl,.int (n:Int),.int (n:Int),.int _,.int _,aU _,_,rfl,ifNe rfl ?_⟩;refine⟨_,rfl,_,rfl,_,rfl,lit1,λz4 hz4=>?_⟩;walk_at"H7 z4 hz4 H8 s8 y8";refine⟨lit1,λz5 hz5=>?_⟩;walk_at"H8 z5 hz5 H9 s9 y9";refine⟨lit5,λL H10 g10 s10 y10=>?_⟩;have s7':=s8.trans (s9.trans s10);have five:∀(i:Nat) (x:V),([.ref z1,.ref z2,.ref z3,.ref z4,.ref z5]:List V)[i]?=some x->∃z D,x=.ref z/\iW H10 z D/\Mdk K S c0 c1 c2 c3 c4 D i/\i<5:=λi x hi=>by
   match i,hi with
   |0,hi=>cases hi;exact⟨z1,c0,rfl,.inr ⟨_,_,s7' _ _ e1,s7' _ _ e1'⟩,k0,by decide⟩
   |1,hi=>cases hi;exact⟨z2,c1,rfl,.inr ⟨_,_,s7' _ _ e2,s7' _ _ e2'⟩,k1,by decide⟩
   |2,hi=>cases hi;exact⟨z3,c2,rfl,.inr ⟨_,_,s7' _ _ e3,s7' _ _ e3'⟩,k2,by decide⟩
   |3,hi=>cases hi;exact⟨z4,c3,rfl,.inl (s10 _ _ (s9 _ _ y8)),k3,by decide⟩
   |4,hi=>cases hi;exact⟨z5,c4,rfl,.inl (s10 _ _ y9),k4,by decide⟩
   |i+5,hi=>cases hi
  have bt10:But p H H10:=λb o nb e=>s7' _ _ (s7 _ _ (s6 _ _ (s5 _ _ (bt _ _ nb e))));have hp10:=s7' _ _ (s7 _ _ (s6 _ _ (s5 _ _ hp4)));clear e1 e1' e2 e2' e3 e3' s7' s10 s9 s8 y8 y9 s7 s6 s5 hF7 hF bt hp4;refine⟨_,rfl,L,rfl,⟨_,SqL.of y10⟩,λZ_ hZ=>eF (K:=[]) (a:=L) (xs:=[.ref z1,.ref z2,.ref z3,.ref z4,.ref z5]) (λi Z ys H'=>∃o,Z=[o]/\Same H10 H'/\H' Z_=some (.lst ys)/\ys=(List.replicate i true).map V.bl) ⟨none,rfl,cu hZ,aO,rfl⟩ (by rintro i Z ys H' _ ⟨_,_,e,_⟩;exact SqL.of (e _ _ y10)) ?_ ?_⟩
  .rintro i x Z ys H' hi ⟨o,rfl,sm,hZ',rfl⟩;obtain⟨z,D,rfl,hm,mk,i5⟩:=five i x hi;refine⟨_,rfl,z,D,true,rfl,hm.same sm,mk.xc,mk.sh,true,rfl,a6 ⟨_,rfl,z,D,true,rfl,hm.same sm,mk.xc,mk.val,hZ',by rw[aC,Ig];lia,λHn kn yn=>⟨_,rfl,λb o e=>(kn b (ak e hZ)).trans (sm _ _ e),yn,?_⟩⟩⟩;rw[List.replicate_succ',bf];rfl
  rintro Z ys H11 ⟨o,rfl,s11,hZ',rfl⟩;refine⟨Z_,_,rfl,SqL.of hZ',_,rfl,iY ?_⟩;refine⟨_,rfl,L,rfl,⟨_,SqL.of (s11 _ _ y10)⟩,eu (K:=[]) (a:=L) (xs:=[.ref z1,.ref z2,.ref z3,.ref z4,.ref z5]) (λi Z H'=>∃oe ok,Z=[some (.ref a'),some (.ref p),some (.str ks),some (.int (n:Int)),some (.ref z1),some (.ref z2),some (.ref z3),some (.ref L),oe,ok]/\Same H10 H') ⟨none,none,rfl,s11⟩ (by rintro i Z H' _ ⟨_,_,_,e⟩;exact SqL.of (e _ _ y10)) ?_ ?_⟩
  .rintro i x Z H' hi ⟨oe,ok,rfl,sm⟩;obtain⟨z,D,rfl,hm,mk,i5⟩:=five i x hi;have hm:=hm.same sm;refine⟨_,rfl,z,D,_,rfl,hm,mk.xc,mk.k0,_,rfl,z,D,_,rfl,hm,mk.xc,mk.k1,_,rfl,z,D,_,rfl,hm,mk.xc,mk.k2,_,rfl,z,D,_,rfl,hm,mk.xc,mk.k3,lit4,λL2 H12 g12 s12 y12=>?_⟩;refine⟨_,rfl,_,rfl,z,D,_,rfl,hm.same s12,mk.xc,mk.k4,lit1,λL3 H13 g13 s13 y13=>⟨L2,L3,_,_,rfl,rfl,s13 _ _ y12,y13,lit5,λL4 H14 g14 s14 y14=>?_⟩⟩;refine⟨.inl ⟨rfl,_,SqL.of y14⟩,L4,[i==0,i==1,i==2,i==3]++[i==4],true,rfl,rfl,y14,rfl,_,rfl,?_⟩;rw[Ci i i5];exact aP ⟨_,_,rfl,sm.trans (s12.trans (s13.trans s14))⟩
  .rintro Z H' ⟨oe,ok,rfl,sm⟩;exact Qq _ H' (λb o nb e=>sm _ _ (bt10 _ _ nb e)) (sm _ _ hp10) pok4
end
end K15
end
section
namespace L2
open PySem PySem.Spec PyProof.Rows
def It2 (n:Nat):It:=⟨λi _=>i<n,λi H x H'=>H'=H/\x=.int (2*i),λi _=>n<=i⟩
theorem zu {tg:Expr} (it:Addr) (n:Nat):Turn P w K tg (It2 n) [it] it (λi h=>IsRangeIter h it (0+(i:Nat)*2) ((n:Int)-(i:Nat)) 2) where
 mem:=by simp
 obj:=λi h st b hb=>by
  have e:b=it:=by simpa using hb
  subst e;exact⟨_,st,λv z=>by
   have z':Data.fields _=Data.cell v:=z;cases z'⟩
 keep:=λi h h' st k=>k it (by simp) _ st
 item:=by intro X hP hw hK hc i pins s Z H E I hf st hg;subst hP hw hK;obtain⟨f0,f1,f2,f3,f4,f5⟩:=hf it (by simp);have W:=Jb (prog:=X.prog) (w:=X.w) (I.ok.hd hc) it 0 2 n;refine W.item i s _ _ hg st λv h' tk hv st' kk=>?_;obtain⟨t,rfl⟩:=hv;have I1:Inv X pins Z H {s with heap:=h',toks:=tk}:=I.turned (λb o hb e=>kk b o (by simpa using hb) e) f0 f1 f3 f4 f5;refine⟨_,rfl,mh (s:={s with heap:=h',toks:=tk}) (n:="range_iterator") st' rfl rfl (by decide) ⟨.int (2*i),H,I1,⟨t,?_⟩,⟨rfl,rfl⟩,st',λb hb=>(hf b hb).1⟩⟩;rw[Int.zero_add,Int.mul_comm]
 done:=by intro X hP hw hK hc i pins s Z H E I hf st hg;subst hP hw hK;obtain⟨f0,f1,f2,f3,f4,f5⟩:=hf it (by simp);exact JI (I.ok.hd hc) st (by have:n<=i:=hg;lia) λh' eb=>⟨rfl,I.turned (t':=s.toks) (λb o hb e=>eb b o hb e) f0 f1 f3 f4 f5⟩
 self:=λ_ _ _ _ _ st h=>JF st h
theorem uQ (n:Nat):Builtin.Range.rangeSize 0 (2*(n:Int)) 2=(n:Int):=by
 unfold Builtin.Range.rangeSize;rw[KI (by decide)]
 split<;>lia
theorem Ar {n:Nat} (h:n<2 ^ 40):Builtin.Range.small 0 (2*(n:Int)) 2=true:=by
 unfold Builtin.Range.small;rw[uQ];have f:∀x:Int,0<=x->x<2 ^ 50->Builtin.Range.rangeFitsLong x=true:=λx h1 h2=>by
  unfold Builtin.Range.rangeFitsLong;simp only[eC,decide_eq_true_eq];lia
 rw[f 0 (by decide) (by decide),f _ (by lia) (by lia),f 2 (by decide) (by decide),f _ (by lia) (by lia),KI (by decide),f _ (by lia) (by lia),xD];rfl
section
variable {tg:Expr}
def G0 (ta:TA):TI:=λZ H R=>ta Z H λvs H1=>∃n:Nat,vs=[.int 0,.int (2*(n:Int)),.int 2]/\n<2 ^ 40/\R (It2 n) H1
theorem AA {a b c:Expr} {ta:TA} {p pos:Pos} (hg:Gl X "range") (hm:X.mg "range" = none) (ha:PA X [a,b,c] ta) (hs:starEach [a,b,c] X.env=[(false,eval a X.env),(false,eval b X.env),(false,eval c X.env)]:=by rfl) (hs2:starEach [b,c] X.env=[(false,eval b X.env),(false,eval c X.env)]:=by rfl) :
  PI X tg (.Call (.Name "range" p) [a,b,c] [] pos) (G0 ta):=by
 intro pins s Z H R I h;refine Call_ (jL I hg hm boot_range (sv (thn (ha pos pins s Z H _ I h) λus s1 ⟨vs,H1,I1,r1,q1⟩=>?_) (by rw[hs,hs2]) (by rw[hs2];rfl)));obtain⟨n,e,hn,q⟩:=q1;subst e;cases r1 with
 |cons r rr=>cases rr with
  |cons r' rr=>cases rr with
   |cons r3 rr=>
    cases rr;obtain⟨t,rfl⟩:=r;obtain⟨t',rfl⟩:=r';obtain⟨t3,rfl⟩:=r3;refine call_range_3 (by decide) ?_ (Or.inl (PyProof.noPylong_small (by decide)));refine JE (HH ..) (Ar hn) ?_;have I2:Inv X pins Z H1 {s1 with heap:=s1.heap.push {cls:=.type "range",data:=.fields #[.int 0 t,.int (2*(n:Int)) t',.int 2 t3]},toks:=s1.toks}:=I1.kept λb o e=>aR _ e;refine⟨(s1.heap.push {cls:=.type "range",data:=.fields #[.int 0 t,.int (2*(n:Int)) t',.int 2 t3]}).objs.size,[(s1.heap.push {cls:=.type "range",data:=.fields #[.int 0 t,.int (2*(n:Int)) t',.int 2 t3]}).objs.size],_,_,H1,rfl,
     I2.kept (t':=s1.toks) λb o e=>aR _ e,zu _ n,?_,λb hb=>?_,q⟩
    .show IsRangeIter _ _ (0+((0:Nat):Int)*2) ((n:Int)-((0:Nat):Int)) 2;rw[show (0:Int)+((0:Nat):Int)*2=0 by simp,show (n:Int)-((0:Nat):Int)=Builtin.Range.rangeSize 0 (2*(n:Int)) 2 by rw[uQ];simp];exact bP _ rfl
    .have e:b=(s1.heap.push {cls:=.type "range",data:=.fields #[.int 0 t,.int (2*(n:Int)) t',.int 2 t3]}).objs.size:=by simpa using hb
     subst e;exact I2.fpOk (ar _) (I2.hok.fresh (ar _))
end
section
variable {D:Addr} {g:TG} {tt:TT} {te:TE} {Z':St} {H1:Hp} {Q:Hp->Prop}
theorem zL {n:Nat} (Pv:Nat->St->List V->Hp->Prop) (h0:Pv 0 Z' [] (upd H1 D (.lst [])))
  (hs:∀i Z ys H,i<n->Pv i Z ys H->g (.int (2*i)) Z H (jS tt te D ys (Pv (i+1))))
  (hd:∀Z ys H,Pv n Z ys H->Q H):hU (It2 n) g tt te D Z' H1 Q:=by
 refine⟨λi m Z ys H=>m=n-i/\i<=n/\Pv i Z ys H,⟨n,by simp,aU _,h0⟩,?_⟩;rintro i m Z ys H ⟨rfl,hi,p⟩;by_cases hlt:i<n
 .refine .inr ⟨hlt,Pv (i+1),λZ' ys' H' p'=>⟨n-(i+1),by lia,rfl,hlt,p'⟩,λx H' y=>?_⟩;obtain⟨e,y⟩:=y;subst e y;exact hs i Z ys _ hlt p
 .have e:i=n:=by lia
  subst e;exact .inl ⟨ar _,hd Z ys H p⟩
end
end L2
end
section
namespace K15
open PySem L2 K51 K31
theorem Bh {t:Tri} (n:t.1≠t.2.1/\t.2.1≠t.2.2/\t.2.2≠t.1):eJ [some (t.1:Int),some (t.2.1:Int),some (t.2.2:Int)]=some t:=by show (if _ then _ else _)=_;rw[KI (by obtain⟨n1,n2,n3⟩:=n;lia)];rfl
theorem vC {p T:Addr} {xp xT:List V} (hp:H p=some (.lst xp)) (hT:H T=some (.lst xT)):∀{vt:List V} {ts:List Tri},aG H vt ts->(∀t∈ts,(t.1≠t.2.1/\t.2.1≠t.2.2/\t.2.2≠t.1)/\t.1<10 ^ 60/\t.2.1<10 ^ 60/\t.2.2<10 ^ 60)->Tgs K p T H vt (ts.map some)
 |_,_,.nil,_=>.nil
 |_,_,.cons ⟨a,e,h⟩ r,hb=>by
  obtain⟨hn,b1,b2,b3⟩:=hb _ gF;have:=tg3 (K:=K) hp hT h b1 b2 b3;rw[Bh hn] at this;subst e;exact .cons this (vC hp hT r λt ht=>hb t (cN _ ht))
abbrev ShO (d:PyData):Prop:=d.showable=true/\d.depth<=20/\d.shown.length<=250
theorem wz {p T:Addr} (sm:Sm H H'):∀{vs:List V} {os:List (Option Tri)},Tgs K p T H vs os->(none∈os->Same H H')->∃ds,Paired (Dx H') vs ds/\ds.length=vs.length/\∀d∈ds,ShO d
 |_,_,.nil,_=>⟨[],.nil,rfl,by simp⟩
 |v::vs,o::os,.cons h r,hs=>by
  obtain⟨ds,h1,h2,h3⟩:=wz sm r λz=>hs (cN _ z);have hd:∃d,Dx H' v d/\ShO d:=by
   cases o with
   |none=>exact (h H' (.of (hs gF))).2.2
   |some t=>
    obtain⟨th,hb,_⟩:=h H λ_ _ _ _ e=>e;obtain⟨⟨a,rfl,e⟩,_⟩:=th.tri;obtain⟨b1,b2,b3⟩:=hb t rfl;exact⟨_,.inl (.tup (SqT.of (sm.keep e (λz=>z))) (.cons (.int _) (.cons (.int _) (.cons (.int _) .nil)))),uF b1 b2 b3⟩
  obtain⟨d,d1,d2⟩:=hd;refine⟨d::ds,.cons d1 h1,by simp[h2],λx hx=>?_⟩;rcases aT.mp hx with rfl|hx
  .exact d2
  .exact h3 x hx
theorem ug:∀{ds:List PyData},(∀d∈ds,ShO d)->PyData.showableAll ds=true/\PyData.depthAll ds<=20/\(PyData.shownAll ds).length=ds.length/\∀x∈PyData.shownAll ds,x.length<=250
 | [],_=>⟨rfl,aU _,rfl,λx hx=>by cases hx⟩
 |d::ds,h=>by
  obtain⟨h1,h2,h3,h4⟩:=ug λx hx=>h x (cN _ hx);obtain⟨a1,a2,a3⟩:=h d gF;refine⟨?_,?_,?_,λx hx=>?_⟩
  .rw[PyData.showableAll,a1,h1];rfl
  .rw[PyData.depthAll];lia
  .rw[PyData.shownAll,bQ,h3,bQ]
  .rw[PyData.shownAll] at hx;rcases aT.mp hx with rfl|hx
   .exact a3
   .exact h4 x hx
theorem B8:∀ts:List Str,(listText ts).length<=piled ts+4
 | []=>by decide +kernel
 |t::r=>by
  have h:=textFrom_length_pos r 1 (("[" : Str)++(if (0:Nat)>0 then ", " else "" : String)++t) (Nat.succ_pos 0);show (textFrom 1 (("[" : Str)++(if (0:Nat)>0 then ", " else "" : String)++t) r++("]" : Str)).length<=_;have h8:((("[" : Str)++(if (0:Nat)>0 then ", " else "" : String))).length=1:=by decide +kernel
  have h9:(("]" : Str)).length=1:=by decide +kernel
  have h3:piled (t::r)=t.length+2+piled r:=by simp[piled]
  rw[eN,h,eN,h3];lia
theorem AU {ds:List PyData} (hl:ds.length<=400) (h:∀d∈ds,ShO d):(PyData.list ds).showable=true/\(PyData.list ds).depth<=60/\(PyData.list ds).shown.length<=sizeLine:=by
 obtain⟨h1,h2,h3,h4⟩:=ug h;refine⟨by rw[PyData.showable];exact h1,by rw[PyData.depth];lia,?_⟩;rw[PyData.shown];have h6:=p4 h4;have hz:102000<=sizeLine:=by rw[dv];lia
 have h7:=B8 (PyData.shownAll ds);have:(PyData.shownAll ds).length*(250+2)<=400*252:=by rw[h3];exact ye hl (ar _)
 lia
theorem DM {os:List (Option Tri)} (hl:os.length<=400) (hb:∀t,some t∈os->t.1<10 ^ 60/\t.2.1<10 ^ 60/\t.2.2<10 ^ 60):∀{o:Option Flt},fj os o->jT o
 |none,_=>trivial
 |some .many,_=>trivial
 |some (.triple k),⟨_,h,_⟩=>gQ (by have:=(aJ.mp h).1;lia)
 |some (.side k m n),⟨_,ts,e,_,t,j,h1,h2,_⟩=>by
  have hk:=(aJ.mp h1).1;rw[e,aC] at hl;obtain⟨b1,b2,b3⟩:=hb t (by rw[e];exact aD.mpr ⟨t,bE h1,rfl⟩);have hm:=bE h2;obtain⟨x,y,z⟩:=t;simp[ent3] at hm;refine⟨gQ (by lia),?_⟩;have b1:x<10 ^ 60:=b1;have b2:y<10 ^ 60:=b2;have b3:z<10 ^ 60:=b3;rcases hm with ⟨rfl,rfl⟩|⟨rfl,rfl⟩|⟨rfl,rfl⟩
  .exact⟨b1,b2⟩
  .exact⟨b2,b3⟩
  .exact⟨b3,b1⟩
 |some (.round c),⟨_,ts,e,_,hc,_⟩=>by
  obtain⟨p',q',hp'⟩:=hc;rcases dU.mp hp' with z|z|z
  .exact (hb _ (by rw[e];exact aD.mpr ⟨_,z,rfl⟩)).1
  .exact (hb _ (by rw[e];exact aD.mpr ⟨_,z,rfl⟩)).2.1
  .exact (hb _ (by rw[e];exact aD.mpr ⟨_,z,rfl⟩)).2.2
def gz:Option Flt->PyData
 |none=>.tuple [.str "taken"]
 |some fl=>gi fl
theorem eW.dt {a:Addr}:∀{o:Option Flt},eW H a o->Dt [] H (.ref a) (gz o)
 |none,h=>.tup (SqT.of h) (.cons (.str "taken" (by decide +kernel)) .nil)
 |some _,h=>dC.dt h
theorem FJ:∀(o:Option Flt),fS (gz o)=true
 |none=>rfl
 |some fl=>wW fl
theorem FK:∀{o:Option Flt},jT o->(gz o).depth<=60
 |none,_=>by decide +kernel
 |some _,h=>(tN h).2.1
theorem eW.sm {a:Addr} (s:Sm H H'):∀{o:Option Flt},eW H a o->eW H' a o
 |none,h=>s.keep h (λz=>z)
 |some .many,h=>s.keep h (λz=>z)
 |some (.triple _),h=>s.keep h (λz=>z)
 |some (.side _ _ _),⟨u,h1,h2⟩=>⟨u,s.keep h1 (λz=>z),s.keep h2 (λz=>z)⟩
 |some (.round _),h=>s.keep h (λz=>z)
theorem pr_drop {α β:Type} {F:α->β->Prop}:∀{xs:List α} {ys:List β} (k:Nat),Paired F xs ys->Paired F (xs.drop k) (ys.drop k)
 |_,_,0,h=>h
 |_,_,_+1,.nil=>.nil
 |_,_,k+1,.cons _ t=>pr_drop k t
def Ao (vs:List V) (H:Hp) (Q:VK) (p T:Addr) (q:Int×Int) (vt:List V) (ts:List Tri):Prop:=vs=[.ref p,.ref T]/\H p=some (.lst (bo q))/\bu q/\H T=some (.lst vt)/\T≠p/\aG H vt ts/\ts.length<=200/\
 ∀r vr ts' q' H',H r=none->But p H H'->H' p=some (.lst (bo q'))->bu q'->H' r=some (.lst vr)->aG H' vr ts'->ts'.length=ts.length->(ents ts').Perm (ents ts)->Q (.ref r) H'
def uM:Sp:=λvs H Q _=>Exists (Ex5 (Ao vs H Q))
section
theorem ju:bc ["_law_pot_here","_law_triples","_law_found","_law_a","_law_b","_law_c","_law_triple"] ["_law_pot_here","_law_triples"] (aE k_):=by walk_at"sc"
theorem AI {f f1:Addr} {fd d1:FuncData} (U:Fun K "_law_handed" "_law_handed" k_ f fd) (T:cH mg)
  (GD:ag P w K mg base CX0 1 f1 d1 ["_law_pot_here","_law_base"] fJ) (bD:Binds K d1 ["_law_pot_here","_law_base"] []) (mD:mg "_law_digit" = some (.ref f1)) (kD:W.keepIn K (.ref f1)=true) :
  ag P w K mg base CX0 2 f fd ["_law_pot_here","_law_triples"] uM:=by
 refine U.ok ju (λvs H Q E h=>?_) (λcdv A outer s H vs Q E hr h=>?_)
 .obtain⟨p,T,q,vt,ts,rfl,_⟩:=h;rfl
 .obtain⟨p,T0,q,vt,ts,rfl,hp,pok,hT,nTp,ht,hl,Qq⟩:=h;have hu:=dA hr;refine⟨_,(ah (az (i:=2) ju.nd rfl (.inl rfl) (bY ae))
   (ah (cD cI rfl (cC (pv 1)) (de rfl (aW (ay (i:=3) ju.nd rfl (.inl rfl)) (aW (ay (i:=4) ju.nd rfl (.inl rfl)) (aW (ay (i:=5) ju.nd rfl (.inl rfl)) c_)))) (ah (az (i:=6) ju.nd rfl (.inl rfl) (bL cv (bY (aa (aI (aa (pv 3) (aa (pv 4) (aa (pv 5) ae)))) (aa (aI (aa (pv 4) (aa (pv 5) (aa (pv 3) ae)))) (aa (aI (aa (pv 5) (aa (pv 3) (aa (pv 4) ae)))) ae)))) (aw GD hr rfl mD kD bD .nil pass0 (aa (pv 0) (aa ai ae))) (λ_ _=>rfl)))
   (ao (cU (df dG j9 ni jq (pv 2) (aa (aw GD hr rfl mD kD bD .nil pass0 (aa (pv 0) (aa (aA cy (aL c9 (by rfl) T.len di (aa (pv 2) ae)) ai) ae))) (aa (pv 6) ae)))))))
   (ao (aX (pv 2))))),?_⟩
  have hline:=line5000;refine⟨aU _,λfo H1 hfo s1 y1=>?_⟩;have nfp:p≠fo:=ak hp hfo;refine⟨_,rfl,T0,rfl,⟨_,SqL.of (s1 _ _ hT)⟩,eu (K:=[]) (a:=T0) (xs:=vt) (λi Z H'=>∃oa ob oc ot vf tf q',Z=[some (V.ref p),some (.ref T0),some (.ref fo),oa,ob,oc,ot]/\But p H H'/\H' p=some (.lst (bo q'))/\bu q'/\H' fo=some (.lst vf)/\aG H' vf tf/\tf.length=i/\(ents tf).Perm (ents (ts.take i)))
   ⟨none,none,none,none,[],[],q,rfl,But.refl.same s1,s1 _ _ hp,pok,y1,.nil,rfl,by simp[ents]⟩ (λi Z H' _ ⟨_,_,_,_,_,_,_,_,e,_⟩=>SqL.of (e _ _ nTp hT)) ?_ ?_⟩
  .rintro i x Z H2 hi ⟨oa,ob,oc,ot,vf,tf,q2,rfl,sm,hp2,pok2,hfo2,hvf,htl,hpm⟩;obtain⟨⟨a,b,c⟩,hs,t,rfl,hb⟩:=cB ht hi;have hb:H t=some (.tup [.int (a:Int),.int (b:Int),.int (c:Int)]):=hb;have hil:i<ts.length:=(aJ.mp hs).1;have hb2:=sm _ _ (cK hb hp (by simp)) hb;refine⟨t,_,rfl,SqT.of hb2,rfl,_,_,rfl,_,_,rfl,_,_,rfl,rfl,?_⟩;refine⟨_,rfl,_,rfl,_,rfl,lit3,λt1 H3 g1 s3 y3=>?_⟩;refine⟨_,rfl,_,rfl,_,rfl,lit3,λt2 H4 g2 s4 y4=>?_⟩;refine⟨_,rfl,_,rfl,_,rfl,lit3,λt3 H5 g3 s5 y5=>?_⟩;refine⟨lit3,λl H6 g4 s6 y6=>?_⟩;have sm26:=((s3.trans s4).trans s5).trans s6;have hp6:=sm26 _ _ hp2;have z1:=((s4.trans s5).trans s6) _ _ y3;have z2:=(s5.trans s6) _ _ y4;have z3:=s6 _ _ y5;refine⟨_,rfl,p,q2,3,rfl,hp6,pok2,by decide,by decide +kernel,λH7 k7 y7=>?_⟩;have nl:l≠p:=λz=>by rw[z,((s3.trans s4).trans s5) _ _ hp2] at g4;cases g4
   have tn:∀{b':Addr} {xs:List V},H6 b'=some (.tup xs)->b'≠p:=λe=>cK e hp6 (by simp);obtain⟨dp1,dp2⟩:=cA (q:=q2) (b:=3) (by decide);obtain⟨tr,x,hat,htr,hpx⟩:∃(tr:Addr) (x:Tri),atI [V.ref t1,.ref t2,.ref t3] (digO q2 3)=some (.ref tr)/\H6 tr=some (.tup [.int (x.1:Int),.int (x.2.1:Int),.int (x.2.2:Int)])/\(ents [x]).Perm (ents [(a,b,c)]):=by
    obtain h|h|h:digO q2 3=(0:Nat)\/digO q2 3=(1:Nat)\/digO q2 3=(2:Nat):=by lia
    .rw[h];exact⟨t1,(a,b,c),ck rfl,z1,HM _⟩
    .rw[h];refine⟨t2,(b,c,a),ck rfl,z2,?_⟩;show List.Perm [((b,c),a),((c,a),b),((a,b),c)] [((a,b),c),((b,c),a),((c,a),b)];exact gH (l₁:=[((b,c),a),((c,a),b)]) (l₂:=[((a,b),c)])
    .rw[h];refine⟨t3,(c,a,b),ck rfl,z3,?_⟩;show List.Perm [((c,a),b),((a,b),c),((b,c),a)] [((a,b),c),((b,c),a),((c,a),b)];exact gH (l₁:=[((c,a),b)]) (l₂:=[((a,b),c),((b,c),a)])
   refine⟨l,_,_,_,rfl,rfl,SqL.of ((k7 l nl).trans y6),hat,?_⟩;have hfo7:=(k7 fo (av nfp)).trans (sm26 _ _ hfo2);have vfl:vf.length=i:=by rw[aN hvf];exact htl
   refine⟨_,rfl,.inl ⟨rfl,_,SqL.of hfo7⟩,_,rfl,_,rfl,fo,vf,rfl,.inl (SqL.of hfo7),_,_,rfl,rfl,p,nxt q2 3,_,rfl,y7,a9 pok2,by lia,by rw[vfl];exact lg20 (by lia),λH8 k8 y8=>?_⟩;obtain⟨dq1,dq2⟩:=cA (q:=nxt q2 3) (b:=(vf.length:Int)+1) (by lia);obtain⟨d,hd⟩:∃d:Nat,digO (nxt q2 3) ((vf.length:Int)+1)=(d:Int):=⟨_,(dM dq1).symm⟩;rw[hd] at dq2 |-;have hfo8:=(k8 fo (av nfp)).trans hfo7;refine⟨_,rfl,fo,vf,d,_,rfl,rfl,hfo8,by lia,by lia,λH9 k9 y9=>?_⟩;have keep:∀{b':Addr} {xs:List V},H6 b'=some (.tup xs)->H9 b'=some (.tup xs):=λe=>(k9 _ (cK e (sm26 _ _ hfo2) (by simp))).trans ((k8 _ (tn e)).trans ((k7 _ (tn e)).trans e));refine⟨_,_,_,_,_,tf.take d++x::tf.drop d,_,rfl,λb' o n e=>?_,(k9 p nfp).trans y8,a9 (a9 pok2),y9,?_,?_,?_⟩
   .have e2:=sm26 _ _ (sm _ _ n e);exact (k9 b' (ak e hfo)).trans ((k8 b' n).trans ((k7 b' n).trans e2))
   .have h1:aG H9 vf tf:=Paired.imp' (λ_ _ ⟨b',e1,e2⟩=>⟨b',e1,keep (sm26 _ _ e2)⟩) hvf;exact dz (qw d h1) (.cons ⟨tr,rfl,keep htr⟩ (pr_drop d h1))
   .rw[aZ,bQ,cE,i9];lia
   .have e1:ts.take (i+1)=ts.take i++[(a,b,c)]:=by rw[bV,hs];rfl
    rw[e1,fc,fc];have e2:ents (x::tf.drop d)=ents [x]++ents (tf.drop d):=fc [x] _;rw[e2];have e3:(ents tf)=ents (tf.take d)++ents (tf.drop d):=by rw[<-fc,gI]
    refine List.Perm.trans ?_ (hpm.append hpx);rw[e3,gD];exact HL _ gH
  .rintro Z H2 ⟨oa,ob,oc,ot,vf,tf,q2,rfl,sm,hp2,pok2,hfo2,hvf,htl,hpm⟩;rw[aN ht,c7] at hpm;rw[aN ht] at htl;exact⟨_,rfl,Qq fo vf tf q2 H2 hfo sm hp2 pok2 hfo2 hvf htl hpm⟩
end
def Ew (K:W.Frag) (vs:List V) (H:Hp) (Q:VK) (a:Addr) (ns:List Int):Prop:=vs=[.ref a]/\SqL [] H a (ns.map V.int)/\ns.length<=63/\∀H',Q (.bl true) H'
def lX (K:W.Frag):Sp:=λvs H Q _=>Exists (Ex2 (Ew K vs H Q))
theorem CV {a p:Addr} (hp:H p=none) (h:SqL [] H a xs) (k:∀b o,b≠p->H b=some o->H' b=some o):SqL [] H' a xs:=by
 have go:∀{o:HO},H a=some o->H' a=some o:=λe=>k _ _ (ak e hp) e;rcases h with (e|⟨o,e⟩)|h
 .exact .inl (.inl (go e))
 .exact .inl (.inr ⟨o,go e⟩)
 .exact .inr h
theorem qA {ts ts':List Tri} (h:(ents ts').Perm (ents ts)) (c:Nat):Co ts' c↔Co ts c:=⟨λ⟨p,q,e⟩=>⟨p,q,h.mem_iff.mp e⟩,λ⟨p,q,e⟩=>⟨p,q,h.mem_iff.mpr e⟩⟩
theorem qG {a p:Addr} (hp:a≠p) (h:SqL [] H a xs) (k:∀b o,b≠p->H b=some o->H' b=some o):SqL [] H' a xs:=by
 rcases h with (e|⟨o,e⟩)|h
 .exact .inl (.inl (k _ _ hp e))
 .exact .inl (.inr ⟨o,k _ _ hp e⟩)
 .exact .inr h
theorem vD {p T:Addr} {xp xT:List V} (hp:H p=some (.lst xp)) (hT:H T=some (.lst xT)):∀{vt:List V} {ts:List Tri},aG H vt ts->(∀t∈ts,t.1<10 ^ 60/\t.2.1<10 ^ 60/\t.2.2<10 ^ 60)->Tgs K p T H vt (ts.map λt=>eJ [some (t.1:Int),some (t.2.1:Int),some (t.2.2:Int)])
 |_,_,.nil,_=>.nil
 |_,_,.cons ⟨a,e,h⟩ r,hb=>by
  obtain⟨b1,b2,b3⟩:=hb _ gF;subst e;exact .cons (tg3 hp hT h b1 b2 b3) (vD hp hT r λt ht=>hb t (cN _ ht))
section
theorem fm:bc ["_law_script","_law_pot_here","_law_triples","_law_things","_law_k","_law_handed_here","_law_due"] ["_law_script"] (aE gr):=by walk_at"sc"
theorem E5 {f f1 f2 f3 f4 f5 f6 f7 f8 f9 f10:Addr} {d d1 d2 d3 d4 d5 d6 d7 d8 d9 d10:FuncData} (U:Fun K "law" "law" gr f d) (T:cH mg) (mR:mg "repr" = none) (kS:(K.lookup sysModules).isSome=true)
  (GP:Use P w K mg base 2 "_law_pot" ["_law_script","_law_k"] (xk K) f1 d1) (GH:Use P w K mg base 2 "_law_handed" ["_law_pot_here","_law_triples"] uM f2 d2) (GN:Use P w K mg base 2 "_law_named" ["_law_pot_here","_law_triples"] vG f3 d3)
  (GL:Use P w K mg base 4 "_law_skin" ["_law_pot_here","_law_most"] vH f4 d4) (GD:Use P w K mg base 1 "_law_digit" ["_law_pot_here","_law_base"] fJ f5 d5) (GW:Use P w K mg base 3 "_law_drawn" ["_law_pot_here","_law_most"] qo f6 d6)
  (GS:Use P w K mg base 3 "_law_spoilt" ["_law_pot_here","_law_things"] (ue K) f7 d7) (GF:Use P w K mg base 3 "_law_fault" ["_law_things"] (uL K) f8 d8) (GM:Use P w K mg base 3 "_law_made" ["_law_fault_here","_law_pot_here"] wF f9 d9) (GA:Use P w K mg base 7 "_law_answer" ["_law_things"] (uO K) f10 d10) :
  ag P w K mg base CX0 8 f d ["_law_script"] (lX K):=by
 refine U.ok fm (λvs H Q E h=>?_) (λcdv A outer s H vs Q E hr h=>?_)
 .obtain⟨a,ns,rfl,_⟩:=h;rfl
 .obtain⟨a,ns,rfl,hns,hnl,q⟩:=h;have hr1:=hr.mono (show 1<=7 by decide);have hr2:=hr.mono (show 2<=7 by decide);have hr3:=hr.mono (show 3<=7 by decide);have hr4:=hr.mono (show 4<=7 by decide);have hline:=line5000;refine⟨_,(ah (az (i:=1) fm.nd rfl (.inl rfl) (aw GP.g hr2 rfl GP.m GP.k GP.b .nil pass0 (aa (pv 0) (aa ai ae))))
   (ah (az (i:=2) fm.nd rfl (.inl rfl) (aw GL.g hr4 rfl GL.m GL.k GL.b .nil pass0 (aa (pv 1) (aa ai ae))))
   (ah (br (ba eK (aw GD.g hr1 rfl GD.m GD.k GD.b .nil pass0 (aa (pv 1) (aa ai ae))) ai (nomark _)) (ao (az (i:=2) fm.nd rfl (.inl rfl) (aw GW.g hr3 rfl GW.m GW.k GW.b .nil pass0 (aa (pv 1) (aa ai ae))))) bK)
   (ah (az (i:=3) fm.nd rfl (.inl rfl) (aw GH.g hr2 rfl GH.m GH.k GH.b .nil pass0 (aa (pv 1) (aa (aw GN.g hr2 rfl GN.m GN.k GN.b .nil pass0 (aa (pv 1) (aa (pv 2) ae))) ae))))
   (ah (az (i:=1) fm.nd rfl (.inl rfl) (aw GP.g hr2 rfl GP.m GP.k GP.b .nil pass0 (aa (pv 0) (aa ai ae))))
   (ah (cD cI rfl (jo rfl T.range (aa (aw GD.g hr1 rfl GD.m GD.k GD.b .nil pass0 (aa (pv 1) (aa ai ae))) ae)) (ay (i:=4) fm.nd rfl (.inl rfl)) (ao (cU (aw GS.g hr3 rfl GS.m GS.k GS.b .nil pass0 (aa (pv 1) (aa (pv 3) ae))))))
   (ah (br (ba eK (aw GD.g hr1 rfl GD.m GD.k GD.b .nil pass0 (aa (pv 1) (aa ai ae))) ai (nomark _))
    (ao (az (i:=3) fm.nd rfl (.inl rfl) (aA fN (pv 3) (dO (N:=["_law_i"]) (fr:=[none]) (nH (by decide +kernel) rfl (by decide +kernel) (by decide +kernel)) rfl
     (AA rfl T.range (aa ai (aa (aA cy (aA fM ai (aA ib ai (aL c9 (by rfl) T.len di (aa (pv 3) ae)))) (aA fM ai (aw GD.g hr1 rfl GD.m GD.k GD.b .nil pass0 (aa (pv 1) (aa ai ae))))) (aa ai ae))))
     (λC s H fp pins=>⟨ay (i:=0) (show (["_law_i"]:List Str).Nodup by decide +kernel) rfl (.inl rfl) (.inr rfl),eO,aI (aa (aA cy ai (pv 0)) (aa (aA cy ai (pv 0)) (aa ai ae)))⟩))))) bK)
   (ah (az (i:=5) fm.nd rfl (.inl rfl) (er zt (by rfl) T.list yj (aa (pv 3) ae)))
   (ah (az (i:=6) fm.nd rfl (.inl rfl) (aw GF.g hr3 rfl GF.m GF.k GF.b .nil pass0 (aa (pv 3) ae)))
   (ah (br (ba E2 (pv 6) qO (nomark _)) (ao (az (i:=6) fm.nd rfl (.inl rfl) (aI (aa cw ae)))) bK)
   (ah (br (eA (cQ (aw GM.g hr3 rfl GM.m GM.k GM.b .nil pass0 (aa (pv 6) (aa (pv 1) ae))))) (ao (aX eR)) bK)
   (ao (aX (h_ (fg (wM hr.units) (aw GA.g hr rfl GA.m GA.k GA.b .nil pass0 (aa (pv 5) ae)) (pv 6) (nomark _)) (jK (fg eK (aL (tS hr.units hr.gu kS) (by rfl) mR ID (aa (pv 5) ae)) (aL (tS hr.units hr.gu kS) (by rfl) mR ID (aa (pv 3) ae)) (nomark _))))))))))))))))),?_⟩
  refine⟨_,rfl,a,ns,1,rfl,hns,by decide,by decide,λp H1 hp s1 y1=>?_⟩;refine⟨_,rfl,p,_,rfl,y1,uZ ns (by decide) (by decide),λr vr ts q1 H2 nrp bt2 hp2 pok2 yr tr lts g _=>?_⟩;have ha2:SqL [] H2 a (ns.map V.int):=CV hp hns λb o n e=>bt2 _ _ n (s1 _ _ e);dsimp only [qX,dg];have na:a≠p:=λz=>by
   subst z;rcases hns with (e|⟨o,e⟩)|⟨_,_,_,e,_⟩
   .rw[hp] at e;cases e
   .rw[hp] at e;cases e
   .cases e
  refine iI (λZ H'=>∃r vr ts q',Z=[some (.ref a),some (.ref p),some (.ref r),none,none,none,none]/\r≠p/\SqL [] H' a (ns.map V.int)/\H' p=some (.lst (bo q'))/\bu q'/\H' r=some (.lst vr)/\aG H' vr ts/\ts.length<=20/\Good ts) (λNX hOut=>?_) ?_
  .refine⟨_,rfl,p,q1,3,rfl,hp2,pok2,by decide,by decide +kernel,λH3 k3 y3=>⟨rfl,_,rfl,ite2 (λ_=>?_) λ_=>?_⟩⟩
   .refine⟨_,rfl,p,_,16,rfl,y3,a9 pok2,by decide,λr2 vr2 ts2 q2 H4 hr2' bt4 hp4 pok4 yr4 tr4 l4 g4=>hOut _ _ ⟨r2,vr2,ts2,q2,rfl,?_,?_,hp4,pok4,yr4,tr4,by lia,g4⟩⟩
    .intro z;rw[z,y3] at hr2';cases hr2'
    .exact qG na ha2 λb o n e=>bt4 _ _ n ((k3 b n).trans e)
   .exact hOut _ _ ⟨r,vr,ts,_,rfl,nrp,qG na ha2 λb o n e=>(k3 b n).trans e,y3,a9 pok2,(k3 r nrp).trans yr,vz (λb o n e=>(k3 b n).trans e) hp2 tr,lts,g⟩
  clear ha2 bt2 hp2 pok2 yr tr lts g nrp s1 y1;rintro Z H4 ⟨r,vr,ts,q4,rfl,nrp,ha4,hp4,pok4,yr,tr,lts,g⟩;refine⟨_,rfl,_,rfl,_,rfl,p,r,q4,vr,ts,rfl,hp4,pok4,yr,nrp,tr,by lia,g,λr2 vr2 ts2 q2 H5 hr5 bt5 hp5 pok5 yr5 tr5 ll5 g5 hb5 _=>?_⟩;have nr2p:r2≠p:=λz=>by rw[z,hp4] at hr5;cases hr5
  refine⟨p,r2,q2,vr2,ts2,rfl,hp5,pok5,yr5,nr2p,tr5,by lia,λR vt us q3 H6 hR6 bt6 hp6 pok6 yR tR llR hpm=>?_⟩;have ha6:SqL [] H6 a (ns.map V.int):=qG na ha4 λb o n e=>bt6 _ _ n (bt5 _ _ n e);have gu:Good us:=uv g5 hpm;have hbu:∀t∈us,(t.1≠t.2.1/\t.2.1≠t.2.2/\t.2.2≠t.1)/\t.1<10 ^ 60/\t.2.1<10 ^ 60/\t.2.2<10 ^ 60:=λt ht'=>⟨gu.1 t ht',hb5 _ ((qA hpm _).mp (cG.mpr ⟨t,ht',.inl rfl⟩)),hb5 _ ((qA hpm _).mp (cG.mpr ⟨t,ht',.inr (.inl rfl)⟩)),hb5 _ ((qA hpm _).mp (cG.mpr ⟨t,ht',.inr (.inr rfl)⟩))⟩;have lu:us.length<=20:=by lia
  clear hpm gu hb5 g5 ll5 tr5 yr5 hr5 bt5 hp5 pok5 bt6 nr2p hR6 llR;refine⟨_,rfl,a,ns,2,rfl,ha6,by decide,by decide,λp' H7 hp' s7 y7=>?_⟩;have nRp:R≠p':=ak yR hp';have hR7:=s7 _ _ yR;have tg7:Tgs K p' R H7 vt (us.map some):=vC y7 hR7 (tR.same s7) hbu;have ok7:bu (potOf ns 2):=uZ ns (by decide) (by decide);generalize potOf ns 2=q7 at *;clear tR hbu s7 yR hp6 pok6 ha6 hp' ha4 hp4 pok4 yr tr lts g;refine⟨_,rfl,p',q7,4,rfl,y7,ok7,by decide,by decide +kernel,λH8 k8 y8=>?_⟩;obtain⟨w1,w2⟩:=cA (q:=q7) (b:=4) (by decide);refine⟨_,rfl,by lia,by lia,?_⟩;have hN:(digO q7 4).toNat<=3:=by lia
  generalize (digO q7 4).toNat=N at hN;refine kr (lo:=0) (n:=N) (λi Z H'=>∃ok vt' os' q',Z=[some (.ref a),some (.ref p'),some (.ref r),some (.ref R),ok,none,none]/\H' p'=some (.lst (bo q'))/\bu q'/\H' R=some (.lst vt')/\Tgs K p' R H' vt' os'/\os'.length<=20+i)
   ⟨none,vt,us.map some,_,rfl,y8,a9 ok7,(k8 R nRp).trans hR7,tg7.but (λb o n1 n2 e=>(k8 b n1).trans e),by rw[aC];lia⟩ ?_ ?_
  .rintro i Z H9 hi ⟨ok,vt',os',q',rfl,hp9,pok9,hR9,tg9,l9⟩;exact⟨_,rfl,_,rfl,p',R,q',vt',os',rfl,hp9,pok9,hR9,nRp,tg9,by lia,λvt2 os2 q2 H10 _ hp10 pok10 hR10 tg10 l10=>⟨_,vt2,os2,q2,rfl,hp10,pok10,hR10,tg10,by lia⟩⟩
  clear tg7 hR7 y7 k8 y8 ok7;rintro Z H9 ⟨ok,vt',os',q9,rfl,hp9,pok9,hR9,tg9,l9⟩;have lvt:=aN tg9;dsimp only;refine iI (λZ H'=>∃T vt os q',Z=[some (.ref a),some (.ref p'),some (.ref r),some (.ref T),ok,none,none]/\H' p'=some (.lst (bo q'))/\bu q'/\H' T=some (.lst vt)/\T≠p'/\Tgs K p' R H' vt os/\os.length<=300) (λNX hOut=>?_) ?_
  .refine⟨_,rfl,p',q9,16,rfl,hp9,pok9,by decide,by decide +kernel,λH10 k10 y10=>⟨rfl,_,rfl,ite2 (λ_=>?_) λ_=>?_⟩⟩
   .have hR10:=(k10 R nRp).trans hR9;refine⟨_,rfl,_,rfl,R,vt',rfl,.inl (SqL.of hR10),_,_,rfl,rfl,_,_,rfl,rfl,.inl ⟨by lia,by lia⟩,_,rfl,p',nxt q9 16,3,rfl,y10,a9 pok9,by decide,by decide +kernel,λH11 k11 y11=>?_⟩;obtain⟨x1,x2⟩:=cA (q:=nxt q9 16) (b:=3) (by decide);obtain⟨m,hm,hm2⟩:∃m:Nat,2*(200-(vt'.length:Int))+2*digO (nxt q9 16) 3=2*(m:Int)/\m<=202:=⟨(200-(vt'.length:Int)+digO (nxt q9 16) 3).toNat,by lia,by lia⟩;refine⟨_,_,rfl,rfl,.inl ⟨by lia,by lia⟩,_,_,rfl,rfl,m,congrArg (λz:Int=>[V.int 0,V.int z,V.int 2]) hm,by lia,λZ_ hZ=>zL (n:=m) (λi Z ys H'=>∃o ts',Z=[o]/\Same H11 H'/\H' Z_=some (.lst ys)/\aG H' ys ts'/\ts'.length=i/\∀t∈ts',t.1<10 ^ 60/\t.2.1<10 ^ 60/\t.2.2<10 ^ 60)
     ⟨none,[],rfl,cu hZ,aO,.nil,rfl,by simp⟩ ?_ ?_⟩
    .rintro i Z ys H' hi ⟨o,ts',rfl,sm,hZ',tr',lt',bd'⟩;refine⟨_,rfl,_,_,rfl,rfl,_,rfl,_,_,rfl,rfl,lit3,λt Ht gt st yt=>⟨st _ _ hZ',by rw[aN tr'];lia,λHn kn yn=>⟨_,ts'++[(7+2*i,8+2*i,300)],rfl,λb o e=>(kn b (ak e hZ)).trans (st _ _ (sm _ _ e)),yn,?_,by rw[aZ,lt'];rfl,λx hx=>?_⟩⟩⟩
     .have keep:∀{b:Addr} {xs:List V},Ht b=some (.tup xs)->Hn b=some (.tup xs):=λ{b} {xs} e=>(kn b (eG e (st _ _ hZ'))).trans e;refine dz (Paired.imp' (λ_ _ ⟨b',e1,e2⟩=>⟨b',e1,keep (st _ _ e2)⟩) tr') (.cons ⟨t,rfl,keep ?_⟩ .nil);rw[yt];show some (HO.tup [V.int (7+2*(i:Int)),V.int (8+2*(i:Int)),V.int 300])=some (HO.tup [V.int ((7+2*i:Nat):Int),V.int ((8+2*i:Nat):Int),V.int ((300:Nat):Int)]);rw[show (7+2*(i:Int))=((7+2*i:Nat):Int) by lia,show (8+2*(i:Int))=((8+2*i:Nat):Int) by lia];rfl
     .rcases bh.mp hx with hx|hx
      .exact bd' x hx
      .rw[aV.mp hx];exact⟨gQ (by show 7+2*i<=1000;lia),gQ (by show 8+2*i<=1000;lia),gQ (by show 300<=1000;decide)⟩
    .rintro Z ys H12 ⟨o,ts',rfl,s12,hZ',tr',lt',bd'⟩;have lys:=aN tr';refine⟨R,Z_,vt',ys,rfl,rfl,s12 _ _ ((k11 R nRp).trans hR10),hZ',by lia,λT2 H13 g13 s13 y13=>hOut _ _ ⟨T2,_,os'++ts'.map (λt=>eJ [some (t.1:Int),some (t.2.1:Int),some (t.2.2:Int)]),_,rfl,s13 _ _ (s12 _ _ y11),a9 (a9 pok9),y13,?_,?_,by rw[aZ,aC];lia⟩⟩
     .intro z;rw[z,s12 _ _ y11] at g13;cases g13
     .have b13:cR p' R H9 H13:=λb o n1 n2 e=>s13 _ _ (s12 _ _ ((k11 b n1).trans ((k10 b n1).trans e)));exact dz (tg9.but b13) (vD (s13 _ _ (s12 _ _ y11)) (s13 _ _ (s12 _ _ ((k11 R nRp).trans hR10))) (tr'.same s13) bd')
   .exact hOut _ _ ⟨R,vt',os',_,rfl,y10,a9 pok9,(k10 R nRp).trans hR9,nRp,tg9.but (λb o n1 n2 e=>(k10 b n1).trans e),by lia⟩
  clear tg9 l9 hR9 hp9 pok9 lvt;rintro Z H10 ⟨T0,vt0,os,q10,rfl,hp10,pok10,hT10,nTp,tg10,l10⟩;refine⟨_,rfl,T0,vt0,rfl,.inl (SqL.of hT10),λl H11 gl s11 yl=>?_⟩;have tg11:=tg10.but (.of s11);have hT11:=s11 _ _ hT10;have hp11:=s11 _ _ hp10;have nlp:l≠p':=λz=>by rw[z,hp10] at gl;cases gl
  have bd:=qC tg11;clear tg10 hT10 hp10 gl s11;dsimp only [qX,dg];refine iI (λZ H'=>∃o v,Z=[some (.ref a),some (.ref p'),some (.ref r),some (.ref T0),ok,some (.ref l),some v]/\fj os o/\Same H11 H'/\(o=none/\v=.non\/∃fl d,o=some fl/\v=.ref d/\dC H' d fl)) (λNX hOut=>?_) ?_
  .exact⟨_,rfl,T0,vt0,os,rfl,hT11,tg11.ths,by lia,λH' fi sm=>hOut _ _ ⟨none,_,rfl,fi,sm,.inl ⟨rfl,rfl⟩⟩,λfl d H' fi sm hv=>hOut _ _ ⟨some fl,_,rfl,fi,sm,.inr ⟨fl,d,rfl,rfl,hv⟩⟩⟩
  rintro Z H12 ⟨o,v,rfl,fi,s12,hv⟩;refine iI (λZ H'=>∃d,Z=[some (.ref a),some (.ref p'),some (.ref r),some (.ref T0),ok,some (.ref l),some (.ref d)]/\Same H11 H'/\eW H' d o) (λNX hOut=>?_) ?_
  .refine⟨_,rfl,rfl,_,rfl,?_⟩;rcases hv with ⟨rfl,rfl⟩|⟨fl,d,rfl,rfl,hv⟩
   .exact a6 ⟨lit1,λt H13 g13 s13 y13=>hOut _ _ ⟨t,rfl,s12.trans s13,y13⟩⟩
   .exact aP (hOut _ _ ⟨d,rfl,s12,hv⟩)
  clear hv s12;rintro Z H13 ⟨d,rfl,s13,hA⟩;have hB:=DM (by lia) bd fi;refine⟨_,rfl,_,rfl,d,p',o,q10,rfl,hA,hB,s13 _ _ hp11,pok10,λq14 H14 b14 _ _=>⟨true,rfl,iY ?_⟩⟩;have hA14:=hA.but (s13 _ _ hp11) b14;have hT14:=b14 _ _ nTp (s13 _ _ hT11);have hl14:=b14 _ _ nlp (s13 _ _ yl);have tg14:Tgs K p' R H14 vt0 os:=tg11.but λb o n1 n2 e=>b14 _ _ n1 (s13 _ _ e);clear b14 hA tg11 s13 yl hT11 hp11;refine⟨_,rfl,l,vt0,os,rfl,hl14,tg14.ths,by lia,bd,λo2 a2 H15 fi2 sm hA2=>?_⟩;cases fault_one fi fi2;obtain⟨ds,hds,lds,sh⟩:=wz sm.1 tg14 sm.2;have lv:=aN tg14;obtain⟨sh1,sh2,sh3⟩:=AU (by lia) sh;refine⟨_,rfl,gz o,gz o,hA2.dt,(hA14.sm sm.1).dt,FK hB,_,rfl,?_⟩;have ee:(if false=true then !PyData.eqv (gz o) (gz o) else PyData.eqv (gz o) (gz o))=true:=qd (FJ o);rw[KI ee];refine⟨_,rfl,l,vt0,ds,rfl,sm.1.keep hl14 (λz=>z),hds,sh1,sh2,sh3,_,rfl,T0,vt0,ds,rfl,sm.1.keep hT14 (λz=>z),hds,sh1,sh2,sh3,rfl,?_⟩;rw[KJ rfl];exact q H15
end
theorem len1 (h:us.length=1):∃a,us=[a]:=List.length_eq_one_iff.mp h
theorem len2 (h:us.length=2):∃a b,us=[a,b]:=by obtain⟨a,r,rfl⟩:=List.exists_cons_of_length_eq_add_one h;obtain⟨b,rfl⟩:=len1 (Nat.succ.inj h);exact⟨a,b,rfl⟩
structure Top (K:W.Frag) (mg:Str->Option Value) (x:Str) (st:Stmt) (f:Addr) (fd:FuncData):Prop where
 u:Fun K x x st f fd
 m:mg x=some (.ref f)
structure InC (K:W.Frag) (C:Addr) (x q:Str) (st:Stmt) (f:Addr) (fd:FuncData):Prop where
 u:Fun K x q st f fd
 m:Meth K C x f
theorem wx {h:Heap} {x:Str} {st:Stmt} {f:Addr} {oc:Value} {od an:Option Addr} {osl:Array (Option Value)} {kV doc pm cdv ct:Value} (X:K.In h) (G:h.Ns mainGlobals mg)
  (a:W.nsIn K mainGlobals x=some (some (.ref f))) (l:K.lookup f=some ⟨oc,od,.func (W.fnOf x x (dw st) (cW st) (aE st) .none kV doc pm an cdv ct),osl⟩) (c:W.codeIn K cdv x=true) (k:W.keepIn K (.ref f)=true) :
  Top K mg x st f (W.fnOf x x (dw st) (cW st) (aE st) .none kV doc pm an cdv ct):=⟨wV (st:=st) l c k,dH X G a⟩
theorem oH {C:Addr} {x q:Str} {st:Stmt} {f:Addr} {oc:Value} {od an:Option Addr} {osl:Array (Option Value)} {kV doc pm cdv ct:Value}
  (a:W.findIn K (.ref C) x=some (some (.ref f))) (i:W.isFn K (.ref f)=true) (l:K.lookup f=some ⟨oc,od,.func (W.fnOf x q (dw st) (cW st) (aE st) .none kV doc pm an cdv ct),osl⟩) (c:W.codeIn K cdv q=true) (k:W.keepIn K (.ref f)=true) :
  InC K C x q st f (W.fnOf x q (dw st) (cW st) (aE st) .none kV doc pm an cdv ct):=⟨wV (st:=st) l c k,⟨a,i,k⟩⟩
def bM (K:W.Frag) (x:Str) (st:Stmt):Prop:=∃(f:Addr) (oc:Value) (od an:Option Addr) (sl:Array (Option Value)) (kV dc pm cd ct:Value),W.nsIn K mainGlobals x=some (some (.ref f))/\K.lookup f=some ⟨oc,od,.func (W.fnOf x x (dw st) (cW st) (aE st) .none kV dc pm an cd ct),sl⟩/\W.codeIn K cd x=true/\W.keepIn K (.ref f)=true
theorem top_in {x:Str} {st:Stmt} {f:Addr} {oc:Value} {od an:Option Addr} {sl:Array (Option Value)} {kV dc pm cd ct:Value} (a:W.nsIn K mainGlobals x=some (some (.ref f))) (l:K.lookup f=some ⟨oc,od,.func (W.fnOf x x (dw st) (cW st) (aE st) .none kV dc pm an cd ct),sl⟩) (c:W.codeIn K cd x=true) (k:W.keepIn K (.ref f)=true):bM K x st:=⟨f,oc,od,an,sl,kV,dc,pm,cd,ct,a,l,c,k⟩
theorem bO {h:Heap} {x:Str} {st:Stmt} (X:K.In h) (G:h.Ns mainGlobals mg) (t:bM K x st):∃f d,Top K mg x st f d:=by obtain⟨f,oc,od,an,sl,kV,dc,pm,cd,ct,a,l,c,k⟩:=t;exact⟨_,_,wx (st:=st) X G a l c k⟩
def InK (K:W.Frag) (C:Addr) (x q:Str) (st:Stmt):Prop:=∃(f:Addr) (oc:Value) (od an:Option Addr) (sl:Array (Option Value)) (kV dc pm cd ct:Value),W.findIn K (.ref C) x=some (some (.ref f))/\W.isFn K (.ref f)=true/\K.lookup f=some ⟨oc,od,.func (W.fnOf x q (dw st) (cW st) (aE st) .none kV dc pm an cd ct),sl⟩/\W.codeIn K cd q=true/\W.keepIn K (.ref f)=true
theorem in_in {C:Addr} {x q:Str} {st:Stmt} {f:Addr} {oc:Value} {od an:Option Addr} {sl:Array (Option Value)} {kV dc pm cd ct:Value} (a:W.findIn K (.ref C) x=some (some (.ref f))) (i:W.isFn K (.ref f)=true) (l:K.lookup f=some ⟨oc,od,.func (W.fnOf x q (dw st) (cW st) (aE st) .none kV dc pm an cd ct),sl⟩) (c:W.codeIn K cd q=true) (k:W.keepIn K (.ref f)=true):InK K C x q st:=⟨f,oc,od,an,sl,kV,dc,pm,cd,ct,a,i,l,c,k⟩
def ckE (K:W.Frag) (S c0 c1 c2 c3 c4 D:Addr) (i:Nat):Bool:=W.findIn K (.ref D) "__getattribute__"==some (some (.builtin "BaseException.__getattribute__"))&&(W.findIn K (.ref D) "__getattr__"==some none&&(W.findIn K (.ref D) "__class__"==some (some (.builtin "object.__class__"))&&(W.mroIn K D (.type "object")==some true&&(W.mroIn K D (.type "BaseException")==some true&&((W.clsIn K D).isSome &&
 (W.kitOne K (.ref D) (.ref S)==some true&&(W.kitOne K (.ref D) (.type "ValueError")==some true&&(W.kitOne K (.ref D) (.ref c0)==some (i==0)&&(W.kitOne K (.ref D) (.ref c1)==some (i==1)&&(W.kitOne K (.ref D) (.ref c2)==some (i==2)&&(W.kitOne K (.ref D) (.ref c3)==some (i==3)&&W.kitOne K (.ref D) (.ref c4)==some (i==4))))))))))))
def ckA (K:W.Frag) (S:Addr) (gs tw:List Addr) (D:Addr):Bool:=(L2.clsIn K D).any (λbm=>(Value.ref D::bm).contains (.ref S))&&(W.kitAny K (.ref D) (gs.map Value.ref)==some false&&W.kitAny K (.ref D) (tw.map Value.ref)==some false)
def ckF (K:W.Frag) (D:Addr) (f:Str):Bool:=W.findIn K (.ref D) "__setattr__"==some (some (.builtin "object.__setattr__"))&&(W.mroIn K D (.type "object")==some true&&((W.clsIn K D).any (λcd=>n_ cd.mro)&&(W.findIn K (.ref D) f==some none&&(W.clsIn K D).any (·.hasDict))))
def ckM (K:W.Frag) (D:Addr):Bool:=ia K D&&W.keepIn K (.ref D)
def ckN (K:W.Frag) (D:Addr):Bool:=W.excIn K D bmV "ValueError.__new__"&&W.keepIn K (.ref D)
def ckS (K:W.Frag) (S:Addr):Bool:=(L2.clsIn K S).any (λbm=>bm.contains (.type "BaseException"))&&(W.specialIn K (.ref S) "__getattribute__"==some (some (.builtin "type.__getattribute__"))&&(W.readsIn K S (.type "type")&&(W.specialIn K (.builtin "object.__class__") "__get__"==some (some (.builtin "getset_descriptor.__get__"))&&(W.takesIn K (.builtin "object.__class__")==some true&&(K.lookup sysModules).isSome))))
section
variable {S c0 c1 c2 c3 c4 D:Addr} {i:Nat}
theorem lV (s:ckS K S=true) (h:ckE K S c0 c1 c2 c3 c4 D i=true):Mdk K S c0 c1 c2 c3 c4 D i:=by simp only[ckE,ckS,eC,beq_iff_eq] at h s;obtain⟨_,_,_,s1,s2,_⟩:=s;obtain⟨h1,h2,h3,h4,h5,h6,h7,h8,h9,h10,h11,h12,h13⟩:=h;exact⟨⟨h1,h2,h3,s1,s2,h4,h5,h6⟩,h7,h8,h9,h10,h11,h12,h13⟩
theorem qT {f:Str} (h:ckF K D f=true):dI K D f:=by simp only[ckF,eC,beq_iff_eq] at h;exact⟨h.1,h.2.1,h.2.2.1,h.2.2.2.1,h.2.2.2.2⟩
theorem xg {α:Type} {o:Option α} {p:α->Bool} (h:o.any p=true):∃a,o=some a/\p a=true:=by
 cases o with
 |none=>cases h
 |some a=>exact⟨a,rfl,h⟩
theorem w_ {gs tw:List Addr} {b:Bool} (m:Mdk K S c0 c1 c2 c3 c4 D i) (h:ckA K S gs tw D=true) (e0:(i==0)=b) (e3:(i==3)=!b):Knd K D S c0 c3 gs tw b:=by simp only[ckA,eC,beq_iff_eq] at h;exact⟨m.xc,xg h.1,h.2.1,h.2.2,m.val,by rw[<-e0];exact m.k0,by rw[<-e3];exact m.k3⟩
end
section
theorem all_ok {f1 f2 f3 f4 f5 f6 f7 f8 f9 f10 f11 f12 f13 f14 f15 f16 f17 f18 f19 f20 f21 f22 f23 f24 f25 f26 f27 f28 f29 f30 f31 f32 f33 f34 f35 f36 f37 Cs S c0 c1 c2 c3 c4 u1 u2 u3 u4 u5 u6 u7 u8 u9:Addr} {d1 d2 d3 d4 d5 d6 d7 d8 d9 d10 d11 d12 d13 d14 d15 d16 d17 d18 d19 d20 d21 d22 d23 d24 d25 d26 d27 d28 d29 d30 d31 d32 d33 d34 d35 d36 d37:FuncData} {tM:Tok} (T:cH mg) (mSo:mg "sorted" = none) (mMi:mg "min" = none) (mMa:mg "max" = none) (mDi:mg "dict" = none) (mRe:mg "repr" = none) (X:SCls K Cs) (MF:Mk K Cs f34) (mM:mg "MOST_TRIPLES" = some (.int 200 tM))
  (mCs:mg "Skin" = some (.ref Cs))
  (mS:mg "ShapeError" = some (.ref S))
  (mc0:mg "NoSkin" = some (.ref c0))
  (mc1:mg "Spoilt" = some (.ref c1))
  (mc2:mg "NoWord" = some (.ref c2))
  (mc3:mg "TooMany" = some (.ref c3))
  (mc4:mg "Taken" = some (.ref c4))
  (mu1:mg "Gone" = some (.ref u1))
  (mu2:mg "NoCaps" = some (.ref u2))
  (mu3:mg "NoCode" = some (.ref u3))
  (mu4:mg "NoCorner" = some (.ref u4))
  (mu5:mg "NoDeed" = some (.ref u5))
  (mu6:mg "NoLetter" = some (.ref u6))
  (mu7:mg "NoPast" = some (.ref u7))
  (mu8:mg "NoSide" = some (.ref u8))
  (mu9:mg "NoText" = some (.ref u9))
  (cS:ckS K S=true) (y3:W.findCls K (.ref S) (.type "type") "__init__" = some (.val (.builtin "ValueError.__init__")))
  (e0:ckE K S c0 c1 c2 c3 c4 c0 0=true)
  (e1:ckE K S c0 c1 c2 c3 c4 c1 1=true)
  (e2:ckE K S c0 c1 c2 c3 c4 c2 2=true)
  (e3:ckE K S c0 c1 c2 c3 c4 c3 3=true)
  (e4:ckE K S c0 c1 c2 c3 c4 c4 4=true)
  (a0:ckA K S [u1,u2,u3,u4,u5,u6,u7,u8,u9,c2] [c1,c4] c0=true) (a3:ckA K S [u1,u2,u3,u4,u5,u6,u7,u8,u9,c2] [c1,c4] c3=true) (o0:ckF K c0 "fault" = true) (o1:ckF K c1 "kind" = true) (o2:ckF K c2 "at" = true) (M0:eU K c0 f35) (M1:eU K c1 f36) (M2:eU K c2 f37) (n3:ckN K c3=true) (n4:ckN K c4=true)
  (U1:Top K mg "first_of" lK f1 d1)
  (U2:Top K mg "is_whole" lC f2 d2)
  (U3:Top K mg "is_corner" ko f3 d3)
  (U4:Top K mg "is_triple" km f4 d4)
  (U5:Top K mg "checked_triples" jv f5 d5)
  (U6:Top K mg "thirds_by_side" lb f6 d6)
  (U7:Top K mg "steps_by_corner" lD f7 d7)
  (U8:Top K mg "hang_together" lZ f8 d8)
  (U9:Top K mg "look_rounds_through" lH f9 d9)
  (U10:Top K mg "begun_least" lO f10 d10)
  (U11:Top K mg "_law_at" sAt f11 d11)
  (U12:Top K mg "_law_pot" mq f12 d12)
  (U13:Top K mg "_law_digit" lN f13 d13)
  (U14:Top K mg "_law_sides" lF f14 d14)
  (U15:Top K mg "_law_thirds" kY f15 d15)
  (U16:Top K mg "_law_free" l8 f16 d16)
  (U17:Top K mg "_law_corners" kL f17 d17)
  (U18:Top K mg "_law_fans" l_ f18 d18)
  (U19:Top K mg "_law_split" lE f19 d19)
  (U20:Top K mg "_law_drawn" lM f20 d20)
  (U21:Top K mg "_law_rim_sides" kj f21 d21)
  (U22:Top K mg "_law_grown" kZ f22 d22)
  (U23:Top K mg "_law_ring" lJ f23 d23)
  (U24:Top K mg "_law_beside" kJ f24 d24)
  (U25:Top K mg "_law_skin" lI f25 d25)
  (U26:Top K mg "_law_named" lG f26 d26)
  (U27:Top K mg "_law_handed" k_ f27 d27)
  (U28:Top K mg "_law_is_triple" kl f28 d28)
  (U29:Top K mg "_law_fault" jJ f29 d29)
  (U30:Top K mg "_law_spoilt" kH f30 d30)
  (U31:Top K mg "_law_answer" kK f31 d31)
  (U32:Top K mg "_law_made" jI f32 d32)
  (U33:Top K mg "law" gr f33 d33)
  (U34:InC K Cs "__init__" "Skin.__init__" fQ f34 d34)
  (U35:InC K c0 "__init__" "NoSkin.__init__" gY f35 d35)
  (U36:InC K c1 "__init__" "Spoilt.__init__" gL f36 d36)
  (U37:InC K c2 "__init__" "NoWord.__init__" gO f37 d37)
  : ag P w K mg base CX0 8 f33 d33 ["_law_script"] (lX K):=by
 have b1:=U1.u.binds (ps:=["onward"]) λ_ _ _ _ _ _ us hl=>by obtain⟨a,rfl⟩:=len1 hl;rfl
 have b2:=U2.u.binds (ps:=["thing"]) λ_ _ _ _ _ _ us hl=>by obtain⟨a,rfl⟩:=len1 hl;rfl
 have b3:=U3.u.binds (ps:=["thing"]) λ_ _ _ _ _ _ us hl=>by obtain⟨a,rfl⟩:=len1 hl;rfl
 have b4:=U4.u.binds (ps:=["thing"]) λ_ _ _ _ _ _ us hl=>by obtain⟨a,rfl⟩:=len1 hl;rfl
 have b5:=U5.u.binds (ps:=["things"]) λ_ _ _ _ _ _ us hl=>by obtain⟨a,rfl⟩:=len1 hl;rfl
 have b6:=U6.u.binds (ps:=["triples"]) λ_ _ _ _ _ _ us hl=>by obtain⟨a,rfl⟩:=len1 hl;rfl
 have b7:=U7.u.binds (ps:=["thirds"]) λ_ _ _ _ _ _ us hl=>by obtain⟨a,rfl⟩:=len1 hl;rfl
 have b8:=U8.u.binds (ps:=["about"]) λ_ _ _ _ _ _ us hl=>by obtain⟨a,rfl⟩:=len1 hl;rfl
 have b9:=U9.u.binds (ps:=["steps"]) λ_ _ _ _ _ _ us hl=>by obtain⟨a,rfl⟩:=len1 hl;rfl
 have b10:=U10.u.binds (ps:=["triple"]) λ_ _ _ _ _ _ us hl=>by obtain⟨a,rfl⟩:=len1 hl;rfl
 have b11:=U11.u.binds (ps:=["_law_script","_law_k"]) λ_ _ _ _ _ _ us hl=>by obtain⟨a,b,rfl⟩:=len2 hl;rfl
 have b12:=U12.u.binds (ps:=["_law_script","_law_k"]) λ_ _ _ _ _ _ us hl=>by obtain⟨a,b,rfl⟩:=len2 hl;rfl
 have b13:=U13.u.binds (ps:=["_law_pot_here","_law_base"]) λ_ _ _ _ _ _ us hl=>by obtain⟨a,b,rfl⟩:=len2 hl;rfl
 have b14:=U14.u.binds (ps:=["_law_triple"]) λ_ _ _ _ _ _ us hl=>by obtain⟨a,rfl⟩:=len1 hl;rfl
 have b15:=U15.u.binds (ps:=["_law_triples"]) λ_ _ _ _ _ _ us hl=>by obtain⟨a,rfl⟩:=len1 hl;rfl
 have b16:=U16.u.binds (ps:=["_law_thirds_here","_law_triple"]) λ_ _ _ _ _ _ us hl=>by obtain⟨a,b,rfl⟩:=len2 hl;rfl
 have b17:=U17.u.binds (ps:=["_law_triples"]) λ_ _ _ _ _ _ us hl=>by obtain⟨a,rfl⟩:=len1 hl;rfl
 have b18:=U18.u.binds (ps:=["_law_triples","_law_corner"]) λ_ _ _ _ _ _ us hl=>by obtain⟨a,b,rfl⟩:=len2 hl;rfl
 have b19:=U19.u.binds (ps:=["_law_triples"]) λ_ _ _ _ _ _ us hl=>by obtain⟨a,rfl⟩:=len1 hl;rfl
 have b20:=U20.u.binds (ps:=["_law_pot_here","_law_most"]) λ_ _ _ _ _ _ us hl=>by obtain⟨a,b,rfl⟩:=len2 hl;rfl
 have b21:=U21.u.binds (ps:=["_law_triples"]) λ_ _ _ _ _ _ us hl=>by obtain⟨a,rfl⟩:=len1 hl;rfl
 have b22:=U22.u.binds (ps:=["_law_pot_here","_law_most"]) λ_ _ _ _ _ _ us hl=>by obtain⟨a,b,rfl⟩:=len2 hl;rfl
 have b23:=U23.u.binds (ps:=["_law_pot_here"]) λ_ _ _ _ _ _ us hl=>by obtain⟨a,rfl⟩:=len1 hl;rfl
 have b24:=U24.u.binds (ps:=["_law_one","_law_other"]) λ_ _ _ _ _ _ us hl=>by obtain⟨a,b,rfl⟩:=len2 hl;rfl
 have b25:=U25.u.binds (ps:=["_law_pot_here","_law_most"]) λ_ _ _ _ _ _ us hl=>by obtain⟨a,b,rfl⟩:=len2 hl;rfl
 have b26:=U26.u.binds (ps:=["_law_pot_here","_law_triples"]) λ_ _ _ _ _ _ us hl=>by obtain⟨a,b,rfl⟩:=len2 hl;rfl
 have b27:=U27.u.binds (ps:=["_law_pot_here","_law_triples"]) λ_ _ _ _ _ _ us hl=>by obtain⟨a,b,rfl⟩:=len2 hl;rfl
 have b28:=U28.u.binds (ps:=["_law_thing"]) λ_ _ _ _ _ _ us hl=>by obtain⟨a,rfl⟩:=len1 hl;rfl
 have b29:=U29.u.binds (ps:=["_law_things"]) λ_ _ _ _ _ _ us hl=>by obtain⟨a,rfl⟩:=len1 hl;rfl
 have b30:=U30.u.binds (ps:=["_law_pot_here","_law_things"]) λ_ _ _ _ _ _ us hl=>by obtain⟨a,b,rfl⟩:=len2 hl;rfl
 have b31:=U31.u.binds (ps:=["_law_things"]) λ_ _ _ _ _ _ us hl=>by obtain⟨a,rfl⟩:=len1 hl;rfl
 have b32:=U32.u.binds (ps:=["_law_fault_here","_law_pot_here"]) λ_ _ _ _ _ _ us hl=>by obtain⟨a,b,rfl⟩:=len2 hl;rfl
 have b34:=U34.u.binds (ps:=["self","triples"]) λ_ _ _ _ _ _ us hl=>by obtain⟨a,b,rfl⟩:=len2 hl;rfl
 have b35:=U35.u.binds (ps:=["self","fault"]) λ_ _ _ _ _ _ us hl=>by obtain⟨a,b,rfl⟩:=len2 hl;rfl
 have b36:=U36.u.binds (ps:=["self","kind"]) λ_ _ _ _ _ _ us hl=>by obtain⟨a,b,rfl⟩:=len2 hl;rfl
 have b37:=U37.u.binds (ps:=["self","at"]) λ_ _ _ _ _ _ us hl=>by obtain⟨a,b,rfl⟩:=len2 hl;rfl
 have kt:oW K:=⟨rfl,rfl,rfl⟩;have k0:=lV cS e0;have k1:=lV cS e1;have k2:=lV cS e2;have k3:=lV cS e3;have k4:=lV cS e4;have x0:=qT o0;simp only[ckS,eC,beq_iff_eq] at cS;simp only[ckN,eC] at n3 n4;obtain⟨s1,s2,s3,_,_,s6⟩:=cS;have bS:BInit K S:=⟨s2,s3,y3⟩;have g2:ag P w K mg base CX0 _ _ _ _ _:=AC U2.u T kt;have g3:ag P w K mg base CX0 _ _ _ _ _:=zq U3.u g2 b2 U2.m U2.u.kp;have g1:ag P w K mg base CX0 _ _ _ _ _:=BZ U1.u T mMi;have g4:ag P w K mg base CX0 _ _ _ _ _:=zp U4.u T kt g3 b3 U3.m U3.u.kp;have g35:ag P w K mg base CX0 _ _ _ _ _:=AG U35.u mS bS;have g36:ag P w K mg base CX0 _ _ _ _ _:=AE U36.u mS bS;have g37:ag P w K mg base CX0 _ _ _ _ _:=AF U37.u mS bS;have g5:ag P w K mg base (CX1 P w) _ _ _ _ _:=zC U5.u T g4 b4 U4.m U4.u.kp M0 x0 g35 b35 mc0;have g6:ag P w K mg base (CX1 P w) _ _ _ _ _:=z7 U6.u T M0 x0 g35 b35 mc0;have g7:ag P w K mg base CX0 _ _ _ _ _:=BQ U7.u;have g8:ag P w K mg base CX0 _ _ _ _ _:=DA U8.u T mDi g1 b1 U1.m U1.u.kp;have g9:ag P w K mg base (CX1 P w) _ _ _ _ _:=BX U9.u mSo g8 b8 U8.m U8.u.kp M0 x0 g35 b35 mc0;have g10:ag P w K mg base CX0 _ _ _ _ _:=B2 U10.u mMi;have g34:ag P w K mg base (CX1 P w) _ _ _ _ _:=BS U34.u T mSo mM X mc3 n3.1 g5 b5 U5.m U5.u.kp g6 b6 U6.m U6.u.kp g7 b7 U7.m U7.u.kp g9 b9 U9.m U9.u.kp g10 b10 U10.m U10.u.kp;have g12:ag P w K mg base CX0 _ _ _ _ _:=E4 U12.u U11.u b11 U11.m U11.u.kp T;have g13:ag P w K mg base CX0 _ _ _ _ _:=B1 U13.u;have g14:ag P w K mg base CX0 _ _ _ _ _:=BU U14.u;have g15:ag P w K mg base CX0 _ _ _ _ _:=AD U15.u;have g16:ag P w K mg base CX0 _ _ _ _ _:=DB U16.u T g14 b14 U14.m U14.u.kp;have g17:ag P w K mg base CX0 _ _ _ _ _:=zZ U17.u mSo;have g18:ag P w K mg base CX0 _ _ _ _ _:=DC U18.u mSo g15 b15 U15.m U15.u.kp;have g19:ag P w K mg base CX0 _ _ _ _ _:=BR U19.u T mMa (g17.mono (by decide)) b17 U17.m U17.u.kp g18 b18 U18.m U18.u.kp;have g20:ag P w K mg base CX0 _ _ _ _ _:=B0 U20.u T (g13.mono (by decide)) b13 U13.m U13.u.kp (g15.mono (by decide)) b15 U15.m U15.u.kp g16 b16 U16.m U16.u.kp;have g21:ag P w K mg base CX0 _ _ _ _ _:=E3 U21.u mSo g15 b15 U15.m U15.u.kp;have g22:ag P w K mg base CX0 _ _ _ _ _:=BY U22.u T (g13.mono (by decide)) b13 U13.m U13.u.kp (g15.mono (by decide)) b15 U15.m U15.u.kp g16 b16 U16.m U16.u.kp g21 b21 U21.m U21.u.kp (g17.mono (by decide)) b17 U17.m U17.u.kp;have g23:ag P w K mg base CX0 _ _ _ _ _:=Dy U23.u T mMa (g13.mono (by decide)) b13 U13.m U13.u.kp (g17.mono (by decide)) b17 U17.m U17.u.kp (g14.mono (by decide)) b14 U14.m U14.u.kp;have g24:ag P w K mg base CX0 _ _ _ _ _:=AJ U24.u T mMa (g17.mono (by decide)) b17 U17.m U17.u.kp;have g25:ag P w K mg base CX0 _ _ _ _ _:=BW U25.u (g13.mono (by decide)) b13 U13.m U13.u.kp g23 b23 U23.m U23.u.kp g19 b19 U19.m U19.u.kp g24 b24 U24.m U24.u.kp g22 b22 U22.m U22.u.kp g20 b20 U20.m U20.u.kp;have g26:ag P w K mg base CX0 _ _ _ _ _:=BV U26.u T g13 b13 U13.m U13.u.kp g17 b17 U17.m U17.u.kp;have g27:ag P w K mg base CX0 _ _ _ _ _:=AI U27.u T g13 b13 U13.m U13.u.kp;have g28:ag P w K mg base CX0 _ _ _ _ _:=zo U28.u T kt;have g29:ag P w K mg base CX0 _ _ _ _ _:=AH U29.u T g28 b28 U28.m U28.u.kp g14 b14 U14.m U14.u.kp (g17.mono (by decide)) b17 U17.m U17.u.kp g18 b18 U18.m U18.u.kp;have g30:ag P w K mg base CX0 _ _ _ _ _:=zY U30.u T (g13.mono (by decide)) b13 U13.m U13.u.kp (g28.mono (by decide)) b28 U28.m U28.u.kp (g17.mono (by decide)) b17 U17.m U17.u.kp;have g31:ag P w K mg base CX0 _ _ _ _ _:=AK U31.u T MF mCs g34 b34 mS (xg s1) mc0 mc3 mu1 mu2 mu3 mu4 mu5 mu6 mu7 mu8 mu9 mc2 mc1 mc4 x0 (w_ k0 a0 rfl rfl) (w_ k3 a3 rfl rfl);have g32:ag P w K mg base CX0 _ _ _ _ _:=Dz U32.u T g13 b13 U13.m U13.u.kp M0 g35 b35 mc0 x0 M1 g36 b36 mc1 (qT o1) M2 g37 b37 mc2 (qT o2) mc3 n3.1 n3.2 mc4 n4.1 n4.2 mS k0 k1 k2 k3 k4;exact E5 U33.u T mRe s6 ⟨g12,b12,U12.m,U12.u.kp⟩ ⟨g27,b27,U27.m,U27.u.kp⟩ ⟨g26,b26,U26.m,U26.u.kp⟩ ⟨g25,b25,U25.m,U25.u.kp⟩ ⟨g13,b13,U13.m,U13.u.kp⟩ ⟨g20,b20,U20.m,U20.u.kp⟩ ⟨g30,b30,U30.m,U30.u.kp⟩ ⟨g29,b29,U29.m,U29.u.kp⟩ ⟨g32,b32,U32.m,U32.u.kp⟩ ⟨g31,b31,U31.m,U31.u.kp⟩
end
theorem all_mk {l:W.OpenLaw} {h:Heap} {fa Cs S c0 c1 c2 c3 c4 u1 u2 u3 u4 u5 u6 u7 u8 u9:Addr} {tM:Tok} (X:K.In h) (G:h.Ns mainGlobals mg) (hfa:mg "law" = some (.ref fa))
  (aCs:W.nsIn K mainGlobals "Skin" = some (some (.ref Cs)))
  (aS:W.nsIn K mainGlobals "ShapeError" = some (some (.ref S)))
  (ac0:W.nsIn K mainGlobals "NoSkin" = some (some (.ref c0)))
  (ac1:W.nsIn K mainGlobals "Spoilt" = some (some (.ref c1)))
  (ac2:W.nsIn K mainGlobals "NoWord" = some (some (.ref c2)))
  (ac3:W.nsIn K mainGlobals "TooMany" = some (some (.ref c3)))
  (ac4:W.nsIn K mainGlobals "Taken" = some (some (.ref c4)))
  (au1:W.nsIn K mainGlobals "Gone" = some (some (.ref u1)))
  (au2:W.nsIn K mainGlobals "NoCaps" = some (some (.ref u2)))
  (au3:W.nsIn K mainGlobals "NoCode" = some (some (.ref u3)))
  (au4:W.nsIn K mainGlobals "NoCorner" = some (some (.ref u4)))
  (au5:W.nsIn K mainGlobals "NoDeed" = some (some (.ref u5)))
  (au6:W.nsIn K mainGlobals "NoLetter" = some (some (.ref u6)))
  (au7:W.nsIn K mainGlobals "NoPast" = some (some (.ref u7)))
  (au8:W.nsIn K mainGlobals "NoSide" = some (some (.ref u8)))
  (au9:W.nsIn K mainGlobals "NoText" = some (some (.ref u9)))
  (aM:W.nsIn K mainGlobals "MOST_TRIPLES" = some (some (.int 200 tM)))
  (h1:bM K "first_of" lK)
  (h2:bM K "is_whole" lC)
  (h3:bM K "is_corner" ko)
  (h4:bM K "is_triple" km)
  (h5:bM K "checked_triples" jv)
  (h6:bM K "thirds_by_side" lb)
  (h7:bM K "steps_by_corner" lD)
  (h8:bM K "hang_together" lZ)
  (h9:bM K "look_rounds_through" lH)
  (h10:bM K "begun_least" lO)
  (h11:bM K "_law_at" sAt)
  (h12:bM K "_law_pot" mq)
  (h13:bM K "_law_digit" lN)
  (h14:bM K "_law_sides" lF)
  (h15:bM K "_law_thirds" kY)
  (h16:bM K "_law_free" l8)
  (h17:bM K "_law_corners" kL)
  (h18:bM K "_law_fans" l_)
  (h19:bM K "_law_split" lE)
  (h20:bM K "_law_drawn" lM)
  (h21:bM K "_law_rim_sides" kj)
  (h22:bM K "_law_grown" kZ)
  (h23:bM K "_law_ring" lJ)
  (h24:bM K "_law_beside" kJ)
  (h25:bM K "_law_skin" lI)
  (h26:bM K "_law_named" lG)
  (h27:bM K "_law_handed" k_)
  (h28:bM K "_law_is_triple" kl)
  (h29:bM K "_law_fault" jJ)
  (h30:bM K "_law_spoilt" kH)
  (h31:bM K "_law_answer" kK)
  (h32:bM K "_law_made" jI)
  (h33:bM K "law" gr)
  (h34:InK K Cs "__init__" "Skin.__init__" fQ)
  (h35:InK K c0 "__init__" "NoSkin.__init__" gY)
  (h36:InK K c1 "__init__" "Spoilt.__init__" gL)
  (h37:InK K c2 "__init__" "NoWord.__init__" gO)
  (pg:W.plainGet K Cs Str.empty=true)
  (hd:W.hasDictIn K Cs=true)
  (po:W.plainOver K Cs=true)
  (sa:W.findIn K (.ref Cs) "__setattr__" = some (some (.builtin "object.__setattr__")))
  (mk:W.makesIn K Cs=true)
  (kc:W.keepIn K (.ref Cs)=true)
  (n_ordered:W.findIn K (.ref Cs) "ordered" = some none)
  (n_rising:W.findIn K (.ref Cs) "rising" = some none)
  (n_thirds:W.findIn K (.ref Cs) "thirds" = some none)
  (n_steps:W.findIn K (.ref Cs) "steps" = some none)
  (z_len:W.nsIn K mainGlobals "len" = some none)
  (z_int:W.nsIn K mainGlobals "int" = some none)
  (z_str:W.nsIn K mainGlobals "str" = some none)
  (z_isinstance:W.nsIn K mainGlobals "isinstance" = some none)
  (z_range:W.nsIn K mainGlobals "range" = some none)
  (z_list:W.nsIn K mainGlobals "list" = some none)
  (z_tuple:W.nsIn K mainGlobals "tuple" = some none)
  (z_bool:W.nsIn K mainGlobals "bool" = some none)
  (z_all:W.nsIn K mainGlobals "all" = some none)
  (z_ValueError:W.nsIn K mainGlobals "ValueError" = some none)
  (z_reversed:W.nsIn K mainGlobals "reversed" = some none)
  (z_enumerate:W.nsIn K mainGlobals "enumerate" = some none)
  (z_sorted:W.nsIn K mainGlobals "sorted" = some none)
  (z_min:W.nsIn K mainGlobals "min" = some none)
  (z_max:W.nsIn K mainGlobals "max" = some none)
  (z_dict:W.nsIn K mainGlobals "dict" = some none)
  (z_repr:W.nsIn K mainGlobals "repr" = some none)
  (y3:W.findCls K (.ref S) (.type "type") "__init__" = some (.val (.builtin "ValueError.__init__")))
  (cS:ckS K S=true)
  (e0:ckE K S c0 c1 c2 c3 c4 c0 0=true)
  (e1:ckE K S c0 c1 c2 c3 c4 c1 1=true)
  (e2:ckE K S c0 c1 c2 c3 c4 c2 2=true)
  (e3:ckE K S c0 c1 c2 c3 c4 c3 3=true)
  (e4:ckE K S c0 c1 c2 c3 c4 c4 4=true)
  (a0:ckA K S [u1,u2,u3,u4,u5,u6,u7,u8,u9,c2] [c1,c4] c0=true)
  (a3:ckA K S [u1,u2,u3,u4,u5,u6,u7,u8,u9,c2] [c1,c4] c3=true)
  (o0:ckF K c0 "fault" = true)
  (o1:ckF K c1 "kind" = true)
  (o2:ckF K c2 "at" = true)
  (r0:ckM K c0=true)
  (r1:ckM K c1=true)
  (r2:ckM K c2=true)
  (n3:ckN K c3=true)
  (n4:ckN K c4=true)
  : ∃fd:FuncData,(∀(s:Shared) (v:Value),BindsTo s fd ⟨[v],[]⟩ [("_law_script",v)])/\∀base:Heap,K.In base->base.Ns mainGlobals mg->ag l.prog w K mg base CX0 8 fa fd ["_law_script"] (lX K):=by
 obtain⟨f33,oc,od,an,sl,kV,dc,pm,cd,ct,a,l,c,k⟩:=h33;have e:=hfa.symm.trans (dH X G a);cases e;have T:cH mg:=⟨dR X G z_len,dR X G z_int,dR X G z_str,dR X G z_isinstance,dR X G z_range,dR X G z_list,dR X G z_tuple,dR X G z_bool,dR X G z_all,dR X G z_ValueError,dR X G z_reversed,dR X G z_enumerate⟩;have SC:SCls K Cs:=⟨⟨pg,hd,po,sa⟩,n_ordered,n_rising,n_thirds,n_steps⟩;simp only[ckM,eC] at r0 r1 r2;obtain⟨_,_,U1⟩:=bO X G h1;obtain⟨_,_,U2⟩:=bO X G h2;obtain⟨_,_,U3⟩:=bO X G h3;obtain⟨_,_,U4⟩:=bO X G h4;obtain⟨_,_,U5⟩:=bO X G h5;obtain⟨_,_,U6⟩:=bO X G h6;obtain⟨_,_,U7⟩:=bO X G h7;obtain⟨_,_,U8⟩:=bO X G h8;obtain⟨_,_,U9⟩:=bO X G h9;obtain⟨_,_,U10⟩:=bO X G h10;obtain⟨_,_,U11⟩:=bO X G h11;obtain⟨_,_,U12⟩:=bO X G h12;obtain⟨_,_,U13⟩:=bO X G h13;obtain⟨_,_,U14⟩:=bO X G h14;obtain⟨_,_,U15⟩:=bO X G h15;obtain⟨_,_,U16⟩:=bO X G h16;obtain⟨_,_,U17⟩:=bO X G h17;obtain⟨_,_,U18⟩:=bO X G h18;obtain⟨_,_,U19⟩:=bO X G h19;obtain⟨_,_,U20⟩:=bO X G h20;obtain⟨_,_,U21⟩:=bO X G h21;obtain⟨_,_,U22⟩:=bO X G h22;obtain⟨_,_,U23⟩:=bO X G h23;obtain⟨_,_,U24⟩:=bO X G h24;obtain⟨_,_,U25⟩:=bO X G h25;obtain⟨_,_,U26⟩:=bO X G h26;obtain⟨_,_,U27⟩:=bO X G h27;obtain⟨_,_,U28⟩:=bO X G h28;obtain⟨_,_,U29⟩:=bO X G h29;obtain⟨_,_,U30⟩:=bO X G h30;obtain⟨_,_,U31⟩:=bO X G h31;obtain⟨_,_,U32⟩:=bO X G h32;obtain⟨f34,oc34,od34,an34,sl34,kV34,dc34,pm34,cd34,ct34,a34,i34,l34,c34,k34⟩:=h34;obtain⟨f35,oc35,od35,an35,sl35,kV35,dc35,pm35,cd35,ct35,a35,i35,l35,c35,k35⟩:=h35;obtain⟨f36,oc36,od36,an36,sl36,kV36,dc36,pm36,cd36,ct36,a36,i36,l36,c36,k36⟩:=h36;obtain⟨f37,oc37,od37,an37,sl37,kV37,dc37,pm37,cd37,ct37,a37,i37,l37,c37,k37⟩:=h37;exact⟨W.fnOf "law" "law" (dw gr) (cW gr) (aE gr) .none kV dc pm an cd ct,λs v=>.of_eq rfl,λbase _ _=>all_ok T (dR X G z_sorted) (dR X G z_min) (dR X G z_max) (dR X G z_dict) (dR X G z_repr) SC ⟨mk,a34,i34,kc⟩ (dH X G aM) (dH X G aCs) (dH X G aS) (dH X G ac0) (dH X G ac1) (dH X G ac2) (dH X G ac3) (dH X G ac4) (dH X G au1) (dH X G au2) (dH X G au3) (dH X G au4) (dH X G au5) (dH X G au6) (dH X G au7) (dH X G au8) (dH X G au9) cS y3 e0 e1 e2 e3 e4 a0 a3 o0 o1 o2 ⟨r0.1,a35,beq_iff_eq.mp i35,r0.2⟩ ⟨r1.1,a36,beq_iff_eq.mp i36,r1.2⟩ ⟨r2.1,a37,beq_iff_eq.mp i37,r2.2⟩ n3 n4 U1 U2 U3 U4 U5 U6 U7 U8 U9 U10 U11 U12 U13 U14 U15 U16 U17 U18 U19 U20 U21 U22 U23 U24 U25 U26 U27 U28 U29 U30 U31 U32 (wx (st:=gr) X G a l c k) (oH (st:=fQ) a34 i34 l34 c34 k34) (oH (st:=gY) a35 i35 l35 c35 k35) (oH (st:=gL) a36 i36 l36 c36 k36) (oH (st:=gO) a37 i37 l37 c37 k37)⟩
theorem walk {l:W.OpenLaw} {q:Program} {loose:List Str} {XP:(Str->Option Value)->Heap->Prop} {YP:World->Heap->Prop} {d:DefRec} {K:Params->W.Frag} (hn:l.most=some 63) (hdf:d.params.defaults=[])
  (hY:∀(w:World) (h:Heap),YP w h->(K w.params).In h) (hL:∀(w:World) (a:Addr) (o:Obj),(K w.params).lookup a=some o->o.cls≠.type "list")
  (F:∀(w:World) (mg:Str->Option Value) (fa:Addr) (h:Heap),(K w.params).In h->h.Ns mainGlobals mg->mg d.name=some (.ref fa)->
   ∃fd:FuncData,(∀(s:Shared) (u:Value),BindsTo s fd ⟨[u],[]⟩ [("_law_script",u)])/\∀base:Heap,(K w.params).In base->base.Ns mainGlobals mg->ag l.prog w (K w.params) mg base CX0 8 fa fd ["_law_script"] (lX (K w.params))) :
  W.WalkO q loose XP YP l.row.toRowW d [] (λf vs=>PySem.call f vs):=
 L2.walk_of (n:=63) (k:=8) (x:="_law_script") (CX:=λ_=>CX0) (sp:=λw=>lX (K w.params)) hn (by decide) hdf ⟨rfl,by decide,by decide,rfl⟩ hY F hL (λ_ _ a ns hl _ hS=>⟨a,ns,rfl,hS,hl,λ_=>rfl⟩) λ_ _ _ _ _ z=>z
end K15
end
namespace K15
open PySem L2 PySem.W K51
theorem kf_nl (P:Params) (a:Addr) (o:Obj) (h:(kf P).lookup a=some o):o.cls≠.type "list":=xt (show _=true by kernel_rfl) h
end K15
def PySem.W.Fast.tw7281638407912255144:PySem.Program:=PySem.Challenge.pw_shapestring_k12_faults
theorem PySem.W.Fast.te7281638407912255144:PySem.Challenge.pw_shapestring_k12_faults=PySem.W.Fast.tw7281638407912255144:=rfl
open PySem PySem.W PyProof.Rows
set_option maxRecDepth 100000 in
set_option maxHeartbeats 0 in
theorem PySem.Challenge.cw_shapestring_k12_faults_holds : PySem.Challenge.rw_shapestring_k12_faults.Holds := by
 w_on;o_law
 refine W.holds_open (q:=K15.view) (loose:=[]) (Xt:=λs=>xlAt K15.view [] s&&recOk [] s) (XP:=XL K15.view []) (Yf:=Hook.obs (kHook K15.kf K15.ads (λ_=>by kernel_rfl))) (Ya:=Hook.val (kHook K15.kf K15.ads (λ_=>by kernel_rfl))) (YP:=Hook.says (kHook K15.kf K15.ads (λ_=>by kernel_rfl))) (N:=9476) K15.left (Hook.of _) (Hook.keeps _)
  (λs e=>xl_of s (Hz.mp e).1) XL.keeps (by rfl) (by rfl) (by rfl) (λs e=>recFacts_of (Hz.mp e).2) (by rfl) (by assumption) (by decide +kernel) ⟨rfl,rfl,rfl,rfl,rfl,by decide +kernel⟩ ?hw ?hc
 case hw=>w_witness2
 k_fill
 refine K15.walk (l:=PySem.Challenge.rw_shapestring_k12_faults) rfl rfl (λw h Y=>W.kIn_of Y) (λw=>K15.kf_nl w.params) ?F
 case F=>
  intro w mg fa h KX G hmg
  refine' K15.all_mk KX G hmg ?aCs ?aS ?ac0 ?ac1 ?ac2 ?ac3 ?ac4 ?au1 ?au2 ?au3 ?au4 ?au5 ?au6 ?au7 ?au8 ?au9 ?aM ?_ ?_ ?_ ?_ ?_ ?_ ?_ ?_ ?_ ?_ ?_ ?_ ?_ ?_ ?_ ?_ ?_ ?_ ?_ ?_ ?_ ?_ ?_ ?_ ?_ ?_ ?_ ?_ ?_ ?_ ?_ ?_ ?_ ?_ ?_ ?_ ?_ ?_ ?_ ?_ ?_ ?_ ?_ ?_ ?_ ?_ ?_ ?_ ?_ ?_ ?_ ?_ ?_ ?_ ?_ ?_ ?_ ?_ ?_ ?_ ?_ ?_ ?_ ?_ ?_ ?_ ?_ ?_ ?_ ?_ ?_ ?_ ?_ ?_ ?_ ?_ ?_ ?_ ?_ ?_ ?_
  (case aCs=>k_is);(case aS=>k_is);(case ac0=>k_is);(case ac1=>k_is);(case ac2=>k_is);(case ac3=>k_is);(case ac4=>k_is);(case au1=>k_is);(case au2=>k_is);(case au3=>k_is);(case au4=>k_is);(case au5=>k_is);(case au6=>k_is);(case au7=>k_is);(case au8=>k_is);(case au9=>k_is);(case aM=>k_is)
  all_goals first|k_is|(refine' K15.top_in ?a ?l ?c ?k;(case a=>k_is);(case l=>k_is);(case c=>k_is);(case k=>k_is))|(refine' K15.in_in ?a ?i ?l ?c ?k;(case a=>k_is);(case i=>k_is);(case l=>k_is);(case c=>k_is);(case k=>k_is))|kernel_rfl
#print axioms PySem.Challenge.cw_shapestring_k12_faults_holds

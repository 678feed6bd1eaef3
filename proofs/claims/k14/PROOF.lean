import PyProof.Rows.All
import Wide.All
import OpenK.AllK
import Wide.FinOn
import Lean
import PyProof.EqAt
import PyProof.EqKinds
import PyProof.TupleCall
import PyProof.NeData
import PyProof.P3In
import PyProof.DictItems
import KE.KPairComp
import PyProof.StrLawsTight
import PyProof.CallStr
import PyProof.Rows.Chain
import Open.Pieces
import KE.KRevIter
import KE.KRevSl
import PyProof.Draws
import PyProof.EnumMake
import KE.KItemsList
import PyProof.ReprRoads
import KE.KTryMore
import PySem.Challenge.RW_shapestring_k14_texts_spoilt
set_option Elab.async false
set_option linter.all false
set_option maxRecDepth 100000
set_option maxHeartbeats 0
open Array renaming getElem?_eq_some_iff->fG,length_toList->fY,toList_push->gF,getElem?_toList->iD,toList_inj->m_,getElem?_eq_getElem->sT,getElem?_setIfInBounds_ne->sU,toList_extract->sV,toList_map->sW,all_toList->zp,getElem?_eq_none->J4,getElem_setIfInBounds->J5,perm_iff_toList_perm->J6,size_setIfInBounds->J7,toList_append->J8,toList_reverse->J9
open Array.Perm renaming refl->J3
open Bool renaming false_ne_true->bu,and_eq_true->eF,false_and->eM,eq_iff_iff->fH,eq_false_iff->iE,false_eq_true->jj,and_false->pS,false_or->sX,and_eq_true_iff->J_,not_eq_true'->Ka,or_true->Kb,true_and->Kc,true_or->Kd
open Classical renaming byContradiction->nh,byCases->Kf
open Int renaming toNat_of_nonneg->dW,toNat_natCast->iF,emod_lt_of_pos->pU,emod_nonneg->pV,le_trans->s_,natCast_mul->zw
open List renaming length_map->ao,mem_map->ay,getElem?_eq_some_iff->aG,mem_cons->aK,length_append->aL,map_append->aQ,mem_singleton->aR,map_cons->aU,mem_append->aW,getElem?_map->aY,mem_of_getElem?->a8,size_toArray->a_,take_add_one->ba,length_take->bf,length_cons->bz,map_map->bU,take_length->bV,getElem?_eq_getElem->bX,length_singleton->bY,mem_cons_of_mem->bZ,nodup_append->cY,mem_append_left->dC,append_assoc->dX,nodup_cons->dY,filter_cons->eN,mem_append_right->eO,length_drop->eV,all_eq_true->fK,append_nil->fM,getElem?_of_mem->fN,not_mem_nil->fZ,take_append_drop->f_,flatten_cons->gG,getElem?_append_left->gH,length_nil->gI,mem_filter->gJ,mem_flatMap->gK,perm_append_comm->gO,replicate_succ->gP,lookup_cons->iG,mem_cons_self->iH,mem_range->iI,pairwise_map->iJ,take_of_length_le->iK,count_append->jl,eraseIdx_sublist->jm,foldl_cons->jn,length_filter_le->jo,filter_append->ki,getElem?_append_right->kj,nodup_nil->kl,drop_eq_getElem_cons->nj,filter_nil->nq,find?_cons->nr,length_pos_iff->nv,length_range->ny,any_cons->pW,drop_zero->pX,filterMap_cons->pY,getElem?_take->pZ,getElem_mem->p0,getLast?_eq_getElem?->p4,map_congr_left->p5,nil_append->p6,any_eq_true->tm,any_map->tq,append_eq_append_iff->tu,cons_append->tD,exists_mem_of_ne_nil->tE,ext_getElem->tF,ext_getElem?->tG,extract_eq_take_drop->tH,getElem?_eq_none->tI,getElem?_set_ne->tJ,getElem?_set_self->tK,length_eraseIdx_of_lt->tL,map_take->tN,mem_filterMap->tO,mem_iff_getElem?->tP,pairwise_cons->tQ,pairwise_iff_getElem->tR,pairwise_singleton->tS,all_cons->zB,count_eq_zero->zC,drop_drop->zD,getElem?_replicate->zE,getElem?_take_of_lt->zF,head?_eq_getElem?->zG,length_eq_zero_iff->zI,map_eq_nil_iff->zJ,map_id->zK,map_nil->zL,of_mem_zip->zM,pairwise_append->zN,take_zero->zO,all_map->Kp,any_eq_false->Kq,contains_cons->Kr,count_cons_self->Ks,drop_length->Kt,drop_of_length_le->Ku,foldl_append->Kv,foldl_nil->Kw,getElem?_cons_succ->Kx,getElem?_drop->Kz,getElem?_eq_none_iff->KA,getElem?_range->KB,length_replicate->KC,mem_replicate->KD,nil_infix->KF,nodup_range->KG,zip_cons_cons->KH
open List.Pairwise renaming imp_of_mem->Kk
open List.Perm renaming of_eq->tj,append_left->Kl,refl->Km
open List.Sublist renaming map->Kn,refl->Ko,append->Mt,count_le->Mu
open Nat renaming le_refl->ak,zero_le->aJ,ne_of_lt->bc,le_trans->br,lt_of_lt_of_le->bP,lt_irrefl->de,lt_succ_self->fP,mod_lt->jq,ne_of_gt->jr,le_of_lt->km,le_succ->ko,zero_add->kq,lt_succ_of_lt->nz,lt_trans->nA,min_eq_left->p7,pow_le_pow_right->p9,succ_mul->p_,add_sub_cancel->tT,le_add_right->tU,le_of_eq->tV,max_eq_right->tW,not_lt->tX,add_le_add_left->zP,add_sub_cancel_left->zQ,log2_lt->zR,lt_of_le_of_lt->zT,mul_comm->zU,pow_succ->zV,sub_self->zW,add_assoc->KI,add_lt_add_left->KJ,add_zero->KL,le_of_lt_succ->KM,min_le_right->KN,mul_le_mul->KO,mul_pos->KP,not_lt_zero->KQ,sub_zero->KR
open Ne renaming symm->aB
open Option renaming map_eq_some_iff->bW,isSome_iff_exists->nB,map_some->nE,getD_some->zY,isSome_map->zZ,bind_some->KS,getD_none->KU
open Option.some renaming inj->cN,injEq->Mv
open Prod renaming ext->nG
open Prod.mk renaming inj->ju,injEq->KY
open PyProof.Rows renaming wpS_bind->av,wpS_pure->aA,wpS_forRange->d_,wpS_mono->eG,boot_isinstance->eW,boot_int->gQ,wpS_get->gZ,wpS_modify->iM,boot_tuple->jv,slot_tuple_getitem->nH,reverseSlice'_eq->ud,boot_list->z7,boot_max->z8,callWith_type1->z9,Subscript_->Ai,boot_bool->K3,boot_str->K4,args_list_sort->LC,args_tuple_getitem->LD,entry_list_sort->LG,entry_tuple_getitem->LH,slicePart_none->LP,slot_list_sort->LS,slot_str_getitem->LU,subscriptTail_builtinR->LV,boot_any->Mw,boot_dict->Mx,boot_range->My,callWith_builtin1->Mz,digit_range->MA,floordiv_int->MB,lt_int->MC
open PyProof.Rows.IsTup renaming new->zA
open PySem renaming wpAny_bind->aa,wpAny_pure->ag,wpAny_mono->cC,wpAny_holding->cH,wpAny_field->cW,sizeLine_eq->dg,wpAny_newObj_type->dZ,wpAny_setField->eZ,typeIs_str->gW,wpAny_call_entry->gX,wpAny_truthy_bool->gY,call_meets->jw,wpAny_attempt->jx,wpAny_call->jz,wpAny_fieldsOf->jA,wpAny_loadPart_at->jB,wpAny_of_eq->ku,wpAny_passesOwn->kx,wpAny_standAt->kB,mem_of_lookup->nJ,wpAny_callSpecial?_slot->nM,wpAny_dictEntries->nN,wpAny_dictEpoch->nP,call_meetsIn->qe,codeAny_mono->qf,tupleKind_room_in1->qg,wpAny_Call_Name_kw->qh,wpAny_execs_nil->qi,wpAny_letGo->qj,wpAny_pyIter_list->qk,wpAny_setField_rec->ql,boot_len->t7,codeAny_call_builtin->t8,plainId_quiet->t_,wpAny_isOneOf_itemiter->ue,wpAny_isSubtype_exc->uf,wpAny_tryCatch->ug,wpAny_typeNameOfWhole_itemiter->uh,wpAny_typeNameOfWhole_keyiter->ui,wpAny_typeNameOf_itemiter->uj,wpAny_typeNameOf_keyiter->uk,call_meets->Ah,call_gives->Ak,codeAny_builtin->Al,fitsIndex_both->Am,join_length_add->An,seqIndex_neg->Ao,seqIndex_of->Ap,typeIs_int->Aq,wpAny_Name->Ar,wpAny_comprehension_free->As,wpAny_isOneOf_keyiter->Au,wpAny_loadPart->Av,wpAny_loadPart'->Aw,wpAny_seqItems->Ax,wpAny_throw->Ay,wpAny_typeOf->Az,wpAny_updateSeq->AA,evalArgs_none->Ly,codeAny_compStart_list->LF,isSubtype_stop->LJ,noFill_tuple_add->LK,pastItsLine_dict->LM,plainObj_wpAny_Assign_Attribute->LN,pyReprObj_of_reads->LO,sliceRange_one->LQ,slot_list_getitem->LR,wpAny_Call_method->LW,wpAny_Call_method0_late->LX,wpAny_Call_method_late->LY,wpAny_Compare1->LZ,wpAny_Dict_empty->L5,wpAny_assign_Name->L6,wpAny_entryPlaceOf->L7,wpAny_eqBool_int->L8,wpAny_execs_cons->L9,wpAny_forIn_list->L_,wpAny_formatField_str->Ma,wpAny_isInstance->Mb,wpAny_isTrue_Compare1->Mc,wpAny_lookBehind->Md,wpAny_newFunctionEnv->Me,wpAny_newTuple->Mf,wpAny_notOrdered_dict->Mg,wpAny_pyIter_enum->Mh,wpAny_pyIter_keyiter->Mi,wpAny_pyIter_slot->Mj,wpAny_pyIter_tuple->Ml,wpAny_pyNext_list_end->Mm,wpAny_pyNext_list_item->Mn,wpAny_sequenceKey->Mo,wpAny_specialOf->Mp
open PySem.Around renaming under_plainId->zo
open PySem.AutoSeq1 renaming list_insert_list_int_val_1->MD,wpAny_loadPart'->ME
open PySem.Calls renaming callWith_builtin->kh,evalArgs_plain->ng,spliced_cons->zq,spliced_nil->zt,Name_function_global->Ke
open PySem.CmpOf renaming ints_lt->Kg
open PySem.Code renaming quiet_builtin->Kh
open PySem.EqMixed renaming eq_bool_str->MG,eq_int_str->MH,eq_str_bool->MJ,eq_str_int->MK,ne_bool_str->ML,ne_int_str->MM,ne_str_bool->MN,ne_str_int->MO
open PySem.EqNone renaming eq_bool_none->MP,eq_int_none->MQ,eq_none_bool->MR,eq_none_int->MS,eq_none_none->MT,eq_none_str->MU,eq_str_none->MV,ne_bool_none->MW,ne_int_none->MY,ne_none_bool->MZ,ne_none_int->M3,ne_none_none->M4,ne_none_str->M5,ne_str_none->M6
open PySem.F renaming plainAttrs_list->dD,slot_list_append->eX,type_list_append->eY,plain_min_loop->kr,plainAttrs_str->nI,excBase_ValueError->qb,slot_dict_itemiterator_next->qc,slot_dict_keyiterator_next->qd,plainAttrs_dict->tY,slot_list_insert->tZ,slot_str_split->t4,type_str_split->t6,entry_min_loop->z_,slot_dict_get->Aa,slot_tuple_index->Ab,type_list_insert->Ac,args_dict_get_2->K5,args_dict_itemiterator_next_1->K6,args_dict_keyiterator_next_1->K7,args_tuple_add_2->K8,entry_dict_get->K9,entry_dict_itemiterator_next->K_,entry_dict_keyiterator_next->La,entry_tuple_add->Lb,plainAttrs_tuple->Lc,slot_dict_items->Ld,slot_dict_items_iter->Le,slot_dict_iter->Lg,slot_dict_pop->Lh,slot_dict_setdefault->Li,slot_dict_values->Lj,slot_list_pop->Lk,slot_str_join->Ll,slot_tuple_add->Lm,type_list_pop->Ln,type_str_join->Lp,type_tuple_index->Lq
open PySem.Heap renaming lt_size->aE,get?_push_of_some->aI,get?_push_size->bq,get?_update_other->dU,get?_update_self->fJ,size_push->jk,get?_none_of_le->ni,get?_update_ne->pT,get?_push_at->Kj
open PySem.Heap.DictOf renaming new->Mq
open PySem.Heap.IsSliceOf renaming new->Mr
open PySem.Heap.Ns1 renaming of_empty->Ki
open PySem.Heap.SameBut renaming update->zu,refl->Ms
open PySem.Obj renaming data_mapFields->iL,isFreed_of_fields->jt,cls_mapFields->zX
open PySem.Paired renaming length->nF,snoc->KW
open PySem.PassesOwn renaming never->cv,leaving->qa
open PySem.PyData renaming noDict_hsm->KZ
open PySem.SeqAt renaming compareEq_reads->M8,compareNe_reads->M9,eqAt_reads->M_,in_list_reads->Na,in_tuple_reads->Nb
open PySem.SeqAt.EqAt renaming int_int->Lz,int_str->LA,str_int->LB,bool_bool->Ni,bool_int->Nj,bool_none->Nk,bool_str->Nl,int_bool->Nn,int_none->Np,none_bool->Nq,none_int->Nt,none_str->Nu,same->Nv,str_bool->Nw,str_none->Nz,str_str->NA
open PySem.SeqAt.ReadsAll renaming length->M7
open PySem.Str renaming length_append->gU
open PySem.W renaming mg_of->df,mg_none_of->dO,kia_one->fQ,looks_findIn->t9,any_some->Ad,looks_clsIn->Ae,looks_findIn->Af,plainGet_of->Ag,bind_fn->Lr,callWith_K->Ls,cellsFrom_some->Lu,kitx_dict->Lv,kitx_list->Lw,set_plain->Lx
open PySem.W.KIN renaming call_text->Nc,signs_num->Nf
open PySem.W.Looks renaming here->Ng
open PySem.Walks renaming list->Aj
open PySem.Within renaming cons->Nh
open Std.Legacy.Range renaming forIn_eq_forIn_range'->NB
open Sum.inl renaming inj->nK
theorem NC.{u}{c : Prop}{h : Decidable c}(a : ¬c){α : Sort u}{t e : α} : (if c then t else e)=e := if_neg a
theorem ND.{u}{c : Prop}{h : Decidable c}(a : c){α : Sort u}{t e : α} : (if c then t else e)=t := if_pos a
theorem NF{p : Prop}[h : Decidable p](a : p) : decide p=true := decide_eq_true a
theorem NG{p : Prop}[h : Decidable p](a : ¬p) : decide p=false := decide_eq_false a
theorem NH{p : Prop}[h : Decidable p](a : decide p=true) : p := of_decide_eq_true a
variable {NI:List (PySem.Addr×PySem.Obj)}{s:PySem.Shared}{P:PySem.Program}{w:PySem.World}{A:PySem.Around}{mg:PySem.Str->Option PySem.Value}{base:PySem.Heap}{us:List PySem.Value}{E:PySem.Value->PySem.Shared->Prop}{fd:PySem.FuncData}{K:PySem.W.Frag}{scope:PySem.Scope}
section
namespace L2
open PySem
def dn(s:Stmt):Arguments:=match s with
 |.FunctionDef _ a _ _ _ _ _ _ _ _=>a
 |_=>{posonlyargs:=[],args:=[],vararg:=none,kwonlyargs:=[],kw_defaults:=[],kwarg:=none,defaults:=[]}
def cT(s:Stmt):List Stmt:=match s with
 |.FunctionDef _ _ b _ _ _ _ _ _ _=>b
 |_=>[]
def aC(s:Stmt):Scope:=match s with
 |.FunctionDef _ _ _ _ _ _ sc _ _ _=>sc
 |_=>{kind:=.function,names:=[],isGenerator:=false,isCoroutine:=false}
end L2
namespace K51
open PySem L2
def JK:Nat:=36
def aD(i:Nat):Stmt:=PySem.Challenge.pw_shapestring_k14_texts_spoilt.main.body.getD i (.Pass ⟨0,0,0,0⟩)
def top(i:Nat):Stmt:=aD (JK+i)
def rG(c j:Nat):Stmt:=match aD c with
 |.ClassDef _ _ _ body _ _ _ _ _ _ _=>body.getD j (.Pass ⟨0,0,0,0⟩)
 |_=>.Pass ⟨0,0,0,0⟩
abbrev ib:Stmt:=rG 13 0
abbrev lO:Stmt:=aD 17
abbrev kL:Stmt:=aD 18
abbrev kG:Stmt:=aD 19
abbrev l7:Stmt:=aD 21
abbrev kK:Stmt:=aD 24
abbrev jG:Stmt:=aD 25
abbrev lF:Stmt:=aD 26
abbrev lP:Stmt:=aD 27
abbrev mz:Stmt:=aD 28
abbrev lW:Stmt:=aD 29
abbrev mh:Stmt:=aD 30
abbrev fW:Stmt:=rG 31 0
abbrev g_:Stmt:=rG 31 1
abbrev kD:Stmt:=aD 33
abbrev kJ:Stmt:=aD 34
abbrev sAt:Stmt:=top 0
abbrev mV:Stmt:=top 1
abbrev l_:Stmt:=top 2
abbrev lU:Stmt:=top 3
abbrev lA:Stmt:=top 4
abbrev mB:Stmt:=top 5
abbrev kY:Stmt:=top 6
abbrev mE:Stmt:=top 7
abbrev lQ:Stmt:=top 8
abbrev l8:Stmt:=top 9
abbrev kE:Stmt:=top 10
abbrev lD:Stmt:=top 11
abbrev lY:Stmt:=top 12
abbrev kW:Stmt:=top 13
abbrev lX:Stmt:=top 14
abbrev lV:Stmt:=top 15
abbrev lE:Stmt:=top 16
abbrev my:Stmt:=top 17
abbrev kF:Stmt:=top 18
abbrev jV:Stmt:=top 19
abbrev lC:Stmt:=top 20
abbrev lZ:Stmt:=top 21
abbrev kX:Stmt:=top 22
abbrev gw:Stmt:=top 23
end K51
end
section
namespace K15
open PySem L2 PySem.W K51
noncomputable def cO(x:Str)(t l n a b:Nat):Obj:=⟨.type "code",none,.fields #[.str x t,.str x (t+1),.str "/claim/cut.py" (t+2),.int l 0,.int n 0,.int 0 0,.int 0 0,.int 3 0,.ref a,.bool true,.int 181 0,.ref (a+1),.none,.ref (a+2),.ref (a+3),.ref (a+4),.int b 0,.int l 0,.str "/claim/cut.py" (b+1)],#[]⟩
noncomputable def fO(x:Str)(s:Stmt)(m:Str)(t c:Nat):Obj:=⟨.type "function",none,.func (fnOf x x (dn s) (cT s) (aC s) .none .none .none (.str m t) none (.ref c) .none),#[]⟩
noncomputable def dE(P:Params)(x:Str)(t:Nat)(v:Value):DictEntry:=PySem.DictEntry.mk (PySem.PyData.keyHash P x) (.str x t) v
noncomputable def fL(x:Str)(s:Stmt)(c:Nat):Obj:=fO x s "law_shapestring_k14_texts_spoilt" 642 c
noncomputable def kf:Params->Frag:=λP=>
 (nat_lit 2,⟨.none,none,(.dict #[] 0),#[]⟩) ::
 (nat_lit 3,⟨(.type "dict"),none,(.dict #[(dE P "__name__" 165 (.str "law_shapestring_k14_texts_spoilt" 642)),(dE P "__doc__" 166 .none),(dE P "__package__" 167 .none),(dE P "__loader__" 168 (.builtin "__main__.__loader__#opaque")),(dE P "__spec__" 169 .none),(dE P "__annotations__" 170 (.ref 6)),(dE P "__builtins__" 171 (.ref 4)),(dE P "__file__" 173 (.str "/claim/cut.py" 172)),(dE P "__cached__" 174 .none),(dE P "ShapeError" 206 (.ref 24)),(dE P "TooMany" 222 (.ref 37)),(dE P "NoText" 238 (.ref 49)),(dE P "NoCorner" 254 (.ref 61)),(dE P "NoSide" 270 (.ref 73)),(dE P "NoLetter" 286 (.ref 85)),(dE P "NoCaps" 302 (.ref 97)),(dE P "NoCode" 318 (.ref 109)),(dE P "NoDeed" 334 (.ref 121)),(dE P "Taken" 350 (.ref 133)),(dE P "Gone" 366 (.ref 145)),(dE P "NoPast" 382 (.ref 157)),(dE P "NoSkin" 407 (.ref 176)),(dE P "Spoilt" 432 (.ref 195)),(dE P "NoWord" 457 (.ref 214)),(dE P "is_whole" 466 (.ref 223)),(dE P "is_corner" 473 (.ref 230)),(dE P "is_figures" 480 (.ref 237)),(dE P "first_of" 488 (.ref 242)),(dE P "MOST_TRIPLES" 492 (.int 200 491)),(dE P "is_triple" 502 (.ref 249)),(dE P "checked_triples" 515 (.ref 256)),(dE P "thirds_by_side" 529 (.ref 263)),(dE P "steps_by_corner" 541 (.ref 270)),(dE P "hang_together" 550 (.ref 277)),(dE P "look_rounds_through" 558 (.ref 284)),(dE P "begun_least" 568 (.ref 291)),(dE P "Skin" 621 (.ref 327)),(dE P "read_triple" 635 (.ref 338)),(dE P "read_skin" 641 (.ref 343)),(dE P "_law_at" 651 (.ref 350)),(dE P "_law_pot" 662 (.ref 357)),(dE P "_law_digit" 671 (.ref 364)),(dE P "_law_sides" 681 (.ref 371)),(dE P "_law_thirds" 692 (.ref 378)),(dE P "_law_free" 698 (.ref 383)),(dE P "_law_corners" 708 (.ref 390)),(dE P "_law_fans" 714 (.ref 395)),(dE P "_law_split" 720 (.ref 400)),(dE P "_law_drawn" 726 (.ref 405)),(dE P "_law_rim_sides" 732 (.ref 410)),(dE P "_law_grown" 738 (.ref 415)),(dE P "_law_ring" 744 (.ref 420)),(dE P "_law_beside" 750 (.ref 425)),(dE P "_law_skin" 759 (.ref 432)),(dE P "_law_named" 765 (.ref 437)),(dE P "_law_handed" 778 (.ref 444)),(dE P "_law_told" 788 (.ref 451)),(dE P "_law_is_triple" 796 (.ref 458)),(dE P "_law_fault" 809 (.ref 465)),(dE P "_law_signs" 821 (.ref 472)),(dE P "_law_read" 827 (.ref 477)),(dE P "_law_answer" 837 (.ref 484)),(dE P "law" 843 (.ref 489))] 63),#[]⟩) ::
 (nat_lit 23,⟨(.type "dict"),none,(.dict #[(dE P "__module__" 196 (.str "shapestring.errors" 187)),(dE P "__firstlineno__" 200 (.int 2 199)),(dE P "__static_attributes__" 201 (.ref 22)),(dE P "__weakref__" 203 (.ref 25)),(dE P "__doc__" 204 .none)] 3),#[]⟩) ::
 (nat_lit 24,⟨(.type "type"),none,(.cls (PySem.ClassData.mk "ShapeError" [(.type "ValueError")] [(.ref 24),(.type "ValueError"),(.type "Exception"),(.type "BaseException"),(.type "object")] 23 "ShapeError" Bool.true [] [(.ref 37),(.ref 49),(.ref 61),(.ref 73),(.ref 85),(.ref 97),(.ref 109),(.ref 121),(.ref 133),(.ref 145),(.ref 157),(.ref 176),(.ref 195),(.ref 214)] Bool.false none Bool.false)),#[(Option.some (.ref 15)),none,(Option.some (.str "ShapeError" 189)),(Option.some (.str "ShapeError" 197)),(Option.some (.builtin "ValueError.__new__")),(Option.some (.bool Bool.true))]⟩) ::
 (nat_lit 25,⟨(.type "getset_descriptor"),none,(.fields #[(.str "__weakref__" 202),(.ref 24),(.builtin "ExceptionGroup.__weakref__"),.none]),#[]⟩) ::
 (nat_lit 36,⟨(.type "dict"),none,(.dict #[(dE P "__module__" 214 (.str "shapestring.errors" 187)),(dE P "__firstlineno__" 218 (.int 4 217)),(dE P "__static_attributes__" 219 (.ref 35)),(dE P "__doc__" 220 .none)] 2),#[]⟩) ::
 (nat_lit 37,⟨(.type "type"),none,(.cls (PySem.ClassData.mk "TooMany" [(.ref 24)] [(.ref 37),(.ref 24),(.type "ValueError"),(.type "Exception"),(.type "BaseException"),(.type "object")] 36 "TooMany" Bool.true [] [] Bool.false none Bool.false)),#[(Option.some (.ref 28)),none,(Option.some (.str "TooMany" 207)),(Option.some (.str "TooMany" 215)),(Option.some (.builtin "ValueError.__new__")),(Option.some (.bool Bool.true))]⟩) ::
 (nat_lit 48,⟨(.type "dict"),none,(.dict #[(dE P "__module__" 230 (.str "shapestring.errors" 187)),(dE P "__firstlineno__" 234 (.int 6 233)),(dE P "__static_attributes__" 235 (.ref 47)),(dE P "__doc__" 236 .none)] 2),#[]⟩) ::
 (nat_lit 49,⟨(.type "type"),none,(.cls (PySem.ClassData.mk "NoText" [(.ref 24)] [(.ref 49),(.ref 24),(.type "ValueError"),(.type "Exception"),(.type "BaseException"),(.type "object")] 48 "NoText" Bool.true [] [] Bool.false none Bool.false)),#[(Option.some (.ref 40)),none,(Option.some (.str "NoText" 223)),(Option.some (.str "NoText" 231)),(Option.some (.builtin "ValueError.__new__")),(Option.some (.bool Bool.true))]⟩) ::
 (nat_lit 60,⟨(.type "dict"),none,(.dict #[(dE P "__module__" 246 (.str "shapestring.errors" 187)),(dE P "__firstlineno__" 250 (.int 8 249)),(dE P "__static_attributes__" 251 (.ref 59)),(dE P "__doc__" 252 .none)] 2),#[]⟩) ::
 (nat_lit 61,⟨(.type "type"),none,(.cls (PySem.ClassData.mk "NoCorner" [(.ref 24)] [(.ref 61),(.ref 24),(.type "ValueError"),(.type "Exception"),(.type "BaseException"),(.type "object")] 60 "NoCorner" Bool.true [] [] Bool.false none Bool.false)),#[(Option.some (.ref 52)),none,(Option.some (.str "NoCorner" 239)),(Option.some (.str "NoCorner" 247)),(Option.some (.builtin "ValueError.__new__")),(Option.some (.bool Bool.true))]⟩) ::
 (nat_lit 72,⟨(.type "dict"),none,(.dict #[(dE P "__module__" 262 (.str "shapestring.errors" 187)),(dE P "__firstlineno__" 266 (.int 10 265)),(dE P "__static_attributes__" 267 (.ref 71)),(dE P "__doc__" 268 .none)] 2),#[]⟩) ::
 (nat_lit 73,⟨(.type "type"),none,(.cls (PySem.ClassData.mk "NoSide" [(.ref 24)] [(.ref 73),(.ref 24),(.type "ValueError"),(.type "Exception"),(.type "BaseException"),(.type "object")] 72 "NoSide" Bool.true [] [] Bool.false none Bool.false)),#[(Option.some (.ref 64)),none,(Option.some (.str "NoSide" 255)),(Option.some (.str "NoSide" 263)),(Option.some (.builtin "ValueError.__new__")),(Option.some (.bool Bool.true))]⟩) ::
 (nat_lit 84,⟨(.type "dict"),none,(.dict #[(dE P "__module__" 278 (.str "shapestring.errors" 187)),(dE P "__firstlineno__" 282 (.int 12 281)),(dE P "__static_attributes__" 283 (.ref 83)),(dE P "__doc__" 284 .none)] 2),#[]⟩) ::
 (nat_lit 85,⟨(.type "type"),none,(.cls (PySem.ClassData.mk "NoLetter" [(.ref 24)] [(.ref 85),(.ref 24),(.type "ValueError"),(.type "Exception"),(.type "BaseException"),(.type "object")] 84 "NoLetter" Bool.true [] [] Bool.false none Bool.false)),#[(Option.some (.ref 76)),none,(Option.some (.str "NoLetter" 271)),(Option.some (.str "NoLetter" 279)),(Option.some (.builtin "ValueError.__new__")),(Option.some (.bool Bool.true))]⟩) ::
 (nat_lit 96,⟨(.type "dict"),none,(.dict #[(dE P "__module__" 294 (.str "shapestring.errors" 187)),(dE P "__firstlineno__" 298 (.int 14 297)),(dE P "__static_attributes__" 299 (.ref 95)),(dE P "__doc__" 300 .none)] 2),#[]⟩) ::
 (nat_lit 97,⟨(.type "type"),none,(.cls (PySem.ClassData.mk "NoCaps" [(.ref 24)] [(.ref 97),(.ref 24),(.type "ValueError"),(.type "Exception"),(.type "BaseException"),(.type "object")] 96 "NoCaps" Bool.true [] [] Bool.false none Bool.false)),#[(Option.some (.ref 88)),none,(Option.some (.str "NoCaps" 287)),(Option.some (.str "NoCaps" 295)),(Option.some (.builtin "ValueError.__new__")),(Option.some (.bool Bool.true))]⟩) ::
 (nat_lit 108,⟨(.type "dict"),none,(.dict #[(dE P "__module__" 310 (.str "shapestring.errors" 187)),(dE P "__firstlineno__" 314 (.int 16 313)),(dE P "__static_attributes__" 315 (.ref 107)),(dE P "__doc__" 316 .none)] 2),#[]⟩) ::
 (nat_lit 109,⟨(.type "type"),none,(.cls (PySem.ClassData.mk "NoCode" [(.ref 24)] [(.ref 109),(.ref 24),(.type "ValueError"),(.type "Exception"),(.type "BaseException"),(.type "object")] 108 "NoCode" Bool.true [] [] Bool.false none Bool.false)),#[(Option.some (.ref 100)),none,(Option.some (.str "NoCode" 303)),(Option.some (.str "NoCode" 311)),(Option.some (.builtin "ValueError.__new__")),(Option.some (.bool Bool.true))]⟩) ::
 (nat_lit 120,⟨(.type "dict"),none,(.dict #[(dE P "__module__" 326 (.str "shapestring.errors" 187)),(dE P "__firstlineno__" 330 (.int 18 329)),(dE P "__static_attributes__" 331 (.ref 119)),(dE P "__doc__" 332 .none)] 2),#[]⟩) ::
 (nat_lit 121,⟨(.type "type"),none,(.cls (PySem.ClassData.mk "NoDeed" [(.ref 24)] [(.ref 121),(.ref 24),(.type "ValueError"),(.type "Exception"),(.type "BaseException"),(.type "object")] 120 "NoDeed" Bool.true [] [] Bool.false none Bool.false)),#[(Option.some (.ref 112)),none,(Option.some (.str "NoDeed" 319)),(Option.some (.str "NoDeed" 327)),(Option.some (.builtin "ValueError.__new__")),(Option.some (.bool Bool.true))]⟩) ::
 (nat_lit 132,⟨(.type "dict"),none,(.dict #[(dE P "__module__" 342 (.str "shapestring.errors" 187)),(dE P "__firstlineno__" 346 (.int 20 345)),(dE P "__static_attributes__" 347 (.ref 131)),(dE P "__doc__" 348 .none)] 2),#[]⟩) ::
 (nat_lit 133,⟨(.type "type"),none,(.cls (PySem.ClassData.mk "Taken" [(.ref 24)] [(.ref 133),(.ref 24),(.type "ValueError"),(.type "Exception"),(.type "BaseException"),(.type "object")] 132 "Taken" Bool.true [] [] Bool.false none Bool.false)),#[(Option.some (.ref 124)),none,(Option.some (.str "Taken" 335)),(Option.some (.str "Taken" 343)),(Option.some (.builtin "ValueError.__new__")),(Option.some (.bool Bool.true))]⟩) ::
 (nat_lit 144,⟨(.type "dict"),none,(.dict #[(dE P "__module__" 358 (.str "shapestring.errors" 187)),(dE P "__firstlineno__" 362 (.int 22 361)),(dE P "__static_attributes__" 363 (.ref 143)),(dE P "__doc__" 364 .none)] 2),#[]⟩) ::
 (nat_lit 145,⟨(.type "type"),none,(.cls (PySem.ClassData.mk "Gone" [(.ref 24)] [(.ref 145),(.ref 24),(.type "ValueError"),(.type "Exception"),(.type "BaseException"),(.type "object")] 144 "Gone" Bool.true [] [] Bool.false none Bool.false)),#[(Option.some (.ref 136)),none,(Option.some (.str "Gone" 351)),(Option.some (.str "Gone" 359)),(Option.some (.builtin "ValueError.__new__")),(Option.some (.bool Bool.true))]⟩) ::
 (nat_lit 156,⟨(.type "dict"),none,(.dict #[(dE P "__module__" 374 (.str "shapestring.errors" 187)),(dE P "__firstlineno__" 378 (.int 24 377)),(dE P "__static_attributes__" 379 (.ref 155)),(dE P "__doc__" 380 .none)] 2),#[]⟩) ::
 (nat_lit 157,⟨(.type "type"),none,(.cls (PySem.ClassData.mk "NoPast" [(.ref 24)] [(.ref 157),(.ref 24),(.type "ValueError"),(.type "Exception"),(.type "BaseException"),(.type "object")] 156 "NoPast" Bool.true [] [] Bool.false none Bool.false)),#[(Option.some (.ref 148)),none,(Option.some (.str "NoPast" 367)),(Option.some (.str "NoPast" 375)),(Option.some (.builtin "ValueError.__new__")),(Option.some (.bool Bool.true))]⟩) ::
 (nat_lit 172,⟨(.type "code"),none,(.fields #[(.str "__init__" 395),(.str "NoSkin.__init__" 396),(.str "/claim/cut.py" 397),(.int 28 0),(.int 2 0),(.int 0 0),(.int 0 0),(.int 3 0),(.ref 167),(.bool Bool.true),(.int 181 0),(.ref 168),.none,(.ref 169),(.ref 170),(.ref 171),(.int 400 0),(.int 28 0),(.str "/claim/cut.py" 401)]),#[]⟩) ::
 (nat_lit 173,⟨(.type "function"),none,(.func (fnOf "__init__" "NoSkin.__init__" (dn ib) (cT ib) (aC ib) .none .none .none (.str "shapestring.errors" 187) none (.ref 172) .none)),#[]⟩) ::
 (nat_lit 175,⟨(.type "dict"),none,(.dict #[(dE P "__module__" 390 (.str "shapestring.errors" 187)),(dE P "__firstlineno__" 394 (.int 26 393)),(dE P "__init__" 402 (.ref 173)),(dE P "__static_attributes__" 404 (.ref 174)),(dE P "__doc__" 405 .none)] 2),#[]⟩) ::
 (nat_lit 176,⟨(.type "type"),none,(.cls (PySem.ClassData.mk "NoSkin" [(.ref 24)] [(.ref 176),(.ref 24),(.type "ValueError"),(.type "Exception"),(.type "BaseException"),(.type "object")] 175 "NoSkin" Bool.true [] [] Bool.false none Bool.false)),#[(Option.some (.ref 160)),none,(Option.some (.str "NoSkin" 383)),(Option.some (.str "NoSkin" 391)),(Option.some (.builtin "ValueError.__new__")),(Option.some (.bool Bool.true))]⟩) ::
 (nat_lit 194,⟨(.type "dict"),none,(.dict #[(dE P "__module__" 415 (.str "shapestring.errors" 187)),(dE P "__firstlineno__" 419 (.int 31 418)),(dE P "__init__" 427 (.ref 192)),(dE P "__static_attributes__" 429 (.ref 193)),(dE P "__doc__" 430 .none)] 2),#[]⟩) ::
 (nat_lit 195,⟨(.type "type"),none,(.cls (PySem.ClassData.mk "Spoilt" [(.ref 24)] [(.ref 195),(.ref 24),(.type "ValueError"),(.type "Exception"),(.type "BaseException"),(.type "object")] 194 "Spoilt" Bool.true [] [] Bool.false none Bool.false)),#[(Option.some (.ref 179)),none,(Option.some (.str "Spoilt" 408)),(Option.some (.str "Spoilt" 416)),(Option.some (.builtin "ValueError.__new__")),(Option.some (.bool Bool.true))]⟩) ::
 (nat_lit 213,⟨(.type "dict"),none,(.dict #[(dE P "__module__" 440 (.str "shapestring.errors" 187)),(dE P "__firstlineno__" 444 (.int 36 443)),(dE P "__init__" 452 (.ref 211)),(dE P "__static_attributes__" 454 (.ref 212)),(dE P "__doc__" 455 .none)] 2),#[]⟩) ::
 (nat_lit 214,⟨(.type "type"),none,(.cls (PySem.ClassData.mk "NoWord" [(.ref 24)] [(.ref 214),(.ref 24),(.type "ValueError"),(.type "Exception"),(.type "BaseException"),(.type "object")] 213 "NoWord" Bool.true [] [] Bool.false none Bool.false)),#[(Option.some (.ref 198)),none,(Option.some (.str "NoWord" 433)),(Option.some (.str "NoWord" 441)),(Option.some (.builtin "ValueError.__new__")),(Option.some (.bool Bool.true))]⟩) ::
 (nat_lit 222,cO "is_whole" 460 42 1 217 464) ::
 (nat_lit 223,fO "is_whole" lO "shapestring.kinds" 458 222) ::
 (nat_lit 229,cO "is_corner" 467 44 1 224 471) ::
 (nat_lit 230,fO "is_corner" kL "shapestring.kinds" 458 229) ::
 (nat_lit 236,cO "is_figures" 474 46 1 231 478) ::
 (nat_lit 237,fO "is_figures" kG "shapestring.kinds" 458 236) ::
 (nat_lit 241,⟨(.type "code"),none,(.fields #[(.str "first_of" 483),(.str "first_of" 484),(.str "/claim/cut.py" 485),(.int 51 0),(.int 1 0),(.int 0 0),(.int 0 0),(.int 3 0),(.ref 238),(.bool Bool.true),(.int 181 0),(.ref 239),.none,.none,.none,(.ref 240),(.int 486 0),(.int 51 0),(.str "/claim/cut.py" 487)]),#[]⟩) ::
 (nat_lit 242,fO "first_of" l7 "shapestring.rings" 481 241) ::
 (nat_lit 248,cO "is_triple" 493 57 1 243 500) ::
 (nat_lit 249,fO "is_triple" kK "shapestring.skins" 489 248) ::
 (nat_lit 255,cO "checked_triples" 503 64 1 250 513) ::
 (nat_lit 256,fO "checked_triples" jG "shapestring.skins" 489 255) ::
 (nat_lit 262,cO "thirds_by_side" 516 72 1 257 527) ::
 (nat_lit 263,fO "thirds_by_side" lF "shapestring.skins" 489 262) ::
 (nat_lit 269,cO "steps_by_corner" 530 80 1 264 539) ::
 (nat_lit 270,fO "steps_by_corner" lP "shapestring.skins" 489 269) ::
 (nat_lit 276,cO "hang_together" 542 86 1 271 548) ::
 (nat_lit 277,fO "hang_together" mz "shapestring.skins" 489 276) ::
 (nat_lit 283,cO "look_rounds_through" 551 92 1 278 556) ::
 (nat_lit 284,fO "look_rounds_through" lW "shapestring.skins" 489 283) ::
 (nat_lit 290,cO "begun_least" 559 96 1 285 566) ::
 (nat_lit 291,fO "begun_least" mh "shapestring.skins" 489 290) ::
 (nat_lit 302,⟨(.type "code"),none,(.fields #[(.str "__init__" 581),(.str "Skin.__init__" 582),(.str "/claim/cut.py" 583),(.int 101 0),(.int 2 0),(.int 0 0),(.int 0 0),(.int 3 0),(.ref 299),(.bool Bool.true),(.int 181 0),(.ref 300),.none,.none,.none,(.ref 301),(.int 584 0),(.int 101 0),(.str "/claim/cut.py" 585)]),#[]⟩) ::
 (nat_lit 303,⟨(.type "function"),none,(.func (fnOf "__init__" "Skin.__init__" (dn fW) (cT fW) (aC fW) .none .none .none (.str "shapestring.skins" 489) none (.ref 302) .none)),#[]⟩) ::
 (nat_lit 309,⟨(.type "code"),none,(.fields #[(.str "triangles" 587),(.str "Skin.triangles" 588),(.str "/claim/cut.py" 589),(.int 113 0),(.int 1 0),(.int 0 0),(.int 0 0),(.int 3 0),(.ref 304),(.bool Bool.true),(.int 181 0),(.ref 305),.none,(.ref 306),(.ref 307),(.ref 308),(.int 591 0),(.int 113 0),(.str "/claim/cut.py" 592)]),#[]⟩) ::
 (nat_lit 310,⟨(.type "function"),none,(.func (fnOf "triangles" "Skin.triangles" (dn g_) (cT g_) (aC g_) .none .none .none (.str "shapestring.skins" 489) none (.ref 309) .none)),#[]⟩) ::
 (nat_lit 326,⟨(.type "dict"),none,(.dict #[(dE P "__module__" 576 (.str "shapestring.skins" 489)),(dE P "__firstlineno__" 580 (.int 99 579)),(dE P "__init__" 586 (.ref 303)),(dE P "triangles" 593 (.ref 310)),(dE P "corners" 600 (.ref 317)),(dE P "third" 609 (.ref 324)),(dE P "__static_attributes__" 614 (.ref 325)),(dE P "__dict__" 616 (.ref 328)),(dE P "__weakref__" 618 (.ref 329)),(dE P "__doc__" 619 .none)] 4),#[]⟩) ::
 (nat_lit 327,⟨(.type "type"),none,(.cls (PySem.ClassData.mk "Skin" [(.type "object")] [(.ref 327),(.type "object")] 326 "Skin" Bool.true [] [] Bool.false none Bool.false)),#[none,none,(Option.some (.str "Skin" 569)),(Option.some (.str "Skin" 577)),(Option.some (.builtin "object.__new__")),(Option.some (.bool Bool.true))]⟩) ::
 (nat_lit 328,⟨(.type "getset_descriptor"),none,(.fields #[(.str "__dict__" 615),(.ref 327),(.builtin "function.__dict__"),(.builtin "function.__dict__#set")]),#[]⟩) ::
 (nat_lit 329,⟨(.type "getset_descriptor"),none,(.fields #[(.str "__weakref__" 617),(.ref 327),(.builtin "ExceptionGroup.__weakref__"),.none]),#[]⟩) ::
 (nat_lit 337,cO "read_triple" 624 122 1 332 633) ::
 (nat_lit 338,fO "read_triple" kD "shapestring.skintexts" 622 337) ::
 (nat_lit 342,⟨(.type "code"),none,(.fields #[(.str "read_skin" 636),(.str "read_skin" 637),(.str "/claim/cut.py" 638),(.int 131 0),(.int 1 0),(.int 0 0),(.int 0 0),(.int 3 0),(.ref 339),(.bool Bool.true),(.int 181 0),(.ref 340),.none,.none,.none,(.ref 341),(.int 639 0),(.int 131 0),(.str "/claim/cut.py" 640)]),#[]⟩) ::
 (nat_lit 343,fO "read_skin" kJ "shapestring.skintexts" 622 342) ::
 (nat_lit 349,cO "_law_at" 644 138 2 344 649) ::
 (nat_lit 350,fL "_law_at" sAt 349) ::
 (nat_lit 356,cO "_law_pot" 652 142 2 351 660) ::
 (nat_lit 357,fL "_law_pot" mV 356) ::
 (nat_lit 363,cO "_law_digit" 663 150 2 358 669) ::
 (nat_lit 364,fL "_law_digit" l_ 363) ::
 (nat_lit 370,cO "_law_sides" 672 157 1 365 679) ::
 (nat_lit 371,fL "_law_sides" lU 370) ::
 (nat_lit 377,cO "_law_thirds" 682 160 1 372 690) ::
 (nat_lit 378,fL "_law_thirds" lA 377) ::
 (nat_lit 382,⟨(.type "code"),none,(.fields #[(.str "_law_free" 693),(.str "_law_free" 694),(.str "/claim/cut.py" 695),(.int 167 0),(.int 2 0),(.int 0 0),(.int 0 0),(.int 3 0),(.ref 379),(.bool Bool.true),(.int 181 0),(.ref 380),.none,.none,.none,(.ref 381),(.int 696 0),(.int 167 0),(.str "/claim/cut.py" 697)]),#[]⟩) ::
 (nat_lit 383,fL "_law_free" mB 382) ::
 (nat_lit 389,cO "_law_corners" 699 169 1 384 706) ::
 (nat_lit 390,fL "_law_corners" kY 389) ::
 (nat_lit 394,⟨(.type "code"),none,(.fields #[(.str "_law_fans" 709),(.str "_law_fans" 710),(.str "/claim/cut.py" 711),(.int 175 0),(.int 2 0),(.int 0 0),(.int 0 0),(.int 3 0),(.ref 391),(.bool Bool.true),(.int 181 0),(.ref 392),.none,.none,.none,(.ref 393),(.int 712 0),(.int 175 0),(.str "/claim/cut.py" 713)]),#[]⟩) ::
 (nat_lit 395,fL "_law_fans" mE 394) ::
 (nat_lit 399,⟨(.type "code"),none,(.fields #[(.str "_law_split" 715),(.str "_law_split" 716),(.str "/claim/cut.py" 717),(.int 188 0),(.int 1 0),(.int 0 0),(.int 0 0),(.int 3 0),(.ref 396),(.bool Bool.true),(.int 181 0),(.ref 397),.none,.none,.none,(.ref 398),(.int 718 0),(.int 188 0),(.str "/claim/cut.py" 719)]),#[]⟩) ::
 (nat_lit 400,fL "_law_split" lQ 399) ::
 (nat_lit 404,⟨(.type "code"),none,(.fields #[(.str "_law_drawn" 721),(.str "_law_drawn" 722),(.str "/claim/cut.py" 723),(.int 202 0),(.int 2 0),(.int 0 0),(.int 0 0),(.int 3 0),(.ref 401),(.bool Bool.true),(.int 181 0),(.ref 402),.none,.none,.none,(.ref 403),(.int 724 0),(.int 202 0),(.str "/claim/cut.py" 725)]),#[]⟩) ::
 (nat_lit 405,fL "_law_drawn" l8 404) ::
 (nat_lit 409,⟨(.type "code"),none,(.fields #[(.str "_law_rim_sides" 727),(.str "_law_rim_sides" 728),(.str "/claim/cut.py" 729),(.int 212 0),(.int 1 0),(.int 0 0),(.int 0 0),(.int 3 0),(.ref 406),(.bool Bool.true),(.int 181 0),(.ref 407),.none,.none,.none,(.ref 408),(.int 730 0),(.int 212 0),(.str "/claim/cut.py" 731)]),#[]⟩) ::
 (nat_lit 410,fL "_law_rim_sides" kE 409) ::
 (nat_lit 414,⟨(.type "code"),none,(.fields #[(.str "_law_grown" 733),(.str "_law_grown" 734),(.str "/claim/cut.py" 735),(.int 215 0),(.int 2 0),(.int 0 0),(.int 0 0),(.int 3 0),(.ref 411),(.bool Bool.true),(.int 181 0),(.ref 412),.none,.none,.none,(.ref 413),(.int 736 0),(.int 215 0),(.str "/claim/cut.py" 737)]),#[]⟩) ::
 (nat_lit 415,fL "_law_grown" lD 414) ::
 (nat_lit 419,⟨(.type "code"),none,(.fields #[(.str "_law_ring" 739),(.str "_law_ring" 740),(.str "/claim/cut.py" 741),(.int 230 0),(.int 1 0),(.int 0 0),(.int 0 0),(.int 3 0),(.ref 416),(.bool Bool.true),(.int 181 0),(.ref 417),.none,.none,.none,(.ref 418),(.int 742 0),(.int 230 0),(.str "/claim/cut.py" 743)]),#[]⟩) ::
 (nat_lit 420,fL "_law_ring" lY 419) ::
 (nat_lit 424,⟨(.type "code"),none,(.fields #[(.str "_law_beside" 745),(.str "_law_beside" 746),(.str "/claim/cut.py" 747),(.int 242 0),(.int 2 0),(.int 0 0),(.int 0 0),(.int 3 0),(.ref 421),(.bool Bool.true),(.int 181 0),(.ref 422),.none,.none,.none,(.ref 423),(.int 748 0),(.int 242 0),(.str "/claim/cut.py" 749)]),#[]⟩) ::
 (nat_lit 425,fL "_law_beside" kW 424) ::
 (nat_lit 431,cO "_law_skin" 751 245 2 426 757) ::
 (nat_lit 432,fL "_law_skin" lX 431) ::
 (nat_lit 436,⟨(.type "code"),none,(.fields #[(.str "_law_named" 760),(.str "_law_named" 761),(.str "/claim/cut.py" 762),(.int 254 0),(.int 2 0),(.int 0 0),(.int 0 0),(.int 3 0),(.ref 433),(.bool Bool.true),(.int 181 0),(.ref 434),.none,.none,.none,(.ref 435),(.int 763 0),(.int 254 0),(.str "/claim/cut.py" 764)]),#[]⟩) ::
 (nat_lit 437,fL "_law_named" lV 436) ::
 (nat_lit 443,cO "_law_handed" 766 264 2 438 776) ::
 (nat_lit 444,fL "_law_handed" lE 443) ::
 (nat_lit 450,cO "_law_told" 779 270 1 445 786) ::
 (nat_lit 451,fL "_law_told" my 450) ::
 (nat_lit 457,cO "_law_is_triple" 789 276 1 452 794) ::
 (nat_lit 458,fL "_law_is_triple" kF 457) ::
 (nat_lit 464,cO "_law_fault" 797 283 1 459 807) ::
 (nat_lit 465,fL "_law_fault" jV 464) ::
 (nat_lit 471,cO "_law_signs" 810 299 2 466 819) ::
 (nat_lit 472,fL "_law_signs" lC 471) ::
 (nat_lit 476,⟨(.type "code"),none,(.fields #[(.str "_law_read" 822),(.str "_law_read" 823),(.str "/claim/cut.py" 824),(.int 307 0),(.int 1 0),(.int 0 0),(.int 0 0),(.int 3 0),(.ref 473),(.bool Bool.true),(.int 181 0),(.ref 474),.none,.none,.none,(.ref 475),(.int 825 0),(.int 307 0),(.str "/claim/cut.py" 826)]),#[]⟩) ::
 (nat_lit 477,fL "_law_read" lZ 476) ::
 (nat_lit 483,cO "_law_answer" 828 320 1 478 835) ::
 (nat_lit 484,fL "_law_answer" kX 483) ::
 (nat_lit 488,⟨(.type "code"),none,(.fields #[(.str "law" 838),(.str "law" 839),(.str "/claim/cut.py" 840),(.int 335 0),(.int 1 0),(.int 0 0),(.int 0 0),(.int 3 0),(.ref 485),(.bool Bool.true),(.int 181 0),(.ref 486),.none,.none,.none,(.ref 487),(.int 841 0),(.int 335 0),(.str "/claim/cut.py" 842)]),#[]⟩) ::
 (nat_lit 489,fL "law" gw 488)::[]
end K15
end
section
namespace L2
open PySem PySem.W PySem.Calls PyProof.Rows
def lx(tb:String->Option Builtin)(p:Program)(w:World)(n₀:Nat)(ann:Option Value):Nat->SharedT->Thread->Option SharedT
 |0,_,_=>none
 |n+1,s,t=>match through t with
  |true=>some s
  |false=>match stepOk n₀ ann t with
   |false=>none
   |true=>match stepT (denote tb) p w s t with
    |some (s',t')=>lx tb p w n₀ ann n s' t'
    |none=>none
theorem uF{tb:String->Option Builtin}{p:Program}{n₀:Nat}{ann:Option Value}:∀{n:Nat}{s s':SharedT}{t:Thread},lx tb p w n₀ ann n s t=some s'->topRun tb p w n₀ ann n s.abs t=some s'.abs
 |0,_,_,_,h=>by cases h
 |n+1,s,s',t,h=>by
  unfold lx at h;unfold topRun;cases b:through t with
  |true=>rw[b] at h;cases h;rfl
  |false=>
   rw[b] at h;cases c:stepOk n₀ ann t with
   |false=>rw[c] at h;cases h
   |true=>
    rw[c] at h;cases a:stepT (denote tb) p w s t with
    |none=>rw[a] at h;cases h
    |some r=>obtain⟨s₂,t₂⟩:=r;rw[a] at h;rw[stepT_spec a];exact uF h
def xR:List Obj->Nat->BT->BT
 | [],_,t=>t
 |o::os,n,t=>xR os (n+1) (t.ins n o)
noncomputable def st0(w:World)(os:OsState):SharedT:=⟨xR (boot_heap w.params).objs.toList 0 .nil,(boot_heap w.params).objs.size,(boot_heap w.params).life,Array.mk [],boot_drawn,boot_toks,os⟩
theorem EI(w:World)(os:OsState):(st0 w os).abs=⟨boot_heap w.params,Array.mk [],boot_drawn,boot_toks,os⟩:=by kernel_rfl
theorem FT(w:World):((boot_heap w.params).isNs mainGlobals&&(Array.mk []:Array GenState).size==0)=true:=by kernel_rfl
theorem Iy(w:World):(boot_heap w.params).objs.size=11:=by kernel_rfl
theorem Et(w:World):(boot_heap w.params).nsMap mainGlobals "__annotations__" = some (.ref 6):=by kernel_rfl
noncomputable def rj(p:Program)(w:World)(s:Shared):Bool:=staticsOk (importedModules p.main.body) (boot_heap w.params) s.heap&&namesBound p s.heap&&gensDone s&&laidKept (boot_heap w.params) s.heap
theorem FC{p q:Program}{loose:List Str}{Xt:Shared->Bool}{α:Type}{Yf:Shared->α}{Ya:World->α}{N:Nat}{g:Bool}{run:World->OsState->Option SharedT}(m:∀w os,run w os=lx treeTable p w 11 (some (.ref 6)) N (st0 w os) (topStub p))(n:Nat.ble 600 N=true)
  (e:opening p=plainProg p.main.scope.names) (f:∀s,fenceModules? p s=some s)
  (a:∀(w:World)(os:OsState),(run w os).map (λs=>(openSeen q loose (importedModules p.main.body) Xt g s.abs).1)=some (openGood q loose).1)
  (c:∀(w:World)(os:OsState),(run w os).map (λs=>((openSeen q loose (importedModules p.main.body) Xt g s.abs).2.1,(openSeen q loose (importedModules p.main.body) Xt g s.abs).2.2.1))=some ((openGood q loose).2.1,(openGood q loose).2.2.1))
  (i:∀(w:World)(os:OsState),(run w os).map (λs=>(openSeen q loose (importedModules p.main.body) Xt g s.abs).2.2.2)=some (openGood q loose).2.2.2)
  (b:∀(w:World)(os:OsState),(run w os).map (λs=>(rj p w s.abs,Yf s.abs))=some (true,Ya w)):LeftO p q loose Xt Yf Ya N g:=λw=>by
 obtain⟨⟨h,o,d,k,os⟩,u,v⟩:=bW.mp (boot_open e n f w);obtain⟨rfl,rfl,rfl,rfl⟩:h=boot_heap w.params/\o=Array.mk []/\d=boot_drawn/\k=boot_toks:=by simpa using v
 obtain⟨s1,j,x⟩:=bW.mp (a w os);have c:=c w os;have i:=i w os;have b:=b w os;rw[j,nE] at c i b;have c:=ju (cN c);have i:=cN i;obtain⟨l,y⟩:=ju (cN b);have z:openSeen q loose (importedModules p.main.body) Xt g s1.abs=openGood q loose:=nG x (nG c.1 (nG c.2 i));rw[m] at j;have r:=uF j;rw[EI] at r;have t:topFrom treeTable p w N ⟨boot_heap w.params,Array.mk [],boot_drawn,boot_toks,os⟩=some s1.abs:=by unfold topFrom;dsimp only;rw[FT,Iy,Et,r];unfold rj at l;show (match staticsOk (importedModules p.main.body) (boot_heap w.params) s1.abs.heap&&namesBound p s1.abs.heap&&gensDone s1.abs&&laidKept (boot_heap w.params) s1.abs.heap with|true=>_|false=>_)=_;rw[l]
 unfold openEnds;rw[u];show (topFrom treeTable p w N _).map _=_;rw[t];exact congrArg some (nG z y)
end L2
end
section
namespace K15
open PySem L2 PySem.W K51
def ads:List Addr:=[2,3,23,24,25,36,37,48,49,60,61,72,73,84,85,96,97,108,109,120,121,132,133,144,145,156,157,172,173,175,176,194,195,213,214,222,223,229,230,236,237,241,242,248,249,255,256,262,263,269,270,276,277,283,284,290,291,302,303,309,310,326,327,328,329,337,338,342,343,349,350,356,357,363,364,370,371,377,378,382,383,389,390,394,395,399,400,404,405,409,410,414,415,419,420,424,425,431,432,436,437,443,444,450,451,457,458,464,465,471,472,476,477,483,484,488,489]
noncomputable def view:Program:={PySem.Challenge.pw_shapestring_k14_texts_spoilt with main:={(PySem.Challenge.pw_shapestring_k14_texts_spoilt).main with body:=[aD 1,aD 2,aD 3,aD 4,aD 5,aD 6,aD 7,aD 8,aD 9,aD 10,aD 11,aD 12,aD 13,aD 14,aD 15,aD 17,aD 18,aD 19,aD 21,aD 23,aD 24,aD 25,aD 26,aD 27,aD 28,aD 29,aD 30,aD 31,aD 33,aD 34,aD 36,aD 37,aD 38,aD 39,aD 40,aD 41,aD 42,aD 43,aD 44,aD 45,aD 46,aD 47,aD 48,aD 49,aD 50,aD 51,aD 52,aD 53,aD 54,aD 55,aD 56,aD 57,aD 58,aD 59]}}
noncomputable abbrev run(w:World)(os:OsState):Option SharedT:=lx treeTable PySem.Challenge.pw_shapestring_k14_texts_spoilt w 11 (some (.ref 6)) 9630 (st0 w os) (topStub PySem.Challenge.pw_shapestring_k14_texts_spoilt)
noncomputable abbrev seenAt(s:SharedT):=openSeen view [] (importedModules (PySem.Challenge.pw_shapestring_k14_texts_spoilt).main.body) (λs=>xlAt view [] s&&recOk [] s) true s.abs
theorem leftA(w:World)(os:OsState):(run w os).map (λs=>(seenAt s).1)=some (openGood view []).1:=by kernel_rfl
theorem leftA2(w:World)(os:OsState):(run w os).map (λs=>((seenAt s).2.1,(seenAt s).2.2.1))=some ((openGood view []).2.1,(openGood view []).2.2.1):=by kernel_rfl
theorem leftA3(w:World)(os:OsState):(run w os).map (λs=>(seenAt s).2.2.2)=some (openGood view []).2.2.2:=by kernel_rfl
theorem leftB(w:World)(os:OsState):(run w os).map (λs=>(rj PySem.Challenge.pw_shapestring_k14_texts_spoilt w s.abs,Hook.obs (kHook K15.kf K15.ads (λ_=>by kernel_rfl)) s.abs))=some (true,Hook.val (kHook K15.kf K15.ads (λ_=>by kernel_rfl)) w):=by kernel_rfl
theorem left:LeftO PySem.Challenge.pw_shapestring_k14_texts_spoilt view [] (λs=>xlAt view [] s&&recOk [] s) (Hook.obs (kHook K15.kf K15.ads (λ_=>by kernel_rfl))) (Hook.val (kHook K15.kf K15.ads (λ_=>by kernel_rfl))) 9630:=
 FC (run:=run) (λ_ _=>rfl) (by decide) (by kernel_rfl) (λs=>by kernel_rfl) leftA leftA2 leftA3 leftB
end K15
end
section
namespace L2
open PySem PySem.Spec PyProof.Rows
abbrev Key:=Sum Int Str
def j8:Key->Value->Bool
 |.inl k,v=>Value.isInt k v
 |.inr x,v=>Value.isStrOf x v
def keyH(w:World):Key->Int
 |.inl k=>hashInt k
 |.inr x=>hashStr w x
theorem e8:∀{k:Key}{v:Value},j8 k v=true->(∃i t,k=Sum.inl i/\v=Value.int i t)\/(∃x t,k=Sum.inr x/\v=Value.str x t)
 |.inl i,v,h=>by
  obtain⟨t,e⟩:=Value.isInt_shape (k:=i) (v:=v) h;exact .inl ⟨i,t,rfl,e⟩
 |.inr x,v,h=>by
  obtain⟨t,e⟩:=Value.isStrOf_shape (x:=x) (v:=v) h;exact .inr ⟨x,t,rfl,e⟩
theorem Cm(i:Int)(t:Tok):j8 (.inl i) (.int i t)=true:=by simp[j8,Value.isInt]
theorem Ck(x:Str)(t:Tok):j8 (.inr x) (.str x t)=true:=by simp[j8,Value.isStrOf]
theorem HR(a b:Int):decide ((Sum.inl a:Key)=Sum.inl b)=(a==b):=by
 by_cases e:a=b
 .subst e;simp
 have h:¬(Sum.inl a:Key)=Sum.inl b:=λq=>e (nK q);rw[NG h];exact (beq_eq_false_iff_ne.mpr e).symm
theorem HN(a b:Str):decide ((Sum.inr a:Key)=Sum.inr b)=decide (a=b):=by
 by_cases e:a=b
 .subst e;simp
 have h:¬(Sum.inr a:Key)=Sum.inr b:=λq=>e (Sum.inr.inj q);rw[NG h,NG e]
theorem HQ(a:Int)(b:Str):decide ((Sum.inl a:Key)=Sum.inr b)=false:=NG (λq=>nomatch q)
theorem HP(a:Str)(b:Int):decide ((Sum.inr a:Key)=Sum.inl b)=false:=NG (λq=>nomatch q)
def cG(prog:Program)(w:World):PySem.KeyKind prog w Key where
 is:=j8
 hash:=keyH w
 inj:=λv a b ha f=>by
  rcases e8 ha with ⟨i,t,rfl,rfl⟩|⟨x,t,rfl,rfl⟩
  .rcases e8 f with ⟨j,u,rfl,e⟩|⟨y,u,rfl,e⟩
   .injection e with c _;rw[c]
   exact nomatch e
  rcases e8 f with ⟨j,u,rfl,e⟩|⟨y,u,rfl,e⟩
  .exact nomatch e
  injection e with c _;rw[c]
 byValue:=λk v h=>by
  rcases e8 h with ⟨i,t,rfl,rfl⟩|⟨x,t,rfl,rfl⟩<;>rfl
 pyHash:=λd h=>by
  rcases e8 d with ⟨i,t,rfl,rfl⟩|⟨x,t,rfl,rfl⟩
  .exact wpAny_pyHash_int h
  exact wpAny_pyHash_str h
 eqBool:=λg d h=>by
  rcases e8 g with ⟨i,t,rfl,rfl⟩|⟨x,t,rfl,rfl⟩
  .rcases e8 d with ⟨j,u,rfl,rfl⟩|⟨y,u,rfl,rfl⟩
   .rw[HR] at h;exact L8 h
   rw[HQ] at h;exact LA i t y u _ _ _ _ h
  rcases e8 d with ⟨j,u,rfl,rfl⟩|⟨y,u,rfl,rfl⟩
  .rw[HP] at h;exact LB x t j u _ _ _ _ h
  rw[HN] at h;exact wpAny_eqBool_str h
 «strs»:=λk x t v h=>by
  rcases e8 h with ⟨i,u,rfl,e⟩|⟨y,u,rfl,e⟩
  .exact nomatch e
  injection e with c _;subst c;cases v<;>rfl
theorem Bc(prog:Program)(w:World)(i:Int)(t:Tok):(cG prog w).is (.inl i) (.int i t)=true:=Cm i t
theorem Bb(prog:Program)(w:World)(x:Str)(t:Tok):(cG prog w).is (.inr x) (.str x t)=true:=Ck x t
end L2
namespace L2
open PySem PySem.Spec PyProof.Rows
inductive V where
 |non|bl (b:Bool)|int (i:Int)|str (x:Str)|byt (b:Array UInt8)|flt (b:UInt64)|ref (a:Addr)|ty (n:String)
 deriving DecidableEq
def az:V->Value->Prop
 |.non,u=>u=Value.none
 |.bl b,u=>u=Value.bool b
 |.int i,u=>∃t,u=Value.int i t
 |.str x,u=>∃t,u=Value.str x t
 |.byt b,u=>∃t,u=Value.bytes b t
 |.flt b,u=>∃t,u=Value.float b t
 |.ref a,u=>u=Value.ref a
 |.ty n,u=>u=Value.type n
abbrev Vals:List V->List Value->Prop:=Paired az
theorem Vals.length{xs:List V}(r:Vals xs us):xs.length=us.length:=nF r
theorem Vals.get:∀{xs:List V}{us:List Value}{i:Nat}{x:V},Vals xs us->xs[i]?=some x->∃u,us[i]?=some u/\az x u
 |_,_,_,_,.nil,e=>by simp at e
 |_,_,0,_,.cons r _,e=>by simp at e;subst e;exact⟨_,rfl,r⟩
 |_,_,i+1,x,.cons _ t,e=>by
  obtain⟨u,h1,h2⟩:=Vals.get (i:=i) (x:=x) t (by simpa using e);exact⟨u,by simpa using h1,h2⟩
theorem Vals.set{x:V}{u:Value}(r:az x u):∀{xs:List V}{us:List Value}(i:Nat),Vals xs us->Vals (xs.set i x) (us.set i u)
 |_,_,_,.nil=>.nil
 |_,_,0,.cons _ t=>.cons r t
 |_,_,i+1,.cons q t=>.cons q (Vals.set r i t)
theorem Vals.append{xs ys:List V}{us ws:List Value}(h:Vals xs us)(s:Vals ys ws):Vals (xs++ys) (us++ws):=by
 induction h with
 |nil=>exact s
 |cons r t a=>exact .cons r a
theorem Vals.take:∀{xs:List V}{us:List Value}(n:Nat),Vals xs us->Vals (xs.take n) (us.take n)
 |_,_,0,_=>.nil
 |_,_,_+1,.nil=>.nil
 |_,_,n+1,.cons r t=>.cons r (Vals.take n t)
theorem Vals.drop:∀{xs:List V}{us:List Value}(n:Nat),Vals xs us->Vals (xs.drop n) (us.drop n)
 |_,_,0,r=>r
 |_,_,_+1,.nil=>.nil
 |_,_,n+1,.cons _ t=>Vals.drop n t
def cM:Option V->Option Value->Prop
 |some v,some u=>az v u
 |none,none=>True
 |_,_=>False
def KV{κ:Type}:List (κ×V)->List (κ×Value)->Prop:=Paired λ(p:κ×V)(q:κ×Value)=>p.1=q.1/\az p.2 q.2
def kV:Key->V
 |.inl i=>.int i
 |.inr x=>.str x
inductive HO where
 |lst (xs:List V)
 |tup (xs:List V)
 |dK (kvs:List (Key×V))|dT (kvs:List (List Key×V))
 |set (S:Int->Bool) (n:Nat)
 |ins (C dx:Addr) (fs:List (Str×V))
 |own (x:Addr)
 |xd (fs:List (Str×V))
 |met (f x:Addr)
 |rng (lo hi:Int)
 |frz (o:Obj) (u:HO)
 |tbl (ps:Array Value)
 |ext (φ:Heap->Prop)
abbrev Hp:=Addr->Option HO
def upd(H:Hp)(a:Addr)(o:HO):Hp:=λb=>if b=a then some o else H b
theorem aP{H:Hp}{a:Addr}{o:HO}:upd H a o a=some o:=by unfold upd;rw[ND rfl]
theorem ar{H:Hp}{a b:Addr}{o:HO}(h:b≠a):upd H a o b=H b:=by unfold upd;rw[NC h]
theorem wB{H:Hp}{a:Addr}{o u:HO}:upd (upd H a o) a u=upd H a u:=by funext b;unfold upd;split<;>rfl
theorem bO{H:Hp}{a b:Addr}{o u:HO}(h:H a=some o)(h':H b=some u)(d:o≠u):a≠b:=by intro e;subst e;rw[h] at h';exact d (cN h')
theorem aq{H:Hp}{a b:Addr}{o:HO}(h:H a=some o)(h':H b=none):a≠b:=by intro e;subst e;rw[h] at h';cases h'
section
variable (P:Program)(w:World)
def aV(H:Hp)(h:Heap)(a:Addr):HO->Prop
 |.lst xs=>xs.length<=sizeLine/\∃(its:List Value)(n:Nat),Vals xs its/\h.get? a=some {cls:=.type "list",data:=.seq its.toArray n}
 |.tup xs=>(xs.length<=sizeLine/\∃o,h.get? a=some o/\o.dict=none)/\∃its:List Value,Vals xs its/\IsTup h a its.toArray
 |.dK kvs=>kvs.length<=sizeLine/\(a==sysModules)=false/\∃vs,KV kvs vs/\h.DictOf (cG P w) a vs
 |.dT kvs=>kvs.length<=sizeLine/\(a==sysModules)=false/\∃xs:List (List Key×Addr×Value),
   Paired (λ(p:List Key×V)(q:List Key×Addr×Value)=>p.1=q.1/\H q.2.1=some (.tup (p.1.map kV))/\az p.2 q.2.2) kvs xs/\
   ∃o es ep,h.get? a=some o/\o.ExactDict/\o.data=.dict es ep/\es.toList=xs.map (entryOfKey (tupleKind (cG P w)))/\(xs.map (·.1)).Nodup
 |.set S n=>h.SetOf (intKind P w) a S n
 |.ins C dx fs=>H dx=some (.own a)/\fs.length<=1000/\dx≠a/\h.get? a=some (W.instObj C dx)/\
   ∃mA,h.Ns1 dx mA/\(∀f,cM (fs.lookup f) (mA f))/\PySem.Within mA (fs.map (·.1))
 |.own _=>∃o,h.get? a=some o
 |.xd fs=>∃mA,h.Ns1 a mA/\∀f,cM (fs.lookup f) (mA f)
 |.rng lo hi=>∃t u v,h.get? a=some {cls:=.type "range",data:=.fields #[.int lo t,.int hi u,.int 1 v]}
 |.frz o u=>h.get? a=some o/\aV H h a u
 |.tbl ps=>h.get? a=some {cls:=.none,data:=.fields ps}
 |.met f x=>h.get? a=some (W.methodObj (.ref f) (.ref x))
 |.ext φ=>φ h/\(∃o,h.get? a=some o)/\∀h1 h2:Heap,φ h1->(∀o,h1.get? a=some o->h2.get? a=some o)->φ h2
def HOk(H:Hp)(h:Heap):Prop:=∀a o,H a=some o->aV P w H h a o
end
section
variable {H H':Hp}{h h':Heap}{a:Addr}{o:HO}
theorem aV.lt(x:aV P w H h a o):a<h.objs.size:=by
 cases o with
 |lst xs=>obtain⟨_,_,_,_,e⟩:=x;exact aE e
 |tup xs=>obtain⟨_,_,_,p⟩:=x;exact p.lt
 |dK kvs=>obtain⟨_,_,_,_,o,_,_,e,_⟩:=x;exact aE e
 |dT kvs=>obtain⟨_,_,_,_,o,_,_,e,_⟩:=x;exact aE e
 |set S n=>obtain⟨o,_,_,_,e,_⟩:=x;exact aE e
 |ins C dx fs=>obtain⟨_,_,_,e,_⟩:=x;exact aE e
 |own y=>obtain⟨_,e⟩:=x;exact aE e
 |xd fs=>obtain⟨_,⟨_,_,_,e,_⟩,_⟩:=x;exact aE e
 |rng lo hi=>obtain⟨_,_,_,e⟩:=x;exact aE e
 |frz b u=>obtain⟨e,_⟩:=x;exact aE e
 |tbl ps=>exact aE (show h.get? a=some _ from x)
 |met f y=>exact aE (show h.get? a=some _ from x)
 |ext φ=>obtain⟨_,⟨_,e⟩,_⟩:=x;exact aE e
theorem Paired.mapP{α β:Type}{F G:α->β->Prop}:∀{l₁:List α}{l₂:List β},Paired F l₁ l₂->(∀a b,F a b->G a b)->Paired G l₁ l₂
 |_,_,.nil,_=>.nil
 |_,_,.cons r t,f=>.cons (f _ _ r) (Paired.mapP t f)
theorem Paired.imp'{α β:Type}{F G:α->β->Prop}(f:∀a b,F a b->G a b){l₁:List α}{l₂:List β}(r:Paired F l₁ l₂):Paired G l₁ l₂:=Paired.mapP r f
theorem aV.stay(x:aV P w H h a o)(k:∀b u,(b=a\/H b=some (.own a))->h.get? b=some u->h'.get? b=some u)
  (i:∀b,H b=some (.own a)->H' b=some (.own a)) (j:∀b xs,H b=some (.tup xs)->H' b=some (.tup xs)):aV P w H' h' a o:=by
 induction o with
 |lst xs=>obtain⟨z,its,n,r,e⟩:=x;exact⟨z,its,n,r,k _ _ (.inl rfl) e⟩
 |tup xs=>obtain⟨⟨z,o',l,d'⟩,its,r,g,e,c⟩:=x;exact⟨⟨z,o',k _ _ (.inl rfl) l,d'⟩,its,r,g,k _ _ (.inl rfl) e,c⟩
 |dK kvs=>obtain⟨z,y,vs,r,g,es,ep,e,c⟩:=x;exact⟨z,y,vs,r,g,es,ep,k _ _ (.inl rfl) e,c⟩
 |dT kvs=>
  obtain⟨z,y,xs,r,g,es,ep,e,c⟩:=x;exact⟨z,y,xs,Paired.mapP r λp q z=>⟨z.1,j _ _ z.2.1,z.2.2⟩,g,es,ep,k _ _ (.inl rfl) e,c⟩
 |set S n=>obtain⟨g,es,ep,t,e,c⟩:=x;exact⟨g,es,ep,t,k _ _ (.inl rfl) e,c⟩
 |ins C dx fs=>
  obtain⟨d,z,ne,e,mA,⟨od,es,ep,m,c⟩,r⟩:=x;exact⟨i _ d,z,ne,k _ _ (.inl rfl) e,mA,⟨od,es,ep,k _ _ (.inr d) m,c⟩,r⟩
 |own y=>obtain⟨g,e⟩:=x;exact⟨g,k _ _ (.inl rfl) e⟩
 |xd fs=>obtain⟨mA,⟨od,es,ep,e,c⟩,r⟩:=x;exact⟨mA,⟨od,es,ep,k _ _ (.inl rfl) e,c⟩,r⟩
 |rng lo hi=>obtain⟨t,u,v,e⟩:=x;exact⟨t,u,v,k _ _ (.inl rfl) e⟩
 |frz g u s=>obtain⟨e,q⟩:=x;exact⟨k _ _ (.inl rfl) e,s q⟩
 |tbl ps=>
  have e:h.get? a=some {cls:=.none,data:=.fields ps}:=x;show h'.get? a=some {cls:=.none,data:=.fields ps};exact k a _ (.inl rfl) e
 |met f y=>
  have e:h.get? a=some (W.methodObj (.ref f) (.ref y)):=x;show h'.get? a=some (W.methodObj (.ref f) (.ref y));exact k a _ (.inl rfl) e
 |ext φ=>obtain⟨p,⟨o,e⟩,st⟩:=x;exact⟨st _ _ p λo q=>k _ _ (.inl rfl) q,⟨o,k _ _ (.inl rfl) e⟩,st⟩
theorem HOk.lt(x:HOk P w H h)(e:H a=some o):a<h.objs.size:=(x a o e).lt
theorem HOk.fresh(x:HOk P w H h)(e:h.objs.size<=a):H a=none:=by
 cases q:H a with
 |none=>rfl
 |some u=>exact absurd (bP (x.lt q) e) (de _)
theorem HOk.kept(x:HOk P w H h)(k:∀b u,h.get? b=some u->h'.get? b=some u):HOk P w H h':=λa o e=>
 (x a o e).stay (λb u _ q=>k b u q) (λ_ q=>q) λ_ _ q=>q
theorem HOk.laid(x:HOk P w H h)(k:∀b u,h.get? b=some u->h'.get? b=some u)(g:h.objs.size<=a)(new:aV P w (upd H a o) h' a o):HOk P w (upd H a o) h':=λb u e=>by
 have d:=x.fresh g;by_cases f:b=a
 .subst f;rw[aP] at e;cases e;exact new
 rw[ar f] at e;exact (x b u e).stay (λc v _ q=>k c v q) (λc q=>by rw[ar (aq q d)];exact q) λc xs q=>by rw[ar (aq q d)];exact q
end
def Rd(H:Hp)(a:Addr)(u:HO):Prop:=H a=some u\/∃o,H a=some (.frz o u)
theorem Rd.ok{H:Hp}{h:Heap}{a:Addr}{u:HO}(r:Rd H a u)(x:HOk P w H h):aV P w H h a u:=by
 rcases r with r|⟨o,r⟩
 .exact x a u r
 obtain⟨_,q⟩:=x a _ r;exact q
def Mut:Option HO->Prop
 |some (.lst _)=>True
 |some (.dK _)=>True
 |some (.dT _)=>True
 |some (.set _ _)=>True
 |some (.ins _ _ _)=>True
 |some (.ext _)=>True
 |_=>False
section
variable {H:Hp}{h h':Heap}{x e:Addr}{o':HO}
theorem HOk.write(ok:HOk P w H h)(a:Mut (H x))(he:e=x\/H e=some (.own x))(k:∀b u,b≠e->h.get? b=some u->h'.get? b=some u)(l:∃u,h'.get? e=some u)
  (new:aV P w (upd H x o') h' x o'):HOk P w (upd H x o') h':=λb u q=>by
 have i:∀c y,H c=some (.own y)->c≠x:=λc y r z=>by subst z;rw[r] at a;exact a
 have m:∀c xs,H c=some (.tup xs)->c≠x:=λc xs r z=>by subst z;rw[r] at a;exact a
 by_cases d:b=x
 .subst d;rw[aP] at q;cases q;exact new
 rw[ar d] at q;by_cases f:b=e
 .have j:H b=some (.own x):=by
   rcases he with z|z
   .exact absurd (f.trans z) d
   rw[f];exact z
  rw[q] at j;cases j;obtain⟨v,n⟩:=l;exact⟨v,by rw[f];exact n⟩
 refine (ok b u q).stay (λc v g r=>k c v ?_ r) (λc r=>by rw[ar (i c b r)];exact r) λc xs r=>by rw[ar (m c xs r)];exact r
 rcases g with rfl|g
 .exact f
 rintro rfl;rcases he with z|z
 .exact i c b g z
 rw[g] at z;cases z;exact d rfl
end
structure Un(fs ex:List Addr)(H H':Hp)(h h':Heap):Prop where
 keep:∀b o,h.get? b=some o->H b=none->b∉fs->b∉ex->h'.get? b=some o
 slot:∀b o,h.get? b=some o->H b=none->b∈fs->b∉ex->∃sl,h'.get? b=some {o with slots:=sl}
 free:∀b o,h.get? b=some o->H b=none->b∉ex->H' b=none
 there:∀b o,h.get? b=some o->b∉ex->∃o',h'.get? b=some o'
 tups:∀b xs,H b=some (.tup xs)->H' b=some (.tup xs)
 frzs:∀b o u,H b=some (.frz o u)->H' b=some (.frz o u)
 tbls:∀b ps,H b=some (.tbl ps)->∃more,H' b=some (.tbl (ps++more))
section
variable {fs fs' ex ex':List Addr}{H H1 H2:Hp}{h h1 h2 h':Heap}{a x e:Addr}{o:HO}
theorem Un.any(u:Un fs ex H H1 h h1){b:Addr}{a:Obj}(q:h.get? b=some a)(n:H b=none)(hx:b∉ex):∃sl,h1.get? b=some {a with slots:=sl}:=by
 by_cases c:b∈fs
 .exact u.slot b a q n c hx
 exact⟨a.slots,u.keep b a q n c hx⟩
theorem Un.kept(k:∀b u,h.get? b=some u->h'.get? b=some u):Un fs ex H H h h':=
 ⟨λb a q _ _ _=>k b a q,λb a q _ _ _=>⟨a.slots,k b a q⟩,λ_ _ _ n _=>n,λb a q _=>⟨a,k b a q⟩,λ_ _ q=>q,λ_ _ _ q=>q,λ_ ps q=>⟨#[],by rw[q];simp⟩⟩
theorem Un.refl:Un fs ex H H h h:=Un.kept λ_ _ q=>q
theorem Un.laid(k:∀b u,h.get? b=some u->h'.get? b=some u)(d:h.objs.size<=a)(c:H a=none):Un fs ex H (upd H a o) h h' where
 keep:=λb u q _ _ _=>k b u q
 slot:=λb u q _ _ _=>⟨u.slots,k b u q⟩
 free:=λb u q n _=>by rw[ar (bc (bP (aE q) d))];exact n
 there:=λb u q _=>⟨u,k b u q⟩
 tups:=λb xs q=>by rw[ar (aq q c)];exact q
 frzs:=λb u xs q=>by rw[ar (aq q c)];exact q
 tbls:=λb ps q=>⟨#[],by rw[ar (aq q c),q];simp⟩
theorem Un.write(a:Mut (H x))(he:e=x\/H e=some (.own x))(k:∀b u,b≠e->h.get? b=some u->h'.get? b=some u)(f:∃u,h'.get? e=some u):Un fs ex H (upd H x o) h h':=by
 have hx:∀b,H b=none->b≠x:=λb n z=>by subst z;rw[n] at a;exact a
 have c:∀b,H b=none->b≠e:=λb n z=>by
  subst z;rcases he with r|r
  .exact hx b n r
  rw[n] at r;cases r
 have hm:∀b u,H b=some u->¬Mut (some u)->b≠x:=λb u q nm z=>by subst z;rw[q] at a;exact nm a
 refine⟨λb u q n _ _=>k b u (c b n) q,λb u q n _ _=>⟨u.slots,k b u (c b n) q⟩,λb u q n _=>by rw[ar (hx b n)];exact n,λb u q _=>?_,
  λb xs q=>by rw[ar (hm b _ q λz=>z)];exact q,λb u xs q=>by rw[ar (hm b _ q λz=>z)];exact q,λb ps q=>⟨#[],by rw[ar (hm b _ q λz=>z),q];simp⟩⟩
 by_cases d:b=e
 .subst d;exact f
 exact⟨u,k b u d q⟩
end
def trk(h:Heap)(H:Hp):List Addr:=(List.range h.objs.size).filter λa=>(H a).isSome
def gD(h:Heap)(H:Hp):Heap:=W.hideAll h (trk h H)
theorem Ct(h:Heap)(H:Hp):(gD h H).objs.size=h.objs.size:=W.hideAll_size _ _
theorem D7{h:Heap}{H:Hp}{b:Addr}{o:Obj}(e:h.get? b=some o)(n:H b=none):(gD h H).get? b=some o:=
 W.hideAll_get _ e λhm=>by
  have q:(H b).isSome=true:=(gJ.mp hm).2;rw[n] at q;simp at q
theorem Fw{h:Heap}{H:Hp}{b:Addr}{o:Obj}(e:(gD h H).get? b=some o):h.get? b=some o/\H b=none:=by
 have a:h.get? b=some o:=W.of_hideAll (trk h H) e;refine⟨a,?_⟩;cases q:H b with
 |none=>rfl
 |some x=>
  have hm:b∈trk h H:=gJ.mpr ⟨iI.mpr (aE a),by simp[q]⟩;have z:(gD h H).get? b=none:=W.hideAll_none (trk h H) hm;rw[z] at e;cases e
def oQ(g h:Heap)(L:Addr):List (Addr×Obj):=(List.range h.objs.size).filterMap λa=>if a=L\/(g.get? a).isSome=true then none else (h.get? a).map λo=>(a,o)
theorem qp{g h:Heap}{L a:Addr}{o:Obj}(h1:a≠L)(h2:g.get? a=none)(b:h.get? a=some o):(a,o)∈oQ g h L:=
 tO.mpr ⟨a,iI.mpr (aE b),by simp[h1,h2,b]⟩
theorem AF{g h:Heap}{L:Addr}{p:Addr×Obj}(c:p∈oQ g h L):p.1≠L/\g.get? p.1=none/\h.get? p.1=some p.2:=by
 obtain⟨b,_,e⟩:=tO.mp c
 split at e
 .cases e
 rename_i a;cases q:h.get? b with
 |none=>rw[q] at e;simp at e
 |some u=>
  rw[q] at e;simp only[nE,Mv] at e;subst e;refine⟨λz=>a (.inl z),?_,q⟩;show g.get? b=none;cases r:g.get? b with
  |none=>rfl
  |some v=>exact (a (.inr (by simp[r]))).elim
theorem qR{g h:Heap}{L:Addr}:News g L h (oQ g h L):=λp d=>let ⟨a,b,c⟩:=AF d;⟨c,a,b⟩
end L2
namespace L2
open PySem PySem.Spec PyProof.Rows
structure Mod(K:W.Frag)(mg:Str->Option Value)(base:Heap):Prop where
 kin:K.In base
 glob:base.Ns mainGlobals mg
 blt:∃mb,base.Ns builtinsNs mb/\∀x:Str,x≠"__name__"->mb x=bootBuiltins x
 nolimit:base.NoLimit
structure Cx where
 prog:Program
 w:World
 K:W.Frag
 mg:Str->Option Value
 base:Heap
 A:Around
 N:List Str
 s₀:Shared
 H₀:Hp
 env:Env
 outer:List Env
 stack:List Env
 ex:List Addr
 fn:Str->Bool
 calm:Bool
 pn:List (Addr×Obj)
 xe:Value->Shared->Prop
def frs(l:List Env):List Addr:=l.filterMap (·.frame)
abbrev Cx.fs(X:Cx):List Addr:=frs X.outer
def Vis(sc:Scope)(x:Str):Prop:=sc.names.lookup x=some .local\/sc.names.lookup x=some .cell\/sc.names.lookup x=some .free
def Loc(sc:Scope)(x:Str):Prop:=sc.names.lookup x=some .local\/sc.names.lookup x=some .cell
def Look(env:Env)(h:Heap)(m:Str->Option Value)(x:Str)(u:Value):Prop:=
 (env.kindOf x=some .local/\m x=some u)\/((env.kindOf x=some .cell\/env.kindOf x=some .free)/\∃c,env.cells.lookup x=some c/\h.IsCell c (some u))
structure Cx.Ok(X:Cx):Prop where
 mod:Mod X.K X.mg X.base
 kind:X.env.scope.kind=.function
 glob:X.env.globals=mainGlobals
 blt:X.env.builtins=builtinsNs
 above:X.s₀.heap.objs.size<=X.env.locals
 inj:∀x y c,X.env.cells.lookup x=some c->X.env.cells.lookup y=some c->x=y
 has:∀x,(X.env.kindOf x=some .cell\/X.env.kindOf x=some .free)->∃c,X.env.cells.lookup x=some c
 cab:∀x c,X.fn x=true->X.env.cells.lookup x=some c->X.s₀.heap.objs.size<=c
 hd:X.calm=true->X.A.handled=none
 frames:X.A.frames=some X.stack
 stk:X.stack=X.outer\/(X.stack=X.env::X.outer/\X.env.frame=some X.env.locals)
 exf:∀b∈X.ex,b≠X.env.locals/\∀x c,X.env.cells.lookup x=some c->c≠b
 bs:∀b o,X.base.get? b=some o->X.s₀.heap.get? b=some o/\X.H₀ b=none
 bsz:X.base.objs.size<=X.s₀.heap.objs.size
 noex:∀b o,X.base.get? b=some o->b∉X.ex
 exfs:∀b∈X.ex,b∉X.fs
 funs:X.s₀.heap.FunFrames X.base X.outer
 frf:∀b∈X.fs,X.H₀ b=none
structure Inv(X:Cx)(NI:List (Addr×Obj))(Z:List (Option V))(H:Hp)(s:Shared):Prop where
 ok:X.Ok
 os:s.os=X.s₀.os
 bare:AllBare s.gens
 base:Un X.fs X.ex X.H₀ H X.s₀.heap s.heap
 loc:∃m,s.heap.Ns X.env.locals m/\∀(i:Nat)(x:Str)(v:V),X.N[i]?=some x->Z[i]?=some (some v)->Vis X.env.scope x->∃u,az v u/\Look X.env s.heap m x u
 cell:∀x c,X.env.cells.lookup x=some c->∃v,s.heap.IsCell c v
 free:H X.env.locals=none
 freeC:∀x c,X.env.cells.lookup x=some c->H c=none
 pin:∀p∈X.pn++NI,s.heap.get? p.1=some p.2/\H p.1=none/\p.1≠X.env.locals/\p.1∉X.fs/\∀v,p.2.data≠.cell v
 hok:HOk X.prog X.w H s.heap
 len:Z.length=X.N.length
section
variable {X:Cx}{Z:List (Option V)}{H H':Hp}{h':Heap}
theorem Cx.Ok.nofr(ok:X.Ok){b:Addr}{o:Obj}(e:X.base.get? b=some o):b∉X.fs:=λa=>by
 have:=(ok.funs.mem a).1;rw[e] at this;cases this
theorem Inv.bs(I:Inv X NI Z H s):∀b o,X.base.get? b=some o->s.heap.get? b=some o/\H b=none:=λb o e=>
 ⟨I.base.keep b o (I.ok.bs b o e).1 (I.ok.bs b o e).2 (I.ok.nofr e) (I.ok.noex b o e),I.base.free b o (I.ok.bs b o e).1 (I.ok.bs b o e).2 (I.ok.noex b o e)⟩
theorem Inv.bk(I:Inv X NI Z H s):∀b o,X.base.get? b=some o->s.heap.get? b=some o:=λb o e=>(I.bs b o e).1
theorem Inv.mod(I:Inv X NI Z H s):Mod X.K X.mg X.base:=I.ok.mod
theorem Inv.kIn(I:Inv X NI Z H s):X.K.In s.heap:=I.ok.mod.kin.keeps I.bk
theorem Inv.fr(I:Inv X NI Z H s):∃m,Fr X.base X.env.locals s.heap m:=
 let ⟨m,a,_⟩:=I.loc
 ⟨m,a,I.bk,br I.ok.bsz I.ok.above⟩
theorem Inv.lt(I:Inv X NI Z H s):X.env.locals<s.heap.objs.size:=let ⟨_,a,_⟩:=I.loc;a.lt
theorem Inv.sz(I:Inv X NI Z H s):X.s₀.heap.objs.size<=s.heap.objs.size:=br I.ok.above (km I.lt)
theorem Inv.nofs(I:Inv X NI Z H s){a:Addr}(h:s.heap.objs.size<=a):a∉X.fs:=λb=>by
 obtain⟨_,o,c,_⟩:=I.ok.funs.mem b;exact absurd (bP (aE c) (br I.sz h)) (de _)
theorem Inv.cne(I:Inv X NI Z H s):∀x c,X.env.cells.lookup x=some c->c≠X.env.locals:=λx c e z=>by
 obtain⟨v,o,a,hd⟩:=I.cell x c e;obtain⟨m,⟨o',es,ep,b,d,_⟩,_⟩:=I.loc;rw[z,b] at a;cases a;rw[d] at hd;cases hd
theorem Inv.funs(I:Inv X NI Z H s):s.heap.FunFrames X.base X.outer:=by
 have all:∀(l:List Env),(∀b∈frs l,b∈X.fs)->X.s₀.heap.FunFrames X.base l->s.heap.FunFrames X.base l:=by
  intro l;induction l with
  |nil=>intro _ _;trivial
  |cons env r f=>
   intro d g;obtain⟨h,⟨L,o,hf,i,j,hd⟩,m⟩:=g;have a:L∈X.fs:=d L (by unfold frs;rw[pY,hf];exact iH);obtain⟨sl,e⟩:=I.base.slot L o j (I.ok.frf L a) a λz=>I.ok.exfs L z a;exact⟨h,⟨L,_,hf,i,e,hd⟩,f (λb c=>d b (by unfold frs;rw[pY,hf];exact bZ _ c)) m⟩
 exact all X.outer (λ_ c=>c) I.ok.funs
theorem Inv.stack(I:Inv X NI Z H s):s.heap.FunFrames X.base X.stack:=by
 rcases I.ok.stk with e|⟨e,hf⟩
 .rw[e];exact I.funs
 rw[e];obtain⟨m,a,_⟩:=I.loc;refine .cons (by rw[I.ok.kind];decide) hf a ?_ I.funs;exact ni (br I.ok.bsz I.ok.above)
theorem Inv.stkSub(I:Inv X NI Z H s):∀b∈frs X.stack,b∈X.env.locals::X.fs:=λb a=>by
 rcases I.ok.stk with e|⟨e,hf⟩
 .rw[e] at a;exact bZ _ a
 rw[e] at a;unfold frs at a;rw[pY,hf] at a;exact a
theorem Inv.stkFree(I:Inv X NI Z H s):∀b∈frs X.stack,H b=none:=λb a=>by
 rcases aK.mp (I.stkSub b a) with e|a
 .rw[e];exact I.free
 obtain⟨_,o,c,_⟩:=I.ok.funs.mem a;exact I.base.free b o c (I.ok.frf b a) λz=>I.ok.exfs b z a
theorem Inv.step{g':Array GenState}{t':Nat}{d':Drawn}{ch:List Addr}(I:Inv X NI Z H s)
  (h:∀b∈ch,(b∈X.ex\/X.s₀.heap.objs.size<=b)/\b≠X.env.locals/\(∀x c,X.env.cells.lookup x=some c->c≠b)/\∀p∈X.pn++NI,p.1≠b)
  (keep:∀b o,b≠X.env.locals->b∉X.fs->b∉ch->s.heap.get? b=some o->H b=none->h'.get? b=some o)
  (slot:∀b o,b≠X.env.locals->b∈X.fs->b∉ch->s.heap.get? b=some o->H b=none->∃sl,h'.get? b=some {o with slots:=sl}) (free:∀b o,b∉ch->s.heap.get? b=some o->H b=none->H' b=none)
  (there:∀b o,b∉ch->s.heap.get? b=some o->∃o',h'.get? b=some o')
  (tups:∀b xs,H b=some (.tup xs)->H' b=some (.tup xs)) (frzs:∀b o u,H b=some (.frz o u)->H' b=some (.frz o u)) (tbls:∀b ps,H b=some (.tbl ps)->∃more,H' b=some (.tbl (ps++more)))
  (ns:∀m,s.heap.Ns X.env.locals m->h'.Ns X.env.locals m) (hok:HOk X.prog X.w H' h') (K:AllBare g') :
  Inv X NI Z H' {s with heap:=h',gens:=g',drawn:=d',toks:=t'}:=by
 have B:∀b o,X.s₀.heap.get? b=some o->b≠X.env.locals:=λb o e=>bc (bP (aE e) I.ok.above);have A:∀b o,X.s₀.heap.get? b=some o->b∉X.ex->b∉ch:=λb o e hx f=>by
  rcases (h b f).1 with z|z
  .exact hx z
  exact absurd (bP (aE e) z) (de _)
 have cellK:∀x c,X.env.cells.lookup x=some c->∀v,s.heap.IsCell c v->h'.IsCell c v:=λx c e v ⟨o,g,hd⟩=>by
  have j:c∉ch:=λz=>(h c z).2.2.1 x c e rfl;by_cases C:c∈X.fs
  .obtain⟨sl,q⟩:=slot c o (I.cne x c e) C j g (I.freeC x c e);exact⟨_,q,hd⟩
  exact⟨o,keep c o (I.cne x c e) C j g (I.freeC x c e),hd⟩
 refine⟨I.ok,I.os,K,⟨λb o e n f hx=>?_,λb o e n f hx=>?_,λb o e n hx=>?_,λb o e hx=>?_,λb xs e=>tups b xs (I.base.tups b xs e),λb o xs e=>frzs b o xs (I.base.frzs b o xs e),λb ps e=>?_⟩,?_,λx c e=>?_,?_,λx c e=>?_,λp D=>?_,hok,I.len⟩
 .exact keep b o (B b o e) f (A b o e hx) (I.base.keep b o e n f hx) (I.base.free b o e n hx)
 .obtain⟨sl,a⟩:=I.base.slot b o e n f hx;obtain⟨L,y⟩:=slot b _ (B b o e) f (A b o e hx) a (I.base.free b o e n hx);exact⟨L,y⟩
 .obtain⟨o',a⟩:=I.base.there b o e hx;exact free b o' (A b o e hx) a (I.base.free b o e n hx)
 .obtain⟨o',a⟩:=I.base.there b o e hx;exact there b o' (A b o e hx) a
 .obtain⟨M,a⟩:=I.base.tbls b ps e;obtain⟨N,y⟩:=tbls b _ a;exact⟨M++N,by rw[y,Array.append_assoc]⟩
 .obtain⟨m,O,P⟩:=I.loc;refine⟨m,ns m O,λi x v a y Q=>?_⟩;obtain⟨u,r,l⟩:=P i x v a y Q;refine⟨u,r,?_⟩;rcases l with l|⟨k,c,e,z⟩
  .exact .inl l
  exact .inr ⟨k,c,e,cellK x c e _ z⟩
 .obtain⟨v,z⟩:=I.cell x c e;exact⟨v,cellK x c e v z⟩
 .obtain⟨m,⟨o,_,_,g,_⟩,_⟩:=I.loc;exact free _ o (λz=>(h _ z).2.1 rfl) g I.free
 .obtain⟨v,o,g,hd⟩:=I.cell x c e;exact free c o (λz=>(h c z).2.2.1 x c e rfl) g (I.freeC x c e)
 obtain⟨e,n,ne,E,d⟩:=I.pin p D;have j:p.1∉ch:=λz=>(h p.1 z).2.2.2 p D rfl;exact⟨keep p.1 p.2 ne E j e n,free p.1 p.2 j e n,ne,E,d⟩
theorem Inv.un{t':Nat}(I:Inv X NI Z H s)(u:Un X.fs [] H H' s.heap h')(hok:HOk X.prog X.w H' h'):Inv X NI Z H' {s with heap:=h',toks:=t'}:=by
 obtain⟨m,⟨o,es,ep,c,r⟩,_⟩:=id I.loc;obtain⟨sl,f⟩:=u.any c I.free (by simp);exact I.step (g':=s.gens) (d':=s.drawn) (ch:=[]) (λ_ z=>nomatch z) (λb o _ a _ e n=>u.keep b o e n a (by simp)) (λb o _ a _ e n=>u.slot b o e n a (by simp)) (λb o _ e n=>u.free b o e n (by simp)) (λb o _ e=>u.there b o e (by simp)) u.tups u.frzs u.tbls (λj hm=>by
  obtain⟨o',g,h,d,i⟩:=hm;rw[c] at d;cases d;exact⟨_,g,h,f,i⟩) hok I.bare
theorem Inv.call{g':Array GenState}{t':Nat}{d':Drawn}{ch:List Addr}(I:Inv X NI Z H s)(u:Un (frs X.stack) ch H H' s.heap h')(hok:HOk X.prog X.w H' h')(i:AllBare g')
  (f:∀b∈ch,(b∈X.ex\/X.s₀.heap.objs.size<=b)/\b≠X.env.locals/\(∀x c,X.env.cells.lookup x=some c->c≠b)/\∀p∈X.pn++NI,p.1≠b) :
  Inv X NI Z H' {s with heap:=h',gens:=g',drawn:=d',toks:=t'}:=by
 obtain⟨m,⟨o,es,ep,g,r⟩,_⟩:=id I.loc;obtain⟨sl,d⟩:=u.any g I.free λz=>(f _ z).2.1 rfl;exact I.step (ch:=ch) f (λb o d j a e n=>u.keep b o e n (λz=>(aK.mp (I.stkSub b z)).elim d j) a) (λb o _ _ a e n=>u.any e n a) (λb o a e n=>u.free b o e n a) (λb o a e=>u.there b o e a) u.tups u.frzs u.tbls (λy hm=>by
  obtain⟨o',l,q,h,v⟩:=hm;rw[g] at h;cases h;exact⟨_,l,q,d,v⟩) hok i
theorem Inv.turned{t':Nat}{it:Addr}(I:Inv X NI Z H s)(k:∀b o,b≠it->s.heap.get? b=some o->h'.get? b=some o)(g:H it=none)(d:it≠X.env.locals)
  (h1:it∈X.ex\/X.s₀.heap.objs.size<=it) (h2:∀x c,X.env.cells.lookup x=some c->c≠it) (h:∀p∈X.pn++NI,p.1≠it):Inv X NI Z H {s with heap:=h',toks:=t'}:=by
 have f:∀b u,H b=some u->b≠it:=λb u e z=>by rw[z,g] at e;cases e
 refine I.step (g':=s.gens) (d':=s.drawn) (ch:=[it]) (λb i=>?_) (λb o _ _ a e _=>k b o (λz=>a (by simp[z])) e) (λb o _ _ a e _=>⟨o.slots,k b o (λz=>a (by simp[z])) e⟩) (λ_ _ _ _ n=>n)
  (λb o a e=>⟨o,k b o (λz=>a (by simp[z])) e⟩) (λ_ _ e=>e) (λ_ _ _ e=>e) (λb ps e=>⟨#[],by rw[e];simp⟩) (λm hm=>?_) (λb u e=>?_) I.bare
 .have e:b=it:=by simpa using i
  subst e;exact⟨h1,d,h2,h⟩
 .obtain⟨o,es,ep,j,r⟩:=hm;exact⟨o,es,ep,k _ o (aB d) j,r⟩
 refine (I.hok b u e).stay (λc v a q=>k c v ?_ q) (λ_ q=>q) λ_ _ q=>q;rcases a with z|z
 .rw[z];exact f b u e
 exact f c _ z
theorem Inv.tok(I:Inv X NI Z H s)(t:Nat):Inv X NI Z H {s with toks:=t}:=I.un (h':=s.heap) (t':=t) Un.refl I.hok
theorem Inv.kept{t':Nat}(I:Inv X NI Z H s)(k:∀b u,s.heap.get? b=some u->h'.get? b=some u):Inv X NI Z H {s with heap:=h',toks:=t'}:=I.un (Un.kept k) (I.hok.kept k)
theorem Inv.laid{a:Addr}{o:HO}{t':Nat}(I:Inv X NI Z H s)(k:∀b u,s.heap.get? b=some u->h'.get? b=some u)(c:s.heap.objs.size<=a)(new:aV X.prog X.w (upd H a o) h' a o) :
  Inv X NI Z (upd H a o) {s with heap:=h',toks:=t'}:=I.un (Un.laid k c (I.hok.fresh c)) (I.hok.laid k c new)
theorem Inv.write{x e:Addr}{o:HO}{t':Nat}(I:Inv X NI Z H s)(a:Mut (H x))(he:e=x\/H e=some (.own x))(k:∀b u,b≠e->s.heap.get? b=some u->h'.get? b=some u)(c:∃u,h'.get? e=some u)
  (new:aV X.prog X.w (upd H x o) h' x o):Inv X NI Z (upd H x o) {s with heap:=h',toks:=t'}:=I.un (Un.write a he k c) (I.hok.write a he k c new)
theorem Inv.pins_of{a:List (Addr×Obj)}(I:Inv X NI Z H s)(h:∀p∈a,s.heap.get? p.1=some p.2/\H p.1=none/\p.1≠X.env.locals/\p.1∉X.fs/\∀v,p.2.data≠.cell v):Inv X a Z H s:=
 ⟨I.ok,I.os,I.bare,I.base,I.loc,I.cell,I.free,I.freeC,λp b=>(aW.mp b).elim (λz=>I.pin p (dC _ z)) (h p),I.hok,I.len⟩
theorem qQ{N:List Str}(c:N.Nodup){i j:Nat}{x:Str}(a:N[i]?=some x)(b:N[j]?=some x):i=j:=by obtain⟨h1,d⟩:=aG.mp a;obtain⟨h2,e⟩:=aG.mp b;exact (List.getElem_inj c).mp (d.trans e.symm)
theorem uZ{M:Model}{i:Nat}{x:Str}{v:V}{u:Value}{Q:Unit->Shared->Prop}(I:Inv X NI Z H s)(hN:X.N.Nodup)(hi:X.N[i]?=some x)(hx:Loc X.env.scope x)(r:az v u)
  (h:∀s',Inv X NI (Z.set i (some v)) H s'->(∃a,Heap.SameBut a s.heap s'.heap/\(a=X.env.locals\/X.env.cells.lookup x=some a))->Q () s') (hf:X.fn x=true\/X.env.scope.names.lookup x=some .local:=by first|exact .inl rfl|exact .inr rfl|assumption):wpAny M A (storeName X.env x u) Q E s:=by
 obtain⟨m,P,hl⟩:=id I.loc;have ap:(X.env.scope.kind==.class||(X.env.scope.kind==.module&&X.env.locals != X.env.globals))=false:=by rw[I.ok.kind];rfl
 have hiσ:i<Z.length:=by rw[I.len];exact (aG.mp hi).1
 have cne:=I.cne;have tracked:∀{a:Addr}{h':Heap},(∃o,s.heap.get? a=some o/\H a=none)->Heap.SameBut a s.heap h'->HOk X.prog X.w H h':=λ{a h'} ha f b ob e=>by
  obtain⟨_,_,ad⟩:=ha;refine (I.hok b ob e).stay (λc L l q=>(f.2 c ?_).trans q) (λ_ q=>q) λ_ _ q=>q;rintro rfl;rcases l with rfl|l
  .rw[ad] at e;cases e
  rw[ad] at l;cases l
 rcases hx with C|C
 .refine wpAny_storeName_local C P (λh' au f=>?_) ap;obtain⟨oL,_,_,aM,_⟩:=id P;refine h _ ⟨I.ok,I.os,I.bare,⟨λb o e n D hx=>?_,λb o e n D hx=>?_,I.base.free,λb o e hx=>?_,I.base.tups,I.base.frzs,I.base.tbls⟩,⟨_,au,λj y R g B S=>?_⟩,λy c e=>?_,I.free,I.freeC,λp T=>?_,tracked ⟨oL,aM,I.free⟩ f,by simpa using I.len⟩ ⟨_,f,.inl rfl⟩
  .exact (f.2 b (bc (bP (aE e) I.ok.above))).trans (I.base.keep b o e n D hx)
  .obtain⟨sl,g⟩:=I.base.slot b o e n D hx;exact⟨sl,(f.2 b (bc (bP (aE e) I.ok.above))).trans g⟩
  .obtain⟨o',g⟩:=I.base.there b o e hx;exact⟨o',(f.2 b (bc (bP (aE e) I.ok.above))).trans g⟩
  .by_cases K:j=i
   .subst K;rw[hi] at g;cases g;rw[tK hiσ] at B;cases B;exact⟨u,r,.inl ⟨C,by simp⟩⟩
   rw[tJ (aB K)] at B;obtain⟨U,Y,q⟩:=hl j y R g B S;refine⟨U,Y,?_⟩;rcases q with ⟨k,e⟩|⟨k,c,e,z⟩
   .refine .inl ⟨k,?_⟩;have:y≠x:=λe=>K (qQ hN g (e ▸ hi));simp[this,e]
   exact .inr ⟨k,c,e,z.sameBut f (cne y c e)⟩
  .obtain⟨L,z⟩:=I.cell y c e;exact⟨L,z.sameBut f (cne y c e)⟩
  obtain⟨e,n,ne,nf,d⟩:=I.pin p T;exact⟨(f.2 p.1 ne).trans e,n,ne,nf,d⟩
 have ab:X.fn x=true:=by
  rcases hf with z|z
  .exact z
  rw[z] at C;cases C
 obtain⟨c,l⟩:=I.ok.has x (.inl C);obtain⟨L,z⟩:=I.cell x c l;refine wpAny_storeName_cell I.ok.kind C l z (λh' al f=>?_);obtain⟨oc,am,aS⟩:=id z;refine h {s with heap:=h'} ⟨I.ok,I.os,I.bare,⟨λb o e n D hx=>?_,λb o e n D hx=>?_,I.base.free,λb o e hx=>?_,I.base.tups,I.base.frzs,I.base.tbls⟩,⟨m,P.sameBut f (aB (cne x c l)),λj y R g B S=>?_⟩,λy O e=>?_,I.free,I.freeC,λp T=>?_,tracked ⟨oc,am,I.freeC x c l⟩ f,by simpa using I.len⟩ ⟨c,f,.inr l⟩
 .exact (f.2 b (bc (bP (aE e) (I.ok.cab x c ab l)))).trans (I.base.keep b o e n D hx)
 .obtain⟨sl,g⟩:=I.base.slot b o e n D hx;exact⟨sl,(f.2 b (bc (bP (aE e) (I.ok.cab x c ab l)))).trans g⟩
 .obtain⟨o',g⟩:=I.base.there b o e hx;exact⟨o',(f.2 b (bc (bP (aE e) (I.ok.cab x c ab l)))).trans g⟩
 .by_cases K:j=i
  .subst K;rw[hi] at g;cases g;rw[tK hiσ] at B;cases B;exact⟨u,r,.inr ⟨.inl C,c,l,al⟩⟩
  rw[tJ (aB K)] at B;obtain⟨U,Y,q⟩:=hl j y R g B S;refine⟨U,Y,?_⟩;rcases q with q|⟨k,O,e,z'⟩
  .exact .inl q
  refine .inr ⟨k,O,e,z'.sameBut f ?_⟩;rintro rfl;exact K (qQ hN g (I.ok.inj _ _ _ e l ▸ hi))
 .by_cases an:O=c
  .subst an;exact⟨_,al⟩
  obtain⟨w2,z2⟩:=I.cell y O e;exact⟨w2,z2.sameBut f an⟩
 obtain⟨e,n,ne,nf,d⟩:=I.pin p T;refine⟨(f.2 p.1 ?_).trans e,n,ne,nf,d⟩;intro q;rw[q,am] at e;have q':oc=p.2:=cN e;exact d L (by rw[<-q'];exact aS)
theorem oj{M:Model}{i:Nat}{x:Str}{v:V}{u:Value}{Q:Unit->Shared->Prop}(I:Inv X NI Z H s)(a:X.N.Nodup)(hi:X.N[i]?=some x)(hx:Loc X.env.scope x)(r:az v u)
  (h:∀s',Inv X NI (Z.set i (some v)) H s'->Q () s') (hf:X.fn x=true\/X.env.scope.names.lookup x=some .local:=by first|exact .inl rfl|exact .inr rfl|assumption):wpAny M A (storeName X.env x u) Q E s:=
 uZ I a hi hx r (λs' b _=>h s' b) hf
theorem Inv.call'{s':Shared}{ch:List Addr}(I:Inv X NI Z H s)(a:s'.os=s.os)(u:Un (frs X.stack) ch H H' s.heap s'.heap)(hok:HOk X.prog X.w H' s'.heap)(d:AllBare s'.gens)
  (f:∀b∈ch,(b∈X.ex\/X.s₀.heap.objs.size<=b)/\b≠X.env.locals/\(∀x c,X.env.cells.lookup x=some c->c≠b)/\∀p∈X.pn++NI,p.1≠b):Inv X NI Z H' s':=by
 obtain⟨h',g',d',t',o'⟩:=s';have e:o'=s.os:=a;subst e;exact I.call (g':=g') (t':=t') (d':=d') u hok d f
end
abbrev XK:=Value->Option Addr->Hp->Prop
abbrev St:=List (Option V)
abbrev VK:=V->Hp->Prop
abbrev TE:=St->Hp->VK->Prop
abbrev TT:=St->Hp->(Bool->Hp->Prop)->Prop
abbrev TA:=St->Hp->(List V->Hp->Prop)->Prop
structure Ends where
 nx:St->Hp->Prop
 rt:VK
 bk:St->Hp->Prop:=λ_ _=>False
 ct:St->Hp->Prop:=λ_ _=>False
abbrev TS:=Ends->St->Hp->Prop
def EP(X:Cx)(NI:List (Addr×Obj))(Z:St)(Q:VK)(u:Value)(s':Shared):Prop:=∃v H',Inv X NI Z H' s'/\az v u/\Q v H'
def TP(X:Cx)(NI:List (Addr×Obj))(Z:St)(Q:Bool->Hp->Prop)(b:Bool)(s':Shared):Prop:=∃H',Inv X NI Z H' s'/\Q b H'
def AP(X:Cx)(NI:List (Addr×Obj))(Z:St)(Q:List V->Hp->Prop)(us:List Value)(s':Shared):Prop:=∃vs H',Inv X NI Z H' s'/\Vals vs us/\Q vs H'
def SP(X:Cx)(NI:List (Addr×Obj))(D:Ends)(f:Flow)(s':Shared):Prop:=
 match f with
 |.next=>∃Z' H',Inv X NI Z' H' s'/\D.nx Z' H'
 |.brk=>∃Z' H',Inv X NI Z' H' s'/\D.bk Z' H'
 |.cont=>∃Z' H',Inv X NI Z' H' s'/\D.ct Z' H'
 |.ret u=>∃v Z' H',Inv X NI Z' H' s'/\az v u/\D.rt v H'
def PE(X:Cx)(e:Expr)(t:TE):Prop:=
 ∀(NI:List (Addr×Obj))(s:Shared)(Z:St)(H:Hp)(Q:VK),Inv X NI Z H s->t Z H Q->wpAny (model X.prog X.w) X.A (eval e X.env) (EP X NI Z Q) X.xe s
def PT(X:Cx)(e:Expr)(t:TT):Prop:=
 ∀(NI:List (Addr×Obj))(s:Shared)(Z:St)(H:Hp)(Q:Bool->Hp->Prop),Inv X NI Z H s->t Z H Q->wpAny (model X.prog X.w) X.A (isTrue e X.env (eval e X.env)) (TP X NI Z Q) X.xe s
def PW(X:Cx)(e:Expr)(t:TT):Prop:=
 ∀(whole:Sem Value)(NI:List (Addr×Obj))(s:Shared)(Z:St)(H:Hp)(Q:Bool->Hp->Prop),Inv X NI Z H s->t Z H Q->wpAny (model X.prog X.w) X.A (isTrue e X.env whole) (TP X NI Z Q) X.xe s
theorem PW.pt{X:Cx}{e:Expr}{t:TT}(h:PW X e t):PT X e t:=h _
def PA(X:Cx)(es:List Expr)(t:TA):Prop:=
 ∀(pos:Pos)(NI:List (Addr×Obj))(s:Shared)(Z:St)(H:Hp)(Q:List V->Hp->Prop),Inv X NI Z H s->t Z H Q->wpAny (model X.prog X.w) X.A (spliced (backTo pos (starEach es X.env))) (AP X NI Z Q) X.xe s
def PS(X:Cx)(st:Stmt)(t:TS):Prop:=
 ∀(NI:List (Addr×Obj))(s:Shared)(Z:St)(H:Hp)(D:Ends),Inv X NI Z H s->t D Z H->wpAny (model X.prog X.w) X.A (exec st X.env) (SP X NI D) X.xe s
def PSs(X:Cx)(st:List Stmt)(t:TS):Prop:=
 ∀(NI:List (Addr×Obj))(s:Shared)(Z:St)(H:Hp)(D:Ends),Inv X NI Z H s->t D Z H->wpAny (model X.prog X.w) X.A (execs st X.env) (SP X NI D) X.xe s
theorem thn{α:Type}{t:Sem α}{Q b:α->Shared->Prop}{M:Model}(h:wpAny M A t Q E s)(c:∀a s,Q a s->b a s):wpAny M A t b E s:=cC h c λ_ _ x=>x
end L2
variable {H:L2.Hp}{Z:L2.St}{X:L2.Cx}{xs:List L2.V}{vs:List L2.V}{H':L2.Hp}
namespace L2
open PySem PySem.Spec PyProof.Rows
section
def Ex2{α β:Type}(P:α->β->Prop)(a:α):Prop:=Exists (P a)
def Ex3{α β γ:Type}(P:α->β->γ->Prop)(a:α):Prop:=Exists (Ex2 (P a))
def Ex4{α β γ δ:Type}(P:α->β->γ->δ->Prop)(a:α):Prop:=Exists (Ex3 (P a))
def Ex5{α β γ δ ε:Type}(P:α->β->γ->δ->ε->Prop)(a:α):Prop:=Exists (Ex4 (P a))
def Ex6{α β γ δ ε ζ:Type}(P:α->β->γ->δ->ε->ζ->Prop)(a:α):Prop:=Exists (Ex5 (P a))
def Same(H H':Hp):Prop:=∀b o,H b=some o->H' b=some o
def fE(H:Hp)(o:HO)(Q:VK):Prop:=∀p H',H p=none->Same H H'->H' p=some o->Q (.ref p) H'
theorem fE.at{o:HO}{Q:VK}{p:Addr}(q:fE H o Q)(h:H p=none):Q (.ref p) (upd H p o):=q p _ h (λb u e=>(ar (λz=>by rw[z,h] at e;cases e)).trans e) aP
def WrO(H:Hp)(l:Addr)(o:HO)(k:Hp->Prop):Prop:=∀H',(∀b,b≠l->H' b=H b)->H' l=some o->k H'
theorem WrO.at{l:Addr}{o:HO}{k:Hp->Prop}(q:WrO H l o k):k (upd H l o):=q _ (λ_ h=>ar h) aP
def IF(i:Nat)(Z:St)(H:Hp)(Q:VK)(v:V):Prop:=Z[i]?=some (some v)/\Q v H
def ck(i:Nat):TE:=λZ H Q=>Exists (IF i Z H Q)
def tC(v:V):TE:=λ_ H Q=>Q v H
theorem Hq{i:Nat}{x:Str}{pos:Pos}(f:X.N[i]?=some x)(g:Vis X.env.scope x)(hd:(x==("__debug__" : Str))=false:=by decide)(j:(x==("__classdict__" : Str))=false:=by decide):PE X (.Name x pos) (ck i):=by
 intro NI s Z H Q I h;obtain⟨v,e,h⟩:=h;obtain⟨m,n,o⟩:=I.loc;obtain⟨u,r,l⟩:=o i x v f e g;have fin:EP X NI Z Q u s:=⟨v,H,I,r,h⟩;rcases l with ⟨a,hm⟩|⟨a,c,b,d⟩
 .exact Ar (wpAny_loadName_local I.ok.kind a n hm fin) hd
 rcases a with a|a
 .exact Ar (wpAny_loadName_cell I.ok.kind a b d fin) hd
 exact Ar (wpAny_loadName_free I.ok.kind a b d fin j) hd
theorem ah{i j pos}:PE X (.Constant (.int i) j pos) (tC (.int i)):=λ_ _ _ H _ I h=>wpAny_Constant_int ⟨.int i,H,I.tok _,⟨_,rfl⟩,h⟩
theorem cB{b j pos}:PE X (.Constant (.bool b) j pos) (tC (.bl b)):=λ_ _ _ H _ I h=>Constant_bool ⟨.bl b,H,I,rfl,h⟩
theorem jY{j pos}:PE X (.Constant .none j pos) (tC .non):=λ_ _ _ H _ I h=>Constant_none ⟨.non,H,I,rfl,h⟩
theorem bB{x j pos}:PE X (.Constant (.str x) j pos) (tC (.str x)):=λ_ _ _ H _ I h=>Calls.Constant_str ⟨.str x,H,I.tok _,⟨_,rfl⟩,h⟩
def Gl(X:Cx)(x:Str):Prop:=X.env.kindOf x=some .globalImplicit
theorem iZ{x:Str}{u:Value}{pos:Pos}{Q:Value->Shared->Prop}(I:Inv X NI Z H s)(a:Gl X x)(hm:X.mg x=some u)(h:Q u s)
  (hd:(x==("__debug__" : Str))=false:=by decide):wpAny (model X.prog X.w) X.A (eval (.Name x pos) X.env) Q E s:=
 Ke I.ok.kind a (Calls.loadGlobal_global (by rw[I.ok.glob];exact I.mod.glob.keeps I.bk) hm h) hd
theorem mv{x:Str}{u:Value}{pos:Pos}{Q:Value->Shared->Prop}(I:Inv X NI Z H s)(a:Gl X x)(hm:X.mg x=none)(b:bootBuiltins x=some u)(h:Q u s)
  (c:x≠"__name__":=by decide) (hd:(x==("__debug__" : Str))=false:=by decide):wpAny (model X.prog X.w) X.A (eval (.Name x pos) X.env) Q E s:=by
 obtain⟨mb,h1,h2⟩:=I.mod.blt;exact Ke I.ok.kind a (Calls.loadGlobal_builtin (by rw[I.ok.glob];exact I.mod.glob.keeps I.bk) hm (by rw[I.ok.blt];exact h1.keeps I.bk) ((h2 x c).trans b) h) hd
theorem dI{x:Str}{v:V}{u:Value}{pos:Pos}(a:Gl X x)(hm:X.mg x=some u)(r:az v u)(hd:(x==("__debug__" : Str))=false:=by decide):PE X (.Name x pos) (tC v):=
 λ_ _ _ H _ I h=>iZ I a hm ⟨v,H,I,r,h⟩ hd
theorem ig{x:Str}{v:V}{u:Value}{pos:Pos}(a:Gl X x)(hm:X.mg x=none)(b:bootBuiltins x=some u)(r:az v u)(c:x≠"__name__":=by decide)(hd:(x==("__debug__" : Str))=false:=by decide):PE X (.Name x pos) (tC v):=
 λ_ _ _ H _ I h=>mv I a hm b ⟨v,H,I,r,h⟩ c hd
variable {a b:Expr}{ta tb:TE}{pos:Pos}
def PC(X:Cx)(op:CmpOp)(a b:Expr)(t:TE):Prop:=
 ∀(NI:List (Addr×Obj))(s:Shared)(Z:St)(H:Hp)(Q:VK),Inv X NI Z H s->t Z H Q->
  wpAny (model X.prog X.w) X.A (eval a X.env) (λv s₁=>wpAny (model X.prog X.w) X.A (eval b X.env) (λu s₂=>wpAny (model X.prog X.w) X.A (compareOp op v u) (EP X NI Z Q) X.xe s₂) X.xe s₁) X.xe s
def tBB(Q:Bool->Hp->Prop)(x:V)(H1:Hp)(c:Bool):Prop:=x=.bl c/\Q c H1
def tBK(Q:Bool->Hp->Prop):VK:=λx H1=>Exists (tBB Q x H1)
def tB(t:TE):TT:=λZ H Q=>t Z H (tBK Q)
theorem Hs{op:CmpOp}{t:TE}(h:PC X op a b t)(h1:behindInMarks op b=false:=by first|exact nobehind _ (by decide) (by decide)|rfl):PE X (.Compare a [op] [b] pos) t:=λNI s Z H Q I hw=>LZ (h NI s Z H Q I hw) h1
theorem pd{op:CmpOp}{t:TE}(h:PC X op a b t)(h1:behindInMarks op b=false:=by first|exact nobehind _ (by decide) (by decide)|rfl):PT X (.Compare a [op] [b] pos) (tB t):=by intro NI s Z H Q I hw;refine Mc (thn (h NI s Z H _ I hw) λv s1 h1=>thn h1 λu s2 h2=>thn h2 λc i ⟨x,H1,e,f,g⟩=>?_) h1;obtain⟨d,rfl,q⟩:=g;cases f;exact gY ⟨H1,e,q⟩
theorem dq{e:Expr}{t:TE}(h:PE X e t)(he:∀whole,isTrue e X.env whole=(do let v <-whole;standAt e.pos;holding [v] (truthy v)):=by intro _;rfl):PT X e (tB t):=by intro NI s Z H Q I hw;refine isTrue_plain (thn (h NI s Z H _ I hw) λv s1 ⟨x,H1,I1,r1,q1⟩=>?_) (he _);obtain⟨d,rfl,q⟩:=q1;cases r1;exact gY ⟨H1,I1,q⟩
variable {tA tB':TT}{rest:List Expr}
def Ji(u:TT)(Z:St)(Q:Bool->Hp->Prop):Bool->Hp->Prop:=λc H1=>if c=true then u Z H1 Q else Q false H1
def tAnd(t u:TT):TT:=λZ H Q=>t Z H (Ji u Z Q)
def mJ(u:TT)(Z:St)(Q:Bool->Hp->Prop):Bool->Hp->Prop:=λc H1=>if c=true then Q true H1 else u Z H1 Q
def tOr(t u:TT):TT:=λZ H Q=>t Z H (mJ u Z Q)
def jc(Q:Bool->Hp->Prop):Bool->Hp->Prop:=λc H1=>Q (!c) H1
def tNot(t:TT):TT:=λZ H Q=>t Z H (jc Q)
theorem jN(ha:PT X a tA):PW X (.BoolOp .And [a] pos) tA:=by
 intro b NI s Z H Q I h;refine isTrue_and (thn (ha NI s Z H Q I h) λc s1 e=>?_);cases c with
 |true=>exact isTrue_and_nil e
 |false=>exact e
theorem iq(ha:PT X a tA):PW X (.BoolOp .Or [a] pos) tA:=by
 intro b NI s Z H Q I h;refine isTrue_or (thn (ha NI s Z H Q I h) λc s1 e=>?_);cases c with
 |false=>exact isTrue_or_nil e
 |true=>exact e
theorem jW(ha:PT X a tA)(f:PW X (.BoolOp .And (b::rest) pos) tB'):PW X (.BoolOp .And (a::b::rest) pos) (tAnd tA tB'):=by
 intro g NI s Z H Q I h;refine isTrue_and (thn (ha NI s Z H _ I h) λc s1 ⟨H1,d,e⟩=>?_);cases c with
 |true=>exact f g NI s1 Z H1 Q d e
 |false=>exact⟨H1,d,e⟩
theorem fm(ha:PT X a tA)(f:PW X (.BoolOp .Or (b::rest) pos) tB'):PW X (.BoolOp .Or (a::b::rest) pos) (tOr tA tB'):=by
 intro g NI s Z H Q I h;refine isTrue_or (thn (ha NI s Z H _ I h) λc s1 ⟨H1,d,e⟩=>?_);cases c with
 |true=>exact⟨H1,d,e⟩
 |false=>exact f g NI s1 Z H1 Q d e
theorem eJ(ha:PT X a tA):PT X (.UnaryOp .Not a pos) (tNot tA):=by intro NI s Z H Q I h;exact isTrue_not (ha NI s Z H (λc H1=>Q (!c) H1) I h)
def Jh(ta tb:TE):TE:=λZ H Q=>ta Z H λx H1=>∃c,x=.bl c/\if c=true then tb Z H1 Q else Q (.bl false) H1
def IJ(tb:TE)(Z:St)(Q:VK)(x:V)(H1:Hp)(c:Bool):Prop:=x=.bl c/\if c=true then Q (.bl true) H1 else tb Z H1 Q
def II(tb:TE)(Z:St)(Q:VK):VK:=λx H1=>Exists (IJ tb Z Q x H1)
def tOrV(ta tb:TE):TE:=λZ H Q=>ta Z H (II tb Z Q)
def IK(ta:TE):TE:=λZ H Q=>ta Z H λx H1=>∃c,x=.bl c/\Q (.bl (!c)) H1
theorem ml{op}{t:TE}(h:PE X a t):PE X (.BoolOp op [a] pos) t:=λNI s Z H Q I hw=>BoolOp_one (h NI s Z H Q I hw)
theorem jZ(ha:PE X a ta)(f:PE X (.BoolOp .And (b::rest) pos) tb):PE X (.BoolOp .And (a::b::rest) pos) (Jh ta tb):=by
 intro NI s Z H Q I h;refine BoolOp_and (thn (ha NI s Z H _ I h) λv s1 ⟨x,H1,e,g,d⟩=>?_);obtain⟨c,rfl,d⟩:=d;cases g;refine gY ?_;cases c with
 |true=>exact f NI s1 Z H1 Q e d
 |false=>exact⟨.bl false,H1,e,rfl,d⟩
theorem JF(ha:PE X a ta)(f:PE X (.BoolOp .Or (b::rest) pos) tb):PE X (.BoolOp .Or (a::b::rest) pos) (tOrV ta tb):=by
 intro NI s Z H Q I h;refine BoolOp_or (thn (ha NI s Z H _ I h) λv s1 ⟨x,H1,e,g,d⟩=>?_);obtain⟨c,rfl,d⟩:=d;cases g;refine gY ?_;cases c with
 |false=>exact f NI s1 Z H1 Q e d
 |true=>exact⟨.bl true,H1,e,rfl,d⟩
theorem yk(ha:PE X a ta):PE X (.UnaryOp .Not a pos) (IK ta):=by intro NI s Z H Q I h;refine UnaryOp_ (thn (ha NI s Z H _ I h) λv s1 ⟨x,H1,d,e,b⟩=>?_);obtain⟨c,rfl,b⟩:=b;cases e;exact not_of (gY ⟨.bl (!c),H1,d,rfl,b⟩)
def tIf(t:TT)(ta tb:TE):TE:=λZ H Q=>t Z H λc H1=>if c=true then ta Z H1 Q else tb Z H1 Q
theorem DA{c:Expr}(g:PT X c tA)(ha:PE X a ta)(i:PE X b tb):PE X (.IfExp c a b pos) (tIf tA ta tb):=by
 intro NI s Z H Q I h;refine wpAny_IfExp (thn (g NI s Z H _ I h) λd s1 ⟨H1,e,f⟩=>?_);cases d with
 |true=>exact ha NI s1 Z H1 Q e f
 |false=>exact i NI s1 Z H1 Q e f
end
end L2
namespace L2
open PySem PySem.Spec PyProof.Rows
def SqL(K:W.Frag)(H:Hp)(a:Addr)(xs:List V):Prop:=
 Rd H a (.lst xs) \/
  ∃(o:Obj)(its:Array Value)(n:Nat),K.lookup a=some o/\o.cls=.type "list"/\o.dict=none/\o.data=.seq its n/\its.size<=sizeLine/\Vals xs its.toList
def SqT(K:W.Frag)(H:Hp)(a:Addr)(xs:List V):Prop:=
 Rd H a (.tup xs) \/
  ∃(o:Obj)(its:Array Value)(n:Nat),K.lookup a=some o/\o.cls=.type "tuple"/\o.data=.seq its n/\its.size<=sizeLine/\Vals xs its.toList
def absV:Value->Option V
 |.none=>some .non
 |.bool b=>some (.bl b)
 |.int i _=>some (.int i)
 |.str x _=>some (.str x)
 |.bytes b _=>some (.byt b)
 |.float b _=>some (.flt b)
 |.ref a=>some (.ref a)
 |.type n=>some (.ty n)
 |_=>none
theorem az.abs{x:V}{u:Value}(r:az x u):absV u=some x:=by
 cases x with
 |non=>cases r;rfl
 |bl _=>cases r;rfl
 |int _=>obtain⟨t,rfl⟩:=r;rfl
 |str _=>obtain⟨t,rfl⟩:=r;rfl
 |byt _=>obtain⟨t,rfl⟩:=r;rfl
 |flt _=>obtain⟨t,rfl⟩:=r;rfl
 |ref _=>cases r;rfl
 |ty _=>cases r;rfl
theorem az.inj{x y:V}{u:Value}(r:az x u)(q:az y u):x=y:=cN (r.abs.symm.trans q.abs)
theorem Vals.inj{xs ys:List V}(h:Vals xs us)(h':Vals ys us):xs=ys:=by
 induction h generalizing ys with
 |nil=>cases h';rfl
 |cons r t a=>cases h' with
  |cons b t'=>rw[r.inj b,a t']
section
variable {a:Addr}{xs ys:List V}
theorem SqL.of(h:H a=some (.lst xs)):SqL K H a xs:=.inl (.inl h)
theorem SqT.of(h:H a=some (.tup xs)):SqT K H a xs:=.inl (.inl h)
theorem Inv.list(I:Inv X NI Z H s)(h:SqL [] H a xs):∃its:List Value,Vals xs its/\PlainL s.heap a its.toArray/\xs.length<=sizeLine:=by
 rcases h with h|⟨o,its,n,b,c,hd,d,f,r⟩
 .obtain⟨z,its,n,r,e⟩:=h.ok I.hok;exact⟨its,r,⟨_,n,e,rfl,rfl,rfl⟩,z⟩
 cases b
theorem Inv.tuple(I:Inv X NI Z H s)(h:SqT [] H a xs):∃its:List Value,Vals xs its/\IsTup s.heap a its.toArray/\xs.length<=sizeLine:=by
 rcases h with h|⟨o,its,n,b,c,d,e,r⟩
 .obtain⟨⟨z,_⟩,its,r,p⟩:=h.ok I.hok;exact⟨its,r,p,z⟩
 cases b
theorem Inv.list_inj(I:Inv X NI Z H s)(h:SqL [] H a xs)(h':SqL [] H a ys):xs=ys:=by
 obtain⟨its,r,⟨o,n,e,_,_,d⟩,_⟩:=I.list h;obtain⟨its',c,⟨o',g,b,_,_,d'⟩,_⟩:=I.list h';rw[e] at b;cases b;rw[d] at d';injection d' with f _;have:its=its':=by simpa using congrArg Array.toList f
 subst this;exact r.inj c
theorem Inv.tuple_inj(I:Inv X NI Z H s)(h:SqT [] H a xs)(h':SqT [] H a ys):xs=ys:=by
 obtain⟨its,r,⟨o,e,_,n,d⟩,_⟩:=I.tuple h;obtain⟨its',c,⟨o',b,_,g,d'⟩,_⟩:=I.tuple h';rw[e] at b;cases b;rw[d] at d';injection d' with f _;have:its=its':=by simpa using congrArg Array.toList f
 subst this;exact r.inj c
end
abbrev Cx.wish(X:Cx)(E:Value->Shared->Prop):Cx:={X with xe:=E}
abbrev Cx.nox(X:Cx):Cx:=X.wish λ_ _=>False
theorem Cx.Ok.wish(ok:X.Ok)(E:Value->Shared->Prop):(X.wish E).Ok:=
 ⟨ok.mod,ok.kind,ok.glob,ok.blt,ok.above,ok.inj,ok.has,ok.cab,ok.hd,ok.frames,ok.stk,ok.exf,ok.bs,ok.bsz,ok.noex,ok.exfs,ok.funs,ok.frf⟩
theorem Cx.Ok.unwish(ok:(X.wish E).Ok):X.Ok:=
 ⟨ok.mod,ok.kind,ok.glob,ok.blt,ok.above,ok.inj,ok.has,ok.cab,ok.hd,ok.frames,ok.stk,ok.exf,ok.bs,ok.bsz,ok.noex,ok.exfs,ok.funs,ok.frf⟩
section
theorem Inv.wish(I:Inv X NI Z H s)(E:Value->Shared->Prop):Inv (X.wish E) NI Z H s:=⟨I.ok.wish E,I.os,I.bare,I.base,I.loc,I.cell,I.free,I.freeC,I.pin,I.hok,I.len⟩
theorem Inv.unwish(I:Inv (X.wish E) NI Z H s):Inv X NI Z H s:=⟨I.ok.unwish,I.os,I.bare,I.base,I.loc,I.cell,I.free,I.freeC,I.pin,I.hok,I.len⟩
theorem SP.unwish{D:Ends}{f:Flow}{s':Shared}(h:SP (X.wish E) NI D f s'):SP X NI D f s':=by
 cases f with
 |next=>obtain⟨Z',H',I,q⟩:=h;exact⟨Z',H',I.unwish,q⟩
 |brk=>obtain⟨Z',H',I,q⟩:=h;exact⟨Z',H',I.unwish,q⟩
 |cont=>obtain⟨Z',H',I,q⟩:=h;exact⟨Z',H',I.unwish,q⟩
 |ret u=>obtain⟨v,Z',H',I,r,q⟩:=h;exact⟨v,Z',H',I.unwish,r,q⟩
theorem PSs.nox{st:List Stmt}{t:TS}(h:PSs X.nox st t):PSs X st t:=λNI s Z H D I hw=>
 cC (h NI s Z H D (I.wish _) hw) (λ_ _ q=>q.unwish) λ_ _ z=>False.elim z
end
section
variable {st:Stmt}{rest:List Stmt}{t u:TS}{e:Expr}{te:TE}{pos:Pos}
def IL:TS:=λD Z H=>D.nx Z H
def pL(t u:TS):TS:=λD Z H=>t {D with nx:=u D} Z H
theorem bj:PSs X [] IL:=λ_ _ Z H _ I h=>qi ⟨Z,H,I,h⟩
theorem af(h1:PS X st t)(h2:PSs X rest u):PSs X (st::rest) (pL t u):=by
 intro NI s Z H D I h;refine L9 (thn (h1 NI s Z H {D with nx:=u D} I h) λf s1 q=>?_);cases f with
 |next=>
  obtain⟨Z',H',a,q⟩:=q;exact h2 NI s1 Z' H' D a q
 |ret v=>exact q
 |brk=>exact q
 |cont=>exact q
theorem ai(h1:PS X st t):PSs X [st] t:=by
 intro NI s Z H D I h;refine L9 (thn (h1 NI s Z H D I h) λf s1 q=>?_);cases f with
 |next=>exact qi q
 |ret v=>exact q
 |brk=>exact q
 |cont=>exact q
def Jf:TS:=λD Z H=>D.ct Z H
theorem A_:PS X (.Continue pos) Jf:=λ_ _ Z H _ I h=>wpAny_Continue ⟨Z,H,I,h⟩
theorem Inv.quiet(I:Inv X NI Z H s):interactive X.env=false:=by simp[interactive,I.ok.kind]
def Gg(D:Ends)(Z:St):VK:=λ_ H1=>D.nx Z H1
def IV(te:TE):TS:=λD Z H=>te Z H (Gg D Z)
theorem cZ(he:PE X e te)(a:swapsWith e none pos.line X.env=pure false:=by rfl):PS X (.Expr e pos) (IV te):=by intro NI s Z H D I h;exact wpAny_Expr_any (thn (he NI s Z H _ I h) λv s1 ⟨x,H1,b,d,c⟩=>⟨Z,H1,b,c⟩) I.quiet a
def tRet(te:TE):TS:=λD Z H=>te Z H D.rt
theorem aN(he:PE X e te):PS X (.Return (some e) pos) (tRet te):=by intro NI s Z H D I h;exact wpAny_Return_some (thn (he NI s Z H _ I h) λv s1 ⟨x,H1,a,b,c⟩=>⟨x,Z,H1,a,b,c⟩)
def mK(t u:TS)(D:Ends)(Z:St):Bool->Hp->Prop:=λb H1=>if b=true then t D Z H1 else u D Z H1
def tIfS(c:TT)(t u:TS):TS:=λD Z H=>c Z H (mK t u D Z)
theorem bo{c:Expr}{a b:List Stmt}{tc:TT}(g:PT X c tc)(ha:PSs X a t)(i:PSs X b u):PS X (.If c a b pos) (tIfS tc t u):=by
 intro NI s Z H D I h;refine wpAny_If (thn (g NI s Z H _ I h) λd s1 ⟨H1,e,f⟩=>?_);cases d with
 |true=>exact ha NI s1 Z H1 D e f
 |false=>exact i NI s1 Z H1 D e f
end
abbrev TG:=V->St->Hp->(St->Hp->Prop)->Prop
abbrev TGs:=List V->St->Hp->(St->Hp->Prop)->Prop
def PG(X:Cx)(target:Expr)(t:TG):Prop:=
 ∀(NI:List (Addr×Obj))(s:Shared)(Z:St)(H:Hp)(v:V)(u:Value)(Q:St->Hp->Prop),Inv X NI Z H s->az v u->t v Z H Q->
  wpAny (model X.prog X.w) X.A (assign target X.env u) (λ_ s'=>∃Z' H',Inv X NI Z' H' s'/\Q Z' H') X.xe s
def PGs(X:Cx)(ts:List Expr)(t:TGs):Prop:=
 ∀(NI:List (Addr×Obj))(s:Shared)(Z:St)(H:Hp)(vs:List V)(us:List Value)(Q:St->Hp->Prop),Inv X NI Z H s->Vals vs us->t vs Z H Q->
  wpAny (model X.prog X.w) X.A (assignInOrder ((assignEach ts X.env).map (·.2)) us) (λ_ s'=>∃Z' H',Inv X NI Z' H' s'/\Q Z' H') X.xe s
abbrev TSet:=V->V->V->Hp->(Hp->Prop)->Prop
def PSet(X:Cx)(t:TSet):Prop:=
 ∀(NI:List (Addr×Obj))(s:Shared)(Z:St)(H:Hp)(o i v:V)(ov a u:Value)(Q:Hp->Prop),Inv X NI Z H s->az o ov->az i a->az v u->t o i v H Q->
  wpAny (model X.prog X.w) X.A (setItem ov a u) (λ_ s'=>∃H',Inv X NI Z H' s'/\Q H') X.xe s
section
variable {pos:Pos}
def cK(i:Nat):TG:=λv Z H Q=>Q (Z.set i (some v)) H
theorem Ff{i:Nat}{x:Str}(a:X.N.Nodup)(hi:X.N[i]?=some x)(hx:Loc X.env.scope x)(hf:X.fn x=true\/X.env.scope.names.lookup x=some .local:=by first|exact .inl rfl|exact .inr rfl|assumption):PG X (.Name x pos) (cK i):=by intro NI s Z H v u Q I r h;exact L6 (oj I a hi hx r (λs' b=>⟨_,H,b,h⟩) hf)
theorem gx(i:Nat){x:Str}(a:X.N.Nodup)(hi:X.N[i]?=some x:=by rfl)(hx:Loc X.env.scope x:=by first|exact .inl rfl|exact .inr rfl)(hf:X.fn x=true\/X.env.scope.names.lookup x=some .local:=by first|exact .inl rfl|exact .inr rfl|assumption):PG X (.Name x pos) (cK i):=Ff a hi hx hf
def pO:TGs:=λvs Z H Q=>vs=[]/\Q Z H
def Ig(u:TGs)(r:List V)(Q:St->Hp->Prop):St->Hp->Prop:=λZ' H'=>u r Z' H' Q
def Ih(t:TG)(u:TGs)(vs:List V)(Z:St)(H:Hp)(Q:St->Hp->Prop)(v:V)(r:List V):Prop:=vs=v::r/\t v Z H (Ig u r Q)
def jd(t:TG)(u:TGs):TGs:=λvs Z H Q=>Exists (Ex2 (Ih t u vs Z H Q))
theorem cR:PGs X [] pO:=by intro NI s Z H vs us Q I r h;obtain⟨e,h⟩:=h;subst e;cases r;exact assignInOrder_nil ⟨Z,H,I,h⟩
theorem aX{e:Expr}{es:List Expr}{t:TG}{u:TGs}(h1:PG X e t)(h2:PGs X es u)
  (a:(assignEach (e::es) X.env).map (·.2)=assign e X.env::(assignEach es X.env).map (·.2):=by rfl):PGs X (e::es) (jd t u):=by
 intro NI s Z H vs us Q I r h;obtain⟨v,i,b,h⟩:=h;subst b;cases r with
 |cons r c=>
  rw[a];refine assignInOrder_cons (thn (h1 NI s Z H _ _ _ I r h) λ_ s1 ⟨d,H1,f,g⟩=>?_);exact h2 NI s1 d H1 _ _ Q f c g
def JS(K:W.Frag)(n:Nat)(t:TGs)(v:V)(Z:St)(H:Hp)(Q:St->Hp->Prop)(a:Addr)(xs:List V):Prop:=v=.ref a/\SqT K H a xs/\xs.length=n/\t xs Z H Q
def pN(K:W.Frag)(n:Nat)(t:TGs):TG:=λv Z H Q=>Exists (Ex2 (JS K n t v Z H Q))
theorem cX{es:List Expr}{k:Nat}{t:TGs}(d:X.calm=true)(h:PGs X es t)
  (f:(assignEach es X.env).length=es.length:=by rfl) (g:(assignEach es X.env).findIdx? (·.1)=none:=by rfl):PG X (.Tuple es k pos) (pN [] es.length t):=by
 intro NI s Z H v u Q I r hw;obtain⟨a,xs,i,j,l,hw⟩:=hw;subst i;cases r;obtain⟨its,c,m,p⟩:=I.tuple j;refine assign_Tuple_tuple (I.ok.hd d) m (by simp[f,<-l,c.length]) g λh' hx=>?_;have n:Inv X NI Z H {s with heap:=h'}:=I.kept (t':=s.toks) λb o e=>hx b o (bc (aE e)) e;exact h NI _ Z H xs _ Q n (by simpa using c) hw
def JT(t:TSet)(o v:V)(Z:St)(Q:St->Hp->Prop):VK:=λi H2=>t o i v H2 (Q Z)
def JU(a:TE)(t:TSet)(v:V)(Z:St)(Q:St->Hp->Prop):VK:=λo H1=>a Z H1 (JT t o v Z Q)
def gSub(to a:TE)(t:TSet):TG:=λv Z H Q=>to Z H (JU a t v Z Q)
theorem rV{o i:Expr}{to ti:TE}{t:TSet}(ho:PE X o to)(hi:PE X i ti)(hs:PSet X t)
  (ha:∀v,assign (.Subscript o i pos) X.env v=(do
   let ov <-holding [v] (eval o X.env)
   let iv <-holding [v,ov] (eval i X.env)
   standAt pos
   holding [v,ov,iv] (setItem ov iv v)
   release [v,ov,iv] []):=by intro _;rfl):PG X (.Subscript o i pos) (gSub to ti t):=by
 intro NI s Z H v u Q I r h;rw[ha];refine aa (cH (thn (ho NI s Z H _ I h) λov s1 ⟨x,H1,I1,r1,q1⟩=>?_));refine aa (cH (thn (hi NI s1 Z H1 _ I1 q1) λiv s2 ⟨y,H2,I2,r2,q2⟩=>?_));refine aa (kB (aa (cH (thn (hs NI s2 Z H2 x y v ov iv u _ I2 r1 r2 r q2) λ_ s3 ⟨H3,I3,q3⟩=>?_))));exact wpAny_release ⟨Z,H3,I3,q3⟩
def su(g:TG)(D:Ends)(Z:St):VK:=λx H1=>g x Z H1 D.nx
def mP(te:TE)(g:TG):TS:=λD Z H=>te Z H (su g D Z)
theorem gk{tg e:Expr}{te:TE}{g:TG}(he:PE X e te)(a:PG X tg g)(b:swapsWithSole [tg] e pos.line X.env=pure false:=by rfl)(hw:swappedStores [tg] e X.env=pure none:=by rfl)
  (h1:(assignEach [tg] X.env).map (·.2)=[assign tg X.env]:=by rfl):PS X (.Assign [tg] e pos) (mP te g):=by
 intro NI s Z H D I h;refine wpAny_Assign_stores (thn (he NI s Z H _ I h) λv s1 ⟨x,H1,c,d,f⟩=>?_) b hw;rw[h1];exact thn (a NI s1 Z H1 x v _ c d f) λ_ s2 q=>q
theorem fU{i:Nat}{x:Str}{e:Expr}{te:TE}{pos':Pos}(a:X.N.Nodup)(hi:X.N[i]?=some x)(hx:Loc X.env.scope x)(he:PE X e te)(b:swapsWith e (some (.Name x pos')) pos.line X.env=pure false:=by rfl)(hf:X.fn x=true\/X.env.scope.names.lookup x=some .local:=by first|exact .inl rfl|exact .inr rfl|assumption) :
  PS X (.Assign [.Name x pos'] e pos) (mP te (cK i)):=by
 intro NI s Z H D I h;refine wpAny_Assign_Name (thn (he NI s Z H _ I h) λv s1 ⟨y,H1,c,d,f⟩=>?_) b;exact oj c a hi hx d (λs2 g=>⟨_,H1,g,f⟩) hf
theorem sx(i:Nat){x:Str}{e:Expr}{te:TE}{pos':Pos}(a:X.N.Nodup)(he:PE X e te)(hi:X.N[i]?=some x:=by rfl)(hx:Loc X.env.scope x:=by first|exact .inl rfl|exact .inr rfl)(b:swapsWith e (some (.Name x pos')) pos.line X.env=pure false:=by rfl)(hf:X.fn x=true\/X.env.scope.names.lookup x=some .local:=by first|exact .inl rfl|exact .inr rfl|assumption):PS X (.Assign [.Name x pos'] e pos) (mP te (cK i)):=fU a hi hx he b hf
end
section
variable {pos:Pos}
def tWhN(tb:TS)(D:Ends)(W:Nat->St->Hp->Prop)(m:Nat)(Z:St)(H1:Hp)(N:St->Hp->Prop):Prop:=(∀Z' H',N Z' H'->∃a,a<m/\W a Z' H')/\tb {D with nx:=N,ct:=N,bk:=D.nx} Z H1
def tWhK(tb:TS)(D:Ends)(W:Nat->St->Hp->Prop)(m:Nat)(Z:St):Bool->Hp->Prop:=λb H1=>if b=true then Exists (tWhN tb D W m Z H1) else D.nx Z H1
def tWhB(c:TT)(tb:TS)(D:Ends)(Z:St)(H:Hp)(W:Nat->St->Hp->Prop):Prop:=(∃m,W m Z H)/\∀m Z H,W m Z H->c Z H (tWhK tb D W m Z)
def rL(c:TT)(tb:TS):TS:=λD Z H=>Exists (tWhB c tb D Z H)
theorem oo{c:Expr}{body:List Stmt}{tc:TT}{tb:TS}(p:PassesOwn (model X.prog X.w) X.A X.env X.xe)(u:PT X c tc)(x:PSs X body tb):PS X (.While c body [] pos) (rL tc tb):=by
 intro NI s Z H D I h;obtain⟨W,⟨y,z⟩,turn⟩:=h;refine wpAny_While (codeAny_whileLoop (λn s'=>∃Z' H',Inv X NI Z' H' s'/\W n Z' H') ?_ y ⟨Z,H,I,z⟩);rintro n s1 ⟨e,H1,B,C⟩;refine kx p (thn (u NI s1 e H1 _ B (turn n e H1 C)) λb s2 ⟨H2,q,g⟩=>?_);cases b with
 |true=>
  obtain⟨N,r,g⟩:=g;rw[ND rfl];refine kx p (thn (x NI s2 e H2 _ q g) λf E i=>?_);cases f with
  |next=>
   obtain⟨a,d,j,l⟩:=i;obtain⟨m,hm,o⟩:=r a d l;exact⟨m,hm,a,d,j,o⟩
  |cont=>
   obtain⟨a,d,j,l⟩:=i;obtain⟨m,hm,o⟩:=r a d l;exact⟨m,hm,a,d,j,o⟩
  |brk=>exact i
  |ret v=>exact i
 |false=>
  rw[NC bu];exact qi ⟨e,H2,q,g⟩
end
structure It where
 go:Nat->Hp->Prop
 yld:Nat->Hp->V->Hp->Prop
 stop:Nat->Hp->Prop
def cU(X:Cx)(NI:List (Addr×Obj))(H:Hp)(b:Addr):Prop:=
 H b=none/\b≠X.env.locals/\b∉X.fs/\(b∈X.ex\/X.s₀.heap.objs.size<=b)/\(∀x c,X.env.cells.lookup x=some c->c≠b)/\∀p∈X.pn++NI,p.1≠b
theorem Inv.fpOk{b:Addr}(I:Inv X NI Z H s)(a:s.heap.objs.size<=b)(d:H' b=none):cU X NI H' b:=by
 refine⟨d,jr (bP I.lt a),I.nofs a,.inr (br I.sz a),λx c e z=>?_,λp f z=>?_⟩
 .obtain⟨v,q⟩:=I.cell x c e;exact absurd (bP q.lt (by rw[z];exact a)) (de _)
 exact absurd (bP (aE (I.pin p f).1) (by rw[z];exact a)) (de _)
structure Turn(P:Program)(w:World)(K:W.Frag)(tg:Expr)(J:It)(fp:List Addr)(it:Addr)(tn:Nat->Heap->Prop):Prop where
 mem:it∈fp
 obj:∀i h,tn i h->∀b∈fp,∃o,h.get? b=some o/\∀v,o.data≠.cell v
 keep:∀i h h',tn i h->(∀b∈fp,∀o,h.get? b=some o->h'.get? b=some o)->tn i h'
 item:∀(X:Cx),X.prog=P->X.w=w->X.K=K->X.calm=true->∀(i:Nat)(NI:List (Addr×Obj))(s:Shared)(Z:St)(H:Hp)(E:Value->Shared->Prop),Inv X NI Z H s->(∀b∈fp,cU X NI H b)->tn i s.heap->J.go i H->
  wpAny (model P w) X.A (pyNext (.ref it)) (λr s1=>∃u,r=some u/\
   wpAny (model P w) X.A (letOwnedTupleGo tg (.ref it) u) (λ_ s2=>∃x H',Inv X NI Z H' s2/\az x u/\J.yld i H x H'/\tn (i+1) s2.heap/\∀b∈fp,H' b=none) E s1) E s
 done:∀(X:Cx),X.prog=P->X.w=w->X.K=K->X.calm=true->∀(i:Nat)(NI:List (Addr×Obj))(s:Shared)(Z:St)(H:Hp)(E:Value->Shared->Prop),Inv X NI Z H s->(∀b∈fp,cU X NI H b)->tn i s.heap->J.stop i H->
  wpAny (model P w) X.A (pyNext (.ref it)) (λr s1=>r=none/\Inv X NI Z H s1) E s
 self:∀(A:Around)(i:Nat)(s:Shared)(Q:Value->Shared->Prop)(E:Value->Shared->Prop),tn i s.heap->Q (.ref it) s->wpAny (model P w) A (pyIter (.ref it)) Q E s
abbrev TI:=St->Hp->(It->Hp->Prop)->Prop
def PIE(X:Cx)(NI:List (Addr×Obj))(Z:St)(tg:Expr)(R:It->Hp->Prop)(c:Value)(s2:Shared):Prop:=
 ∃(it:Addr)(fp:List Addr)(a:Nat->Heap->Prop)(J:It)(H':Hp),c=.ref it/\Inv X NI Z H' s2/\Turn X.prog X.w X.K tg J fp it a/\a 0 s2.heap/\(∀b∈fp,cU X NI H' b)/\R J H'
def PI(X:Cx)(tg iter:Expr)(wi:TI):Prop:=
 ∀(NI:List (Addr×Obj))(s:Shared)(Z:St)(H:Hp)(R:It->Hp->Prop),Inv X NI Z H s->wi Z H R->
  wpAny (model X.prog X.w) X.A (eval iter X.env) (λv s1=>wpAny (model X.prog X.w) X.A (pyIter v) (PIE X NI Z tg R) X.xe s1) X.xe s
theorem mG{M:Model}{tg:Expr}{it:Addr}{u:Value}{o:Obj}{n:String}{vs:Array Value}{Q:Unit->Shared->Prop}(b:s.heap.get? it=some o)(c:o.cls=.type n)(hd:o.data=.fields vs)
  (d:["enumerate","zip","dict_itemiterator","dict_reverseitemiterator","odict_iterator","itertools.zip_longest","itertools.pairwise"].contains n=false) (a:Q () s):wpAny M A (letOwnedTupleGo tg (.ref it) u) Q E s:=by
 unfold letOwnedTupleGo;cases tg<;>first
  |exact ag a
  |(cases u<;>first
    |exact ag a
    |(refine aa (wpAny_load b ?_)
      rw[c,hd];show wpAny M A (if (["enumerate","zip","dict_itemiterator","dict_reverseitemiterator","odict_iterator","itertools.zip_longest","itertools.pairwise"].contains n&&vs[0]?==some (rawInt _))=true then _ else _) Q E s;rw[NC (by intro h;rw[d,eM] at h;cases h)];exact ag a))
def Itl(K:W.Frag)(a:Addr):It:=
 ⟨λi H=>∃xs x,SqL K H a xs/\xs[i]?=some x,λi H x H'=>H'=H/\∀xs,SqL K H a xs->xs[i]?=some x,λi H=>∃xs,SqL K H a xs/\xs.length<=i⟩
def Itt(K:W.Frag)(a:Addr):It:=
 ⟨λi H=>∃xs x,SqT K H a xs/\xs[i]?=some x,λi H x H'=>H'=H/\∀xs,SqT K H a xs->xs[i]?=some x,λi H=>∃xs,SqT K H a xs/\xs.length<=i⟩
def Itr(lo:Int)(n:Nat):It:=⟨λi _=>i<n,λi H x H'=>H'=H/\x=.int (lo+i),λi _=>n<=i⟩
theorem BN{tg:Expr}(a it:Addr):Turn P w K tg (Itl [] a) [it] it (λi h=>h.IsListIter it a i) where
 mem:=by simp
 obj:=λi h st b f=>by
  have e:b=it:=by simpa using f
  subst e;obtain⟨o,e,c,d⟩:=st;exact⟨o,e,λv z=>by rw[d] at z;cases z⟩
 keep:=λi h h' st k=>st.at λo e=>k it (by simp) o e
 item:=by intro X j hw l C i NI s Z H E I hf st m;subst j hw l;obtain⟨xs,x,g,hx⟩:=m;obtain⟨its,n,p,L⟩:=I.list g;obtain⟨u,M,N⟩:=n.get hx;obtain⟨q,r,O,y,A,B⟩:=hf it (by simp);refine Mn st p.isList (x:=u) (by simpa using M) λh' D sb=>?_;have Q:Inv X NI Z H {s with heap:=h'}:=I.turned (t':=s.toks) (λb o f e=>(sb.2 b f).trans e) q r y A B;obtain⟨o,e,c,d⟩:=id D;exact⟨u,rfl,mG (s:={s with heap:=h'}) e c d (by decide) ⟨x,H,Q,N,⟨rfl,λys R=>by rw[I.list_inj R g];exact hx⟩,D,λb f=>(hf b f).1⟩⟩
 done:=by intro X j hw l C i NI s Z H E I hf st m;subst j hw l;obtain⟨xs,g,hx⟩:=m;obtain⟨its,n,p,L⟩:=I.list g;obtain⟨q,r,O,y,A,B⟩:=hf it (by simp);have T:=n.length;exact Mm (I.ok.hd C) st p.isList (by simp;lia) λh' S=>⟨rfl,I.turned (t':=s.toks) (λb o f e=>S b o f e) q r y A B⟩
 self:=λ_ _ _ _ _ st h=>wpAny_pyIter_listiter st h
theorem Bi{tg:Expr}(a it:Addr):Turn P w K tg (Itt [] a) [it] it (λi h=>h.IsTupleIter it a i) where
 mem:=by simp
 obj:=λi h st b f=>by
  have e:b=it:=by simpa using f
  subst e;obtain⟨o,e,c,d⟩:=st;exact⟨o,e,λv z=>by rw[d] at z;cases z⟩
 keep:=λi h h' st k=>st.at λo e=>k it (by simp) o e
 item:=by intro X j hw l C i NI s Z H E I hf st m;subst j hw l;obtain⟨xs,x,g,hx⟩:=m;obtain⟨its,n,p,L⟩:=I.tuple g;obtain⟨u,M,N⟩:=n.get hx;obtain⟨q,r,O,y,A,B⟩:=hf it (by simp);refine wpAny_pyNext_tuple_item st (show s.heap.IsTuple a its.toArray from p) (x:=u) (by simpa using M) λh' D sb=>?_;have Q:Inv X NI Z H {s with heap:=h'}:=I.turned (t':=s.toks) (λb o f e=>(sb.2 b f).trans e) q r y A B;obtain⟨o,e,c,d⟩:=id D;exact⟨u,rfl,mG (s:={s with heap:=h'}) e c d (by decide) ⟨x,H,Q,N,⟨rfl,λys R=>by rw[I.tuple_inj R g];exact hx⟩,D,λb f=>(hf b f).1⟩⟩
 done:=by intro X j hw l C i NI s Z H E I hf st m;subst j hw l;obtain⟨xs,g,hx⟩:=m;obtain⟨its,n,p,L⟩:=I.tuple g;obtain⟨q,r,O,y,A,B⟩:=hf it (by simp);have T:=n.length;exact wpAny_pyNext_tuple_end (I.ok.hd C) st (show s.heap.IsTuple a its.toArray from p) (by simp;lia) λh' S=>⟨rfl,I.turned (t':=s.toks) (λb o f e=>S b o f e) q r y A B⟩
 self:=λ_ _ _ _ _ st h=>wpAny_pyIter_tupleiter st h
theorem Bj{tg:Expr}(it:Addr)(lo:Int)(n:Nat):Turn P w K tg (Itr lo n) [it] it (λi h=>IsRangeIter h it (lo+(i:Nat)*1) ((n:Int)-(i:Nat)) 1) where
 mem:=by simp
 obj:=λi h st b a=>by
  have e:b=it:=by simpa using a
  subst e;exact⟨_,st,λv z=>by
   have u:Data.fields _=Data.cell v:=z;cases u⟩
 keep:=λi h h' st k=>k it (by simp) _ st
 item:=by intro X c hw d f i NI s Z H E I hf st g;subst c hw d;obtain⟨j,l,x,m,p,q⟩:=hf it (by simp);have W:=Walks.range (prog:=X.prog) (w:=X.w) (I.ok.hd f) it lo 1 n;refine W.item i s _ _ g st λv h' tk y r A=>?_;obtain⟨t,rfl⟩:=y;have B:Inv X NI Z H {s with heap:=h',toks:=tk}:=I.turned (λb o a e=>A b o (by simpa using a) e) j l m p q;refine⟨_,rfl,mG (s:={s with heap:=h',toks:=tk}) (n:="range_iterator") r rfl rfl (by decide) ⟨.int (lo+i),H,B,⟨t,?_⟩,⟨rfl,rfl⟩,r,λb a=>(hf b a).1⟩⟩;rw[Int.mul_one]
 done:=by intro X c hw d f i NI s Z H E I hf st g;subst c hw d;obtain⟨j,l,x,m,p,q⟩:=hf it (by simp);exact wpAny_pyNext_range_end (I.ok.hd f) st (by have:n<=i:=g;lia) λh' C=>⟨rfl,I.turned (t':=s.toks) (λb o a e=>C b o a e) j l m p q⟩
 self:=λ_ _ _ _ _ st h=>wpAny_pyIter_rangeiter st h
end L2
namespace L2
open PySem PySem.Spec PyProof.Rows
section
variable {tg:Expr}
def H_(K:W.Frag)(R:It->Hp->Prop)(x:V)(H1:Hp)(a:Addr):Prop:=x=.ref a/\(∃xs,SqL K H1 a xs)/\R (Itl K a) H1
def HZ(K:W.Frag)(R:It->Hp->Prop):VK:=λx H1=>Exists (H_ K R x H1)
def zi(K:W.Frag)(tl:TE):TI:=λZ H R=>tl Z H (HZ K R)
def JM(K:W.Frag)(R:It->Hp->Prop)(x:V)(H1:Hp)(a:Addr):Prop:=x=.ref a/\(∃xs,SqT K H1 a xs)/\R (Itt K a) H1
def JL(K:W.Frag)(R:It->Hp->Prop):VK:=λx H1=>Exists (JM K R x H1)
def mW(K:W.Frag)(tl:TE):TI:=λZ H R=>tl Z H (JL K R)
theorem bI{l:Expr}{tl:TE}(d:PE X l tl):PI X tg l (zi [] tl):=by
 intro NI s Z H R I h;refine thn (d NI s Z H _ I h) λv s1 ⟨x,H1,c,f,g⟩=>?_;obtain⟨a,e,⟨xs,i⟩,q⟩:=g;subst e;cases f;obtain⟨its,m,p,n⟩:=c.list i;refine qk p.isList ?_;refine⟨s1.heap.objs.size,[s1.heap.objs.size],_,_,H1,rfl,c.kept (t':=s1.toks) λb o e=>aI _ e,BN a _,⟨_,bq _ rfl,rfl,rfl⟩,λb j=>?_,q⟩;have e:b=s1.heap.objs.size:=by simpa using j
 subst e;exact c.fpOk (ak _) (c.hok.fresh (ak _))
theorem i7{l:Expr}{tl:TE}(d:PE X l tl):PI X tg l (mW [] tl):=by
 intro NI s Z H R I h;refine thn (d NI s Z H _ I h) λv s1 ⟨x,H1,c,f,g⟩=>?_;obtain⟨a,e,⟨xs,i⟩,q⟩:=g;subst e;cases f;obtain⟨its,m,p,n⟩:=c.tuple i;refine Ml (show s1.heap.IsTuple a its.toArray from p) ?_;refine⟨s1.heap.objs.size,[s1.heap.objs.size],_,_,H1,rfl,c.kept (t':=s1.toks) λb o e=>aI _ e,Bi a _,⟨_,bq _ rfl,rfl,rfl⟩,λb j=>?_,q⟩;have e:b=s1.heap.objs.size:=by simpa using j
 subst e;exact c.fpOk (ak _) (c.hok.fresh (ak _))
theorem Do{R:It->Hp->Prop}{lo hi:Int}{t u v:Tok}{tk:Nat}(I:Inv X NI Z H s)(h1:-(2 ^ 62)<=lo)(h2:lo<2 ^ 62)(c:-(2 ^ 62)<=hi)(d:hi<2 ^ 62)
  (q:R (Itr lo (hi-lo).toNat) H):wpAny (model X.prog X.w) X.A (pyIter (.ref s.heap.objs.size)) (PIE X NI Z tg R) E {s with heap:=s.heap.push {cls:=.type "range",data:=.fields #[.int lo t,.int hi u,.int 1 v]},toks:=tk}:=by
 refine wpAny_pyIter_range (IsRange.new ..) (small_one h1 h2 c d) ?_;have a:Inv X NI Z H {s with heap:=s.heap.push {cls:=.type "range",data:=.fields #[.int lo t,.int hi u,.int 1 v]},toks:=tk}:=I.kept λb o e=>aI _ e;refine⟨(s.heap.push {cls:=.type "range",data:=.fields #[.int lo t,.int hi u,.int 1 v]}).objs.size,[(s.heap.push {cls:=.type "range",data:=.fields #[.int lo t,.int hi u,.int 1 v]}).objs.size],_,_,H,rfl,
  a.kept (t':=tk) λb o e=>aI _ e,Bj _ lo (hi-lo).toNat,?_,λb f=>?_,q⟩
 .have g:lo+((0:Nat):Int)*1=lo:=by simp
  have h:(((hi-lo).toNat:Nat):Int)-((0:Nat):Int)=Builtin.Range.rangeSize lo hi 1:=by rw[rangeSize_one];split<;>lia
  show IsRangeIter _ _ (lo+((0:Nat):Int)*1) ((((hi-lo).toNat:Nat):Int)-((0:Nat):Int)) 1;rw[g,h];exact bq _ rfl
 have e:b=(s.heap.push {cls:=.type "range",data:=.fields #[.int lo t,.int hi u,.int 1 v]}).objs.size:=by simpa using f
 subst e;exact a.fpOk (ak _) (a.hok.fresh (ak _))
def HY(R:It->Hp->Prop)(vs:List V)(H1:Hp)(j:Int):Prop:=vs=[.int j]/\-(2 ^ 62)<=j/\j<2 ^ 62/\R (Itr 0 j.toNat) H1
def HX(R:It->Hp->Prop):List V->Hp->Prop:=λvs H1=>Exists (HY R vs H1)
def JN(ta:TA):TI:=λZ H R=>ta Z H (HX R)
theorem kO{a:Expr}{ta:TA}{p pos:Pos}(c:Gl X "range")(hm:X.mg "range" = none)(ha:PA X [a] ta)(d:starEach [a] X.env=[(false,eval a X.env)]:=by rfl):PI X tg (.Call (.Name "range" p) [a] [] pos) (JN ta):=by
 intro NI s Z H R I h;refine Call_ (mv I c hm boot_range (z9 (thn (ha pos NI s Z H _ I h) λus s1 ⟨vs,H1,f,g,b⟩=>?_) d rfl));obtain⟨j,e,b,i,q⟩:=b;subst e;cases g with
 |cons r l=>
  cases l;obtain⟨t,rfl⟩:=r;exact call_range_1 (Do f (by lia) (by lia) b i (by simpa using q))
def IS(J:It)(g:TG)(tb:TS)(D:Ends)(W:Nat->Nat->St->Hp->Prop)(i m:Nat)(Z:St)(H:Hp)(N:St->Hp->Prop):Prop:=(∀Z' H',N Z' H'->∃a,a<m/\W (i+1) a Z' H')/\∀x H',J.yld i H x H'->g x Z H' (tb {D with nx:=N,ct:=N,bk:=D.nx})
def IU(g:TG)(tb:TS)(D:Ends)(Z:St)(J:It)(H1:Hp)(W:Nat->Nat->St->Hp->Prop):Prop:=(∃m,W 0 m Z H1)/\∀i m Z H,W i m Z H->(J.stop i H/\D.nx Z H)\/(J.go i H/\Exists (IS J g tb D W i m Z H))
def IT(g:TG)(tb:TS)(D:Ends)(Z:St):It->Hp->Prop:=λJ H1=>Exists (IU g tb D Z J H1)
def tFor(wi:TI)(g:TG)(tb:TS):TS:=λD Z H=>wi Z H (IT g tb D Z)
def jX(fp:List Addr)(h:Heap):List (Addr×Obj):=fp.filterMap λb=>(h.get? b).map λo=>(b,o)
theorem jE{fp:List Addr}{h:Heap}{b:Addr}{o:Obj}(a:b∈fp)(e:h.get? b=some o):(b,o)∈jX fp h:=tO.mpr ⟨b,a,by rw[e];rfl⟩
theorem Cb{fp:List Addr}{h:Heap}{p:Addr×Obj}(a:p∈jX fp h):p.1∈fp/\h.get? p.1=some p.2:=by
 obtain⟨b,c,e⟩:=tO.mp a;cases q:h.get? b with
 |none=>rw[q] at e;cases e
 |some o=>
  rw[q] at e;have d:(b,o)=p:=cN e;subst d;exact⟨c,q⟩
theorem Inv.pinned{fp:List Addr}(I:Inv X NI Z H s)(hf:∀b∈fp,cU X NI H b)(f:∀b∈fp,∃o,s.heap.get? b=some o/\∀v,o.data≠.cell v):Inv X (NI++jX fp s.heap) Z H s:=
 I.pins_of λp g=>(aW.mp g).elim (λz=>I.pin p (eO _ z)) λz=>by
  obtain⟨a,e⟩:=Cb z;obtain⟨h,i,j,_⟩:=hf p.1 a;obtain⟨o,c,d⟩:=f p.1 a;rw[e] at c;cases c;exact⟨e,h,i,j,d⟩
theorem Inv.unpinned{NI pl:List (Addr×Obj)}(I:Inv X (NI++pl) Z H s):Inv X NI Z H s:=I.pins_of λp a=>I.pin p (eO _ (dC _ a))
theorem b_{iter:Expr}{body:List Stmt}{wi:TI}{g:TG}{tb:TS}{pos:Pos}(q:PassesOwn (model X.prog X.w) X.A X.env X.xe)(M:X.calm=true)(hi:PI X tg iter wi)(hg:PG X tg g)(a:PSs X body tb)
  (hs:∀x,foldedSetIterable iter X.env x=pure x:=by intro _;rfl):PS X (.For tg iter body [] pos) (tFor wi g tb):=by
 intro NI s Z H D I h;refine wpAny_For (thn (hi NI s Z H _ I h) λv s1 h1=>thn h1 λam s2 h2=>?_) hs;obtain⟨it,fp,O,J,H2,e,I2,T,ab,P,W,⟨m0,w0⟩,turn⟩:=h2;subst e;have C:∀{H':Hp},(∀b∈fp,H' b=none)->∀b∈fp,cU X NI H' b:=λhn b a=>⟨hn b a,(P b a).2⟩;refine codeAny_forLoop_any (λn s'=>∃i Z' H',Inv X NI Z' H' s'/\O i s'.heap/\(∀b∈fp,H' b=none)/\W i n Z' H') ?_ m0 ⟨0,Z,H2,I2,ab,λb a=>(P b a).1,w0⟩;rintro n Q ⟨i,y,B,R,S,U,w3⟩;rcases turn i n y B w3 with ⟨stop,qn⟩|⟨go,N,hN,step⟩
 .refine kx q (thn (T.done X rfl rfl rfl M i NI Q y B X.xe R (C U) S stop) λr s4 ⟨E,I4⟩=>?_);subst E;exact qi ⟨y,B,I4,qn⟩
 refine kx q (thn (T.item X rfl rfl rfl M i NI Q y B X.xe R (C U) S go) λr s4 ⟨u,E,h4⟩=>?_);subst E;refine kx q (thn h4 λ_ Y ⟨x,H5,I5,r5,y5,K,ad⟩=>?_);have al:=I5.pinned (C ad) (T.obj _ _ K);refine kx q (thn (hg _ Y y H5 x u _ al r5 (step x H5 y5)) λ_ s6 ⟨Z6,H6,I6,q6⟩=>?_);refine kx q (thn (a _ s6 Z6 H6 _ I6 q6) λf L p=>?_);have again:∀{c:St}{j:Hp},Inv X (NI++jX fp Y.heap) c j L->N c j->∃m,m<n/\∃i Z' H',Inv X NI Z' H' L/\O i L.heap/\(∀b∈fp,H' b=none)/\W i m Z' H':=λ{c j} l z=>by
  obtain⟨m',hm,w7⟩:=hN c j z;refine⟨m',hm,i+1,c,j,l.unpinned,T.keep _ _ _ K λb a o e=>(l.pin (b,o) (eO _ (eO _ (jE a e)))).1,λb a=>?_,w7⟩;obtain⟨o,e,d⟩:=T.obj _ _ K b a;exact (l.pin (b,o) (eO _ (eO _ (jE a e)))).2.1
 cases f with
 |next=>obtain⟨c,j,l,z⟩:=p;exact again l z
 |cont=>obtain⟨c,j,l,z⟩:=p;exact again l z
 |brk=>obtain⟨c,j,l,p⟩:=p;exact⟨c,j,l.unpinned,p⟩
 |ret v=>obtain⟨x7,c,j,l,r7,p⟩:=p;exact⟨x7,c,j,l.unpinned,r7,p⟩
end
theorem dh{a:Addr}{g:TG}{tb:TS}{D:Ends}(Pv:Nat->St->Hp->Prop)(d:Pv 0 Z H)(f:∀i Z H,i<=xs.length->Pv i Z H->SqL K H a xs)
  (h:∀i x Z H,xs[i]?=some x->Pv i Z H->g x Z H λσ2 H2=>tb {D with nx:=Pv (i+1),ct:=Pv (i+1),bk:=D.nx} σ2 H2) (hd:∀Z H,Pv xs.length Z H->D.nx Z H) :
  ∃W:Nat->Nat->St->Hp->Prop,(∃m,W 0 m Z H)/\∀i m Z H,W i m Z H->
   ((Itl K a).stop i H/\D.nx Z H)\/((Itl K a).go i H/\∃N:St->Hp->Prop,(∀Z' H',N Z' H'->∃b,b<m/\W (i+1) b Z' H')/\∀x H',(Itl K a).yld i H x H'->g x Z H' λσ2 H2=>tb {D with nx:=N,ct:=N,bk:=D.nx} σ2 H2):=by
 refine⟨λi m Z H=>m=xs.length-i/\i<=xs.length/\Pv i Z H,⟨xs.length,by simp,aJ _,d⟩,?_⟩;rintro i m Z H ⟨rfl,hi,p⟩;have q:=f i Z H hi p;by_cases c:i<xs.length
 .refine .inr ⟨⟨xs,xs[i],q,by simp[c]⟩,Pv (i+1),λZ' H' j=>⟨xs.length-(i+1),by lia,rfl,c,j⟩,λx H' y=>?_⟩;obtain⟨e,y⟩:=y;subst e;exact h i x Z _ (y xs q) p
 have e:i=xs.length:=by lia
 subst e;exact .inl ⟨⟨xs,q,ak _⟩,hd Z H p⟩
theorem xw{a:Addr}{g:TG}{tb:TS}{D:Ends}(Pv:Nat->St->Hp->Prop)(d:Pv 0 Z H)(f:∀i Z H,i<=xs.length->Pv i Z H->SqT K H a xs)
  (h:∀i x Z H,xs[i]?=some x->Pv i Z H->g x Z H λσ2 H2=>tb {D with nx:=Pv (i+1),ct:=Pv (i+1),bk:=D.nx} σ2 H2) (hd:∀Z H,Pv xs.length Z H->D.nx Z H) :
  ∃W:Nat->Nat->St->Hp->Prop,(∃m,W 0 m Z H)/\∀i m Z H,W i m Z H->
   ((Itt K a).stop i H/\D.nx Z H)\/((Itt K a).go i H/\∃N:St->Hp->Prop,(∀Z' H',N Z' H'->∃b,b<m/\W (i+1) b Z' H')/\∀x H',(Itt K a).yld i H x H'->g x Z H' λσ2 H2=>tb {D with nx:=N,ct:=N,bk:=D.nx} σ2 H2):=by
 refine⟨λi m Z H=>m=xs.length-i/\i<=xs.length/\Pv i Z H,⟨xs.length,by simp,aJ _,d⟩,?_⟩;rintro i m Z H ⟨rfl,hi,p⟩;have q:=f i Z H hi p;by_cases c:i<xs.length
 .refine .inr ⟨⟨xs,xs[i],q,by simp[c]⟩,Pv (i+1),λZ' H' j=>⟨xs.length-(i+1),by lia,rfl,c,j⟩,λx H' y=>?_⟩;obtain⟨e,y⟩:=y;subst e;exact h i x Z _ (y xs q) p
 have e:i=xs.length:=by lia
 subst e;exact .inl ⟨⟨xs,q,ak _⟩,hd Z H p⟩
theorem kP{lo:Int}{n:Nat}{g:TG}{tb:TS}{D:Ends}(Pv:Nat->St->Hp->Prop)(c:Pv 0 Z H)
  (d:∀i Z H,i<n->Pv i Z H->g (.int (lo+i)) Z H λσ2 H2=>tb {D with nx:=Pv (i+1),ct:=Pv (i+1),bk:=D.nx} σ2 H2) (hd:∀Z H,Pv n Z H->D.nx Z H) :
  ∃W:Nat->Nat->St->Hp->Prop,(∃m,W 0 m Z H)/\∀i m Z H,W i m Z H->
   ((Itr lo n).stop i H/\D.nx Z H)\/((Itr lo n).go i H/\∃N:St->Hp->Prop,(∀Z' H',N Z' H'->∃b,b<m/\W (i+1) b Z' H')/\∀x H',(Itr lo n).yld i H x H'->g x Z H' λσ2 H2=>tb {D with nx:=N,ct:=N,bk:=D.nx} σ2 H2):=by
 refine⟨λi m Z H=>m=n-i/\i<=n/\Pv i Z H,⟨n,by simp,aJ _,c⟩,?_⟩;rintro i m Z H ⟨rfl,hi,p⟩;by_cases a:i<n
 .refine .inr ⟨a,Pv (i+1),λZ' H' f=>⟨n-(i+1),by lia,rfl,a,f⟩,λx H' y=>?_⟩;obtain⟨e,y⟩:=y;subst e y;exact d i Z _ a p
 have e:i=n:=by lia
 subst e;exact .inl ⟨ak _,hd Z H p⟩
end L2
namespace L2
open PySem PySem.Spec PyProof.Rows
abbrev R2:=V->V->Hp->VK->Prop
def OpR(X:Cx)(f:Value->Value->Sem Value)(r:R2):Prop:=
 ∀(NI:List (Addr×Obj))(s:Shared)(Z:St)(H:Hp)(x y:V)(v u:Value)(Q:VK),Inv X NI Z H s->az x v->az y u->r x y H Q->
  wpAny (model X.prog X.w) X.A (f v u) (EP X NI Z Q) X.xe s
def UnR(X:Cx)(f:Value->Sem Value)(r:V->Hp->VK->Prop):Prop:=
 ∀(NI:List (Addr×Obj))(s:Shared)(Z:St)(H:Hp)(x:V)(v:Value)(Q:VK),Inv X NI Z H s->az x v->r x H Q->
  wpAny (model X.prog X.w) X.A (f v) (EP X NI Z Q) X.xe s
def cu(X:Cx)(f:Value)(r:List V->Hp->VK->Prop):Prop:=
 ∀(NI:List (Addr×Obj))(s:Shared)(Z:St)(H:Hp)(xs:List V)(us:List Value)(Q:VK),Inv X NI Z H s->Vals xs us->r xs H Q->
  wpAny (model X.prog X.w) X.A (call f us) (EP X NI Z Q) X.xe s
def TruR(X:Cx)(r:V->Hp->(Bool->Hp->Prop)->Prop):Prop:=
 ∀(NI:List (Addr×Obj))(s:Shared)(Z:St)(H:Hp)(x:V)(v:Value)(Q:Bool->Hp->Prop),Inv X NI Z H s->az x v->r x H Q->
  wpAny (model X.prog X.w) X.A (truthy v) (TP X NI Z Q) X.xe s
def tOp2(r:R2)(x:V)(Q:VK):VK:=λy H2=>r x y H2 Q
def tOp1(r:R2)(tb:TE)(Z:St)(Q:VK):VK:=λx H1=>tb Z H1 (tOp2 r x Q)
def tOp(r:R2)(ta tb:TE):TE:=λZ H Q=>ta Z H (tOp1 r tb Z Q)
def tUnK(r:V->Hp->VK->Prop)(Q:VK):VK:=λx H1=>r x H1 Q
def tUn(r:V->Hp->VK->Prop)(ta:TE):TE:=λZ H Q=>ta Z H (tUnK r Q)
def rIB(C:Int->Int->Prop)(g:Int->Int->V)(x y:V)(H:Hp)(Q:VK)(i j:Int):Prop:=x=.int i/\y=.int j/\C i j/\Q (g i j) H
def rI(C:Int->Int->Prop)(g:Int->Int->V):R2:=λx y H Q=>Exists (Ex2 (rIB C g x y H Q))
def rI0B(g:Int->Int->V)(x y:V)(H:Hp)(Q:VK)(i j:Int):Prop:=x=.int i/\y=.int j/\Q (g i j) H
def rI0(g:Int->Int->V):R2:=λx y H Q=>Exists (Ex2 (rI0B g x y H Q))
def rUB(g:Int->V)(x:V)(H:Hp)(Q:VK)(i:Int):Prop:=x=.int i/\Q (g i) H
def rU(g:Int->V):V->Hp->VK->Prop:=λx H Q=>Exists (rUB g x H Q)
section
variable {a b c:Expr}{ta tb tc:TE}{pos:Pos}
theorem sS(ha:PE X a ta)(c:PE X b tb){R:V->V->Hp->Prop}(I:Inv X NI Z H s)
  (h:ta Z H λx H1=>tb Z H1 λy H2=>R x y H2) {Q:Value->Shared->Prop} {f:Value->Value->Sem Value}
  (hf:∀v u s2 x y H2,Inv X NI Z H2 s2->az x v->az y u->R x y H2->wpAny (model X.prog X.w) X.A (f v u) Q X.xe s2) :
  wpAny (model X.prog X.w) X.A (eval a X.env) (λv s₁=>wpAny (model X.prog X.w) X.A (eval b X.env) (λu s₂=>wpAny (model X.prog X.w) X.A (f v u) Q X.xe s₂) X.xe s₁) X.xe s:=by
 refine thn (ha NI s Z H _ I h) λv s1 ⟨x,H1,d,e,g⟩=>?_;refine thn (c NI s1 Z H1 _ d g) λu s2 ⟨y,H2,i,j,l⟩=>?_;exact hf v u s2 x y H2 i e j l
theorem ax{op:Operator}{r:R2}(c:OpR X (binaryOp op) r)(ha:PE X a ta)(d:PE X b tb):PE X (.BinOp a op b pos) (tOp r ta tb):=by intro NI s Z H Q I h;exact wpAny_BinOp (sS ha d I h λv u s2 x y H2 e f g q=>c NI s2 Z H2 x y v u Q e f g q)
theorem pF{op:UnaryOp}{r:V->Hp->VK->Prop}(b:UnR X (unaryOp op) r)(ha:PE X a ta):PE X (.UnaryOp op a pos) (tUn r ta):=by intro NI s Z H Q I h;exact UnaryOp_ (thn (ha NI s Z H _ I h) λv s1 ⟨x,H1,c,d,e⟩=>b NI s1 Z H1 x v Q c d e)
theorem opI{f:Value->Value->Sem Value}{C:Int->Int->Prop}{g:Int->Int->Int}
  (rule:∀(i j:Int)(t u:Tok)(s:Shared)(Q:Value->Shared->Prop)(E:Value->Shared->Prop),C i j->Q (.int (g i j) s.toks) {s with toks:=s.toks+1}->wpAny (model X.prog X.w) X.A (f (.int i t) (.int j u)) Q E s) :
  OpR X f (rI C λi j=>.int (g i j)):=by
 intro NI s Z H x y v u Q I a b h;obtain⟨i,j,rfl,rfl,c,q⟩:=h;obtain⟨t,rfl⟩:=a;obtain⟨t',rfl⟩:=b;exact rule i j t t' s _ _ c ⟨.int (g i j),H,I.tok _,⟨_,rfl⟩,q⟩
theorem opI0{f:Value->Value->Sem Value}{g:Int->Int->Int}
  (rule:∀(i j:Int)(t u:Tok)(s:Shared)(Q:Value->Shared->Prop)(E:Value->Shared->Prop),Q (.int (g i j) s.toks) {s with toks:=s.toks+1}->wpAny (model X.prog X.w) X.A (f (.int i t) (.int j u)) Q E s) :
  OpR X f (rI0 λi j=>.int (g i j)):=by
 intro NI s Z H x y v u Q I a b h;obtain⟨i,j,rfl,rfl,q⟩:=h;obtain⟨t,rfl⟩:=a;obtain⟨t',rfl⟩:=b;exact rule i j t t' s _ _ ⟨.int (g i j),H,I.tok _,⟨_,rfl⟩,q⟩
theorem sR{f:Value->Value->Sem Value}{g:Int->Int->Bool}
  (rule:∀(i j:Int)(t u:Tok)(s:Shared)(Q:Value->Shared->Prop)(E:Value->Shared->Prop),Q (.bool (g i j)) s->wpAny (model X.prog X.w) X.A (f (.int i t) (.int j u)) Q E s) :
  OpR X f (rI0 λi j=>.bl (g i j)):=by
 intro NI s Z H x y v u Q I a b h;obtain⟨i,j,rfl,rfl,q⟩:=h;obtain⟨t,rfl⟩:=a;obtain⟨t',rfl⟩:=b;exact rule i j t t' s _ _ ⟨.bl (g i j),H,I,rfl,q⟩
def CPow(i j:Int):Prop:=0<=j/\j<=1000000/\i.natAbs<2 ^ 64
def CMul(i j:Int):Prop:=(-(2 ^ 64)<i/\i<2 ^ 64)\/(-(2 ^ 64)<j/\j<2 ^ 64)
theorem CMul.ok{i j:Int}(h:CMul i j):IntMulOk i j:=by
 rcases h with ⟨h1,h2⟩|⟨h1,h2⟩
 .exact .of_left (intBits_le_64 h1 h2)
 exact .of_right (intBits_le_64 h1 h2)
theorem cF:OpR X (binaryOp .Add) (rI0 λi j=>.int (i+j)):=opI0 λ_ _ _ _ _ _ _ q=>add_int q
theorem gp:OpR X (binaryOp .Sub) (rI0 λi j=>.int (i-j)):=opI0 λ_ _ _ _ _ _ _ q=>sub_int q
theorem ir:OpR X (binaryOp .Mult) (rI CMul λi j=>.int (i*j)):=opI λ_ _ _ _ _ _ _ a q=>mul_int q a.ok
theorem eK:OpR X (binaryOp .Mod) (rI (λ_ j=>0<j) λi j=>.int (i%j)):=opI λi j _ _ _ _ _ a q=>by
 have h1:(0:Int)<j:=a;exact mod_int' (by lia) (by rw[Int.fmod_eq_emod_of_nonneg i (by lia)];exact q)
theorem mm:OpR X (binaryOp .Pow) (rI CPow λi j=>.int (i ^ j.toNat)):=opI λ_ _ _ _ _ _ _ a q=>pow_int_small a.1 a.2.1 a.2.2 q
theorem unI{f:Value->Sem Value}{g:Int->Int}
  (rule:∀(i:Int)(t:Tok)(s:Shared)(Q:Value->Shared->Prop)(E:Value->Shared->Prop),Q (.int (g i) s.toks) {s with toks:=s.toks+1}->wpAny (model X.prog X.w) X.A (f (.int i t)) Q E s) :
  UnR X f (rU λi=>.int (g i)):=by
 intro NI s Z H x v Q I a h;obtain⟨i,rfl,q⟩:=h;obtain⟨t,rfl⟩:=a;exact rule i t s _ _ ⟨.int (g i),H,I.tok _,⟨_,rfl⟩,q⟩
theorem oU:UnR X (unaryOp .USub) (rU λi=>.int (-i)):=unI λ_ _ _ _ _ q=>neg_int q
end
def scal:V->V->Bool
 |.non,.non=>true | .non,.int _=>true | .int _,.non=>true | .non,.bl _=>true | .bl _,.non=>true | .non,.str _=>true | .str _,.non=>true
 |.int _,.int _=>true | .bl _,.bl _=>true | .str _,.str _=>true | .byt _,.byt _=>true
 |.int _,.str _=>true | .str _,.int _=>true | .bl _,.str _=>true | .str _,.bl _=>true
 |_,_=>false
def rEq:R2:=λx y H Q=>scal x y=true/\Q (.bl (decide (x=y))) H
def rNe:R2:=λx y H Q=>scal x y=true/\Q (.bl (!decide (x=y))) H
theorem xC{i j:Int}:decide (V.int i=V.int j)=(i==j):=by rw[fH];simp
theorem yN{i j:Bool}:decide (V.bl i=V.bl j)=(i==j):=by rw[fH];simp
theorem xB{i j:Str}:decide (V.str i=V.str j)=(i==j):=by rw[fH];simp
theorem xD{i j:Array UInt8}:decide (V.byt i=V.byt j)=(i.toList==j.toList):=by rw[fH];cases i;cases j;simp
section
variable {a b c:Expr}{ta tb tc:TE}{pos:Pos}
theorem bN{Q:VK}{k a:Bool}(I:Inv X NI Z H s)(q:Q (.bl k) H)(e:k=a):EP X NI Z Q (.bool a) s:=by subst e;exact⟨.bl k,H,I,rfl,q⟩
theorem eA:OpR X (compareOp .Eq) rEq:=by
 intro NI s Z H x y v u Q I c a h;obtain⟨b,q⟩:=h;cases x with
 |non=>
  cases c;cases y with
  |non=>cases a;exact MT (bN I q (by simp))
  |bl j=>cases a;exact MR (bN I q (by simp))
  |int j=>obtain⟨t',rfl⟩:=a;exact MS (bN I q (by simp))
  |str j=>obtain⟨t',rfl⟩:=a;exact MU (bN I q (by simp))
  |_=>exact absurd (show false=true from b) bu
 |bl i=>
  cases c;cases y with
  |non=>cases a;exact MP (bN I q (by simp))
  |bl j=>cases a;exact eq_bool (bN I q yN)
  |str j=>obtain⟨t',rfl⟩:=a;exact MG (bN I q (by simp))
  |_=>exact absurd (show false=true from b) bu
 |int i=>
  obtain⟨t,rfl⟩:=c;cases y with
  |non=>cases a;exact MQ (bN I q (by simp))
  |int j=>obtain⟨t',rfl⟩:=a;exact eq_int (bN I q xC)
  |str j=>obtain⟨t',rfl⟩:=a;exact MH (bN I q (by simp))
  |_=>exact absurd (show false=true from b) bu
 |str i=>
  obtain⟨t,rfl⟩:=c;cases y with
  |non=>cases a;exact MV (bN I q (by simp))
  |bl j=>cases a;exact MJ (bN I q (by simp))
  |int j=>obtain⟨t',rfl⟩:=a;exact MK (bN I q (by simp))
  |str j=>obtain⟨t',rfl⟩:=a;exact eq_str (bN I q xB)
  |_=>exact absurd (show false=true from b) bu
 |byt i=>
  obtain⟨t,rfl⟩:=c;cases y with
  |byt j=>obtain⟨t',rfl⟩:=a;exact W.eq_bytes (bN I q xD)
  |_=>exact absurd (show false=true from b) bu
 |_=>cases y<;>exact absurd (show false=true from b) bu
theorem fq:OpR X (compareOp .NotEq) rNe:=by
 intro NI s Z H x y v u Q I c a h;obtain⟨b,q⟩:=h;cases x with
 |non=>
  cases c;cases y with
  |non=>cases a;exact M4 (bN I q (by simp))
  |bl j=>cases a;exact MZ (bN I q (by simp))
  |int j=>obtain⟨t',rfl⟩:=a;exact M3 (bN I q (by simp))
  |str j=>obtain⟨t',rfl⟩:=a;exact M5 (bN I q (by simp))
  |_=>exact absurd (show false=true from b) bu
 |bl i=>
  cases c;cases y with
  |non=>cases a;exact MW (bN I q (by simp))
  |bl j=>cases a;exact ne_bool (bN I q (congrArg not yN))
  |str j=>obtain⟨t',rfl⟩:=a;exact ML (bN I q (by simp))
  |_=>exact absurd (show false=true from b) bu
 |int i=>
  obtain⟨t,rfl⟩:=c;cases y with
  |non=>cases a;exact MY (bN I q (by simp))
  |int j=>obtain⟨t',rfl⟩:=a;exact ne_int (bN I q (congrArg not xC))
  |str j=>obtain⟨t',rfl⟩:=a;exact MM (bN I q (by simp))
  |_=>exact absurd (show false=true from b) bu
 |str i=>
  obtain⟨t,rfl⟩:=c;cases y with
  |non=>cases a;exact M6 (bN I q (by simp))
  |bl j=>cases a;exact MN (bN I q (by simp))
  |int j=>obtain⟨t',rfl⟩:=a;exact MO (bN I q (by simp))
  |str j=>obtain⟨t',rfl⟩:=a;exact ne_str (bN I q (congrArg not xB))
  |_=>exact absurd (show false=true from b) bu
 |byt i=>
  obtain⟨t,rfl⟩:=c;cases y with
  |byt j=>obtain⟨t',rfl⟩:=a;exact W.ne_bytes (bN I q (congrArg not xD))
  |_=>exact absurd (show false=true from b) bu
 |_=>cases y<;>exact absurd (show false=true from b) bu
theorem mF:OpR X (compareOp .Lt) (rI0 λi j=>.bl (decide (i<j))):=sR λ_ _ _ _ _ _ _ q=>lt_int q
theorem pG:OpR X (compareOp .Gt) (rI0 λi j=>.bl (decide (j<i))):=sR λ_ _ _ _ _ _ _ q=>gt_int q
theorem JG:OpR X (compareOp .GtE) (rI0 λi j=>.bl (decide (j<=i))):=sR λ_ _ _ _ _ _ _ q=>ge_int q
theorem Hv:OpR X (compareOp .Is) (λx y H Q=>y=.non/\Q (.bl (decide (x=.non))) H):=by
 intro NI s Z H x y v u Q I a b h;obtain⟨rfl,q⟩:=h;cases b;refine is_none_gen (bN I q ?_);cases x<;>first
  |(cases a;rfl)
  |(obtain⟨t,rfl⟩:=a;rfl)
theorem Fj:OpR X (compareOp .IsNot) (λx y H Q=>y=.non/\Q (.bl (!decide (x=.non))) H):=by
 intro NI s Z H x y v u Q I a b h;obtain⟨rfl,q⟩:=h;cases b;refine isnot_none_gen (bN I q ?_);cases x<;>first
  |(cases a;rfl)
  |(obtain⟨t,rfl⟩:=a;rfl)
theorem nomark(b:Expr){op:CmpOp}(h:op≠.In:=by decide)(h2:op≠.NotIn:=by decide):behindInMarks op b=false:=by
 have a:(op==CmpOp.In)=false:=by cases op<;>first|rfl|exact absurd rfl h
 have c:(op==CmpOp.NotIn)=false:=by cases op<;>first|rfl|exact absurd rfl h2
 cases b<;>simp[behindInMarks,a,c]
theorem eQ{op:CmpOp}{r:R2}(c:OpR X (compareOp op) r)(ha:PE X a ta)(d:PE X b tb)(hm:behindInMarks op b=false):PE X (.Compare a [op] [b] pos) (tOp r ta tb):=by intro NI s Z H Q I h;exact LZ (sS ha d I h λv u s2 x y H2 e f g q=>c NI s2 Z H2 x y v u Q e f g q) hm
def si(t:TE):TT:=λZ H Q=>t Z H (tBK Q)
theorem a6{op:CmpOp}{r:R2}(d:OpR X (compareOp op) r)(ha:PE X a ta)(f:PE X b tb)(hm:behindInMarks op b=false):PT X (.Compare a [op] [b] pos) (si (tOp r ta tb)):=by
 intro NI s Z H Q I h;refine Mc (thn (ha NI s Z H _ I h) λv s1 ⟨x,H1,g,i,j⟩=>thn (f NI s1 Z H1 _ g j) λu s2 ⟨y,H2,l,m,n⟩=>
  thn (d NI s2 Z H2 x y v u _ l i m n) λc A ⟨z,o,p,q,k,e,w⟩=>?_) hm
 subst e;cases q;exact gY ⟨o,p,w⟩
def TruV(K:W.Frag)(x:V)(H:Hp)(k:Bool):Prop:=
 match x with
 |.non=>k=false
 |.bl b=>k=b
 |.int i=>k=(i != 0)
 |.str y=>y.length<=sizeLine/\k=((y.length:Int) != 0)
 |.byt y=>y.size<=sizeLine/\k=((y.size:Int) != 0)
 |.ref p=>(∃xs,SqL K H p xs/\k=!xs.isEmpty)\/(∃xs,SqT K H p xs/\k=!xs.isEmpty)\/∃kvs,H p=some (.dK kvs)/\k=!kvs.isEmpty
 |_=>False
theorem BG{κ:Type}{kvs:List (κ×V)}{vs:List (κ×Value)}(r:KV kvs vs):(!vs.isEmpty)=!kvs.isEmpty:=by cases r<;>rfl
theorem uK{its:List Value}(r:Vals xs its):(!its.toArray.isEmpty)=!xs.isEmpty:=by cases r<;>simp
theorem line63:(sizeLine:Nat)<2 ^ 63:=by rw[dg];decide
theorem F_:TruR X (λx H Q=>∃k,TruV [] x H k/\Q k H):=by
 intro NI s Z H x v Q I c h;obtain⟨k,e,q⟩:=h;have j:=line63;have l:sizeLine=16777216:=dg;cases x with
 |non=>
  cases c;have a:k=false:=e;subst a;exact truthy_none ⟨H,I,q⟩
 |bl b=>
  cases c;have a:k=b:=e;subst a;exact gY ⟨H,I,q⟩
 |int i=>
  obtain⟨t,rfl⟩:=c;have a:k=(i != 0):=e;subst a;exact PySem.P.truthy_int ⟨H,I,q⟩
 |str y=>
  obtain⟨t,rfl⟩:=c;obtain⟨f,a⟩:y.length<=sizeLine/\k=((y.length:Int) != 0):=e;subst a;exact PySem.P.truthy_str (by lia) ⟨H,I.tok _,q⟩
 |byt y=>
  obtain⟨t,rfl⟩:=c;obtain⟨f,a⟩:y.size<=sizeLine/\k=((y.size:Int) != 0):=e;subst a;exact W.truthy_bytes (by lia) ⟨H,I.tok _,q⟩
 |ref p=>
  cases c;have a:(∃xs,SqL [] H p xs/\k=!xs.isEmpty)\/(∃xs,SqT [] H p xs/\k=!xs.isEmpty)\/∃kvs,H p=some (.dK kvs)/\k=!kvs.isEmpty:=e;rcases a with ⟨xs,hx,a⟩|⟨xs,hx,a⟩|⟨kvs,hx,a⟩
  .subst a;obtain⟨its,r,pl,d⟩:=I.list hx;have hlen:=r.length;exact wpAny_truthy_list pl.isList (by simp only[a_];lia) ⟨H,I.tok _,by rw[uK r];exact q⟩
  .subst a;obtain⟨its,r,pl,d⟩:=I.tuple hx;have hlen:=r.length;exact truthy_tuple pl (by simp only[a_];lia) ⟨H,I.tok _,by rw[uK r];exact q⟩
  subst a;obtain⟨d,g,vs,r,m⟩:kvs.length<=sizeLine/\(p==sysModules)=false/\∃vs,KV kvs vs/\s.heap.DictOf (cG X.prog X.w) p vs:=I.hok p _ hx;have hlen:kvs.length=vs.length:=nF r;exact wpAny_truthy_dict g m (by lia) ⟨H,I.tok _,by rw[BG r];exact q⟩
 |_=>exact (show False from e).elim
theorem Dw(ha:PE X a ta)(he:∀whole,isTrue a X.env whole=(do let v <-whole;standAt a.pos;holding [v] (truthy v))) :
  PT X a (λZ H Q=>ta Z H λx H'=>∃k,TruV [] x H' k/\Q k H'):=by
 intro NI s Z H Q I h;exact isTrue_plain (thn (ha NI s Z H _ I h) λv s1 ⟨x,H1,I1,r1,q1⟩=>F_ NI s1 Z H1 x v Q I1 r1 q1) (he _)
theorem kH:OpR X (binaryOp .Add) (λx y H Q=>∃i j,x=.str i/\y=.str j/\i.length+j.length<=sizeLine/\Q (.str (i++j)) H):=by intro NI s Z H x y v u Q I a b h;obtain⟨i,j,rfl,rfl,c,q⟩:=h;obtain⟨t,rfl⟩:=a;obtain⟨t',rfl⟩:=b;exact add_str (λt' tk=>⟨.str (i++j),H,I.tok _,⟨_,rfl⟩,q⟩) c
theorem vals1{x:V}(r:Vals [x] us):∃u,us=[u]/\az x u:=by
 cases r with
 |cons a b=>cases b;exact⟨_,rfl,a⟩
theorem vals2{x y:V}(r:Vals [x,y] us):∃u a,us=[u,a]/\az x u/\az y a:=by
 cases r with
 |cons b c=>
  cases c with
  |cons d e=>cases e;exact⟨_,_,rfl,b,d⟩
theorem og:cu X (.type "int") (λxs H Q=>(∃i,xs=[.int i]/\Q (.int i) H)\/∃k,xs=[.bl k]/\Q (.int (if k then 1 else 0)) H):=by
 intro NI s Z H xs us Q I r h;rcases h with ⟨i,rfl,q⟩|⟨k,rfl,q⟩
 .obtain⟨u,rfl,t,rfl⟩:=vals1 r;exact call_int_int ⟨.int i,H,I,⟨_,rfl⟩,q⟩
 obtain⟨u,rfl,a⟩:=vals1 r;cases a;exact call_int_bool ⟨.int (if k then 1 else 0),H,I.tok _,⟨_,rfl⟩,q⟩
theorem A3:cu X (.type "str") (λxs H Q=>∃i,xs=[.int i]/\i.natAbs.log2<1920/\Q (.str (toString i)) H):=by intro NI s Z H xs us Q I r h;obtain⟨i,rfl,a,q⟩:=h;obtain⟨u,rfl,t,rfl⟩:=vals1 r;exact PySem.P.str_of_int a ⟨.str _,H,I.tok _,⟨_,rfl⟩,q⟩
end
end L2
namespace L2
open PySem PySem.Spec PyProof.Rows
structure jg(h:Heap)(x dx C:Addr)(mA:Str->Option Value):Prop where
 obj:h.get? x=some (W.instObj C dx)
 ns:h.Ns1 dx mA
 ne:dx≠x
theorem qD{h:Heap}{dx:Addr}{mA:Str->Option Value}(n:h.Ns1 dx mA):∃od,h.get? dx=some od/\∀name,W.lookIn name od=some (mA name):=by
 obtain⟨o,es,ep,b,hd,c,_,hm⟩:=n;refine⟨o,b,λname=>?_⟩;have e:=hm name;unfold nsFind findBy at e;rw[<-Array.find?_toList] at e;unfold W.lookIn;rw[hd];dsimp only
 split
 .rename_i y q;rw[q] at e;exact congrArg some e
 rename_i q;rw[q] at e;have a:es.toList.any (·.refKey)=false:=by rw[Kq];intro y d;obtain⟨z,t,f⟩:=c y (Array.mem_toList_iff.mp d);simp[DictEntry.refKey,f]
 have g:¬es.toList.any (·.refKey)=true:=by rw[a];exact bu
 rw[NC g];exact congrArg some e
theorem jg.look{h:Heap}{x dx C:Addr}{mA:Str->Option Value}(I:jg h x dx C mA):∃od,W.InstAt h x (W.instObj C dx) C (some od)/\∀name,W.lookIn name od=some (mA name):=
 let ⟨od,a,b⟩:=qD I.ns
 ⟨od,⟨I.obj,rfl,rfl,a⟩,b⟩
section
variable {prog:Program}{x dx C f:Addr}{mA:Str->Option Value}{name:Str}{v:Value}
theorem FG{expr:Bool}{Q:Value->Shared->Prop}(X:K.In s.heap)(I:jg s.heap x dx C mA)(a:W.plainGet K C name=true)(b:W.hasDictIn K C=true)
  (ha:W.findIn K (.ref C) name=some none) (c:mA name=some v) (d:W.handedIn v=true) (h:Q v {s with toks:=s.toks+1}) :
  wpAny (model prog w) A (getAttr (.ref x) name expr) Q E s:=by
 obtain⟨od,J,e⟩:=I.look;exact W.get_value X J (Ag a).1 (W.findObj_own b ha rfl (by rw[e,c])) d h
theorem Ea{pl:Sem Bool}{Q:Value×List Value->Shared->Prop}(X:K.In s.heap)(I:jg s.heap x dx C mA)(a:W.plainGet K C name=true)
  (hf:W.findIn K (.ref C) name=some (some (.ref f))) (b:W.isFn K (.ref f)=true) (c:mA name=none) (h:Q (.ref f,[.ref x]) s) :
  wpAny (model prog w) A (getMethod (.ref x) name pl) Q E s:=by
 obtain⟨od,J,d⟩:=I.look;exact W.method_fn X J (Ag a).1 (Ag a).2 hf (beq_iff_eq.mp b) (by show (W.lookIn name od).map (·.isSome)=some false;rw[d,c];rfl) h
theorem ES{ns:List Str}{Q:Unit->Shared->Prop}(X:K.In s.heap)(I:jg s.heap x dx C mA)
  (e:W.findIn K (.ref C) "__setattr__" = some (some (.builtin "object.__setattr__"))) (f:W.plainOver K C=true) (g:W.takerIn K C name=some none) (i:W.hasDictIn K C=true)
  (hw:PySem.Within mA ns) (hsz:ns.length<=sizeLine)
  (h:∀h',jg h' x dx C (λy=>if y=name then some v else mA y)->Heap.SameBut dx s.heap h'->Q () {s with heap:=h',toks:=s.toks+2}) :
  wpAny (model prog w) A (setAttr (.ref x) name v) Q E s:=by
 obtain⟨od,J,p⟩:=I.look;refine Lx X J e (W.osa_open (s:={s with toks:=s.toks+1}) (r:=none) X J f g λb=>?_);obtain⟨cd,j,l⟩:=Ad i;have hx:s.heap.get? x=some ⟨.ref C,some dx,.plain,#[]⟩:=I.obj;refine aa (ag (aa (aa (Av hx (aa (Ng (s:={s with toks:=s.toks+1}) (Ae X j) ?_))))));rw[l];refine ag (a:=some dx) (aa (ag (aa ?_)));refine wpAny_nsSet1 (s:={s with toks:=s.toks+1}) I.ns λh' c d=>?_;obtain⟨q,u,z,m,n,o⟩:=c.count (Nh name v hw);refine aa (Md m (by rw[n];exact LM (br o (by rw[bz];lia))) ?_);exact ag (h _ ⟨(d.2 _ (aB I.ne)).trans I.obj,c,I.ne⟩ d)
theorem D3{R:Result->Shared->Prop}{vs:List Value}{kw:List (Str×Value)}(X:K.In s.heap)(hm:W.makesIn K C=true)
  (hi:W.findIn K (.ref C) "__init__" = some (some (.ref f))) (hf:W.typeIn K (.ref f)=some (.type "function"))
  (h:codeAny (model prog w) (A.under (.builtin "type.__call__" ⟨.ref C::vs,kw⟩)) (.call (.ref f) ⟨.ref (s.heap.objs.size+1)::vs,kw⟩) (W.InitBack (s.heap.objs.size+1) R)
   {s with heap:=(s.heap.push W.emptyDict).push (W.instObj C s.heap.objs.size)}) :
  codeAny (model prog w) A (.call (.ref C) ⟨vs,kw⟩) R s:=by
 obtain⟨a,g,d,t,os⟩:=s;exact W.make_core (W.makes_of X hm) (Af X hi) (λself=>Lr X self hf) (.inl rfl) h
end
def dN(f:Str)(v:V):List (Str×V)->List (Str×V)
 | []=>[(f,v)]
 |(g,x)::r=>if g=f then (g,v)::r else (g,x)::dN f v r
theorem uz(f g:Str)(v:V):∀fs:List (Str×V),(dN f v fs).lookup g=if g=f then some v else fs.lookup g
 | []=>by
  show List.lookup g [(f,v)]=_;by_cases h:g=f
  .have a:(g==f)=true:=beq_iff_eq.mpr h;simp only[List.lookup,a,ND h]
  have a:(g==f)=false:=beq_eq_false_iff_ne.mpr h;simp only[List.lookup,a,NC h]
 |(k,x)::r=>by
  have c:=uz f g v r;rw[show dN f v ((k,x)::r)=(if k=f then (k,v)::r else (k,x)::dN f v r) from rfl];by_cases b:k=f
  .rw[ND b];by_cases h:g=k
   .have a:(g==k)=true:=beq_iff_eq.mpr h;simp only[List.lookup,a,ND (h.trans b)]
   have a:(g==k)=false:=beq_eq_false_iff_ne.mpr h;simp only[List.lookup,a,NC (λe:g=f=>h (e.trans b.symm))]
  rw[NC b];by_cases h:g=k
  .have a:(g==k)=true:=beq_iff_eq.mpr h;simp only[List.lookup,a,NC (λe:g=f=>b (h.symm.trans e))]
  have a:(g==k)=false:=beq_eq_false_iff_ne.mpr h;simp only[List.lookup,a];exact c
theorem qF(f:Str)(v:V):∀fs:List (Str×V),f∈(dN f v fs).map (·.1)/\∀g,g∈fs.map (·.1)->g∈(dN f v fs).map (·.1)
 | []=>⟨by simp[dN],λg h=>by simp at h⟩
 |(k,x)::r=>by
  obtain⟨b,c⟩:=qF f v r;rw[show dN f v ((k,x)::r)=(if k=f then (k,v)::r else (k,x)::dN f v r) from rfl];by_cases a:k=f
  .rw[ND a];subst a;exact⟨by simp,λg h=>by simpa using h⟩
  rw[NC a];refine⟨?_,λg h=>?_⟩
  .rw[aU];exact bZ _ b
  rw[aU] at h |-;rcases aK.mp h with e|e
  .exact aK.mpr (.inl e)
  exact bZ _ (c g e)
theorem uA(f:Str)(v:V):∀fs:List (Str×V),(dN f v fs).length<=fs.length+1
 | []=>by simp[dN]
 |(k,x)::r=>by
  have b:=uA f v r;rw[show dN f v ((k,x)::r)=(if k=f then (k,v)::r else (k,x)::dN f v r) from rfl];by_cases a:k=f
  .rw[ND a,bz,bz];lia
  rw[NC a,bz,bz];lia
theorem cM.some_of{v:V}{o:Option Value}(r:cM (some v) o):∃u,o=some u/\az v u:=by
 cases o with
 |none=>exact (show False from r).elim
 |some u=>exact⟨u,rfl,r⟩
theorem cM.none_of{o:Option Value}(r:cM none o):o=none:=by
 cases o with
 |none=>rfl
 |some u=>exact (show False from r).elim
theorem vz{v:V}{u:Value}(r:az v u):W.handedIn u=true:=by
 cases v with
 |non=>cases (show u=Value.none from r);rfl
 |bl b=>cases (show u=Value.bool b from r);rfl
 |int i=>obtain⟨t,e⟩:=(show ∃t,u=Value.int i t from r);cases e;rfl
 |str x=>obtain⟨t,e⟩:=(show ∃t,u=Value.str x t from r);cases e;rfl
 |byt b=>obtain⟨t,e⟩:=(show ∃t,u=Value.bytes b t from r);cases e;rfl
 |flt b=>obtain⟨t,e⟩:=(show ∃t,u=Value.float b t from r);cases e;rfl
 |ref a=>cases (show u=Value.ref a from r);rfl
 |ty n=>cases (show u=Value.type n from r);rfl
section
variable {h h':Heap}{a C dx:Addr}{fs fs':List (Str×V)}
theorem oM(hok:HOk P w H h)(e:H a=some (.ins C dx fs)):∃mA,jg h a dx C mA/\(∀f,cM (fs.lookup f) (mA f))/\PySem.Within mA (fs.map (·.1))/\fs.length<=1000/\H dx=some (.own a):=by obtain⟨d,z,ne,b,mA,n,r,q⟩:=(show aV P w H h a (.ins C dx fs) from hok a _ e);exact⟨mA,⟨b,n,ne⟩,r,q,z,d⟩
end
structure Cls(K:W.Frag)(C:Addr):Prop where
 pg:W.plainGet K C Str.empty=true
 hd:W.hasDictIn K C=true
 po:W.plainOver K C=true
 sa:W.findIn K (.ref C) "__setattr__" = some (some (.builtin "object.__setattr__"))
theorem Cls.get{C:Addr}(c:Cls K C)(f:Str):W.plainGet K C f=true:=c.pg
def fV(K:W.Frag)(C:Addr)(f:Str):Prop:=W.findIn K (.ref C) f=some none
theorem fV.taker{C:Addr}{f:Str}(n:fV K C f):W.takerIn K C f=some none:=by unfold W.takerIn;rw[show W.findIn K (.ref C) f=some none from n];rfl
structure Meth(K:W.Frag)(C:Addr)(m:Str)(f:Addr):Prop where
 at_:W.findIn K (.ref C) m=some (some (.ref f))
 fn:W.isFn K (.ref f)=true
 kp:W.keepIn K (.ref f)=true
section
variable {a C dx:Addr}{fs:List (Str×V)}{f:Str}{v:V}
theorem BI{b:Bool}{Q:Value->Shared->Prop}(I:Inv X NI Z H s)(e:H a=some (.ins C dx fs))(c:Cls X.K C)(n:fV X.K C f)(l:fs.lookup f=some v)
  (h:∀u s',Inv X NI Z H s'->az v u->Q u s'):wpAny (model X.prog X.w) A (getAttr (.ref a) f b) Q E s:=by
 obtain⟨mA,O,r,_,_,_⟩:=oM I.hok e;obtain⟨u,g,d⟩:=cM.some_of (v:=v) (o:=mA f) (by rw[<-l];exact r f);exact FG I.kIn O (c.get f) c.hd n g (vz d) (h u _ (I.tok _) d)
theorem BH{m:Str}{g:Addr}{pl:Sem Bool}{Q:Value×List Value->Shared->Prop}(I:Inv X NI Z H s)(e:H a=some (.ins C dx fs))(c:Cls X.K C)(k:Meth X.K C m g)(l:fs.lookup m=none)
  (h:Q (.ref g,[.ref a]) s):wpAny (model X.prog X.w) A (getMethod (.ref a) m pl) Q E s:=by
 obtain⟨mA,O,r,_,_,_⟩:=oM I.hok e;have b:mA m=none:=cM.none_of (by rw[<-l];exact r m);exact Ea I.kIn O (c.get m) k.at_ k.fn b h
theorem Br{y:V}{u:Value}{Q:Unit->Shared->Prop}(I:Inv X NI Z H s)(e:H a=some (.ins C dx fs))(c:Cls X.K C)(n:fV X.K C f)(B:fs.length<1000)(j:az y u)
  (h:∀s',Inv X NI Z (upd H a (.ins C dx (dN f y fs))) s'->Q () s'):wpAny (model X.prog X.w) A (setAttr (.ref a) f u) Q E s:=by
 obtain⟨mA,O,r,wi,_,i⟩:=oM I.hok e;have l:(fs.map (·.1)).length<=sizeLine:=by rw[ao,dg];lia
 refine ES I.kIn O c.sa c.po n.taker c.hd wi l λh' d sb=>h _ ?_;have hd:∃o,h'.get? dx=some o:=let ⟨o,_,_,m,_⟩:=d.ns;⟨o,m⟩;refine I.write (x:=a) (e:=dx) (by rw[e];exact True.intro) (.inr i) (λb q p z=>(sb.2 b p).trans z) hd ?_;refine⟨by rw[ar O.ne];exact i,?_,O.ne,d.obj,_,d.ns,λg=>?_,λg v=>?_⟩
 .have:=uA f y fs;lia
 .show cM ((dN f y fs).lookup g) (if g=f then some u else mA g);rw[uz];by_cases q:g=f
  .rw[ND q,ND q];exact j
  rw[NC q,NC q];exact r g
 by_cases q:g=f
 .rw[q];exact (qF f y fs).1
 refine (qF f y fs).2 g (wi g λz=>v ?_);show (if g=f then some u else mA g)=none;rw[NC q];exact z
theorem Inv.made(I:Inv X NI Z H s):Inv X NI Z (upd (upd H s.heap.objs.size (.own (s.heap.objs.size+1))) (s.heap.objs.size+1) (.ins C s.heap.objs.size []))
  {s with heap:=(s.heap.push W.emptyDict).push (W.instObj C s.heap.objs.size)}:=by
 have c:(s.heap.push W.emptyDict).get? s.heap.objs.size=some W.emptyDict:=bq s.heap rfl;have d:((s.heap.push W.emptyDict).push (W.instObj C s.heap.objs.size)).get? (s.heap.objs.size+1)=some (W.instObj C s.heap.objs.size):=by
  have:=bq (s.heap.push W.emptyDict) (o:=W.instObj C s.heap.objs.size) rfl
  rwa [jk] at this
 have f:(s.heap.push W.emptyDict).Ns s.heap.objs.size (λ_=>none):=⟨W.emptyDict,#[],_,c,rfl,(λe he=>absurd he (by simp)),λ_=>rfl⟩;have g:=I.laid (a:=s.heap.objs.size) (o:=.own (s.heap.objs.size+1)) (h':=s.heap.push W.emptyDict) (t':=s.toks) (λb u q=>aI _ q) (ak _) ⟨_,c⟩;refine g.laid (a:=s.heap.objs.size+1) (o:=.ins C s.heap.objs.size []) (t':=s.toks) (λb u q=>aI _ q) (tV (jk _ _)) ?_;have ne:s.heap.objs.size≠s.heap.objs.size+1:=bc (fP _);refine⟨by rw[ar ne,aP],aJ _,ne,d,λ_=>none,(Ki f).at λo q=>aI _ q,λ_=>True.intro,λy h=>absurd rfl h⟩
theorem xI{prog:Program}{env:Env}{e:Expr}{f:Str}{pos:Pos}{Q:Value->Shared->Prop}(a:attributeBase e f env (eval e env)=eval e env)
  (h:wpAny (model prog w) A (eval e env) (λo s₁=>wpAny (model prog w) A (getAttr o f true) Q E s₁) E s):wpAny (model prog w) A (eval (.Attribute e f pos) env) Q E s:=
 Attribute_any_ h (by rw[arm_eval_Attribute,a])
end
def tFld(K:W.Frag)(ta:TE)(f:Str):TE:=λZ H Q=>ta Z H λx H1=>∃a C dx fs v,x=.ref a/\H1 a=some (.ins C dx fs)/\Cls K C/\fV K C f/\fs.lookup f=some v/\Q v H1
def sFld(K:W.Frag)(ta tv:TE)(f:Str):TS:=λD Z H=>tv Z H λy H1=>ta Z H1 λx H2=>∃a C dx fs,x=.ref a/\H2 a=some (.ins C dx fs)/\Cls K C/\fV K C f/\fs.length<1000/\
 D.nx Z (upd H2 a (.ins C dx (dN f y fs)))
section
variable {o e value:Expr}{f:Str}{pos pos' tpos:Pos}{ta tv:TE}
theorem Hr(he:PE X e ta)(b:attributeBase e f X.env (eval e X.env)=eval e X.env):PE X (.Attribute e f pos) (tFld X.K ta f):=by intro NI s Z H Q I h;refine xI b (thn (he NI s Z H _ I h) λu s1 ⟨x,H1,d,g,a,C,dx,fs,v,ex,i,c,n,l,q⟩=>?_);subst ex;obtain rfl:u=Value.ref a:=g;exact BI d i c n l λo s2 j m=>⟨v,H1,j,m,q⟩
theorem pf(ha:PE X o ta)(b:PE X value tv)(d:swapsWith value (some (.Attribute o f pos')) pos.line X.env=pure false):PS X (.Assign [.Attribute o f pos'] value pos) (sFld X.K ta tv f):=by intro NI s Z H D I h;refine LN (thn (b NI s Z H _ I h) λu s1 ⟨y,H1,e,g,q⟩=>thn (ha NI s1 Z H1 _ e q) λov s2 ⟨x,H2,i,j,a,C,dx,fs,ex,m,c,n,l,p⟩=>?_) d;subst ex;obtain rfl:ov=Value.ref a:=j;exact Br i m c n l g λv r=>⟨Z,_,r,p⟩
end
section
variable {Q:Value->Shared->Prop}{c:Value}{b:Bool}
inductive cD (K:W.Frag) (H:Hp):V->Value->Prop where
 |non:cD K H .non (.type "NoneType")
 |bl (x:Bool):cD K H (.bl x) (.type "bool")
 |int (i:Int):cD K H (.int i) (.type "int")
 |str (x:Str):cD K H (.str x) (.type "str")
 |flt (x:UInt64):cD K H (.flt x) (.type "float")
 |lst {a:Addr} {xs:List V} (e:H a=some (.lst xs)):cD K H (.ref a) (.type "list")
 |frz {a:Addr} {o:Obj} {xs:List V} (e:H a=some (.frz o (.lst xs))):cD K H (.ref a) (.type "list")
 |tup {a:Addr} {xs:List V} (e:H a=some (.tup xs)):cD K H (.ref a) (.type "tuple")
 |dK {a:Addr} {kvs:List (Key×V)} (e:H a=some (.dK kvs)):cD K H (.ref a) (.type "dict")
 |dT {a:Addr} {kvs:List (List Key×V)} (e:H a=some (.dT kvs)):cD K H (.ref a) (.type "dict")
 |ins {a C dx:Addr} {fs:List (Str×V)} (e:H a=some (.ins C dx fs)) (cl:Cls K C) (ha:W.findIn K (.ref C) "__class__" = some (some (.builtin "object.__class__")))
   (hn:W.specialIn K (.builtin "object.__class__") "__get__" = some (some (.builtin "getset_descriptor.__get__"))) (htk:W.takesIn K (.builtin "object.__class__")=some true)
   (hm:W.mroIn K C (.type "object")=some true):cD K H (.ref a) (.ref C)
theorem Cn{x:V}{u t:Value}(I:Inv X NI Z H s)(d:az x u)(ty:cD X.K H x t)(e:W.kitOne X.K t c=some b)(h:∀tk,Q (.bool b) {s with toks:=tk}) :
  wpAny (model X.prog X.w) A (call (.builtin "isinstance") [u,c]) Q E s:=by
 cases ty with
 |non=>cases (show u=Value.none from d);exact fQ W.kitx_none I.kIn True.intro e (λz=>nomatch z) h
 |bl y=>cases (show u=Value.bool y from d);exact fQ W.kitx_bool I.kIn True.intro e (λz=>nomatch z) h
 |int i=>obtain⟨t,q⟩:=(show ∃t,u=Value.int i t from d);cases q;exact fQ W.kitx_int I.kIn True.intro e (λz=>nomatch z) h
 |str y=>obtain⟨t,q⟩:=(show ∃t,u=Value.str y t from d);cases q;exact fQ W.kitx_str I.kIn True.intro e (λz=>nomatch z) h
 |flt y=>obtain⟨t,q⟩:=(show ∃t,u=Value.float y t from d);cases q;exact fQ W.kitx_float I.kIn True.intro e (λz=>nomatch z) h
 | @lst a xs f=>
  cases (show u=Value.ref a from d);obtain⟨_,_,n,_,h1⟩:=(show aV X.prog X.w H s.heap a (.lst xs) from I.hok a _ f);exact fQ Lw I.kIn ⟨_,h1,rfl⟩ e (λz=>nomatch z) h
 | @frz a g xs f=>
  cases (show u=Value.ref a from d);obtain⟨_,_,_,n,_,h1⟩:=(show aV X.prog X.w H s.heap a (.frz g (.lst xs)) from I.hok a _ f);exact fQ Lw I.kIn ⟨_,h1,rfl⟩ e (λz=>nomatch z) h
 | @tup a xs f=>
  cases (show u=Value.ref a from d);obtain⟨_,_,_,p⟩:=(show aV X.prog X.w H s.heap a (.tup xs) from I.hok a _ f);obtain⟨o,h1,h2,_⟩:=p;exact fQ W.kitx_tuple I.kIn ⟨o,h1,h2⟩ e (λz=>nomatch z) h
 | @dK a kvs f=>
  cases (show u=Value.ref a from d);obtain⟨_,_,vs,_,p⟩:=(show aV X.prog X.w H s.heap a (.dK kvs) from I.hok a _ f);obtain⟨o,es,ep,h1,h2,_⟩:=p;exact fQ Lv I.kIn ⟨o,h1,h2.1⟩ e (λz=>nomatch z) h
 | @dT a kvs f=>
  cases (show u=Value.ref a from d);obtain⟨_,_,xs,_,o,es,ep,h1,h2,_⟩:=(show aV X.prog X.w H s.heap a (.dT kvs) from I.hok a _ f);exact fQ Lv I.kIn ⟨o,h1,h2.1⟩ e (λz=>nomatch z) h
 | @ins a C dx fs f cl ha j l hm=>
  cases (show u=Value.ref a from d);obtain⟨mA,O,_⟩:=oM I.hok f;obtain⟨od,J,_⟩:=O.look;exact fQ (W.kitx_own (cl.get _) cl.hd ha j l hm) I.kIn J e (λz=>nomatch z) h
end
end L2
namespace L2
open PySem PySem.Spec PyProof.Rows
structure Room(k:Nat)(A:Around):Prop where
 hd:A.handled=none
 dp:A.depth+3*k+5<recursionLimit
 un:A.units+16*k+200<cLine
 gu:A.guards=some []
theorem Room.mono{j k:Nat}(r:Room k A)(h:j<=k):Room j A:=⟨r.hd,by have:=r.dp;lia,by have:=r.un;lia,r.gu⟩
theorem Room.deeper{k:Nat}(r:Room (k+1) A)(env:Env):Room k (A.deeper env):=
 ⟨r.hd,by have:=r.dp;show A.depth+1+3*k+5<_;lia,by have:=r.un;show A.units+3+16*k+200<_;lia,r.gu⟩
theorem BF{C:Addr}{kw:List (Str×Value)}:(A.under (.builtin "type.__call__" ⟨.ref C::us,kw⟩)).depth=A.depth+1:=by first|rfl|simp[Around.under,Code.weight,Code.isCreation,Code.isGuard,Code.isCaller,Code.frames,Code.isFrame,guardIds]
theorem BE{C:Addr}{kw:List (Str×Value)}:(A.under (.builtin "type.__call__" ⟨.ref C::us,kw⟩)).units=A.units+1:=by first|rfl|simp[Around.under,Code.cUnits,Code.frames,Code.isFrame]
theorem Be{C:Addr}{kw:List (Str×Value)}(h:A.guards=some []):(A.under (.builtin "type.__call__" ⟨.ref C::us,kw⟩)).guards=some []:=by first|exact h|simp[Around.under,Code.isGuard,guardIds,h]
theorem Room.make{k:Nat}(r:Room (k+1) A)(C:Addr)(us:List Value)(kw:List (Str×Value)):Room k (A.under (.builtin "type.__call__" ⟨.ref C::us,kw⟩)):=
 ⟨r.hd,by have:=r.dp;rw[BF];lia,by have:=r.un;rw[BE];lia,Be r.gu⟩
theorem Room.depth{k:Nat}(r:Room k A):A.depth<recursionLimit:=by have:=r.dp;lia
theorem Room.units{k:Nat}(r:Room k A):A.units+64<cLine:=by have:=r.un;lia
def eB:TA:=λ_ H Q=>Q [] H
def Gp(x:V)(Q:List V->Hp->Prop):List V->Hp->Prop:=λxs H2=>Q (x::xs) H2
def Gq(tr:TA)(Z:St)(Q:List V->Hp->Prop):VK:=λx H1=>tr Z H1 (Gp x Q)
def dJ(ta:TE)(tr:TA):TA:=λZ H Q=>ta Z H (Gq tr Z Q)
section
variable {e:Expr}{es:List Expr}{te:TE}{t:TA}{pos:Pos}
theorem du:PA X [] eB:=λ_ _ _ _ H Q I h=>zt ⟨[],H,I,.nil,h⟩
theorem ae(ha:PE X e te)(a:PA X es t)(b:starEach (e::es) X.env=(false,eval e X.env)::starEach es X.env:=by rfl):PA X (e::es) (dJ te t):=by intro pos NI s Z H Q I h;rw[b];show wpAny _ _ (spliced ((false,eval e X.env)::backTo pos (starEach es X.env))) _ _ s;refine zq (thn (ha NI s Z H _ I h) λu s1 ⟨x,H1,c,d,f⟩=>?_);exact thn (a pos NI s1 Z H1 _ c f) λus s2 ⟨xs,H2,g,i,j⟩=>⟨x::xs,H2,g,.cons d i,j⟩
theorem pa1{e:Expr}{te:TE}(ha:PE X e te)(a:starEach [e] X.env=(false,eval e X.env)::starEach [] X.env:=by rfl):PA X [e] (dJ te eB):=ae ha du a
def IG(Q:VK):List V->Hp->Prop:=λxs H1=>xs.length<=sizeLine/\fE H1 (.tup xs) Q
def sM(t:TA):TE:=λZ H Q=>t Z H (IG Q)
def IQ(Q:VK):List V->Hp->Prop:=λxs H1=>xs.length<=sizeLine/\fE H1 (.lst xs) Q
def sN(t:TA):TE:=λZ H Q=>t Z H (IQ Q)
theorem aO{c}(h:PA X es t):PE X (.Tuple es c pos) (sM t):=by intro NI s Z H Q I d;refine wpAny_Tuple_spliced (thn (h pos NI s Z H _ I d) λus s1 ⟨xs,H1,a,r,z,q⟩=>⟨by rw[<-r.length];exact z,?_⟩);have hf:H1 s1.heap.objs.size=none:=a.hok.fresh (ak _);refine⟨.ref s1.heap.objs.size,upd H1 s1.heap.objs.size (.tup xs),a.laid (t':=s1.toks) (λb u e=>aI _ e) (ak _) ?_,rfl,q.at hf⟩;exact⟨⟨z,_,bq _ rfl,rfl⟩,us,r,⟨_,bq _ rfl,rfl,_,rfl⟩⟩
theorem bF(h:PA X es t):PE X (.List es pos) (sN t):=by intro NI s Z H Q I c;refine wpAny_List_spliced (thn (h pos NI s Z H _ I c) λus s1 ⟨xs,H1,a,r,z,q⟩=>⟨by rw[<-r.length];exact z,?_⟩);have hf:H1 s1.heap.objs.size=none:=a.hok.fresh (ak _);refine⟨.ref s1.heap.objs.size,upd H1 s1.heap.objs.size (.lst xs),a.laid (t':=s1.toks) (λb u e=>aI _ e) (ak _) ?_,rfl,q.at hf⟩;exact⟨z,us,0,r,bq _ rfl⟩
end
abbrev Sp:=List V->Hp->VK->XK->Prop
abbrev CXT:=List Env->Hp->Shared->XK->Value->Shared->Prop
structure iC(P:Program)(w:World)(K:W.Frag)(mg:Str->Option Value)(base:Heap)(A:Around)(outer:List Env)(s:Shared)(H:Hp):Prop where
 frames:A.frames=some outer
 mod:Mod K mg base
 bs:∀b o,base.get? b=some o->s.heap.get? b=some o/\H b=none
 bsz:base.objs.size<=s.heap.objs.size
 funs:s.heap.FunFrames base outer
 frf:∀b∈frs outer,H b=none
 hok:HOk P w H s.heap
 bare:AllBare s.gens
def CE(outer:List Env)(P:Program)(w:World)(H:Hp)(s:Shared)(Q:VK)(u:Value)(s':Shared):Prop:=
 ∃v H',s'.os=s.os/\AllBare s'.gens/\Un (frs outer) [] H H' s.heap s'.heap/\HOk P w H' s'.heap/\az v u/\Q v H'
def CR(CX:CXT)(outer:List Env)(P:Program)(w:World)(H:Hp)(s:Shared)(Q:VK)(E:XK)(r:Result)(s':Shared):Prop:=
 match r with
 |.ok (.ret u)=>CE outer P w H s Q u s'
 |.ok _=>False
 |.error e=>CX outer H s E e s'
structure aj(P:Program)(w:World)(K:W.Frag)(mg:Str->Option Value)(base:Heap)(CX:CXT)(k:Nat)(f:Addr)(fd:FuncData)(ps:List Str)(sp:Sp):Prop where
 len:∀vs H Q E,sp vs H Q E->vs.length=ps.length
 run:∀(A:Around)(outer:List Env)(s:Shared)(H:Hp)(args:Args)(us:List Value)(vs:List V)(Q:VK)(E:XK),Room k A->iC P w K mg base A outer s H->BindsTo s fd args (ps.zip us)->Vals vs us->sp vs H Q E->
  codeAny (model P w) A (.call (.ref f) args) (CR CX outer P w H s Q E) s
theorem aj.mono{CX:CXT}{j k:Nat}{f:Addr}{ps:List Str}{sp:Sp}(F:aj P w K mg base CX j f fd ps sp)(h:j<=k) :
  aj P w K mg base CX k f fd ps sp:=⟨F.len,λA outer s H args us vs Q E a=>F.run A outer s H args us vs Q E (a.mono h)⟩
theorem iC.make{outer:List Env}(e:iC P w K mg base A outer s H)(C:Addr)(us:List Value)(kw:List (Str×Value)) :
  iC P w K mg base (A.under (.builtin "type.__call__" ⟨.ref C::us,kw⟩)) outer s H:=⟨by first|exact e.frames|(simpa [Around.under,Code.envs,Code.isFrame,pushEnvs] using e.frames),e.mod,e.bs,e.bsz,e.funs,e.frf,e.hok,e.bare⟩
section
variable {s s':Shared}
theorem Inv.env0(I:Inv X NI Z H s):iC X.prog X.w X.K X.mg X.base X.A X.stack s H:=
 ⟨I.ok.frames,I.ok.mod,I.bs,br I.ok.bsz I.sz,I.stack,I.stkFree,I.hok,I.bare⟩
theorem Inv.after{Q:VK}{u:Value}(I:Inv X NI Z H s)(h:CE X.stack X.prog X.w H s Q u s'):EP X NI Z Q u s':=by obtain⟨v,H',os,bare,un,hok,r,q⟩:=h;obtain⟨a,g,d,t,c⟩:=s';obtain rfl:c=s.os:=os;exact⟨v,H',I.call (h':=a) (g':=g) (d':=d) (t':=t) (ch:=[]) un hok bare (λb z=>absurd z (by simp)),r,q⟩
end
def Gr(sp:Sp)(dvs:List V)(E:XK)(Q:VK):List V->Hp->Prop:=λvs H1=>sp (vs++dvs) H1 Q E
def yV(sp:Sp)(dvs:List V)(E:XK)(t:TA):TE:=λZ H Q=>t Z H (Gr sp dvs E Q)
def IM(C:Addr)(m:Str)(sp:Sp)(dvs:List V)(E:XK)(ta:TE)(t:TA):TE:=λZ H Q=>ta Z H λx H1=>∃a dx fs,x=.ref a/\H1 a=some (.ins C dx fs)/\fs.lookup m=none/\
 t Z H1 λvs H2=>sp (x::(vs++dvs)) H2 Q E
def IP(C:Addr)(sp:Sp)(dvs:List V)(E:XK)(t:TA):TE:=λZ H Q=>t Z H λvs H1=>∀x dx,H1 x=none->H1 dx=none->dx≠x->
 sp (.ref x::(vs++dvs)) (upd (upd H1 dx (.own x)) x (.ins C dx [])) (λv H2=>v=.non/\Q (.ref x) H2) E
def Binds(K:W.Frag)(fd:FuncData)(ps:List Str)(ds:List Value):Prop:=
 ∀(s:Shared)(us:List Value),K.In s.heap->(us++ds).length=ps.length->BindsTo s fd ⟨us,[]⟩ (ps.zip (us++ds))
theorem Binds.all{ps:List Str}(h:∀us:List Value,us.length=ps.length->bindArgs fd ⟨us,[]⟩=pure (ps.zip us)):Binds K fd ps []:=λs us _ a=>by
 rw[fM] at a |-;exact .of_eq (h us a)
def Passes(CX:CXT)(X:Cx)(E:XK):Prop:=∀(NI:List (Addr×Obj))(Z:St)(H:Hp)(s:Shared)(e:Value)(s':Shared),Inv X NI Z H s->CX X.stack H s E e s'->X.xe e s'
section
variable {CX:CXT}{k:Nat}{f C:Addr}{ps:List Str}{sp:Sp}{dvs:List V}{ds:List Value}{E:XK}{x m:Str}{p pos apos:Pos}{e o:Expr}{es:List Expr}{ta:TE}{t:TA}
theorem yg{Q:VK}(F:aj X.prog X.w X.K X.mg X.base CX k f fd ps sp)(c:Room k X.A)(d:Binds X.K fd ps ds)(hd:Vals dvs ds)(hx:Passes CX X E)
  (I:Inv X NI Z H s) (r:Vals vs us) (h:sp (vs++dvs) H Q E):wpAny (model X.prog X.w) X.A (call (.ref f) us) (EP X NI Z Q) X.xe s:=by
 have b:Vals (vs++dvs) (us++ds):=r.append hd;have g:(us++ds).length=ps.length:=by rw[<-b.length];exact F.len _ _ _ _ h
 refine jz (qf (F.run X.A X.stack s H ⟨us,[]⟩ (us++ds) (vs++dvs) Q E c I.env0 (d s us I.kIn g) b h) λr s' a=>?_);cases r with
 |error e=>exact hx NI Z H s e s' I a
 |ok fl=>
  cases fl with
  |ret u=>exact I.after a
  |next=>exact False.elim a
  |brk=>exact False.elim a
  |cont=>exact False.elim a
theorem iX(F:aj X.prog X.w X.K X.mg X.base CX k f fd ps sp)(b:Room k X.A)(c:Gl X x)(hm:X.mg x=some (.ref f))(d:W.keepIn X.K (.ref f)=true)(g:Binds X.K fd ps ds)(hd:Vals dvs ds)(hx:Passes CX X E)
  (ha:PA X (e::es) t) (i:(x==("__debug__" : Str))=false:=by decide) (he:starEach (e::es) X.env=(false,eval e X.env)::starEach es X.env:=by rfl) (j:(backTo pos (starEach es X.env)).any (·.1)=false:=by rfl) :
  PE X (.Call (.Name x p) (e::es) [] pos) (yV sp dvs E t):=by
 intro NI s Z H Q I h;refine qh (iZ I c hm ?_ i);refine Ls (h₀:=X.base) I.ok.mod.kin d (thn (ha pos NI s Z H _ I h) λus s1 ⟨vs,H1,a,r,q⟩=>⟨a.kIn,?_⟩) he j;exact yg F b g hd hx a r q
theorem Dz{pl:Sem Bool}(he:PE X o ta)(c:Cls X.K C)(hm:Meth X.K C m f)(F:aj X.prog X.w X.K X.mg X.base CX k f fd ps sp)(hr:Room k X.A)(hb:Binds X.K fd ps ds)(hd:Vals dvs ds)(hx:Passes CX X E)
  (ht:eval (.Call (.Attribute o m apos) [] [] pos) X.env=(do
   let ov <-eval o X.env
   standAt apos.atName
   let (f,first) <-holding [ov] (getMethod ov m pl)
   callWith pos f first (backTo pos (starEach [] X.env)) (backToKw pos (keywordEach [] X.env))):=by rfl) :
  PE X (.Call (.Attribute o m apos) [] [] pos) (IM C m sp dvs E ta eB):=by
 intro NI s Z H Q I h;refine W.methodCall_KW (pl:=pl) (thn (he NI s Z H _ I h) λu s1 ⟨x,H1,I1,rx,a,dx,fs,ex,ea,l,q⟩=>?_) ht;subst ex;obtain rfl:u=Value.ref a:=rx;refine BH I1 ea c hm l ?_;exact W.callWith_K0 (first:=[.ref a]) I1.kIn hm.kp (yg (us:=[.ref a]) (vs:=[.ref a]) F hr hb hd hx I1 (.cons rfl .nil) q)
structure Mk(K:W.Frag)(C f:Addr):Prop where
 makes:W.makesIn K C=true
 init:W.findIn K (.ref C) "__init__" = some (some (.ref f))
 fn:W.isFn K (.ref f)=true
 kp:W.keepIn K (.ref C)=true
theorem Dk{Q:VK}(M:Mk X.K C f)(F:aj X.prog X.w X.K X.mg X.base CX k f fd ps sp)(g:Room (k+1) X.A)(i:Binds X.K fd ps ds)(hd:Vals dvs ds)
  (hx:Passes CX X E) (I:Inv X NI Z H s) (r:Vals vs us)
  (h:∀x dx,H x=none->H dx=none->dx≠x->sp (.ref x::(vs++dvs)) (upd (upd H dx (.own x)) x (.ins C dx [])) (λv H2=>v=.non/\Q (.ref x) H2) E) :
  wpAny (model X.prog X.w) X.A (call (.ref C) us) (EP X NI Z Q) X.xe s:=by
 have c:=h (s.heap.objs.size+1) s.heap.objs.size (I.hok.fresh (ko _)) (I.hok.fresh (ak _)) (bc (fP _));have b:=Inv.made (C:=C) I;have d:Vals (V.ref (s.heap.objs.size+1)::(vs++dvs)) (Value.ref (s.heap.objs.size+1)::(us++ds)):=.cons rfl (r.append hd);have j:(Value.ref (s.heap.objs.size+1)::us++ds).length=ps.length:=by have e:=d.length;rw[F.len _ _ _ _ c] at e;exact e.symm
 refine jz (D3 (f:=f) I.kIn M.makes M.init (beq_iff_eq.mp M.fn) (qf (F.run _ X.stack _ _ ⟨Value.ref (s.heap.objs.size+1)::us,[]⟩ (Value.ref (s.heap.objs.size+1)::(us++ds)) _ _ E (g.make C us [])
  (b.env0.make C us []) (i _ (Value.ref (s.heap.objs.size+1)::us) b.kIn j) d c) λr s' a=>?_))
 cases r with
 |error e=>exact hx NI Z _ _ e s' b a
 |ok fl=>
  cases fl with
  |ret u=>
   obtain⟨v,H',l,m,ev,n⟩:=b.after a;subst ev;exact⟨m,⟨V.ref (s.heap.objs.size+1),H',l,rfl,n⟩⟩
  |next=>exact False.elim a
  |brk=>exact False.elim a
  |cont=>exact False.elim a
theorem xn(M:Mk X.K C f)(F:aj X.prog X.w X.K X.mg X.base CX k f fd ps sp)(b:Room (k+1) X.A)(c:Gl X x)(hm:X.mg x=some (.ref C))(d:Binds X.K fd ps ds)(hd:Vals dvs ds)(hx:Passes CX X E)
  (ha:PA X (e::es) t) (g:(x==("__debug__" : Str))=false:=by decide) (he:starEach (e::es) X.env=(false,eval e X.env)::starEach es X.env:=by rfl) (i:(backTo pos (starEach es X.env)).any (·.1)=false:=by rfl) :
  PE X (.Call (.Name x p) (e::es) [] pos) (IP C sp dvs E t):=by
 intro NI s Z H Q I h;refine qh (iZ I c hm ?_ g);refine Ls (h₀:=X.base) I.ok.mod.kin M.kp (thn (ha pos NI s Z H _ I h) λus s1 ⟨vs,H1,a,r,q⟩=>⟨a.kIn,?_⟩) he i;exact Dk M F b d hd hx a r q
end
section
variable {CX:CXT}{k:Nat}{f C:Addr}{ps ks:List Str}{sp:Sp}{E:XK}{x m:Str}{p pos apos kpos:Pos}{e o:Expr}{es:List Expr}{kws:List Keyword}{te ta:TE}{t tk:TA}{nm:Option Str}
variable {g:List Value->List Value->List Value}{gV:List V->List V->List V}
end
structure a7(N P:List Str)(sc:Scope):Prop where
 kind:sc.kind=.function
 co:sc.isCoroutine=false
 gen:sc.isGenerator=false
 nd:N.Nodup
 pre:N.take P.length=P
 par:∀x∈P,sc.names.lookup x=some .local\/sc.names.lookup x=some .cell
 nofree:∀y∈sc.names,y.2≠.free
theorem vD{kindOf:Str->Option NameKind}{x:Str}:∀{binds:List (Str×Value)}{m:Str->Option Value},(∀v,(x,v)∉binds)->bindL kindOf binds m x=m x
 | [],_,_=>rfl
 |(n,v)::r,m,h=>by
  unfold bindL;rw[vD λw hw=>h w (bZ _ hw)]
  split
  .have:x≠n:=by rintro rfl;exact h v iH
   simp[this]
  rfl
theorem vF{kindOf:Str->Option NameKind}{x:Str}:∀{binds:List (Str×Value)}{m:Str->Option Value},(∀v,(x,v)∉binds)->bindC kindOf binds m x=m x
 | [],_,_=>rfl
 |(n,v)::r,m,h=>by
  unfold bindC;rw[vF λw hw=>h w (bZ _ hw)]
  split
  .rfl
  have:x≠n:=by rintro rfl;exact h v iH
  simp[this]
theorem vE{kindOf:Str->Option NameKind}{x:Str}{v:Value}:∀{P:List Str}{vs:List Value}{i:Nat}{m:Str->Option Value},P.Nodup->P[i]?=some x->vs[i]?=some v->kindOf x=some .local->
  bindL kindOf (P.zip vs) m x=some v
 | [],_,_,_,_,h,_,_=>by simp at h
 |_::_,[],_,_,_,_,h,_=>by simp at h
 |p::P,w::vs,0,m,nd,h1,h2,a=>by
  simp at h1 h2;subst h1;subst h2;show bindL kindOf ((p,w)::P.zip vs) m p=_;unfold bindL;rw[vD λv b=>(dY.mp nd).1 (zM b).1,ND a];simp
 |p::P,w::vs,i+1,m,nd,h1,h2,a=>by
  show bindL kindOf ((p,w)::P.zip vs) m x=_;unfold bindL;exact vE (i:=i) (dY.mp nd).2 (by simpa using h1) (by simpa using h2) a
theorem vG{kindOf:Str->Option NameKind}{x:Str}{v:Value}:∀{P:List Str}{vs:List Value}{i:Nat}{m:Str->Option Value},P.Nodup->P[i]?=some x->vs[i]?=some v->kindOf x≠some .local->
  bindC kindOf (P.zip vs) m x=some v
 | [],_,_,_,_,h,_,_=>by simp at h
 |_::_,[],_,_,_,_,h,_=>by simp at h
 |p::P,w::vs,0,m,nd,h1,h2,a=>by
  simp at h1 h2;subst h1;subst h2;show bindC kindOf ((p,w)::P.zip vs) m p=_;unfold bindC;rw[vF λv b=>(dY.mp nd).1 (zM b).1,NC a];simp
 |p::P,w::vs,i+1,m,nd,h1,h2,a=>by
  show bindC kindOf ((p,w)::P.zip vs) m x=_;unfold bindC;exact vG (i:=i) (dY.mp nd).2 (by simpa using h1) (by simpa using h2) a
def start(N:List Str)(vs:List V):St:=vs.map some++List.replicate (N.length-vs.length) none
def dw(CX:CXT)(P:Program)(w:World)(K:W.Frag)(mg:Str->Option Value)(base:Heap)(N:List Str)(qual:Str)(scope:Scope)(f:Addr)(cd:Value)(A:Around)(outer:List Env)(s:Shared)(H:Hp)(E:XK):Cx where
 prog:=P
 w:=w
 K:=K
 mg:=mg
 base:=base
 A:=A.deeper (envOfC qual scope s.heap.objs.size f cd)
 N:=N
 s₀:=s
 H₀:=H
 env:=envOfC qual scope s.heap.objs.size f cd
 outer:=outer
 stack:=envOfC qual scope s.heap.objs.size f cd::outer
 ex:=[]
 calm:=true
 fn:=λ_=>true
 pn:=[]
 xe:=λe s'=>wpAny (model P w) (A.deeper (envOfC qual scope s.heap.objs.size f cd)) (leaving (envOfC qual scope s.heap.objs.size f cd) e) (λ_ a=>CX outer H s E e a) (λb a=>CX outer H s E b a) s'
theorem wt{sc:Scope}{n:Nat}{x:Str}(h:sc.names.lookup x=some .cell):∃c,(cellsFrom n sc.names []).lookup x=some c:=by have q:=Lu sc.names n [] (.inl h);exact nB.mp q
theorem Cq{CX:CXT}{N ps:List Str}{qual:Str}{f:Addr}{cd:Value}{outer:List Env}{s s1:Shared}{E:XK}
  (S:a7 N ps scope) (hd:A.handled=none) (d:iC P w K mg base A outer s H) (D:vs.length=ps.length) (r:Vals vs us)
  (x:InCallC s s.heap.objs.size (bindL (envOfC qual scope s.heap.objs.size f cd).kindOf (ps.zip us) λ_=>none) (cellsFrom (s.heap.objs.size+1) scope.names []) (bindC (envOfC qual scope s.heap.objs.size f cd).kindOf (ps.zip us) λ_=>none) s1) :
  Inv (dw CX P w K mg base N qual scope f cd A outer s H E) [] (start N vs) H s1:=by
 have I:ps.length<=N.length:=by have:=congrArg List.length S.pre;rw[bf] at this;lia
 obtain⟨h1,tk,rfl,m⟩:=x.done;have l:∀b:Addr,b∉(dw CX P w K mg base N qual scope f cd A outer s H E).ex:=λb z=>absurd (show b∈([]:List Addr) from z) (by simp);refine⟨⟨d.mod,S.kind,rfl,rfl,ak _,λy z c h1 h2=>?_,λy g=>?_,λy c _ h=>?_,λ_=>hd,Around.frames_deeper d.frames,.inr ⟨rfl,rfl⟩,λb z=>absurd z (l b),d.bs,d.bsz,λb _ _=>l b,λb z=>absurd z (l b),d.funs,d.frf⟩,
  rfl,d.bare,Un.kept m,⟨_,x.toInCall.ns,λi y v h1 h2 L=>?_⟩,λy c h=>⟨_,x.cell y c h⟩,d.hok.fresh (ak _),λy c h=>?_,λp j=>absurd (show p∈([]:List (Addr×Obj)) from j) (by simp),d.hok.kept m,?_⟩
 .exact name_of_addr x.apart (nJ h1) (nJ h2)
 .have g:scope.names.lookup y=some .cell\/scope.names.lookup y=some .free:=g;rcases g with g|g
  .exact wt g
  exact absurd rfl (S.nofree _ (nJ g))
 .exact km (x.above y c (nJ h))
 .have hi:i<vs.length:=by
   unfold start at h2;by_cases hi:i<vs.length
   .exact hi
   rw[kj (by simpa using hi)] at h2;rw[zE] at h2
   split at h2<;>cases h2
  have ha:vs[i]?=some v:=by
   unfold start at h2;rw[gH (by simpa using hi),aY] at h2;cases e:vs[i]? with
   |none=>rw[e] at h2;cases h2
   |some a=>rw[e] at h2;cases h2;rfl
  obtain⟨u,o,C⟩:=r.get ha;have j:ps[i]?=some y:=by rw[<-S.pre,zF (by lia)];exact h1
  have B:ps.Nodup:=by rw[<-S.pre];exact S.nd.sublist (List.take_sublist _ _)
  refine⟨u,C,?_⟩;rcases S.par y (a8 j) with k|k
  .exact .inl ⟨k,vE B j o k⟩
  obtain⟨c,e⟩:=wt (n:=s.heap.objs.size+1) k;refine .inr ⟨.inl k,c,e,?_⟩;have q:=x.cell y c e;rw[vG B j o (by show scope.names.lookup y≠_;rw[k];decide)] at q;exact q
 .exact d.hok.fresh (km (x.above y c (nJ h)))
 unfold start;show _=N.length;rw[aL,ao,KC];lia
theorem zj{CX:CXT}{k:Nat}{f:Addr}{name qual:Str}{params:Arguments}{body:List Stmt}{i kV doc pm a ct m:Value}{an od:Option Addr}
  {p:Array (Option Value)} {N ps:List Str} {sp:Sp} (lk:K.lookup f=some ⟨m,od,.func (W.fnOf name qual params body scope i kV doc pm an a ct),p⟩) (z:W.codeIn K a qual=true) (S:a7 N ps scope)
  (len:∀vs H Q E,sp vs H Q E->vs.length=ps.length)
  (B:∀(A:Around)(outer:List Env)(s:Shared)(H:Hp)(vs:List V)(Q:VK)(E:XK),Room k (A.deeper (envOfC qual scope s.heap.objs.size f a))->sp vs H Q E->
   ∃t,PSs (dw CX P w K mg base N qual scope f a A outer s H E) body t/\t {nx:=λ_ H'=>Q .non H',rt:=Q} (start N vs) H) :
  aj P w K mg base CX (k+1) f (W.fnOf name qual params body scope i kV doc pm an a ct) ps sp:=by
 refine⟨len,λA outer s H args us vs Q E g d C r j=>?_⟩;have D:=len _ _ _ _ j;have l:K.In s.heap:=d.mod.kin.keeps λb o e=>(d.bs b o e).1;have lim:s.heap.NoLimit:=d.mod.nolimit.keeps λb o e=>(d.bs b o e).1;have L:∀y∈ps.zip us,scope.names.lookup y.1=some .local\/(scope.names.lookup y.1=some .cell/\((cellsFrom (s.heap.objs.size+1) scope.names []).lookup y.1).isSome=true):=λ⟨n,v⟩ M=>by
  rcases S.par n (zM M).1 with q|q
  .exact .inl q
  exact .inr ⟨q,Lu _ _ _ (.inl q)⟩
 refine codeAny_call_function g.depth (l _ _ lk) rfl S.co S.gen rfl (W.codeRec_of l z) (C _ _ _ _ ?_);refine wpAny_newFunctionEnv_cells S.kind L λenv he s1 x=>?_;subst he;refine⟨lim.keeps x.toInCall.keep,codeAny_func ?_⟩;obtain⟨t,O,R⟩:=B A outer s H vs Q E (g.deeper _) j;have I:Inv (dw CX P w K mg base N qual scope f a A outer s H E) [] (start N vs) H s1:=Cq S g.hd d D r x;refine cC (O [] s1 (start N vs) H _ I R) (λfl s' c=>?_) λe s' c=>c;have fin:∀{Z':St}{H':Hp}{v:V}{u:Value},Inv (dw CX P w K mg base N qual scope f a A outer s H E) [] Z' H' s'->az v u->Q v H'->CE outer P w H s Q u s':=
  λ{Z' H' v u} J h q=>⟨v,H',J.os,J.bare,J.base,J.hok,h,q⟩
 cases fl with
 |ret u=>
  obtain⟨v,Z',H',J,h,q⟩:=c;exact fin J h q
 |next=>
  obtain⟨Z',H',J,q⟩:=c;exact fin (v:=V.non) (u:=Value.none) J rfl q
 |brk=>
  obtain⟨_,_,_,q⟩:=c;exact False.elim q
 |cont=>
  obtain⟨_,_,_,q⟩:=c;exact False.elim q
end L2
namespace L2
open PySem PySem.Spec PyProof.Rows
section
variable {x:Str}{p pos:Pos}{e:Expr}{es:List Expr}{t:TA}{id T:String}{r:List V->Hp->VK->Prop}
def tCBK(r:List V->Hp->VK->Prop)(Q:VK):List V->Hp->Prop:=λvs H1=>r vs H1 Q
def tCB(r:List V->Hp->VK->Prop)(t:TA):TE:=λZ H Q=>t Z H (tCBK r Q)
theorem bH(a:cu X (.builtin id) r)(b:Gl X x)(hm:X.mg x=none)(c:bootBuiltins x=some (.builtin id))(ha:PA X (e::es) t)(d:x≠"__name__":=by decide)(f:(x==("__debug__" : Str))=false:=by decide)
  (he:starEach (e::es) X.env=(false,eval e X.env)::starEach es X.env:=by rfl) (g:(backTo pos (starEach es X.env)).any (·.1)=false:=by rfl):PE X (.Call (.Name x p) (e::es) [] pos) (tCB r t):=by
 intro NI s Z H Q I h;refine qh (mv I b hm c ?_ d f);exact Mz (thn (ha pos NI s Z H _ I h) λus s1 ⟨vs,H1,i,j,l⟩=>a NI s1 Z H1 vs us Q i j l) he g
theorem cP(a:cu X (.type T) r)(b:Gl X x)(hm:X.mg x=none)(c:bootBuiltins x=some (.type T))(ha:PA X (e::es) t)(d:x≠"__name__":=by decide)(f:(x==("__debug__" : Str))=false:=by decide)
  (he:starEach (e::es) X.env=(false,eval e X.env)::starEach es X.env:=by rfl) (g:(backTo pos (starEach es X.env)).any (·.1)=false:=by rfl):PE X (.Call (.Name x p) (e::es) [] pos) (tCB r t):=by
 intro NI s Z H Q I h;refine qh (mv I b hm c ?_ d f);exact z9 (thn (ha pos NI s Z H _ I h) λus s1 ⟨vs,H1,i,j,l⟩=>a NI s1 Z H1 vs us Q i j l) he g
end
end L2
namespace HT
open PySem PyProof.Rows
def lexLt:List Int->List Int->Bool
 | [],[]=>false
 | [],_::_=>true
 |_::_,[]=>false
 |x::xs,y::ys=>if x=y then lexLt xs ys else decide (x<y)
theorem lexLt_cons(x y:Int)(xs ys:List Int):lexLt (x::xs) (y::ys)=if x=y then lexLt xs ys else decide (x<y):=rfl
theorem AQ:lexLt [] []=false:=rfl
theorem AG(y:Int)(ys:List Int):lexLt [] (y::ys)=true:=rfl
theorem AH(x:Int)(xs:List Int):lexLt (x::xs) []=false:=rfl
theorem Eg(A:Around)(s:Shared)(a:Int)(t:Tok)(c:Int)(u:Tok):∃e,SeqAt.EqAt A s (.int a t) (.int c u) e/\(e=true↔a=c):=
 ⟨(a==c),Lz a t c u,by simp⟩
theorem Dm(A:Around)(s:Shared)(a:Int)(t:Tok)(c:Int)(u:Tok)(prog:Program)(w:World)(E:Value->Shared->Prop)(Q:Value->Shared->Prop)(h:Q (.bool (decide (a<c))) s) :
  wpAny (model prog w) A (richCompare .Lt (.int a t) (.int c u)) Q E s:=
 (MC h:wpAny (model prog w) A (compareOp .Lt (.int a t) (.int c u)) Q E s)
section
open PySem.SeqAt
open PySem.AutoSeq1 (wpAny_loadPart')
open PySem.MeetsSeq PySem.MeetsSeq2 PySem.MeetsSeq3
theorem AL(l b:Addr)(items j:Array Value)(n E:Nat)(dd H:Option Addr)(sl I:Array (Option Value))(ns ms:List Int)(hi:IntsAre items.toList ns)(B:IntsAre j.toList ms) :
  Meets (Builtin.«tuple.__lt__» ⟨[.ref l,.ref b],[]⟩)
   (λ_ R s=>s.heap.get? l=some {cls:=.type "tuple",dict:=dd,data:=.seq items n,slots:=sl}/\s.heap.get? b=some {cls:=.type "tuple",dict:=H,data:=.seq j E,slots:=I}/\
    R (.ok (.ret (.bool (lexLt ns ms)))) s):=
 .of_wp λprog w A R s h=>by
  obtain⟨p,g,d,tk,os⟩:=s;obtain⟨K,L,h⟩:=h;have T:=AutoSeq1.sub_tuple_tuple;have U:items.size=ns.length:=by rw[<-hi.length];simp
  have X:j.size=ms.length:=by rw[<-B.length];simp
  wp_walk using Aw K,Aw L,L_ _ (λrest b s'=>b.1=none/\s'=⟨p,g,d,tk,os⟩/\∃(vs ws:List Value)(m o:List Int),rest=vs.zip ws/\
   IntsAre vs m/\IntsAre ws o/\m.length+j.size=o.length+items.size/\R (.ok (.ret (.bool (lexLt m o)))) ⟨p,g,d,tk,os⟩) _
  case turn=>
   rintro⟨y,x⟩ rest b s' ⟨v,rfl,vs,ws,m,o,f,z,r,hlen,i⟩;cases z with
   |nil=>rw[List.zip_nil_left] at f;cases f
   |cons a t M=>
    cases r with
    |nil=>rw[List.zip_nil_right] at f;cases f
    |cons c u N=>
     rw[KH] at f;injection f with O P;injection O with Q hx;subst Q hx;rw[lexLt_cons] at i;simp only[bz] at hlen;obtain⟨e,he,C⟩:=Eg A.in1 ⟨p,g,d,tk,os⟩ a t c u;refine aa (he prog w _ _ ?_);cases e with
     |true=>
      rw[ND (C.mp rfl)] at i
      wp_walk
      exact⟨rfl,rfl,_,_,_,_,P,M,N,by lia,i⟩
     |false=>
      rw[NC (λq=>absurd (C.mpr q) bu)] at i;have S:=Dm A.in1 ⟨p,g,d,tk,os⟩ a t c u prog w
      wp_walk using S
      exact⟨_,rfl,by simpa using i⟩
  case fin=>
   rintro⟨Y,Z⟩ s' ⟨v,rfl,vs,ws,m,o,f,z,r,hlen,i⟩;simp only at v;subst v;have D:lexLt m o=decide (items.size<j.size):=by
    cases z with
    |nil=>
     cases r with
     |nil=>
      simp only[gI] at hlen;rw[AQ];exact (NG (by lia)).symm
     |cons c u hw=>
      simp only[gI,bz] at hlen;rw[AG];exact (NF (by lia)).symm
    |cons a t D=>
     cases r with
     |nil=>
      simp only[gI,bz] at hlen;rw[AH];exact (NG (by lia)).symm
     |cons c u hw=>
      rw[KH] at f;cases f
   rw[D] at i
   wp_walk
   exact⟨_,rfl,by simpa [Builtin.Tuple.tupleCompareSizes] using i⟩
  case h=>
   exact⟨rfl,rfl,items.toList,j.toList,ns,ms,rfl,hi,B,by lia,h⟩
end
section
variable {prog:Program}
theorem lt_tupInts{l b:Addr}{items a:Array Value}{ns ms:List Int}{Q:Value->Shared->Prop}(i:IsTup s.heap l items)(j:IsTup s.heap b a)(hi:IntsAre items.toList ns)(m:IntsAre a.toList ms)
  (o:A.units<cLine) (h:Q (.bool (lexLt ns ms)) s):wpAny (model prog w) A (compareOp .Lt (.ref l) (.ref b)) Q E s:=by
 obtain⟨⟨cls,dd,data,sl⟩,c,d,n,hd⟩:=id i;obtain⟨⟨u,p,data2,q⟩,e,f,r,g⟩:=id j;simp only at d hd f g;subst d hd f g;exact richCompare_meets_room (op:=.Lt) ⟨_,c,rfl⟩ ⟨_,e,rfl⟩ PySem.F.slot_tuple_lt PySem.F.entry_tuple_lt (PySem.F.args_tuple_lt_2 _ _) (AL l b items a n r dd p sl q ns ms hi m)
  ⟨c,e,show Value.bool (lexLt ns ms)≠Value.notImplemented/\Q (.bool (lexLt ns ms)) s from ⟨(λx=>nomatch x),h⟩⟩ o
theorem cat_tup{t b:Addr}{vs ws:List Value}{Q:Value->Shared->Prop}(m:IsTup s.heap t vs.toArray)(o:IsTup s.heap b ws.toArray)(d:vs≠[])
  (h1:ws=[]->Q (.ref t) s) (h2:ws≠[]->Q (.ref s.heap.objs.size) {s with heap:=s.heap.push {cls:=.type "tuple",data:=.seq (vs++ws).toArray}})
  (hsz:vs.length+ws.length<=sizeLine):wpAny (model prog w) A (binaryOp .Add (.ref t) (.ref b)) Q E s:=by
 obtain⟨⟨cls,dd,data,sl⟩,a,f,n,hd⟩:=id m;obtain⟨⟨p,g,data2,h⟩,c,i,j,l⟩:=id o;simp only at f hd i l;subst f hd i l;have e:vs.toArray++ws.toArray=(vs++ws).toArray:=by simp
 by_cases hw:ws=[]
 .exact concat_meets ⟨_,a,rfl⟩ ⟨_,c,rfl⟩ LK seq_tuple_add Lm Lb (K8 _ _)
   (tuple_addW1 t b vs.toArray ws.toArray n j dd g sl h (by simpa using d) (by simp[hw])) ⟨a,c,h1 hw⟩
 refine concat_meets ⟨_,a,rfl⟩ ⟨_,c,rfl⟩ LK seq_tuple_add Lm Lb (K8 _ _)
  (tuple_addW2 t b vs.toArray ws.toArray n j dd g sl h (by simpa using d) (by simpa using hw) (by rw[a_,a_];exact hsz)) ⟨a,c,?_⟩
 rw[e];exact h2 hw
def sIx(n d:Nat):Option Int->Nat
 |none=>d
 |some v=>if v<0 then (v+(n:Int)).toNat else min v.toNat n
theorem sIx_none(n d:Nat):sIx n d none=d:=rfl
theorem sIx_nat(n d k:Nat):sIx n d (some (k:Int))=min k n:=by show (if (k:Int)<0 then ((k:Int)+(n:Int)).toNat else min (k:Int).toNat n)=min k n;rw[NC (by lia),iF]
theorem sIx_le(n d:Nat)(hd:d<=n)(o:Option Int):sIx n d o<=n:=by
 cases o with
 |none=>exact hd
 |some v=>
  show (if v<0 then (v+(n:Int)).toNat else min v.toNat n)<=n;by_cases a:v<0
  .rw[ND a];lia
  rw[NC a];exact KN _ _
theorem xF(v:Int)(n d:Nat):(if v<0 then max (v+(n:Int)) 0 else min v (n:Int))=((sIx n d (some v):Nat):Int):=by
 show (if v<0 then max (v+(n:Int)) 0 else min v (n:Int))=(((if v<0 then (v+(n:Int)).toNat else min v.toNat n):Nat):Int);by_cases a:v<0
 .simp only[ND a];lia
 simp only[NC a];lia
theorem BM(lo hi:Option Int)(n:Nat):Builtin.Slice.sliceAdjust lo hi 1 (n:Int)=(((sIx n 0 lo:Nat):Int),((sIx n n hi:Nat):Int)):=by
 have h1:¬((1:Int)<0):=by lia
 unfold Builtin.Slice.sliceAdjust;simp only[h1,if_false];refine nG ?_ ?_
 .cases lo with
  |none=>rfl
  |some v=>exact xF v n 0
 cases hi with
 |none=>rfl
 |some v=>exact xF v n n
theorem Bv(i j:Nat):Builtin.Slice.slicePlaces (i:Int) (j:Int) 1=j-i:=by
 unfold Builtin.Slice.slicePlaces;have h1:(1:Int)>0:=by lia
 simp only[h1,if_true,Int.ediv_one]
 split<;>lia
theorem uH{v:Value}{o:Option Int}{Q:Option Int->Shared->Prop}(p:IsPart v o)(h:Q o s):wpAny (model prog w) A (Builtin.Slice.slicePartIndex v) Q E s:=by
 cases p with
 |none=>exact LP h
 |int i t=>exact slicePart_int h
theorem um{sl:Addr}{a b:Value}{lo hi:Option Int}{n:Nat}{Q:Int×Int×Nat->Shared->Prop}(e:s.heap.IsSliceOf sl a b .none)(pl:IsPart a lo)(pu:IsPart b hi)
  (h:Q (((sIx n 0 lo:Nat):Int),1,sIx n n hi-sIx n 0 lo) s):wpAny (model prog w) A (Builtin.Slice.sliceApplied (.ref sl) (pure (n:Int))) Q E s:=by
 obtain⟨os,c,f,d⟩:=id e;unfold Builtin.Slice.sliceApplied Builtin.Slice.sliceFields;refine aa (aa (cW c d (x:=a) rfl (aa (cW c d (x:=b) rfl (aa (cW c d (x:=.none) rfl (ag ?_)))))));refine aa (LP ?_);show wpAny _ _ (if ((1:Int)==0)=true then _ else _) _ _ s;rw[NC (by decide)];refine aa (uH pl (aa (uH pu (aa (ag ?_)))));show wpAny _ _ (match Builtin.Slice.sliceAdjust lo hi 1 (n:Int) with|(lo,hi)=>pure (lo,(1:Int),Builtin.Slice.slicePlaces lo hi 1)) _ _ s;rw[BM lo hi n];show wpAny _ _ (pure (((sIx n 0 lo:Nat):Int),(1:Int),Builtin.Slice.slicePlaces ((sIx n 0 lo:Nat):Int) ((sIx n n hi:Nat):Int) 1)) _ _ s;rw[Bv];exact ag h
theorem Dx(xs:Array Value)(i k:Nat):((List.range k).filterMap λ(m:Nat)=>xs[((i:Int)+(m:Int)*1).toNat]?).toArray=((xs.toList.drop i).take k).toArray:=by
 have e:(λ(m:Nat)=>xs[((i:Int)+(m:Int)*1).toNat]?)=λm=>xs[i+m]?:=by
  funext m;have:((i:Int)+(m:Int)*1).toNat=i+m:=by lia
  rw[this]
 rw[e];have:=pick_run xs i k;rw[List.filterMap_map] at this;have a:((λx=>xs[x]?) ∘ λx=>i+x)=λm=>xs[i+m]?:=rfl;rw[a] at this;rw[this]
theorem getItem_tuple_cut{t sl:Addr}{items:Array Value}{c d:Value}{lo hi:Option Int}{Q:Value->Shared->Prop}(a:IsTup s.heap t items)(e:s.heap.IsSliceOf sl c d .none)(pl:IsPart c lo)(pu:IsPart d hi)
  (hw:¬(sIx items.size 0 lo=0/\sIx items.size items.size hi=items.size))
  (h:Q (.ref s.heap.objs.size) {s with heap:=s.heap.push {cls:=.type "tuple",data:=.seq ((items.toList.drop (sIx items.size 0 lo)).take (sIx items.size items.size hi-sIx items.size 0 lo)).toArray}})
  (hsz:items.size<=sizeLine):wpAny (model prog w) A (getItem (.ref t) (.ref sl)) Q E s:=by
 have b:sizeOk (.seq ((items.toList.drop (sIx items.size 0 lo)).take (sIx items.size items.size hi-sIx items.size 0 lo)).toArray):=by show ((items.toList.drop (sIx items.size 0 lo)).take (sIx items.size items.size hi-sIx items.size 0 lo)).toArray.size<=sizeLine;rw[a_,bf,eV,fY];lia
 have l:sIx items.size items.size hi<=items.size:=sIx_le _ _ (ak _) hi;obtain⟨os,f,g,n⟩:=id e;have i:s.TypeIs (.ref sl) "slice":=⟨os,f,g⟩;unfold getItem
 try with_reducible refine cH ?_
 first|refine aa (ag ?_)|skip
 refine aa (Mo a.typeIs (by decide) ?_);refine aa (nM (name:=Str.ofString "__getitem__") a.typeIs nH
  (gX nH a.typeIs LH ?_ (LD _ _)))
 show wpAny _ _ (Builtin.Tuple.tupleItemsOf (.ref t) >>= _) _ _ s;refine aa (tupleItemsOf_ a ?_);refine aa (Az i ?_);rw[ND (by decide)];refine aa (um e pl pu ?_);have j:¬((((sIx items.size 0 lo:Nat):Int)==0&&(1:Int)==1&&(sIx items.size items.size hi-sIx items.size 0 lo)==items.size)=true):=by intro q;rw[eF,eF] at q;have o:((sIx items.size 0 lo:Nat):Int)=0:=eq_of_beq q.1.1;have p:sIx items.size items.size hi-sIx items.size 0 lo=items.size:=eq_of_beq q.2;exact hw ⟨by lia,by lia⟩
 show wpAny _ _ (if (((sIx items.size 0 lo:Nat):Int)==0&&(1:Int)==1&&(sIx items.size items.size hi-sIx items.size 0 lo)==items.size)=true then _ else _) _ _ s;rw[NC j,Dx]
 first
  |exact aa (m:=Builtin.Tuple.tupleExact _) (dZ (ag ⟨_,rfl,ag h⟩) b)
  |exact aa (m:=Builtin.Tuple.tupleExact _) (dZ (aa (ag (ag ⟨_,rfl,ag h⟩))) b)
  |exact aa (aa (m:=Builtin.Tuple.tupleExact _) (dZ (ag (ag ⟨_,rfl,ag h⟩)) b))
  |exact aa (aa (m:=Builtin.Tuple.tupleExact _) (dZ (ag ⟨_,rfl,ag h⟩) b))
end
end HT
namespace L2
open PySem PySem.Spec PyProof.Rows
abbrev TO:=St->Hp->(Option Int->Hp->Prop)->Prop
def PO(X:Cx)(e:Option Expr)(t:TO):Prop:=
 ∀(NI:List (Addr×Obj))(s:Shared)(Z:St)(H:Hp)(Q:Option Int->Hp->Prop),Inv X NI Z H s->t Z H Q->
  wpAny (model X.prog X.w) X.A (evalPart e X.env) (λu s'=>∃o H',Inv X NI Z H' s'/\IsPart u o/\Q o H') X.xe s
def ED:TO:=λ_ H Q=>Q none H
def Ge(Q:Option Int->Hp->Prop)(x:V)(H1:Hp)(i:Int):Prop:=x=.int i/\Q (some i) H1
def Gd(Q:Option Int->Hp->Prop):VK:=λx H1=>Exists (Ge Q x H1)
def IH(t:TE):TO:=λZ H Q=>t Z H (Gd Q)
theorem nX{ns:List Int}:∀{us:List Value},Vals (ns.map V.int) us->IntsAre us ns:=by
 induction ns with
 |nil=>intro us r;rw[zL] at r;cases r;exact .nil
 |cons n ns a=>
  intro us r;rw[aU] at r;cases r with
  |cons b c=>
   obtain⟨t,e⟩:=b;subst e;exact .cons n t (a c)
section
variable {e:Expr}{te:TE}{lo hi:Option Expr}{tl th:TO}{pos p2:Pos}
theorem ie:PO X none ED:=by intro NI s Z H Q I h;rw[evalPart_none];exact ag ⟨none,H,I,.none,h⟩
theorem ic(h:PE X e te):PO X (some e) (IH te):=by intro NI s Z H Q I hw;rw[evalPart_some];refine thn (h NI s Z H _ I hw) λu s1 ⟨x,H1,a,b,c⟩=>?_;obtain⟨i,rfl,q⟩:=c;obtain⟨t,rfl⟩:=b;exact⟨some i,H1,a,.int i t,q⟩
def SlR(X:Cx)(r:V->Option Int->Option Int->Hp->VK->Prop):Prop:=
 ∀(NI:List (Addr×Obj))(s:Shared)(Z:St)(H:Hp)(x:V)(v a b:Value)(lo hi:Option Int)(sl:Addr)(Q:VK),Inv X NI Z H s->az x v->s.heap.IsSliceOf sl a b .none->IsPart a lo->IsPart b hi->r x lo hi H Q->
  ∃T id,typeLookup (.type T) "__getitem__" = pure (some (.builtin id))/\s.TypeIs v T/\wpAny (model X.prog X.w) X.A (getItem v (.ref sl)) (EP X NI Z Q) X.xe s
def tSl3(r:V->Option Int->Option Int->Hp->VK->Prop)(x:V)(l:Option Int)(Q:VK):Option Int->Hp->Prop:=λu a=>r x l u a Q
def tSl2(r:V->Option Int->Option Int->Hp->VK->Prop)(th:TO)(Z:St)(x:V)(Q:VK):Option Int->Hp->Prop:=λl H2=>th Z H2 (tSl3 r x l Q)
def tSl1(r:V->Option Int->Option Int->Hp->VK->Prop)(tl th:TO)(Z:St)(Q:VK):VK:=λx H1=>tl Z H1 (tSl2 r th Z x Q)
def tSl(r:V->Option Int->Option Int->Hp->VK->Prop)(te:TE)(tl th:TO):TE:=λZ H Q=>te Z H (tSl1 r tl th Z Q)
theorem h_{r:V->Option Int->Option Int->Hp->VK->Prop}(g:SlR X r)(he:PE X e te)(i:PO X lo tl)(j:PO X hi th):PE X (.Subscript e (.Slice lo hi none p2) pos) (tSl r te tl th):=by intro NI s Z H Q I h;refine Ai (thn (he NI s Z H _ I h) λv s1 ⟨x,H1,m,n,o⟩=>?_);refine wpAny_Slice (thn (i NI s1 Z H1 _ m o) λc s2 ⟨l,H2,p,pl,y⟩=>thn (j NI s2 Z H2 _ p y) λd a ⟨u,f,z,pu,B⟩=>?_);rw[evalPart_none];refine ag ?_;have C:Inv X NI Z f {a with heap:=a.heap.push {cls:=.type "slice",data:=.fields #[c,d,.none]}}:=z.kept (t':=a.toks) λb L q=>aI _ q;obtain⟨T,id,D,E,K⟩:=g NI {a with heap:=a.heap.push {cls:=.type "slice",data:=.fields #[c,d,.none]}} Z f x v c d l u a.heap.objs.size Q C n (Mr ..) pl pu B;show wpAny (model X.prog X.w) X.A (subscriptTail e (.Slice lo hi none p2) v (.ref a.heap.objs.size)) (EP X NI Z Q) X.xe {a with heap:=a.heap.push {cls:=.type "slice",data:=.fields #[c,d,.none]}};exact tail_any (ops:=[.ref a.heap.objs.size,v]) E D K (by with_unfolding_all rfl)
def fX(xs:List V)(lo hi:Option Int):List V:=(xs.drop (HT.sIx xs.length 0 lo)).take (HT.sIx xs.length xs.length hi-HT.sIx xs.length 0 lo)
theorem uD(xs:List V)(lo hi:Option Int):(fX xs lo hi).length<=xs.length:=by unfold fX;rw[bf,eV];lia
def rSlT(K:W.Frag):V->Option Int->Option Int->Hp->VK->Prop:=λx lo hi H Q=>∃a xs,x=.ref a/\SqT K H a xs/\
 ¬(HT.sIx xs.length 0 lo=0/\HT.sIx xs.length xs.length hi=xs.length)/\∀p,H p=none->Q (.ref p) (upd H p (.tup (fX xs lo hi)))
theorem Gz:SlR X (rSlT []):=by
 intro NI s Z H x v g i lo hi sl Q I e f pl pu h;obtain⟨a,xs,rfl,hx,hw,q⟩:=h;cases e;obtain⟨its,r,c,d⟩:=I.tuple hx;have hlen:its.toArray.size=xs.length:=by rw[a_];exact r.length.symm
 refine⟨"tuple",_,nH.lookup,c.typeIs,?_⟩;refine HT.getItem_tuple_cut c f pl pu (by rw[hlen];exact hw) ?_ (by rw[hlen];exact d);rw[hlen];refine⟨.ref s.heap.objs.size,_,I.laid (t':=s.toks) (o:=.tup (fX xs lo hi)) (λb j q=>aI _ q) (ak _) ?_,rfl,q _ (I.hok.fresh (ak _))⟩;exact⟨⟨br (uD xs lo hi) d,_,bq _ rfl,rfl⟩,_,(r.drop (HT.sIx xs.length 0 lo)).take (HT.sIx xs.length xs.length hi-HT.sIx xs.length 0 lo),zA _ _⟩
def JD(K:W.Frag):R2:=λx y H Q=>∃a b xs ys,x=.ref a/\y=.ref b/\SqT K H a xs/\SqT K H b ys/\xs≠[]/\xs.length+ys.length<=sizeLine/\
 (ys=[]->Q (.ref a) H)/\(ys≠[]->∀p,H p=none->Q (.ref p) (upd H p (.tup (xs++ys))))
theorem Vals.nil_iff(r:Vals xs us):us=[]↔xs=[]:=by
 cases r with
 |nil=>simp
 |cons _ _=>simp
theorem Fk:OpR X (binaryOp .Add) (JD []):=by intro NI s Z H x y v u Q I f g h;obtain⟨a,b,xs,ys,rfl,rfl,ha,i,hx,e,j,l⟩:=h;cases f;cases g;obtain⟨its,d,m,_⟩:=I.tuple ha;obtain⟨n,c,p2,_⟩:=I.tuple i;refine HT.cat_tup m p2 (λz=>hx (d.nil_iff.mp z)) (λz=>⟨.ref a,H,I,rfl,j (c.nil_iff.mp z)⟩) (λz=>?_) (by rw[<-d.length,<-c.length];exact e);refine⟨.ref s.heap.objs.size,_,I.laid (t':=s.toks) (o:=.tup (xs++ys)) (λb p q=>aI _ q) (ak _) ?_,rfl,l (λw=>z (c.nil_iff.mpr w)) _ (I.hok.fresh (ak _))⟩;exact⟨⟨by rw[aL];exact e,_,bq _ rfl,rfl⟩,_,d.append c,zA _ _⟩
end
end L2
namespace L2
open PySem PySem.Spec PyProof.Rows
def ixN(n:Nat)(i:Int):Option Nat:=if 0<=i then (if i<n then some i.toNat else none) else if -(n:Int)<=i then some (i+n).toNat else none
def atI{α:Type}(xs:List α)(i:Int):Option α:=(ixN xs.length i).bind λj=>xs[j]?
theorem rF{n:Nat}{i:Int}{j:Nat}(h:ixN n i=some j):seqIndex? i n=some j/\j<n/\-(n:Int)<=i/\i<n:=by
 unfold ixN at h;by_cases a:0<=i
 .rw[ND a] at h;by_cases h1:i<n
  .rw[ND h1] at h;have e:i.toNat=j:=cN h;exact⟨by rw[Ap a h1,e],by lia,by lia,h1⟩
  rw[NC h1] at h;cases h
 rw[NC a] at h;by_cases h1:-(n:Int)<=i
 .rw[ND h1] at h;have e:(i+n).toNat=j:=cN h;exact⟨by rw[Ao (by lia) h1,e],by lia,h1,by lia⟩
 rw[NC h1] at h;cases h
theorem rK{α:Type}{xs:List α}{i:Int}{v:α}(h:atI xs i=some v):∃j,seqIndex? i xs.length=some j/\xs[j]?=some v/\j<xs.length/\-(xs.length:Int)<=i/\i<xs.length:=by
 unfold atI at h;cases e:ixN xs.length i with
 |none=>rw[e] at h;cases h
 |some j=>
  rw[e] at h;obtain⟨h1,h2,a,b⟩:=rF e;exact⟨j,h1,h,h2,a,b⟩
theorem c9{α:Type}{xs:List α}{j:Nat}{v:α}(h:xs[j]?=some v):atI xs (j:Int)=some v:=by
 have a:j<xs.length:=(aG.mp h).1;have e:ixN xs.length (j:Int)=some j:=by unfold ixN;rw[ND (by lia),ND (by lia)];simp
 unfold atI;rw[e];exact h
def xM(b:Expr):Prop:=∀o i,subscripted b false o i=operate [o,i] (getItem o i)
def IxR(X:Cx)(r:R2):Prop:=
 ∀(value slice:Expr)(NI:List (Addr×Obj))(s:Shared)(Z:St)(H:Hp)(x y:V)(v u:Value)(Q:VK),Inv X NI Z H s->az x v->az y u->r x y H Q->
  subscripted slice false v u=operate [v,u] (getItem v u)->wpAny (model X.prog X.w) X.A (subscriptTail value slice v u) (EP X NI Z Q) X.xe s
def MtR(X:Cx)(id:String)(r:V->List V->Hp->VK->Prop):Prop:=
 ∀(NI:List (Addr×Obj))(s:Shared)(Z:St)(H:Hp)(x:V)(xs:List V)(v:Value)(us:List Value)(Q:VK),Inv X NI Z H s->az x v->Vals xs us->r x xs H Q->
  wpAny (model X.prog X.w) X.A (call (.builtin id) (v::us)) (EP X NI Z Q) X.xe s
section
variable {a b:Expr}{ta tb:TE}{pos:Pos}
theorem zd{r:R2}(c:IxR X r)(ha:PE X a ta)(d:PE X b tb)(e:xM b):PE X (.Subscript a b pos) (tOp r ta tb):=by intro NI s Z H Q I h;exact Ai (sS ha d I h λv u s2 x y H2 f g i q=>c a b NI s2 Z H2 x y v u Q f g i q (e _ _))
theorem ixx{r:R2}(c:IxR X r)(ha:PE X a ta)(d:PE X b tb)(e:xM b:=by (intro _ _;rfl)):PE X (.Subscript a b pos) (tOp r ta tb):=zd c ha d e
def Jy(K:W.Frag)(x y:V)(H:Hp)(Q:VK)(p:Addr)(xs:List V)(i:Int)(v:V):Prop:=x=.ref p/\y=.int i/\SqL K H p xs/\atI xs i=some v/\Q v H
def rIxL(K:W.Frag):R2:=λx y H Q=>Exists (Ex4 (Jy K x y H Q))
def Jx(K:W.Frag)(x y:V)(H:Hp)(Q:VK)(p:Addr)(xs:List V)(i:Int)(v:V):Prop:=x=.ref p/\y=.int i/\SqT K H p xs/\atI xs i=some v/\Q v H
def rIxT(K:W.Frag):R2:=λx y H Q=>Exists (Ex4 (Jx K x y H Q))
def rIxS:R2:=λx y H Q=>∃z i c,x=.str z/\y=.int i/\z.length<=sizeLine/\atI z.cps.toList i=some c/\Q (.str ⟨#[c]⟩) H
theorem cI:IxR X (rIxL []):=by
 intro value slice NI s Z H x y v u Q I e f h b;obtain⟨p,xs,i,z,rfl,rfl,g,he,q⟩:=h;cases e;obtain⟨t,rfl⟩:=f;obtain⟨its,r,pl,A⟩:=I.list g;obtain⟨j,h1,h2,B,l,m⟩:=rK he;obtain⟨w,c,n⟩:=r.get h2;have o:=r.length;have C:=line63;have fin:EP X NI Z Q w s:=⟨z,H,I,n,q⟩;by_cases d:0<=i
 .have a:i.toNat=j:=by
   rw[Ap d m] at h1;exact cN h1
  exact item_listR pl.isList d (by lia) (by rw[a];simpa using c) fin b
 have a:(i+(its.toArray.size:Int)).toNat=j:=by rw[Ao (by lia) l] at h1;rw[a_,<-o];exact cN h1
 exact LV (x:=w) pl.isList.typeIs LR.lookup
  (wpAny_getItem_list_neg (Q:=λr s'=>r=w/\EP X NI Z Q r s') pl.isList (by lia) (by rw[a_]<;>lia) (by lia) (by rw[a];simpa using c) ⟨rfl,fin⟩) b
theorem i9:IxR X (rIxT []):=by
 intro value slice NI s Z H x y v u Q I a b h c;obtain⟨p,xs,i,z,rfl,rfl,d,he,q⟩:=h;cases a;obtain⟨t,rfl⟩:=b;obtain⟨its,r,pl,l⟩:=I.tuple d;obtain⟨j,h1,h2,m,n,o⟩:=rK he;obtain⟨w,e,f⟩:=r.get h2;have g:=r.length;have A:=line63;have fin:EP X NI Z Q w s:=⟨z,H,I,f,q⟩;exact LV (x:=w) pl.typeIs slot_tuple_getitem.lookup
  (getItem_tuple (j:=j) (Q:=λr s'=>r=w/\EP X NI Z Q r s') pl (by lia) (by lia) (by rw[a_,<-g];exact h1) (by simpa using e) ⟨rfl,fin⟩) c
theorem yy:IxR X rIxS:=by
 intro value slice NI s Z H x y v u Q I a b h d;obtain⟨z,i,c,rfl,rfl,n,he,q⟩:=h;obtain⟨t,rfl⟩:=a;obtain⟨t',rfl⟩:=b;obtain⟨j,h1,h2,o,e,f⟩:=rK he;have g:z.cps.toList.length=z.length:=by simp[Str.length]
 rw[g] at h1 e f;have p:=line63;exact tail_any (gW s z t) LU.lookup (getItem_str (c:=c) (by
  have l:decide (i < -(2 ^ 63:Int))=false:=NG (by lia);have m:decide (i ≥ 2 ^ 63)=false:=NG (by lia);rw[l,m,Bool.or_false]) (by rw[h1];simpa using h2) ⟨.str ⟨#[c]⟩,H,I.tok _,⟨_,rfl⟩,q⟩) d
theorem BD(its:List Value)(n j:Nat)(u:Value):Obj.mapSeq (·.setIfInBounds j u) {cls:=.type "list",data:=.seq its.toArray n}={cls:=.type "list",data:=.seq (its.set j u).toArray n}:=by simp[Obj.mapSeq]
theorem Inv.lst{p:Addr}(I:Inv X NI Z H s)(h:H p=some (.lst xs)) :
  ∃(its:List Value)(n:Nat),Vals xs its/\s.heap.get? p=some {cls:=.type "list",data:=.seq its.toArray n}/\xs.length<=sizeLine:=by
 obtain⟨z,its,n,r,e⟩:=I.hok p _ h;exact⟨its,n,r,e,z⟩
theorem Inv.lstUpd{p:Addr}{xs ys:List V}{its its':List Value}{n a:Nat}{f:Obj->Obj}(I:Inv X NI Z H s)(h:H p=some (.lst xs))
  (c:s.heap.get? p=some {cls:=.type "list",data:=.seq its.toArray n}) (hf:f {cls:=.type "list",data:=.seq its.toArray n}={cls:=.type "list",data:=.seq its'.toArray a}) (r:Vals ys its') (d:ys.length<=sizeLine) (t:Nat) :
  Inv X NI Z (upd H p (.lst ys)) {s with heap:=s.heap.update p f,toks:=t}:=by
 have e:(s.heap.update p f).get? p=some {cls:=.type "list",data:=.seq its'.toArray a}:=by rw[fJ f c (by rw[hf]<;>rfl),hf]
 refine I.write (x:=p) (e:=p) (by rw[h];trivial) (.inl rfl) (λb u g q=>(dU _ _ (aB g)).trans q) ⟨_,e⟩ ?_;exact⟨d,its',a,r,e⟩
def G8(o i v:V)(H:Hp)(Q:Hp->Prop)(p:Addr)(xs:List V)(k:Int)(j:Nat):Prop:=o=.ref p/\i=.int k/\H p=some (.lst xs)/\ixN xs.length k=some j/\WrO H p (.lst (xs.set j v)) Q
def Js:V->V->V->Hp->(Hp->Prop)->Prop:=λo i v H Q=>Exists (Ex4 (G8 o i v H Q))
theorem qO:PSet X Js:=by
 intro NI s Z H o i v ov A u Q I m w x h;obtain⟨p,xs,k,j,rfl,rfl,d,y,q⟩:=h;replace q:=q.at;cases m;obtain⟨t,rfl⟩:=w;obtain⟨its,n,r,a,z⟩:=I.lst d;obtain⟨h1,h2,e,f⟩:=rF y;have b:=r.length;have B:=line63;have g:Inv X NI Z (upd H p (.lst (xs.set j v))) {s with heap:=s.heap.update p (Obj.mapSeq (·.setIfInBounds j u))}:=
  I.lstUpd d a (BD its n j u) (r.set x j) (by rw[List.length_set];exact z) s.toks
 by_cases l:0<=k
 .have c:k.toNat=j:=by
   rw[Ap l f] at h1;exact cN h1
  exact W.ki_setAt a l (by lia) (by rw[a_,<-b];exact f) (by rw[c];exact⟨_,g,q⟩)
 have c:(k+(its.toArray.size:Int)).toNat=j:=by rw[Ao (by lia) e] at h1;rw[a_,<-b];exact cN h1
 exact W.ki_setBack a (by lia) (by rw[a_,<-b];exact e) (by lia) (by rw[c];exact⟨_,g,q⟩)
theorem AY(lo hi:Option Int)(n:Nat):(sliceBounds lo hi none n).1=((HT.sIx n 0 lo:Nat):Int)/\(sliceBounds lo hi none n).2.1=((HT.sIx n n hi:Nat):Int)/\(sliceBounds lo hi none n).2.2=1:=by
 refine⟨?_,?_,rfl⟩
 .cases lo with
  |none=>simp[sliceBounds,HT.sIx]
  |some i=>
   simp only[sliceBounds,HT.sIx,KU,show (1:Int)>0 by decide,if_true];by_cases h:i<0
   .simp only[h,if_true]<;>lia
   simp only[h,if_false]<;>lia
 cases hi with
 |none=>simp[sliceBounds,HT.sIx]
 |some i=>
  simp only[sliceBounds,HT.sIx,KU,show (1:Int)>0 by decide,if_true];by_cases h:i<0
  .simp only[h,if_true]<;>lia
  simp only[h,if_false]<;>lia
theorem AM(its:List Value)(lo hi:Option Int):slicePick its.toArray lo hi none=((its.drop (HT.sIx its.length 0 lo)).take (HT.sIx its.length its.length hi-HT.sIx its.length 0 lo)).toArray:=by obtain⟨h1,h2,a⟩:=AY lo hi its.toArray.size;unfold slicePick;rw[h1,h2,a];simp only[LQ,pick_run,a_]<;>rfl
def Jr(K:W.Frag)(x:V)(lo hi:Option Int)(H:Hp)(Q:VK)(a:Addr)(xs:List V):Prop:=x=.ref a/\SqL K H a xs/\fE H (.lst (fX xs lo hi)) Q
def rSlL(K:W.Frag):V->Option Int->Option Int->Hp->VK->Prop:=λx lo hi H Q=>Exists (Ex2 (Jr K x lo hi H Q))
theorem w9:SlR X (rSlL []):=by intro NI s Z H x v g i lo hi sl Q I d e pl pu h;obtain⟨a,xs,rfl,hx,q⟩:=h;cases d;obtain⟨its,r,c,f⟩:=I.list hx;have hlen:=r.length;refine⟨"list",_,LR.lookup,c.isList.typeIs,?_⟩;refine wpAny_getItem_list_slice c.isList e pl pu .none (by simp) ?_ (by rw[a_]<;>lia);rw[AM,<-hlen];refine⟨.ref s.heap.objs.size,_,I.laid (t':=s.toks) (o:=.lst (fX xs lo hi)) (λb j q=>aI _ q) (ak _) ?_,rfl,q.at (I.hok.fresh (ak _))⟩;exact⟨br (uD xs lo hi) f,_,0,(r.drop (HT.sIx xs.length 0 lo)).take (HT.sIx xs.length xs.length hi-HT.sIx xs.length 0 lo),bq _ rfl⟩
def gr:V->Bool
 |.non=>true
 |.bl _=>true
 |.int _=>true
 |.str _=>true
 |_=>false
def eqV:V->V->Bool
 |.non,.non=>true
 |.bl a,.bl b=>a==b
 |.bl a,.int b=>(if a then 1 else 0)==b
 |.int a,.bl b=>a==(if b then 1 else 0)
 |.int a,.int b=>a==b
 |.str a,.str b=>a==b
 |_,_=>false
theorem Ik{y x:V}{u v:Value}(d:az y u)(c:az x v)(f:gr y=true)(e:gr x=true):SeqAt.EqAt A s u v (eqV y x):=by
 cases y with
 |non=>
  cases d;cases x with
  |non=>cases c;exact Nv _
  |bl b=>cases c;exact Nq b
  |int b=>obtain⟨t,rfl⟩:=c;exact Nt b t
  |str b=>obtain⟨t,rfl⟩:=c;exact Nu b t
  |_=>exact absurd (show false=true from e) bu
 |bl a=>
  cases d;cases x with
  |non=>cases c;exact Nk a
  |bl b=>cases c;exact Ni a b
  |int b=>obtain⟨t,rfl⟩:=c;exact Nj a b t
  |str b=>obtain⟨t,rfl⟩:=c;exact Nl a b t
  |_=>exact absurd (show false=true from e) bu
 |int a=>
  obtain⟨t',rfl⟩:=d;cases x with
  |non=>cases c;exact Np a t'
  |bl b=>cases c;exact Nn a t' b
  |int b=>obtain⟨t,rfl⟩:=c;exact Lz a t' b t
  |str b=>obtain⟨t,rfl⟩:=c;exact LA a t' b t
  |_=>exact absurd (show false=true from e) bu
 |str a=>
  obtain⟨t',rfl⟩:=d;cases x with
  |non=>cases c;exact Nz a t'
  |bl b=>cases c;exact Nw a t' b
  |int b=>obtain⟨t,rfl⟩:=c;exact LB a t' b t
  |str b=>obtain⟨t,rfl⟩:=c;exact NA a t' b t
  |_=>exact absurd (show false=true from e) bu
 |_=>exact absurd (show false=true from f) bu
def eqU(x:V)(u:Value):Bool:=match u with
 |.none=>eqV .non x
 |.bool b=>eqV (.bl b) x
 |.int i _=>eqV (.int i) x
 |.str z _=>eqV (.str z) x
 |_=>false
theorem yJ{x y:V}{u:Value}(r:az y u)(f:gr y=true):eqU x u=eqV y x:=by
 cases y with
 |non=>cases r;rfl
 |bl b=>cases r;rfl
 |int i=>obtain⟨t,rfl⟩:=r;rfl
 |str z=>obtain⟨t,rfl⟩:=r;rfl
 |_=>exact absurd (show false=true from f) bu
theorem lN{x:V}:∀{xs:List V}{us:List Value},Vals xs us->xs.all gr=true->us.any (eqU x)=xs.any λy=>eqV y x
 |_,_,.nil,_=>rfl
 |y::xs,u::us,.cons r t,f=>by
  rw[zB,eF] at f;rw[pW,pW,yJ r f.1,lN t f.2]
theorem kZ{x:V}{v:Value}(b:az x v)(c:gr x=true):∀{xs:List V}{us:List Value},Vals xs us->xs.all gr=true->∀u∈us,SeqAt.EqAt A s u v (eqU x u)
 |_,_,.nil,_=>λu a=>by cases a
 |y::xs,u::us,.cons r t,f=>λd a=>by
  rw[zB,eF] at f;rcases aK.mp a with rfl|a
  .rw[yJ r f.1];exact Ik r b f.1 c
  exact kZ b c t f.2 d a
def inV(x:V)(xs:List V):Bool:=xs.any λy=>eqV y x
def rInB(K:W.Frag)(neg:Bool)(x y:V)(H:Hp)(Q:VK)(p:Addr)(xs:List V):Prop:=y=.ref p/\(SqL K H p xs\/SqT K H p xs)/\gr x=true/\xs.all gr=true/\Q (.bl (if neg then !inV x xs else inV x xs)) H
def rIn(K:W.Frag)(neg:Bool):R2:=λx y H Q=>Exists (Ex2 (rInB K neg x y H Q))
theorem qB:OpR X (compareOp .In) (rIn [] false):=by
 intro NI s Z H x y v u Q I b d h;obtain⟨p,xs,rfl,a,c,fs,q⟩:=h;cases d;rcases a with a|a
 .obtain⟨its,r,pl,e⟩:=I.list a;refine SeqAt.in_listAt (eqU x) pl.isList (λw hw=>kZ b c r fs w (by simpa using hw)) ⟨.bl _,H,I,rfl,?_⟩;rw[show its.toArray.any (eqU x)=its.any (eqU x) by simp,lN r fs];exact q
 obtain⟨its,r,pl,e⟩:=I.tuple a;refine SeqAt.in_tupleAt (eqU x) pl (λw hw=>kZ b c r fs w (by simpa using hw)) ⟨.bl _,H,I,rfl,?_⟩;rw[show its.toArray.any (eqU x)=its.any (eqU x) by simp,lN r fs];exact q
theorem kC:OpR X (compareOp .NotIn) (rIn [] true):=by
 intro NI s Z H x y v u Q I b d h;obtain⟨p,xs,rfl,a,c,fs,q⟩:=h;cases d;rcases a with a|a
 .obtain⟨its,r,pl,e⟩:=I.list a;refine SeqAt.notIn_listAt (eqU x) pl.isList (λw hw=>kZ b c r fs w (by simpa using hw)) ⟨.bl _,H,I,rfl,?_⟩;rw[show its.toArray.any (eqU x)=its.any (eqU x) by simp,lN r fs];exact q
 obtain⟨its,r,pl,e⟩:=I.tuple a;refine SeqAt.notIn_tupleAt (eqU x) pl (λw hw=>kZ b c r fs w (by simpa using hw)) ⟨.bl _,H,I,rfl,?_⟩;rw[show its.toArray.any (eqU x)=its.any (eqU x) by simp,lN r fs];exact q
theorem AZ:OpR X (compareOp .NotIn) (λx y H Q=>∃i j,x=.str i/\y=.str j/\Q (.bl (!(!(Builtin.Str.occurrences j i 0 j.length 1).isEmpty))) H):=by intro NI s Z H x y v u Q I a b h;obtain⟨i,j,rfl,rfl,q⟩:=h;obtain⟨t,rfl⟩:=a;obtain⟨t',rfl⟩:=b;exact notIn_str ⟨.bl _,H,I,rfl,q⟩
def Hh(K:W.Frag)(xs:List V)(H:Hp)(Q:VK)(p:Addr)(ys:List V):Prop:=xs=[.ref p]/\(SqL K H p ys\/SqT K H p ys)/\Q (.int ys.length) H
def zb(K:W.Frag):List V->Hp->VK->Prop:=λxs H Q=>Exists (Ex2 (Hh K xs H Q))
theorem A6:cu X (.builtin "len") (zb []):=by
 intro NI s Z H xs us Q I r h;obtain⟨p,ys,rfl,a,q⟩:=h;obtain⟨u,rfl,c⟩:=vals1 r;cases c;have e:=line63;rcases a with a|a
 .obtain⟨its,b,pl,d⟩:=I.list a;have hlen:=b.length;exact Calls.call_len_list pl.isList (by simp only[a_]<;>lia) ⟨.int ys.length,H,I.tok _,⟨s.toks+1,by rw[a_,hlen]⟩,q⟩
 obtain⟨its,b,pl,d⟩:=I.tuple a;have hlen:=b.length;exact len_tuple pl (by simp only[a_]<;>lia) ⟨.int ys.length,H,I.tok _,⟨s.toks+1,by rw[a_,hlen]⟩,q⟩
theorem pln{e:Expr}{te:TE}{p pos:Pos}(hm:X.mg "len" = none)(he:PE X e te)(b:Gl X "len":=by rfl)(a:starEach [e] X.env=(false,eval e X.env)::starEach [] X.env:=by rfl)(c:(backTo pos (starEach ([]:List Expr) X.env)).any (·.1)=false:=by rfl):PE X (.Call (.Name "len" p) [e] [] pos) (tCB (zb []) (dJ te eB)):=bH A6 b hm t7 (ae he du a) (by decide) (by decide) a c
theorem uu:cu X (.builtin "len") (λxs H Q=>∃z,xs=[.str z]/\z.length<=sizeLine/\Q (.int z.length) H):=by intro NI s Z H xs us Q I r h;obtain⟨z,rfl,a,q⟩:=h;obtain⟨u,rfl,t,rfl⟩:=vals1 r;have b:=line63;exact len_str (by lia) ⟨.int z.length,H,I.tok _,⟨_,rfl⟩,q⟩
def E8(K:W.Frag)(xs:List V)(H:Hp)(Q:VK)(p:Addr)(ys:List V):Prop:=xs=[.ref p]/\(SqL K H p ys\/SqT K H p ys)/\fE H (.lst ys) Q
def G_(K:W.Frag):List V->Hp->VK->Prop:=λxs H Q=>Exists (Ex2 (E8 K xs H Q))
theorem A5:cu X (.type "list") (G_ []):=by
 intro NI s Z H xs us Q I r h;obtain⟨p,ys,rfl,d,q⟩:=h;obtain⟨u,rfl,j⟩:=vals1 r;cases j;have fin:∀(its:List Value),Vals ys its->ys.length<=sizeLine->∀(h':Heap)(a:Nat),(∀b o',s.heap.get? b=some o'->h'.get? b=some o')->
   h'.get? s.heap.objs.size=some {cls:=.type "list",dict:=none,data:=.seq its.toArray a,slots:=#[]}->EP X NI Z Q (.ref s.heap.objs.size) {s with heap:=h'}:=λits c f h' a kp e=>
  ⟨.ref s.heap.objs.size,_,I.laid (t':=s.toks) kp (ak _) (show aV X.prog X.w _ h' _ (.lst ys) from ⟨f,its,a,c,e⟩),rfl,q.at (I.hok.fresh (ak _))⟩
 rcases d with d|d
 .obtain⟨its,c,pl,f⟩:=I.list d;have hlen:=c.length;obtain⟨o,g,i,n,hd⟩:=pl.isList;exact call_list_seq p (.inl rfl) g i hd (λh' a kp e=>fin its c f h' a kp e) (by simp only[a_]<;>lia)
 obtain⟨its,c,pl,f⟩:=I.tuple d;have hlen:=c.length;obtain⟨o,g,i,n,hd⟩:=pl;exact call_list_seq p (.inr rfl) g i hd (λh' a kp e=>fin its c f h' a kp e) (by simp only[a_]<;>lia)
theorem jC:cu X (.type "tuple") (λxs H Q=>∃p ys,xs=[.ref p]/\((SqL [] H p ys/\∀l,H l=none->Q (.ref l) (upd H l (.tup ys)))\/(SqT [] H p ys/\Q (.ref p) H))):=by
 intro NI s Z H xs us Q I r h;obtain⟨p,ys,rfl,h⟩:=h;obtain⟨u,rfl,g⟩:=vals1 r;cases g;rcases h with ⟨a,q⟩|⟨a,q⟩
 .obtain⟨its,c,pl,d⟩:=I.list a;have hlen:=c.length;refine call_tuple_list pl.isList (λh' kp=>?_) (by simp only[a_]<;>lia);have f:Inv X NI Z H {s with heap:=h'}:=I.kept (t':=s.toks) kp;have i:Inv X NI Z (upd H h'.objs.size (.tup ys)) {s with heap:=h'.push {cls:=.type "tuple",data:=.seq its.toArray}}:=
   f.laid (t':=s.toks) (λb o e=>aI _ e) (ak _) (show aV X.prog X.w _ _ _ (.tup ys) from ⟨⟨d,_,bq _ rfl,rfl⟩,its,c,zA _ _⟩)
  exact⟨.ref h'.objs.size,_,i,rfl,q _ (f.hok.fresh (ak _))⟩
 obtain⟨its,c,pl,d⟩:=I.tuple a;exact call_tuple_same pl ⟨.ref p,H,I,rfl,q⟩
def tyV(K:W.Frag)(T:String)(x:V)(H:Hp):Prop:=match x with
 |.str _=>T = "str"
 |.int _=>T = "int"
 |.ref p=>(T = "list"/\∃xs,SqL K H p xs)\/(T = "tuple"/\∃o,K.lookup p=some o/\o.cls=.type "tuple"/\o.dict=none) \/
   (T = "dict"/\((∃kvs,H p=some (.dK kvs))\/∃kvs,H p=some (.dT kvs)))\/(T = "set"/\∃S n,H p=some (.set S n))
 |_=>False
theorem xP{T:String}{x:V}{v:Value}(I:Inv X NI Z H s)(r:az x v)(ty:tyV [] T x H) :
  s.TypeIs v T/\∀a,v=.ref a->∃f,s.heap.get? a=some f/\f.dict=none:=by
 cases x with
 |str z=>
  obtain⟨t,rfl⟩:=r;cases (show T = "str" from ty);exact⟨gW s z t,λ_ e=>nomatch e⟩
 |int i=>
  obtain⟨t,rfl⟩:=r;cases (show T = "int" from ty);exact⟨Aq s i t,λ_ e=>nomatch e⟩
 |ref p=>
  cases r;rcases ty with ⟨rfl,xs,g⟩|⟨rfl,o,b,h,hd⟩|⟨rfl,b⟩|⟨rfl,S,n,b⟩
  .obtain⟨its,_,pl,_⟩:=I.list g;refine⟨pl.isList.typeIs,λa e=>?_⟩;cases e;obtain⟨o,n,e,c,hd,_⟩:=pl;exact⟨o,e,hd⟩
  .cases b
  .have z:∃o,s.heap.get? p=some o/\o.ExactDict:=by
    rcases b with ⟨kvs,b⟩|⟨kvs,b⟩
    .obtain⟨_,_,_,_,o,_,_,e,ex,_⟩:=I.hok p _ b;exact⟨o,e,ex⟩
    obtain⟨_,_,_,_,o,_,_,e,ex,_⟩:=I.hok p _ b;exact⟨o,e,ex⟩
   obtain⟨o,e,ex⟩:=z;refine⟨⟨o,e,ex.1⟩,λa d=>?_⟩;cases d;exact⟨o,e,ex.2.1⟩
  obtain⟨o,_,_,_,e,ex,_⟩:=I.hok p _ b;refine⟨⟨o,e,ex.1⟩,λa d=>?_⟩;cases d;exact⟨o,e,ex.2.1⟩
 |_=>exact False.elim ty
def Jg(K:W.Frag)(T:String)(r:V->List V->Hp->VK->Prop)(Q:VK):VK:=λx H1=>tyV K T x H1/\r x [] H1 Q
def tBM0(K:W.Frag)(T:String)(r:V->List V->Hp->VK->Prop)(to:TE):TE:=λZ H Q=>to Z H (Jg K T r Q)
def tBM2(r:V->List V->Hp->VK->Prop)(x:V)(Q:VK):List V->Hp->Prop:=λxs H2=>r x xs H2 Q
def tBM1(K:W.Frag)(T:String)(r:V->List V->Hp->VK->Prop)(t:TA)(Z:St)(Q:VK):VK:=λx H1=>tyV K T x H1/\t Z H1 (tBM2 r x Q)
def tBM(K:W.Frag)(T:String)(r:V->List V->Hp->VK->Prop)(to:TE)(t:TA):TE:=λZ H Q=>to Z H (tBM1 K T r t Z Q)
variable {o e:Expr}{es:List Expr}{to:TE}{t:TA}{name:Str}{apos cpos:Pos}{T id:String}{r:V->List V->Hp->VK->Prop}
theorem yp(c:PlainAttrs T)(slot:Slot T name id)(d:typeOf (.builtin id)=pure (.type "method_descriptor"))(hm:MtR X id r)(e:PE X o to)
  (f:attributeBase o name X.env (eval o X.env)=eval o X.env:=by rfl) (g:(apos.endLine==cpos.line)=true:=by rfl):PE X (.Call (.Attribute o name apos) [] [] cpos) (tBM0 [] T r to):=by
 intro NI s Z H Q I h;refine LX f g (thn (e NI s Z H _ I h) λv s1 ⟨x,H1,a,b,ty,i⟩=>?_);obtain⟨h1,h2⟩:=xP a b ty;exact⟨T,id,c,slot,d,h1,h2,kh rfl (Ly (hm NI s1 Z H1 x [] v [] Q a b .nil i))⟩
theorem cA(d:PlainAttrs T)(slot:Slot T name id)(f:typeOf (.builtin id)=pure (.type "method_descriptor"))(hm:MtR X id r)(g:PE X o to)(ha:PA X (e::es) t)
  (i:attributeBase o name X.env (eval o X.env)=eval o X.env:=by rfl)
  (j:((backTo cpos (starEach (e::es) X.env)).all (λx=>!x.1)&&(backToKw cpos (keywordEach [] X.env)).all (λx=>x.1.isSome)
   && decide ((e::es).length+([]:List Keyword).length+(if ([]:List Keyword).isEmpty then 0 else 1)<30))=true:=by rfl)
  (l:(apos.endLine==cpos.line)=true:=by rfl) (m:starEach (e::es) X.env=(false,eval e X.env)::starEach es X.env:=by rfl) (n:(backTo cpos (starEach es X.env)).any (·.1)=false:=by rfl) :
  PE X (.Call (.Attribute o name apos) (e::es) [] cpos) (tBM [] T r to t):=by
 intro NI s Z H Q I h;refine LY i j l rfl (thn (g NI s Z H _ I h) λv s1 ⟨x,H1,a,b,ty,p⟩=>?_);obtain⟨h1,h2⟩:=xP a b ty;refine⟨T,id,d,slot,f,h1,h2,?_⟩;have c:=ha cpos NI s1 Z H1 _ a p;rw[m] at c |-;refine kh (by show (false||(backTo cpos (starEach es X.env)).any (·.1))=false;rw[n]<;>rfl) (ng ?_);exact thn c λus s2 ⟨vs,H2,q,u,w⟩=>hm NI s2 Z H2 x vs v us Q q b u w
end
end L2
namespace L2
open PySem PySem.Spec PyProof.Rows
def MtM(X:Cx)(id:String)(r:V->List V->Hp->VK->Prop):Prop:=
 ∀(NI:List (Addr×Obj))(s:Shared)(Z:St)(H:Hp)(x:V)(xs:List V)(v:Value)(us:List Value)(Q:VK),Inv X NI Z H s->az x v->Vals xs us->r x xs H Q->
  wpAny (model X.prog X.w) X.A (call (.builtin id) (v::us)) (EP X NI Z Q) X.xe s
theorem Vals.one{x:V}(h:Vals [x] us):∃u,us=[u]/\az x u:=by
 cases h with
 |cons r t=>cases t;exact⟨_,rfl,r⟩
theorem Vals.two{x y:V}(h:Vals [x,y] us):∃u v,us=[u,v]/\az x u/\az y v:=by
 cases h with
 |cons r t=>
  obtain⟨v,rfl,q⟩:=Vals.one t;exact⟨_,v,rfl,r,q⟩
theorem Vals.zero:∀{us:List Value},Vals [] us->us=[]
 |_,.nil=>rfl
theorem Vals.eraseIdx:∀{xs:List V}{us:List Value}(i:Nat),Vals xs us->Vals (xs.eraseIdx i) (us.eraseIdx i)
 |_,_,_,.nil=>.nil
 |_,_,0,.cons _ t=>t
 |_,_,i+1,.cons r t=>.cons r (Vals.eraseIdx i t)
theorem Vals.rep(h:Vals xs us):∀k:Nat,Vals (List.replicate k xs).flatten (List.replicate k us).flatten
 |0=>.nil
 |k+1=>by
  rw[gP,gP,gG,gG];exact Vals.append h (Vals.rep h k)
theorem vv{α:Type}:∀(l:List α)(i:Nat),(l.eraseIdx i).length<=l.length
 | [],_=>ak _
 |_::_,0=>ko _
 |_::r,i+1=>Nat.succ_le_succ (vv r i)
theorem vA(its:List Value):∀(k:Nat)(acc:List Value),
  List.foldl (λa b=>a++b) acc.toArray (List.replicate k its.toArray)=(acc++(List.replicate k its).flatten).toArray
 |0,acc=>by simp
 |k+1,acc=>by
  have e:acc.toArray++its.toArray=(acc++its).toArray:=by simp
  have c:(acc++its)++(List.replicate k its).flatten=acc++(List.replicate (k+1) its).flatten:=by rw[gP,gG,dX]
  rw[<-c,<-vA its k (acc++its),<-e,gP,jn]
section
variable {l b:Addr}{xs ys zs:List V}
theorem Inv.lset{its its':List Value}{n:Nat}{f:Array Value->Array Value}{t':Nat}(I:Inv X NI Z H s)(a:H l=some (.lst xs))
  (e:s.heap.get? l=some {cls:=.type "list",data:=.seq its.toArray n}) (hf:f its.toArray=its'.toArray) (b:Vals ys its') (c:ys.length<=sizeLine) :
  Inv X NI Z (upd H l (.lst ys)) {s with heap:=s.heap.update l (Obj.mapSeq f),toks:=t'}:=by
 have q:=PySem.IsL.update e f;rw[hf] at q;refine I.write (x:=l) (e:=l) (by rw[a];exact trivial) (.inl rfl) (λh u d g=>(dU s.heap (Obj.mapSeq f) (aB d)).trans g) ⟨_,q⟩ ?_;exact⟨c,its',_,b,q⟩
theorem Inv.lnew{its:List Value}{t':Nat}(I:Inv X NI Z H s)(a:Vals ys its)(b:ys.length<=sizeLine) :
  Inv X NI Z (upd H s.heap.objs.size (.lst ys)) {s with heap:=s.heap.push {cls:=.type "list",data:=.seq its.toArray},toks:=t'}:=
 I.laid (λ_ _ q=>aI _ q) (ak _) ⟨b,its,0,a,bq _ rfl⟩
theorem Inv.fresh(I:Inv X NI Z H s):H s.heap.objs.size=none:=I.hok.fresh (ak _)
theorem Inv.lstM(I:Inv X NI Z H s)(a:H l=some (.lst xs)):xs.length<=sizeLine/\∃(its:List Value)(n:Nat),Vals xs its/\xs.length=its.length/\s.heap.get? l=some {cls:=.type "list",data:=.seq its.toArray n}:=by obtain⟨z,its,n,r,e⟩:=I.hok l _ a;exact⟨z,its,n,r,r.length,e⟩
theorem DW{n:Nat}(h:n<=sizeLine):Builtin.List.listTooLong n=false:=by unfold Builtin.List.listTooLong;exact NG (by lia)
end
section
def Du(x:V)(vs:List V)(H:Hp)(Q:VK)(l:Addr)(xs:List V)(y:V):Prop:=x=.ref l/\vs=[y]/\H l=some (.lst xs)/\xs.length<sizeLine/\WrO H l (.lst (xs++[y])) (Q .non)
def Fb:V->List V->Hp->VK->Prop:=λx vs H Q=>Exists (Ex3 (Du x vs H Q))
theorem dP:MtM X "list.append" Fb:=by intro NI s Z H x vs v us Q I b c h;obtain⟨l,xs,y,rfl,rfl,a,f,q⟩:=h;cases b;obtain⟨u,rfl,d⟩:=c.one;obtain⟨z,its,n,r,g,e⟩:=I.lstM a;refine jw F.slot_list_append ⟨_,e,rfl⟩ F.entry_list_append (F.args_list_append_2 _ _) (PySem.list_append l its.toArray n u (by rw[a_];lia)) ⟨e,?_⟩;refine⟨.non,_,I.lset (its':=its++[u]) a e (by simp) (r.append (.cons d .nil)) ?_,rfl,q.at⟩;rw[aL,bY];lia
def E7(x:V)(vs:List V)(H:Hp)(Q:VK)(l:Addr)(xs:List V)(i:Int)(k:Nat)(y:V):Prop:=x=.ref l/\vs=[.int i]/\H l=some (.lst xs)/\-(2 ^ 63)<=i/\i<2 ^ 63/\seqIndex? i xs.length=some k/\xs[k]?=some y/\WrO H l (.lst (xs.eraseIdx k)) (Q y)
def yh:V->List V->Hp->VK->Prop:=λx vs H Q=>Exists (Ex5 (E7 x vs H Q))
theorem v_:MtM X "list.pop" yh:=by
 intro NI s Z H x vs v us Q I b c h;obtain⟨l,xs,i,k,y,rfl,rfl,a,h1,h2,d,f,q⟩:=h;cases b;obtain⟨u,rfl,g⟩:=c.one;obtain⟨t,rfl⟩:=g;obtain⟨z,its,n,r,j,e⟩:=I.lstM a;obtain⟨w,hw,m⟩:=r.get f;refine jw F.slot_list_pop ⟨_,e,rfl⟩ F.entry_list_pop (F.args_list_pop_2 _ _)
  (MeetsSeq.list_pop_at l its.toArray n i t k w (Am h1 h2) (by rw[a_,<-j];exact d) (by rw[<-iD];exact hw) (by rw[a_];lia)) ⟨e,?_⟩
 refine⟨y,_,I.lset (its':=its.eraseIdx k) a e ?_ (r.eraseIdx k) ?_,m,q.at⟩
 .show its.toArray.eraseIdxIfInBounds k=(its.eraseIdx k).toArray;rw[List.eraseIdxIfInBounds_toArray]
 have:=vv xs k;lia
def JE(x y:V)(H:Hp)(Q:VK)(l b:Addr)(xs zs:List V):Prop:=x=.ref l/\y=.ref b/\H l=some (.lst xs)/\H b=some (.lst zs)/\xs.length+zs.length<=sizeLine/\fE H (.lst (xs++zs)) Q
def rCat:R2:=λx y H Q=>Exists (Ex4 (JE x y H Q))
theorem i8:OpR X (binaryOp .Add) rCat:=by
 intro NI s Z H x y v u Q I c d h;obtain⟨l,b,xs,zs,rfl,rfl,f,g,o,q⟩:=h;cases c;cases d;obtain⟨z,its,n,r,p,e⟩:=I.lstM f;obtain⟨w,a,A,i,B,j⟩:=I.lstM g;refine PySem.P.add_list e j ?_ (by rw[a_,a_];lia);have m:its.toArray++a.toArray=(its++a).toArray:=by simp
 rw[m];exact⟨.ref _,_,I.lnew (t':=s.toks) (r.append i) (by rw[aL];lia),rfl,q.at I.fresh⟩
def rRep:R2:=λx y H Q=>∃l k xs,x=.ref l/\y=.int k/\H l=some (.lst xs)/\-(2 ^ 63)<=k/\k<2 ^ 63/\xs.length*k.toNat<=sizeLine/\
 ∀p,H p=none->Q (.ref p) (upd H p (.lst (List.replicate k.toNat xs).flatten))
theorem FB{α:Type}(xs:List α)(k:Nat):(List.replicate k xs).flatten.length=k*xs.length:=by
 induction k with
 |zero=>simp
 |succ k a=>rw[gP,gG,aL,a,p_,Nat.add_comm]
theorem yq:OpR X (binaryOp .Mult) rRep:=by
 intro NI s Z H x y v u Q I f g h;obtain⟨l,k,xs,rfl,rfl,i,h1,h2,d,q⟩:=h;cases f;obtain⟨t,rfl⟩:=g;obtain⟨z,its,n,r,j,e⟩:=I.lstM i;have hlen:its.toArray.size*k.toNat<=sizeLine:=by rw[a_,<-j];exact d
 have o:¬its.toArray.size*k.toNat>(2 ^ 63-1)/8:=by
  have:(sizeLine:Nat)<=(2 ^ 63-1)/8:=by decide
  lia
 have p:¬(!Builtin.List.listFitsIndex k)=true:=by rw[Am h1 h2];exact bu
 have w:¬Builtin.List.listTooLong (its.toArray.size*k.toNat)=true:=by rw[DW hlen];exact bu
 have A:List.foldl (λb c=>b++c) #[] (List.replicate (if its.toArray.isEmpty=true then 0 else k.toNat) its.toArray)=(List.replicate k.toNat its).flatten.toArray:=by
  have B:∀m:Nat,List.foldl (λb c=>b++c) #[] (List.replicate m its.toArray)=(List.replicate m its).flatten.toArray:=λm=>by
   have:=vA its m [];rw[p6] at this;exact this
  rw[B];cases its with
  |nil=>simp
  |cons a C=>rw[NC (by simp)]
 refine wpAny_binaryOp_repeat_ref (T:="list") (U:="int") (by decide) ⟨_,e,rfl⟩ (λs'=>Aq s' k t) noFill_list_mul F.fills_int_mul F.slot_int_rmul repeat_list F.slot_int_index.lookup
  (jw F.slot_int_rmul (Aq s k t) F.entry_int_rmul (F.args_int_rmul_2 _ _) (int___rmul___int_list k t l its.toArray n)
   ⟨e,rfl,⟨_,e,rfl⟩,jw F.slot_list_mul ⟨_,e,rfl⟩ F.entry_list_mul (F.args_list_mul_2 _ _) (AutoListH.list___mul___list_int_3 l its.toArray n k t p o w) ⟨e,?_⟩⟩)
 rw[A];exact⟨.ref _,_,I.lnew (t':=s.toks) (r.rep k.toNat) (by rw[FB,zU];exact d),rfl,q _ I.fresh⟩
end
section
variable {prog:Program}
set_option maxRecDepth 100000 in
end
section
end
end L2
namespace L2
open PySem PySem.Spec PyProof.Rows
section
variable {κ:Type}[DecidableEq κ]
def bh(kvs:List (κ×V))(k:κ):Option V:=(kvs.find? λa=>decide (a.1=k)).map (·.2)
def cL(kvs:List (κ×V))(k:κ)(v:V):List (κ×V):=
 if (kvs.any λa=>decide (a.1=k))=true then kvs.map (λa=>if a.1=k then (a.1,v) else a) else kvs++[(k,v)]
def je(kvs:List (κ×V))(k:κ):List (κ×V):=kvs.filter λa=>decide (a.1≠k)
theorem hV{p:κ×V}{r:List (κ×V)}{k:κ}(e:p.1=k):bh (p::r) k=some p.2:=by simp[bh,nr,e]
theorem fR{p:κ×V}{r:List (κ×V)}{k:κ}(e:¬p.1=k):bh (p::r) k=bh r k:=by simp[bh,nr,e]
theorem oh(k:κ):∀kvs:List (κ×V),(kvs.any λa=>decide (a.1=k))=(bh kvs k).isSome
 | []=>rfl
 |p::r=>by
  rw[pW];by_cases e:p.1=k
  .simp only[hV e,NF e,Kd,Option.isSome_some]
  rw[fR e,NG e,sX];exact oh k r
theorem qr(kvs:List (κ×V))(k:κ)(v:V):(cL kvs k v).length<=kvs.length+1:=by
 unfold cL
 split
 .rw[ao];lia
 rw[aL,bz,gI];lia
theorem om{kvs:List (κ×V)}{k:κ}(v:V)(h:bh kvs k=none):cL kvs k v=kvs++[(k,v)]:=by unfold cL;rw[oh,h];exact NC (by decide)
theorem cM.isSome_eq{o:Option V}{u:Option Value}(r:cM o u):o.isSome=u.isSome:=by
 cases o with
 |none=>cases u with
  |none=>rfl
  |some _=>exact (show False from r).elim
 |some _=>cases u with
  |none=>exact (show False from r).elim
  |some _=>rfl
theorem cM.getD{o:Option V}{u:Option Value}{d:V}{d':Value}(r:cM o u)(rd:az d d'):az (o.getD d) (u.getD d'):=by
 cases o with
 |none=>cases u with
  |none=>exact rd
  |some _=>exact (show False from r).elim
 |some _=>cases u with
  |none=>exact (show False from r).elim
  |some _=>exact r
theorem KV.val{kvs:List (κ×V)}{vs:List (κ×Value)}(r:KV kvs vs)(k:κ):cM (bh kvs k) (valueAt vs k):=by
 unfold KV at r;induction r with
 |nil=>exact True.intro
 | @cons p q ps a h t d=>
  obtain⟨h1,h2⟩:=h;by_cases e:p.1=k
  .have c:q.1=k:=h1.symm.trans e;have b:valueAt (q::a) k=some q.2:=by simp[valueAt,nr,c]
   rw[hV e,b];exact h2
  have c:¬q.1=k:=λz=>e (h1.trans z);have b:valueAt (q::a) k=valueAt a k:=by simp[valueAt,nr,c]
  rw[fR e,b];exact d
theorem KV.any{kvs:List (κ×V)}{vs:List (κ×Value)}(r:KV kvs vs)(k:κ):(kvs.any λa=>decide (a.1=k))=vs.any λa=>decide (a.1=k):=by
 unfold KV at r;induction r with
 |nil=>rfl
 |cons h t b=>rw[pW,pW,b,h.1]
theorem KV.repl{kvs:List (κ×V)}{vs:List (κ×Value)}(r:KV kvs vs)(k:κ){y:V}{u:Value}(b:az y u) :
  KV (kvs.map λa=>if a.1=k then (a.1,y) else a) (vs.map λa=>if a.1=k then (a.1,u) else a):=by
 unfold KV at r |-;induction r with
 |nil=>exact .nil
 | @cons p q ps d h t c=>
  rw[aU,aU];refine .cons ?_ c;obtain⟨h1,h2⟩:=h;by_cases e:p.1=k
  .rw[ND e,ND (h1.symm.trans e)];exact⟨h1,b⟩
  rw[NC e,NC (λz=>e (h1.trans z))];exact⟨h1,h2⟩
theorem KV.put{kvs:List (κ×V)}{vs:List (κ×Value)}(r:KV kvs vs)(k:κ){y:V}{u:Value}(a:az y u):KV (cL kvs k y) (stored vs k u):=by
 unfold cL stored;rw[r.any k];by_cases e:(vs.any λb=>decide (b.1=k))=true
 .rw[ND e,ND e];exact r.repl k a
 rw[NC e,NC e];exact KW r ⟨rfl,a⟩
theorem KV.drop{kvs:List (κ×V)}{vs:List (κ×Value)}(r:KV kvs vs)(k:κ):KV (je kvs k) (without vs k):=by
 unfold KV at r |-;unfold je without;induction r with
 |nil=>exact .nil
 | @cons p q ps f h t c=>
  obtain⟨h1,h2⟩:=h;rw[eN,eN];by_cases e:p.1=k
  .have a:¬decide (p.1≠k)=true:=by simp[e]
   have b:¬decide (q.1≠k)=true:=by simp[h1.symm.trans e]
   rw[NC a,NC b];exact c
  have d:¬q.1=k:=λz=>e (h1.trans z);have a:decide (p.1≠k)=true:=by simp[e]
  have b:decide (q.1≠k)=true:=by simp[d]
  rw[ND a,ND b];exact .cons ⟨h1,h2⟩ c
theorem KV.length{kvs:List (κ×V)}{vs:List (κ×Value)}(r:KV kvs vs):kvs.length=vs.length:=nF r
theorem Ek(kvs:List (κ×V))(k:κ):(je kvs k).length<=kvs.length:=jo _ _
end
theorem iy{k:Key}{u:Value}(r:az (kV k) u):(cG P w).is k u=true:=by
 cases k with
 |inl i=>obtain⟨t,e⟩:=(show ∃t,u=Value.int i t from r);subst e;exact Bc P w i t
 |inr x=>obtain⟨t,e⟩:=(show ∃t,u=Value.str x t from r);subst e;exact Bb P w x t
theorem vx:∀{ks:List Key}{us:List Value},Vals (ks.map kV) us->ItemsAre (cG P w) ks us
 | [],_,r=>by rw[zL] at r;cases r;exact .nil
 |k::ks,_,r=>by
  rw[aU] at r;cases r with
  |cons h t=>exact .cons (iy h) (vx t)
abbrev KT(H:Hp):List (List Key×V)->List (List Key×Addr×Value)->Prop:=Paired λp q=>p.1=q.1/\H q.2.1=some (.tup (p.1.map kV))/\az p.2 q.2.2
theorem KT.val{kvs:List (List Key×V)}{xs:List (List Key×Addr×Value)}(r:KT H kvs xs)(k:List Key):cM (bh kvs k) ((atKey xs k).map (·.2)):=by
 induction r with
 |nil=>exact True.intro
 | @cons p q ps a h t d=>
  obtain⟨h1,_,h2⟩:=h;by_cases e:p.1=k
  .have c:q.1=k:=h1.symm.trans e;have b:atKey (q::a) k=some q.2:=by simp[atKey,nr,c]
   rw[hV e,b];exact h2
  have c:¬q.1=k:=λz=>e (h1.trans z);have b:atKey (q::a) k=atKey a k:=by simp[atKey,nr,c]
  rw[fR e,b];exact d
theorem KT.repl{kvs:List (List Key×V)}{xs:List (List Key×Addr×Value)}(r:KT H kvs xs)(k:List Key){y:V}{u:Value}(b:az y u) :
  KT H (kvs.map λa=>if a.1=k then (a.1,y) else a) (xs.map (putAt k u)):=by
 induction r with
 |nil=>exact .nil
 | @cons p q ps f h t c=>
  rw[aU,aU];refine .cons ?_ c;obtain⟨h1,h2,d⟩:=h;unfold putAt;by_cases e:p.1=k
  .rw[ND e,ND (h1.symm.trans e)];exact⟨h1,h2,b⟩
  rw[NC e,NC (λz=>e (h1.trans z))];exact⟨h1,h2,d⟩
theorem KT.put{kvs:List (List Key×V)}{xs:List (List Key×Addr×Value)}(r:KT H kvs xs)(k:List Key){b:Addr}{y:V}{u:Value}(c:H b=some (.tup (k.map kV)))(a:az y u) :
  KT H (cL kvs k y) (storedH xs k b u):=by
 have e:(kvs.any λd=>decide (d.1=k))=(atKey xs k).isSome:=by rw[oh,(r.val k).isSome_eq,zZ]
 unfold cL storedH;rw[e];by_cases q:(atKey xs k).isSome=true
 .rw[ND q,ND q];exact r.repl k a
 rw[NC q,NC q];exact KW r ⟨rfl,c,a⟩
theorem KT.keeps{kvs:List (List Key×V)}{xs:List (List Key×Addr×Value)}(r:KT H kvs xs)(a:∀b ys,H b=some (.tup ys)->H' b=some (.tup ys)):KT H' kvs xs:=
 Paired.mapP r λ_ _ z=>⟨z.1,a _ _ z.2.1,z.2.2⟩
section
variable {h:Heap}{a:Addr}
theorem za{u:HO}(ok:HOk P w H h)(e:Rd H a u):aV P w H h a u:=e.ok ok
theorem eU{kvs:List (Key×V)}(ok:HOk P w H h)(e:Rd H a (.dK kvs)):kvs.length<=sizeLine/\(a==sysModules)=false/\∃vs,KV kvs vs/\h.DictOf (cG P w) a vs:=
 show aV P w H h a (.dK kvs) from za ok e
theorem pI{kvs:List (Key×V)}(ok:HOk P w H h)(e:H a=some (.dK kvs)):kvs.length<=sizeLine/\(a==sysModules)=false/\∃vs,KV kvs vs/\h.DictOf (cG P w) a vs:=eU ok (.inl e)
theorem j4{ks:List Key}(ok:HOk P w H h)(e:H a=some (.tup (ks.map kV))):(tupleKind (cG P w)).is h ks a:=by obtain⟨_,its,r,o,h1,h2,n,b⟩:=(show aV P w H h a (.tup (ks.map kV)) from ok a _ e);exact⟨o,its.toArray,n,h1,h2,b,by simpa using vx r⟩
theorem iA{kvs:List (List Key×V)}(ok:HOk P w H h)(e:Rd H a (.dT kvs)):kvs.length<=sizeLine/\(a==sysModules)=false/\
  ∃xs,KT H kvs xs/\h.DictOfH (tupleKind (cG P w)) a xs:=by
 obtain⟨z,y,xs,r,o,es,ep,h1,h2,c,d,f⟩:=(show aV P w H h a (.dT kvs) from za ok e);refine⟨z,y,xs,r,o,es,ep,h1,h2,c,d,λx hx=>?_,f⟩;have all:∀{l:List (List Key×V)}{m:List (List Key×Addr×Value)},KT H l m->∀x∈m,(tupleKind (cG P w)).is h x.1 x.2.1:=by
  intro l m q;induction q with
  |nil=>intro x hx;exact nomatch hx
  | @cons p q ps i b t g=>
   intro x hx;rcases aK.mp hx with e|hx
   .subst e;exact j4 ok (by rw[<-b.1];exact b.2.1)
   exact g x hx
 exact all r x hx
theorem zl{kvs:List (List Key×V)}(ok:HOk P w H h)(e:H a=some (.dT kvs)):kvs.length<=sizeLine/\(a==sysModules)=false/\
  ∃xs,KT H kvs xs/\h.DictOfH (tupleKind (cG P w)) a xs:=iA ok (.inl e)
end
def DGet(H:Hp)(a:Addr)(y:V)(r:Option V):Prop:=
 (∃kvs k,Rd H a (.dK kvs)/\y=kV k/\r=bh kvs k)\/∃kvs k b,Rd H a (.dT kvs)/\y=.ref b/\H b=some (.tup (k.map kV))/\r=bh kvs k
def DPut(H:Hp)(a:Addr)(y v:V)(H':Hp):Prop:=
 (∃kvs k,H a=some (.dK kvs)/\y=kV k/\kvs.length<sizeLine/\H'=upd H a (.dK (cL kvs k v))) \/
 ∃kvs k b,H a=some (.dT kvs)/\y=.ref b/\H b=some (.tup (k.map kV))/\kvs.length<sizeLine/\H'=upd H a (.dT (cL kvs k v))
theorem DGet.k{a:Addr}{kvs:List (Key×V)}{k:Key}(e:H a=some (.dK kvs)):DGet H a (kV k) (bh kvs k):=.inl ⟨kvs,k,.inl e,rfl,rfl⟩
theorem DGet.t{a b:Addr}{kvs:List (List Key×V)}{k:List Key}(e:H a=some (.dT kvs))(c:H b=some (.tup (k.map kV))):DGet H a (.ref b) (bh kvs k):=.inr ⟨kvs,k,b,.inl e,rfl,c,rfl⟩
theorem DPut.k{a:Addr}{kvs:List (Key×V)}{k:Key}{v:V}(e:H a=some (.dK kvs))(b:kvs.length<sizeLine):DPut H a (kV k) v (upd H a (.dK (cL kvs k v))):=.inl ⟨kvs,k,e,rfl,b,rfl⟩
theorem DPut.t{a b:Addr}{kvs:List (List Key×V)}{k:List Key}{v:V}(e:H a=some (.dT kvs))(c:H b=some (.tup (k.map kV)))(d:kvs.length<sizeLine) :
  DPut H a (.ref b) v (upd H a (.dT (cL kvs k v))):=.inr ⟨kvs,k,b,e,rfl,c,d,rfl⟩
section
variable {a:Addr}{y v:V}{u r:Value}{o:Option V}
theorem Inv.big(I:Inv X NI Z H s):sysModules<s.heap.objs.size:=by have h:mainGlobals<s.heap.objs.size:=(I.mod.glob.keeps I.bk).lt;exact nA (by decide) h
theorem CF{Q:Value->Shared->Prop}(j:A.units+1<cLine)(I:Inv X NI Z H s)(g:DGet H a y (some v))(i:az y u)(h:∀c s',Inv X NI Z H s'->az v c->Q c s') :
  wpAny (model X.prog X.w) A (getItem (.ref a) u) Q E s:=by
 rcases g with ⟨kvs,k,e,d,l⟩|⟨kvs,k,b,e,d,m,l⟩
 .subst d;obtain⟨z,hd,vs,rel,dd⟩:=eU I.hok e;obtain⟨c,hw,f⟩:=cM.some_of (v:=v) (o:=valueAt vs k) (by rw[l];exact rel.val k);exact wpAny_getItem_of (iy i) dd.mapOf hw (h c _ (I.tok _) f)
 subst d;cases (show u=Value.ref b from i);obtain⟨z,hd,xs,rel,dd⟩:=iA I.hok e;obtain⟨c,hw,f⟩:=cM.some_of (v:=v) (o:=(atKey xs k).map (·.2)) (by rw[l];exact rel.val k);obtain⟨p,n,q⟩:=bW.mp hw;refine wpAny_getItem_heap (qg j) (j4 I.hok m) dd n ?_;rw[q];exact h c _ (I.tok _) f
theorem d_in{Q:Value->Shared->Prop}(f:A.units+1<cLine)(I:Inv X NI Z H s)(g:DGet H a y o)(d:az y u)(h:∀s',Inv X NI Z H s'->Q (.bool o.isSome) s') :
  wpAny (model X.prog X.w) A (compareOp .In u (.ref a)) Q E s:=by
 rcases g with ⟨kvs,k,e,c,l⟩|⟨kvs,k,b,e,c,i,l⟩
 .subst c;obtain⟨z,hd,vs,rel,dd⟩:=eU I.hok e;refine wpAny_in_of (iy d) hd dd.mapOf ?_;rw[<-(rel.val k).isSome_eq,<-l];exact h _ (I.tok _)
 subst c;cases (show u=Value.ref b from d);obtain⟨z,hd,xs,rel,dd⟩:=iA I.hok e;refine wpAny_in_heap (qg f) (j4 I.hok i) hd dd ?_;have q:=(rel.val k).isSome_eq;rw[zZ] at q;rw[<-q,<-l];exact h _ (I.tok _)
theorem FQ{Q:Value->Shared->Prop}(f:A.units+1<cLine)(I:Inv X NI Z H s)(g:DGet H a y o)(d:az y u)(h:∀s',Inv X NI Z H s'->Q (.bool (!o.isSome)) s') :
  wpAny (model X.prog X.w) A (compareOp .NotIn u (.ref a)) Q E s:=by
 rcases g with ⟨kvs,k,e,c,l⟩|⟨kvs,k,b,e,c,i,l⟩
 .subst c;obtain⟨z,hd,vs,rel,dd⟩:=eU I.hok e;refine wpAny_notIn_of (iy d) hd dd.mapOf ?_;rw[<-(rel.val k).isSome_eq,<-l];exact h _ (I.tok _)
 subst c;cases (show u=Value.ref b from d);obtain⟨z,hd,xs,rel,dd⟩:=iA I.hok e;refine wpAny_notIn_heap (qg f) (j4 I.hok i) hd dd ?_;have q:=(rel.val k).isSome_eq;rw[zZ] at q;rw[<-q,<-l];exact h _ (I.tok _)
theorem oP{h':Heap}{t':Nat}{c:HO}(I:Inv X NI Z H s)(d:Mut (H a))(f:Heap.SameBut a s.heap h')(he:∃q,h'.get? a=some q)(new:aV X.prog X.w (upd H a c) h' a c) :
  Inv X NI Z (upd H a c) {s with heap:=h',toks:=t'}:=
 I.write (x:=a) (e:=a) d (.inl rfl) (λb q g z=>(f.2 b g).trans z) he new
theorem pz{H':Hp}{h':Heap}{kvs:List (Key×V)}{vs:List (Key×Value)}(z:kvs.length<=sizeLine)(hd:(a==sysModules)=false)(rel:KV kvs vs)(dd:h'.DictOf (cG P w) a vs) :
  aV P w H' h' a (.dK kvs):=⟨z,hd,vs,rel,dd⟩
theorem CD{H':Hp}{Q:Unit->Shared->Prop}(D:A.units+1<cLine)(I:Inv X NI Z H s)(g:DPut H a y v H')(p:az y u)(x:az v r)(h:∀s',Inv X NI Z H' s'->Q () s') :
  wpAny (model X.prog X.w) A (setItem (.ref a) u r) Q E s:=by
 rcases g with ⟨kvs,k,e,i,l,j⟩|⟨kvs,k,b,e,i,B,l,j⟩
 .subst i j;obtain⟨z,hd,vs,rel,dd⟩:=pI I.hok e;have m:vs.length<=sizeLine:=by rw[<-rel.length];exact z
  have n:(cL kvs k v).length<=sizeLine:=by have:=qr kvs k v;lia
  refine wpAny_setItem_pairs (hsz:=m) (iy p) dd λh' d o=>h _ ?_;have he:∃q,h'.get? a=some q:=let ⟨q,_,_,f,_⟩:=d;⟨q,f⟩;exact oP I (by rw[e];exact True.intro) o he (pz n hd (rel.put k x) d)
 subst i j;cases (show u=Value.ref b from p);obtain⟨z,hd,xs,rel,dd⟩:=zl I.hok e;have m:xs.length<=sizeLine:=by rw[<-nF rel];exact z
 have n:(cL kvs k v).length<=sizeLine:=by have:=qr kvs k v;lia
 refine wpAny_setItem_heap (hsz:=m) (qg D) (j4 I.hok B) dd λh' d o=>h _ ?_;obtain⟨q,es,ep,f,h2,K,L,_,M⟩:=d;refine oP I (by rw[e];exact True.intro) o ⟨q,f⟩ ⟨n,hd,_,(rel.put k B x).keeps λc ys C=>?_,q,es,ep,f,h2,K,L,M⟩;rw[ar (bO C e (λz=>nomatch z))];exact C
end
section
variable {a:Addr}{kvs:List (Key×V)}{k:Key}{u:Value}
theorem JX{v:V}{more:List Value}{Q:Value->Shared->Prop}(I:Inv X NI Z H s)(e:H a=some (.dK kvs))(c:az (kV k) u)(l:bh kvs k=some v)(hm:more=[]\/∃x,more=[x])
  (h:∀b s',Inv X NI Z (upd H a (.dK (je kvs k))) s'->az v b->Q b s'):wpAny (model X.prog X.w) A (call (.builtin "dict.pop") (.ref a::u::more)) Q E s:=by
 obtain⟨z,hd,vs,rel,dd⟩:=pI I.hok e;obtain⟨b,hw,f⟩:=cM.some_of (v:=v) (o:=valueAt vs k) (by rw[<-l];exact rel.val k);have g:(keyPart u).isSome=true:=by
  cases k with
  |inl i=>obtain⟨t,q⟩:=(show ∃t,u=Value.int i t from c);subst q;rfl
  |inr x=>obtain⟨t,q⟩:=(show ∃t,u=Value.str x t from c);subst q;rfl
 have ha:argsOk "dict.pop" ⟨.ref a::u::more,[]⟩:=by
  rcases hm with q|⟨x,q⟩
  .subst q;exact PySem.F.args_dict_pop_2 _ _
  subst q;exact PySem.F.args_dict_pop_3 _ _ _
 refine qe Lh dd.typeIs PySem.F.entry_dict_pop ha (meets_dict_pop_there (cG X.prog X.w) a (iy c) more hm g)
  ⟨vs,b,dd,by rw[<-rel.length];exact z,hw,λh' d j=>h b _ ?_ f⟩
 have he:∃q,h'.get? a=some q:=let ⟨q,_,_,m,_⟩:=d;⟨q,m⟩;exact oP I (by rw[e];exact True.intro) j he (pz (br (Ek kvs k) z) hd (rel.drop k) d)
theorem JY{Q:Value->Shared->Prop}(I:Inv X NI Z H s)(e:Rd H a (.dK kvs))(h:∀t s',Inv X NI Z H s'->Q (.int kvs.length t) s'):wpAny (model X.prog X.w) A (call (.builtin "len") [.ref a]) Q E s:=by obtain⟨z,hd,vs,rel,dd⟩:=eU I.hok e;refine call_len_dict hd dd (by rw[<-rel.length];rw[dg] at z;lia) ?_;rw[<-rel.length];exact h _ _ (I.tok _)
end
def NoSl(i:Expr):Prop:=∀ov a,subscripted i false ov a=operate [ov,a] (getItem ov a)
theorem EH{prog:Program}{env:Env}{value slice:Expr}{pos:Pos}{T id:String}{Q:Value->Shared->Prop}
  (b:typeLookup (.type T) "__getitem__" = pure (some (.builtin id))) (c:NoSl slice)
  (h:wpAny (model prog w) A (eval value env) (λo s₁=>wpAny (model prog w) A (eval slice env) (λi s₂=>s₂.TypeIs o T/\wpAny (model prog w) A (getItem o i) Q E s₂) E s₁) E s) :
  wpAny (model prog w) A (eval (.Subscript value slice pos) env) Q E s:=by
 refine Ai (cC h (λo s₁ h₁=>cC h₁ (λi s₂ h₂=>?_) λ_ _ x=>x) λ_ _ x=>x);obtain⟨a,h₂⟩:=h₂;unfold subscriptTail;refine aa ?_;rw[getitemInPython_of_ne a.not_modules];refine aa (Mp a b ?_);have fin:wpAny (model prog w) A (subscripted slice false o i) (λr s₃=>wpAny (model prog w) A (letTemporaryGo value o r >>= λ_=>pure r) Q E s₃) E s₂:=by rw[c o i];exact wpAny_operating (cC h₂ (λr s₃ h₃=>aa (wpAny_letTemporaryGo (ag h₃))) λ_ _ x=>x)
 first
  |exact ag (aa fin)
  |exact aa (ag (aa fin))
  |exact aa fin
theorem Bh{a:Addr}{y:V}{o:Option V}(I:Inv X NI Z H s)(g:DGet H a y o):s.TypeIs (.ref a) "dict":=by
 rcases g with ⟨kvs,k,e,_,_⟩|⟨kvs,k,b,e,_,_,_⟩
 .obtain⟨_,_,vs,_,dd⟩:=eU I.hok e;exact dd.typeIs
 obtain⟨_,_,xs,_,dd⟩:=iA I.hok e;exact dd.typeIs
def Gm(x y:V)(H2:Hp)(Q:VK)(a:Addr)(v:V):Prop:=x=.ref a/\DGet H2 a y (some v)/\Q v H2
def EG(x:V)(Q:VK):VK:=λy H2=>Exists (Ex2 (Gm x y H2 Q))
def Gk(ty:TE)(Z:St)(Q:VK):VK:=λx H1=>ty Z H1 (EG x Q)
def sq(td ty:TE):TE:=λZ H Q=>td Z H (Gk ty Z Q)
def I0(x y:V)(H2:Hp)(Q:VK)(a:Addr)(o:Option V):Prop:=x=.ref a/\DGet H2 a y o/\Q (.bl o.isSome) H2
def I_(y:V)(Q:VK):VK:=λx H2=>Exists (Ex2 (I0 x y H2 Q))
def Ja(td:TE)(Z:St)(Q:VK):VK:=λy H1=>td Z H1 (I_ y Q)
def tDIn(ty td:TE):TE:=λZ H Q=>ty Z H (Ja td Z Q)
def CY(x y:V)(H2:Hp)(Q:VK)(a:Addr)(o:Option V):Prop:=x=.ref a/\DGet H2 a y o/\Q (.bl (!o.isSome)) H2
def CZ(y:V)(Q:VK):VK:=λx H2=>Exists (Ex2 (CY x y H2 Q))
def C1(td:TE)(Z:St)(Q:VK):VK:=λy H1=>td Z H1 (CZ y Q)
def EF(ty td:TE):TE:=λZ H Q=>ty Z H (C1 td Z Q)
def GQ(D:Ends)(Z:St)(v x y:V)(c:Hp)(a:Addr)(b:Hp):Prop:=x=.ref a/\DPut c a y v b/\D.nx Z b
def GU(D:Ends)(Z:St)(v x:V):VK:=λy a=>Exists (Ex2 (GQ D Z v x y a))
def GV(ty:TE)(D:Ends)(Z:St)(v:V):VK:=λx H2=>ty Z H2 (GU D Z v x)
def GX(td ty:TE)(D:Ends)(Z:St):VK:=λv H1=>td Z H1 (GV ty D Z v)
def Jo(td ty tv:TE):TS:=λD Z H=>tv Z H (GX td ty D Z)
section
variable {o i e value:Expr}{pos pos' tpos:Pos}{td ty tv:TE}
theorem jP(c:X.A.units+1<cLine)(d:PE X o td)(hi:PE X i ty)(e:NoSl i):PE X (.Subscript o i pos) (sq td ty):=by intro NI s Z H Q I h;refine EH PySem.F.slot_dict_getitem.lookup e (thn (d NI s Z H _ I h) λu s1 ⟨x,H1,f,j,l⟩=>thn (hi NI s1 Z H1 _ f l) λr s2 ⟨y,H2,b,m,a,v,ex,g,n⟩=>?_);subst ex;obtain rfl:u=Value.ref a:=j;exact⟨Bh b g,CF c b g m λw z p q=>⟨v,H2,p,q,n⟩⟩
theorem rW(b:X.A.units+1<cLine)(hi:PE X i ty)(c:PE X o td):PC X .In i o (tDIn ty td):=by intro NI s Z H Q I h;refine thn (hi NI s Z H _ I h) λp s1 ⟨y,H1,d,e,f⟩=>thn (c NI s1 Z H1 _ d f) λu s2 ⟨x,H2,j,l,a,ov,ex,g,m⟩=>?_;subst ex;obtain rfl:u=Value.ref a:=l;exact d_in b j g e λq n=>⟨.bl ov.isSome,H2,n,rfl,m⟩
theorem vh(b:X.A.units+1<cLine)(hi:PE X i ty)(c:PE X o td):PC X .NotIn i o (EF ty td):=by intro NI s Z H Q I h;refine thn (hi NI s Z H _ I h) λp s1 ⟨y,H1,d,e,f⟩=>thn (c NI s1 Z H1 _ d f) λu s2 ⟨x,H2,j,l,a,ov,ex,g,m⟩=>?_;subst ex;obtain rfl:u=Value.ref a:=l;exact FQ b j g e λq n=>⟨.bl (!ov.isSome),H2,n,rfl,m⟩
theorem iW(b:X.A.units+1<cLine)(c:PE X o td)(hi:PE X i ty)(d:PE X value tv)(e:swapsWith value (some (.Subscript o i pos')) pos.line X.env=pure false) :
  PS X (.Assign [.Subscript o i pos'] value pos) (Jo td ty tv):=by
 intro NI s Z H D I h;refine wpAny_Assign_Subscript (thn (d NI s Z H _ I h) λr s1 ⟨v,H1,f,j,l⟩=>thn (c NI s1 Z H1 _ f l) λu s2 ⟨x,H2,m,n,p⟩=>thn (hi NI s2 Z H2 _ m p) λE K ⟨y,L,q,w,a,z,ex,g,B⟩=>?_) e;subst ex;obtain rfl:u=Value.ref a:=n;exact CD b q g w j λM C=>⟨Z,z,C,B⟩
end
theorem Em(h:Heap)(a:sysModules<h.objs.size):aV P w H (h.push {cls:=.type "dict",data:=.dict #[]}) h.objs.size (.dK []):=
 ⟨aJ _,beq_eq_false_iff_ne.mpr (aB (bc a)),[],.nil,Mq h⟩
theorem Ej(h:Heap)(a:sysModules<h.objs.size):aV P w H (h.push {cls:=.type "dict",data:=.dict #[]}) h.objs.size (.dT []):=
 ⟨aJ _,beq_eq_false_iff_ne.mpr (aB (bc a)),[],.nil,_,#[],0,bq _ rfl,⟨rfl,rfl,rfl⟩,rfl,rfl,kl⟩
def Gj:TE:=λ_ H Q=>fE H (.dK []) Q
def Gi:TE:=λ_ H Q=>fE H (.dT []) Q
section
variable {pos:Pos}
theorem ou:PE X (.Dict [] [] pos) Gj:=λNI s Z H Q I h=>
 L5 ⟨.ref s.heap.objs.size,_,I.laid (a:=s.heap.objs.size) (o:=.dK []) (t':=s.toks) (λ_ _ q=>aI _ q) (ak _) (Em s.heap I.big),rfl,fE.at h (I.hok.fresh (ak _))⟩
theorem vZ:PE X (.Dict [] [] pos) Gi:=λNI s Z H Q I h=>
 L5 ⟨.ref s.heap.objs.size,_,I.laid (a:=s.heap.objs.size) (o:=.dT []) (t':=s.toks) (λ_ _ q=>aI _ q) (ak _) (Ej s.heap I.big),rfl,fE.at h (I.hok.fresh (ak _))⟩
end
structure M1(X:Cx)(o:Expr)(m:Str)(apos:Pos)(e:Expr)(cpos:Pos):Prop where
 base:attributeBase o m X.env (eval o X.env)=eval o X.env
 few:((backTo cpos (starEach [e] X.env)).all (λx=>!x.1)&&(backToKw cpos (keywordEach [] X.env)).all (λx=>x.1.isSome)
  && decide (([e]:List Expr).length+([]:List Keyword).length+(if ([]:List Keyword).isEmpty then 0 else 1)<30))=true
 line:(apos.endLine==cpos.line)=true
 trees:backTo cpos (starEach [e] X.env)=[(false,eval e X.env)]
def IsD(H:Hp)(a:Addr):Prop:=(∃kvs,Rd H a (.dK kvs))\/∃kvs,Rd H a (.dT kvs)
theorem r9{a:Addr}(I:Inv X NI Z H s)(d:IsD H a) :
  s.TypeIs (.ref a) "dict"/\(∀b,Value.ref a=.ref b->∃c,s.heap.get? b=some c/\c.dict=none)/\(a==sysModules)=false:=by
 rcases d with ⟨kvs,e⟩|⟨kvs,e⟩
 .obtain⟨_,hd,vs,_,dd⟩:=eU I.hok e;refine⟨dd.typeIs,λb q=>?_,hd⟩;cases q;obtain⟨c,_,_,h1,h2,_⟩:=dd;exact⟨c,h1,h2.2.1⟩
 obtain⟨_,hd,xs,_,dd⟩:=iA I.hok e;refine⟨dd.typeIs,λb q=>?_,hd⟩;cases q;obtain⟨c,_,_,h1,h2,_⟩:=dd;exact⟨c,h1,h2.2.1⟩
section
variable {a:Addr}{y d:V}{u r:Value}{o:Option V}
theorem Iu{Q:Value->Shared->Prop}(i:A.units+1<cLine)(I:Inv X NI Z H s)(g:DGet H a y o)(d:az y u)(h:∀f s',Inv X NI Z H s'->az (o.getD .non) f->Q f s') :
  wpAny (model X.prog X.w) A (call (.builtin "dict.get") [.ref a,u]) Q E s:=by
 rcases g with ⟨kvs,k,e,c,l⟩|⟨kvs,k,b,e,c,j,l⟩
 .subst c;obtain⟨z,hd,vs,rel,dd⟩:=eU I.hok e;refine qe Aa dd.typeIs K9 (K5 _ _) (meets_dict_get (cG X.prog X.w) a (iy d) hd) ⟨_,dd.mapOf,h _ _ (I.tok _) ?_⟩;rw[l];exact (rel.val k).getD rfl
 subst c;cases (show u=Value.ref b from d);obtain⟨z,hd,xs,rel,dd⟩:=iA I.hok e;refine qe Aa dd.typeIs K9 (K5 _ _) (meetsH_dict_get (tupleKind (cG X.prog X.w)) a b hd) ⟨qg i,k,xs,j4 I.hok j,dd,h _ _ (I.tok _) ?_⟩;rw[l];exact (rel.val k).getD rfl
end
def Jd(a:Addr)(Q:VK)(y:V)(H2:Hp)(o:Option V):Prop:=DGet H2 a y o/\Q (o.getD .non) H2
def Jb(a:Addr)(Q:VK):VK:=λy H2=>Exists (Jd a Q y H2)
def Je(ty:TE)(Z:St)(Q:VK)(x:V)(H1:Hp)(a:Addr):Prop:=x=.ref a/\IsD H1 a/\ty Z H1 (Jb a Q)
def Jc(ty:TE)(Z:St)(Q:VK):VK:=λx H1=>Exists (Je ty Z Q x H1)
def Gn(td ty:TE):TE:=λZ H Q=>td Z H (Jc ty Z Q)
def IY(a:Addr)(Q:VK)(y:V)(H2:Hp)(kvs:List (Key×V))(k:Key)(v:V):Prop:=H2 a=some (.dK kvs)/\y=kV k/\bh kvs k=some v/\WrO H2 a (.dK (je kvs k)) (Q v)
def IW(a:Addr)(Q:VK):VK:=λy H2=>Exists (Ex3 (IY a Q y H2))
def IZ(ty:TE)(Z:St)(Q:VK)(x:V)(H1:Hp)(a:Addr):Prop:=x=.ref a/\IsD H1 a/\ty Z H1 (IW a Q)
def IX(ty:TE)(Z:St)(Q:VK):VK:=λx H1=>Exists (IZ ty Z Q x H1)
def Gh(td ty:TE):TE:=λZ H Q=>td Z H (IX ty Z Q)
section
variable {o e f:Expr}{apos cpos:Pos}{td ty tx:TE}
theorem DC(c:X.A.units+1<cLine)(f:PE X o td)(he:PE X e ty)(m:M1 X o "get" apos e cpos):PE X (.Call (.Attribute o "get" apos) [e] [] cpos) (Gn td ty):=by intro NI s Z H Q I h;refine LW m.base m.few m.line tY Aa PySem.F.type_dict_get (thn (f NI s Z H _ I h) λu s1 ⟨x,H1,b,i,a,ex,d,j⟩=>?_);subst ex;obtain rfl:u=Value.ref a:=i;obtain⟨l,n,_⟩:=r9 b d;refine⟨l,n,?_⟩;rw[m.trees];refine kh rfl (ng (zq (thn (he NI s1 Z H1 _ b j) λz s2 ⟨y,H2,p,q,ov,g,r⟩=>zt ?_)));exact Iu c p g q λB C v w=>⟨_,H2,v,w,r⟩
theorem DB(c:PE X o td)(he:PE X e ty)(m:M1 X o "pop" apos e cpos):PE X (.Call (.Attribute o "pop" apos) [e] [] cpos) (Gh td ty):=by intro NI s Z H Q I h;refine LW m.base m.few m.line tY Lh PySem.F.type_dict_pop (thn (c NI s Z H _ I h) λu s1 ⟨x,H1,b,f,a,ex,d,g⟩=>?_);subst ex;obtain rfl:u=Value.ref a:=f;obtain⟨i,j,_⟩:=r9 b d;refine⟨i,j,?_⟩;rw[m.trees];refine kh rfl (ng (zq (thn (he NI s1 Z H1 _ b g) λB s2 ⟨y,H2,n,p,kvs,k,v,q,r,l,w⟩=>zt ?_)));subst r;exact JX n q p l (.inl rfl) λC D z A=>⟨v,_,z,A,WrO.at w⟩
end
section
variable {a:Addr}{kvs:List (Key×V)}
theorem Eo{Q:Value->Shared->Prop}(I:Inv X NI Z H s)(e:Rd H a (.dK kvs))(h:∀p s',H p=none->Inv X NI Z (upd H p (.dK kvs)) s'->Q (.ref p) s'):wpAny (model X.prog X.w) A (call (.type "dict") [.ref a]) Q E s:=by obtain⟨z,hd,vs,rel,dd⟩:=eU I.hok e;refine kt_call_dict hd dd (by rw[<-rel.length];exact z) λh' d f=>?_;refine h _ _ (I.hok.fresh (ak _)) (I.laid (a:=s.heap.objs.size) (o:=.dK kvs) (t':=s.toks) (λb q c=>?_) (ak _) (pz z (beq_eq_false_iff_ne.mpr (aB (bc I.big))) rel d));exact (f.2 b (bc (aE c))).trans (aI _ c)
end
section
variable {a:Addr}{y:V}{u:Value}
end
end L2
namespace Att
open PySem PySem.W PySem.Calls PyProof.Rows
theorem AC{P:Params}{h:Heap}:∀(ns:List Int)(vs:List Value),WellAll P h vs (ns.map WData.int)->IntsAre vs ns:=by
 intro ns;induction ns with
 |nil=>
  intro vs w;rw[zL] at w;cases w;exact .nil
 |cons n ns c=>
  intro vs w;rw[aU] at w;cases w with
  |cons a b=>
   cases a;exact .cons _ _ (c _ b)
theorem BZ{l:OpenLaw}{n:Nat}(g:l.most=some n){P:Params}{h:Heap}{args:List WData}{vals:List Value}
  (e:l.row.toRowW.claim.pre args=true) (i:WellAll P h vals args) :
  ∃a vs ns,vals=[Value.ref a]/\args=[WData.list (ns.map WData.int)]/\h.get? a=some {cls:=.type "list",data:=.seq vs.toArray}/\IntsAre vs ns/\ns.length<=n:=by
 have j:WShape.hasAll [] args [.list .int]=true:=(pre_splitW e).1;have f:l.pre.holds [] {args:=args}=true:=(pre_splitW e).2;obtain⟨d,r,rfl,h1,h2⟩:=hasAllW_cons j;obtain rfl:=hasAllW_nil h2;obtain⟨xs,rfl,m⟩:=hasW_list h1;obtain⟨ns,rfl⟩:=items_int m;have hlen:ns.length<=n:=by
  unfold OpenLaw.pre at f;have b:(WTm.not (.lt (.lit (.int (n:Int))) (.len (.arg 0)))).holds [] {args:=[.list (ns.map .int)]}=true:=by have b:=(holds_andW f).1;rw[g] at b;exact b
  have c:=condW_of b (w_not (w_lt w_lit (w_len_list (w_arg rfl))));rw[ao] at c;refine Nat.le_of_not_lt λq=>?_;have o:(n:Int)<((ns.length:Nat):Int):=by lia
  first
   |(rw[NF o] at c;exact absurd c (by decide))
   |(simp at c;lia)
 cases i with
 |cons p s=>
  cases s;cases p with
  |list u v=>exact⟨_,_,ns,rfl,rfl,u,AC ns _ v,hlen⟩
theorem B3(l:OpenLaw)(args:List WData):l.row.toRowW.claim.post args (.bool true) args=true:=
 postW_of (r:=l.row.toRowW) (X:=(true==true))
  (show WShape.has [] (.bool true) .bool=true by first|rfl|decide|simp[WShape.has,WShape.arms,WShape.armsAll])
  (show (WTm.eq .res (.lit (.bool true))).value [] {args:=args,res:=some (.bool true),after:=args}=some (.bool (true==true)) from w_eq_bool (w_res rfl) w_lit) rfl
theorem attach_call{l:OpenLaw}{n:Nat}{q:Program}{loose:List Str}{XP:(Str->Option Value)->Heap->Prop}{YP:World->Heap->Prop}{d:DefRec}
  (c:l.most=some n) (e:d.params.defaults=[])
  (call:∀(w:World)(s₀ s₁:Shared)(mg mb:Str->Option Value)(fa:Addr)(o:Obj)(pm cd doc:Value)(a:Addr)(vs:List Value)(ns:List Int),
   Ground q loose [] XP w s₀ mg mb s₁.heap->YP w s₁.heap->
   s₁.heap.get? fa=some o->o.data=.func (docDef d.name d.params d.body d.scope pm cd doc)->s₁.heap.CodeRec cd d.name->mg d.name=some (.ref fa)->
   s₁.heap.get? a=some {cls:=.type "list",data:=.seq vs.toArray}->IntsAre vs ns->ns.length<=n->s₁.gens=#[]->
   codeAny (model l.prog w) callerA (.call (.ref fa) ⟨[.ref a],[]⟩) (λr s'=>r=.ok (.ret (.bool true))/\OldK s₁.heap s'.heap/\s'.os=s₁.os/\AllBare s'.gens) s₁) :
  WalkO q loose XP YP l.row.toRowW d [] (λf vs=>PySem.call f vs):=by
 intro w s₀ s₁ mg mb G Y fa o pm cd doc g kV h hd i b j m args vals as p A B u C;obtain rfl:g=.none:=Dflts.none b e;obtain rfl:kV=.none:=Dflts.noKw b;obtain⟨a,vs,ns,rfl,rfl,v,hints,hlen⟩:=BZ c p u;refine enter_call (qf (call w s₀ s₁ mg mb fa o pm cd doc a vs ns G Y h (fd_plain hd) i j v hints hlen m) λr s' x=>?_);obtain⟨rfl,h2,y,z⟩:=x;exact⟨.inl ⟨.bool true,.bool true,[],rfl,λ_=>rfl,.bool true,B3 l _,λ_=>⟨List.Pairwise.nil,λ_ hm=>(nomatch hm)⟩⟩,h2,y,z⟩
section
variable {prog:Program}{K:Frag}
end
end Att
namespace L2
open PySem PySem.Spec PyProof.Rows
theorem uW:∀{vs:List Value}{ns:List Int},IntsAre vs ns->Vals (ns.map V.int) vs
 |_,_,.nil=>.nil
 |_,_,.cons n t h=>.cons ⟨t,rfl⟩ (uW h)
def Only(H:Hp):Prop:=∀b,H b=none\/∃o xs,H b=some (.frz o (.lst xs))
theorem D5{P:Program}{w:World}{mg mb:Str->Option Value}{CX:CXT}{k:Nat}{fa a:Addr}{fd:FuncData}{x:Str}{sp:Sp}{s₁:Shared}{vs:List Value}{ns:List Int}
  (l:K.In s₁.heap) (p:s₁.heap.Ns mainGlobals mg) (c:s₁.heap.Ns builtinsNs mb) (E:∀x:Str,x≠"__name__"->mb x=bootBuiltins x) (I:s₁.heap.NoLimit) (L:s₁.gens=#[])
  (ha:s₁.heap.get? a=some {cls:=.type "list",data:=.seq vs.toArray}) (hi:IntsAre vs ns) (M:ns.length<=sizeLine) (N:Room k callerA)
  (F:∀base:Heap,K.In base->base.Ns mainGlobals mg->aj P w K mg base CX k fa fd [x] sp) (O:∀(s:Shared)(u:Value),BindsTo s fd ⟨[u],[]⟩ [(x,u)])
  (Q:∀o,K.lookup a=some o->o.cls≠.type "list") (R:∀H:Hp,Only H->SqL [] H a (ns.map V.int)->sp [.ref a] H (λv _=>v=.bl true) λ_ _ _=>False)
  (S:∀H e s',CX [] H s₁ (λ_ _ _=>False) e s'->False) :
  codeAny (model P w) callerA (.call (.ref fa) ⟨[.ref a],[]⟩) (λr s'=>r=.ok (.ret (.bool true))/\OldK s₁.heap s'.heap/\s'.os=s₁.os/\AllBare s'.gens) s₁:=by
 have T:=uW hi;have ad:=hi.length;have core:∀H:Hp,Only H->SqL [] H a (ns.map V.int)->HOk P w H s₁.heap->(∀b,H b≠none->b=a)->(H a≠none->K.lookup a=none)->
   codeAny (model P w) callerA (.call (.ref fa) ⟨[.ref a],[]⟩) (λr s'=>r=.ok (.ret (.bool true))/\OldK s₁.heap s'.heap/\s'.os=s₁.os/\AllBare s'.gens) s₁:=by
  intro H y U hok A X;have B:∀{b:Addr}{o:Obj},s₁.heap.get? b=some o->H b=none->(gD s₁.heap H).get? b=some o:=λe n=>D7 e n;have Y:∀{b:Addr}{o:Obj}{es:Array DictEntry}{ep:Nat},s₁.heap.get? b=some o->o.data=.dict es ep->H b=none:=λ{b o es ep} e d=>by
   cases q:H b with
   |none=>rfl
   |some u=>
    have g:b=a:=A b (by rw[q];simp);subst g;rw[ha] at e;cases e;have d':Data.seq vs.toArray _=Data.dict es ep:=d;cases d'
  have f:∀{b:Addr}{m:Str->Option Value},s₁.heap.Ns b m->(gD s₁.heap H).Ns b m:=λ{b m} ⟨o,es,ep,e,d,r⟩=>⟨o,es,ep,B e (Y e d),d,r⟩;have C:K.In (gD s₁.heap H):=λb o e=>B (l b o e) (by
   cases q:H b with
   |none=>rfl
   |some u=>
    have g:b=a:=A b (by rw[q];simp);subst g;rw[X (by rw[q];simp)] at e;cases e)
  have Z:Mod K mg (gD s₁.heap H):=⟨C,f p,⟨mb,f c,E⟩,let ⟨mc,h1,h2⟩:=I;⟨mc,f h1,h2⟩⟩;have e0:iC P w K mg (gD s₁.heap H) callerA [] s₁ H:=⟨rfl,Z,λb o e=>Fw e,tV (Ct _ _),trivial,λb c=>absurd (show b∈([]:List Addr) from c) (by simp),hok,.of_eq L⟩;refine qf ((F _ C (f p)).run callerA [] s₁ H ⟨[.ref a],[]⟩ [.ref a] [.ref a] _ _ N e0 (O s₁ (.ref a)) (.cons rfl .nil) (R H y U)) λr s' h=>?_;cases r with
  |error e=>exact (S H e s' h).elim
  |ok fl=>
   cases fl with
   |next=>exact False.elim h
   |brk=>exact False.elim h
   |cont=>exact False.elim h
   |ret u=>
    obtain⟨v,H',os,bare,un,ab,r',q⟩:=h;have q':v=.bl true:=q;subst q';obtain rfl:u=Value.bool true:=r';refine⟨rfl,OldK.of_keep λb o e=>?_,os,bare⟩;cases q:H b with
    |none=>exact un.keep b o e q (by intro z;exact absurd (show b∈([]:List Addr) from z) (by simp)) (by simp)
    |some u=>
     rcases y b with z|⟨ob,xs,z⟩
     .rw[q] at z;cases z
     have z2:=un.frzs b ob _ z;obtain⟨D,_⟩:=hok b _ z;obtain⟨e2,_⟩:=ab b _ z2;rw[e] at D;cases D;exact e2
 cases i:K.lookup a with
 |some o=>
  have e:=l a o i;rw[ha] at e;cases e;exact absurd rfl (Q _ i)
 |none=>
  refine core (λb=>if b=a then some (.frz {cls:=.type "list",data:=.seq vs.toArray} (.lst (ns.map V.int))) else none) (λb=>?_) (.inl (.inr ⟨{cls:=.type "list",data:=.seq vs.toArray},ND rfl⟩)) (λb u z=>?_) (λb z=>?_) λ_=>i
  .by_cases c:b=a
   .exact .inr ⟨_,_,ND c⟩
   exact .inl (NC c)
  .by_cases c:b=a
   .have j:=(ND c).symm.trans z;cases j;subst c;exact⟨ha,by rw[ao];exact M,vs,_,T,ha⟩
   have j:=(NC c).symm.trans z;cases j
  by_cases c:b=a
  .exact c
  exact absurd (NC c) z
end L2
namespace L2
open PySem PySem.Spec PyProof.Rows
theorem walk_of{l:W.OpenLaw}{n k:Nat}{q:Program}{loose:List Str}{XP:(Str->Option Value)->Heap->Prop}{YP:World->Heap->Prop}{d:DefRec}{K:Params->W.Frag}{CX:World->CXT}{sp:World->Sp}{x:Str}
  (i:l.most=some n) (j:n<=sizeLine) (m:d.params.defaults=[]) (p:Room k callerA)
  (r:∀(w:World)(h:Heap),YP w h->(K w.params).In h)
  (F:∀(w:World)(mg:Str->Option Value)(fa:Addr)(h:Heap),(K w.params).In h->h.Ns mainGlobals mg->mg d.name=some (.ref fa)->
   ∃fd:FuncData,(∀(s:Shared)(u:Value),BindsTo s fd ⟨[u],[]⟩ [(x,u)])/\
    ∀base:Heap,(K w.params).In base->base.Ns mainGlobals mg->aj l.prog w (K w.params) mg base (CX w) k fa fd [x] (sp w))
  (y:∀(w:World)(a:Addr)(o:Obj),(K w.params).lookup a=some o->o.cls≠.type "list") (z:∀(w:World)(H:Hp)(a:Addr)(ns:List Int),ns.length<=n->Only H->SqL [] H a (ns.map V.int)->sp w [.ref a] H (λv _=>v=.bl true) λ_ _ _=>False)
  (A:∀(w:World)(H:Hp)(s:Shared)(e:Value)(s':Shared),CX w [] H s (λ_ _ _=>False) e s'->False) :
  W.WalkO q loose XP YP l.row.toRowW d [] (λf vs=>PySem.call f vs):=by
 refine Att.attach_call i m λw s₀ s₁ mg mb fa o pm cd doc a vs ns G Y M hd N B C hints hlen D=>?_;have c:=r w _ Y;obtain⟨fd,E,hF⟩:=F w mg fa _ c G.T.g B;exact D5 c G.T.g G.T.b G.T.builtins G.T.nolimit D C hints (br hlen j) p hF E (y w a) (λH I L=>z w H a ns hlen I L) λH e s'=>A w H s₁ e s'
def nlV:Value->Bool
 |.type s=>!(s=="list")
 |_=>true
theorem zg{a:Addr}{o:Obj}:∀{K:W.Frag},K.all (λx=>nlV x.2.cls)=true->K.lookup a=some o->o.cls≠.type "list"
 | [],_,h=>nomatch h
 |(b,u)::K,e,h=>by
  rw[zB,eF] at e;rw[iG] at h
  split at h
  .cases h;intro z;have:=e.1;rw[z] at this;exact absurd this (by decide)
  exact zg e.2 h
end L2
namespace L2
open PySem PySem.Spec PyProof.Rows
abbrev CX0:CXT:=λ_ _ _ _ _ _=>False
abbrev E0:XK:=λ_ _ _=>False
theorem pass0:Passes CX0 X E0:=λ_ _ _ _ _ _ _ h=>h.elim
structure Use(P:Program)(w:World)(K:W.Frag)(mg:Str->Option Value)(base:Heap)(n:Nat)(x:Str)(ps:List Str)(sp:Sp)(f:Addr)(fd:FuncData):Prop where
 g:aj P w K mg base CX0 n f fd ps sp
 b:Binds K fd ps []
 m:mg x=some (.ref f)
 k:W.keepIn K (.ref f)=true
theorem uc{k:Nat}{x:Str}{ps:List Str}{sp:Sp}{f:Addr}{e:Expr}{es:List Expr}{t:TA}{p pos:Pos}(G:Use X.prog X.w X.K X.mg X.base k x ps sp f fd)(a:Room k X.A)(ha:PA X (e::es) t)(c:Gl X x:=by rfl)(d:(x==("__debug__" : Str))=false:=by decide)(he:starEach (e::es) X.env=(false,eval e X.env)::starEach es X.env:=by rfl)(h:(backTo pos (starEach es X.env)).any (·.1)=false:=by rfl):PE X (.Call (.Name x p) (e::es) [] pos) (yV sp [] E0 t):=iX G.g a c G.m G.k G.b .nil pass0 ha d he h
structure Fun(K:W.Frag)(x qual:Str)(st:Stmt)(f:Addr)(fd:FuncData):Prop where
 ex:∃(oc:Value)(od:Option Addr)(kV doc pm:Value)(an:Option Addr)(NJ ct:Value)(osl:Array (Option Value)),
  fd=W.fnOf x qual (dn st) (cT st) (aC st) .none kV doc pm an NJ ct/\K.lookup f=some ⟨oc,od,.func fd,osl⟩/\W.codeIn K NJ qual=true
 kp:W.keepIn K (.ref f)=true
section
theorem Fun.ok{x qual:Str}{st:Stmt}{f:Addr}{N ps:List Str}{k:Nat}{sp:Sp}(F:Fun K x qual st f fd)(S:a7 N ps (aC st))(len:∀vs H Q E,sp vs H Q E->vs.length=ps.length)
  (b:∀(a:Value)(A:Around)(outer:List Env)(s:Shared)(H:Hp)(vs:List V)(Q:VK)(E:XK),Room k (A.deeper (envOfC qual (aC st) s.heap.objs.size f a))->sp vs H Q E->
   ∃t,PSs (dw CX0 P w K mg base N qual (aC st) f a A outer s H E).nox (cT st) t/\t {nx:=λ_ H'=>Q .non H',rt:=Q} (start N vs) H):aj P w K mg base CX0 (k+1) f fd ps sp:=by
 obtain⟨g,od,kV,doc,pm,an,a,ct,i,rfl,lk,c⟩:=F.ex;refine zj lk c S len λA outer s H vs Q E d e=>?_;obtain⟨t,h,q⟩:=b a A outer s H vs Q E d e;exact⟨t,h.nox,q⟩
theorem Fun.binds{x qual:Str}{st:Stmt}{f:Addr}{ps:List Str}(F:Fun K x qual st f fd)
  (h:∀(kV doc pm:Value)(an:Option Addr)(a ct:Value)(us:List Value),us.length=ps.length->bindArgs (W.fnOf x qual (dn st) (cT st) (aC st) .none kV doc pm an a ct) ⟨us,[]⟩=pure (ps.zip us)):Binds K fd ps []:=by
 obtain⟨b,od,kV,doc,pm,an,a,ct,c,rfl,lk,d⟩:=F.ex;exact .all (h kV doc pm an a ct)
theorem yz{x qual:Str}{st:Stmt}{f:Addr}{b:Value}{od an:Option Addr}{d:Array (Option Value)}{kV doc pm a ct:Value}(l:K.lookup f=some ⟨b,od,.func (W.fnOf x qual (dn st) (cT st) (aC st) .none kV doc pm an a ct),d⟩)
  (c:W.codeIn K a qual=true) (k:W.keepIn K (.ref f)=true):Fun K x qual st f (W.fnOf x qual (dn st) (cT st) (aC st) .none kV doc pm an a ct):=⟨⟨b,od,kV,doc,pm,an,a,ct,d,rfl,l,c⟩,k⟩
end
theorem dv{k:Nat}(a:Room k A):A.units+1<cLine:=zT (zP (by decide:1<=64) _) a.units
section
theorem pv(i:Nat){x:Str}{pos:Pos}(a:X.N[i]?=some x:=by rfl)(b:Vis X.env.scope x:=by first|exact Or.inl rfl|exact Or.inr (.inl rfl)|exact Or.inr (.inr rfl))(hd:(x==("__debug__" : Str))=false:=by decide)
  (c:(x==("__classdict__" : Str))=false:=by decide):PE X (.Name x pos) (ck i):=Hq a b hd c
theorem CK:cu X (.builtin "len") (λxs H Q=>∃a kvs,xs=[V.ref a]/\H a=some (.dK kvs)/\Q (.int kvs.length) H):=by intro NI s Z H xs us Q I r h;obtain⟨a,kvs,rfl,ha,q⟩:=h;obtain⟨u,rfl,b⟩:=vals1 r;cases b;exact JY I (.inl ha) λt s' c=>⟨.int kvs.length,H,c,⟨t,rfl⟩,q⟩
end
theorem aH{A B:Prop}(h:B):if false=true then A else B:=by rw[NC bu];exact h
theorem aT{A B:Prop}(h:A):if true=true then A else B:=by rw[ND rfl];exact h
theorem ite2{c A B:Prop}[Decidable c](h1:c->A)(h2:¬c->B):if c then A else B:=by
 by_cases h:c
 .rw[ND h];exact h1 h
 rw[NC h];exact h2 h
theorem Same.refl(H:Hp):Same H H:=λ_ _ h=>h
theorem Same.trans{H H1 H2:Hp}(a:Same H H1)(b:Same H1 H2):Same H H2:=λc o h=>b c o (a c o h)
theorem Same.free(e:Same H H'){l:Addr}(h:H' l=Option.none):H l=Option.none:=by
 cases q:H l with
 |none=>rfl
 |some o=>
  rw[e l o q] at h;cases h
theorem Same.seq{a:Addr}(e:Same H H')(h:SqL K H a xs):SqL K H' a xs:=by
 rcases h with (h|⟨o,h⟩)|h
 .exact .inl (.inl (e _ _ h))
 .exact .inl (.inr ⟨o,e _ _ h⟩)
 exact .inr h
section
variable {κ:Type}[DecidableEq κ]
theorem EA{kvs:List (κ×V)}{k:κ}{v:V}(h:bh kvs k=some v):k∈kvs.map (·.1):=by
 have q:(kvs.any λa=>decide (a.1=k))=true:=by
  rw[oh,h]
  all_goals rfl
 obtain⟨p,b,e⟩:=tm.mp q;exact ay.mpr ⟨p,b,NH e⟩
end
end L2
end
variable {H:L2.Hp}{Z:L2.St}{X:L2.Cx}{xs:List L2.V}{vs:List L2.V}{H':L2.Hp}
section
namespace L2
open PySem PySem.Spec PyProof.Rows
def c_(env:Env):List (Str×NameKind)->List (Str×Addr)->List (Str×Addr)
 | [],cs=>cs
 |(n,k)::r,cs=>c_ env r (if k==.free then (n,(env.cells.lookup n).getD 0)::cs else cs)
theorem uR(env:Env):∀(names:List (Str×NameKind))(cs:List (Str×Addr)),(∀x∈names,x.2=.free->∃c,env.cells.lookup x.1=some c)->
  (forIn names cs (λ(x:Str×NameKind)(r:List (Str×Addr))=>(do
   if x.2==NameKind.free then
    let a <-cellOf env x.1
    pure (ForInStep.yield ((x.1,a)::r))
   else pure (ForInStep.yield r):Sem (ForInStep (List (Str×Addr))))))=pure (c_ env names cs)
 | [],cs,_=>rfl
 |(n,k)::r,cs,h=>by
  have ih:=λcs=>uR env r cs λx hx=>h x (bZ _ hx);rw[List.forIn_cons];by_cases hk:k=.free
  .subst hk;obtain⟨c,hc⟩:=h (n,.free) iH rfl;have e:cellOf env n=pure c:=by
    have hc':env.cells.lookup n=some c:=hc;unfold cellOf;rw[hc']
    try rfl
   rw[ND (show (((n,NameKind.free).2==NameKind.free)=true) from rfl),e];refine Eq.trans ?_ ((ih ((n,c)::cs)).trans ?_)
   .rfl
   have hc':env.cells.lookup n=some c:=hc;show pure (c_ env r ((n,c)::cs))=pure (c_ env r ((n,(env.cells.lookup n).getD 0)::cs));rw[hc'];rfl
  have hb:(k==NameKind.free)=false:=by simpa using hk
  rw[NC (show ¬(((n,k).2==NameKind.free)=true) by rw[show ((n,k).2==NameKind.free)=false from hb];simp)];refine Eq.trans ?_ ((ih cs).trans ?_)
  .rfl
  show pure (c_ env r cs)=pure (c_ env r (if (k==NameKind.free)=true then _ else cs));rw[hb];rfl
theorem qy{env:Env}(h:∀x∈scope.names,x.2=.free->∃c,env.cells.lookup x.1=some c):closureFor scope env=pure (c_ env scope.names []):=by
 have e:=uR env scope.names [] h;unfold closureFor;simp only[bind_pure_comp,map_pure] at e |-
 first
  |(rw[e];rfl)
  |exact e
theorem xG{env:Env}:∀{names:List (Str×NameKind)}{cs:List (Str×Addr)}{x:Str}{c:Addr},(∀y∈names,y.2=.free->∃c,env.cells.lookup y.1=some c)->
  (c_ env names cs).lookup x=some c->env.cells.lookup x=some c\/cs.lookup x=some c
 | [],cs,x,c,_,h=>.inr h
 |(n,k)::r,cs,x,c,hf,h=>by
  have d:∀y∈r,y.2=.free->∃c,env.cells.lookup y.1=some c:=λy f=>hf y (bZ _ f);rcases xG (names:=r) d h with q|q
  .exact .inl q
  by_cases a:(k==NameKind.free)=true
  .rw[ND a] at q;have g:k=.free:=by simpa using a
   obtain⟨b,e⟩:=hf (n,k) iH g;have e:env.cells.lookup n=some b:=e;rw[iG] at q;cases hx:x==n with
   |true=>
    rw[hx] at q;have i:x=n:=by simpa using hx
    subst i;rw[e] at q;have j:b=c:=by simpa using q
    exact .inl (j ▸ e)
   |false=>
    rw[hx] at q;exact .inr q
  rw[NC a] at q;exact .inr q
theorem q_{env:Env}:∀{names:List (Str×NameKind)}{cs:List (Str×Addr)}{x:Str},((x,NameKind.free)∈names\/(cs.lookup x).isSome=true)->((c_ env names cs).lookup x).isSome=true
 | [],cs,x,h=>by
  rcases h with h|h
  .simp at h
  exact h
 |(n,k)::r,cs,x,h=>by
  refine q_ (names:=r) ?_;rcases h with h|h
  .rcases aK.mp h with e|e
   .cases e;refine .inr ?_;rw[ND (by rfl),iG,beq_self_eq_true];rfl
   exact .inl e
  refine .inr ?_;by_cases a:(k==NameKind.free)=true
  .rw[ND a,iG];cases hx:x==n with
   |true=>rfl
   |false=>exact h
  rw[NC a];exact h
theorem uq(env:Env):∀(names:List (Str×NameKind))(x:Str),
  (names.map λ(n,k)=>if (k==NameKind.free&&env.scope.kind==.function&&env.kindOf n==some .cell) then (n,NameKind.cell) else (n,k)).lookup x=(names.lookup x).map λk=>if (k==NameKind.free&&env.scope.kind==.function&&env.kindOf x==some .cell) then NameKind.cell else k
 | [],_=>rfl
 |(n,k)::r,x=>by
  have b:=uq env r x;rw[aU];dsimp only at b |-;by_cases a:(k==NameKind.free&&env.scope.kind==.function&&env.kindOf n==some .cell)=true
  .rw[ND a,iG,iG];cases hx:x==n with
   |true=>
    have c:x=n:=by simpa using hx
    subst c;simp only[nE,a,if_true]
   |false=>exact b
  rw[NC a,iG,iG];cases hx:x==n with
  |true=>
   have c:x=n:=by simpa using hx
   subst c;simp only[nE];rw[NC a]
  |false=>exact b
def dR(X:Cx)(N:List Str)(scope:Scope)(C:Addr)(s:Shared)(H:Hp)(fp:List Addr)(NI:List (Addr×Obj)):Cx:=
 {X with N:=N,s₀:=s,H₀:=H,env:=compEnvC scope (c_ X.env scope.names []) C X.env,outer:=X.stack,ex:=fp,fn:=λ_=>false,pn:=X.pn++NI,xe:=λ_ _=>False}
def ja(fr:List (Option Nat))(Z:St):St:=fr.map λo=>o.bind λi=>(Z[i]?).join
structure eP(X:Cx)(N:List Str)(fr:List (Option Nat))(scope:Scope):Prop where
 nd:N.Nodup
 len:fr.length=N.length
 kind:scope.kind=.function
 nocell:∀y∈scope.names,y.2≠.cell
 names:∀y∈scope.names,y.2=.local->scope.names.lookup y.1=some .local
 frees:∀y∈scope.names,y.2=.free->X.env.kindOf y.1=some .cell\/X.env.kindOf y.1=some .free
 fr:∀(j i:Nat)(x:Str),fr[j]?=some (some i)->N[j]?=some x->X.N[i]?=some x/\scope.names.lookup x=some .free
section
variable {N:List Str}{fr:List (Option Nat)}{fp:List Addr}
theorem eP.cells(S:eP X N fr scope)(ok:X.Ok):∀y∈scope.names,y.2=.free->∃c,X.env.cells.lookup y.1=some c:=λy a hf=>ok.has y.1 (S.frees y a hf)
theorem nR{names:List (Str×NameKind)}{x:Str}{k:NameKind}(h:names.lookup x=some k):(x,k)∈names:=nJ h
theorem vC{C:Addr}{x:Str}:(compEnvC scope (c_ X.env scope.names []) C X.env).kindOf x=(scope.names.lookup x).map λk=>if (k==NameKind.free&&X.env.scope.kind==.function&&X.env.kindOf x==some .cell) then NameKind.cell else k:=uq X.env scope.names x
theorem eP.free_of(S:eP X N fr scope){C:Addr}{x:Str}(h:(compEnvC scope (c_ X.env scope.names []) C X.env).kindOf x=some .cell\/(compEnvC scope (c_ X.env scope.names []) C X.env).kindOf x=some .free):scope.names.lookup x=some .free:=by
 rw[vC] at h;cases e:scope.names.lookup x with
 |none=>rw[e] at h;simp at h
 |some k=>
  rw[e] at h;have a:=S.nocell _ (nR e);cases k with
  |free=>rfl
  |cell=>exact absurd rfl a
  |_=>
   exfalso;rcases h with h|h<;>simp at h
theorem CI{C:Addr}{x:Str}(h:scope.names.lookup x=some .free):(compEnvC scope (c_ X.env scope.names []) C X.env).kindOf x=some .cell\/(compEnvC scope (c_ X.env scope.names []) C X.env).kindOf x=some .free:=by
 rw[vC,h,nE];by_cases c:(NameKind.free==NameKind.free&&X.env.scope.kind==.function&&X.env.kindOf x==some .cell)=true
 .rw[ND c];exact .inl rfl
 rw[NC c];exact .inr rfl
end
end L2
end
section
namespace L2
open PySem PySem.Spec PyProof.Rows
section
variable {N:List Str}{fr:List (Option Nat)}{fp:List Addr}
theorem uP{C:Addr}{h1:Heap}{m:Str->Option Value}{t:Nat}(S:eP X N fr scope)(I:Inv X NI Z H s)(hf:∀b∈fp,cU X NI H b)(w:s.heap.objs.size<=C)(K:∀b∈fp,b≠C)
  (L:h1.Ns C m) (g:∀b o,s.heap.get? b=some o->h1.get? b=some o):Inv (dR X N scope C s H fp NI) [] (ja fr Z) H {s with heap:=h1,toks:=t}:=by
 have M:=S.cells I.ok;have sub:∀x c,(c_ X.env scope.names []).lookup x=some c->X.env.cells.lookup x=some c:=λx c e=>by
  rcases xG M e with q|q
  .exact q
  simp at q
 have ok:(dR X N scope C s H fp NI).Ok:=by
  refine⟨I.ok.mod,S.kind,I.ok.glob,I.ok.blt,w,λx y c h1 h2=>I.ok.inj x y c (sub x c h1) (sub y c h2),λx hx=>?_,λx c e=>absurd e (by show ¬(false=true);decide),I.ok.hd,I.ok.frames,.inl rfl,λb f=>?_,λb o e=>I.bs b o e,br I.ok.bsz I.sz,λb o e f=>?_,λb f=>?_,I.stack,I.stkFree⟩
  .have e:=S.free_of hx;exact nB.mp (q_ (.inl (nR e)))
  .exact⟨K b f,λx c e=>(hf b f).2.2.2.2.1 x c (sub x c e)⟩
  .rcases (hf b f).2.2.2.1 with z|z
   .exact I.ok.noex b o e z
   exact absurd (bP (aE e) (br I.ok.bsz z)) (de _)
  intro z;rcases aK.mp (I.stkSub b z) with q|q
  .exact (hf b f).2.1 q
  exact (hf b f).2.2.1 q
 have O:H C=none:=I.hok.fresh w;refine⟨ok,rfl,I.bare,Un.kept g,⟨m,L,λj x v P a e3=>?_⟩,λx c e=>?_,O,λx c e=>I.freeC x c (sub x c e),λp l=>?_,I.hok.kept g,?_⟩
 .have a:(ja fr Z)[j]?=some (some v):=a;unfold ja at a;rw[aY] at a;cases q:fr[j]? with
  |none=>rw[q] at a;cases a
  |some o=>
   rw[q] at a;cases o with
   |none=>cases a
   |some i=>
    have a:(Z[i]?).join=some v:=cN a;obtain⟨hi,A⟩:=S.fr j i x q P;have hσ:Z[i]?=some (some v):=by
     cases z:Z[i]? with
     |none=>rw[z] at a;cases a
     |some y=>rw[z] at a;cases y with
      |none=>cases a
      |some Q=>have a:some Q=some v:=a;rw[a]
    obtain⟨m0,_,R⟩:=I.loc;have D:X.env.kindOf x=some .cell\/X.env.kindOf x=some .free:=S.frees (x,.free) (nR A) rfl;have T:Vis X.env.scope x:=D.elim (λz=>.inr (.inl z)) λz=>.inr (.inr z);obtain⟨u,r,lk⟩:=R i x v hi hσ T;rcases lk with ⟨z,_⟩|⟨_,c,U,Y⟩
    .rcases D with y|y<;>(rw[y] at z;cases z)
    refine⟨u,r,.inr ⟨CI A,?_⟩⟩;obtain⟨c',E⟩:=nB.mp (q_ (env:=X.env) (names:=scope.names) (cs:=[]) (.inl (nR A)));have:=sub x c' E;rw[U] at this;cases this;obtain⟨o,B,hd⟩:=Y;exact⟨c,E,o,g c o B,hd⟩
 .obtain⟨v,o,B,hd⟩:=I.cell x c (sub x c e);exact⟨v,o,g c o B,hd⟩
 .have l:p∈(X.pn++NI)++[]:=l;rw[fM] at l;obtain⟨e,n,ne,nf,d⟩:=I.pin p l;refine⟨g _ _ e,n,λz=>?_,λz=>?_,d⟩
  .have z:p.1=C:=z;exact absurd (bP (aE e) w) (by rw[z];exact de _)
  rcases aK.mp (I.stkSub p.1 z) with q|q
  .exact ne q
  exact nf q
 show (ja fr Z).length=N.length;unfold ja;rw[ao];exact S.len
theorem qZ{C:Addr}{H2:Hp}{s':Shared}{Z':St}{c:List (Addr×Obj)}(I:Inv X NI Z H s)(hf:∀b∈fp,cU X NI H b)(d:s.heap.objs.size<=C)(J:Inv (dR X N scope C s H fp NI) c Z' H2 s') :
  Inv X NI Z H2 s'/\cU X NI H2 C:=by
 have e:Inv X NI Z H2 s':=I.call' J.os J.base J.hok J.bare λb a=>⟨(hf b a).2.2.2.1,(hf b a).2.1,(hf b a).2.2.2.2.1,(hf b a).2.2.2.2.2⟩;exact⟨e,I.fpOk d J.free⟩
end
end L2
end
section
namespace L2
open PySem PySem.Spec PyProof.Rows
def PIf(X:Cx)(ifs:List Expr)(t:TT):Prop:=
 ∀(NI:List (Addr×Obj))(s:Shared)(Z:St)(H:Hp)(Q:Bool->Hp->Prop),Inv X NI Z H s->t Z H Q->
  wpAny (model X.prog X.w) X.A (forIn ifs true λc r=>if r=true then do let ok <-isTrue c X.env (eval c X.env);pure (ForInStep.yield ok) else pure (ForInStep.yield r)) (TP X NI Z Q) X.xe s
theorem di:PIf X [] (λ_ H Q=>Q true H):=λ_ _ _ H _ I h=>wpAny_tests_nil ⟨H,I,h⟩
theorem jO{c:Expr}{t:TT}(h:PT X c t):PIf X [c] t:=λNI s Z H Q I q=>wpAny_tests_one (h NI s Z H Q I q)
def tBlE(D:Addr)(ys:List V)(N:St->List V->Hp->Prop)(σ2:St):VK:=λy a=>a D=some (.lst ys)/\ys.length<sizeLine/\WrO a D (.lst (ys++[y])) (N σ2 (ys++[y]))
def mL(te:TE)(D:Addr)(ys:List V)(N:St->List V->Hp->Prop)(σ2:St):Bool->Hp->Prop:=λb a=>if b=true then te σ2 a (tBlE D ys N σ2) else N σ2 ys a
def mO(tt:TT)(te:TE)(D:Addr)(ys:List V)(N:St->List V->Hp->Prop):St->Hp->Prop:=λσ2 H2=>tt σ2 H2 (mL te D ys N σ2)
def tBlN(J:It)(g:TG)(tt:TT)(te:TE)(D:Addr)(W:Nat->Nat->St->List V->Hp->Prop)(i m:Nat)(Z:St)(ys:List V)(H:Hp)(N:St->List V->Hp->Prop):Prop:=(∀Z' a H',N Z' a H'->∃b,b<m/\W (i+1) b Z' a H')/\∀x H',J.yld i H x H'->g x Z H' (mO tt te D ys N)
def tBlB(J:It)(g:TG)(tt:TT)(te:TE)(D:Addr)(Z':St)(H1:Hp)(Q:Hp->Prop)(W:Nat->Nat->St->List V->Hp->Prop):Prop:=(∃m,W 0 m Z' [] (upd H1 D (.lst [])))/\∀i m Z ys H,W i m Z ys H->(J.stop i H/\Q H)\/(J.go i H/\Exists (tBlN J g tt te D W i m Z ys H))
def ik(J:It)(g:TG)(tt:TT)(te:TE)(D:Addr)(Z':St)(H1:Hp)(Q:Hp->Prop):Prop:=Exists (tBlB J g tt te D Z' H1 Q)
theorem CH{elt target iter:Expr}{ifs:List Expr}{scope:Scope}{pos:Pos}{it acc:Value}{env:Env}{R:Result->Shared->Prop}(I:Nat->Shared->Prop)
  (turn:∀n s,I n s->wpAny (model P w) A (pyNext it) (λr s1=>match r with
   |none=>R (.ok .next) s1
   |some v=>wpAny (model P w) A (letOwnedTupleGo target it v) (λ_ s1'=>wpAny (model P w) A (assign target env v) (λ_ s2=>
     wpAny (model P w) A (forIn ifs true λc r=>if r=true then do let ok <-isTrue c env (eval c env);pure (ForInStep.yield ok) else pure (ForInStep.yield r)) (λok s3=>
      if ok=true then wpAny (model P w) A (eval elt env) (λx s4=>
       wpAny (model P w) A (call (.builtin "list.append") [acc,x]) (λ_ s5=>∃m,m<n/\I m s5) (λ_ _=>False) s4) (λ_ _=>False) s3
      else ∃m,m<n/\I m s3) (λ_ _=>False) s2) (λ_ _=>False) s1') (λ_ _=>False) s1) (λ_ _=>False) s)
  (n:Nat) (h:I n s) :
  codeAny (model P w) A (.compLoop (.ListComp elt [⟨target,iter,ifs,0⟩] scope pos) 0 it acc env) R s:=by
 have no:∀(e:Value)(t:Shared),False->notedBy (model P w) A env (λe s'=>R (.error e) s') e t:=λ_ _ z=>z.elim;refine codeAny_loop rfl I (λn s hI=>?_) n h;refine wpAny_noted ?_;rw[compTurn_list];refine aa (kB (aa (cC (turn n s hI) (λr s1 h1=>?_) no)));cases r with
 |none=>exact ag h1
 |some v=>
  refine aa (cC h1 (λ_ s1' h1'=>?_) no);refine aa (cC h1' (λ_ s2 h2=>aa (cC h2 (λok s3 h3=>?_) no)) no);cases ok with
  |false=>exact ag ⟨rfl,h3⟩
  |true=>
   exact aa (aa (cC h3 (λx s4 h4=>aa (cC h4 (λ_ s5 h5=>ag (ag ⟨rfl,h5⟩)) no)) no))
section
variable {N:List Str}{fr:List (Option Nat)}{fp:List Addr}
theorem Es{elt target iter:Expr}{ifs:List Expr}{pos:Pos}{it D:Addr}{q:Nat->Heap->Prop}{J:It}{g:TG}{tt:TT}{te:TE}{R:Result->Shared->Prop}{s1:Shared}{L:St}{H1:Hp}{Q:Hp->Prop}
  {Y:Cx} (hY:Y.xe=λ_ _=>False) (S:Y.calm=true) (I:Inv Y [] L (upd H1 D (.lst [])) s1) (T:Turn Y.prog Y.w Y.K target J fp it q) (ht:q 0 s1.heap) (hf:∀b∈fp,cU Y [] (upd H1 D (.lst [])) b)
  (hg:PG Y target g) (hi:PIf Y ifs tt) (he:PE Y elt te) (h:ik J g tt te D L H1 Q) (hR:∀s' Z' H',Inv Y [] Z' H' s'->Q H'->R (.ok .next) s') :
  codeAny (model Y.prog Y.w) Y.A (.compLoop (.ListComp elt [⟨target,iter,ifs,0⟩] scope pos) 0 (.ref it) (.ref D) Y.env) R s1:=by
 obtain⟨W,⟨m0,w0⟩,turn⟩:=h;have M:∀{H':Hp},(∀b∈fp,H' b=none)->∀b∈fp,cU Y [] H' b:=λhn b a=>⟨hn b a,(hf b a).2⟩;refine CH (λn s'=>∃i Z' ys H',Inv Y [] Z' H' s'/\q i s'.heap/\(∀b∈fp,H' b=none)/\W i n Z' ys H') ?_ m0 ⟨0,L,[],_,I,ht,λb a=>(hf b a).1,w0⟩;rintro n U ⟨i,l,ys,z,X,Z,ab,w3⟩;have back:∀{α:Type}{t:Sem α}{Q:α->Shared->Prop}{s:Shared},wpAny (model Y.prog Y.w) Y.A t Q Y.xe s->wpAny (model Y.prog Y.w) Y.A t Q (λ_ _=>False) s:=λh=>by rw[hY] at h;exact h
 rcases turn i n l ys z w3 with ⟨stop,qn⟩|⟨go,N',ad,step⟩
 .refine thn (T.done Y rfl rfl rfl S i [] U l z _ X (M ab) Z stop) λr s4 ⟨N,I4⟩=>?_;subst N;exact hR s4 l z I4 qn
 refine thn (T.item Y rfl rfl rfl S i [] U l z _ X (M ab) Z go) λr s4 ⟨u,N,h4⟩=>?_;subst N;refine thn h4 λ_ s5 ⟨x,H5,I5,r5,y5,O,am⟩=>?_;have al:=I5.pinned (M am) (T.obj _ _ O);rw[p6] at al;refine thn (back (hg _ s5 l H5 x u _ al r5 (step x H5 y5))) λ_ s6 ⟨B,H6,I6,q6⟩=>?_;refine thn (back (hi _ s6 B H6 _ I6 q6)) λb c ⟨f,j,C⟩=>?_;have again:∀{E:St}{f:Hp}{c:Shared}{P:List V},Inv Y (jX fp s5.heap) E f c->(∃H,H<n/\W (i+1) H E P f)->∃m,m<n/\∃i Z' ys H',Inv Y [] Z' H' c/\q i c.heap/\(∀b∈fp,H' b=none)/\W i m Z' ys H':=λ{E f c P} j ⟨H,hm,w7⟩=>by
  refine⟨H,hm,i+1,E,P,f,j.pins_of (λp hp=>by simp at hp),T.keep _ _ _ O λb a o e=>(j.pin (b,o) (eO _ (jE a e))).1,λb a=>?_,w7⟩;obtain⟨o,e,d⟩:=T.obj _ _ O b a;exact (j.pin (b,o) (eO _ (jE a e))).2.1
 cases b with
 |false=>
  rw[mL,NC bu] at C;rw[NC bu];exact again j (ad _ _ _ C)
 |true=>
  rw[mL,ND rfl] at C;rw[ND rfl];refine thn (back (he _ c B f _ j C)) λv s8 ⟨y,H8,I8,r8,hD,hl,q8⟩=>?_;refine thn (back (dP _ s8 B H8 (.ref D) [y] (.ref D) [v] (λ_ H'=>N' B (ys++[y]) H') I8 rfl (.cons r8 .nil) ⟨D,ys,y,rfl,rfl,hD,hl,q8⟩)) λ_ s9 ⟨_,H9,I9,_,q9⟩=>?_;exact again I9 (ad _ _ _ q9)
end
end L2
end
section
namespace L2
open PySem PySem.Spec PyProof.Rows
def tCoD(Q:VK)(D:Addr):Hp->Prop:=λH2=>Q (.ref D) H2
def tCoA(g:TG)(tt:TT)(te:TE)(fr:List (Option Nat))(Z:St)(Q:VK)(J:It)(H1:Hp):Prop:=∀D,H1 D=none->ik J g tt te D (ja fr Z) H1 (tCoD Q D)
def tCoK(g:TG)(tt:TT)(te:TE)(fr:List (Option Nat))(Z:St)(Q:VK):It->Hp->Prop:=λJ H1=>tCoA g tt te fr Z Q J H1
def iw(wi:TI)(g:TG)(tt:TT)(te:TE)(fr:List (Option Nat)):TE:=λZ H Q=>wi Z H (tCoK g tt te fr Z Q)
section
variable {N:List Str}{fr:List (Option Nat)}{elt tg iter:Expr}{ifs:List Expr}{pos:Pos}{wi:TI}{g:TG}{tt:TT}{te:TE}
def PComp(X:Cx)(N:List Str)(scope:Scope)(tg:Expr)(ifs:List Expr)(elt:Expr)(g:TG)(tt:TT)(te:TE):Prop:=
 ∀(C:Addr)(s:Shared)(H:Hp)(fp:List Addr)(NI:List (Addr×Obj)),PG (dR X N scope C s H fp NI) tg g/\PIf (dR X N scope C s H fp NI) ifs tt/\PE (dR X N scope C s H fp NI) elt te
theorem uQ{i:Value}{Z_:Value->Addr->Result->Shared->Prop}{QQ:Addr->Hp->Prop}(S:eP X N fr scope)(I:X.calm=true)
  (a:PComp X N scope tg ifs elt g tt te) (h2:PIE X NI Z tg (λJ H1=>∀D,H1 D=none->ik J g tt te D (ja fr Z) H1 (QQ D)) i s)
  (K:∀D C s' H',Inv X NI Z H' s'->cU X NI H' C->(∃m,s'.heap.Ns C m)->QQ D H'->Z_ (.ref D) C (.ok .next) s') :
  wpAny (model X.prog X.w) X.A (newList []) (λacc L=>wpAny (model X.prog X.w) X.A (newFunctionEnv scope X.env.globals (c_ X.env scope.names []) [] X.env.qual none .none (some X.env)) (λj M=>
   codeAny (model X.prog X.w) X.A (.compStart (.ListComp elt [⟨tg,iter,ifs,0⟩] scope pos) 0 i acc {j with scope:=relabel scope X.env}) (Z_ acc j.locals) M) E L) E s:=by
 obtain⟨it,fp,O,J,H1,e,l,T,n,r,q⟩:=h2;subst e;have P:H1 s.heap.objs.size=none:=l.hok.fresh (ak _);have old:∀b∈fp,b<s.heap.objs.size:=λb a=>by
  obtain⟨o,e,_⟩:=T.obj _ _ n b a;exact aE e
 refine dZ (Me S.nocell (by intro y Q;simp at Q) (λh1 v h=>?_) S.kind);dsimp only at v h |-;have x:Inv X NI Z (upd H1 s.heap.objs.size (.lst [])) {s with heap:=s.heap.push {cls:=.type "list",dict:=none,data:=.seq ([]:List Value).toArray}}:=by refine l.laid (t':=s.toks) (λb u e=>aI _ e) (ak _) ?_;exact⟨aJ _,[],_,.nil,bq _ rfl⟩
 have c:∀b∈fp,cU X NI (upd H1 s.heap.objs.size (.lst [])) b:=λb a=>⟨by rw[ar (bc (old b a))];exact (r b a).1,(r b a).2⟩;have hsz:(s.heap.push {cls:=.type "list",dict:=none,data:=.seq ([]:List Value).toArray}).objs.size=s.heap.objs.size+1:=jk ..;have d:=uP (C:=(s.heap.push {cls:=.type "list",dict:=none,data:=.seq ([]:List Value).toArray}).objs.size) (h1:=h1) (t:=s.toks+([]:List (Str×Value)).length) (fp:=fp) S x c (ak _)
  (λb a=>by rw[hsz];exact bc (nz (old b a))) v λb o e=>h.extBut b o (bc (aE e)) (aI _ e)
 have z:O 0 h1:=T.keep _ _ _ n λb a o e=>by
  have B:=aI {cls:=.type "list",dict:=none,data:=.seq ([]:List Value).toArray} e;exact h.extBut b o (bc (aE B)) (aI _ B)
 have U:∀b∈fp,cU (dR X N scope (s.heap.push {cls:=.type "list",dict:=none,data:=.seq ([]:List Value).toArray}).objs.size {s with heap:=s.heap.push {cls:=.type "list",dict:=none,data:=.seq ([]:List Value).toArray}} (upd H1 s.heap.objs.size (.lst [])) fp NI) [] (upd H1 s.heap.objs.size (.lst [])) b:=λb a=>by
  refine⟨(c b a).1,(d.ok.exf b a).1,d.ok.exfs b a,.inl a,(d.ok.exf b a).2,λp f=>?_⟩;have f:p∈(X.pn++NI)++[]:=f;rw[fM] at f;exact (c b a).2.2.2.2.2 p f
 obtain⟨b1,b2,b3⟩:=a (s.heap.push {cls:=.type "list",dict:=none,data:=.seq ([]:List Value).toArray}).objs.size {s with heap:=s.heap.push {cls:=.type "list",dict:=none,data:=.seq ([]:List Value).toArray}} (upd H1 s.heap.objs.size (.lst [])) fp NI;have run:=Es (Y:=dR X N scope (s.heap.push {cls:=.type "list",dict:=none,data:=.seq ([]:List Value).toArray}).objs.size {s with heap:=s.heap.push {cls:=.type "list",dict:=none,data:=.seq ([]:List Value).toArray}} (upd H1 s.heap.objs.size (.lst [])) fp NI) (elt:=elt) (iter:=iter) (pos:=pos) (scope:=scope) (R:=Z_ (.ref s.heap.objs.size) (s.heap.push {cls:=.type "list",dict:=none,data:=.seq ([]:List Value).toArray}).objs.size) rfl I d T z U b1 b2 b3 (q _ P) λs' Z' H' H q'=>by
  obtain⟨J1,F1⟩:=qZ x c (ak _) H;obtain⟨m,hm,_⟩:=H.loc;exact K _ _ s' H' J1 F1 ⟨m,hm⟩ q'
 exact LF run (T.self _ 0 _ _ _ z run)
theorem c7(S:eP X N fr scope)(c:X.calm=true)(hi:PI X tg iter wi)(a:PComp X N scope tg ifs elt g tt te)
  (d:∀x,foldedSetIterable iter X.env x=pure x:=by intro _;rfl):PE X (.ListComp elt [⟨tg,iter,ifs,0⟩] scope pos) (iw wi g tt te fr):=by
 intro NI s Z H Q I h;rw[eval_ListComp];refine As (use:=none) rfl d (qy (S.cells I.ok)) S.kind S.names (thn (hi NI s Z H _ I h) λv s1 h1=>thn h1 λi s2 h2=>?_);refine uQ (QQ:=λD H2=>Q (.ref D) H2) (Z_:=λacc C=>compPost (model X.prog X.w) X.A X.xe none (EP X NI Z Q) acc C) S c a h2 λD C s' H' J F hm q=>?_;obtain⟨m,hm⟩:=hm;refine⟨m,hm,λh' f=>⟨.ref D,H',?_,rfl,q⟩⟩;exact J.turned (t':=s'.toks) (λb o a e=>f.extBut b o a e) F.1 F.2.1 F.2.2.2.1 F.2.2.2.2.1 F.2.2.2.2.2
theorem oI{i:Nat}{x:Str}{pos' spos:Pos}(S:eP X N fr scope)(hc:X.calm=true)(hi:PI X tg iter wi)(hb:PComp X N scope tg ifs elt g tt te)(hN:X.N.Nodup)(hx:X.N[i]?=some x)(hl:Loc X.env.scope x)
  (hsw:swapsWith (.ListComp elt [⟨tg,iter,ifs,0⟩] scope pos) (some (.Name x pos')) spos.line X.env=pure true:=by rfl)
  (hf:X.fn x=true\/X.env.scope.names.lookup x=some .local:=by first|exact .inl rfl|exact .inr rfl|assumption)
  (hs:∀x,foldedSetIterable iter X.env x=pure x:=by intro _;rfl):PS X (.Assign [.Name x pos'] (.ListComp elt [⟨tg,iter,ifs,0⟩] scope pos) spos) (mP (iw wi g tt te fr) (cK i)):=by
 intro NI s Z H D I h;rw[exec_Assign_Name_used _ _ _ _ hsw];refine aa (kB (aa ?_));show wpAny _ _ (do let _ <-comprehension (.ListComp elt [⟨tg,iter,ifs,0⟩] scope pos) scope X.env _ (newList []) false (eval iter X.env) (some (assign (.Name x pos') X.env))) _ _ s;refine aa (thn (As (use:=some (assign (.Name x pos') X.env)) (Q:=λ_ s'=>SP X NI D .next s') rfl hs (qy (S.cells I.ok)) S.kind S.names (thn (hi NI s Z H _ I h) λv s1 h1=>thn h1 λitv s2 h2=>?_)) λ_ s' hq=>ag (ag hq));refine uQ (QQ:=λd H2=>D.nx (Z.set i (some (.ref d))) H2) (Z_:=λacc C=>compPost (model X.prog X.w) X.A X.xe (some (assign (.Name x pos') X.env)) (λ_ s'=>SP X NI D .next s') acc C) S hc hb h2 λd C s' H' J F hm q=>?_;obtain⟨m,hm⟩:=hm;show wpAny _ _ (assign (.Name x pos') X.env (.ref d)) _ _ s';refine L6 (uZ J hN hx hl (v:=.ref d) rfl (λs2 I2 ⟨a,sb,ha⟩=>?_) hf);have hCa:C≠a:=by
  rcases ha with e|e
  .rw[e];exact F.2.1
  exact λz=>F.2.2.2.2.1 x a e z.symm
 refine⟨m,hm.sameBut sb hCa,λh' hs'=>⟨_,H',?_,q⟩⟩;exact I2.turned (t':=s2.toks) (λb o hb e=>hs'.extBut b o hb e) F.1 F.2.1 F.2.2.2.1 F.2.2.2.2.1 F.2.2.2.2.2
end
section
variable {a D:Addr}{g:TG}{tt:TT}{te:TE}{Z':St}{H1:Hp}{Q:Hp->Prop}
theorem dG(Pv:Nat->St->List V->Hp->Prop)(c:Pv 0 Z' [] (upd H1 D (.lst [])))(d:∀i Z ys H,i<=xs.length->Pv i Z ys H->SqL K H a xs)
  (f:∀i x Z ys H,xs[i]?=some x->Pv i Z ys H->g x Z H (mO tt te D ys (Pv (i+1))))
  (hd:∀Z ys H,Pv xs.length Z ys H->Q H):ik (Itl K a) g tt te D Z' H1 Q:=by
 refine⟨λi m Z ys H=>m=xs.length-i/\i<=xs.length/\Pv i Z ys H,⟨xs.length,by simp,aJ _,c⟩,?_⟩;rintro i m Z ys H ⟨rfl,hi,p⟩;have q:=d i Z ys H hi p;by_cases b:i<xs.length
 .refine .inr ⟨⟨xs,xs[i],q,by simp[b]⟩,Pv (i+1),λZ' j H' h=>⟨xs.length-(i+1),by lia,rfl,b,h⟩,λx H' y=>?_⟩;obtain⟨e,y⟩:=y;subst e;exact f i x Z ys _ (y xs q) p
 have e:i=xs.length:=by lia
 subst e;exact .inl ⟨⟨xs,q,ak _⟩,hd Z ys H p⟩
theorem ll(Pv:Nat->St->List V->Hp->Prop)(c:Pv 0 Z' [] (upd H1 D (.lst [])))(d:∀i Z ys H,i<=xs.length->Pv i Z ys H->SqT K H a xs)
  (f:∀i x Z ys H,xs[i]?=some x->Pv i Z ys H->g x Z H (mO tt te D ys (Pv (i+1))))
  (hd:∀Z ys H,Pv xs.length Z ys H->Q H):ik (Itt K a) g tt te D Z' H1 Q:=by
 refine⟨λi m Z ys H=>m=xs.length-i/\i<=xs.length/\Pv i Z ys H,⟨xs.length,by simp,aJ _,c⟩,?_⟩;rintro i m Z ys H ⟨rfl,hi,p⟩;have q:=d i Z ys H hi p;by_cases b:i<xs.length
 .refine .inr ⟨⟨xs,xs[i],q,by simp[b]⟩,Pv (i+1),λZ' j H' h=>⟨xs.length-(i+1),by lia,rfl,b,h⟩,λx H' y=>?_⟩;obtain⟨e,y⟩:=y;subst e;exact f i x Z ys _ (y xs q) p
 have e:i=xs.length:=by lia
 subst e;exact .inl ⟨⟨xs,q,ak _⟩,hd Z ys H p⟩
end
end L2
end
section
namespace TimS
open PySem PySem.W PyProof.Rows
theorem half{u w:Nat}(h:¬u ≥ w):u<=(u+w)/2/\(u+w)/2<w:=by lia
theorem half'{u w:Nat}(h:¬u ≥ w):u<=u+(w-u)/2/\u+(w-u)/2<w:=by lia
theorem fewer{u w k t m:Nat}(h:w-u<=k-t)(h1:m<w)(h2:u<=m):m-u<=k-(t+1):=by lia
theorem fewer'{u w k t m:Nat}(h:w-u<=k-t)(h1:m<w)(h2:u<=m):w-(m+1)<=k-(t+1):=by lia
abbrev SM:=StateT SortSt Sem
def gal:Bool->Keyed->Array Keyed->Nat->Nat->Nat->SM (Option Nat):=sortPriv% PySem.Builtin.gallop
def mlo:Array Keyed->Array Keyed->SM (Array Keyed):=sortPriv% PySem.Builtin.mergeLo
def mhi:Array Keyed->Array Keyed->SM (Array Keyed):=sortPriv% PySem.Builtin.mergeHi
def smg:Nat->SM Unit:=sortPriv% PySem.Builtin.setMinGallop
def bey(l:Bool)(q:Keyed)(v:Array Keyed)(o i:Nat):SM (Option Bool):=do
 let x <-elem' v (o+i)
 if l then lt' x q else return (<-lt' q x).map (!·)
theorem Ie(l:Bool)(q:Keyed)(v:Array Keyed)(o n h:Nat):gal l q v o n h=(do
 let mut z:=0
 let mut c:=1
 let mut u:=0
 let mut w:=0
 let some r <-bey l q v o h|return none
 if r then
  let m:=n-h
  for _ in [0:n] do
   if c ≥ m then break
   let some g <-bey l q v o (h+c)|return none
   if !g then break
   z:=c
   c:=2*c+1
  u:=h+z+1
  w:=h+min c m
 else
  let m:=h+1
  for _ in [0:n] do
   if c ≥ m then break
   let some g <-bey l q v o (h-c)|return none
   if g then break
   z:=c
   c:=2*c+1
  u:=h+1-min c m
  w:=h-z
 for _ in [0:n] do
  if u ≥ w then break
  let m:=u+(w-u)/2
  let some g <-bey l q v o m|return none
  if g then u:=m+1 else w:=m
 return some w):=rfl
theorem HG(x y:Array Keyed):mlo x y=(do
 rule "list.sort.merge-lo"
 let T:=x.size+y.size
 let fa (v:Array Keyed) (i j:Nat):=v++x.extract i x.size++y.extract j y.size
 let fb (v:Array Keyed) (i j:Nat):=v++y.extract j y.size++x.extract i x.size
 let mut v:Array Keyed:=#[<-elem' y 0]
 let mut i:=0
 let mut j:=1
 if j==y.size then return fa v i j
 if i+1==x.size then return fb v i j
 let mut g:=gallopOf (<-get)
 for _ in [0:T] do
  let mut c:=0
  let mut d:=0
  for _ in [0:T] do
   let some b <-lt' (<-elem' y j) (<-elem' x i)|return fa v i j
   if b then
    v:=v.push (<-elem' y j);j:=j+1;d:=d+1;c:=0
    if j==y.size then return fa v i j
    if d ≥ g then break
   else
    v:=v.push (<-elem' x i);i:=i+1;c:=c+1;d:=0
    if i+1==x.size then return fb v i j
    if c ≥ g then break
  rule "list.sort.gallop"
  g:=g+1
  for _ in [0:T] do
   if g>1 then g:=g-1
   smg g
   let some k <-gal false (<-elem' y j) x i (x.size-i) 0|return fa v i j
   c:=k
   if k>0 then
    v:=v++x.extract i (i+k);i:=i+k
    if i+1==x.size then return fb v i j
    if i==x.size then return fa v i j
   v:=v.push (<-elem' y j);j:=j+1
   if j==y.size then return fa v i j
   let some k <-gal true (<-elem' x i) y j (y.size-j) 0|return fa v i j
   d:=k
   if k>0 then
    v:=v++y.extract j (j+k);j:=j+k
    if j==y.size then return fa v i j
   v:=v.push (<-elem' x i);i:=i+1
   if i+1==x.size then return fb v i j
   if c<7&&d<7 then break
  g:=g+1
  smg g
 unsupported "internal:list.sort.merge-bound"):=rfl
def G(a:Array Keyed)(i:Nat):Keyed:=a.getD i (Value.none,Value.none)
structure Cmp(M:Model)(A:Around)(E:Value->Shared->Prop)(s:Shared)(κ:SortKind)(N:Keyed->Prop)(lt:Keyed->Keyed->Bool):Prop where
 asym:∀x y,lt x y=true->lt y x=false
 tr:∀x y z,lt y x=false->lt z y=false->lt z x=false
 ask:∀{x y:Keyed}{st:SortSt}{Q:Option Bool->SortSt->Prop},N x->N y->kindOf st=κ->Q (some (lt x y)) st->wpS M A E s (lt' x y) Q st
section
variable {M:Model}{κ:SortKind}{N:Keyed->Prop}{lt:Keyed->Keyed->Bool}
theorem pK{a:Array Keyed}{i:Nat}(h:i<a.size):a[i]?=some (G a i):=by simp[G,Array.getD,h]
theorem a9{α:Type}{c:Prop}[Decidable c]{t e:StateT SortSt Sem α}{Q:α->SortSt->Prop}{st:SortSt}(h:c)(q:wpS M A E s t Q st):wpS M A E s (if c then t else e) Q st:=by rw[ND h];exact q
theorem aZ{α:Type}{c:Prop}[Decidable c]{t e:StateT SortSt Sem α}{Q:α->SortSt->Prop}{st:SortSt}(h:¬c)(q:wpS M A E s e Q st):wpS M A E s (if c then t else e) Q st:=by rw[NC h];exact q
theorem cE{a:Array Keyed}{i:Nat}{Q:Keyed->SortSt->Prop}{st:SortSt}(h:i<a.size)(q:Q (G a i) st):wpS M A E s (elem' a i) Q st:=by rw[elem'_eq,pK h];exact aA q
theorem Cmp.refl(C:Cmp M A E s κ N lt)(x:Keyed):lt x x=false:=by
 cases h:lt x x with
 |false=>rfl
 |true=>have z:=C.asym x x h;rw[h] at z;cases z
theorem Cmp.ltle(C:Cmp M A E s κ N lt){x y z:Keyed}(h:lt x y=true)(h2:lt z y=false):lt x z=true:=by
 cases q:lt x z with
 |true=>rfl
 |false=>have:=C.tr _ _ _ h2 q;rw[h] at this;cases this
theorem Cmp.lelt(C:Cmp M A E s κ N lt){x y z:Keyed}(h:lt y x=false)(h2:lt y z=true):lt x z=true:=by
 cases q:lt x z with
 |true=>rfl
 |false=>have:=C.tr _ _ _ q h;rw[h2] at this;cases this
theorem jK{x:String}{Q:Unit->SortSt->Prop}{st:SortSt}(h:Q () st):wpS M A E s (liftM (rule x):SM Unit) Q st:=wpS_lift (wpAny_rule ⟨rfl,h⟩)
def bv(lt:Keyed->Keyed->Bool)(l:Bool)(q:Keyed)(v:Array Keyed)(o i:Nat):Bool:=if l then lt (G v (o+i)) q else !lt q (G v (o+i))
theorem jT(C:Cmp M A E s κ N lt){l:Bool}{q:Keyed}{v:Array Keyed}{o i:Nat}{st:SortSt}{Q:Option Bool->SortSt->Prop}(a:∀i,i<v.size->N (G v i))(b:N q)(hi:o+i<v.size)(c:kindOf st=κ)(h:Q (some (bv lt l q v o i)) st):wpS M A E s (bey l q v o i) Q st:=by
 unfold bey;refine av (cE hi ?_);cases l with
 |true=>exact C.ask (a _ hi) b c h
 |false=>exact av (C.ask b (a _ hi) c (aA h))
theorem jS{l:Bool}{q:Keyed}{v:Array Keyed}{o n h:Nat}{st:SortSt}{Q:Option Nat->SortSt->Prop}(b:Nat->Bool)(hb:∀i,i<n->∀Q:Option Bool->SortSt->Prop,Q (some (b i)) st->wpS M A E s (bey l q v o i) Q st)
  (mo:∀i j,i<=j->j<n->b j=true->b i=true) (hh:h<n) (hQ:∀k,k<=n->(∀i,i<k->b i=true)->(∀i,k<=i->i<n->b i=false)->Q (some k) st):wpS M A E s (gal l q v o n h) Q st:=by
 have mf:∀i j,i<=j->j<n->b i=false->b j=false:=λi j a c d=>by
  cases e:b j with
  |false=>rfl
  |true=>rw[mo i j a c e] at d;cases d
 have tail:∀(u w:Nat),u<=w->w<=n->(∀i,i<u->b i=true)->(∀i,w<=i->i<n->b i=false)->wpS M A E s (do
   let mut u:=u
   let mut w:=w
   for _ in [0:n] do
    if u ≥ w then break
    let m:=u+(w-u)/2
    let some g <-bey l q v o m|return none
    if g then u:=m+1 else w:=m
   return some w) Q st:=by
  intro u w h1 h2 h3 h4;dsimp only;refine av (eG (d_ (I:=λi x st'=>st'=st/\x.1=none/\x.2.1<=x.2.2/\x.2.2<=n/\x.2.2-x.2.1<=n-i/\(∀i,i<x.2.1->b i=true)/\(∀i,x.2.2<=i->i<n->b i=false)) (Q:=λx st'=>st'=st/\x.1=none/\x.2.1=x.2.2/\x.2.2<=n/\(∀i,i<x.2.1->b i=true)/\(∀i,x.2.2<=i->i<n->b i=false)) ?step ?fin ⟨rfl,rfl,h1,h2,by show w-u<=n-0;lia,h3,h4⟩) ?post)
  case fin=>
   rintro⟨r,u,w⟩ st' ⟨rfl,e,a1,a2,a3,a4,a5⟩;have a1:u<=w:=a1;have a3:w-u<=n-max 0 n:=a3;exact⟨rfl,e,by show u=w;lia,a2,a4,a5⟩
  case step=>
   rintro i ⟨r,u,w⟩ st' _ hi ⟨rfl,e,a1,a2,a3,a4,a5⟩;have a1:u<=w:=a1;have a2:w<=n:=a2;have a3:w-u<=n-i:=a3;have a4:∀i,i<u->b i=true:=a4;have a5:∀i,w<=i->i<n->b i=false:=a5;dsimp only;by_cases c:u ≥ w
   .refine a9 c ?_;exact aA ⟨rfl,rfl,by show u=w;lia,a2,a4,a5⟩
   refine aZ c ?_;obtain⟨m1,m2⟩:=half' c;generalize u+(w-u)/2=m at m1 m2 |-;refine av (hb _ (bP m2 a2) _ ?_);dsimp only;cases hm:b m with
   |true=>
    refine a9 rfl ?_;exact aA ⟨rfl,rfl,m2,a2,fewer' a3 m2 m1,λk hk=>mo k m (KM hk) (bP m2 a2) hm,a5⟩
   |false=>
    refine aZ (by decide) ?_;exact aA ⟨rfl,rfl,m1,km (bP m2 a2),fewer a3 m2 m1,a4,λk hk h'=>mf _ k hk h' hm⟩
  case post=>
   rintro⟨r,u,w⟩ st' ⟨rfl,e,a1,a2,a3,a4⟩;have e:r=none:=e;cases e;cases (show u=w from a1);exact aA (hQ u a2 a3 a4)
 rw[Ie];dsimp only;refine av (hb h hh _ ?_);dsimp only;cases b0:b h with
 |true=>
  refine a9 rfl ?_;refine av (eG (d_ (β:=Option (Option Nat)×Nat×Nat) (I:=λi x st'=>st'=st/\x.1=none/\b (h+x.2.1)=true/\h+x.2.1<n/\x.2.1<x.2.2/\i<x.2.2) (Q:=λx st'=>st'=st/\x.1=none/\b (h+x.2.1)=true/\h+x.2.1<n/\x.2.1<x.2.2/\(x.2.2 ≥ n-h\/b (h+x.2.2)=false)) ?s1 ?f1 ⟨rfl,rfl,b0,hh,fP 0,fP 0⟩) ?p1)
  case f1=>
   rintro⟨r,z,c⟩ st' ⟨rfl,e,a1,a2,a3,a4⟩;have a4:max 0 n<c:=a4;exact⟨rfl,e,a1,a2,a3,.inl (by show c ≥ n-h;lia)⟩
  case s1=>
   rintro i ⟨r,z,c⟩ st' _ hi ⟨rfl,e,a1,a2,a3,a4⟩;have a1:b (h+z)=true:=a1;have a2:h+z<n:=a2;have a3:z<c:=a3;have a4:i<c:=a4;dsimp only;by_cases c1:c ≥ n-h
   .exact a9 c1 (aA ⟨rfl,rfl,a1,a2,a3,.inl c1⟩)
   refine aZ c1 ?_;refine av (hb _ (by lia) _ ?_);dsimp only;cases hm:b (h+c) with
   |true=>
    refine aZ (by decide) ?_;exact aA ⟨rfl,rfl,hm,by show h+c<n;lia,by show c<2*c+1;lia,by show i+1<2*c+1;lia⟩
   |false=>
    refine a9 (by decide) ?_;exact aA ⟨rfl,rfl,a1,a2,a3,.inr hm⟩
  case p1=>
   rintro⟨r,z,c⟩ st' ⟨rfl,e,a1,a2,a3,a4⟩;have e:r=none:=e;subst e;have a1:b (h+z)=true:=a1;have a2:h+z<n:=a2;have a3:z<c:=a3;have a4:c ≥ n-h\/b (h+c)=false:=a4;dsimp only;refine tail (h+z+1) (h+min c (n-h)) (by lia) (by lia) (λi hi=>mo i (h+z) (by lia) a2 a1) (λi hi hn=>?_);rcases a4 with a4|a4
   .lia
   by_cases c1:c ≥ n-h
   .lia
   exact mf (h+c) i (by lia) hn a4
 |false=>
  refine aZ (by decide) ?_;refine av (eG (d_ (β:=Option (Option Nat)×Nat×Nat) (I:=λi x st'=>st'=st/\x.1=none/\b (h-x.2.1)=false/\x.2.1<=h/\x.2.1<x.2.2/\i<x.2.2) (Q:=λx st'=>st'=st/\x.1=none/\b (h-x.2.1)=false/\x.2.1<=h/\x.2.1<x.2.2/\(x.2.2 ≥ h+1\/b (h-x.2.2)=true)) ?s2 ?f2 ⟨rfl,rfl,b0,aJ _,fP 0,fP 0⟩) ?p2)
  case f2=>
   rintro⟨r,z,c⟩ st' ⟨rfl,e,a1,a2,a3,a4⟩;have a4:max 0 n<c:=a4;exact⟨rfl,e,a1,a2,a3,.inl (by show c ≥ h+1;lia)⟩
  case s2=>
   rintro i ⟨r,z,c⟩ st' _ hi ⟨rfl,e,a1,a2,a3,a4⟩;have a1:b (h-z)=false:=a1;have a2:z<=h:=a2;have a3:z<c:=a3;have a4:i<c:=a4;dsimp only;by_cases c1:c ≥ h+1
   .exact a9 c1 (aA ⟨rfl,rfl,a1,a2,a3,.inl c1⟩)
   refine aZ c1 ?_;refine av (hb _ (by lia) _ ?_);dsimp only;cases hm:b (h-c) with
   |true=>
    refine a9 rfl ?_;exact aA ⟨rfl,rfl,a1,a2,a3,.inr hm⟩
   |false=>
    refine aZ (by decide) ?_;exact aA ⟨rfl,rfl,hm,by show c<=h;lia,by show c<2*c+1;lia,by show i+1<2*c+1;lia⟩
  case p2=>
   rintro⟨r,z,c⟩ st' ⟨rfl,e,a1,a2,a3,a4⟩;have e:r=none:=e;subst e;have a1:b (h-z)=false:=a1;have a2:z<=h:=a2;have a3:z<c:=a3;have a4:c ≥ h+1\/b (h-c)=true:=a4;dsimp only;refine tail (h+1-min c (h+1)) (h-z) (by lia) (by lia) (λi hi=>?_) (λi hi hn=>mf (h-z) i (by lia) hn a1);rcases a4 with a4|a4
   .lia
   by_cases c1:c ≥ h+1
   .lia
   exact mo i (h-c) (by lia) (by lia) a4
end
theorem HH(x y:Array Keyed):mhi x y=(do
 rule "list.sort.merge-hi"
 let T:=x.size+y.size
 let fa (v:Array Keyed) (i j:Nat):=x.extract 0 i++y.extract 0 j++v.reverse
 let fb (v:Array Keyed) (i j:Nat):=y.extract 0 j++x.extract 0 i++v.reverse
 let mut i:=x.size-1
 let mut j:=y.size
 let mut v:Array Keyed:=#[<-elem' x i]
 if i==0 then return fa v i j
 if j==1 then return fb v i j
 let mut g:=gallopOf (<-get)
 for _ in [0:T] do
  let mut c:=0
  let mut d:=0
  for _ in [0:T] do
   let some b <-lt' (<-elem' y (j-1)) (<-elem' x (i-1))|return fa v i j
   if b then
    i:=i-1;v:=v.push (<-elem' x i);c:=c+1;d:=0
    if i==0 then return fa v i j
    if c ≥ g then break
   else
    j:=j-1;v:=v.push (<-elem' y j);d:=d+1;c:=0
    if j==1 then return fb v i j
    if d ≥ g then break
  rule "list.sort.gallop"
  g:=g+1
  for _ in [0:T] do
   if g>1 then g:=g-1
   smg g
   let some p <-gal false (<-elem' y (j-1)) x 0 i (i-1)|return fa v i j
   let k:=i-p
   c:=k
   if k>0 then
    v:=v++(x.extract p i).reverse;i:=p
    if i==0 then return fa v i j
   j:=j-1;v:=v.push (<-elem' y j)
   if j==1 then return fb v i j
   let some p <-gal true (<-elem' x (i-1)) y 0 j (j-1)|return fa v i j
   let k:=j-p
   d:=k
   if k>0 then
    v:=v++(y.extract p j).reverse;j:=p
    if j==1 then return fb v i j
    if j==0 then return fa v i j
   i:=i-1;v:=v.push (<-elem' x i)
   if i==0 then return fa v i j
   if c<7&&d<7 then break
  g:=g+1
  smg g
 unsupported "internal:list.sort.merge-bound"):=rfl
theorem Gy(g:Nat):smg g=modify λs=>SortSt.mk' (kindOf s) (arrOf s) (pendingOf s) g (failedOf s):=rfl
theorem HJ(i:Nat):mergeAt' i=(do
 let s <-get
 let (some (p,m,e),some (q,n,_)):=((pendingOf s)[i]?,(pendingOf s)[i+1]?)|unsupported "internal:list.sort.pending"
 set (setPending s (((pendingOf s).setIfInBounds i (p,m+n,e)).eraseIdxIfInBounds (i+1)))
 let some k <-gal false (<-elem' (arrOf s) q) (arrOf s) p m 0|return false
 let (p,m):=(p+k,m-k)
 if m==0 then return true
 let some n <-gal true (<-elem' (arrOf s) (p+m-1)) (arrOf s) q n (n-1)|return false
 if n==0 then return true
 let x:=(arrOf s).extract p q
 let y:=(arrOf s).extract q (q+n)
 let r <-if m<=n then mlo x y else mhi x y
 modify λs=>setArr s (r.toList.zipIdx.foldl (λa (z,j)=>a.setIfInBounds (p+j) z) (arrOf s))
 return (failedOf (<-get)).isNone):=rfl
section
variable {M:Model}{κ:SortKind}{N:Keyed->Prop}{lt:Keyed->Keyed->Bool}
def Asc(lt:Keyed->Keyed->Bool)(x:Array Keyed):Prop:=∀i j,i<=j->j<x.size->lt (G x j) (G x i)=false
def Srt(lt:Keyed->Keyed->Bool)(l:List Keyed):Prop:=l.Pairwise λa b=>lt b a=false
structure MI(lt:Keyed->Keyed->Bool)(x y v:Array Keyed)(i j:Nat):Prop where
 ix:i<=x.size
 jy:j<=y.size
 pm:v.toList.Perm (x.toList.take i++y.toList.take j)
 so:Srt lt v.toList
 bx:∀a∈v.toList,∀k,i<=k->k<x.size->lt (G x k) a=false
 by_:∀a∈v.toList,∀k,j<=k->k<y.size->lt (G y k) a=false
def Good(lt:Keyed->Keyed->Bool)(x y v:Array Keyed):Prop:=v.toList.Perm (x.toList++y.toList)/\Srt lt v.toList
theorem MI.sw{x y v:Array Keyed}{i j:Nat}(h:MI lt x y v i j):MI lt y x v j i:=⟨h.jy,h.ix,h.pm.trans gO,h.so,h.by_,h.bx⟩
theorem Gb{x:Array Keyed}{i:Nat}(h:i<x.size):x.toList.take (i+1)=x.toList.take i++[G x i]:=by rw[ba,iD,pK h];rfl
theorem MI.push{x y v:Array Keyed}{i j:Nat}(hx:Asc lt x)(h:MI lt x y v i j)(hi:i<x.size)(c:∀k,j<=k->k<y.size->lt (G y k) (G x i)=false):MI lt x y (v.push (G x i)) (i+1) j:=by
 refine⟨hi,h.jy,?_,?_,λa ha k h1 h2=>?_,λa ha k h1 h2=>?_⟩
 .rw[gF,Gb hi,dX];refine (h.pm.append_right _).trans ?_;rw[dX];exact Kl _ gO
 .unfold Srt;rw[gF,zN];refine⟨h.so,tS _ _,λa ha b d=>?_⟩;rw[aR.mp d];exact h.bx a ha i (ak _) hi
 .rw[gF] at ha;rcases aW.mp ha with ha|ha
  .exact h.bx a ha k (by lia) h2
  rw[aR.mp ha];exact hx i k (by lia) h2
 rw[gF] at ha;rcases aW.mp ha with ha|ha
 .exact h.by_ a ha k h1 h2
 rw[aR.mp ha];exact c k h1 h2
theorem zk{x v:Array Keyed}{i k:Nat}(h:i+k<x.size):v++x.extract i (i+(k+1))=(v++x.extract i (i+k)).push (G x (i+k)):=by
 apply m_.mp;rw[gF,J8,J8,sV,sV,tH,tH,dX]
 congr 1
 rw[show i+(k+1)-i=k+1 by lia,show i+k-i=k by lia,ba,Kz,iD,pK h];rfl
theorem MI.chunk{x y v:Array Keyed}{i j:Nat}(hx:Asc lt x)(h:MI lt x y v i j):∀(k:Nat),i+k<=x.size->(∀m,m<k->∀a,j<=a->a<y.size->lt (G y a) (G x (i+m))=false)->MI lt x y (v++x.extract i (i+k)) (i+k) j
 |0,_,_=>by
  have e:v++x.extract i (i+0)=v:=by apply m_.mp;simp
  rw[e];exact h
 |k+1,b,hm=>by
  rw[zk (by lia)];exact (MI.chunk hx h k (by lia) λm c=>hm m (by lia)).push hx (by lia) (hm k (fP _))
theorem MI.fin{x y v:Array Keyed}(h:MI lt x y v x.size y.size):Good lt x y v:=by
 refine⟨?_,h.so⟩;have:=h.pm
 rwa [iK (by simp),iK (by simp)] at this
theorem MI.fa{x y v:Array Keyed}{i j:Nat}(hx:Asc lt x)(c:Asc lt y)(h:MI lt x y v i j)(d:∀m,i<=m->m<x.size->∀k,j<=k->k<y.size->lt (G y k) (G x m)=false):Good lt x y (v++x.extract i x.size++y.extract j y.size):=by have hi:=h.ix;have e:=h.jy;have a:=MI.chunk hx h (x.size-i) (by lia) λm hm k h1 h2=>d _ (by lia) (by lia) k h1 h2;rw[show i+(x.size-i)=x.size by lia] at a;have b:=MI.chunk c a.sw (y.size-j) (by lia) λm hm k h1 h2=>absurd h1 (by lia);rw[show j+(y.size-j)=y.size by lia] at b;exact b.sw.fin
theorem Good.sw{x y v:Array Keyed}(h:Good lt y x v):Good lt x y v:=⟨h.1.trans gO,h.2⟩
def Fr(st a:SortSt):Prop:=kindOf a=kindOf st/\arrOf a=arrOf st/\pendingOf a=pendingOf st/\failedOf a=failedOf st
theorem oS{g:Nat}{st a:SortSt}{Q:Unit->SortSt->Prop}(f:Fr st a)(h:∀b,Fr st b->Q () b):wpS M A E s (smg g) Q a:=by rw[Gy];exact iM (h _ f)
structure J(lt:Keyed->Keyed->Bool)(x y:Array Keyed)(st:SortSt)(lo:Nat)(r:Option (Array Keyed))(v:Array Keyed)(i j:Nat)(st':SortSt):Prop where
 f:Fr st st'
 yes:∀a,r=some a->Good lt x y a
 no:r=none->MI lt x y v i j/\i+1<x.size/\j<y.size/\lo<=i+j
theorem J.on{x y:Array Keyed}{st a:SortSt}{lo i j:Nat}{v:Array Keyed}(f:Fr st a)(h:MI lt x y v i j)(hi:i+1<x.size)(b:j<y.size)(c:lo<=i+j):J lt x y st lo none v i j a:=⟨f,λ_ z=>(nomatch z),λ_=>⟨h,hi,b,c⟩⟩
theorem J.end_{x y:Array Keyed}{st b:SortSt}{lo i j:Nat}{v a:Array Keyed}(f:Fr st b)(h:Good lt x y a):J lt x y st lo (some a) v i j b:=⟨f,λ_ z=>cN z ▸ h,λz=>(nomatch z)⟩
theorem F2(C:Cmp M A E s κ N lt){x y:Array Keyed}{st:SortSt}{Q:Array Keyed->SortSt->Prop}(hk:kindOf st=κ)(Nx:∀i,i<x.size->N (G x i))(Ny:∀i,i<y.size->N (G y i))(hx:Asc lt x)(H:Asc lt y)(h0:0<x.size)(h1:0<y.size)
  (hb:lt (G y 0) (G x 0)=true) (hl:∀j,j<y.size->lt (G y j) (G x (x.size-1))=true) (q:∀r l,Fr st l->Good lt x y r->Q r l):wpS M A E s (mlo x y) Q st:=by
 have m0:MI lt x y #[G y 0] 0 1:=by have z:MI lt y x #[] 0 0:=⟨aJ _,aJ _,by simp,List.Pairwise.nil,by simp,by simp⟩;exact (z.push H h1 λk _ ab=>C.tr _ _ _ (C.asym _ _ hb) (hx 0 k (aJ _) ab)).sw
 have fa:∀{v:Array Keyed}{i j:Nat},MI lt x y v i j->j=y.size\/i=x.size->Good lt x y (v++x.extract i x.size++y.extract j y.size):=λ{v i j} m e=>m.fa hx H λa h2 u b h4 h5=>absurd e (by lia);have fb:∀{v:Array Keyed}{i j:Nat},MI lt x y v i j->i+1=x.size->Good lt x y (v++y.extract j y.size++x.extract i x.size):=λ{v i j} m e=>(m.sw.fa H hx λa h2 u b h4 h5=>by
  rw[show b=x.size-1 by lia];exact C.asym _ _ (hl a u)).sw
 have K:∀{a b:Nat},(a==b)=true->a=b:=λh=>by simpa using h
 have L:∀{a b:Nat},¬(a==b)=true->a≠b:=λh=>by simpa using h
 rw[HG];dsimp only;refine av (jK (av (cE h1 ?_)));by_cases e1:(1==y.size)=true
 .exact a9 e1 (aA (q _ _ ⟨rfl,rfl,rfl,rfl⟩ (fa m0 (.inl (K e1)))))
 refine aZ e1 ?_;by_cases e2:(0+1==x.size)=true
 .exact a9 e2 (aA (q _ _ ⟨rfl,rfl,rfl,rfl⟩ (fb m0 (K e2))))
 refine aZ e2 ?_;have e1:=L e1;have e2:=L e2;have j0:=J.on (lo:=0) (show Fr st st from ⟨rfl,rfl,rfl,rfl⟩) m0 (by lia) (by lia) (aJ _);refine av (gZ (av (eG (d_ (β:=Option (Array Keyed)×Array Keyed×Nat×Nat×Nat) (I:=λt z l=>z.1=none/\J lt x y st t none z.2.1 z.2.2.1 z.2.2.2.1 l) (Q:=λz l=>J lt x y st (x.size+y.size) z.1 z.2.1 z.2.2.1 z.2.2.2.1 l) ?step ?fin ⟨rfl,j0⟩) ?post)))
 case fin=>
  rintro⟨r,v,i,j,g⟩ l ⟨e,h⟩;have e:r=none:=e;subst e;exact⟨h.f,h.yes,λz=>by
   obtain⟨a1,w,n,B⟩:=h.no z;exact⟨a1,w,n,by rw[tW (aJ _)] at B;exact B⟩⟩
 case post=>
  rintro⟨r,v,i,j,g⟩ l h;cases r with
  |some r=>exact aA (q _ _ h.f (h.yes _ rfl))
  |none=>
   obtain⟨_,w,n,B⟩:=h.no rfl;have w:i+1<x.size:=w;have n:j<y.size:=n;have B:x.size+y.size<=i+j:=B;lia
 case step=>
  rintro t ⟨r,v,i,j,g⟩ bd _ ht ⟨e,h⟩;have e:r=none:=e;subst e;dsimp only at h |-;refine av (eG (d_ (β:=Option (Array Keyed)×Array Keyed×Nat×Nat×Nat×Nat) (I:=λk z l=>z.1=none/\J lt x y st (t+k) none z.2.1 z.2.2.1 z.2.2.2.1 l) (Q:=λz l=>J lt x y st (t+1) z.1 z.2.1 z.2.2.1 z.2.2.2.1 l) ?s1 ?f1 ⟨rfl,h⟩) ?p1)
  case f1=>
   rintro⟨r,v,i,j,c,d⟩ l ⟨e,h⟩;have e:r=none:=e;subst e;exact⟨h.f,h.yes,λz=>by
    obtain⟨a1,w,n,B⟩:=h.no z;exact⟨a1,w,n,by rw[tW (aJ _)] at B;lia⟩⟩
  case s1=>
   rintro k ⟨r,v,i,j,c,d⟩ l _ ab ⟨e,h⟩;obtain⟨m,w,n,B⟩:=h.no rfl;have f:=h.f;clear h e;dsimp only at m w n B |-;refine av (cE n (av (cE (by lia) (av (C.ask (Ny _ n) (Nx _ (by lia)) (f.1.trans hk) ?_)))));dsimp only;cases hc:lt (G y j) (G x i) with
   |true=>
    refine a9 rfl ?_;have R:=(m.sw.push H n λk h2 u=>C.tr _ _ _ (C.asym _ _ hc) (hx i k h2 u)).sw;refine av (cE n ?_)
    split
    .rename_i e;exact aA (J.end_ f (fa R (.inl (K e))))
    rename_i e;have e:=L e;have S:=J.on (lo:=t+1) f R w (by lia) (by lia);have Y:=J.on (lo:=t+(k+1)) f R w (by lia) (by lia)
    split
    .exact aA S
    exact aA ⟨rfl,Y⟩
   |false=>
    refine aZ (by decide) ?_;have R:=m.push hx (by lia) λk h2 u=>C.tr _ _ _ hc (H j k h2 u);refine av (cE (by lia) ?_)
    split
    .rename_i e;exact aA (J.end_ f (fb R (K e)))
    rename_i e;have e:=L e;have S:=J.on (lo:=t+1) f R (by lia) n (by lia);have Y:=J.on (lo:=t+(k+1)) f R (by lia) n (by lia)
    split
    .exact aA S
    exact aA ⟨rfl,Y⟩
  case p1=>
   rintro⟨r,v,i,j,c,d⟩ l h;cases r with
   |some r=>exact aA ⟨h.f,h.yes,λz=>nomatch z⟩
   |none=>
   dsimp only at h |-;refine av (jK (av (eG (d_ (β:=Option (Array Keyed)×Array Keyed×Nat×Nat×Nat×Nat×Nat) (I:=λk z l=>z.1=none/\J lt x y st (t+1) none z.2.1 z.2.2.1 z.2.2.2.1 l) (Q:=λz l=>J lt x y st (t+1) z.1 z.2.1 z.2.2.1 z.2.2.2.1 l) ?s2 ?f2 ⟨rfl,h⟩) ?p2)))
   case f2=>
    rintro⟨r,v,i,j,g,c,d⟩ l ⟨e,h⟩;have e:r=none:=e;subst e;exact h
   case p2=>
    rintro⟨r,v,i,j,g,c,d⟩ l h;cases r with
    |some r=>exact aA ⟨h.f,h.yes,λz=>nomatch z⟩
    |none=>exact av (oS h.f λbe f'=>aA ⟨rfl,f',λ_ z=>(nomatch z),h.no⟩)
   case s2=>
    rintro k ⟨r,v,i,j,g,c,d⟩ bg _ ab ⟨e,h⟩;obtain⟨m,w,n,B⟩:=h.no rfl;have f:=h.f;clear h e;dsimp only at m w n B |-;have tl:∀{o:Nat},bv lt false (G y j) x i o=true->lt (G y j) (G x (i+o))=false:=λh=>by simpa [bv] using h
    have fl:∀{o:Nat},bv lt false (G y j) x i o=false->lt (G y j) (G x (i+o))=true:=λh=>by simpa [bv] using h
    by_cases hg:g>1;refine a9 hg ?_
    rotate_left
    refine aZ hg ?_
    all_goals
     refine av (oS f λbi O=>av (cE n (av (jS (bv lt false (G y j) x i) (λo T Q' q'=>jT C Nx (Ny _ n) (by lia) (O.1.trans hk) q') (λo p T hp ad=>?_) (by lia) λk bl aS a0=>?_))))
     .cases hc:lt (G y j) (G x (i+o)) with
      |false=>show (!lt _ _)=true;rw[hc];rfl
      |true=>have:=C.ltle hc (hx (i+o) (i+p) (by lia) (by lia));rw[tl ad] at this;cases this
     dsimp only;have P:=m.chunk hx k (by lia) λo T D h2 u=>C.tr _ _ _ (tl (aS o T)) (H j D h2 u);have al:i+k<x.size->lt (G y j) (G x (i+k))=true:=λz=>fl (a0 k (ak _) (by lia));have i0:t+1<=i+k+j:=by lia
     by_cases an:k>0;refine a9 an ?_;by_cases c1:(i+k+1==x.size)=true
     .exact a9 c1 (aA (J.end_ O (fb P (K c1))))
     refine aZ c1 ?_;by_cases c2:(i+k==x.size)=true
     .exact a9 c2 (aA (J.end_ O (fa P (.inr (K c2)))))
     refine aZ c2 ?_;have c1:=L c1;have c2:=L c2;have b2:i+k+1<x.size:=by lia
     have n1:=al (by lia);generalize i+k=U at P b2 n1 i0 |-;generalize v++x.extract i U=v1 at P |-
     rotate_left
     refine aZ an ?_;have b2:=w;have n1:=al (by lia);have P:=m;have i0:=B;rw[show i+k=i by lia] at n1;clear al;generalize i=U at P b2 n1 i0 |-;generalize v=v1 at P |-
     all_goals
      have m2:=(P.sw.push H n λk h2 u=>C.tr _ _ _ (C.asym _ _ n1) (hx U k h2 u)).sw;refine av (cE n ?_);by_cases Z:(j+1==y.size)=true
      .exact a9 Z (aA (J.end_ O (fa m2 (.inl (K Z)))))
      refine aZ Z ?_;have Z:=L Z;refine av (cE (by lia) (av (jS (bv lt true (G x U) y (j+1)) (λo T Q' q'=>jT C Ny (Nx _ (by lia)) (by lia) (O.1.trans hk) q') (λo p T hp ad=>C.lelt (H _ _ (by lia) (by lia)) ad) (by lia) λD a5 ap au=>?_)));dsimp only;have X:=(m2.sw.chunk H D (by lia) λo T bb h2 u=>C.tr _ _ _ (C.asym _ _ (ap o T)) (hx U bb h2 u)).sw;have am:j+1+D<y.size->lt (G y (j+1+D)) (G x U)=false:=λz=>au D (ak _) (by lia);have j0:j<=j+1+D:=by lia
      by_cases aM:D>0;refine a9 aM ?_;by_cases c4:(j+1+D==y.size)=true
      .exact a9 c4 (aA (J.end_ O (fa X (.inl (K c4)))))
      refine aZ c4 ?_;have c4:=L c4;have b3:j+1+D<y.size:=by lia
      have n2:=am b3;generalize j+1+D=S at X b3 n2 j0 |-;generalize v1.push (G y j)++y.extract (j+1) S=v3 at X |-
      rotate_left
      refine aZ aM ?_;have b3:j+1<y.size:=by lia
      have n2:=am (by lia);have X:=m2;have j0:j<=j+1:=ko _;rw[show j+1+D=j+1 by lia] at n2;clear am a5 ap au Z;generalize j+1=S at X b3 n2 j0 |-;generalize v1.push (G y j)=v3 at X |-
      all_goals
       have m4:=X.push hx (by lia) λk h2 u=>C.tr _ _ _ n2 (H S k h2 u);refine av (cE (by lia) ?_);by_cases c5:(U+1+1==x.size)=true
       .exact a9 c5 (aA (J.end_ O (fb m4 (K c5))))
       refine aZ c5 ?_;have c5:=L c5;have Y:=J.on (lo:=t+1) O m4 (by lia) b3 (by lia)
       split
       .exact aA Y
       exact aA ⟨rfl,Y⟩
end
section
variable {M:Model}{κ:SortKind}{N:Keyed->Prop}{lt:Keyed->Keyed->Bool}
structure HI(lt:Keyed->Keyed->Bool)(x y v:Array Keyed)(i j:Nat):Prop where
 ix:i<=x.size
 jy:j<=y.size
 pm:v.toList.Perm (x.toList.drop i++y.toList.drop j)
 so:v.toList.Pairwise λa b=>lt a b=false
 bx:∀a∈v.toList,∀k,k<i->lt a (G x k)=false
 by_:∀a∈v.toList,∀k,k<j->lt a (G y k)=false
theorem HI.sw{x y v:Array Keyed}{i j:Nat}(h:HI lt x y v i j):HI lt y x v j i:=⟨h.jy,h.ix,h.pm.trans gO,h.so,h.by_,h.bx⟩
theorem Io{x:Array Keyed}{i:Nat}(h:i<x.size):x.toList.drop i=G x i::x.toList.drop (i+1):=by rw[nj (by simpa using h)];simp[G,h]
theorem HI.push{x y v:Array Keyed}{i j:Nat}(hx:Asc lt x)(h:HI lt x y v (i+1) j)(c:∀k,k<j->lt (G x i) (G y k)=false):HI lt x y (v.push (G x i)) i j:=by
 have hi:=h.ix;refine⟨by lia,h.jy,?_,?_,λa ha k h1=>?_,λa ha k h1=>?_⟩
 .rw[gF,Io (show i<x.size by lia)];exact (gO.trans (List.Perm.cons _ h.pm))
 .rw[gF,zN];refine⟨h.so,tS _ _,λa ha b d=>?_⟩;rw[aR.mp d];exact h.bx a ha i (fP _)
 .rw[gF] at ha;rcases aW.mp ha with ha|ha
  .exact h.bx a ha k (by lia)
  rw[aR.mp ha];exact hx k i (by lia) (by lia)
 rw[gF] at ha;rcases aW.mp ha with ha|ha
 .exact h.by_ a ha k h1
 rw[aR.mp ha];exact c k h1
theorem Jq{x v:Array Keyed}{p k:Nat}(h:p+k<x.size):v++(x.extract p (p+(k+1))).reverse=v.push (G x (p+k))++(x.extract p (p+k)).reverse:=by have e:=zk (v:=#[]) h;simp only[Array.empty_append] at e;rw[e];apply m_.mp;simp
theorem HI.chunk{x y:Array Keyed}{p j:Nat}(hx:Asc lt x):∀(k:Nat){v:Array Keyed},HI lt x y v (p+k) j->(∀m,m<k->∀a,a<j->lt (G x (p+m)) (G y a)=false)->HI lt x y (v++(x.extract p (p+k)).reverse) p j
 |0,v,h,_=>by
  have e:v++(x.extract p (p+0)).reverse=v:=by apply m_.mp;simp
  rw[e];exact h
 |k+1,v,h,hm=>by
  have hi:=h.ix;rw[Jq (by lia)];exact HI.chunk hx k (h.push hx (hm k (fP _))) λm b=>hm m (by lia)
theorem HI.fa{x y v:Array Keyed}{i j:Nat}(hx:Asc lt x)(c:Asc lt y)(h:HI lt x y v i j)(d:∀m,m<j->∀k,k<i->lt (G y m) (G x k)=false):Good lt x y (x.extract 0 i++y.extract 0 j++v.reverse):=by
 have f:=HI.chunk (p:=0) c j (by rw[kq];exact h.sw) λm hm k a=>by rw[kq];exact d m hm k a
 have b:=HI.chunk (p:=0) hx i (by rw[kq];exact f.sw) λm hm k a=>absurd a (KQ _);rw[kq,kq] at b;have e:(x.extract 0 i++y.extract 0 j++v.reverse)=(v++(y.extract 0 j).reverse++(x.extract 0 i).reverse).reverse:=by apply m_.mp;simp
 rw[e];refine⟨?_,?_⟩
 .rw[J9];have:=b.pm;simp only[pX] at this;exact (List.reverse_perm _).trans this
 unfold Srt;rw[J9,List.pairwise_reverse];exact b.so
structure JH(lt:Keyed->Keyed->Bool)(x y:Array Keyed)(st:SortSt)(lo:Nat)(r:Option (Array Keyed))(v:Array Keyed)(i j:Nat)(st':SortSt):Prop where
 f:Fr st st'
 yes:∀a,r=some a->Good lt x y a
 no:r=none->HI lt x y v i j/\0<i/\1<j/\lo+(i+j)<=x.size+y.size
theorem JH.on{x y:Array Keyed}{st a:SortSt}{lo i j:Nat}{v:Array Keyed}(f:Fr st a)(h:HI lt x y v i j)(hi:0<i)(b:1<j)(c:lo+(i+j)<=x.size+y.size):JH lt x y st lo none v i j a:=⟨f,λ_ z=>(nomatch z),λ_=>⟨h,hi,b,c⟩⟩
theorem JH.end_{x y:Array Keyed}{st b:SortSt}{lo i j:Nat}{v a:Array Keyed}(f:Fr st b)(h:Good lt x y a):JH lt x y st lo (some a) v i j b:=⟨f,λ_ z=>cN z ▸ h,λz=>(nomatch z)⟩
theorem F3(C:Cmp M A E s κ N lt){x y:Array Keyed}{st:SortSt}{Q:Array Keyed->SortSt->Prop}(hk:kindOf st=κ)(Nx:∀i,i<x.size->N (G x i))(Ny:∀i,i<y.size->N (G y i))(hx:Asc lt x)(K:Asc lt y)(h0:0<x.size)(h1:0<y.size)
  (hb:lt (G y 0) (G x 0)=true) (hl:∀j,j<y.size->lt (G y j) (G x (x.size-1))=true) (q:∀r n,Fr st n->Good lt x y r->Q r n):wpS M A E s (mhi x y) Q st:=by
 have m0:HI lt x y #[G x (x.size-1)] (x.size-1) y.size:=by have z:HI lt x y #[] (x.size-1+1) y.size:=⟨by lia,ak _,by rw[show x.size-1+1=x.size by lia];simp,List.Pairwise.nil,by simp,by simp⟩;exact z.push hx λk ad=>C.asym _ _ (hl k ad)
 have fa:∀{v:Array Keyed}{i j:Nat},HI lt x y v i j->i=0\/j=0->Good lt x y (x.extract 0 i++y.extract 0 j++v.reverse):=λ{v i j} m e=>m.fa hx K λa h2 b h4=>absurd e (by lia);have fb:∀{v:Array Keyed}{i j:Nat},HI lt x y v i j->j=1->Good lt x y (y.extract 0 j++x.extract 0 i++v.reverse):=λ{v i j} m e=>(m.sw.fa K hx λa h2 b h4=>by
  have:=m.ix;rw[show b=0 by lia];exact C.asym _ _ (C.ltle hb (hx 0 a (aJ _) (by lia)))).sw
 have B:∀{a b:Nat},(a==b)=true->a=b:=λh=>by simpa using h
 have D:∀{a b:Nat},¬(a==b)=true->a≠b:=λh=>by simpa using h
 rw[HH];dsimp only;refine av (jK (av (cE (by lia) ?_)));by_cases U:(x.size-1==0)=true
 .exact a9 U (aA (q _ _ ⟨rfl,rfl,rfl,rfl⟩ (fa m0 (.inl (B U)))))
 refine aZ U ?_;by_cases X:(y.size==1)=true
 .exact a9 X (aA (q _ _ ⟨rfl,rfl,rfl,rfl⟩ (fb m0 (B X))))
 refine aZ X ?_;have U:=D U;have X:=D X;have j0:=JH.on (lo:=0) (show Fr st st from ⟨rfl,rfl,rfl,rfl⟩) m0 (by lia) (by lia) (by lia);refine av (gZ (av (eG (d_ (β:=Option (Array Keyed)×Nat×Nat×Array Keyed×Nat) (I:=λt z n=>z.1=none/\JH lt x y st t none z.2.2.2.1 z.2.1 z.2.2.1 n) (Q:=λz n=>JH lt x y st (x.size+y.size) z.1 z.2.2.2.1 z.2.1 z.2.2.1 n) ?step ?fin ⟨rfl,j0⟩) ?post)))
 case fin=>
  rintro⟨r,i,j,v,g⟩ n ⟨e,h⟩;have e:r=none:=e;subst e;exact⟨h.f,h.yes,λz=>by
   obtain⟨a1,w,L,u⟩:=h.no z;exact⟨a1,w,L,by rw[tW (aJ _)] at u;exact u⟩⟩
 case post=>
  rintro⟨r,i,j,v,g⟩ n h;cases r with
  |some r=>exact aA (q _ _ h.f (h.yes _ rfl))
  |none=>
   obtain⟨_,w,L,u⟩:=h.no rfl;have w:0<i:=w;have u:x.size+y.size+(i+j)<=x.size+y.size:=u;lia
 case step=>
  rintro t ⟨r,i,j,v,g⟩ bg _ ht ⟨e,h⟩;have e:r=none:=e;subst e;dsimp only at h |-;refine av (eG (d_ (β:=Option (Array Keyed)×Nat×Nat×Array Keyed×Nat×Nat) (I:=λk z n=>z.1=none/\JH lt x y st (t+k) none z.2.2.2.1 z.2.1 z.2.2.1 n) (Q:=λz n=>JH lt x y st (t+1) z.1 z.2.2.2.1 z.2.1 z.2.2.1 n) ?s1 ?f1 ⟨rfl,h⟩) ?p1)
  case f1=>
   rintro⟨r,i,j,v,c,d⟩ n ⟨e,h⟩;have e:r=none:=e;subst e;exact⟨h.f,h.yes,λz=>by
    obtain⟨a1,w,L,u⟩:=h.no z;exact⟨a1,w,L,by rw[tW (aJ _)] at u;lia⟩⟩
  case s1=>
   rintro k ⟨r,i,j,v,c,d⟩ n _ ad ⟨e,h⟩;obtain⟨m,w,L,u⟩:=h.no rfl;have f:=h.f;clear h e;dsimp only at m w L u |-;have mi:=m.ix;have mj:=m.jy;obtain⟨i,rfl⟩:∃i',i=i' + 1:=⟨i-1,by lia⟩;obtain⟨j,rfl⟩:∃j',j=j' + 1:=⟨j-1,by lia⟩;simp only[tT];refine av (cE (by lia) (av (cE (by lia) (av (C.ask (Ny _ (by lia)) (Nx _ (by lia)) (f.1.trans hk) ?_)))));dsimp only;cases Y:lt (G y j) (G x i) with
   |true=>
    refine a9 rfl ?_;have R:=m.push hx λk h2=>C.tr _ _ _ (K k j (by lia) (by lia)) (C.asym _ _ Y);refine av (cE (by lia) ?_);by_cases c1:(i==0)=true
    .exact a9 c1 (aA (JH.end_ f (fa R (.inl (B c1)))))
    refine aZ c1 ?_;have c1:=D c1;have j1:=JH.on (lo:=t+1) f R (by lia) (by lia) (by lia);have T:=JH.on (lo:=t+(k+1)) f R (by lia) (by lia) (by lia)
    split
    .exact aA j1
    exact aA ⟨rfl,T⟩
   |false=>
    refine aZ (by decide) ?_;have R:=(m.sw.push K λk h2=>C.tr _ _ _ (hx k i (by lia) (by lia)) Y).sw;refine av (cE (by lia) ?_);by_cases c1:(j==1)=true
    .exact a9 c1 (aA (JH.end_ f (fb R (B c1))))
    refine aZ c1 ?_;have c1:=D c1;have j1:=JH.on (lo:=t+1) f R (by lia) (by lia) (by lia);have T:=JH.on (lo:=t+(k+1)) f R (by lia) (by lia) (by lia)
    split
    .exact aA j1
    exact aA ⟨rfl,T⟩
  case p1=>
   rintro⟨r,i,j,v,c,d⟩ n h;cases r with
   |some r=>exact aA ⟨h.f,h.yes,λz=>nomatch z⟩
   |none=>
   dsimp only at h |-;refine av (jK (av (eG (d_ (β:=Option (Array Keyed)×Nat×Nat×Array Keyed×Nat×Nat×Nat) (I:=λk z n=>z.1=none/\JH lt x y st (t+1) none z.2.2.2.1 z.2.1 z.2.2.1 n) (Q:=λz n=>JH lt x y st (t+1) z.1 z.2.2.2.1 z.2.1 z.2.2.1 n) ?s2 ?f2 ⟨rfl,h⟩) ?p2)))
   case f2=>
    rintro⟨r,i,j,v,g,c,d⟩ n ⟨e,h⟩;have e:r=none:=e;subst e;exact h
   case p2=>
    rintro⟨r,i,j,v,g,c,d⟩ n h;cases r with
    |some r=>exact aA ⟨h.f,h.yes,λz=>nomatch z⟩
    |none=>exact av (oS h.f λbi f'=>aA ⟨rfl,f',λ_ z=>(nomatch z),h.no⟩)
   case s2=>
    rintro k ⟨r,i,j,v,g,c,d⟩ bl _ ad ⟨e,h⟩;obtain⟨m,w,L,u⟩:=h.no rfl;have f:=h.f;clear h e;dsimp only at m w L u |-;have mi:=m.ix;have mj:=m.jy;obtain⟨j,rfl⟩:∃j',j=j' + 1:=⟨j-1,by lia⟩;simp only[tT];have tl:∀{o:Nat},bv lt false (G y j) x 0 o=true->lt (G y j) (G x o)=false:=λh=>by simpa [bv] using h
    have fl:∀{o:Nat},bv lt false (G y j) x 0 o=false->lt (G y j) (G x o)=true:=λh=>by simpa [bv] using h
    by_cases hg:g>1;refine a9 hg ?_
    rotate_left
    refine aZ hg ?_
    all_goals
     refine av (oS f λbm O=>av (cE (by lia) (av (jS (bv lt false (G y j) x 0) (λo H Q' q'=>jT C Nx (Ny _ (by lia)) (by lia) (O.1.trans hk) q') (λo p H hp al=>?_) (by lia) λp aM am an=>?_))))
     .cases Y:lt (G y j) (G x o) with
      |false=>show (!lt _ (G x (0+o)))=true;rw[kq,Y];rfl
      |true=>have:=C.ltle Y (hx o p (by lia) (by lia));rw[tl al] at this;cases this
     dsimp only;have S:=HI.chunk (p:=p) (v:=v) (j:=j+1) hx (i-p) (by rw[show p+(i-p)=i by lia];exact m) λo H k' h2=>C.tr _ _ _ (K k' j (by lia) (by lia)) (C.asym _ _ (fl (an (p+o) (by lia) (by lia))));rw[show p+(i-p)=i by lia] at S;have n1:∀o,o<p->lt (G y j) (G x o)=false:=λo H=>tl (am o H);have i0:t+1+(p+(j+1))<=x.size+y.size:=by lia
     have bn:p<=x.size:=by lia
     by_cases ab:i-p>0;refine a9 ab ?_;by_cases c1:(p==0)=true
     .exact a9 c1 (aA (JH.end_ O (fa S (.inl (B c1)))))
     refine aZ c1 ?_;have b2:0<p:=by have:=D c1;lia
     generalize v++(x.extract p i).reverse=v1 at S |-;generalize ap:i-p=kk;clear aM am an ab ap
     rotate_left
     refine aZ ab ?_;have aS:i=p:=by lia
     have b2:0<p:=by lia
     have S:=m;rw[aS] at S |-;generalize v=v1 at S |-;generalize ap:p-p=kk;clear aM am an ab ap aS
     all_goals
      obtain⟨p,rfl⟩:∃l,p=l + 1:=⟨p-1,by lia⟩;have m2:=(S.sw.push K n1).sw;refine av (cE (by lia) ?_);by_cases Z:(j==1)=true
      .exact a9 Z (aA (JH.end_ O (fb m2 (B Z))))
      refine aZ Z ?_;have Z:=D Z;simp only[tT];refine av (cE (by lia) (av (jS (bv lt true (G x p) y 0) (λo H Q' q'=>jT C Ny (Nx _ (by lia)) (by lia) (O.1.trans hk) q') (λo p H hp al=>C.lelt (K _ _ (by lia) (by lia)) al) (by lia) λl bt a5 bb=>?_)));have a0:∀{o:Nat},bv lt true (G x p) y 0 o=lt (G y o) (G x p):=λ{o}=>by simp[bv]
      dsimp only;have P:=(HI.chunk (p:=l) (v:=v1.push (G y j)) K (j-l) (by rw[show l + (j-l)=j by lia];exact m2.sw) λo H k' h2=>C.tr _ _ _ (hx k' p (by lia) (by lia)) (a0 ▸ bb (l + o) (by lia) (by lia))).sw;rw[show l + (j-l)=j by lia] at P;have n2:∀o,o<l->lt (G x p) (G y o)=false:=λo H=>C.asym _ _ (a0 ▸ a5 o H);have j0:t+1+(p+1+l)<=x.size+y.size:=by lia
      by_cases au:j-l>0;refine a9 au ?_;by_cases c4:(l==1)=true
      .exact a9 c4 (aA (JH.end_ O (fb P (B c4))))
      refine aZ c4 ?_;by_cases c5:(l==0)=true
      .exact a9 c5 (aA (JH.end_ O (fa P (.inr (B c5)))))
      refine aZ c5 ?_;have b3:1<l:=by have:=D c4;have:=D c5;lia
      generalize v1.push (G y j)++(y.extract l j).reverse=v3 at P |-;generalize bd:j-l=be;clear bd au
      rotate_left
      refine aZ au ?_;have b3:1<l:=by lia
      have P:=m2;rw[show j=l by lia] at P |-;generalize v1.push (G y l)=v3 at P |-;generalize l-l=be
      all_goals
       have m4:=P.push hx n2;refine av (cE (by lia) ?_);by_cases c6:(p==0)=true
       .exact a9 c6 (aA (JH.end_ O (fa m4 (.inl (B c6)))))
       refine aZ c6 ?_;have c6:=D c6;have T:=JH.on (lo:=t+1) O m4 (by lia) b3 (by lia)
       split
       .exact aA T
       exact aA ⟨rfl,T⟩
end
def Seg(lt:Keyed->Keyed->Bool)(a:Array Keyed)(lo hi:Nat):Prop:=∀i j,lo<=i->i<=j->j<hi->lt (G a j) (G a i)=false
def Dn(lt:Keyed->Keyed->Bool)(a:Array Keyed)(lo hi:Nat):Prop:=∀i j,lo<=i->i<=j->j<hi->lt (G a i) (G a j)=false
def Tl(lt:Keyed->Keyed->Bool)(a:Array Keyed)(hi q:Nat):Prop:=∀i j,hi<=i+(q+1)->i<hi->hi<=j+(q+1)->j<hi->lt (G a i) (G a j)=false
structure Cg(lo hi:Nat)(a a':Array Keyed):Prop where
 pm:a'.Perm a
 at_:∀k,k<lo\/hi<=k->G a' k=G a k
theorem Cg.size{lo hi:Nat}{a b:Array Keyed}(h:Cg lo hi a b):b.size=a.size:=h.pm.size_eq
theorem Cg.refl(lo hi:Nat)(a:Array Keyed):Cg lo hi a a:=⟨J3 _,λ_ _=>rfl⟩
theorem Cg.trans{lo hi:Nat}{a b c:Array Keyed}(h:Cg lo hi a b)(h2:Cg lo hi b c):Cg lo hi a c:=⟨h2.pm.trans h.pm,λk d=>(h2.at_ k d).trans (h.at_ k d)⟩
theorem Cg.mono{lo hi c d:Nat}{a b:Array Keyed}(h:Cg lo hi a b)(h1:c<=lo)(h2:hi<=d):Cg c d a b:=⟨h.pm,λk e=>h.at_ k (by lia)⟩
theorem jh{p q:Array Keyed}{i j:Nat}(h:p[i]?=q[j]?):G p i=G q j:=by
 have e:∀(a:Array Keyed)(k:Nat),G a k=(a[k]?).getD (Value.none,Value.none):=λa k=>by simp[G]
 rw[e,e,h]
theorem fj{p:Array Keyed}{i j:Nat}(a:j<=p.size)(k:Nat):G (mirror p i j ((j-i)/2)) k=if i<=k/\k<j then G p (i+j-1-k) else G p k:=by
 have h:=getElem?_mirror_all (xs:=p) (i:=i) a k
 split
 .rename_i c;rw[ND c] at h;exact jh h
 rename_i c;rw[NC c] at h;exact jh h
theorem ph{p:Array Keyed}{i j:Nat}(a:j<=p.size):Cg i j p (mirror p i j ((j-i)/2)):=⟨mirror_perm _ _ _ _,λk b=>by rw[fj a,NC (by lia)]⟩
abbrev sa(st:SortSt)(a:Array Keyed):SortSt:=setArr st a
section
variable {M:Model}{κ:SortKind}{N:Keyed->Prop}{lt:Keyed->Keyed->Bool}
def Nm(N:Keyed->Prop)(a:Array Keyed):Prop:=∀x,x∈a->N x
theorem Nm.at{a:Array Keyed}(h:Nm N a){i:Nat}(hi:i<a.size):N (G a i):=h _ (Array.mem_of_getElem? (pK hi))
theorem Nm.perm{a b:Array Keyed}(h:Nm N a)(e:b.Perm a):Nm N b:=λx hx=>h x (e.mem_iff.mp hx)
theorem lq(C:Cmp M A E s κ N lt){st:SortSt}{a:Array Keyed}{i j:Nat}{Q:Option Bool->SortSt->Prop}(hk:kindOf st=κ)(hN:Nm N a)(hi:i<a.size)(hj:j<a.size)(h:Q (some (lt (G a i) (G a j))) (sa st a)):wpS M A E s (ltAt' i j) Q (sa st a):=by rw[ltAt'_eq];refine av (gZ ?_);show wpS _ _ _ _ (do let x <-elem' a i;let y <-elem' a j;lt' x y) Q _;exact av (cE hi (av (cE hj (C.ask (hN.at hi) (hN.at hj) hk h))))
theorem ET(C:Cmp M A E s κ N lt){a:Array Keyed}{l:Nat}:Seg lt a l (l+1):=λi j h1 h2 b=>by
 have:i=j:=by lia
 subst this;exact C.refl _
theorem Dg(C:Cmp M A E s κ N lt){a:Array Keyed}{l n:Nat}(h:Seg lt a l (l+n))(h1:1<=n)(b:lt (G a (l+n)) (G a (l+n-1))=false):Seg lt a l (l+(n+1)):=λi j hi c f=>by
 by_cases e:j=l+n
 .subst e;by_cases d:i=l+n
  .subst d;exact C.refl _
  exact C.tr _ (G a (l+n-1)) _ (h i (l+n-1) hi (by lia) (by lia)) b
 exact h i j hi c (by lia)
theorem lK(C:Cmp M A E s κ N lt){a:Array Keyed}{l n:Nat}(h:Dn lt a l (l+n))(h1:1<=n)(b:lt (G a (l+n-1)) (G a (l+n))=false):Dn lt a l (l+(n+1)):=λi j hi c f=>by
 by_cases e:j=l+n
 .subst e;by_cases d:i=l+n
  .subst d;exact C.refl _
  exact C.tr _ (G a (l+n-1)) _ b (h i (l+n-1) hi (by lia) (by lia))
 exact h i j hi c (by lia)
theorem CQ(C:Cmp M A E s κ N lt){st:SortSt}{a:Array Keyed}{l m:Nat}{Q:Option Nat->SortSt->Prop}(hk:kindOf st=κ)(hN:Nm N a)(h1:1<=m)(hs:l+m<=a.size)
  (q:∀n a',Cg l (l+m) a a'->1<=n->n<=m->Seg lt a' l (l+n)->Q (some n) (sa st a')):wpS M A E s (countRun' l m) Q (sa st a):=by
 have asc:∀(n:Nat)(a':Array Keyed)(Q':Option (Option Nat)×Nat->SortSt->Prop),Cg l (l+m) a a'->1<=n->n<=m->Seg lt a' l (l+n)->(∀n',n<=n'->n'<=m->Seg lt a' l (l+n')->(n'<m->lt (G a' (l+n')) (G a' (l+n'-1))=true)->Q' (none,n') (sa st a'))->
   wpS M A E s (forIn [n:m] ((none,n):Option (Option Nat)×Nat) λ_ x=>do
    let z <-ltAt' (l+x.2) (l+x.2-1)
    match z with
    |some z=>if z=true then pure (ForInStep.done (none,x.2)) else pure (ForInStep.yield (none,x.2+1))
    |_=>pure (ForInStep.done (some none,x.2))) Q' (sa st a'):=by
  intro n a' Q' cg n1 nm sg q';refine d_ (β:=Option (Option Nat)×Nat) (I:=λt x st'=>st'=sa st a'/\x.1=none/\x.2=t/\n<=t/\t<=m/\Seg lt a' l (l+t)) (Q:=Q') ?_ ?_ ⟨rfl,rfl,rfl,ak _,nm,sg⟩
  .rintro t ⟨r,n'⟩ st' _ ht ⟨rfl,e1,e2,e3,e4,e5⟩;have e2:n'=t:=e2;subst e2;have hz:=cg.size;refine av (lq C hk (hN.perm cg.pm) (by lia) (by lia) ?_);cases hc:lt (G a' (l+n')) (G a' (l+n'-1)) with
   |true=>exact aA (q' n' e3 (by lia) e5 λ_=>hc)
   |false=>exact aA ⟨rfl,rfl,rfl,by lia,by lia,Dg C e5 (by lia) hc⟩
  rintro⟨r,n'⟩ st' ⟨rfl,e1,e2,e3,e4,e5⟩;have e1:r=none:=e1;have e2:n'=max n m:=e2;subst e1;have:n'=m:=by lia
  subst this;rw[show max n n'=n' by lia] at e5;exact q' n' nm (ak _) e5 λz=>absurd z (by lia)
 have rv:∀{a':Array Keyed}{n:Nat},Cg l (l+m) a a'->n<=m->Dn lt a' l (l+n)->Seg lt (mirror a' l (l+n) ((l+n-l)/2)) l (l+n):=λ{a' n} cg nm d i j hi hij hj=>by
  have hz:=cg.size;rw[fj (by lia),fj (by lia),ND (by lia),ND (by lia)];exact d _ _ (by lia) (by lia) (by lia)
 have rt:∀{a':Array Keyed}{n q:Nat},Cg l (l+m) a a'->n<=m->q<n->Dn lt a' l (l+n)->Tl lt a' (l+n) q->Dn lt (mirror a' (l+n-(q+1)) (l+n) ((l+n-(l+n-(q+1)))/2)) l (l+n):=λ{a' n q} cg nm hq d tl i j hi hij hj=>by
  have hz:=cg.size;rw[fj (by lia),fj (by lia)]
  split
  .split
   .exact tl _ _ (by lia) (by lia) (by lia) (by lia)
   lia
  split
  .exact d _ _ hi (by lia) (by lia)
  exact d _ _ hi hij hj
 have t0:∀{a':Array Keyed}{h:Nat},Tl lt a' h 0:=λ{a' h} i j h1 h2 h3 h4=>by
  have:i=j:=by lia
  subst this;exact C.refl _
 have dl:∀(n:Nat)(a':Array Keyed),Cg l (l+m) a a'->1<=n->n<=m->Dn lt a' l (l+n)->wpS M A E s (do
   rule "list.sort.descending-run"
   let mut n:=n
   let mut q:=0
   for _ in [n:m] do
    let some z <-ltAt' (l+n) (l+n-1)|return none
    if z then
     if q>0 then reverseSlice' (l+n-(q+1)) (l+n)
     q:=0
    else
     let some z <-ltAt' (l+n-1) (l+n)|return none
     if z then break
     q:=q+1
    n:=n+1
   if q>0 then reverseSlice' (l+n-(q+1)) (l+n)
   reverseSlice' l (l+n)
   for _ in [n:m] do
    let some z <-ltAt' (l+n) (l+n-1)|return none
    if z then break
    n:=n+1
   return some n) Q (sa st a'):=by
  intro n a1 cg n1 nm d;dsimp only;refine av (jK (av (eG (d_ (β:=Option (Option Nat)×Nat×Nat) (I:=λt x st'=>x.1=none/\x.2.1=t/\n<=t/\t<=m/\x.2.2<t/\∃a',st'=sa st a'/\Cg l (l+m) a a'/\Dn lt a' l (l+t)/\Tl lt a' (l+t) x.2.2)
   (Q:=λx st'=>x.1=none/\n<=x.2.1/\x.2.1<=m/\x.2.2<x.2.1/\∃a',st'=sa st a'/\Cg l (l+m) a a'/\Dn lt a' l (l+x.2.1)/\Tl lt a' (l+x.2.1) x.2.2) ?_ ?_ ⟨rfl,rfl,ak _,nm,n1,a1,rfl,cg,d,t0⟩) ?_)))
  .rintro t ⟨r,n',q'⟩ st' _ ht ⟨e1,e2,e3,e4,e5,a',rfl,cg',d',tl⟩;have e2:n'=t:=e2;subst e2;have e5:q'<n':=e5;have hz:=cg'.size;dsimp only at tl |-;refine av (lq C hk (hN.perm cg'.pm) (by lia) (by lia) ?_);dsimp only;cases hc:lt (G a' (l+n')) (G a' (l+n'-1)) with
   |true=>
    refine a9 rfl ?_;by_cases hq:q'>0
    .rw[ND hq,ud];refine av (iM (aA ⟨rfl,rfl,by lia,by lia,by show 0<n' + 1;lia,_,rfl,cg'.trans ((ph (by lia)).mono (by lia) (by lia)),?_,t0⟩));refine lK C (rt cg' (by lia) e5 d' tl) (by lia) ?_;rw[fj (by show l+n'<=a'.size;lia),fj (by show l+n'<=a'.size;lia),ND (by lia),NC (by lia)];exact C.tr _ (G a' (l+n'-1)) _ (C.asym _ _ hc) (d' _ _ (by lia) (by lia) (by lia))
    refine aZ hq ?_;exact aA ⟨rfl,rfl,by lia,by lia,by show 0<n' + 1;lia,a',rfl,cg',lK C d' (by lia) (C.asym _ _ hc),t0⟩
   |false=>
    refine aZ (by decide) ?_;refine av (lq C hk (hN.perm cg'.pm) (by lia) (by lia) ?_);dsimp only;cases hc2:lt (G a' (l+n'-1)) (G a' (l+n')) with
    |true=>
     refine a9 rfl ?_;exact aA ⟨rfl,e3,e4,e5,a',rfl,cg',d',tl⟩
    |false=>
     refine aZ (by decide) ?_;refine aA ⟨rfl,rfl,by lia,by lia,by show q' + 1<n' + 1;lia,a',rfl,cg',lK C d' (by lia) hc2,λi j b1 b2 b3 b4=>?_⟩;have b1:l+(n' + 1)<=i+(q' + 1+1):=b1;have b3:l+(n' + 1)<=j+(q' + 1+1):=b3;by_cases ei:i=l+n'
     .by_cases ej:j=l+n'
      .subst ei;subst ej;exact C.refl _
      subst ei;exact C.tr _ (G a' (l+n'-1)) _ (tl _ _ (by lia) (by lia) (by lia) (by lia)) hc
     by_cases ej:j=l+n'
     .subst ej;exact C.tr _ (G a' (l+n'-1)) _ hc2 (tl _ _ (by lia) (by lia) (by lia) (by lia))
     exact tl _ _ (by lia) (by lia) (by lia) (by lia)
  .rintro⟨r,n',q'⟩ st' ⟨e1,e2,e3,e4,e5,a',rfl,cg',d',tl⟩;have e2:n'=max n m:=e2;have:n'=m:=by lia
   subst this;rw[show max n n'=n' by lia] at d' tl e5 e3;exact⟨e1,e3,ak _,e5,a',rfl,cg',d',tl⟩
  rintro⟨r,n',q'⟩ st' ⟨e1,e3,e4,e5,a',rfl,cg',d',tl⟩;cases e1;dsimp only at e3 e4 e5 d' tl |-;have hz:=cg'.size;by_cases hq:q'>0;rw[ND hq,ud];refine av (iM ?_);have cg2:=cg'.trans ((ph (i:=l+n'-(q' + 1)) (j:=l+n') (p:=a') (by lia)).mono (show l<=_ by lia) (show _<=l+m by lia));have d2:=rt cg' e4 e5 d' tl;show wpS _ _ _ _ _ _ (sa st (mirror a' (l+n'-(q' + 1)) (l+n') ((l+n'-(l+n'-(q' + 1)))/2)));generalize mirror a' (l+n'-(q' + 1)) (l+n') ((l+n'-(l+n'-(q' + 1)))/2)=a2 at cg2 d2 |-
  rotate_left
  refine aZ hq ?_;have cg2:=cg';have d2:=d';generalize a'=a2 at cg2 d2 |-
  all_goals
   have hz2:=cg2.size;rw[ud];refine av (iM ?_);have cg3:=cg2.trans ((ph (i:=l) (j:=l+n') (p:=a2) (by lia)).mono (ak _) (show _<=l+m by lia));refine av (asc n' _ _ cg3 (by lia) e4 (rv cg2 e4 d2) λn'' b1 b2 b3 b4=>?_);exact aA (q n'' _ cg3 (by lia) b2 b3)
 rw[countRun'_eq];dsimp only;refine av (asc 1 a _ (Cg.refl _ _ _) (ak _) h1 (ET C) λn b1 b2 b3 b4=>?_);dsimp only;by_cases c1:(n==m)=true
 .exact a9 c1 (aA (q n a (Cg.refl _ _ _) b1 b2 b3))
 refine aZ c1 ?_;have c1:n≠m:=by simpa using c1
 have hl:=b4 (by lia);by_cases c2:n>1
 .refine a9 c2 ?_;refine av (lq C hk hN (by lia) (by lia) ?_);dsimp only;cases hc:lt (G a l) (G a (l+n-1)) with
  |true=>rw[ND rfl];exact aA (q n a (Cg.refl _ _ _) b1 b2 b3)
  |false=>
   rw[NC (by decide),ud];refine av (iM ?_);have cg:=(ph (i:=l) (j:=l+n) (p:=a) (by lia)).mono (ak _) (show l+n<=l+m by lia);show wpS _ _ _ _ _ _ (sa st (mirror a l (l+n) ((l+n-l)/2)));refine dl (n+1) _ cg (by lia) (by lia) (lK C (λi j hi hij hj=>?_) (by lia) ?_)
   .rw[fj (by lia),fj (by lia),ND (by lia),ND (by lia)];exact b3 _ _ (by lia) (by lia) (by lia)
   rw[fj (by lia),fj (by lia),ND (by lia),NC (by lia),show l+(l+n)-1-(l+n-1)=l by lia];exact C.tr _ (G a (l+n-1)) _ (C.asym _ _ hl) hc
 refine aZ c2 ?_;have:n=1:=by lia
 subst this;refine dl 2 a (Cg.refl _ _ _) (by lia) (by lia) (lK C (λi j hi hij hj=>?_) (ak _) (C.asym _ _ hl));have:i=j:=by lia
 subst this;exact C.refl _
end
section
variable {M:Model}{κ:SortKind}{N:Keyed->Prop}{lt:Keyed->Keyed->Bool}
theorem sh{p:Array Keyed}{k z:Nat}(a:k<p.size)(b:z<=k)(i:Nat):G (bubble p k (k-z)) i=if i=z then G p k else if z<i/\i<=k then G p (i-1) else G p i:=by
 have h:=getElem?_bubble (xs:=p) (src:=k) a (k-z) (by lia) i;have e:k-(k-z)=z:=by lia
 rw[e] at h
 repeat' split at h
 .rename_i c;rw[ND c];exact jh h
 .rename_i c c2;rw[NC c,ND c2];exact jh h
 rename_i c c2;rw[NC c,NC c2];exact jh h
theorem F5(C:Cmp M A E s κ N lt){st:SortSt}{a:Array Keyed}{l n o:Nat}{Q:Bool->SortSt->Prop}(L:kindOf st=κ)(O:Nm N a)(h1:1<=o)(h2:o<=n)(U:l+n<=a.size)(sg:Seg lt a l (l+o))
  (q:∀b,Cg l (l+n) a b->Seg lt b l (l+n)->Q true (sa st b)):wpS M A E s (binarySort' l n o) Q (sa st a):=by
 rw[binarySort'_eq];dsimp only;refine av (eG (d_ (I:=λk x c=>x.1=none/\1<=k/\k<=n/\∃b,c=sa st b/\Cg l (l+n) a b/\Seg lt b l (l+k)) (Q:=λx c=>x.1=none/\∃b,c=sa st b/\Cg l (l+n) a b/\Seg lt b l (l+n)) ?step ?fin ⟨rfl,by lia,by lia,a,rfl,Cg.refl _ _ _,by rw[show max o 1=o by lia];exact sg⟩) ?post)
 case fin=>
  rintro⟨r,u⟩ c ⟨e,P,R,b,rfl,p,f⟩;rw[show max (max o 1) n=n by lia] at f;exact⟨e,b,rfl,p,f⟩
 case post=>
  rintro⟨r,u⟩ c ⟨e,b,rfl,p,f⟩;cases e;exact aA (q b p f)
 case step=>
  rintro k ⟨r,u⟩ c _ X ⟨e,P,R,b,rfl,p,f⟩;have Y:=p.size;refine av (eG (d_ (β:=Option Bool×Nat×Nat) (I:=λt x c=>c=sa st b/\x.1=none/\x.2.1<=x.2.2/\x.2.2<=k/\x.2.2-x.2.1<=k-t/\(∀i,i<x.2.1->lt (G b (l+k)) (G b (l+i))=false)/\(∀i,x.2.2<=i->i<k->lt (G b (l+i)) (G b (l+k))=false))
   (Q:=λx c=>c=sa st b/\x.1=none/\x.2.1<=k/\(∀i,i<x.2.1->lt (G b (l+k)) (G b (l+i))=false)/\(∀i,x.2.1<=i->i<k->lt (G b (l+i)) (G b (l+k))=false)) ?s8 ?f8 ⟨rfl,rfl,aJ _,ak _,ak _,λi hi=>absurd hi (KQ _),λi hi H=>absurd hi (Nat.not_le_of_lt H)⟩) ?p8)
  case f8=>
   rintro⟨r,u,w⟩ c ⟨rfl,e,B,d,v,g,h⟩;have B:u<=w:=B;have v:w-u<=k-max 0 k:=v;have:u=w:=by lia
   subst this;exact⟨rfl,e,d,g,h⟩
  case s8=>
   rintro t ⟨r,u,w⟩ c _ Z ⟨rfl,e,B,d,v,g,h⟩;have B:u<=w:=B;have d:w<=k:=d;have v:w-u<=k-t:=v;dsimp only at g h |-;by_cases c1:u ≥ w
   .refine a9 c1 ?_;have:u=w:=by lia
    subst this;exact aA ⟨rfl,rfl,d,g,h⟩
   refine aZ c1 ?_;obtain⟨D,y⟩:=half c1;generalize (u+w)/2=m at D y |-;refine av (lq C L (O.perm p.pm) (by lia) (by lia) ?_);dsimp only;cases K:lt (G b (l+k)) (G b (l+m)) with
   |true=>
    refine a9 rfl ?_;refine aA ⟨rfl,rfl,D,km (bP y d),fewer v y D,g,λi hi S=>?_⟩;exact C.asym _ _ (C.ltle K (f _ _ (tU _ _) (zP hi l) (KJ S l)))
   |false=>
    refine aZ (by decide) ?_;refine aA ⟨rfl,rfl,y,d,fewer' v y D,λi hi=>?_,h⟩;exact C.tr _ _ _ (f _ _ (tU _ _) (zP (KM hi) l) (KJ (bP y d) l)) K
  case p8=>
   rintro⟨r,u,w⟩ c ⟨rfl,e,d,g,h⟩;cases e;have d:u<=k:=d;dsimp only at g h |-;rw[moveDown'_eq];refine av (iM (aA ⟨rfl,by lia,by lia,bubble b (l+k) (l+k-(l+u)),rfl,p.trans ⟨bubble_perm _ _ _,λi hi=>?_⟩,λi j hi ab H=>?_⟩))
   .rw[sh (by lia) (by lia),NC (by lia),NC (by lia)]
   rw[sh (by lia) (by lia),sh (by lia) (by lia)]
   repeat' split
   .exact C.refl _
   all_goals first
    |lia
    |exact f _ _ (by lia) (by lia) (by lia)
    |(have z:=h (j-1-l) (by lia) (by lia);rw[show l+(j-1-l)=j-1 by lia] at z;exact (by
      rename_i h1 h2 h3;cases T:lt (G b (j-1)) (G b (l+k)) with
      |false=>rfl
      |true=>rw[T] at z;cases z))
    |(have z:=g (i-l) (by lia);rw[show l+(i-l)=i by lia] at z;exact z)
end
theorem yU(p:Nat):∀(l:List Keyed)(n:Nat)(a:Array Keyed),p+n+l.length<=a.size->
  ((l.zipIdx n).foldl (λa (z:Keyed×Nat)=>a.setIfInBounds (p+z.2) z.1) a).size=a.size/\∀m:Nat,((l.zipIdx n).foldl (λa (z:Keyed×Nat)=>a.setIfInBounds (p+z.2) z.1) a)[m]?=if p+n<=m/\m<p+n+l.length then l[m-(p+n)]? else a[m]?
 | [],n,a,h=>⟨rfl,λm=>by rw[NC (by simp only[gI];lia)];rfl⟩
 |x::l,n,a,h=>by
  rw[bz] at h;obtain⟨h1,h2⟩:=yU p l (n+1) (a.setIfInBounds (p+n) x) (by rw[J7];lia);rw[List.zipIdx_cons,jn];refine⟨h1.trans J7,λm=>?_⟩;rw[h2 m,bz,Array.getElem?_setIfInBounds];by_cases c:m=p+n
  .subst c;rw[NC (by lia),ND rfl,ND (by lia),ND (by lia),zW];rfl
  by_cases c2:p+(n+1)<=m/\m<p+(n+1)+l.length
  .rw[ND c2,ND (by lia),show m-(p+n)=m-(p+(n+1))+1 by lia];rfl
  rw[NC c2,NC (λz=>c z.symm),NC (by lia)]
theorem pR{a:Array Keyed}{k:Nat}{x:Keyed}(h:a[k]?=some x):G a k=x:=by
 have e:G a k=(a[k]?).getD (Value.none,Value.none):=by simp[G]
 rw[e,h];rfl
theorem px{a:Array Keyed}{p q k:Nat}(h:p+k<q)(b:q<=a.size):G (a.extract p q) k=G a (p+k):=by apply jh;rw[Array.getElem?_extract,ND (by lia)]
theorem D0{a:Array Keyed}{p q r:Nat}(h1:p<=q)(h2:q<=r)(d:r<=a.size):a.toList=a.toList.take p++((a.extract p q).toList++(a.extract q r).toList)++a.toList.drop r:=by
 rw[sV,sV,tH,tH];have b:(a.toList.drop p).take (q-p)++(a.toList.drop q).take (r-q)=(a.toList.drop p).take (r-p):=by rw[show r-p=(q-p)+(r-q) by lia,List.take_add,zD,show p+(q-p)=q by lia]
 rw[b,dX];have c:(a.toList.drop p).take (r-p)++a.toList.drop r=a.toList.drop p:=by
  conv=>rhs;rw[<-f_ (r-p) (a.toList.drop p)]
  rw[zD,show p+(r-p)=r by lia]
 rw[c,f_]
section
variable {M:Model}{κ:SortKind}{N:Keyed->Prop}{lt:Keyed->Keyed->Bool}
theorem va{α:Type}(u v w:α)(b:List α):∀a:List α,((a++u::w::b).set a.length v).eraseIdx (a.length+1)=a++v::b
 | []=>rfl
 |x::a=>by
  show x::((a++u::w::b).set a.length v).eraseIdx (a.length+1)=_;rw[va u v w b a];rfl
theorem jJ{a:Array Keyed}{i j:Nat}(h:j<=a.size):(a.extract i j).size=j-i:=by rw[Array.size_extract,p7 h]
theorem zh{a:Array Keyed}{x:Keyed}(h:x∈a.toList):∃k,k<a.size/\G a k=x:=by obtain⟨k,b⟩:=tP.mp h;rw[iD] at b;exact⟨k,(fG.mp b).1,pR b⟩
theorem Dv(C:Cmp M A E s κ N lt){a r:Array Keyed}{p b q d z:Nat}(h1:p<=b)(h2:b<=q)(O:q+d<=z)(P:z<=a.size)(g:Good lt (a.extract b q) (a.extract q (q+d)) r)
  (s1:Seg lt a p q) (s2:Seg lt a q z) (lo:∀k,p<=k->k<b->∀j,q<=j->j<z->lt (G a j) (G a k)=false) (hi:∀j,q+d<=j->j<z->∀k,p<=k->k<q->lt (G a j) (G a k)=false) :
  Cg p z a (r.toList.zipIdx.foldl (λa (z:Keyed×Nat)=>a.setIfInBounds (b+z.2) z.1) a)/\Seg lt (r.toList.zipIdx.foldl (λa (z:Keyed×Nat)=>a.setIfInBounds (b+z.2) z.1) a) p z:=by
 have v:q+d<=a.size:=br O P;have w:q<=a.size:=br (tU q d) v;have l:(a.toList.take b).length=b:=by rw[bf,fY,p7 (br h2 w)]
 have len:r.toList.length=q-b+d:=by rw[g.1.length_eq,aL,fY,fY,jJ w,jJ v,zQ]
 obtain⟨Q,f⟩:=yU b r.toList 0 a (by lia);generalize (r.toList.zipIdx.foldl (λa (z:Keyed×Nat)=>a.setIfInBounds (b+z.2) z.1) a)=n at Q f |-;rw[len] at f;simp only[KL] at f;have out:∀k,k<b\/q+d<=k->G n k=G a k:=λk R=>jh (by rw[f k,NC (by lia)]);have I:∀k,b<=k->k<q+d->∃c,b<=c/\c<q+d/\G n k=G a c:=λk Y Z=>by
  have e:=f k;rw[ND (by lia)] at e;have S:k-b<r.toList.length:=by lia
  rw[bX S] at e;have e:=pR e;have mem:r.toList[k-b]∈r.toList:=p0 _;rcases aW.mp (g.1.mem_iff.mp mem) with h|h
  .obtain⟨c,c1,c2⟩:=zh h;rw[jJ w] at c1;exact⟨b+c,by lia,by lia,by rw[e,<-c2,px (by lia) (by lia)]⟩
  obtain⟨c,c1,c2⟩:=zh h;rw[jJ v,zQ] at c1;exact⟨q+c,by lia,by lia,by rw[e,<-c2,px (by lia) (by lia)]⟩
 have T:∀i j,b<=i->i<=j->j<q+d->lt (G n j) (G n i)=false:=λi j i1 ij j1=>by
  have x:=f i;have y:=f j;rw[ND (by lia)] at x y;have li:i-b<r.toList.length:=by lia
  have K:j-b<r.toList.length:=by lia
  rw[bX li] at x;rw[bX K] at y;rw[pR x,pR y];by_cases e:i=j
  .subst e;exact C.refl _
  exact tR.mp g.2 (i-b) (j-b) li K (by lia)
 refine⟨⟨?_,λk R=>out k (by lia)⟩,λi j u L B=>?_⟩
 .rw[J6];have e:n.toList=a.toList.take b++r.toList++a.toList.drop (q+d):=by
   apply tG;intro m;rw[iD,f m];by_cases c1:m<b
   .rw[NC (by lia),dX,gH (by rw[l];exact c1),zF c1,iD]
   by_cases c2:m<q+d
   .rw[ND (by lia),dX,kj (by rw[l];lia),gH (by rw[l];lia),l]
   rw[NC (by lia),kj (by rw[aL,l];lia),Kz,iD,aL,l]
   congr 1
   lia
  rw[e];exact ((g.1.append_left _).append_right _).trans (tj (D0 (a:=a) h2 (tU q d) (by lia)).symm)
 by_cases ci:i<b
 .rw[out i (.inl ci)];by_cases D:j<b
  .rw[out j (.inl D)];exact s1 i j u L (by lia)
  have o:∀c,b<=c->c<z->lt (G a c) (G a i)=false:=λc c1 c2=>by
   by_cases H:c<q
   .exact s1 i c u (by lia) H
   exact lo i u ci c (by lia) c2
  by_cases U:j<q+d
  .obtain⟨c,c1,c2,e⟩:=I j (by lia) U;rw[e];exact o c c1 (by lia)
  rw[out j (.inr (by lia))];exact o j (by lia) B
 by_cases D:j<q+d
 .exact T i j (by lia) L D
 rw[out j (.inr (by lia))];have o:∀c,p<=c->c<j->lt (G a j) (G a c)=false:=λc c1 c2=>by
  by_cases H:c<q
  .exact hi j (by lia) B c c1 H
  exact s2 c j (by lia) (by lia) B
 by_cases X:i<q+d
 .obtain⟨c,c1,c2,e⟩:=I i (by lia) X;rw[e];exact o c (by lia) (by lia)
 rw[out i (.inr (by lia))];by_cases e:i=j
 .subst e;exact C.refl _
 exact o i u (by lia)
theorem FZ{st a:SortSt}{Q:PUnit->SortSt->Prop}(h:Q ⟨⟩ a):wpS M A E s (set a:SM PUnit) Q st:=by unfold wpS;rw[StateT.run_set];exact ag ⟨rfl,h⟩
theorem F4(C:Cmp M A E s κ N lt){st:SortSt}{a:Array Keyed}{i p m e q n e':Nat}{l1 l2:List (Nat×Nat×Nat)}{Q:Bool->SortSt->Prop}(hk:kindOf st=κ)(hf:failedOf st=none)(hN:Nm N a)(hp:(pendingOf st).toList=l1++(p,m,e)::(q,n,e')::l2)(hi:l1.length=i)
  (hq:q=p+m) (hm:1<=m) (hn:1<=n) (hs:q+n<=a.size) (s1:Seg lt a p q) (s2:Seg lt a q (q+n))
  (h:∀(a':Array Keyed)(st':SortSt),PyProof.Rows.kindOf st'=κ->failedOf st'=none->arrOf st'=a'->(pendingOf st').toList=l1++(p,m+n,e)::l2->Cg p (q+n) a a'->Seg lt a' p (q+n)->Q true st'):wpS M A E s (mergeAt' i) Q (sa st a):=by
 have e1:(pendingOf st)[i]?=some (p,m,e):=by rw[<-iD,hp,<-hi];simp
 have e2:(pendingOf st)[i+1]?=some (q,n,e'):=by rw[<-iD,hp,<-hi];simp
 have e3:(((pendingOf st).setIfInBounds i (p,m+n,e)).eraseIdxIfInBounds (i+1)).toList=l1++(p,m+n,e)::l2:=by rw[Array.toList_eraseIdxIfInBounds,Array.toList_setIfInBounds,hp,<-hi];exact va _ _ _ _ _
 have eqt:∀{a b:Nat},(a==b)=true->a=b:=λh=>by simpa using h
 have eqf:∀{a b:Nat},¬(a==b)=true->a≠b:=λh=>by simpa using h
 rw[HJ];refine av (gZ ?_);show wpS _ _ _ _ (match ((pendingOf st)[i]?,(pendingOf st)[i+1]?) with|(some (p,m,e),some (q,n,_))=>_|_=>_) _ _;rw[e1,e2];dsimp only;refine av (FZ ?_);have tl:∀{o:Nat},bv lt false (G a q) a p o=true->lt (G a q) (G a (p+o))=false:=λh=>by simpa [bv] using h
 have fl:∀{o:Nat},bv lt false (G a q) a p o=false->lt (G a q) (G a (p+o))=true:=λh=>by simpa [bv] using h
 refine av (cE (show q<a.size by lia) (av (jS (bv lt false (G a q) a p) (λo ho Q' q'=>jT C (λ_ z=>hN.at z) (hN.at (by lia)) (show p+o<a.size by lia) hk q') (λo o' ho hp' hb'=>?_) (by lia) λk hk1 hk2 hk3=>?_)))
 .cases hc:lt (G a q) (G a (p+o)) with
  |false=>show (!lt _ _)=true;rw[hc];rfl
  |true=>have:=C.ltle hc (s1 (p+o) (p+o') (by lia) (by lia) (by lia));rw[tl hb'] at this;cases this
 dsimp only;have seg:(∀i,p<=i->i<q->∀j,q<=j->j<q+n->lt (G a j) (G a i)=false)->Seg lt a p (q+n):=λhh i j h1 h2 h3=>by
  by_cases c:j<q
  .exact s1 i j h1 h2 c
  by_cases c2:i<q
  .exact hh i h1 c2 j (by lia) h3
  exact s2 i j (by lia) h2 h3
 have low:∀i,p<=i->i<p+k->∀j,q<=j->j<q+n->lt (G a j) (G a i)=false:=λi h1 h2 j h3 h4=>by
  have z:=tl (hk2 (i-p) (by lia));rw[show p+(i-p)=i by lia] at z;exact C.tr _ _ _ z (s2 q j (ak _) h3 h4)
 by_cases c1:(m-k==0)=true
 .refine a9 c1 ?_;have c1:=eqt c1;exact aA (h a _ hk hf rfl e3 (Cg.refl _ _ _) (seg λi h1 h2=>low i h1 (by lia)))
 refine aZ c1 ?_;have c1:=eqf c1;rw[show p+k+(m-k)-1=q-1 by lia];refine av (cE (show q-1<a.size by lia) (av (jS (bv lt true (G a (q-1)) a q) (λo ho Q' q'=>jT C (λ_ z=>hN.at z) (hN.at (by lia)) (show q+o<a.size by lia) hk q') (λo o' ho hp' hb'=>C.lelt (s2 _ _ (by lia) (by lia) (by lia)) hb') (by lia) λn1 hn1 hn2 hn3=>?_)));dsimp only;have hig:∀j,q+n1<=j->j<q+n->∀i,p<=i->i<q->lt (G a j) (G a i)=false:=λj h1 h2 i h3 h4=>by
  have z:=hn3 (j-q) (by lia) (by lia);have z:lt (G a (q+(j-q))) (G a (q-1))=false:=z;rw[show q+(j-q)=j by lia] at z;exact C.tr _ _ _ (s1 i (q-1) h3 (by lia) (by lia)) z
 by_cases c2:(n1==0)=true
 .refine a9 c2 ?_;have c2:=eqt c2;exact aA (h a _ hk hf rfl e3 (Cg.refl _ _ _) (seg λi h1 h2 j h3 h4=>hig j (by lia) h4 i h1 h2))
 refine aZ c2 ?_;have c2:=eqf c2;have zx:(a.extract (p+k) q).size=q-(p+k):=jJ (by lia);have zy:(a.extract q (q+n1)).size=n1:=by rw[jJ (by lia),zQ]
 have gx:∀i,i<(a.extract (p+k) q).size->G (a.extract (p+k) q) i=G a (p+k+i):=λi hi=>px (by lia) (by lia);have gy:∀i,i<(a.extract q (q+n1)).size->G (a.extract q (q+n1)) i=G a (q+i):=λi hi=>px (by lia) (by lia);have hx:Asc lt (a.extract (p+k) q):=λi j hij hj=>by rw[gx i (by lia),gx j hj];exact s1 _ _ (by lia) (by lia) (by lia)
 have hy:Asc lt (a.extract q (q+n1)):=λi j hij hj=>by rw[gy i (by lia),gy j hj];exact s2 _ _ (by lia) (by lia) (by lia)
 have Nx:∀i,i<(a.extract (p+k) q).size->N (G (a.extract (p+k) q) i):=λi hi=>by rw[gx i hi];exact hN.at (by lia)
 have Ny:∀i,i<(a.extract q (q+n1)).size->N (G (a.extract q (q+n1)) i):=λi hi=>by rw[gy i hi];exact hN.at (by lia)
 have hb:lt (G (a.extract q (q+n1)) 0) (G (a.extract (p+k) q) 0)=true:=by rw[gx 0 (by lia),gy 0 (by lia)];exact fl (hk3 k (ak _) (by lia))
 have hl:∀j,j<(a.extract q (q+n1)).size->lt (G (a.extract q (q+n1)) j) (G (a.extract (p+k) q) ((a.extract (p+k) q).size-1))=true:=λj hj=>by
  rw[gx _ (by lia),gy j hj,zx,show p+k+(q-(p+k)-1)=q-1 by lia];exact hn2 j (by lia)
 have fin:∀(r:Array Keyed)(st2:SortSt),Fr (SortSt.mk' (kindOf st) a (((pendingOf st).setIfInBounds i (p,m+n,e)).eraseIdxIfInBounds (i+1)) (gallopOf st) (failedOf st)) st2->Good lt (a.extract (p+k) q) (a.extract q (q+n1)) r->
   wpS M A E s (do
    modify λs=>setArr s (r.toList.zipIdx.foldl (λa (z,j)=>a.setIfInBounds (p+k+j) z) (arrOf s))
    return (failedOf (<-get)).isNone) Q st2:=λr st2 f g=>by
  obtain⟨f1,f2,f3,f4⟩:=f;have f2:arrOf st2=a:=f2;refine av (iM (av (gZ ?_)));obtain⟨b1,b2⟩:=Dv C (p:=p) (z:=q+n) (by lia) (by lia) (by lia) hs g s1 s2 low hig;have fn:failedOf st2=none:=f4.trans hf;have e9:(failedOf (setArr st2 (r.toList.zipIdx.foldl (λa (z:Keyed×Nat)=>a.setIfInBounds (p+k+z.2) z.1) (arrOf st2)))).isNone=true:=by show (failedOf st2).isNone=true;rw[fn];rfl
  show wpS _ _ _ _ (pure (failedOf (setArr st2 (r.toList.zipIdx.foldl (λa (z:Keyed×Nat)=>a.setIfInBounds (p+k+z.2) z.1) (arrOf st2)))).isNone) _ (setArr st2 (r.toList.zipIdx.foldl (λa (z:Keyed×Nat)=>a.setIfInBounds (p+k+z.2) z.1) (arrOf st2)));rw[e9];refine aA (h _ _ (f1.trans hk) fn rfl ?_ ?_ ?_)
  .exact (congrArg Array.toList f3).trans e3
  .rw[f2];exact b1
  rw[f2];exact b2
 by_cases c3:m-k<=n1
 .refine a9 c3 ?_;exact av (F2 C hk Nx Ny hx hy (show 0<(a.extract (p+k) q).size by lia) (show 0<(a.extract q (q+n1)).size by lia) hb hl λr st2 f g=>fin r st2 f g)
 refine aZ c3 ?_;exact av (F3 C hk Nx Ny hx hy (show 0<(a.extract (p+k) q).size by lia) (show 0<(a.extract q (q+n1)).size by lia) hb hl λr st2 f g=>fin r st2 f g)
end
def Runs(lt:Keyed->Keyed->Bool)(a:Array Keyed):List (Nat×Nat×Nat)->Nat->Nat->Prop
 | [],b,e=>b=e
 |x::l,b,e=>x.1=b/\1<=x.2.1/\Seg lt a b (b+x.2.1)/\Runs lt a l (b+x.2.1) e
section
variable {M:Model}{κ:SortKind}{N:Keyed->Prop}{lt:Keyed->Keyed->Bool}
theorem Runs.len{a:Array Keyed}:∀{l:List (Nat×Nat×Nat)}{b e:Nat},Runs lt a l b e->b+l.length<=e
 | [],_,_,h=>tV h
 |x::l,b,e,h=>by
  have:=Runs.len h.2.2.2;have:=h.2.1;rw[bz];lia
theorem Seg.congr{a c:Array Keyed}{b e:Nat}(h:∀k,b<=k->k<e->G c k=G a k)(r:Seg lt a b e):Seg lt c b e:=λi j h1 h2 d=>by
 rw[h i h1 (by lia),h j (by lia) d];exact r i j h1 h2 d
theorem Runs.congr{a c:Array Keyed}:∀{l:List (Nat×Nat×Nat)}{b e:Nat},(∀k,b<=k->k<e->G c k=G a k)->Runs lt a l b e->Runs lt c l b e
 | [],_,_,_,r=>r
 |x::l,b,e,h,r=>by
  have:=Runs.len r.2.2.2;exact⟨r.1,r.2.1,r.2.2.1.congr λk h1 h2=>h k h1 (by lia),Runs.congr (λk h1 h2=>h k (by lia) h2) r.2.2.2⟩
theorem Runs.app{a:Array Keyed}{i:List (Nat×Nat×Nat)}:∀{c:List (Nat×Nat×Nat)}{b e:Nat},Runs lt a (c++i) b e↔∃m,Runs lt a c b m/\Runs lt a i m e
 | [],b,e=>⟨λh=>⟨b,rfl,h⟩,λ⟨m,h1,h2⟩=>by cases h1;exact h2⟩
 |x::c,b,e=>by
  constructor
  .rintro⟨h1,h2,d,f⟩;obtain⟨m,g,j⟩:=Runs.app.mp f;exact⟨m,⟨h1,h2,d,g⟩,j⟩
  rintro⟨m,⟨h1,h2,d,f⟩,g⟩;exact⟨h1,h2,d,Runs.app.mpr ⟨m,f,g⟩⟩
structure RS(κ:SortKind)(N:Keyed->Prop)(lt:Keyed->Keyed->Bool)(a0:Array Keyed)(lo:Nat)(st:SortSt):Prop where
 k:PyProof.Rows.kindOf st=κ
 f:failedOf st=none
 pm:(arrOf st).Perm a0
 r:Runs lt (arrOf st) (pendingOf st).toList 0 lo
theorem xN(C:Cmp M A E s κ N lt){d:Array Keyed}{lo i:Nat}{st:SortSt}{Q:Bool->SortSt->Prop}(I:Nm N d)(R:RS κ N lt d lo st)(T:lo<=d.size)(hi:i+1<(pendingOf st).size)
  (q:∀a,RS κ N lt d lo a->(pendingOf a).size+1=(pendingOf st).size->(∀k,lo<=k->G (arrOf a) k=G (arrOf st) k)->Q true a):wpS M A E s (mergeAt' i) Q st:=by
 have U:=R.pm.size_eq;have K:Nm N (arrOf st):=I.perm R.pm;obtain⟨g,x,y,h,e,L⟩:∃g x y h,(pendingOf st).toList=g++x::y::h/\g.length=i:=by
  have h1:i<(pendingOf st).toList.length:=by rw[fY];lia
  have h2:i+1<(pendingOf st).toList.length:=by rw[fY];lia
  refine⟨(pendingOf st).toList.take i,(pendingOf st).toList[i],(pendingOf st).toList[i+1],(pendingOf st).toList.drop (i+1+1),?_,by rw[bf];lia⟩;rw[<-nj h2,<-nj h1,f_]
 obtain⟨p,m,w⟩:=x;obtain⟨O,n,X⟩:=y;have r:=R.r;rw[e] at r;obtain⟨b,l,h1,h2,o,c,u,v,j⟩:=Runs.app.mp r;have h1:p=b:=h1;subst h1;have c:O=p+m:=c;dsimp only at h2 o u v j;have le:=j.len;show wpS M A E s (mergeAt' i) Q (sa st (arrOf st));refine F4 C R.k R.f K e L c h2 u (by lia) (by rw[c];exact o) (by rw[c];exact v) λz a k1 k2 k3 B k5 D=>q a ⟨k1,k2,by rw[k3];exact k5.pm.trans R.pm,?_⟩ ?_ λk H=>by rw[k3];exact k5.at_ k (by lia)
 .rw[k3,B];have Y:=l.len;refine Runs.app.mpr ⟨p,l.congr λk _ H=>k5.at_ k (by lia),rfl,by show 1<=m+n;lia,?_,?_⟩
  .show Seg lt z p (p+(m+n));rw[c,KI] at D;exact D
  show Runs lt z h (p+(m+n)) lo;rw[<-KI];exact j.congr λk H _=>k5.at_ k (by lia)
 have P:=congrArg List.length e;have S:=congrArg List.length B;simp only[fY,aL,bz] at P S;lia
theorem wb{a:Array Keyed}{w:Nat}:∀{l:List (Nat×Nat×Nat)}{i b e:Nat},Runs lt a l b e->Runs lt a (l.modify i λx=>(x.1,x.2.1,w)) b e
 | [],i,_,_,h=>by
  simpa using h
 |x::l,0,_,_,h=>h
 |x::l,i+1,_,_,h=>⟨h.1,h.2.1,h.2.2.1,wb h.2.2.2⟩
theorem wp_runs(C:Cmp M A E s κ N lt){a0:Array Keyed}{st:SortSt}{Q:Unit->SortSt->Prop}(hN:Nm N a0)(hk:PyProof.Rows.kindOf st=κ)(hf:failedOf st=none)(ha:arrOf st=a0)(hp:pendingOf st=#[])(h2:2<=a0.size)
  (q:∀st',failedOf st'=none->(arrOf st').Perm a0->Seg lt (arrOf st') 0 a0.size->Q () st'):wpS M A E s sortRuns' Q st:=by
 rw[sortRuns'_eq];refine av (gZ ?_);dsimp only;rw[ha];generalize minRun' a0.size a0.size 0=mr;have R0:RS κ N lt a0 0 st:=⟨hk,hf,ha ▸ J3 _,by rw[hp];exact rfl⟩;refine av (eG (d_ (I:=λt x st'=>x.1=none/\t<=x.2/\x.2<=a0.size/\RS κ N lt a0 x.2 st') (Q:=λx st'=>x.1=none/\x.2=a0.size/\RS κ N lt a0 x.2 st') ?step ?fin ⟨rfl,ak _,aJ _,R0⟩) ?post)
 case fin=>
  rintro⟨r,lo⟩ st' ⟨e1,e2,e3,e4⟩;have e2:max 0 a0.size<=lo:=e2;have e3:lo<=a0.size:=e3;exact⟨e1,by show lo=_;lia,e4⟩
 case post=>
  rintro⟨r,lo⟩ st' ⟨e1,e2,R⟩;cases e1;have e2:lo=a0.size:=e2;subst e2;dsimp only at R |-;have l0:=R.r.len;rw[fY] at l0;refine av (eG (d_ (I:=λt x st'=>x.1=none/\RS κ N lt a0 a0.size st'/\((pendingOf st').size+t<=a0.size\/(pendingOf st').size<=1)) (Q:=λx st'=>x.1=none/\RS κ N lt a0 a0.size st'/\(pendingOf st').size<=1) ?s2 ?f2 ⟨rfl,R,.inl (by lia)⟩) ?p2)
  case f2=>
   rintro⟨r,u⟩ st' ⟨e1,R,e2⟩;exact⟨e1,R,by lia⟩
  case p2=>
   rintro⟨r,u⟩ st' ⟨e1,R,e2⟩;cases e1;refine aA (q st' R.f R.pm ?_);have r:=R.r;have z:(pendingOf st').toList.length<=1:=by rw[fY];exact e2
   match hh:(pendingOf st').toList,r,z with
   | [],r,_=>have:0=a0.size:=r;lia
   | [x],r,_=>
    have r3:=r.2.2.1;have e:0+x.2.1=a0.size:=r.2.2.2;rw[e] at r3;exact r3
   |x::y::l,r,z=>simp only[bz] at z;lia
  case s2=>
   rintro t ⟨r,u⟩ st' _ ht ⟨e1,R,e2⟩;refine av (gZ ?_);by_cases c:(pendingOf st').size<=1
   .exact a9 c (aA ⟨rfl,R,c⟩)
   refine aZ c ?_;refine av (xN C hN R (ak _) ?_ λst'' R' hz _=>aA ⟨rfl,R',by lia⟩)
   repeat' split
   all_goals lia
 case step=>
  rintro t ⟨r,lo⟩ st' _ ht ⟨e1,e2,e3,R⟩;cases e1;dsimp only at e2 e3 R |-;by_cases c:lo ≥ a0.size
  .exact a9 c (aA ⟨rfl,by show lo=_;lia,R⟩)
  refine aZ c ?_;have hz:=R.pm.size_eq;show wpS M A E s _ _ (sa st' (arrOf st'));refine av (CQ C R.k (hN.perm R.pm) (by lia) (by lia) λn a1 cg n1 n2 sg=>?_);dsimp only;have R1:RS κ N lt a0 lo (sa st' a1):=⟨R.k,R.f,cg.pm.trans R.pm,R.r.congr λk _ hk'=>cg.at_ k (.inl hk')⟩;have z1:=cg.size;by_cases c2:n<mr;refine a9 c2 ?_;refine av (jK (av (F5 C R.k (hN.perm R1.pm) (o:=n) n1 (by lia) (by lia) sg λa2 cg2 sg2=>?_)));refine aZ (by decide) ?_;have R2:RS κ N lt a0 lo (sa st' a2):=⟨R.k,R.f,cg2.pm.trans R1.pm,R1.r.congr λk _ hk'=>cg2.at_ k (.inl hk')⟩;have n3:1<=min (a0.size-lo) mr:=by lia
  have n4:lo+min (a0.size-lo) mr<=a0.size:=by lia
  generalize min (a0.size-lo) mr=nn at sg2 n3 n4 |-
  rotate_left
  refine aZ c2 ?_;have sg2:=sg;have R2:=R1;have n3:=n1;have n4:lo+n<=a0.size:=by lia
  clear n1 n2 sg c2;generalize n=nn at sg2 n3 n4 |-;generalize a1=a2 at sg2 R2 |-
  all_goals
   refine av (gZ ?_);have last:∀st3,RS κ N lt a0 lo st3->Seg lt (arrOf st3) lo (lo+nn)->wpS M A E s (do
     modify λs=>setPending s ((pendingOf s).push (lo,nn,0))
     pure (ForInStep.yield ((none:Option Unit),lo+nn))) (λ(r:ForInStep (Option Unit×Nat)) st'=>match r with | .done x=>x.1=none/\x.2=a0.size/\RS κ N lt a0 x.2 st' | .yield x=>x.1=none/\t+1<=x.2/\x.2<=a0.size/\RS κ N lt a0 x.2 st') st3:=λst3 R3 sg3=>by
    refine av (iM (aA ⟨rfl,by show t+1<=lo+nn;lia,n4,R3.k,R3.f,R3.pm,?_⟩));show Runs lt (arrOf st3) ((pendingOf st3).push (lo,nn,0)).toList 0 (lo+nn);rw[gF];exact Runs.app.mpr ⟨lo,R3.r,rfl,n3,sg3,rfl⟩
   cases hb:(pendingOf (sa st' a2)).back? with
   |none=>exact last _ R2 sg2
   |some y=>
    obtain⟨s1,n5,w⟩:=y;dsimp only;generalize power' _ _ _ _=pw;refine av (eG (d_ (I:=λ_ x st3=>x.1=none/\RS κ N lt a0 lo st3/\Seg lt (arrOf st3) lo (lo+nn)) (Q:=λx st3=>x.1=none/\RS κ N lt a0 lo st3/\Seg lt (arrOf st3) lo (lo+nn)) ?_ (λ_ _ z=>z) ⟨rfl,R2,sg2⟩) ?_)
    .rintro t3 ⟨r,u⟩ st3 _ ht3 ⟨e1,R3,sg3⟩;refine av (gZ ?_);by_cases c3:(pendingOf st3).size>1
     .rw[ND c3,sT (show (pendingOf st3).size-2<(pendingOf st3).size by lia)];dsimp only
      split
      .exact aA ⟨rfl,R3,sg3⟩
      exact av (xN C hN R3 e3 (by lia) λst4 R4 _ k4=>aA ⟨rfl,R4,sg3.congr λk hk1 _=>k4 k hk1⟩)
     rw[NC c3];exact aA ⟨rfl,R3,sg3⟩
    rintro⟨r,u⟩ st3 ⟨e1,R3,sg3⟩;cases e1;refine av (iM (last _ ⟨R3.k,R3.f,R3.pm,?_⟩ sg3));show Runs lt (arrOf st3) ((pendingOf st3).modify _ _).toList 0 lo;rw[Array.toList_modify];exact wb R3.r
end
end TimS
end
section
namespace L2
open PySem PySem.Spec PyProof.Rows PySem.W
open HT (lexLt)
theorem wd:∀a b:List Int,lexLt a b=true->lexLt b a=false
 | [],[],h=>rfl
 | [],_::_,_=>rfl
 |_::_,[],h=>by cases h
 |x::xs,y::ys,h=>by
  rw[HT.lexLt_cons] at h |-;by_cases e:x=y
  .rw[ND e] at h;rw[ND e.symm];exact wd xs ys h
  rw[NC e] at h;rw[NC λz=>e z.symm];have:x<y:=NH h;exact NG (by lia)
theorem yv:∀a b c:List Int,lexLt b a=false->lexLt c b=false->lexLt c a=false
 | [],b,[],_,_=>rfl
 | [],[],_::_,_,h=>rfl
 | [],_::_,_::_,_,_=>rfl
 |_::_,[],_,h,_=>by cases h
 |_::_,_::_,[],_,h=>by cases h
 |x::xs,y::ys,z::zs,h1,h2=>by
  rw[HT.lexLt_cons] at h1 h2 |-;by_cases e:y=x
  .subst e;rw[ND rfl] at h1;by_cases d:z=y
   .rw[ND d] at h2 |-;exact yv xs ys zs h1 h2
   rw[NC d] at h2 |-;exact h2
  rw[NC e] at h1;have f:¬y<x:=of_decide_eq_false h1;by_cases d:z=y
  .subst d;rw[NC e];exact h1
  rw[NC d] at h2;have g:¬z<y:=of_decide_eq_false h2;rw[NC (by lia)];exact NG (by lia)
def Tups(K:Frag)(H:Hp)(ys:List V)(ks:List (List Int)):Prop:=Paired (λy k=>∃b,y=V.ref b/\SqT K H b (k.map V.int)/\k≠[]) ys ks
theorem HD{h h':Heap}{a:Addr}{m b:Str->Option Value}(h1:h.Ns a m)(h2:h.Ns a b):m=b:=by obtain⟨o,es,ep,e,f,_,g⟩:=h1;obtain⟨o',j,l,c,d,_,i⟩:=h2;rw[e] at c;cases c;rw[f] at d;cases d;funext x;rw[<-g,<-i]
section
theorem Inv.newsKept{h':Heap}{m:Str->Option Value}{t':Nat}{more:List (Addr×Obj)}(I:Inv X NI Z H s)(F:Fr X.base X.env.locals s.heap m)(a:Fr X.base X.env.locals h' m)(N:News X.base X.env.locals h' (more++oQ X.base s.heap X.env.locals)) :
  (∀b o,b≠X.env.locals->s.heap.get? b=some o->h'.get? b=some o)/\(∀m,s.heap.Ns X.env.locals m->h'.Ns X.env.locals m):=by
 refine⟨λb o d e=>?_,λf hm=>by rw[<-HD (h':=h') F.ns hm];exact a.ns⟩;cases q:X.base.get? b with
 |some u=>
  have c:=I.bk b u q;rw[e] at c;cases c;exact a.keep b _ q
 |none=>exact (N (b,o) (eO _ (qp d q e))).1
theorem aV.there{h:Heap}{a:Addr}{o:HO}(x:aV P w H h a o):∃b,h.get? a=some b:=by
 cases o with
 |lst xs=>obtain⟨_,_,_,_,e⟩:=x;exact⟨_,e⟩
 |tup xs=>obtain⟨_,_,_,b,e,_⟩:=x;exact⟨_,e⟩
 |dK kvs=>obtain⟨_,_,_,_,o,_,_,e,_⟩:=x;exact⟨_,e⟩
 |dT kvs=>obtain⟨_,_,_,_,o,_,_,e,_⟩:=x;exact⟨_,e⟩
 |set S n=>obtain⟨o,_,_,_,e,_⟩:=x;exact⟨_,e⟩
 |ins C dx fs=>obtain⟨_,_,_,e,_⟩:=x;exact⟨_,e⟩
 |own y=>exact x
 |xd fs=>obtain⟨_,⟨_,_,_,e,_⟩,_⟩:=x;exact⟨_,e⟩
 |rng lo hi=>obtain⟨_,_,_,e⟩:=x;exact⟨_,e⟩
 |frz b u=>obtain⟨e,_⟩:=x;exact⟨_,e⟩
 |tbl ps=>exact⟨_,(show h.get? a=some _ from x)⟩
 |met f y=>exact⟨_,(show h.get? a=some _ from x)⟩
 |ext φ=>obtain⟨_,e,_⟩:=x;exact e
theorem HOk.none_of{h:Heap}{a:Addr}(x:HOk P w H h)(e:h.get? a=none):H a=none:=by
 cases q:H a with
 |none=>rfl
 |some u=>
  obtain⟨o,z⟩:=(x a u q).there;rw[e] at z;cases z
theorem Inv.laidN{h':Heap}{t':Nat}{a:Addr}{o:HO}(I:Inv X NI Z H s)(k:∀b o,b≠X.env.locals->s.heap.get? b=some o->h'.get? b=some o)(g:∀m,s.heap.Ns X.env.locals m->h'.Ns X.env.locals m)
  (ha:s.heap.get? a=none) (new:∀H',aV X.prog X.w H' h' a o) (hx:∀y fs,o≠.ins y fs []):Inv X NI Z (upd H a o) {s with heap:=h',toks:=t'}:=by
 have f:H a=none:=I.hok.none_of ha;have h:∀b u,H b=some u->b≠X.env.locals:=λb u e z=>by rw[z,I.free] at e;cases e
 refine I.step (g':=s.gens) (d':=s.drawn) (ch:=[]) (λ_ z=>nomatch z) (λb o d _ _ e _=>k b o d e) (λb o d _ _ e _=>⟨o.slots,k b o d e⟩) (λb o _ e n=>?_) (λb o _ e=>?_) (λb xs e=>?_) (λb o u e=>?_) (λb ps e=>⟨#[],?_⟩) g (λb u e=>?_) I.bare
 .rw[ar (λz=>by rw[z,ha] at e;cases e)];exact n
 .by_cases d:b=X.env.locals
  .subst d;obtain⟨m,hm,_⟩:=I.loc;obtain⟨o',_,_,i,_⟩:=g m hm;exact⟨o',i⟩
  exact⟨o,k b o d e⟩
 .rw[ar (aq e f)];exact e
 .rw[ar (aq e f)];exact e
 .rw[ar (aq e f),e];simp
 by_cases d:b=a
 .subst d;rw[aP] at e;cases e;exact new _
 rw[ar d] at e;refine (I.hok b u e).stay (λc v j q=>k c v ?_ q) (λc q=>by rw[ar (aq q f)];exact q) λc xs q=>by rw[ar (aq q f)];exact q
 rcases j with z|z
 .rw[z];exact h b u e
 exact h c _ z
theorem Inv.keptN{h':Heap}{t':Nat}(I:Inv X NI Z H s)(k:∀b o,b≠X.env.locals->s.heap.get? b=some o->h'.get? b=some o)(d:∀m,s.heap.Ns X.env.locals m->h'.Ns X.env.locals m):Inv X NI Z H {s with heap:=h',toks:=t'}:=by
 have f:∀b u,H b=some u->b≠X.env.locals:=λb u e z=>by rw[z,I.free] at e;cases e
 refine I.step (g':=s.gens) (d':=s.drawn) (ch:=[]) (λ_ z=>nomatch z) (λb o a _ _ e _=>k b o a e) (λb o a _ _ e _=>⟨o.slots,k b o a e⟩) (λb o _ e n=>n) (λb o _ e=>?_) (λb xs e=>e) (λb o u e=>e) (λb ps e=>⟨#[],by rw[e];simp⟩) d (λb u e=>?_) I.bare
 .by_cases a:b=X.env.locals
  .subst a;obtain⟨m,hm,_⟩:=I.loc;obtain⟨o',_,_,g,_⟩:=d m hm;exact⟨o',g⟩
  exact⟨o,k b o a e⟩
 refine (I.hok b u e).stay (λc v h q=>k c v ?_ q) (λc q=>q) λc xs q=>q;rcases h with z|z
 .rw[z];exact f b u e
 exact f c _ z
end
def fh(h:Heap)(a:Addr)(vs:List Value):Heap:=((h.update a (Obj.mapSeq λ_=>#[])).push (seqObj "tuple" vs.toArray 0)).push (seqObj "list" #[] 0)
section
variable {prog:Program}{κ:SortKind}{rk:Value->List Int}
theorem vp{a:Addr}{vs:List Value}{n:Nat}{P:PySem.Fin->Shared->Prop}(ho:s.heap.get? a=some (seqObj "list" vs.toArray n))(hz:vs.length<=sizeLine)
  (hk:2<=vs.length->∀Q:SortKind->Shared->Prop,Q κ {s with heap:=fh s.heap a vs}->wpAny (model prog w) A (keyKind' vs.toArray) Q E {s with heap:=fh s.heap a vs})
  (hc:2<=vs.length->∀x∈vs,∀y∈vs,∀C:Bool->Shared->Prop,C (HT.lexLt (rk x) (rk y)) {s with heap:=fh s.heap a vs}->wpAny (model prog w) A (keyLt' κ x y) C (λ_ _=>False) {s with heap:=fh s.heap a vs})
  (h:∀out:List Value,out.Perm vs->out.Pairwise (λu v=>HT.lexLt (rk v) (rk u)=false)->P (.done (.ret .none)) {s with heap:=sortedHeap s.heap a vs out.toArray}):wpAny (model prog w) A (Builtin.«list.sort» ⟨[.ref a],[]⟩) P E s:=by
 have lt:a<s.heap.objs.size:=aE ho;obtain⟨e1,h1⟩:∃e1,(s.heap.update a (Obj.mapSeq λ_=>(#[]:Array Value))).get? a=some (seqObj "list" #[] e1):=⟨_,get?_update_seq ho λ_=>#[]⟩;have h3:(fh s.heap a vs).get? a=some (seqObj "list" #[] e1):=aI _ (aI _ h1);have zs:(vs.toArray.zip vs.toArray).map (·.2)=vs.toArray:=by apply m_.mp;simp only[sW,List.zip_toArray];exact List.map_snd_zip (ak _)
 rw[list_sort_plain];refine aa (listItems_at ho rfl (aa (listUpdate_at ho rfl (aa (seqEpoch_at h1 rfl (aa (Mf (aa (wpAny_newList (cH ?_) (aJ _))) hz)))) (by rw[a_];lia) (aJ _))));show wpAny _ _ _ _ _ {s with heap:=fh s.heap a vs};have fin:∀st:SortSt,failedOf st=none->((arrOf st).map (·.2)).toList.Perm vs->((arrOf st).map (·.2)).toList.Pairwise (λu v=>HT.lexLt (rk v) (rk u)=false)->∀s':Shared,s'={s with heap:=fh s.heap a vs}->wpAny (model prog w) A (do
   let touched:=(<-seqEpoch a) != e1
   Builtin.List.listUpdate (.ref a) λ_=>(arrOf st).map (·.2)
   if let some e:=failedOf st then rule "list.sort.comparison-raised";throw e
   if touched then rule "list.sort.modified";raiseError "ValueError" "list modified during sort"
   ret .none) P E s':=by
  rintro st hf hp hs _ rfl;refine aa (seqEpoch_at h3 rfl (aa (listUpdate_at h3 rfl ?_ (aJ _) (by have:=hp.length_eq;rw[fY] at this;lia))));rw[hf];simp only[bne_self_eq_false,jj,if_false];exact ag (by
   have z:=h _ hp hs
   rwa [Array.toArray_toList] at z)
 dsimp only;by_cases h2:vs.length<2
 .have hs2:vs.toArray.size<2:=by rw[a_];exact h2
  rw[ND hs2,ND hs2];refine aa (ag ?_);rw[StateT.run_pure];refine aa (ag ?_);refine fin (SortSt.mk' general' (vs.toArray.zip vs.toArray) #[] 7 none) rfl ?_ ?_ _ rfl
  .show (((vs.toArray.zip vs.toArray).map (·.2)).toList).Perm vs;rw[zs]
  show (((vs.toArray.zip vs.toArray).map (·.2)).toList).Pairwise _;rw[zs];cases vs with
  |nil=>exact .nil
  |cons x l=>rw[List.eq_nil_of_length_eq_zero (show l.length=0 by rw[bz] at h2;lia)];exact tS _ _
 have nt:¬vs.toArray.size<2:=by rw[a_];lia
 rw[NC nt,NC nt];refine aa (hk (by lia) _ ?_);have mem:∀x∈(vs.toArray.zip vs.toArray),x.1∈vs/\x.1=x.2:=λx hx=>by
  have hx:x∈vs.zip vs:=by simpa using hx
  obtain⟨i,hi⟩:=tP.mp hx;rw[List.getElem?_zip_eq_some] at hi;exact⟨a8 hi.1,cN (hi.1.symm.trans hi.2)⟩
 have C:TimS.Cmp (model prog w) A E {s with heap:=fh s.heap a vs} κ (λx=>x∈(vs.toArray.zip vs.toArray)) (λx y=>HT.lexLt (rk x.1) (rk y.1)):=by refine⟨λ_ _=>wd _ _,λ_ _ _=>yv _ _ _,λ{x y st Q} hx hy hk' q=>?_⟩;rw[lt'_eq];refine av (gZ ?_);rw[hk'];refine av (wpS_lift (jx (cC (hc (by lia) _ (mem x hx).1 _ (mem y hy).1 (λb s'=>b=HT.lexLt (rk x.1) (rk y.1)/\s'={s with heap:=fh s.heap a vs}) ⟨rfl,rfl⟩) (λb s' ⟨e,e'⟩=>?_) λ_ _ z=>z.elim)));subst e e';exact⟨rfl,aA q⟩
 have hzz:(vs.toArray.zip vs.toArray).size=vs.length:=by simp
 refine aa (cC (TimS.wp_runs C (st:=SortSt.mk' κ (vs.toArray.zip vs.toArray) #[] 7 none) (λx hx=>hx) rfl rfl rfl rfl (by rw[hzz];lia) (Q:=λ_ st=>failedOf st=none/\(arrOf st).Perm (vs.toArray.zip vs.toArray)/\TimS.Seg (λx y=>HT.lexLt (rk x.1) (rk y.1)) (arrOf st) 0 vs.length) λst' f p g=>⟨f,p,by rw[hzz] at g;exact g⟩) ?_ λ_ _ e=>e);rintro⟨⟨⟩,st'⟩ s' ⟨e,hf,hp,hg⟩;refine fin st' hf ?_ ?_ s' e
 .have:=(J6.mp hp).map (·.2);rw[<-sW,<-sW,zs] at this;exact this
 rw[sW,iJ];refine tR.mpr λi j hi hj hij=>?_;have hz2:(arrOf st').size=vs.length:=hp.size_eq.trans hzz;have hi':i<(arrOf st').size:=by simpa using hi
 have hj':j<(arrOf st').size:=by simpa using hj
 have g:=hg i j (aJ _) (by lia) (by lia);have e2:∀k (hk:k<(arrOf st').size),TimS.G (arrOf st') k=(arrOf st')[k]:=λk hk=>by simp[TimS.G,hk]
 have e3:∀k (hk:k<(arrOf st').size),((arrOf st')[k]).1=((arrOf st')[k]).2:=λk hk=>(mem _ (hp.mem_iff.mp (Array.getElem_mem hk))).2;have g:HT.lexLt (rk (TimS.G (arrOf st') j).1) (rk (TimS.G (arrOf st') i).1)=false:=g;rw[e2 i hi',e2 j hj',e3 i hi',e3 j hj'] at g;simpa using g
theorem Bo{l:Addr}{vs:List Value}{Q:Value->Shared->Prop}(e:s.heap.IsList l vs.toArray)(p:vs.length+1<=sizeLine)
  (f:∀h':Heap,(∀b o,s.heap.get? b=some o->h'.get? b=some o)->2<=vs.length->∀Q:SortKind->Shared->Prop,Q κ {s with heap:=h'}->wpAny (model prog w) A.in1.in1 (keyKind' vs.toArray) Q E {s with heap:=h'})
  (i:∀h':Heap,(∀b o,s.heap.get? b=some o->h'.get? b=some o)->2<=vs.length->∀x∈vs,∀y∈vs,∀C:Bool->Shared->Prop,C (HT.lexLt (rk x) (rk y)) {s with heap:=h'}->wpAny (model prog w) A.in1.in1 (keyLt' κ x y) C (λ_ _=>False) {s with heap:=h'})
  (h:∀out:List Value,out.Perm vs->out.Pairwise (λu v=>HT.lexLt (rk v) (rk u)=false)->Q (.ref (s.heap.objs.size+1)) {s with heap:=sortedAll s.heap vs out.toArray}):wpAny (model prog w) A (call (.builtin "sorted") [.ref l]) Q E s:=by
 refine Calls.call_function_entry kind_sorted plain_sorted entry_sorted (args_sorted1 _) ?_;unfold Builtin.«sorted»;refine aa (m:=checkCount "sorted" 1 1 _) (ag (aa (collect_list e (aa (wpAny_newList ?_ (by lia))) (by lia))));generalize a:(s.heap.push (seqObj "list" #[] 0)).update s.heap.objs.size (Obj.mapSeq (·++vs.toArray))=G;have c:G.objs.size=s.heap.objs.size+1:=by rw[<-a,Heap.size_update,size_push']
 have d:(G.push (seqObj "list" vs.toArray 0)).get? (s.heap.objs.size+1)=some (seqObj "list" vs.toArray 0):=by rw[<-c];exact bq _ rfl
 have j:∀out:List Value,sortedAll s.heap vs out.toArray=sortedHeap (G.push (seqObj "list" vs.toArray 0)) (s.heap.objs.size+1) vs out.toArray:=λout=>by rw[<-a];rfl
 have old:∀b o,s.heap.get? b=some o->(fh (G.push (seqObj "list" vs.toArray 0)) (s.heap.objs.size+1) vs).get? b=some o:=λb o q=>by
  have lt:=aE q;have g:G.get? b=some o:=by rw[<-a,pT _ _ _ _ (bc lt)];exact aI _ q
  refine aI _ (aI _ ?_);rw[pT _ _ _ _ (bc (nz lt))];exact aI _ g
 show wpAny _ _ _ _ _ {s with heap:=G.push (seqObj "list" vs.toArray 0)};rw[c];refine aa (cH (gX LS ⟨_,d,rfl⟩ LG ?body (LC _)))
 case body=>
  refine vp (rk:=rk) (κ:=κ) (s:={s with heap:=G.push (seqObj "list" vs.toArray 0)}) d (by lia) (f _ old) (i _ old) λout n p2=>?_;exact⟨_,rfl,ag ⟨_,rfl,(j out) ▸ h out n p2⟩⟩
end
section
theorem Paired.getE{α β:Type}{F:α->β->Prop}:∀{a:List α}{b:List β}{i:Nat}{x:α},Paired F a b->a[i]?=some x->∃y,b[i]?=some y/\F x y
 |_,_,_,_,.nil,e=>by simp at e
 |_,_,0,_,.cons r _,e=>by simp at e;subst e;exact⟨_,rfl,r⟩
 |_,_,i+1,x,.cons _ t,e=>by
  obtain⟨u,h1,h2⟩:=Paired.getE (i:=i) (x:=x) t (by simpa using e);exact⟨u,by simpa using h1,h2⟩
theorem uV{ys:List V}{its:List Value}(r:Vals ys its):∀(ix:List Nat),(∀i∈ix,i<ys.length)->Vals (ix.map λi=>ys.getD i .non) (ix.map λi=>its.getD i Value.none)
 | [],_=>.nil
 |i::ix,h=>by
  refine .cons ?_ (uV r ix λj a=>h j (bZ _ a));have hi:=h i iH;obtain⟨u,b,c⟩:=r.get (i:=i) (x:=ys[i]) (by simp[hi]);have d:ys.getD i .non=ys[i]:=by simp[List.getD,hi]
  have e:its.getD i Value.none=u:=by rw[List.getD,b];rfl
  show az (ys.getD i .non) (its.getD i Value.none);rw[d,e];exact c
theorem FY{prog:Program}(us ws:List Value)(ns ms:List Int)(i:Nat)(s:Shared){fin:Bool}{Q:Bool->Shared->Prop}(h1:IntsAre us ns)(h2:IntsAre ws ms)(e:fin=decide (ns.length<ms.length))(q:Q (HT.lexLt ns ms) s):KatLex prog w A true fin Q (us.zip ws) i s:=by
 induction h1 generalizing ws ms i with
 |nil=>
  subst e;cases h2 with
  |nil=>exact q
  |cons _ _ _=>exact kat_nil (by simpa [HT.lexLt] using q)
 |cons a t f c=>cases h2 with
  |nil=>subst e;exact kat_nil (by simpa [HT.lexLt] using q)
  |cons b u d=>
  rw[HT.lexLt_cons] at q;refine kat_cons (L8 ?_);by_cases h:a=b
  .rw[ND h] at q;rw[show (a==b)=true by simpa using h];refine kat_yes (c _ _ (i+1) d ?_ q);rw[e];simp
  rw[NC h] at q;rw[show (a==b)=false by simpa using h];refine kat_no ?_;cases g:(true&&i==0) with
  |true=>exact oneLt_int q
  |false=>exact kat_one _ _ (lt_int q)
theorem B4{α β:Type}{f:α->β}:∀{l b:List β},b.Perm l->∀ix:List α,l=ix.map f->∃a:List α,a.Perm ix/\b=a.map f:=by
 intro l b h;induction h with
 |nil=>exact λix e=>⟨ix,.refl _,e⟩
 |cons x _ c=>
  intro ix e;cases ix with
  |nil=>cases e
  |cons i ix=>
   rw[aU] at e;injection e with d g;obtain⟨a,p,q⟩:=c ix g;exact⟨i::a,p.cons i,by rw[aU,d,q]⟩
 |swap x y l=>
  intro ix e
  match ix,e with
  |i::j::ix,e=>
   simp only[aU,List.cons.injEq] at e;exact⟨j::i::ix,.swap _ _ _,by rw[aU,aU,e.1,e.2.1,e.2.2]⟩
 |trans _ _ m n=>
  intro ix e;obtain⟨o,p2,r⟩:=n ix e;obtain⟨s,u,v⟩:=m o r;exact⟨s,u.trans p2,v⟩
def Ky(K:Frag)(H:Hp)(ys:List V)(ks:List (List Int)):Prop:=Paired (λy k=>∃n,y=V.int n/\k=[n]) ys ks\/Tups K H ys ks
def rkV(h:Heap):Value->List Int
 |.int n _=>[n]
 |.ref b=>match h.get? b with
  |some o=>match o.data with
   |.seq xs _=>xs.toList.map λv=>match v with | .int n _=>n|_=>0
   |_=>[]
  |none=>[]
 |_=>[]
theorem xj:∀{us:List Value}{ns:List Int},IntsAre us ns->(us.map λv=>match v with | .int n _=>n|_=>0)=ns
 |_,_,.nil=>rfl
 |_,_,.cons n t r=>by rw[aU,xj r]
theorem yx(I:Inv X NI Z H s){ys:List V}{ks:List (List Int)}{its:List Value}(h:Ky [] H ys ks)(g:Vals ys its):∃κ:SortKind,(∀i,i<its.length->rkV s.heap (its.getD i Value.none)=ks.getD i [])/\
  ∀{A:Around}{E:Value->Shared->Prop}(h':Heap),(∀b o,s.heap.get? b=some o->o.cls=.type "tuple"->h'.get? b=some o)->2<=its.length->
   (∀Q:SortKind->Shared->Prop,Q κ {s with heap:=h'}->wpAny (model X.prog X.w) A (keyKind' its.toArray) Q E {s with heap:=h'})/\
   ∀x∈its,∀y∈its,∀C:Bool->Shared->Prop,C (HT.lexLt (rkV s.heap x) (rkV s.heap y)) {s with heap:=h'}->wpAny (model X.prog X.w) A (keyLt' κ x y) C (λ_ _=>False) {s with heap:=h'}:=by
 rcases h with h|h
 .obtain⟨ns,rfl,rfl⟩:∃ns:List Int,ys=ns.map V.int/\ks=ns.map λn=>[n]:=by
   clear g;induction h with
   |nil=>exact⟨[],rfl,rfl⟩
   |cons r _ l=>
    obtain⟨n,rfl,rfl⟩:=r;obtain⟨ns,rfl,rfl⟩:=l;exact⟨n::ns,rfl,rfl⟩
  have p:=nX g;have f:∀{its:List Value}{ns:List Int},IntsAre its ns->∀x∈its,∃n t,x=Value.int n t:=λ{its ns} p x hx=>by
   induction p with
   |nil=>cases hx
   |cons n t _ l=>
    rcases aK.mp hx with rfl|hx
    .exact⟨n,t,rfl⟩
    exact l hx
  refine⟨oneType',λi hi=>?_,λ{A E} h' _ h2=>⟨λQ q=>?_,λx hx y K C q=>?_⟩⟩
  .obtain⟨u,L,D⟩:=g.get (i:=i) (x:=(ns.map V.int)[i]'(by rw[g.length];exact hi)) (by simp);have ab:i<ns.length:=by have:=g.length;rw[ao] at this;lia
   rw[List.getElem_map] at D;obtain⟨t,rfl⟩:=D;rw[List.getD,L,List.getD,aY,bX ab];rfl
  .match its,h2,p with
   |v1::v2::rest,_,p=>rw[keyKind_ints p];exact ag q
  obtain⟨n,t,rfl⟩:=f p x hx;obtain⟨m,u,rfl⟩:=f p y K;refine kat_lt_int ?_;have e:HT.lexLt (rkV s.heap (Value.int n t)) (rkV s.heap (Value.int m u))=decide (n<m):=by
   show HT.lexLt [n] [m]=_;rw[HT.lexLt_cons];by_cases z:n=m
   .rw[ND z,NG (by lia)];rfl
   rw[NC z]
  rw[<-e];exact q
 have at_:∀(ks:List (List Int))(ys:List V)(its:List Value),Tups [] H ys ks->Vals ys its->Paired (λv k=>k≠[]/\∃b us o n,v=Value.ref b/\IntsAre us k/\s.heap.get? b=some o/\o.cls=.type "tuple"/\o.data=.seq us.toArray n) its ks:=by
  intro ks;induction ks with
  |nil=>intro ys its a b;cases a;cases b;exact .nil
  |cons k ks l=>
   intro ys its a b;cases a with
   |cons hh tt=>
    obtain⟨bb,e0,hq,M⟩:=hh;subst e0;cases b with
    |cons r rr=>
     cases r;obtain⟨us,r5,⟨o,p1,p2,n,p3⟩,_⟩:=I.tuple hq;exact .cons ⟨M,bb,us,o,n,rfl,nX r5,p1,p2,p3⟩ (l _ _ tt rr)
 have P:=at_ ks ys its h g;have N:∀{b:Addr}{us:List Value}{o:Obj}{n:Nat}{k:List Int},IntsAre us k->s.heap.get? b=some o->o.data=.seq us.toArray n->rkV s.heap (Value.ref b)=k:=λ{b us o n k} c d B=>by
  show (match s.heap.get? b with|some o=>_|none=>_)=_;rw[d];show (match o.data with | .seq xs _=>_|_=>_)=_;rw[B];exact xj c
 refine⟨tuples' (Value.type "int" != Value.type "tuple"),λi hi=>?_,λ{A E} h' old h2=>⟨λQ q=>?_,λx hx y K C q=>?_⟩⟩
 .obtain⟨k,L,_,b,us,o,n,D,c,d,_,B⟩:=Paired.getE (i:=i) (x:=its[i]) P (by simp[hi]);rw[show its.getD i Value.none=its[i] by simp[List.getD,hi],D,N c d B,List.getD,L];rfl
 .obtain⟨fs,hk,an,ad⟩:∃fs,KatTups h' its fs/\fs.length=its.length/\∀v∈fs,∃n t,v=Value.int n t:=by
   clear g h2 h at_;induction P with
   |nil=>exact⟨[],.nil,rfl,λ_ h=>nomatch h⟩
   |cons r _ l=>
    obtain⟨M,b,us,o,n,rfl,c,d,O,B⟩:=r;obtain⟨fs,k1,al,am⟩:=l;cases c with
    |nil=>exact absurd rfl M
    |cons z tk r2=>
     refine⟨Value.int z tk::fs,.cons (old _ _ d O) O B (by simp) k1,by simp[al],λv f=>?_⟩;rcases aK.mp f with rfl|f
     .exact⟨_,_,rfl⟩
     exact am v f
  refine kat_kind (T:=.type "int") hk (by lia) (λv f=>?_) (by decide) q;obtain⟨n,t,rfl⟩:=ad v f;exact Looks.of_pure rfl
 obtain⟨i,hi⟩:=tP.mp hx;obtain⟨j,hj⟩:=tP.mp K;obtain⟨k1,_,_,b1,u1,o1,n1,rfl,c,R,c1,S⟩:=Paired.getE P hi;obtain⟨k2,_,_,b2,u2,o2,n2,rfl,d,U,c2,Y⟩:=Paired.getE P hj;rw[N c R S,N d U Y] at q;rw[show (Value.type "int" != Value.type "tuple")=true by decide];refine kat_lt (old _ _ R c1) S (old _ _ U c2) Y (FY u1 u2 _ _ 0 _ c d ?_ q);rw[<-c.length,<-d.length];simp
theorem yw{ys:List V}{ks:List (List Int)}{its out:List Value}(c:Vals ys its)(f:∀i,i<its.length->rkV s.heap (its.getD i Value.none)=ks.getD i [])(p:out.Perm its)(g:out.Pairwise (λu v=>HT.lexLt (rkV s.heap v) (rkV s.heap u)=false)) :
  ∃ix:List Nat,ix.Perm (List.range ys.length)/\(ix.map λi=>ks.getD i []).Pairwise (λa b=>HT.lexLt b a=false)/\Vals (ix.map λi=>ys.getD i .non) out:=by
 have e:its=(List.range its.length).map λi=>its.getD i Value.none:=by refine tF (by simp) λi h1 h2=>?_;simp[h1]
 obtain⟨ix,p2,rfl⟩:=B4 p _ e;have d:∀i∈ix,i<its.length:=λi hi=>iI.mp (p2.mem_iff.mp hi);refine⟨ix,by rw[c.length];exact p2,?_,uV c ix λi hi=>by rw[c.length];exact d i hi⟩;rw[iJ] at g |-;refine Kk (λ{a b} ha j h=>?_) g;rw[f _ (d a ha),f _ (d b j)] at h;exact h
def G6(K:Frag):List V->Hp->VK->Prop:=λxs H Q=>∃(a:Addr)(ys:List V)(ks:List (List Int)),xs=[.ref a]/\SqL K H a ys/\Ky K H ys ks/\ys.length<5000/\
 ∀p (ix:List Nat),H p=none->ix.Perm (List.range ys.length)->(ix.map λi=>ks.getD i []).Pairwise (λa b=>HT.lexLt b a=false)->Q (.ref p) (upd H p (.lst (ix.map λi=>ys.getD i .non)))
theorem AD:cu X (.builtin "sorted") (G6 []):=by intro NI s Z H xs us Q I r h;obtain⟨a,ys,ks,rfl,g,j,x,q⟩:=h;obtain⟨u,rfl,l⟩:=Vals.one r;cases l;obtain⟨its,c,p,_⟩:=I.list g;have y:=c.length;obtain⟨κ,m,ask⟩:=yx I j c;refine Bo (κ:=κ) (rk:=rkV s.heap) p.isList (by rw[dg];lia) (λh' old h2=>(ask h' (λb o e _=>old b o e) h2).1) (λh' old h2=>(ask (E:=λ_ _=>False) h' (λb o e _=>old b o e) h2).2) λout n p2=>?_;obtain⟨ix,d,v,w⟩:=yw c m n p2;obtain⟨e,he⟩:=sortedAll_at s.heap its out.toArray;have f:s.heap.objs.size<=s.heap.objs.size+1:=ko _;exact⟨.ref (s.heap.objs.size+1),upd H (s.heap.objs.size+1) (.lst (ix.map λi=>ys.getD i .non)),I.laid (t':=s.toks) (λb o e=>sortedAll_old e) f ⟨by rw[ao,d.length_eq,ny,dg];lia,out,e,w,by rw[he]⟩,rfl,q _ ix (I.hok.fresh f) d v⟩
theorem HM{K:Frag}(ns:List Int):Ky K H (ns.map V.int) (ns.map λn=>[n]):=.inl (by
 induction ns with
 |nil=>exact .nil
 |cons n ns a=>exact .cons ⟨n,rfl,rfl⟩ a)
theorem HV{ns:List Int}{ix:List Nat}(p:ix.Perm (List.range (ns.map V.int).length))(w:(ix.map λi=>(ns.map λn=>[n]).getD i []).Pairwise (λa b=>HT.lexLt b a=false)) :
  ∃ms:List Int,ms.Perm ns/\ms.Pairwise (·<=·)/\(ix.map λi=>(ns.map V.int).getD i .non)=ms.map V.int:=by
 rw[ao] at p;have c:∀i∈ix,i<ns.length:=λi hi=>iI.mp (p.mem_iff.mp hi);refine⟨ix.map λi=>ns.getD i 0,?_,?_,?_⟩
 .have:=p.map λi=>ns.getD i 0;refine this.trans (tj (tF (by simp) λi h1 h2=>?_));simp[h2]
 .rw[iJ] at w |-;refine Kk (λ{a b} ha d h=>?_) w;have h1:=c a ha;have h2:=c b d;simp only[List.getD,aY,bX h1,bX h2,nE,zY] at h |-;rw[HT.lexLt_cons] at h;by_cases z:ns[b]=ns[a]
  .lia
  rw[NC z] at h;have:=of_decide_eq_false h;lia
 rw[bU];refine p5 λi hi=>?_;have:=c i hi;simp[List.getD,this]
def G0(K:Frag):List V->Hp->VK->Prop:=λxs H Q=>∃(a:Addr)(ys:List V)(ks:List (List Int)),xs=[.ref a]/\SqL K H a ys/\Tups K H ys ks/\ys.length<5000/\
 ∀p (ix:List Nat),H p=none->ix.Perm (List.range ys.length)->(ix.map λi=>ks.getD i []).Pairwise (λa b=>HT.lexLt b a=false)->Q (.ref p) (upd H p (.lst (ix.map λi=>ys.getD i .non)))
theorem uo:cu X (.builtin "sorted") (G0 []):=by intro NI s Z H xs us Q I r h;obtain⟨a,ys,ks,rfl,b,c,d,q⟩:=h;exact AD NI s Z H _ us Q I r ⟨a,_,_,rfl,b,.inr c,d,q⟩
end
def DAt(h:Heap)(d:Addr)(es:Array DictEntry)(ep:Nat):Prop:=∃o,h.get? d=some o/\o.ExactDict/\o.data=.dict es ep
theorem DAt.lt{h:Heap}{d:Addr}{es:Array DictEntry}{ep:Nat}(x:DAt h d es ep):d<h.objs.size:=let ⟨_,e,_⟩:=x;aE e
theorem DAt.at{h h':Heap}{d:Addr}{es:Array DictEntry}{ep:Nat}(x:DAt h d es ep)(k:∀o,h.get? d=some o->h'.get? d=some o):DAt h' d es ep:=let ⟨o,e,r⟩:=x;⟨o,k o e,r⟩
theorem DAt.ty{d:Addr}{es:Array DictEntry}{ep:Nat}(x:DAt s.heap d es ep):s.TypeIs (.ref d) "dict":=let ⟨o,e,c,_⟩:=x;⟨o,e,c.1⟩
section
variable {prog:Program}{d it:Addr}{es:Array DictEntry}{ep i:Nat}
theorem sv{Q:Value->Shared->Prop}(lo:(d==sysModules)=false)(m:DAt s.heap d es ep)
  (q:Q (.ref s.heap.objs.size) {s with heap:=s.heap.push {cls:=.type "dict_keyiterator",data:=.fields #[.ref d,.int 0 0,.int es.size 0,.int ep 0]}}):wpAny (model prog w) A (pyIter (.ref d)) Q E s:=by
 obtain⟨o,a,_,b⟩:=id m;refine Mj m.ty Lg (gX Lg m.ty PySem.F.entry_dict_iter ?tree (PySem.F.args_dict_iter_1 _));unfold Builtin.«dict.__iter__» Builtin.Dict.dictSlotNone;refine aa (aa (Mg m.ty ?_));refine ag (show wpAny _ _ (Builtin.Dict.showsAll d >>= _) _ _ s from ?_);unfold Builtin.Dict.showsAll;rw[NC (show ¬(d==sysModules)=true by rw[lo];simp)];refine aa (ag (aa (nN a b (aa (nP a b ?_)))));refine aa (dZ (ag ⟨_,rfl,"dict_keyiterator",_,⟨_,bq _ rfl,rfl⟩,qd.lookup,?_⟩));simpa [rawInt] using q
theorem zm{Q:Option Value->Shared->Prop}(hit:s.heap.IsKeyIter it d i es.size ep)(m:DAt s.heap d es ep)(hi:i<es.size)
  (q:∀h',h'.IsKeyIter it d (i+1) es.size ep->Heap.SameBut it s.heap h'->Q (some es[i].key) {s with heap:=h'}):wpAny (model prog w) A (pyNext (.ref it)) Q E s:=by
 obtain⟨o,a,e,hd⟩:=id hit;obtain⟨od,b,_,c⟩:=id m;unfold pyNext;refine aa (jx (nM (name:=Str.ofString "__next__") hit.typeIs qd (gX qd hit.typeIs La ?tree (K7 _))));refine aa (ag (aa (aa ?_)))
 first|refine aa (ui hit.typeIs (ag (aa (jA a hd ?_))))|refine aa (uk hit.typeIs (ag (aa (jA a hd ?_))))
 simp only[show Builtin.Dict_items.ownsTuple "dict_keyiterator" = false by decide,jj,if_false];refine (show wpAny _ _ (if (Value.ref d==Value.none)=true then _ else _) _ _ s from ?_);rw[NC (show ¬(Value.ref d==Value.none)=true from bu)];refine aa (ag (aa (nN b c ?_)));rw[NC (by simp)];refine aa (ag (aa (nP b c ?_)));rw[NC (by simp)];refine ag ?_;simp only[show ¬((i:Int)<0) by lia,if_false,iF,sT hi];refine aa ?_
 first|refine aa (ui hit.typeIs (ag (aa (Au hit.typeIs ?_))))|refine aa (uk hit.typeIs (ag (aa (Au hit.typeIs ?_))))
 show wpAny _ _ (setField (.ref it) 1 (rawInt ((i:Int)+1)) >>= _) _ _ s;refine aa (eZ a hd (by simp) ?_);have t':(s.heap.update it (Obj.mapFields (·.setIfInBounds 1 (rawInt ((i:Int)+1))))).IsKeyIter it d (i+1) es.size ep:=
  ⟨_,fJ _ a (jt (iL hd _)),(zX ..).trans e,by rw[iL hd];simp[rawInt]⟩
 refine aa (cH (aa (Au (s:={s with heap:=s.heap.update it (Obj.mapFields (·.setIfInBounds 1 (rawInt ((i:Int)+1))))}) t'.typeIs ?_)));show wpAny _ _ (pure es[i].key) _ _ _;exact ag (ag ⟨_,rfl,ag (q _ t' (zu ..))⟩)
theorem dEnd{Q:Option Value->Shared->Prop}(g:A.handled=none)(hit:s.heap.IsKeyIter it d i es.size ep)(m:DAt s.heap d es ep)(hi:es.size<=i)
  (q:∀h',Heap.ExtBut it s.heap h'->Q none {s with heap:=h'}):wpAny (model prog w) A (pyNext (.ref it)) Q E s:=by
 obtain⟨o,c,h,hd⟩:=id hit;obtain⟨od,e,_,f⟩:=id m;unfold pyNext;refine aa (jx (nM (name:=Str.ofString "__next__") hit.typeIs qd (gX qd hit.typeIs La ?tree (K7 _))));refine aa (ag (aa (aa ?_)))
 first|refine aa (ui hit.typeIs (ag (aa (jA c hd ?_))))|refine aa (uk hit.typeIs (ag (aa (jA c hd ?_))))
 simp only[show Builtin.Dict_items.ownsTuple "dict_keyiterator" = false by decide,jj,if_false];refine (show wpAny _ _ (if (Value.ref d==Value.none)=true then _ else _) _ _ s from ?_);rw[NC (show ¬(Value.ref d==Value.none)=true from bu)];refine aa (ag (aa (nN e f ?_)));rw[NC (by simp)];refine aa (ag (aa (nP e f ?_)));rw[NC (by simp)];refine ag ?_;simp only[show ¬((i:Int)<0) by lia,if_false,iF,J4 hi];refine aa ?_
 first|refine aa (ui hit.typeIs (ag ?_))|refine aa (uk hit.typeIs (ag ?_))
 refine (show wpAny _ _ (setField (.ref it) 0 .none >>= _) _ _ s from aa (eZ c hd (by simp) ?_));show wpAny _ _ (newExc (.type "StopIteration") [] >>= _) _ _ _;refine aa ?_;simp only[newExc,newTuple];refine aa (dZ (aa (m:=firstArgMember _ _) (ku (a:=Value.none) (by first|rfl|(simp only[firstArgMember];rfl)) (dZ ?_ (by size_fits)))) (by size_fits));simp only[raiseNew];refine aa (wpAny_handled ?_);rw[show A.in1.handled=none from g];refine aa (ag (Ay ?_));refine aa (Mb (b:=true) (T:="StopIteration") ⟨_,bq _ rfl,rfl⟩ LJ ?_);exact ag (q _ (((zu ..).extBut.push _).push _))
theorem yP(g:A.handled=none)(I:Addr)(j:d≠I):Walks prog w A I [I,d] [I] es.size (λi v=>∃(h:i<es.size),v=es[i].key) (λi h=>h.IsKeyIter I d i es.size ep/\DAt h d es ep) where
 sub:=λb a=>by simp at a;simp[a]
 frame:=λ_ _ _ st f=>⟨st.1.at λo e=>f I (by simp) o e,st.2.at λo e=>f d (by simp) o e⟩
 item:=λi s Q E hi st c=>zm st.1 st.2 hi λh' t' sb=>c _ h' s.toks ⟨hi,rfl⟩ ⟨t',st.2.at λo e=>(sb.2 d j).trans e⟩ λb o a e=>sb.extBut b o (λh=>a (by simp[h])) e
 done:=λs Q E st c=>dEnd g st.1 st.2 (ak _) λh' x=>c h' s.toks λb o a e=>x b o (λh=>a (by simp[h])) e
 self:=λ_ _ _ _ st c=>Mi st.1 c
theorem dSrc(lo:(d==sysModules)=false):KdlSrc prog w "dict" d d es.size (λi v=>∃(h:i<es.size),v=es[i].key) (λh=>DAt h d es ep) where
 type:=λ_ m=>m.ty
 there:=λ_ m=>⟨m.lt,m.lt⟩
 keep:=λ_ _ m b=>m.at λo e=>b d (.inl rfl) o e
 notList:=by decide
 notTuple:=by decide
 hint:=λ_ _ _ _ m a=>kdl_hint_dict m.ty a
 iter:=λ_ _ c m=>⟨_,_,(λ_ _ a=>sv lo m a),yP c _ (bc m.lt),⟨⟨_,bq _ rfl,rfl,rfl⟩,m.at λo e=>aI _ e⟩⟩
end
end L2
end
section
namespace L2
open PySem PySem.Spec PyProof.Rows PySem.W
def DKeys(H:Hp)(d:Addr)(ks vs:List V):Prop:=
 (∃kvs,H d=some (.dK kvs)/\ks=kvs.map (λp=>kV p.1)/\vs=kvs.map (·.2)) \/
 ∃kvs as,H d=some (.dT kvs)/\Paired (λ(p:List Key×V) a=>H a=some (.tup (p.1.map kV))) kvs as/\ks=as.map V.ref/\vs=kvs.map (·.2)
def DIs(H:Hp)(d:Addr):Prop:=(∃kvs,H d=some (.dK kvs))\/∃kvs,H d=some (.dT kvs)
theorem dview{d:Addr}(I:Inv X NI Z H s)(hd:DIs H d) :
  (d==sysModules)=false/\∃ks vs es ep,DKeys H d ks vs/\ks.length<=sizeLine/\DAt s.heap d es ep/\Vals ks (es.toList.map (·.key))/\Vals vs (es.toList.map (·.val)):=by
 rcases hd with ⟨kvs,e⟩|⟨kvs,e⟩
 .obtain⟨z,lo,us,rel,o,es,ep,h1,h2,f,_,n,_⟩:=pI I.hok e;refine⟨lo,_,_,es,ep,.inl ⟨kvs,e,rfl,rfl⟩,by rw[ao];exact z,⟨o,h1,h2,f⟩,?_⟩;generalize es.toList=l at n;have go:∀{kvs:List (Key×V)}{us:List (Key×Value)}{l:List DictEntry},KV kvs us->Pairs (cG X.prog X.w) l us->Vals (kvs.map λp=>kV p.1) (l.map (·.key))/\Vals (kvs.map (·.2)) (l.map (·.val)):=by
   intro kvs us l r;induction r generalizing l with
   |nil=>intro p;cases p;exact⟨.nil,.nil⟩
   | @cons a b D E h1 h2 c=>
    intro p;cases p with
    |cons v p2 y=>
     obtain⟨A,B⟩:=c y;refine⟨.cons ?_ A,.cons ?_ B⟩
     .dsimp only;rw[h1.1];rcases e8 v with ⟨i,t,g,h⟩|⟨x,t,g,h⟩
      .rw[g,h];exact⟨t,rfl⟩
      rw[g,h];exact⟨t,rfl⟩
     dsimp only;rw[p2];exact h1.2
  exact go rel n
 obtain⟨z,lo,xs,rel,o,es,ep,h1,h2,f,j,C⟩:=zl I.hok e;clear C;have go:∀{kvs:List (List Key×V)}{xs:List (List Key×Addr×Value)},KT H kvs xs->Paired (λ(p:List Key×V) a=>H a=some (.tup (p.1.map kV))) kvs (xs.map (·.2.1))/\Vals (kvs.map (·.2)) (xs.map (·.2.2)):=by
  intro kvs xs r;induction r with
  |nil=>exact⟨.nil,.nil⟩
  |cons h1 h2 c=>exact⟨.cons h1.2.1 c.1,.cons h1.2.2 c.2⟩
 obtain⟨m,q⟩:=go rel;have u:=nF m;refine⟨lo,_,_,es,ep,.inr ⟨kvs,_,e,m,rfl,rfl⟩,by rw[ao,<-u];exact z,⟨o,h1,h2,f⟩,?_,?_⟩
 .rw[j,bU,bU];clear j rel m q u;induction xs with
  |nil=>exact .nil
  |cons x r c=>exact .cons rfl c
 rw[j,bU];exact q
abbrev pJ(X:Cx):Cx:={X with A:=X.A.in1}
section
theorem Inv.toIn1(I:Inv X NI Z H s):Inv (pJ X) NI Z H s:=
 ⟨⟨I.ok.mod,I.ok.kind,I.ok.glob,I.ok.blt,I.ok.above,I.ok.inj,I.ok.has,I.ok.cab,I.ok.hd,I.ok.frames,I.ok.stk,I.ok.exf,I.ok.bs,I.ok.bsz,I.ok.noex,I.ok.exfs,I.ok.funs,I.ok.frf⟩,I.os,I.bare,I.base,I.loc,I.cell,I.free,I.freeC,I.pin,I.hok,I.len⟩
theorem Inv.ofIn1(I:Inv (pJ X) NI Z H s):Inv X NI Z H s:=
 ⟨⟨I.ok.mod,I.ok.kind,I.ok.glob,I.ok.blt,I.ok.above,I.ok.inj,I.ok.has,I.ok.cab,I.ok.hd,I.ok.frames,I.ok.stk,I.ok.exf,I.ok.bs,I.ok.bsz,I.ok.noex,I.ok.exfs,I.ok.funs,I.ok.frf⟩,I.os,I.bare,I.base,I.loc,I.cell,I.free,I.freeC,I.pin,I.hok,I.len⟩
end
section
def xk(K:Frag):V->List V->Hp->VK->Prop:=λx vs H Q=>∃(l:Addr)(ys:List V)(ks:List (List Int)),x=.ref l/\vs=[]/\H l=some (.lst ys)/\Ky K H ys ks/\ys.length<5000/\
 ∀(ix:List Nat),ix.Perm (List.range ys.length)->(ix.map λi=>ks.getD i []).Pairwise (λa b=>HT.lexLt b a=false)->Q .non (upd H l (.lst (ix.map λi=>ys.getD i .non)))
theorem uy:MtM X "list.sort" (xk []):=by
 intro NI s Z H x vs v us Q I f g h;obtain⟨l,ys,ks,rfl,rfl,c,j,D,q⟩:=h;cases f;cases g;obtain⟨z,its,n,r,hlen,e⟩:=I.lstM c;have K:=r.length;obtain⟨κ,m,ask⟩:=yx I j r;have old:∀b o,s.heap.get? b=some o->o.cls=.type "tuple"->(fh s.heap l its).get? b=some o:=λb o a p=>by
  refine aI _ (aI _ ?_);rw[pT _ _ _ _ (λy=>by rw[y,e] at a;cases a;exact absurd (show Value.type "list" = Value.type "tuple" from p) (by decide))];exact a
 refine gX LS ⟨_,e,rfl⟩ LG (vp (κ:=κ) (rk:=rkV s.heap) e (by rw[dg];lia) (λh2=>(ask _ old h2).1) (λh2=>(ask (E:=λ_ _=>False) _ old h2).2) λout w p2=>⟨_,rfl,?_⟩) (LC _);obtain⟨ix,d,A,B⟩:=yw r m w p2;obtain⟨C,he⟩:=sortedHeap_at (out:=out.toArray) e;exact⟨.non,_,I.write (x:=l) (e:=l) (o:=.lst (ix.map λi=>ys.getD i .non)) (t':=s.toks) (by rw[c];exact True.intro) (.inl rfl) (λb u a q=>(sortedHeap_old a (aE q)).trans q) ⟨_,he⟩ ⟨by rw[ao,d.length_eq,ny,dg];lia,out,C,B,by rw[he]⟩,rfl,q ix d A⟩
end
theorem Tups.mono{K:Frag}{ys:List V}{ks:List (List Int)}(h:Tups K H ys ks)(k:∀a xs,H a=some (.tup xs)->H' a=some (.tup xs))(kf:∀a o xs,H a=some (.frz o (.tup xs))->H' a=some (.frz o (.tup xs))):Tups K H' ys ks:=by
 refine Paired.mapP h λy z ⟨b,e,q,n⟩=>⟨b,e,?_,n⟩;rcases q with (q|⟨o,q⟩)|q
 .exact .inl (.inl (k _ _ q))
 .exact .inl (.inr ⟨o,kf _ _ _ q⟩)
 exact .inr q
theorem vP{K:Frag}{D:Addr}{ks:List V}{Q:V->Hp->Prop}(c:H D=none)
  (k:(∃ns:List Int,ks=ns.map V.int/\ns.length<5000/\∀(p:Addr)(ms:List Int),H p=none->ms.Perm ns->ms.Pairwise (·<=·)->Q (.ref p) (upd H p (.lst (ms.map V.int)))) \/
   ∃d:List (List Int),Tups K H ks d/\ks.length<5000/\∀(p:Addr)(ix:List Nat),H p=none->ix.Perm (List.range ks.length)->(ix.map λi=>d.getD i []).Pairwise (λa b=>HT.lexLt b a=false)->Q (.ref p) (upd H p (.lst (ix.map λi=>ks.getD i .non)))) :
  xk K (.ref D) [] (upd H D (.lst ks)) λ_ H'=>Q (.ref D) H':=by
 rcases k with ⟨ns,g,f,q⟩|⟨d,h,f,q⟩
 .subst g;refine⟨D,_,_,rfl,rfl,aP,HM ns,by rw[ao];exact f,λix h1 h2=>?_⟩;obtain⟨ms,j,l,m⟩:=HV h1 h2;rw[wB,m];exact q D ms c j l
 refine⟨D,ks,d,rfl,rfl,aP,.inr (h.mono (λb xs e=>by rw[ar (aq e c)];exact e) λb o xs e=>by rw[ar (aq e c)];exact e),f,λix h1 h2=>?_⟩;rw[wB];exact q D ix c h1 h2
section
def G7(K:Frag):List V->Hp->VK->Prop:=λxs H Q=>∃a:Addr,xs=[.ref a]/\DIs H a/\∀ks vs,DKeys H a ks vs->
 (∃ns:List Int,ks=ns.map V.int/\ns.length<5000/\∀(p:Addr)(ms:List Int),H p=none->ms.Perm ns->ms.Pairwise (·<=·)->Q (.ref p) (upd H p (.lst (ms.map V.int)))) \/
 ∃c:List (List Int),Tups K H ks c/\ks.length<5000/\∀(p:Addr)(ix:List Nat),H p=none->ix.Perm (List.range ks.length)->(ix.map λi=>c.getD i []).Pairwise (λa b=>HT.lexLt b a=false)->Q (.ref p) (upd H p (.lst (ix.map λi=>ks.getD i .non)))
theorem uJ{α:Type}{l m:List α}(a:l.length=m.length)(h:∀(j:Nat)(v:α),l[j]?=some v->m[j]?=some v):l=m:=by
 refine tG λi=>?_;cases e:l[i]? with
 |some v=>rw[h i v e]
 |none=>
  have:l.length<=i:=KA.mp e;exact (KA.mpr (by lia)).symm
theorem nQ(n:X.calm=true):cu X (.builtin "sorted") (G7 []):=by
 intro NI s Z H xs us Q I r h;obtain⟨a,rfl,hd,k⟩:=h;obtain⟨u,rfl,p⟩:=Vals.one r;cases p;obtain⟨lo,ks,vs,es,ep,q,d,w,f,N⟩:=dview I hd;obtain⟨m,F⟩:=I.fr;have x:ks.length=es.size:=by have:=f.length;simpa using this
 refine kdu_sorted (dSrc (es:=es) (ep:=ep) lo) (I.ok.hd n) F (qR (g:=X.base) (L:=X.env.locals)) w (by rw[<-x];exact d) λD h' tk b y i A B C=>?_;obtain⟨k1,k2⟩:=I.newsKept (t':=s.toks) (more:=[(D,listOf b.toArray 0)]) F y i;have c:=i (D,listOf b.toArray 0) (.head _);have l:s.heap.get? D=none:=by
  cases e:s.heap.get? D with
  |none=>rfl
  |some o=>exact absurd (A (D,o) (qp c.2.1 c.2.2 e)) (de _)
 have ev:b=es.toList.map (·.key):=by refine uJ (by rw[B];simp) λj v e=>?_;obtain⟨E,rfl⟩:=C j v e;rw[aY];simp[E]
 have K:Inv X NI Z (upd H D (.lst ks)) {s with heap:=h',toks:=tk}:=I.laidN (t':=tk) k1 k2 l (λH'=>⟨d,b,0,by rw[ev];exact f,c.1⟩) (λ_ _ z=>by cases z);have z:=uy (X:=pJ X) NI _ Z _ (.ref D) [] (.ref D) [] (λ_ H'=>Q (.ref D) H') K.toIn1 rfl .nil (vP (I.hok.none_of l) (k ks vs q));exact thn z λ_ s' ⟨_,H',J,_,M⟩=>⟨.ref D,H',J.ofIn1,rfl,M⟩
end
section
def Ds(x:V)(vs:List V)(H:Hp)(Q:VK)(l:Addr)(xs:List V)(i:Nat)(y:V):Prop:=x=.ref l/\vs=[.int i,y]/\H l=some (.lst xs)/\i<=xs.length/\xs.length<sizeLine/\WrO H l (.lst (xs.take i++y::xs.drop i)) (Q .non)
def E9:V->List V->Hp->VK->Prop:=λx vs H Q=>Exists (Ex4 (Ds x vs H Q))
theorem FI{i n:Nat}(hi:i<=n)(a:n<sizeLine):¬(!Builtin.List.listFitsIndex (i:Int))=true:=by rw[dg] at a;have f:=Am (k:=(i:Int)) (by lia) (by lia);intro y;rw[f] at y;cases y
theorem D6{prog:Program}{w:World}{A:Around}{E:Value->Shared->Prop}{Q:Value->Shared->Prop}{l:Addr}{its:Array Value}{n:Nat}{i:Int}{t:Tok}{a:Value}(b:s.TypeIs (Value.ref l) "list")(c:¬(!Builtin.List.listFitsIndex i)=true)(hsz:its.size<=sizeLine)
  (e:s.heap.get? l=some {cls:=.type "list",data:=.seq its n})
  (h:Q .none {s with heap:=s.heap.update l (Obj.mapSeq λxs=>(xs.extract 0 (if i<0 then (i+(xs.size:Int)).toNat else min i.toNat xs.size)).push a++xs.extract (if i<0 then (i+(xs.size:Int)).toNat else min i.toNat xs.size))}) :
  wpAny (model prog w) A (call (Value.builtin "list.insert") [Value.ref l,Value.int i t,a]) Q E s:=
 Ah tZ b PySem.F.entry_list_insert (PySem.F.args_list_insert_3 _ _ _) (MD l its n i t a c hsz) ⟨e,h⟩
theorem qC:MtM X "list.insert" E9:=by
 intro NI s Z H x vs v us Q I c d h;obtain⟨l,xs,i,y,rfl,rfl,a,hi,f,q⟩:=h;cases c;obtain⟨u,b,rfl,g,j⟩:=d.two;obtain⟨t,rfl⟩:=g;obtain⟨z,its,n,r,m,e⟩:=I.lstM a;have o:=FI hi f;have hsz:its.toArray.size<=sizeLine:=by rw[a_,<-m];exact z
 refine D6 (s:=s) ⟨_,e,rfl⟩ o hsz e ?_;refine⟨.non,_,I.lset (its':=its.take i++b::its.drop i) a e ?_ (Vals.append (r.take i) (.cons j (r.drop i))) ?_,rfl,q.at⟩
 .have p:(if (i:Int)<0 then ((i:Int)+(its.toArray.size:Int)).toNat else min (i:Int).toNat its.toArray.size)=i:=by
   rw[NC (by lia),iF,a_];lia
  show ((its.toArray.extract 0 _).push b++its.toArray.extract _)=_;rw[p];have hd:(its.drop i).take (its.length-i)=its.drop i:=iK (by rw[eV];exact ak _);simp[List.extract_eq_drop_take,hd]
 rw[aL,bz,bf,eV];lia
def Jw(K:Frag):List V->Hp->VK->Prop:=λxs H Q=>∃(a:Addr)(ns:List Int),xs=[.ref a]/\SqL K H a (ns.map V.int)/\ns≠[]/\∀m,m∈ns->(∀n∈ns,n<=m)->Q (.int m) H
theorem lr(r:Vals xs us){i:Nat}{v:Value}(e:us[i]?=some v):∃x,xs[i]?=some x/\az x v:=by
 have c:=r.length;have hi:i<xs.length:=by have:=(aG.mp e).1;lia
 obtain⟨u,a,b⟩:=r.get (i:=i) (x:=xs[i]) (by simp[hi]);rw[e] at a;cases a;exact⟨_,by simp[hi],b⟩
theorem pq{ns:List Int}(r:Vals (ns.map V.int) us)(i:Nat)(v:Value)(e:us.toArray[i]?=some v):∃t,v=.int (ns.getD i 0) t:=by obtain⟨x,a,b⟩:=lr r (i:=i) (v:=v) (by simpa using e);rw[aY] at a;obtain⟨n,c,rfl⟩:=bW.mp a;obtain⟨t,rfl⟩:=b;exact⟨t,by rw[List.getD,c];rfl⟩
theorem qm(b:X.calm=true):cu X (.builtin "max") (Jw []):=by intro NI s Z H xs us Q I r h;obtain⟨a,ns,rfl,c,d,q⟩:=h;obtain⟨u,rfl,e⟩:=Vals.one r;cases e;obtain⟨its,f,p,l⟩:=I.list c;obtain⟨m,F⟩:=I.fr;refine max_list_N (I.ok.hd b) F (qR (g:=X.base) (L:=X.env.locals)) p.isList (nX f) (nv.mpr d) λh' M t tk i j h1 h2=>?_;obtain⟨k1,k2⟩:=I.newsKept (t':=tk) (more:=[]) F i j;exact⟨.int M,H,I.keptN (t':=tk) k1 k2,⟨t,rfl⟩,q M h1 h2⟩
def Ju(K:Frag):List V->Hp->VK->Prop:=λxs H Q=>∃(a:Addr)(ns:List Int),xs=[.ref a]/\SqT K H a (ns.map V.int)/\ns≠[]/\∀m,m∈ns->(∀n∈ns,m<=n)->Q (.int m) H
theorem wx(ns:List Int)(b:ns≠[]):(ns.getD (argBest (λi j=>decide (ns.getD i 0<ns.getD j 0)) (ns.length-1)) 0)∈ns/\∀n∈ns,ns.getD (argBest (λi j=>decide (ns.getD i 0<ns.getD j 0)) (ns.length-1)) 0<=n:=by
 obtain⟨h1,h2⟩:=argBest_lt (λi=>ns.getD i 0) (ns.length-1);have f:=nv.mpr b;refine⟨?_,λn c=>?_⟩
 .have a:argBest (λi j=>decide (ns.getD i 0<ns.getD j 0)) (ns.length-1)<ns.length:=by lia
  rw[List.getD,bX a];exact p0 a
 obtain⟨j,d,rfl⟩:=List.getElem_of_mem c;have:=h2 j (by lia);have e:ns.getD j 0=ns[j]:=by simp[List.getD,d]
 rw[e] at this;exact this
theorem A4(m:X.calm=true):cu X (.builtin "min") (Ju []):=by
 intro NI s Z H xs us Q I r h;obtain⟨a,ns,rfl,n,g,q⟩:=h;obtain⟨u,rfl,w⟩:=Vals.one r;cases w;obtain⟨its,c,p,D⟩:=I.tuple n;have j:s.heap.IsTuple a its.toArray:=p;have d:=c.length;rw[ao] at d;have l:a<s.heap.objs.size:=by obtain⟨_,e,_⟩:=p;exact aE e
 refine call_min_walk (Ml j ?_);refine⟨s.heap.objs.size,_,_,_,_,_,_,rfl,Walks.tuple (A:=X.A.in1) (I.ok.hd m) _ a (bc l) its.toArray,⟨⟨_,bq _ rfl,rfl,rfl⟩,?_⟩,λb f=>?_,?_,Kg (λi=>ns.getD i 0) (λi v e=>pq c i v e),λv h' tk x y=>?_⟩
 .obtain⟨o,e,r⟩:=j;exact⟨o,aI _ e,r⟩
 .show b<(s.heap.push _).objs.size;rw[jk];rcases aK.mp f with rfl|f
  .exact fP _
  rw[aR.mp f];exact nz l
 .rw[a_,<-d];exact nv.mpr g
 obtain⟨t,rfl⟩:=pq c _ v x;obtain⟨B,C⟩:=wx ns g;have e:its.toArray.size-1=ns.length-1:=by rw[a_,d]
 rw[e];exact⟨.int _,H,I.kept (t':=tk) λb o e=>y b o (λz=>by rw[aR.mp z] at e;exact absurd (aE e) (de _)) (aI _ e),⟨t,rfl⟩,q _ B C⟩
end
end L2
end
section
namespace L2
open PySem PySem.Spec PyProof.Rows
section
def E6:List V->Hp->VK->Prop:=λxs H Q=>∃j:Int,xs=[.int j]/\∀r,H r=none->Q (.ref r) (upd H r (.rng 0 j))
theorem AI:cu X (.type "range") E6:=by intro NI s Z H xs us Q I r h;obtain⟨j,rfl,q⟩:=h;obtain⟨u,rfl,t,rfl⟩:=Vals.one r;refine call_range_1 ⟨.ref s.heap.objs.size,upd H s.heap.objs.size (.rng 0 j),I.laid (t':=s.toks+1+1) (λb o e=>aI _ e) (ak _) ⟨_,_,_,bq _ rfl⟩,rfl,q _ (I.hok.fresh (ak _))⟩
def Dp:List V->Hp->VK->Prop:=λxs H Q=>∃(a:Addr)(n:Nat),xs=[.ref a]/\H a=some (.rng 0 (n:Int))/\n<=1000/\∀l,H l=none->Q (.ref l) (upd H l (.lst ((List.range n).map λ(i:Nat)=>V.int (i:Int))))
theorem uE(a:us.length=xs.length)(h:∀(j:Nat)(v:Value),us[j]?=some v->∃x,xs[j]?=some x/\az x v):Vals xs us:=by
 induction xs generalizing us with
 |nil=>cases us with
  |nil=>exact .nil
  |cons _ _=>simp at a
 |cons x xs b=>cases us with
  |nil=>simp at a
  |cons u us=>
   obtain⟨y,e,r⟩:=h 0 u rfl;cases e;exact .cons r (b (by simpa using a) λj v e=>by simpa using h (j+1) v (by simpa using e))
theorem AU(f:X.calm=true):cu X (.type "list") Dp:=by
 intro NI s Z H xs us Q I r h;obtain⟨a,n,rfl,ha,A,q⟩:=h;obtain⟨u,rfl,g⟩:=Vals.one r;cases g;obtain⟨l,m,o,e⟩:=(show aV X.prog X.w H s.heap a (.rng 0 (n:Int)) from I.hok a _ ha);have p:IsRange s.heap a 0 (n:Int) 1 l m o:=e;have hsz:Builtin.Range.rangeSize 0 (n:Int) 1=(n:Nat):=by rw[rangeSize_one];split<;>lia
 refine call_list_range (I.ok.hd f) p (small_one (by lia) (by lia) (by lia) (by lia)) hsz (by lia) λh' tk acc c kp x it=>?_;have b:s.heap.objs.size<=s.heap.objs.size:=ak _;refine⟨.ref s.heap.objs.size,upd H s.heap.objs.size (.lst ((List.range n).map λ(i:Nat)=>V.int (i:Int))),I.laid (t':=tk) kp b ⟨by simp;rw[dg];lia,acc.toList,c,uE (by simp[it.1]) λj v d=>?_,by rw[x]⟩,rfl,q _ (I.hok.fresh b)⟩;obtain⟨tv,y⟩:=it.2 j v (by simpa using d);have z:j<n:=by have:=(aG.mp d).1;rw[fY,it.1] at this;exact this
 refine⟨.int (j:Int),by simp[z],tv,?_⟩;rw[y];simp
def rAll(K:W.Frag):List V->Hp->VK->Prop:=λxs H Q=>∃(a:Addr)(bs:List Bool),xs=[.ref a]/\SqL K H a (bs.map V.bl)/\Q (.bl (bs.all id)) H
theorem AW(m:X.calm=true):cu X (.builtin "all") (rAll []):=by
 intro NI s Z H xs us Q I r h;obtain⟨a,bs,rfl,n,q⟩:=h;obtain⟨u,rfl,w⟩:=Vals.one r;cases w;obtain⟨its,g,p,E⟩:=I.list n;have j:=g.length;rw[ao] at j;have c:=p.isList;have y:a<s.heap.objs.size:=by obtain⟨_,e,_⟩:=c;exact aE e
 refine call_all_walk (qk c ?_);refine⟨s.heap.objs.size,_,_,_,_,_,(λi=>bs.getD i false),rfl,Aj (A:=X.A.in1) (I.ok.hd m) _ a (bc y) its.toArray,⟨⟨_,bq _ rfl,rfl,rfl⟩,c.push _⟩,λi v s' K L B d=>?_,λh' tk C=>?_⟩
 .obtain⟨x,l,f⟩:=lr g (i:=i) (v:=v) (by simpa using B);rw[aY] at l;obtain⟨b,D,rfl⟩:=bW.mp l;cases f;have:bs.getD i false=b:=by rw[List.getD,D];rfl
  dsimp only at d;rw[this] at d;exact gY d
 have e:(List.range its.toArray.size).all (λi=>bs.getD i false)=bs.all id:=by
  rw[a_,<-j];have f:bs=(List.range bs.length).map λi=>bs.getD i false:=by refine tF (by simp) λi h1 h2=>?_;simp[h1]
  conv=>rhs;rw[f,Kp]
  rfl
 rw[e];exact⟨.bl _,H,I.kept (t':=tk) λb o e=>C b o (λz=>by rw[aR.mp z] at e;exact absurd (aE e) (de _)) (aI _ e),rfl,q⟩
def B2:List V->Hp->VK->Prop:=λxs H Q=>∃(a:Addr)(kvs:List (Key×V)),xs=[.ref a]/\Rd H a (.dK kvs)/\∀p,H p=none->Q (.ref p) (upd H p (.dK kvs))
theorem AK:cu X (.type "dict") B2:=by intro NI s Z H xs us Q I r h;obtain⟨a,kvs,rfl,ha,q⟩:=h;obtain⟨u,rfl,b⟩:=Vals.one r;cases b;exact Eo I ha λp s' c d=>⟨.ref p,_,d,rfl,q p c⟩
end
mutual
inductive Dt (K:W.Frag) (H:Hp):V->PyData->Prop
 |non:Dt K H .non .none
 |bl (b:Bool):Dt K H (.bl b) (.bool b)
 |int (i:Int):Dt K H (.int i) (.int i)
 |str (x:Str) (h:(PyData.str x).canLay0=true):Dt K H (.str x) (.str x)
 |lst {a:Addr} {xs:List V} {ds:List PyData} (h:SqL K H a xs) (r:Dts K H xs ds):Dt K H (.ref a) (.list ds)
 |tup {a:Addr} {xs:List V} {ds:List PyData} (h:SqT K H a xs) (r:Dts K H xs ds):Dt K H (.ref a) (.tuple ds)
inductive Dts (K:W.Frag) (H:Hp):List V->List PyData->Prop
 |nil:Dts K H [] []
 |cons {x:V} {d:PyData} {xs:List V} {ds:List PyData} (h:Dt K H x d) (r:Dts K H xs ds):Dts K H (x::xs) (d::ds)
end
section
theorem Dts.reads(I:Inv X NI Z H s)(ds:List PyData)(xs:List V)(us:List Value)(h:Dts [] H xs ds)(r:Vals xs us):∃as,ReadsAll s.heap us ds as:=
 Dts.rec (motive_1:=λv d _=>∀u,az v u->∃as,Reads s.heap u d as) (motive_2:=λxs ds _=>∀us,Vals xs us->∃as,ReadsAll s.heap us ds as)
  (λu r=>by cases r;exact⟨_,.none⟩) (λb u r=>by cases r;exact⟨_,.bool b⟩) (λi u r=>by obtain⟨t,rfl⟩:=r;exact⟨_,.int i t⟩) (λx _ u r=>by obtain⟨t,rfl⟩:=r;exact⟨_,.str x t⟩)
  (λh _ a u r=>by
   cases r;obtain⟨its,f,⟨o,n,e,c,_,dd⟩,_⟩:=I.list h;obtain⟨as,q⟩:=a _ f;exact⟨_,.list e c dd (by simpa using q)⟩)
  (λh _ a u r=>by
   cases r;obtain⟨its,f,⟨o,e,c,n,dd⟩,_⟩:=I.tuple h;obtain⟨as,q⟩:=a _ f;exact⟨_,.tuple e c dd (by simpa using q)⟩)
  (λu r=>by cases r;exact⟨_,.nil⟩)
  (λ_ _ a g us r=>by
   cases r with
   |cons r rs=>
    obtain⟨as,q⟩:=a _ r;obtain⟨bs,p⟩:=g _ rs;exact⟨_,.cons q p⟩) h us r
theorem Dt.reads(I:Inv X NI Z H s)(d:PyData)(v:V)(u:Value)(h:Dt [] H v d)(r:az v u):∃as,Reads s.heap u d as:=by
 obtain⟨as,q⟩:=Dts.reads I _ _ _ (.cons h .nil) (.cons r .nil);cases q with
 |cons q _=>exact⟨_,q⟩
theorem Dts.can(ds:List PyData)(xs:List V)(h:Dts K H xs ds):PyData.canLayAll0 ds=true:=
 Dts.rec (motive_1:=λv d _=>d.canLay0=true) (motive_2:=λxs ds _=>PyData.canLayAll0 ds=true) rfl (λ_=>rfl) (λ_=>rfl) (λ_ h=>h) (λ_ _ a=>a) (λ_ _ a=>a) rfl
  (λ_ _ a b=>by rw[PyData.canLayAll0,a,b];rfl) h
theorem Dt.can(d:PyData)(v:V)(h:Dt K H v d):d.canLay0=true:=by
 have:=Dts.can _ _ (.cons h .nil)
 rwa [PyData.canLayAll0,PyData.canLayAll0,Bool.and_true] at this
mutual
def fD:PyData->Bool
 |.bool _=>false
 |.list ds=>eR ds
 |.tuple ds=>eR ds
 |.dict _=>false
 |_=>true
def eR:List PyData->Bool
 | []=>true
 |d::ds=>fD d&&eR ds
end
mutual
theorem xy:∀(d e:PyData),fD d=true->fD e=true->(PyData.eqv d e=true↔d=e)
 |.none,e,_,h=>by cases e<;>simp[PyData.eqv]
 |.bool b,_,h,_=>nomatch h
 |.int i,e,_,h=>by
  cases e with
  |bool _=>exact nomatch h
  |_=>simp[PyData.eqv]
 |.str i,e,_,h=>by
  cases e with
  |bool _=>exact nomatch h
  |_=>simp[PyData.eqv]
 |.list xs,e,h1,h=>by
  cases e with
  |list ys=>rw[PyData.eqv,qx xs ys h1 h];simp
  |_=>simp[PyData.eqv]
 |.tuple xs,e,h1,h=>by
  cases e with
  |tuple ys=>rw[PyData.eqv,qx xs ys h1 h];simp
  |_=>simp[PyData.eqv]
 |.dict _,_,h,_=>nomatch h
theorem qx:∀(ds es:List PyData),eR ds=true->eR es=true->(PyData.eqvAll ds es=true↔ds=es)
 | [],[],_,_=>by simp[PyData.eqvAll]
 | [],_::_,_,_=>by simp[PyData.eqvAll]
 |_::_,[],_,_=>by simp[PyData.eqvAll]
 |d::ds,e::es,h1,h2=>by
  have a:fD d=true/\eR ds=true:=by simpa [eR] using h1
  have b:fD e=true/\eR es=true:=by simpa [eR] using h2
  rw[PyData.eqvAll,eF,xy d e a.1 b.1,qx ds es a.2 b.2];simp
end
def JC(K:W.Frag)(neg:Bool)(x y:V)(H:Hp)(Q:VK)(d e:PyData):Prop:=Dt K H x d/\Dt K H y e/\d.depth<=60/\Q (.bl (if neg then !PyData.eqv d e else PyData.eqv d e)) H
def pM(K:W.Frag)(neg:Bool):R2:=λx y H Q=>Exists (Ex2 (JC K neg x y H Q))
theorem min60{u a b:Nat}(h:u+64<cLine)(h':a<=60):u+min a b<cLine:=by have:min a b<=a:=Nat.min_le_left _ _;lia
theorem mn(a:X.A.units+64<cLine):OpR X (compareOp .Eq) (pM [] false):=by intro NI s Z H x y v u Q I b c h;obtain⟨d,e,hd,he,f,q⟩:=h;obtain⟨as,g⟩:=Dt.reads I d x v hd b;obtain⟨bs,i⟩:=Dt.reads I e y u he c;exact M8 g i (Dt.can d x hd) (Dt.can e y he) (min60 a f) ⟨.bl _,H,I,rfl,q⟩
theorem rX(a:X.A.units+64<cLine):OpR X (compareOp .NotEq) (pM [] true):=by intro NI s Z H x y v u Q I b c h;obtain⟨d,e,hd,he,f,q⟩:=h;obtain⟨as,g⟩:=Dt.reads I d x v hd b;obtain⟨bs,i⟩:=Dt.reads I e y u he c;exact M9 g i (Dt.can d x hd) (Dt.can e y he) (min60 a f) ⟨.bl _,H,I,rfl,q⟩
def JA(K:W.Frag)(neg:Bool)(x y:V)(H:Hp)(Q:VK)(d:PyData)(a:Addr)(xs:List V)(ds:List PyData):Prop:=Dt K H x d/\y=.ref a/\(SqL K H a xs\/SqT K H a xs)/\Dts K H xs ds/\d.depth<=60/\
 Q (.bl (if neg then !(ds.any λz=>PyData.eqv z d) else ds.any λz=>PyData.eqv z d)) H
def sQ(K:W.Frag)(neg:Bool):R2:=λx y H Q=>Exists (Ex4 (JA K neg x y H Q))
theorem min61{u a b:Nat}(h:u+64<cLine)(h':b<=60):u+1+min a b<cLine:=by have:min a b<=b:=KN _ _;lia
theorem rY(f:X.A.units+64<cLine):OpR X (compareOp .In) (sQ [] false):=by
 intro NI s Z H x y v u Q I j l h;obtain⟨d,a,xs,ds,hd,rfl,b,c,g,q⟩:=h;cases l;obtain⟨as,i⟩:=Dt.reads I d x v hd j;rcases b with b|b
 .obtain⟨bs,e⟩:=Dt.reads I (.list ds) (.ref a) _ (.lst b c) rfl;exact Na e i (Dts.can ds _ c) (Dt.can d x hd) (min61 f g) ⟨.bl _,H,I,rfl,q⟩
 obtain⟨bs,e⟩:=Dt.reads I (.tuple ds) (.ref a) _ (.tup b c) rfl;exact Nb e i (Dts.can ds _ c) (Dt.can d x hd) (min61 f g) ⟨.bl _,H,I,rfl,q⟩
end
end L2
end
section
namespace L2
open PySem PySem.Spec PyProof.Rows
section
theorem Inv.turnLaid{h':Heap}{t':Nat}{a:Addr}{o:HO}{ch:List Addr}(I:Inv X NI Z H s)(h:∀b∈ch,cU X NI H b)(k:∀b o,b∉ch->s.heap.get? b=some o->h'.get? b=some o)
  (ha:s.heap.get? a=none) (new:∀H',aV X.prog X.w H' h' a o):Inv X NI Z (upd H a o) {s with heap:=h',toks:=t'}:=by
 have f:H a=none:=I.hok.none_of ha;have i:∀b u,H b=some u->b∉ch:=λb u e z=>by
  have:=(h b z).1;rw[this] at e;cases e
 refine I.step (g':=s.gens) (d':=s.drawn) (ch:=ch) (λb g=>?_) (λb o _ _ d e _=>k b o d e) (λb o _ _ d e _=>⟨o.slots,k b o d e⟩) (λb o _ e n=>?_) (λb o d e=>⟨o,k b o d e⟩) (λb xs e=>?_) (λb o u e=>?_) (λb ps e=>⟨#[],?_⟩) (λm hm=>?_) (λb u e=>?_) I.bare
 .obtain⟨_,j,_,l,p,x⟩:=h b g;exact⟨l,j,p,x⟩
 .rw[ar (λz=>by rw[z,ha] at e;cases e)];exact n
 .rw[ar (aq e f)];exact e
 .rw[ar (aq e f)];exact e
 .rw[ar (aq e f),e];simp
 .obtain⟨o,es,ep,y,r⟩:=hm;exact⟨o,es,ep,k _ o (λz=>(h _ z).2.1 rfl) y,r⟩
 by_cases g:b=a
 .subst g;rw[aP] at e;cases e;exact new _
 rw[ar g] at e;refine (I.hok b u e).stay (λc v d q=>k c v ?_ q) (λc q=>by rw[ar (aq q f)];exact q) λc xs q=>by rw[ar (aq q f)];exact q
 rcases d with z|z
 .rw[z];exact i b u e
 exact i c _ z
end
def Ite(K:W.Frag)(a:Addr):It:=
 ⟨λi H=>∃xs x,SqL K H a xs/\xs[i]?=some x,
  λi H v H'=>∃p x,H p=none/\v=.ref p/\H'=upd H p (.tup [.int (i:Int),x])/\∀xs,SqL K H a xs->xs[i]?=some x,
  λi H=>∃xs,SqL K H a xs/\xs.length<=i⟩
theorem BP{elts:List Expr}{N}{pos:Pos}(a it e:Addr)(B:e≠it) :
  Turn P w K (.Tuple elts N pos) (Ite [] a) [e,it] e (λi h=>(∃old,IsEnum h e it (i:Int) old)/\h.IsListIter it a i) where
 mem:=by simp
 obj:=λi h st b g=>by
  obtain⟨⟨old,f⟩,o,O,c,d⟩:=st;rcases aK.mp g with z|z
  .subst z;exact⟨_,f,λv z=>by
    have Q:Data.fields _=Data.cell v:=z;cases Q⟩
  have z:b=it:=by simpa using z
  subst z;exact⟨o,O,λv z=>by rw[d] at z;cases z⟩
 keep:=λi h h' st k=>by
  obtain⟨⟨old,f⟩,j⟩:=st;exact⟨⟨old,k e (by simp) _ f⟩,j.at λo q=>k it (by simp) o q⟩
 item:=by
  intro X n hw r C i NI s Z H E I hf st y;subst n hw r;obtain⟨xs,x,m,hx⟩:=y;obtain⟨⟨old,f⟩,j⟩:=st;obtain⟨its,A,p,R⟩:=I.list m;obtain⟨u,S,T⟩:=A.get hx;refine wpAny_pyNext_enum_item f j p.isList (x:=u) (by simpa using S) B λh1 U Y ab au ad=>?_;refine⟨_,rfl,?_⟩;refine wpAny_letOwnedTupleGo_enum U λh2 al l=>?_;replace l:Heap.SameBut e h1 h2:=l;have am:s.heap.get? s.heap.objs.size=none:=ni (ak _);have D:e<s.heap.objs.size:=aE f;have an:it<s.heap.objs.size:=by obtain⟨_,q,_⟩:=j;exact aE q
  have hn:H s.heap.objs.size=none:=I.hok.fresh (ak _);have L:h2.get? s.heap.objs.size=some {cls:=.type "tuple",data:=.seq #[.int i s.toks,u]}:=(l.2 _ (jr D)).trans ab;have I2:Inv X NI Z (upd H s.heap.objs.size (.tup [.int (i:Int),x])) {s with heap:=h2,toks:=s.toks+1}:=by
   refine I.turnLaid (ch:=[e,it]) hf (λb o g q=>?_) am λH'=>?_
   .have M:b≠e:=λz=>g (by simp[z]);have ap:b≠it:=λz=>g (by simp[z]);exact (l.2 b M).trans (ad b o M ap q)
   exact⟨⟨by simp;rw[dg];lia,_,L,rfl⟩,[.int i s.toks,u],.cons ⟨_,rfl⟩ (.cons T .nil),⟨_,L,rfl,_,rfl⟩⟩
  refine⟨.ref s.heap.objs.size,_,I2,rfl,⟨s.heap.objs.size,x,hn,rfl,rfl,λys hy=>by rw[I.list_inj hy m];exact hx⟩,⟨⟨_,al⟩,?_⟩,λb g=>?_⟩
  .obtain⟨o,q1,q2⟩:=Y;exact⟨o,(l.2 it (aB B)).trans q1,q2⟩
  have:b≠s.heap.objs.size:=by
   rcases aK.mp g with z|z
   .rw[z];exact bc D
   rw[(by simpa using z:b=it)];exact bc an
  rw[ar this];exact (hf b g).1
 done:=by intro X n hw r C i NI s Z H E I hf st y;subst n hw r;obtain⟨xs,m,hx⟩:=y;obtain⟨⟨old,f⟩,j⟩:=st;obtain⟨its,A,p,R⟩:=I.list m;obtain⟨f0,f1,f2,f3,f4,f5⟩:=hf it (by simp);have hl:=A.length;exact wpAny_pyNext_enum_end (I.ok.hd C) f j p.isList (by simp;lia) λh' eb=>⟨rfl,I.turned (t':=s.toks) (λb o g q=>eb b o g q) f0 f1 f3 f4 f5⟩
 self:=λ_ _ _ _ _ st h=>by
  obtain⟨⟨old,f⟩,_⟩:=st;exact Mh f h
section
def Ic(K:W.Frag)(R:It->Hp->Prop)(vs:List V)(H1:Hp)(a:Addr)(xs:List V):Prop:=vs=[.ref a]/\SqL K H1 a xs/\R (Ite K a) H1
def Ib(K:W.Frag)(R:It->Hp->Prop):List V->Hp->Prop:=λvs H1=>Exists (Ex2 (Ic K R vs H1))
def JO(K:W.Frag)(ta:TA):TI:=λZ H R=>ta Z H (Ib K R)
theorem lJ{elts:List Expr}{f}{tpos:Pos}{a:Expr}{ta:TA}{p pos:Pos}(g:Gl X "enumerate")(hm:X.mg "enumerate" = none)(ha:PA X [a] ta)(i:starEach [a] X.env=[(false,eval a X.env)]:=by rfl) :
  PI X (.Tuple elts f tpos) (.Call (.Name "enumerate" p) [a] [] pos) (JO [] ta):=by
 intro NI s Z H R I h;refine Call_ (mv I g hm boot_enumerate (z9 (thn (ha pos NI s Z H _ I h) λus s1 ⟨vs,H1,c,j,l⟩=>?_) i rfl));obtain⟨a,xs,e,m,q⟩:=l;subst e;obtain⟨u,rfl,n⟩:=Vals.one j;cases n;obtain⟨its,w,pl,x⟩:=c.list m;refine call_enumerate_list pl.isList λh' he hi hsz o=>?_;refine Mh he ?_;have r:Inv X NI Z H1 {s1 with heap:=h'}:=c.kept (t':=s1.toks) o;refine⟨_,[s1.heap.objs.size+1,s1.heap.objs.size],_,_,H1,rfl,r,BP a _ _ (Nat.succ_ne_self _),⟨⟨.none,he⟩,hi⟩,λb v=>?_,q⟩;have d:s1.heap.objs.size<=b:=by
  rcases aK.mp v with z|z
  .rw[z];exact ko _
  have:b=s1.heap.objs.size:=by simpa using z
  exact tV this.symm
 exact c.fpOk d (c.hok.fresh d)
end
end L2
end
section
namespace L2
open PySem PySem.Spec PyProof.Rows PySem.W
section
variable {prog:Program}{d it v:Addr}{es:Array DictEntry}{ep i:Nat}
theorem Iq{Q:Value->Shared->Prop}(a:s.heap.IsItemsView v d)(m:DAt s.heap d es ep)
  (q:Q (.ref s.heap.objs.size) {s with heap:=s.heap.push {cls:=.type "dict_itemiterator",data:=.fields #[.none,.bool false,.ref d,.int 0 0,.int es.size 0,.int ep 0,.none,.none]}}):wpAny (model prog w) A (pyIter (.ref v)) Q E s:=by
 obtain⟨g,e,_,f⟩:=id a;obtain⟨o,b,_,c⟩:=id m;refine Mj a.typeIs Le (gX Le a.typeIs PySem.F.entry_dict_items_iter ?_ (PySem.F.args_dict_items_iter_1 _));unfold Builtin.«dict_items.__iter__» Builtin.Dict_items.dictOf Builtin.Dict_items.newIterator;refine aa (ag (aa (aa (cW e f (x:=.ref d) rfl (ag (aa (aa (nN b c (aa (nP b c ?_))))))))));simp only[show Builtin.Dict_items.ownsTuple "dict_itemiterator" = true by decide,if_true];refine dZ (ag ⟨_,rfl,"dict_itemiterator",_,⟨_,bq _ rfl,rfl⟩,qc.lookup,by simpa [rawInt,Builtin.Dict_items.ownedTupleFields] using q⟩)
  (by simp only[sizeOk,Builtin.Dict_items.ownedTupleFields,a_,aL,bz,gI];rw[dg];lia)
theorem Ip{x y:Value}{Q:Option Value->Shared->Prop}(hit:IsItemIter s.heap it d i es.size ep x y)(m:DAt s.heap d es ep)(hi:i<es.size)
  (q:∀h',IsItemIterOut h' it d (i+1) es.size ep es[i].key es[i].val s.heap.objs.size->h'.get? s.heap.objs.size=some {cls:=.type "tuple",data:=.seq #[es[i].key,es[i].val]}->
   (∀b o,b≠it->s.heap.get? b=some o->h'.get? b=some o)->Q (some (.ref s.heap.objs.size)) {s with heap:=h'}):wpAny (model prog w) A (pyNext (.ref it)) Q E s:=by
 obtain⟨a,g,f,tk,os⟩:=s;obtain⟨od,L,_,M⟩:=id m;have ty:Shared.TypeIs ⟨a,g,f,tk,os⟩ (.ref it) "dict_itemiterator":=⟨_,hit,rfl⟩;unfold pyNext;refine aa (jx (nM (name:=Str.ofString "__next__") ty qc (gX qc ty K_ ?tree (K6 _))));refine aa (ag (aa (aa ?_)))
 first|refine aa (uh ty (ag (aa (jA hit rfl ?_))))|refine aa (uj ty (ag (aa (jA hit rfl ?_))))
 simp only[show Builtin.Dict_items.ownsTuple "dict_itemiterator" = true by decide,if_true];refine (show wpAny _ _ (if (Value.ref d==Value.none)=true then _ else _) _ _ _ from ?_);rw[NC (show ¬(Value.ref d==Value.none)=true from bu)];refine aa (ag (aa (nN L M ?_)));rw[NC (by simp)];refine aa (ag (aa (nP L M ?_)));rw[NC (by simp)];refine ag ?_;simp only[show ¬((i:Int)<0) by lia,if_false,iF,sT hi];refine aa ?_
 first|refine aa (uh ty (ag (aa (ue ty ?_))))|refine aa (uj ty (ag (aa (ue ty ?_))))
 refine (show wpAny _ _ (setField (.ref it) 3 (rawInt ((i:Int)+1)) >>= _) _ _ ⟨a,g,f,tk,os⟩ from aa (ql hit (by simp) λh1 h j=>?_));replace j:Heap.SameBut it a h1:=j;replace h:IsItemIter h1 it d (i+1) es.size ep x y:=by unfold IsItemIter;rw[show ((i+1:Nat):Int)=(i:Int)+1 by lia];simpa [rawInt] using h
 have N:Shared.TypeIs ⟨h1,g,f,tk,os⟩ (.ref it) "dict_itemiterator":=⟨_,h,rfl⟩;refine aa (cH (aa (ue N (aa (ue N ?_)))));refine (show wpAny _ _ (Builtin.Dict_items.pairFromOwner (.ref it) 6 es[i].key es[i].val) _ _ ⟨h1,g,f,tk,os⟩ from ?_);unfold Builtin.Dict_items.pairFromOwner;refine aa (Mf ?_);have O:h1.objs.size=a.objs.size:=j.1;have lt:it<a.objs.size:=aE hit;have ne:a.objs.size≠it:=jr lt;obtain⟨h2,l,P,k2,R⟩:∃h2:Heap,IsItemIter h2 it d (i+1) es.size ep x y/\h2.get? a.objs.size=some {cls:=.type "tuple",data:=.seq #[es[i].key,es[i].val]}/\(∀b o,b≠it->a.get? b=some o->h2.get? b=some o)/\
   h1.push {cls:=.type "tuple",data:=.seq #[es[i].key,es[i].val]}=h2:=
  ⟨_,aI _ h,by rw[<-O];exact bq _ rfl,λb o c e=>aI _ (j.extBut b o c e),rfl⟩
 refine (show wpAny _ _ (Builtin.Dict_items.ownedTupleIsFree (.ref it) >>= _) _ _ ⟨h1.push {cls:=.type "tuple",data:=.seq #[es[i].key,es[i].val]},g,f,tk,os⟩ from ?_);rw[O,R];unfold Builtin.Dict_items.ownedTupleIsFree;refine aa (aa (cW l rfl (x:=.none) rfl (ag ?_)));simp only[if_true];refine aa (cW l rfl (x:=x) rfl (aa (cW l rfl (x:=y) rfl (aa (ql l (by simp) λp r u=>?_)))));replace u:Heap.SameBut it h2 p:=u;replace r:IsItemIter p it d (i+1) es.size ep es[i].key y:=r;refine aa (ql r (by simp) λv z B=>?_);replace B:Heap.SameBut it p v:=B;replace z:IsItemIter v it d (i+1) es.size ep es[i].key es[i].val:=z;refine aa (ql z (by simp) λC D H=>?_);replace H:Heap.SameBut it v C:=H;replace D:IsItemIterOut C it d (i+1) es.size ep es[i].key es[i].val a.objs.size:=D;refine aa (ql D (by simp) λn I K=>?_);replace K:Heap.SameBut it C n:=K;replace I:IsItemIterOut n it d (i+1) es.size ep es[i].key es[i].val a.objs.size:=I;have up:∀b o,b≠it->h2.get? b=some o->n.get? b=some o:=λb o c e=>K.extBut b o c (H.extBut b o c (B.extBut b o c (u.extBut b o c e)));exact aa (qj (ag (ag ⟨_,rfl,ag (q n I (up _ _ ne P) λb o c e=>up b o c (k2 b o c e))⟩)))
theorem JW{x y:Value}{Q:Option Value->Shared->Prop}(f:A.handled=none)(hit:IsItemIter s.heap it d i es.size ep x y)(m:DAt s.heap d es ep)(hi:es.size<=i)
  (q:∀h',Heap.ExtBut it s.heap h'->Q none {s with heap:=h'}):wpAny (model prog w) A (pyNext (.ref it)) Q E s:=by
 obtain⟨od,c,_,e⟩:=id m;have ty:s.TypeIs (.ref it) "dict_itemiterator":=⟨_,hit,rfl⟩;unfold pyNext;refine aa (jx (nM (name:=Str.ofString "__next__") ty qc (gX qc ty K_ ?tree (K6 _))));refine aa (ag (aa (aa ?_)))
 first|refine aa (uh ty (ag (aa (jA hit rfl ?_))))|refine aa (uj ty (ag (aa (jA hit rfl ?_))))
 simp only[show Builtin.Dict_items.ownsTuple "dict_itemiterator" = true by decide,if_true];refine (show wpAny _ _ (if (Value.ref d==Value.none)=true then _ else _) _ _ s from ?_);rw[NC (show ¬(Value.ref d==Value.none)=true from bu)];refine aa (ag (aa (nN c e ?_)));rw[NC (by simp)];refine aa (ag (aa (nP c e ?_)));rw[NC (by simp)];refine ag ?_;simp only[show ¬((i:Int)<0) by lia,if_false,iF,J4 hi];refine aa ?_
 first|refine aa (uh ty (ag ?_))|refine aa (uj ty (ag ?_))
 refine (show wpAny _ _ (setField (.ref it) 2 .none >>= _) _ _ s from aa (eZ hit rfl (by simp) ?_));refine (show wpAny _ _ (newExc (.type "StopIteration") [] >>= _) _ _ _ from aa ?_);simp only[newExc,newTuple];refine aa (dZ (aa (m:=firstArgMember _ _) (ku (a:=Value.none) (by first|rfl|(simp only[firstArgMember];rfl)) (dZ ?_ (by size_fits)))) (by size_fits));simp only[raiseNew];refine aa (wpAny_handled ?_);rw[show A.in1.handled=none from f];refine aa (ag (Ay ?_));refine aa (Mb (b:=true) (T:="StopIteration") ⟨_,bq _ rfl,rfl⟩ LJ ?_);exact ag (q _ (((zu ..).extBut.push _).push _))
end
section
variable {d:Addr}{u:HO}
def dS:HO->Prop
 |.dK _=>True
 |.dT _=>True
 |_=>False
theorem dS.notT{u:HO}(h:dS u):(∀xs,u≠.tup xs)/\(∀o v,u≠.frz o v)/\(∀ps,u≠.tbl ps)/\∀y,u≠.own y:=by cases u<;>first|exact False.elim h|exact⟨λ_ z=>(nomatch z),λ_ _ z=>(nomatch z),λ_ z=>(nomatch z),λ_ z=>(nomatch z)⟩
theorem Inv.freeze(I:Inv X NI Z H s)(hd:H d=some u)(g:dS u){o:Obj}(h:s.heap.get? d=some o):Inv X NI Z (upd H d (.frz o u)) s:=by
 obtain⟨a,i,j,l⟩:=g.notT;have ne:∀{b v},H b=some v->v≠u->b≠d:=λe z y=>z (by rw[y,hd] at e;exact (cN e).symm);refine I.step (h':=s.heap) (g':=s.gens) (d':=s.drawn) (t':=s.toks) (ch:=[]) (λ_ z=>nomatch z) (λb o _ _ _ e _=>e) (λb o _ _ _ e _=>⟨o.slots,e⟩) (λb o _ _ n=>?_) (λb o _ e=>⟨o,e⟩) (λb xs e=>?_) (λb o v e=>?_) (λb ps e=>⟨#[],?_⟩) (λ_ m=>m) (λb v e=>?_) I.bare
 .rw[ar (λz=>by rw[z,hd] at n;cases n)];exact n
 .rw[ar (ne e λz=>a xs z.symm)];exact e
 .rw[ar (ne e λz=>i o v z.symm)];exact e
 .rw[ar (ne e λz=>j ps z.symm),e];simp
 have st:∀{b v},aV X.prog X.w H s.heap b v->aV X.prog X.w (upd H d (.frz o u)) s.heap b v:=λx=>
  x.stay (λ_ _ _ q=>q) (λc q=>by rw[ar (ne q λz=>l _ z.symm)];exact q) λc xs q=>by rw[ar (ne q λz=>a xs z.symm)];exact q
 by_cases f:b=d
 .subst f;rw[aP] at e;cases e;exact⟨h,st (I.hok _ _ hd)⟩
 rw[ar f] at e;exact st (I.hok b v e)
def Fz(H H2:Hp)(d:Addr)(o:Obj)(u:HO):Prop:=(H d=some u\/H d=some (.frz o u))/\dS u/\H2=upd H d (.frz o u)
theorem Fz.at{H2:Hp}{o:Obj}(f:Fz H H2 d o u):H2 d=some (.frz o u):=by rw[f.2.2,aP]
theorem Fz.ne{H2:Hp}{o:Obj}{b:Addr}(f:Fz H H2 d o u)(h:b≠d):H2 b=H b:=by rw[f.2.2,ar h]
theorem Inv.fz(I:Inv X NI Z H s)(hd:Rd H d u)(a:dS u):∃o,s.heap.get? d=some o/\Fz H (upd H d (.frz o u)) d o u/\Inv X NI Z (upd H d (.frz o u)) s:=by
 rcases hd with hd|⟨o,hd⟩
 .obtain⟨o,c⟩:=(I.hok d u hd).there;exact⟨o,c,⟨.inl hd,a,rfl⟩,I.freeze hd a c⟩
 have e:upd H d (.frz o u)=H:=by
  funext b;unfold upd;split
  .rename_i z;rw[z,hd]
  rfl
 exact⟨o,(I.hok d _ hd).1,⟨.inr hd,a,rfl⟩,by rw[e];exact I⟩
def DKV(H:Hp)(u:HO)(ks vs:List V):Prop:=
 (∃kvs,u=.dK kvs/\ks=kvs.map (λp=>kV p.1)/\vs=kvs.map (·.2)) \/
 ∃kvs as,u=.dT kvs/\Paired (λ(p:List Key×V) a=>H a=some (.tup (p.1.map kV))) kvs as/\ks=as.map V.ref/\vs=kvs.map (·.2)
theorem mw(I:Inv X NI Z H s)(hd:Rd H d u)(v:dS u) :
  (d==sysModules)=false/\∃ks vs es ep,DKV H u ks vs/\ks.length<=sizeLine/\DAt s.heap d es ep/\Vals ks (es.toList.map (·.key))/\Vals vs (es.toList.map (·.val)):=by
 cases u<;>first|exact False.elim v|skip
 case dK kvs=>
  obtain⟨z,lo,us,rel,o,es,ep,h1,h2,e,_,m,_⟩:=eU I.hok hd;refine⟨lo,_,_,es,ep,.inl ⟨kvs,rfl,rfl,rfl⟩,by rw[ao];exact z,⟨o,h1,h2,e⟩,?_⟩;generalize es.toList=l at m;have go:∀{kvs:List (Key×V)}{us:List (Key×Value)}{l:List DictEntry},KV kvs us->Pairs (cG X.prog X.w) l us->Vals (kvs.map λp=>kV p.1) (l.map (·.key))/\Vals (kvs.map (·.2)) (l.map (·.val)):=by
   intro kvs us l r;induction r generalizing l with
   |nil=>intro p;cases p;exact⟨.nil,.nil⟩
   | @cons a b E K h1 h2 c=>
    intro p;cases p with
    |cons y p2 A=>
     obtain⟨B,C⟩:=c A;refine⟨.cons ?_ B,.cons ?_ C⟩
     .dsimp only;rw[h1.1];rcases e8 y with ⟨i,t,f,g⟩|⟨x,t,f,g⟩
      .rw[f,g];exact⟨t,rfl⟩
      rw[f,g];exact⟨t,rfl⟩
     dsimp only;rw[p2];exact h1.2
  exact go rel m
 case dT kvs=>
  obtain⟨z,lo,xs,rel,o,es,ep,h1,h2,e,h,D⟩:=iA I.hok hd;clear D;have go:∀{kvs:List (List Key×V)}{xs:List (List Key×Addr×Value)},KT H kvs xs->Paired (λ(p:List Key×V) a=>H a=some (.tup (p.1.map kV))) kvs (xs.map (·.2.1))/\Vals (kvs.map (·.2)) (xs.map (·.2.2)):=by
   intro kvs xs r;induction r with
   |nil=>exact⟨.nil,.nil⟩
   |cons h1 h2 c=>exact⟨.cons h1.2.1 c.1,.cons h1.2.2 c.2⟩
  obtain⟨j,n⟩:=go rel;have q:=nF j;refine⟨lo,_,_,es,ep,.inr ⟨kvs,_,rfl,j,rfl,rfl⟩,by rw[ao,<-q];exact z,⟨o,h1,h2,e⟩,?_,?_⟩
  .rw[h,bU,bU];clear h rel j n q;induction xs with
   |nil=>exact .nil
   |cons x r c=>exact .cons rfl c
  rw[h,bU];exact n
end
end L2
end
section
namespace L2
open PySem PySem.Spec PyProof.Rows PySem.W
def Itk(d:Addr)(o:Obj)(ks:List V):It:=
 ⟨λi H=>i<ks.length/\∃u,H d=some (.frz o u),λi H x H'=>H'=H/\ks[i]?=some x,λi H=>ks.length<=i/\∃u,H d=some (.frz o u)⟩
theorem oO{d:Addr}{o:Obj}{u:HO}{es:Array DictEntry}{ep:Nat}(I:Inv X NI Z H s)(h:H d=some (.frz o u))(x:o.ExactDict)(e:o.data=.dict es ep):DAt s.heap d es ep:=
 ⟨o,(I.hok d _ h).1,x,e⟩
theorem BO{tg:Expr}{d it:Addr}{o:Obj}{es:Array DictEntry}{ep:Nat}{ks:List V}(x:o.ExactDict)(e:o.data=.dict es ep)(r:Vals ks (es.toList.map (·.key))) :
  Turn P w K tg (Itk d o ks) [it] it (λi h=>h.IsKeyIter it d i es.size ep) where
 mem:=by simp
 obj:=λi h st b a=>by
  have e:b=it:=by simpa using a
  subst e;obtain⟨o,e,c,d⟩:=st;exact⟨o,e,λv z=>by rw[d] at z;cases z⟩
 keep:=λi h h' st k=>st.at λo e=>k it (by simp) o e
 item:=by
  intro X f hw g C i NI s Z H E I hf st j;subst f hw g;obtain⟨hi,u,l⟩:=j;have N:ks.length=es.size:=by have:=r.length;simpa using this
  obtain⟨y,D⟩:∃y,ks[i]?=some y:=⟨ks[i],by simp[hi]⟩;obtain⟨z,m,O⟩:=r.get D;have L:i<es.size:=by lia
  have Q:z=es[i].key:=by rw[aY] at m;simp[L] at m;exact m.symm
  obtain⟨n,p,R,q,A,B⟩:=hf it (by simp);refine zm st (oO I l x e) L λh' M sb=>?_;have S:Inv X NI Z H {s with heap:=h'}:=I.turned (t':=s.toks) (λb o a e=>(sb.2 b a).trans e) n p q A B;obtain⟨o',T,U,d'⟩:=id M;exact⟨_,rfl,mG (s:={s with heap:=h'}) T U d' (by decide) ⟨y,H,S,by rw[<-Q];exact O,⟨rfl,D⟩,M,λb a=>(hf b a).1⟩⟩
 done:=by
  intro X f hw g C i NI s Z H E I hf st j;subst f hw g;obtain⟨hi,u,l⟩:=j;have N:ks.length=es.size:=by have:=r.length;simpa using this
  obtain⟨n,p,R,q,A,B⟩:=hf it (by simp);exact dEnd (I.ok.hd C) st (oO I l x e) (by lia) λh' Y=>⟨rfl,I.turned (t':=s.toks) (λb o a e=>Y b o a e) n p q A B⟩
 self:=λ_ _ _ _ _ st h=>Mi st h
section
variable {tg:Expr}
def JP(td:TE):TI:=λZ H R=>td Z H λx H1=>∃(d:Addr)(u:HO),x=.ref d/\Rd H1 d u/\dS u/\∀ks vs o H2,DKV H1 u ks vs->Fz H1 H2 d o u->R (Itk d o ks) H2
theorem yO{h:Heap}{d:Addr}{es:Array DictEntry}{ep:Nat}{o:Obj}(m:DAt h d es ep)(e:h.get? d=some o):o.ExactDict/\o.data=.dict es ep:=by obtain⟨o',a,x⟩:=m;rw[e] at a;cases a;exact x
theorem Fe{l:Expr}{td:TE}(i:PE X l td):PI X tg l (JP td):=by
 intro NI s Z H R I h;refine thn (i NI s Z H _ I h) λv s1 ⟨x,H1,c,j,m⟩=>?_;obtain⟨d,u,e,hd,f,q⟩:=m;subst e;cases j;obtain⟨lo,ks,vs,es,ep,n,y,g,rk,z⟩:=mw c hd f;obtain⟨o,p,fz,a⟩:=c.fz hd f;obtain⟨ex,r⟩:=yO g p;refine sv lo g ?_;refine⟨s1.heap.objs.size,[s1.heap.objs.size],_,_,_,rfl,a.kept (t':=s1.toks) λb o e=>aI _ e,BO (d:=d) (o:=o) ex r rk,⟨_,bq _ rfl,rfl,rfl⟩,λb w=>?_,q ks vs o _ n fz⟩;have e:b=s1.heap.objs.size:=by simpa using w
 subst e;exact a.fpOk (ak _) (a.hok.fresh (ak _))
end
def pk(v d:Addr):HO:=.ext λh=>h.IsItemsView v d
def Iti(d:Addr)(o:Obj)(ks vs:List V):It:=
 ⟨λi H=>i<ks.length/\∃u,H d=some (.frz o u),
  λi H v H'=>∃p x y,H p=none/\v=.ref p/\H'=upd H p (.tup [x,y])/\ks[i]?=some x/\vs[i]?=some y,λi H=>ks.length<=i/\∃u,H d=some (.frz o u)⟩
theorem Bk{elts:List Expr}{R}{pos:Pos}{d it:Addr}{o:Obj}{es:Array DictEntry}{ep:Nat}{ks vs:List V}(x:o.ExactDict)(e:o.data=.dict es ep)(r:Vals ks (es.toList.map (·.key)))(C:Vals vs (es.toList.map (·.val))) :
  Turn P w K (.Tuple elts R pos) (Iti d o ks vs) [it] it (λi h=>∃a b,IsItemIter h it d i es.size ep a b) where
 mem:=by simp
 obj:=λi h st b c=>by
  have e:b=it:=by simpa using c
  subst e;obtain⟨_,_,st⟩:=st;exact⟨_,st,λv z=>by
   have f:Data.fields _=Data.cell v:=z;cases f⟩
 keep:=λi h h' st k=>let ⟨a,b,st⟩:=st;⟨a,b,k it (by simp) _ st⟩
 item:=by
  intro X g hw j D i NI s Z H E I hf st l;subst g hw j;obtain⟨hi,u,m⟩:=l;obtain⟨_,_,st⟩:=st;have S:ks.length=es.size:=by have:=r.length;simpa using this
  have ap:vs.length=es.size:=by have:=C.length;simpa using this
  obtain⟨y,L⟩:∃y,ks[i]?=some y:=⟨ks[i],by simp[hi]⟩;obtain⟨M,N⟩:∃y,vs[i]?=some y:=⟨vs[i]'(by lia),by simp⟩;obtain⟨z,n,T⟩:=r.get L;obtain⟨f,p,U⟩:=C.get N;have A:i<es.size:=by lia
  have Y:z=es[i].key:=by rw[aY] at n;simp[A] at n;exact n.symm
  have ab:f=es[i].val:=by rw[aY] at p;simp[A] at p;exact p.symm
  refine Ip st (oO I m x e) A λh1 ad O k1=>?_;refine⟨_,rfl,wpAny_letOwnedTupleGo_items ad λh2 al sb=>?_⟩;replace sb:Heap.SameBut it h1 h2:=sb;have B:it<s.heap.objs.size:=aE st;have am:s.heap.get? s.heap.objs.size=none:=ni (ak _);have hn:H s.heap.objs.size=none:=I.hok.fresh (ak _);have I2:Inv X NI Z (upd H s.heap.objs.size (.tup [y,M])) {s with heap:=h2}:=by
   refine I.turnLaid (t':=s.toks) (ch:=[it]) hf (λb o c q=>?_) am λH'=>?_
   .have Q:b≠it:=λz=>c (by simp[z]);exact (sb.2 b Q).trans (k1 b o Q q)
   exact⟨⟨by simp;rw[dg];lia,_,(sb.2 _ (jr B)).trans O,rfl⟩,[es[i].key,es[i].val],.cons (by rw[<-Y];exact T) (.cons (by rw[<-ab];exact U) .nil),⟨_,(sb.2 _ (jr B)).trans O,rfl,_,rfl⟩⟩
  refine⟨.ref s.heap.objs.size,_,I2,rfl,⟨s.heap.objs.size,y,M,hn,rfl,rfl,L,N⟩,⟨_,_,al⟩,λb c=>?_⟩;have an:b=it:=by simpa using c
  rw[an,ar (bc B)];exact (hf it (by simp)).1
 done:=by
  intro X g hw j D i NI s Z H E I hf st l;subst g hw j;obtain⟨hi,u,m⟩:=l;obtain⟨_,_,st⟩:=st;have S:ks.length=es.size:=by have:=r.length;simpa using this
  obtain⟨f0,f1,f2,f3,f4,f5⟩:=hf it (by simp);exact JW (I.ok.hd D) st (oO I m x e) (by lia) λh' eb=>⟨rfl,I.turned (t':=s.toks) (λb o c e=>eb b o c e) f0 f1 f3 f4 f5⟩
 self:=λ_ _ _ _ _ st h=>by
  obtain⟨_,_,st⟩:=st;exact kcp_self st h
section
def Hi:V->List V->Hp->VK->Prop:=λx xs H Q=>∃(d:Addr)(u:HO),x=.ref d/\xs=[]/\Rd H d u/\dS u/\∀v,H v=none->Q (.ref v) (upd H v (pk v d))
theorem DX:MtM X "dict.items" Hi:=by
 intro NI s Z H x xs v us Q I g rs h;obtain⟨d,u,rfl,rfl,hd,i,q⟩:=h;cases g;cases rs;obtain⟨lo,ks,vs,es,ep,j,l,f,rk,m⟩:=mw I hd i;refine Ah Ld f.ty PySem.F.entry_dict_items (PySem.F.args_dict_items_1 _) (S:=λA R s=>(∃es ep,DAt s.heap d es ep)/\R (.ok (.ret (.ref s.heap.objs.size))) {s with heap:=s.heap.push {cls:=.type "dict_items",data:=.fields #[.ref d]}}) (.of_wp λprog w A R s h=>?_) ⟨⟨es,ep,f⟩,?_⟩
 .obtain⟨⟨es,ep,f⟩,h⟩:=h;unfold Builtin.«dict.items» Builtin.Dict.noArgs;refine aa (aa (Mg f.ty ?_));refine (show wpAny _ _ (pure d) _ _ s from ag ?_);refine (show wpAny _ _ (Builtin.Dict.showsAll d >>= _) _ _ s from ?_);unfold Builtin.Dict.showsAll;rw[NC (show ¬(d==sysModules)=true by rw[lo];simp)];exact aa (ag (aa (dZ (ag ⟨_,rfl,h⟩))))
 refine⟨.ref s.heap.objs.size,_,I.laid (a:=s.heap.objs.size) (o:=pk s.heap.objs.size d) (t':=s.toks) (λb o e=>aI _ e) (ak _) ⟨⟨_,bq _ rfl,rfl,rfl⟩,⟨_,bq _ rfl⟩,λh1 h2 p k=>?_⟩,rfl,q _ (I.hok.fresh (ak _))⟩;obtain⟨o,e,c⟩:=p;exact⟨o,k o e,c⟩
def Ia(td:TE):TI:=λZ H R=>td Z H λx H1=>∃(v d:Addr)(u:HO),x=.ref v/\H1 v=some (pk v d)/\Rd H1 d u/\dS u/\∀ks vs o H2,DKV H1 u ks vs->Fz H1 H2 d o u->R (Iti d o ks vs) H2
theorem Dy{l:Expr}{td:TE}{elts:List Expr}{i}{pos:Pos}(j:PE X l td):PI X (.Tuple elts i pos) l (Ia td):=by
 intro NI s Z H R I h;refine thn (j NI s Z H _ I h) λv s1 ⟨x,H1,a,m,n⟩=>?_;obtain⟨v,d,u,e,p,hd,f,q⟩:=n;subst e;cases m;have r:s1.heap.IsItemsView v d:=(show aV X.prog X.w H1 s1.heap v (pk v d) from a.hok v _ p).1;obtain⟨lo,ks,vs,es,ep,y,D,g,rk,z⟩:=mw a hd f;obtain⟨o,A,fz,c⟩:=a.fz hd f;obtain⟨ex,B⟩:=yO g A;refine Iq r g ?_;refine⟨s1.heap.objs.size,[s1.heap.objs.size],_,_,_,rfl,c.kept (t':=s1.toks) λb o e=>aI _ e,Bk (d:=d) (o:=o) ex B rk z,⟨_,_,bq _ rfl⟩,λb C=>?_,q ks vs o _ y fz⟩;have e:b=s1.heap.objs.size:=by simpa using C
 subst e;exact c.fpOk (ak _) (c.hok.fresh (ak _))
end
section
def oz(v d:Addr):HO:=.ext λh=>h.IsValuesView v d
def E2:V->List V->Hp->VK->Prop:=λx xs H Q=>∃(d:Addr)(kvs:List (Key×V)),x=.ref d/\xs=[]/\Rd H d (.dK kvs)/\∀v,H v=none->Q (.ref v) (upd H v (oz v d))
theorem Cf:MtM X "dict.values" E2:=by intro NI s Z H x xs v us Q I f rs h;obtain⟨d,kvs,rfl,rfl,hd,q⟩:=h;cases f;cases rs;obtain⟨z,lo,vs,rel,dd⟩:=eU I.hok hd;refine qe Lj dd.typeIs PySem.F.entry_dict_values (PySem.F.args_dict_values_1 _) (meets_dict_values (cG X.prog X.w) d lo) ⟨⟨_,dd⟩,?_⟩;refine⟨.ref s.heap.objs.size,_,I.laid (a:=s.heap.objs.size) (o:=oz s.heap.objs.size d) (t':=s.toks) (λb o e=>aI _ e) (ak _) ⟨⟨_,bq _ rfl,rfl,rfl⟩,⟨_,bq _ rfl⟩,λh1 h2 p k=>?_⟩,rfl,q _ (I.hok.fresh (ak _))⟩;obtain⟨o,e,c⟩:=p;exact⟨o,k o e,c⟩
def B1:List V->Hp->VK->Prop:=λxs H Q=>∃(v d:Addr)(kvs:List (Key×V)),xs=[.ref v]/\H v=some (oz v d)/\Rd H d (.dK kvs)/\∀l,H l=none->Q (.ref l) (upd H l (.lst (kvs.map (·.2))))
theorem AJ(n:X.calm=true):cu X (.type "list") B1:=by
 intro NI s Z H xs us Q I r h;obtain⟨v,d,kvs,rfl,x,hd,q⟩:=h;obtain⟨u,rfl,A⟩:=Vals.one r;cases A;have B:s.heap.IsValuesView v d:=(show aV X.prog X.w H s.heap v (oz v d) from I.hok v _ x).1;obtain⟨z,lo,vs,rel,dd⟩:=eU I.hok hd;have C:kvs.length=vs.length:=rel.length;obtain⟨ep,D⟩:=dd.dictAt;refine kdl_call (kdl_values (knd:=cG X.prog X.w) (r:=v) (d:=d) (kvs:=vs) (ep:=ep)) (I.ok.hd n) ⟨B,D⟩ (by lia) λh' tk acc c kp e it=>?_;have f:s.heap.objs.size<=s.heap.objs.size:=ak _;refine⟨.ref s.heap.objs.size,_,I.laid (t':=tk) (o:=.lst (kvs.map (·.2))) kp f ⟨by rw[ao];exact z,acc.toList,c,uE (by rw[ao,C];simp[it.1]) λj y E=>?_,by rw[e]⟩,rfl,q _ (I.hok.fresh f)⟩;obtain⟨k,g⟩:=it.2 j y (by simpa using E);have i:j<kvs.length:=by have:=(aG.mp g).1;lia
 refine⟨kvs[j].2,by simp[i],?_⟩;have at_:∀{l:List (Key×V)}{m:List (Key×Value)}{j:Nat}{p:Key×V}{q:Key×Value},KV l m->l[j]?=some p->m[j]?=some q->az p.2 q.2:=by
  intro l m j p q r;induction r generalizing j with
  |nil=>intro e;simp at e
  |cons h1 h2 K=>
   intro a b;cases j with
   |zero=>simp at a b;subst a b;exact h1.2
   |succ j=>exact K (by simpa using a) (by simpa using b)
 exact at_ rel (by simp[i]:kvs[j]?=some kvs[j]) g
def E5:V->List V->Hp->VK->Prop:=λx xs H Q=>∃(d:Addr)(kvs:List (Key×V))(k:Key)(z:V),x=.ref d/\xs=[kV k,z]/\H d=some (.dK kvs)/\kvs.length<sizeLine/\
 (∀v,bh kvs k=some v->Q v H)/\(bh kvs k=none->Q z (upd H d (.dK (cL kvs k z))))
theorem AO:MtM X "dict.setdefault" E5:=by
 intro NI s Z H x xs v us Q I f rs h;obtain⟨d,kvs,k,z,rfl,rfl,hd,u,g,i⟩:=h;cases f;obtain⟨A,j,rfl,l,b⟩:=rs.two;obtain⟨B,lo,vs,rel,dd⟩:=pI I.hok hd;have C:kvs.length=vs.length:=rel.length;have a:=rel.val k;refine qe Li dd.typeIs PySem.F.entry_dict_setdefault (PySem.F.args_dict_setdefault_3 _ _ _) (kt_meets_setdefault (cG X.prog X.w) d (iy l) lo j) ⟨vs,dd,by lia,λv m=>?_,λn h' c o=>?_⟩
 .rw[m] at a;cases e:bh kvs k with
  |none=>rw[e] at a;exact False.elim a
  |some y=>
   rw[e] at a;exact⟨y,H,I.tok _,a,g y e⟩
 rw[n] at a;cases e:bh kvs k with
 |some y=>rw[e] at a;exact False.elim a
 |none=>
  have p:(cL kvs k z).length<=sizeLine:=by have:=qr kvs k z;lia
  have he:∃q,h'.get? d=some q:=let ⟨q,_,_,r,_⟩:=c;⟨q,r⟩;exact⟨z,_,oP I (by rw[hd];exact True.intro) o he (pz p lo (rel.put k b) c),b,i e⟩
end
section
def Jv:List V->Hp->VK->Prop:=λxs H Q=>∃(d:Addr)(kvs:List (Key×V))(ns:List Int),xs=[.ref d]/\Rd H d (.dK kvs)/\kvs.map (λp=>kV p.1)=ns.map V.int/\ns≠[]/\∀m,m∈ns->(∀n∈ns,m<=n)->Q (.int m) H
theorem HS(es:Array DictEntry){i:Nat}(hi:i<es.size):(es.toList.map (·.key)).toArray[i]?=some es[i].key:=by simp[hi]
theorem AS(j:X.calm=true):cu X (.builtin "min") Jv:=by
 intro NI s Z H xs us Q I r h;obtain⟨d,kvs,ns,rfl,hd,l,f,q⟩:=h;obtain⟨u,rfl,m⟩:=Vals.one r;cases m;obtain⟨lo,ks,vs,es,ep,n,E,a,rk,K⟩:=mw I hd (u:=.dK kvs) trivial;have p:ks=ns.map V.int:=by
  rcases n with ⟨L,e,w,_⟩|⟨_,_,e,_⟩
  .cases e;rw[w,l]
  cases e
 subst p;have g:ns.length=es.size:=by have:=rk.length;simpa using this
 refine call_min_walk (sv lo a ?_);refine⟨s.heap.objs.size,_,_,_,_,_,_,rfl,yP (A:=X.A.in1) (es:=es) (ep:=ep) (d:=d) (I.ok.hd j) _ (bc a.lt),⟨⟨_,bq _ rfl,rfl,rfl⟩,a.at λo e=>aI _ e⟩,λb c=>?_,?_,Kg (λi=>ns.getD i 0) (λi v e=>?_),λv h' tk x y=>?_⟩
 .show b<(s.heap.push _).objs.size;rw[jk];rcases aK.mp c with rfl|c
  .exact fP _
  rw[aR.mp c];exact nz a.lt
 .rw[<-g];exact nv.mpr f
 .obtain⟨hi,rfl⟩:=e;exact pq rk i _ (by simp[hi])
 obtain⟨hi,rfl⟩:=x;obtain⟨t,B⟩:=pq rk _ _ (HS es hi);obtain⟨C,D⟩:=wx ns f;have e:es.size-1=ns.length-1:=by rw[g]
 refine⟨.int _,H,I.kept (t':=tk) λb o e=>y b o (λz=>by rw[aR.mp z] at e;exact absurd (aE e) (de _)) (aI _ e),⟨t,B⟩,?_⟩;rw[e];exact q _ C D
end
open PySem.SeqAt in
theorem AE(l:Addr)(items:Array Value)(n:Nat)(dd:Option Addr)(sl:Array (Option Value))(x:Value)(e:Nat->Bool)(j:Nat)(v:j<items.size)(hit:e j=true)(f:∀m,m<j->e m=false) :
  Meets (Builtin.«tuple.index» ⟨[.ref l,x],[]⟩)
   (λA R s=>s.heap.get? l=some {cls:=.type "tuple",dict:=dd,data:=.seq items n,slots:=sl}/\(∀m (h:m<items.size),EqAt A.in1 s items[m] x (e m))/\R (.ok (.ret (.int j s.toks))) {s with toks:=s.toks+1}):=
 .of_wp λprog w A R s h=>by
  obtain⟨o,g,d,tk,os⟩:=s;obtain⟨p,he,h⟩:=h;unfold Builtin.«tuple.index»;simp only[NB]
  wp_walk using ME p,L_ _ (λrest b s'=>b.1=none/\s'=⟨o,g,d,tk,os⟩/\∃i,i<=j/\rest=List.range' i (items.size-i)) _
  case turn=>
   rintro y rest b s' ⟨B,rfl,i,q,a⟩;have r:items.size-i=(items.size-(i+1))+1:=by lia
   rw[r,List.range'_succ] at a;injection a with h1 h2;subst h1;have c:y<items.size:=by lia
   have u:items[y]?=some items[y]:=by simp[c]
   rw[u];refine aa (he y c prog w _ _ ?_);by_cases z:y=j
   .subst z;rw[hit]
    wp_walk
    exact⟨_,rfl,h⟩
   rw[f y (by lia)]
   wp_walk
   exact⟨rfl,rfl,y+1,by lia,h2⟩
  case fin=>
   rintro b s' ⟨_,_,i,q,a⟩;have:=congrArg List.length a;simp at this;lia
  case h=>
   exact⟨rfl,rfl,0,aJ _,by simp[Std.Legacy.Range.size]⟩
section
def E_(K:Frag):V->List V->Hp->VK->Prop:=λx vs H Q=>∃(a:Addr)(xs:List V)(ds:List PyData)(y:V)(d:PyData)(j:Nat),x=.ref a/\vs=[y]/\SqT K H a xs/\Dts K H xs ds/\Dt K H y d/\d.depth<=60/\
 j<ds.length/\PyData.eqv (ds.getD j .none) d=true/\(∀m,m<j->PyData.eqv (ds.getD m .none) d=false)/\Q (.int (j:Int)) H
theorem vn(w:X.A.units+64<cLine):MtM X "tuple.index" (E_ []):=by
 intro NI s Z H x vs v us Q I z B h;obtain⟨a,xs,ds,y,d,j,rfl,rfl,C,e,hd,D,T,E,K,q⟩:=h;cases z;obtain⟨u,rfl,L⟩:=B.one;obtain⟨its,rs,p,hsz⟩:=I.tuple C;obtain⟨as,f⟩:=Dts.reads I ds xs its e rs;obtain⟨bs,M⟩:=Dt.reads I d y u hd L;have U:its.length=ds.length:=M7 _ _ _ f;obtain⟨⟨cls,dd,data,sl⟩,g,i,n,l⟩:=id p;simp only at i l;subst i l;refine Ah Ab ⟨_,g,rfl⟩ PySem.F.entry_tuple_index (PySem.F.args_tuple_index_2 _ _) (AE a its.toArray n dd sl u (λm=>PyData.eqv (ds.getD m .none) d) j (by simp;lia) E K) ⟨g,λm hm=>?_,?_⟩
 .have Y:m<ds.length:=by rw[a_] at hm;lia
  obtain⟨b,cs,N,O,hle⟩:∃b cs,PySem.Reads s.heap its.toArray[m] b cs/\b.canLay0=true/\b=ds.getD m .none:=by
   have go:∀(ds:List PyData)(its:List Value)(as:List Addr)(m:Nat)(h:m<its.length),ReadsAll s.heap its ds as->PyData.canLayAll0 ds=true->∃cs,PySem.Reads s.heap its[m] (ds.getD m .none) cs/\(ds.getD m .none).canLay0=true:=by
    intro ds;induction ds with
    |nil=>intro its as m h r _;cases r;simp at h
    |cons d ds P=>
     intro its as m h r c;have o:d.canLay0=true/\PyData.canLayAll0 ds=true:=by simpa [PyData.canLayAll0] using c
     cases r with
     |cons R S=>
      cases m with
      |zero=>exact⟨_,R,o.1⟩
      |succ m=>exact P _ _ m (by simpa using h) S o.2
   obtain⟨cs,h1,h2⟩:=go ds its as m (by simpa using hm) f (Dts.can ds _ e);exact⟨_,cs,by simpa using h1,h2,rfl⟩
  rw[<-hle];refine M_ b d X.A.in1 s _ _ _ _ N M O (Dt.can d y hd) ?_;show X.A.units+1+min _ _<cLine;exact min61 w D
 exact⟨.int (j:Int),H,I.tok _,⟨_,rfl⟩,q⟩
end
section
variable {prog:Program}{R:Result->Shared->Prop}{I:Addr}{fp wr:List Addr}{n:Nat}{P:Nat->Value->Prop}{St:Nat->Heap->Prop}{OK:Heap->Prop}
def sJ(prog:Program)(w:World)(A:Around)(OK:Heap->Prop)(P:Nat->Value->Prop)(c:Nat->Nat->Bool):Prop:=
 ∀i j a b (s:Shared) (Q:Value->Shared->Prop) (E:Value->Shared->Prop),OK s.heap->P i a->P j b->Q (.bool (c i j)) s->wpAny (model prog w) A (richCompare .Lt a b) Q E s
theorem BC(W:Walks prog w A.in1 I fp wr n P St)(i:Nat->Nat->Bool)(N:sJ prog w A.in1 OK P i)(S:Addr)(E:S∉fp)
  (ok:∀h h':Heap,OK h->(∀b o,b∉wr->b≠S->h.get? b=some o->h'.get? b=some o)->OK h') :
  ∀(k j:Nat)(s:Shared)(d:Value)(c:Nat),n-(j+1)=k->j+1<=n->OK s.heap->St (j+1) s.heap->P (argBest i j) d->
  s.heap.get? S=some {cls:=.type "list",dict:=none,data:=.seq #[d,d] c,slots:=#[]}->
  (∀v h' tk,P (argBest i (n-1)) v->(∀b o,b∉wr->b≠S->s.heap.get? b=some o->h'.get? b=some o)->R (.ok (.ret v)) {s with heap:=h',toks:=tk})->
  codeAny (model prog w) A (.builtin "min.loop" ⟨[.ref I,.none,.ref S],[]⟩) R s:=by
 have nw:S∉wr:=λh=>E (W.sub _ h);have nm:(toString "min"++toString ".loop" : String) = "min.loop":=by decide
 intro k;induction k with
 |zero=>
  intro j s d c O Q H r m l p;have z:j+1=n:=by lia
  refine Al z_ ?_;rw[zo kr _];refine (show wpAny _ A.in1 (seqItems? (.ref S) >>= _) _ _ s from aa (Ax l rfl ?_));refine (show wpAny _ A.in1 (tryCatch (pyNext (.ref I)) _ >>= _) _ _ s from aa (ug (W.done s _ _ (z ▸ r) λh' tk f=>?_)));refine (show wpAny _ A.in1 (updateSeq S (λ_=>#[]) >>= _) _ _ _ from aa (AA (f S _ nw l) rfl (aa (qj (ag ?_)))));exact p d _ tk (by rw[<-z];exact m) λb o g a e=>(dU _ _ (aB a)).trans (f b o g e)
 |succ k K=>
  intro j s d c O Q H r m l p;have lt:j+1<n:=by lia
  refine Al z_ ?_;rw[zo kr _];refine (show wpAny _ A.in1 (seqItems? (.ref S) >>= _) _ _ s from aa (Ax l rfl ?_));refine (show wpAny _ A.in1 (tryCatch (pyNext (.ref I)) _ >>= _) _ _ s from aa (ug (W.item (j+1) s _ _ lt r λv h' tk L M f=>?_)));have u:=f S _ nw l;have h1:OK h':=ok _ _ H λb o q _ e=>f b o q e;refine (show wpAny _ A.in1 (tryCatch (holding [v,v] (richCompare .Lt v d >>= _)) _ >>= _) _ _ _ from aa (ug (cH (aa (N (j+1) (argBest i j) v d _ _ _ h1 L m ?_)))));refine aa (cH (gY (aa (qj (ag ?_)))));cases q:i (j+1) (argBest i j) with
  |true=>
   simp only[if_true];refine aa (AA u rfl (aa (qj ?_)));rw[nm];have up:∀b o,b≠S->h'.get? b=some o->(h'.update S (Obj.mapSeq λ_=>#[v,v])).get? b=some o:=λb o a e=>(dU _ _ (aB a)).trans e;exact ag ⟨t_ kr _,K (j+1) _ v _ (by lia) lt (ok _ _ h1 λb o _ a e=>up b o a e) (W.frame _ _ _ M λb T o e=>up b o (λh=>E (by rw[<-h];exact T)) e) (by simp only[argBest,q,if_true];exact L) (fJ _ u rfl)
    λx y B C D=>p x y B C λb o g a e=>D b o g a (up b o a (f b o g e))⟩
  |false=>
   simp only[jj,if_false];refine aa (qj ?_);rw[nm];exact ag ⟨t_ kr _,K (j+1) _ d c (by lia) lt h1 M (by simp only[argBest,q,jj,if_false];exact m) u λx y B C D=>p x y B C λb o g a e=>D b o g a (f b o g e)⟩
theorem Bd(W:Walks prog w A.in1 I fp wr n P St)(d:Nat->Nat->Bool)(p:sJ prog w A.in1 OK P d)(S:Addr)(f:S∉fp)(ok:∀h h':Heap,OK h->(∀b o,b∉wr->b≠S->h.get? b=some o->h'.get? b=some o)->OK h')(i:0<n){c:Nat}(q:OK s.heap)(r:St 0 s.heap)
  (j:s.heap.get? S=some {cls:=.type "list",dict:=none,data:=.seq #[] c,slots:=#[]})
  (u:∀v h' tk,P (argBest d (n-1)) v->(∀b o,b∉wr->b≠S->s.heap.get? b=some o->h'.get? b=some o)->R (.ok (.ret v)) {s with heap:=h',toks:=tk}) :
  codeAny (model prog w) A (.builtin "min.loop" ⟨[.ref I,.none,.ref S],[]⟩) R s:=by
 have nw:S∉wr:=λh=>f (W.sub _ h);have nm:(toString "min"++toString ".loop" : String) = "min.loop":=by decide
 refine Al z_ ?_;rw[zo kr _];refine (show wpAny _ A.in1 (seqItems? (.ref S) >>= _) _ _ s from aa (Ax j rfl ?_));refine (show wpAny _ A.in1 (tryCatch (pyNext (.ref I)) _ >>= _) _ _ s from aa (ug (W.item 0 s _ _ i r λv h' tk x y g=>?_)));have l:=g S _ nw j;have h1:OK h':=ok _ _ q λb o z _ e=>g b o z e;refine (show wpAny _ A.in1 (updateSeq S (λ_=>#[v,v]) >>= _) _ _ _ from aa (AA l rfl ?_));rw[nm];have up:∀b o,b≠S->h'.get? b=some o->(h'.update S (Obj.mapSeq λ_=>#[v,v])).get? b=some o:=λb o a e=>(dU _ _ (aB a)).trans e;exact ag ⟨t_ kr _,BC W d p S f ok _ 0 _ v _ rfl i (ok _ _ h1 λb o _ a e=>up b o a e) (W.frame _ _ _ y λb B o e=>up b o (λh=>f (by rw[<-h];exact B)) e) x (fJ _ l rfl)
  λC D E H K=>u C D E H λb o m a e=>K b o m a (up b o a (g b o m e))⟩
end
section
variable {prog:Program}
theorem BL{x:Value}{Q:Value->Shared->Prop}{OK:Heap->Prop}
  (h:wpAny (model prog w) A.in1 (pyIter x) (λit s₂=>∃I fp wr n P St a,it=.ref I/\Walks prog w A.in1 I fp wr n P St/\St 0 s₂.heap/\OK s₂.heap/\(∀S,s₂.heap.objs.size<=S->∀h h':Heap,OK h->(∀b o,b∉wr->b≠S->h.get? b=some o->h'.get? b=some o)->OK h')/\(∀b∈fp,b<s₂.heap.objs.size)/\0<n/\sJ prog w A.in1 OK P a/\
   ∀v h' tk,P (argBest a (n-1)) v->(∀b o,b∉wr->s₂.heap.get? b=some o->h'.get? b=some o)->Q v {s₂ with heap:=h',toks:=tk}) E s) :
  wpAny (model prog w) A (call (.builtin "min") [x]) Q E s:=by
 have nm:(toString "min"++toString ".loop" : String) = "min.loop":=by decide
 refine call_function_tree PySem.F.kind_min PySem.F.plain_min PySem.F.entry_min (PySem.F.args_min1 _) ?_;refine (show wpAny _ A.in1 (Builtin.Builtins.bindParams "min" ["key","default"] 0 ⟨[],[]⟩ >>= _) _ _ s from aa (ku (show Builtin.Builtins.bindParams "min" ["key","default"] 0 ⟨[],[]⟩=pure [none,none] from rfl) (aa (ag ?_))));refine aa (cC h (λit s2 h2=>?_) λ_ _ e=>e);obtain⟨I,fp,wr,n,P,St,a,rfl,W,c,d,ok,f,g,i,j⟩:=h2;have l:s2.heap.objs.size∉fp:=λhm=>de _ (f _ hm);refine aa (dZ ?_);rw[nm];have pu:∀b o,s2.heap.get? b=some o->(s2.heap.push {cls:=.type "list",data:=.seq #[]}).get? b=some o:=λb o e=>aI _ e;refine ag ⟨t_ kr _,Bd W a i s2.heap.objs.size l (ok _ (ak _)) g (ok _ (ak _) _ _ d λb o _ _ e=>pu b o e) (W.frame _ _ _ c λb _ o e=>pu b o e) (bq _ rfl) λv h' tk m p=>?_⟩;exact j v h' tk m λb o q e=>p b o q (bc (aE e)) (pu b o e)
end
end L2
end
section
namespace L2
open PySem PySem.Spec PyProof.Rows PySem.W
theorem vq:∀a:List Int,HT.lexLt a a=false
 | []=>rfl
 |x::r=>by
  unfold HT.lexLt;simp[vq r]
theorem we:∀a b c:List Int,HT.lexLt a b=true->HT.lexLt b c=true->HT.lexLt a c=true
 | [],[],_,h,_=>nomatch h
 | [],_::_,[],_,h=>nomatch h
 | [],_::_,_::_,_,_=>rfl
 |_::_,[],_,h,_=>nomatch h
 |_::_,_::_,[],_,h=>nomatch h
 |x::r,y::t,z::u,h1,h2=>by
  unfold HT.lexLt at h1 h2 |-;have d:=we r t u;by_cases e:x=y<;>by_cases f:y=z<;>by_cases g:x=z<;>simp_all<;>lia
theorem xH(a:Nat->Nat->Bool)(c:∀i,a i i=false)(tr:∀i j k,a i j=true->a j k=true->a i k=true):∀m,argBest a m<=m/\∀j,j<=m->a j (argBest a m)=false
 |0=>⟨ak _,λj d=>by
  have:j=0:=by lia
  subst this;exact c 0⟩
 |m+1=>by
  obtain⟨h1,h2⟩:=xH a c tr m;cases b:a (m+1) (argBest a m) with
  |true=>
   have e:argBest a (m+1)=m+1:=by simp only[argBest,b,if_true]
   rw[e];refine⟨ak _,λj d=>?_⟩;by_cases z:j=m+1
   .rw[z];exact c _
   cases q:a j (m+1) with
   |false=>rfl
   |true=>
    have:=tr _ _ _ q b;rw[h2 j (by lia)] at this;cases this
  |false=>
   have e:argBest a (m+1)=argBest a m:=by simp only[argBest,b,jj,if_false]
   rw[e];refine⟨by lia,λj d=>?_⟩;by_cases z:j=m+1
   .rw[z];exact b
   exact h2 j (by lia)
section
def G9(K:Frag):List V->Hp->VK->Prop:=λxs H Q=>∃(a:Addr)(ys:List V)(b:List (List Int)),xs=[.ref a]/\SqL K H a ys/\Tups K H ys b/\ys≠[]/\
 ∀i y,ys[i]?=some y->(∀j,j<ys.length->HT.lexLt (b.getD j []) (b.getD i [])=false)->Q y H
theorem AR(M:X.calm=true)(hu:X.A.units+64<cLine):cu X (.builtin "min") (G9 []):=by
 intro NI s Z H xs us Q I r h;obtain⟨a,ys,d,rfl,N,O,P,q⟩:=h;obtain⟨u,rfl,R⟩:=Vals.one r;cases R;obtain⟨its,n,p,hz⟩:=I.list N;have T:=n.length;have w:=p.isList;have K:a<s.heap.objs.size:=by obtain⟨_,e,_⟩:=w;exact aE e
 have get:∀(i:Nat)(v:Value),its[i]?=some v->∃(b:Addr)(c:List Value),v=.ref b/\b<s.heap.objs.size/\IsTup s.heap b c.toArray/\IntsAre c (d.getD i []):=by
  intro i v e;obtain⟨y,x,B⟩:=lr n e;have go:∀{ys:List V}{d:List (List Int)}{i:Nat}{y:V},Tups [] H ys d->ys[i]?=some y->∃b,y=V.ref b/\SqT [] H b ((d.getD i []).map V.int):=by
   intro ys d i y t;induction t generalizing i with
   |nil=>intro e;simp at e
   |cons h1 h2 U=>
    intro e;cases i with
    |zero=>simp at e;subst e;obtain⟨b,l,f,_⟩:=h1;exact⟨b,l,f⟩
    |succ i=>exact U (by simpa using e)
  obtain⟨b,rfl,g⟩:=go O x;cases B;obtain⟨c,Y,m,_⟩:=I.tuple g;exact⟨b,c,rfl,m.lt,m,nX Y⟩
 refine BL (OK:=λh=>∀(i:Nat)(v:Value),its.toArray[i]?=some v->∃(b:Addr)(c:List Value),v=.ref b/\b<s.heap.objs.size/\IsTup h b c.toArray/\IntsAre c (d.getD i [])) (qk w ?_);refine⟨s.heap.objs.size,_,_,_,_,_,(λi j=>HT.lexLt (d.getD i []) (d.getD j [])),rfl,Aj (A:=X.A.in1) (I.ok.hd M) _ a (bc K) its.toArray,⟨⟨_,bq _ rfl,rfl,rfl⟩,w.push _⟩,λi v e=>?_,λS hS h h' ok k i v e=>?_,λb g=>?_,?_,λi j vi vj s' Q' E' ok hi L hQ=>?_,λv h' tk hP hk=>?_⟩
 .obtain⟨b,c,l,f,⟨o,C,D⟩,E⟩:=get i v (by simpa using e);exact⟨b,c,l,f,⟨o,aI _ C,D⟩,E⟩
 .obtain⟨b,c,l,f,⟨o,C,D⟩,E⟩:=ok i v e;have ab:s.heap.objs.size+1<=S:=by rw[<-jk];exact hS
  exact⟨b,c,l,f,⟨o,k b o (λz=>by rw[aR.mp z] at f;exact de _ f) (λz=>by rw[z] at f;exact absurd (nA f ab) (de _)) C,D⟩,E⟩
 .show b<(s.heap.push _).objs.size;rw[jk];rcases aK.mp g with rfl|g
  .exact fP _
  rw[aR.mp g];exact nz K
 .rw[a_,<-T];exact nv.mpr P
 .obtain⟨b,c,rfl,_,m,i1⟩:=ok i vi hi;obtain⟨b',ad,rfl,_,p2,i2⟩:=ok j vj L;exact HT.lt_tupInts (A:=X.A.in1) m p2 (by simpa using i1) (by simpa using i2) (by show X.A.units+1<cLine;lia) hQ
 obtain⟨y,x,B⟩:=lr n (by simpa using hP);have g:=xH (λi j=>HT.lexLt (d.getD i []) (d.getD j [])) (λi=>vq _) (λi j k=>we _ _ _) (its.toArray.size-1);refine⟨y,H,I.kept (t':=tk) λb o e=>hk b o (λz=>by rw[aR.mp z] at e;exact absurd (aE e) (de _)) (aI _ e),B,q _ y x λj L=>g.2 j ?_⟩;rw[a_];lia
end
end L2
end
section
namespace L2
open PySem PySem.Spec PyProof.Rows
def Exc(h:Heap)(e:Addr)(cls:Value)(d:Option Addr):Prop:=
 ∃(a:Obj)(vs:Array Value),h.get? e=some a/\a.cls=cls/\a.dict=d/\a.data=.fields vs/\vs[2]?=some .none/\
  (vs[1]?=some .none\/∃(T:Addr)(b:Obj)(ts:Array Value),vs[1]?=some (.ref T)/\T≠e/\h.get? T=some b/\b.data=.fields ts/\ts[3]?=some .none)
theorem qU{h:Heap}{a:Addr}{o:Obj}{f:Obj->Obj}(e:h.get? a=some o)(hf:f o=o)(b:Addr):(h.update a f).get? b=h.get? b:=by
 by_cases c:b=a
 .subst c;have d:(f o).isFreed=false:=by rw[hf];exact (Heap.get?_some_iff.mp e).2
  rw[fJ f e d,hf,e]
 exact dU h f (aB c)
theorem qt{o:Obj}{ts:Array Value}{i:Nat}{v:Value}(hd:o.data=.fields ts)(hi:ts[i]?=some v):Obj.mapFields (·.setIfInBounds i v) o=o:=by
 obtain⟨c,dt,d,sl⟩:=o;have hd:d=.fields ts:=hd;subst hd;have e:ts.setIfInBounds i v=ts:=by
  refine Array.ext (by simp) λj h1 h2=>?_;by_cases a:i=j
  .subst a;obtain⟨b,z⟩:=fG.mp hi;rw[J5]
   .simp[z]
   exact b
  rw[J5]
  .simp[a]
  exact h2
 show ({cls:=c,dict:=dt,data:=.fields (ts.setIfInBounds i v),slots:=sl}:Obj)=_;rw[e]
section
variable {M:Model}{env:Env}{outer:List Env}{L e:Addr}{cls:Value}{d:Option Addr}
structure mI(fs:List Addr)(e:Addr)(h h':Heap):Prop where
 keep:∀b o,b≠e->b∉fs->h.get? b=some o->h'.get? b=some o
 slot:∀b o,b≠e->h.get? b=some o->∃sl,h'.get? b=some {o with slots:=sl}
theorem qX{oe:Obj}{vs:Array Value}{head:Value}{had:Bool}{Q:Unit->Shared->Prop}(hfr:A.frames=some (env::outer))(hl:s.heap.FunFrames base (env::outer))(hf:env.frame=some L)
  (he:s.heap.get? e=some oe) (hc:oe.cls=cls) (hdd:oe.dict=d) (hd:oe.data=.fields vs) (hc2:vs[2]?=some .none) (hsz:1<vs.size)
  (h:∀h',Exc h' e cls d->mI (frs (env::outer)) e s.heap h'->Q () {s with heap:=h'}) :
  wpAny M A (do let a <-frameOf env;let pl <-entryPlaceOf L had;let b <-EntryCells.newEntry head a .none (rawInt L) .none pl;setField (.ref e) 1 b) (λ_ s'=>wpAny M A (setFlight (.ref e) none) Q E s') E s:=by
 have hene:e∉frs (env::outer):=λhm=>by
  obtain⟨_,o,ho,hnf⟩:=hl.mem hm;rw[he] at ho;cases ho;exact hnf vs hd
 refine aa (wpAny_frameOf_fun hfr hl hf λh1 hs1=>aa (L7 λpl hpl=>?_));unfold EntryCells.newEntry newFields;refine aa (dZ ?_ (hpl.sizeOk5 _ _ _ _ _));generalize hO:({cls:=.type "traceback",dict:=none,data:=.fields ([head,.ref L,.none,rawInt L,.none]++(if pl.isEmpty then List.replicate 6 Value.none else pl)).toArray}:Obj)=oT;have hOd:oT.data=.fields ([head,.ref L,.none,rawInt L,.none]++(if pl.isEmpty then List.replicate 6 Value.none else pl)).toArray:=by rw[<-hO]
 have e1:h1.get? e=some oe:=(hs1.2.1 e hene).trans he;have e2:(h1.push oT).get? e=some oe:=aI _ e1;have hTe:h1.objs.size≠e:=jr (aE e1);have eT:(h1.push oT).get? h1.objs.size=some oT:=bq _ (jt hOd);refine eZ e2 hd hsz ?_;have hd3:=iL hd (·.setIfInBounds 1 (Value.ref h1.objs.size));have e3:=fJ (Obj.mapFields (·.setIfInBounds 1 (Value.ref h1.objs.size))) e2 (jt hd3);have T3:=(dU (h1.push oT) (Obj.mapFields (·.setIfInBounds 1 (Value.ref h1.objs.size))) (aB hTe)).trans eT;unfold setFlight;refine aa (cW e3 hd3 (x:=.ref h1.objs.size) (by simp[hsz]) ?_);rw[ND (show (Value.ref h1.objs.size != Value.none)=true by simp)];have h3z:3<([head,.ref L,.none,rawInt L,.none]++(if pl.isEmpty then List.replicate 6 Value.none else pl)).toArray.size:=by simp only[a_,aL,bz,gI];lia
 refine eZ T3 hOd h3z (h _ ?_ ?_)
 .refine⟨_,_,(dU _ _ hTe).trans e3,(zX _ _).trans hc,?_,hd3,by rw[sU (by decide)];exact hc2,.inr ⟨h1.objs.size,_,_,by simp[hsz],hTe,fJ _ T3 (jt (iL hOd _)),iL hOd _,by simp⟩⟩;obtain⟨c0,d0,dt0,sl0⟩:=oe;cases dt0<;>exact hdd
 have keep:∀b o,b≠e->h1.get? b=some o->(((h1.push oT).update e (Obj.mapFields (·.setIfInBounds 1 (Value.ref h1.objs.size)))).update h1.objs.size (Obj.mapFields (·.setIfInBounds 3 ((none:Option Addr).elim Value.none λf=>rawInt f)))).get? b=some o:=λb o hb q=>by
  rw[dU _ _ (jr (aE q)),dU _ _ (aB hb)];exact aI _ q
 exact⟨λb o hb hn q=>keep b o hb ((hs1.2.1 b hn).trans q),λb o hb q=>by
  obtain⟨sl,z⟩:=hs1.2.2 b o q;exact⟨sl,keep b _ hb z⟩⟩
theorem xp{Q:Unit->Shared->Prop}(i:A.frames=some (env::outer))(j:s.heap.FunFrames base (env::outer))(hf:env.frame=some L)(x:Exc s.heap e cls d)
  (h:∀h',Exc h' e cls d->mI (frs (env::outer)) e s.heap h'->Q () {s with heap:=h'}):wpAny M A (noteFrame (.ref e) env) (λ_ s'=>wpAny M A (setFlight (.ref e) none) Q E s') E s:=by
 obtain⟨w,vs,he,l,m,hd,n,tb⟩:=x;unfold noteFrame;simp only[hf];rcases tb with h1|⟨T,y,ts,h1,z,c,f,g⟩
 .refine aa (cW he hd h1 ?_);rw[NC (by decide)];exact qX i j hf he l m hd n (fG.mp h1).1 h
 refine aa (cW he hd h1 ?_);rw[ND (show (Value.ref T != Value.none)=true by simp)];refine aa (cW c f g ?_);rw[NC (show ¬((Value.none==rawInt L)=true) by simp[rawInt])];refine aa (eZ c f (fG.mp g).1 ?_);have same:=qU c (qt f g);have r:(s.heap.update T (Obj.mapFields (·.setIfInBounds 3 Value.none))).FunFrames base (env::outer):=j.of_keeps λb o a _=>⟨o,(same b).trans a,rfl⟩;refine qX (s:={s with heap:=s.heap.update T (Obj.mapFields (·.setIfInBounds 3 Value.none))}) i r hf ((same e).trans he) l m hd n (fG.mp h1).1 λh' u p=>h h' u ⟨λb o a v q=>p.keep b o a v ((same b).trans q),λb o a q=>p.slot b o a ((same b).trans q)⟩
theorem D4{Q:Unit->Shared->Prop}(a:A.frames=some (env::outer))(b:s.heap.FunFrames base (env::outer))(hf:env.frame=some L)(x:Exc s.heap e cls d)
  (h:∀h',Exc h' e cls d->mI (frs (env::outer)) e s.heap h'->Q () {s with heap:=h'}):wpAny M A (leaving env (.ref e)) Q E s:=by
 unfold leaving;exact aa (xp a b hf x h)
theorem Cz{Q:Unit->Shared->Prop}(x:Exc s.heap e cls d)(h:∀h',Exc h' e cls d->(∀b,h'.get? b=s.heap.get? b)->Q () {s with heap:=h'}):wpAny M A (setFlight (.ref e) none) Q E s:=by
 obtain⟨g,vs,he,i,j,hd,l,tb⟩:=id x;unfold setFlight;rcases tb with h1|⟨T,m,ts,h1,n,a,c,f⟩
 .refine aa (cW he hd h1 ?_);rw[NC (by decide)];exact ag (h s.heap x λ_=>rfl)
 refine aa (cW he hd h1 ?_);rw[ND (show (Value.ref T != Value.none)=true by simp)];refine eZ a c (fG.mp f).1 ?_;have same:=qU a (qt c f);exact h _ ⟨g,vs,(same e).trans he,i,j,hd,l,.inr ⟨T,m,ts,h1,n,(same T).trans a,c,f⟩⟩ same
end
theorem aV.isThere{h:Heap}{a:Addr}{o:HO}(x:aV P w H h a o):∃b,h.get? a=some b:=by
 cases o with
 |lst xs=>obtain⟨_,_,_,_,e⟩:=x;exact⟨_,e⟩
 |tup xs=>obtain⟨_,_,_,b,e,_⟩:=x;exact⟨_,e⟩
 |dK kvs=>obtain⟨_,_,_,_,o,_,_,e,_⟩:=x;exact⟨_,e⟩
 |dT kvs=>obtain⟨_,_,_,_,o,_,_,e,_⟩:=x;exact⟨_,e⟩
 |set S n=>obtain⟨o,_,_,_,e,_⟩:=x;exact⟨_,e⟩
 |ins C dx fs=>obtain⟨_,_,_,e,_⟩:=x;exact⟨_,e⟩
 |own y=>exact x
 |xd fs=>obtain⟨_,⟨_,_,_,e,_⟩,_⟩:=x;exact⟨_,e⟩
 |rng lo hi=>obtain⟨_,_,_,e⟩:=x;exact⟨_,e⟩
 |frz b u=>obtain⟨e,_⟩:=x;exact⟨_,e⟩
 |tbl ps=>exact⟨_,(show h.get? a=some _ from x)⟩
 |met f y=>exact⟨_,(show h.get? a=some _ from x)⟩
 |ext φ=>obtain⟨_,e,_⟩:=x;exact e
theorem HOk.none_of'{h:Heap}{a:Addr}(x:HOk P w H h)(e:h.get? a=none):H a=none:=by
 cases q:H a with
 |none=>rfl
 |some u=>
  obtain⟨o,z⟩:=(x a u q).isThere;rw[e] at z;cases z
def CX1(P:Program)(w:World):CXT:=λouter H s E e s'=>∃(x:Addr)(cls:Value)(d:Option Addr)(H':Hp),e=.ref x/\Exc s'.heap x cls d/\s.heap.get? x=none/\H' x=none/\
 s'.os=s.os/\AllBare s'.gens/\Un (frs outer) [] H H' s.heap s'.heap/\HOk P w H' s'.heap/\E cls d H'
section
theorem Inv.oldNone{x:Addr}(I:Inv X NI Z H s)(h:s.heap.get? x=none)(hx:x∉X.ex):X.s₀.heap.get? x=none:=by
 cases e:X.s₀.heap.get? x with
 |none=>rfl
 |some o=>
  obtain⟨o',z⟩:=I.base.there x o e hx;rw[h] at z;cases z
theorem xr{N:List Str}{qual:Str}{f:Addr}{cd:Value}{outer:List Env}{s0:Shared}{H0:Hp}{E:XK}{x:Addr}{cls:Value}{d:Option Addr}
  (I:Inv (dw (CX1 P w) P w K mg base N qual scope f cd A outer s0 H0 E) NI Z H s) (hx:Exc s.heap x cls d) (j:s0.heap.get? x=none) (l:H x=none) (q:E cls d H) :
  (dw (CX1 P w) P w K mg base N qual scope f cd A outer s0 H0 E).xe (.ref x) s:=by
 show wpAny _ _ (leaving _ (.ref x)) _ _ s;have p:=I.stkFree;refine D4 (outer:=outer) I.ok.frames I.stack rfl hx λh' B h=>?_;have nx:∀b o,s0.heap.get? b=some o->b≠x:=λb o e z=>by rw[z,j] at e;cases e
 have C:∀b o,s0.heap.get? b=some o->b∉frs outer->b∉frs (envOfC qual scope s0.heap.objs.size f cd::outer):=λb o e g hm=>by
  rcases aK.mp (I.stkSub b hm) with z|z
  .exact absurd (aE e) (by rw[z];exact tX.mpr I.ok.above)
  exact g z
 refine⟨x,cls,d,H,rfl,B,j,l,I.os,I.bare,⟨λb o e n g a=>?_,λb o e n g a=>?_,λb o e n a=>I.base.free b o e n a,λb o e a=>?_,I.base.tups,I.base.frzs,I.base.tbls⟩,λb u e=>?_,q⟩
 .exact h.keep b o (nx b o e) (C b o e g) (I.base.keep b o e n g a)
 .obtain⟨sl,z⟩:=I.base.slot b o e n g a;obtain⟨D,i⟩:=h.slot b _ (nx b o e) z;exact⟨D,i⟩
 .obtain⟨o',z⟩:=I.base.there b o e a;obtain⟨sl,i⟩:=h.slot b _ (nx b o e) z;exact⟨_,i⟩
 have m:∀c v,H c=some v->c∉frs (envOfC qual scope s0.heap.objs.size f cd::outer):=λc v z hm=>by
  have:=p c hm;rw[z] at this;cases this
 have ne:∀c v,H c=some v->c≠x:=λc v z y=>by rw[y,l] at z;cases z
 refine (I.hok b u e).stay (λc v L r=>?_) (λ_ r=>r) λ_ _ r=>r;rcases L with z|z
 .rw[z] at r |-;exact h.keep b v (ne b u e) (m b u e) r
 exact h.keep c v (ne c _ z) (m c _ z) r
theorem pass1{N:List Str}{qual:Str}{f:Addr}{cd:Value}{outer:List Env}{s0:Shared}{H0:Hp}{E:XK} :
  Passes (CX1 P w) (dw (CX1 P w) P w K mg base N qual scope f cd A outer s0 H0 E) E:=by
 rintro NI Z H s e s' I ⟨x,cls,d,H',rfl,hx,a,c,os,bare,un,hok,q⟩;refine xr (I.call' (ch:=[]) os un hok bare (λb z=>absurd z (by simp))) hx ?_ c q;exact I.oldNone a (λz=>by cases z)
end
abbrev bmV:List Value:=[.type "ValueError",.type "Exception",.type "BaseException",.type "object"]
theorem FK{C:Addr}{newId:String}{h:Heap}{bmB:List Value}(X:K.In h)(q:W.excIn K C bmB newId=true) :
  ∃bm N nm q bs hdct sn sub ab col dd k0 k1 k2 k3 k5 mN,h.get? C=some (excClassObj nm q C N bs bm hdct sn sub ab col dd k0 k1 k2 k3 k5 newId)/\h.Ns N mN/\mN "__init__" = none/\OwnTail h bmB bm:=by
 unfold W.excIn at q
 split at q
 .rename_i dd cd sl d
  split at q
  .rename_i i bm k0 k1 k2 k3 n k5 hm a;simp only[eF,beq_iff_eq,Ka] at q;obtain⟨⟨⟨⟨⟨rfl,rfl⟩,b⟩,e⟩,hok⟩,c⟩:=q;obtain⟨nm,bs,mro,ns,f,hd,sn,sub,ab,col,del⟩:=cd;dsimp only at hm b hok c;subst hm b;have g:sl=#[k0,k1,k2,k3,some (.builtin n),k5]:=by
    cases sl;simp only at a;rw[a]
   subst g;exact⟨bm,ns,nm,f,bs,hd,sn,sub,ab,col,dd,k0,k1,k2,k3,k5,_,X _ _ d,.of_isNs (W.isNs_of_in X hok),W.nsMap_none_of_in X hok c,W.tail_of_in X e⟩
  cases q
 cases q
def Lets(X:Cx)(E:XK):Prop:=∀(NI:List (Addr×Obj))(Z:St)(H:Hp)(s:Shared)(x:Addr)(cls:Value)(d:Option Addr),Inv X NI Z H s->Exc s.heap x cls d->X.s₀.heap.get? x=none->(∀p∈X.pn++NI,p.1≠x)->H x=none->E cls d H->X.xe (.ref x) s
theorem lets1{N:List Str}{qual:Str}{f:Addr}{cd:Value}{outer:List Env}{s0:Shared}{H0:Hp}{E:XK} :
  Lets (dw (CX1 P w) P w K mg base N qual scope f cd A outer s0 H0 E) E:=λ_ _ _ _ _ _ _ I hx a _ b q=>xr I hx a b q
section
variable {E:XK}{x:Str}{C:Addr}{np cpos pos:Pos}{e:Expr}{es:List Expr}{t:TA}
def Gc(E:XK)(C:Addr)(t:TA):TS:=λ_ Z H=>t Z H λvs H1=>vs.length<=sizeLine/\E (.ref C) none H1
theorem oq(d:Lets X E)(f:X.calm=true)(g:X.ex=[])(i:Gl X x)(hm:X.mg x=some (.ref C))(j:W.excIn X.K C bmV "ValueError.__new__" = true)(ha:PA X (e::es) t)
  (he:starEach (e::es) X.env=(false,eval e X.env)::starEach es X.env:=by rfl) (l:(backTo cpos (starEach es X.env)).any (·.1)=false:=by rfl) (hd:(x==("__debug__" : Str))=false:=by decide) :
  PS X (.Raise (some (.Call (.Name x np) (e::es) [] cpos)) none pos) (Gc E C t):=by
 intro NI s Z H D I h;obtain⟨tl,N,nm,q,bs,hdct,sn,sub,ab,col,dd,k0,k1,k2,k3,k5,mN,m,n,o,T⟩:=FK I.mod.kin j;refine wpAny_Raise_call_subT (C:=C) (nm:=nm) (q:=q) (N:=N) (bs:=bs) (bm:=tl) (hdct:=hdct) (sn:=sn) (sub:=sub) (ab:=ab) (col:=col) (dd:=dd) (k0:=k0) (k1:=k1) (k2:=k2) (k3:=k3) (k5:=k5)
  qb (mN:=mN) (T.hasType qb.hasBase) (I.ok.hd f) (by rw[he];show (false||(backTo cpos (starEach es X.env)).any (·.1))=false;rw[l];rfl) o (iZ I i hm ⟨rfl,?_⟩ hd)
 have c:=ha cpos NI s Z H _ I h;rw[he] at c |-;refine ng (thn c λus s1 ⟨vs,H1,a,r,u,v⟩=>⟨rfl,by rw[<-r.length];exact u,a.bk _ _ m,n.keeps a.bk,T.keeps a.bk,λh' w b=>?_⟩);obtain⟨tt,y,_,_⟩:=b.there;have A:Inv X NI Z H1 {s1 with heap:=h'}:=a.kept (t':=s1.toks) b.keeps;exact d NI Z H1 _ w (.ref C) none A ⟨_,_,y,rfl,rfl,rfl,rfl,.inl rfl⟩ (a.oldNone b.new (by rw[g];simp)) (λp B z=>by
  have e:=(a.pin p B).1;rw[z,b.new] at e;cases e) (a.hok.none_of' b.new) v
end
end L2
end
section
namespace L2
open PySem PySem.Spec PyProof.Rows
def clsIn(K:W.Frag)(C:Addr):Option (List Value):=match K.lookup C with
 |some ⟨.type "type",_,.cls cd,sl⟩=>(match cd.mro,sl.toList with
  |.ref a::bm,[_,_,_,_,some (.builtin n),_]=>if a==C&&n=="ValueError.__new__"&&!cd.hasDel then some bm else none
  |_,_=>none)
 |_=>none
theorem rJ{C:Addr}{h:Heap}{bm:List Value}(X:K.In h)(q:clsIn K C=some bm) :
  ∃N nm q bs hdct sn sub ab col dd k0 k1 k2 k3 k5,h.get? C=some (excClassObj nm q C N bs bm hdct sn sub ab col dd k0 k1 k2 k3 k5 "ValueError.__new__"):=by
 unfold clsIn at q
 split at q
 .rename_i dd cd sl d
  split at q
  .rename_i g i k0 k1 k2 k3 n k5 hm a
   split at q
   .rename_i b;simp only[eF,beq_iff_eq,Ka] at b;obtain⟨⟨rfl,rfl⟩,c⟩:=b;cases q;obtain⟨nm,bs,mro,ns,e,hd,sn,sub,ab,col,del⟩:=cd;dsimp only at hm c;subst hm c;have f:sl=#[k0,k1,k2,k3,some (.builtin "ValueError.__new__"),k5]:=by
     cases sl;simp only at a;rw[a]
    subst f;exact⟨ns,nm,e,bs,hd,sn,sub,ab,col,dd,k0,k1,k2,k3,k5,X _ _ d⟩
   cases q
  cases q
 cases q
theorem CB{M:Model}{Q:Bool->Shared->Prop}{e C Ch:Addr}{b:Obj}{nm q:Str}{N:Addr}{bs bm:List Value}{hdct:Bool}{sn:List Str}{sub:List Value}{ab:Bool}{col:Option Bool}{dd:Option Addr}{k0 k1 k2 k3 k5:Option Value}{newId:String}
  {j l:Str} {m:Addr} {n a:List Value} {o:Bool} {p:List Str} {r:List Value} {u:Bool} {v:Option Bool} {w:Option Addr} {x y z B D:Option Value} {H:String}
  (c:s.heap.get? C=some (excClassObj nm q C N bs bm hdct sn sub ab col dd k0 k1 k2 k3 k5 newId)) (i:s.heap.get? Ch=some (excClassObj j l Ch m n a o p r u v w x y z B D H))
  (he:s.heap.get? e=some b) (I:b.cls=.ref C) (K:a.contains (.type "BaseException")=true) (hm:(Value.ref C::bm).contains (.ref Ch)=true) (L:Q true s) :
  wpAny M A (excMatches (.ref e) (.ref Ch)) Q E s:=by
 obtain⟨h,g,d,t,os⟩:=s;have O:(Value.ref Ch::a).contains (.type "BaseException")=true:=by rw[Kr,K,Kb]
 have f:=tc_notTuple;unfold excMatches
 repeat (first|(with_reducible refine jB he ?_;rw[I])|with_reducible refine jB i ?_|with_reducible refine jB c ?_|(with_reducible refine uf i ?_;rw[O])|(with_reducible refine uf c ?_;rw[hm])|wp_step)
 exact L
def dz(x:Addr)(cls:Value)(d:Option Addr):HO:=.ext λh=>∃(a:Obj)(vs:Array Value),h.get? x=some a/\a.cls=cls/\a.dict=d/\a.data=.fields vs/\vs[2]?=some .none
theorem FM{h:Heap}{x:Addr}{cls:Value}{d:Option Addr}(e:Exc h x cls d):aV P w H h x (dz x cls d):=by obtain⟨c,vs,h1,h2,f,g,i,_⟩:=e;refine⟨⟨c,vs,h1,h2,f,g,i⟩,⟨c,h1⟩,λa b p k=>?_⟩;obtain⟨c,vs,h1,h2,f,g,i⟩:=p;exact⟨c,vs,k c h1,h2,f,g,i⟩
abbrev lM(X:Cx)(x:Addr):Cx:={X with A:=X.A.mark (some (.ref x)),calm:=false,xe:=λ_ _=>False}
section
theorem Inv.suite(I:Inv X NI Z H s)(x:Addr):Inv (lM X x) NI Z H s:=
 ⟨⟨I.ok.mod,I.ok.kind,I.ok.glob,I.ok.blt,I.ok.above,I.ok.inj,I.ok.has,I.ok.cab,(λz=>absurd z (by show ¬(false=true);decide)),I.ok.frames,I.ok.stk,I.ok.exf,I.ok.bs,I.ok.bsz,I.ok.noex,I.ok.exfs,I.ok.funs,I.ok.frf⟩,I.os,I.bare,I.base,I.loc,I.cell,I.free,I.freeC,I.pin,I.hok,I.len⟩
theorem Inv.unsuite{x:Addr}(J:Inv (lM X x) NI Z H s)(ok:X.Ok):Inv X NI Z H s:=⟨ok,J.os,J.bare,J.base,J.loc,J.cell,J.free,J.freeC,J.pin,J.hok,J.len⟩
theorem Inv.forget(I:Inv X NI Z H s):Inv X NI (List.replicate X.N.length none) H s:=by
 refine⟨I.ok,I.os,I.bare,I.base,?_,I.cell,I.free,I.freeC,I.pin,I.hok,by simp⟩;obtain⟨m,b,_⟩:=I.loc;refine⟨m,b,λi y v c a d=>?_⟩;rw[zE] at a
 split at a<;>cases a
theorem Inv.unname{i:Nat}{n:Str}{pos:Pos}{M:Model}{Q:Unit->Shared->Prop}(I:Inv X NI Z H s)(hN:X.N.Nodup)(hi:X.N[i]?=some n)(hl:X.env.scope.names.lookup n=some .local)
  (h:∀s',Inv X NI (Z.set i none) H s'->Q () s'):wpAny M A (do bindName X.env n .none;unbindBehindTheSuite X.env n pos) Q E s:=by
 refine aa (wpAny_bindName (oj I hN hi (.inl hl) (v:=.non) rfl (λs1 I1=>?_) (.inr hl)));unfold unbindBehindTheSuite;refine wpAny_onRaise ?_;have hcls:(X.env.scope.kind==.class||(X.env.scope.kind==.module&&X.env.locals != X.env.globals))=false:=by rw[I.ok.kind];rfl
 obtain⟨m,hn,hl1⟩:=id I1.loc;have hiσ:i<Z.length:=by rw[I.len];exact (aG.mp hi).1
 obtain⟨u,ru,lk⟩:=hl1 i n .non hi (by rw[tK hiσ]) (.inl hl);have hmn:m n=some u:=by
  rcases lk with ⟨_,z⟩|⟨z,_⟩
  .exact z
  have z:X.env.scope.names.lookup n=some .cell\/X.env.scope.names.lookup n=some .free:=z;rcases z with z|z<;>(rw[hl] at z;cases z)
 refine wpAny_unbindName_local hl hn hmn hcls λh' w' hn' hs=>h _ ?_;obtain⟨oL,_,_,hoL,_⟩:=id hn;have keepB:∀b o,b≠X.env.locals->s1.heap.get? b=some o->h'.get? b=some o:=λb o hb e=>(hs.2 b hb).trans e;have hok:HOk X.prog X.w H h':=λb ob e=>by
  refine (I1.hok b ob e).stay (λc w' hc q=>keepB c w' ?_ q) (λ_ q=>q) λ_ _ q=>q;rintro rfl;rcases hc with z|z
  .rw[<-z,I1.free] at e;cases e
  rw[I1.free] at z;cases z
 refine⟨I1.ok,I1.os,I1.bare,⟨λb o e n hb hx=>?_,λb o e n hb hx=>?_,I1.base.free,λb o e hx=>?_,I1.base.tups,I1.base.frzs,I1.base.tbls⟩,⟨_,hn',λj y v e1 e2 e3=>?_⟩,λy c e=>?_,I1.free,I1.freeC,λp hp=>?_,hok,?_⟩
 .exact keepB b o (bc (bP (aE e) I1.ok.above)) (I1.base.keep b o e n hb hx)
 .obtain⟨sl,z⟩:=I1.base.slot b o e n hb hx;exact⟨sl,keepB b _ (bc (bP (aE e) I1.ok.above)) z⟩
 .obtain⟨o',z⟩:=I1.base.there b o e hx;exact⟨o',keepB b _ (bc (bP (aE e) I1.ok.above)) z⟩
 .have hj:j≠i:=λz=>by
   subst z;rw[tK hiσ] at e2;cases e2
  rw[tJ (aB hj)] at e2;obtain⟨u',r',q⟩:=hl1 j y v e1 (by rw[tJ (aB hj)];exact e2) e3;refine⟨u',r',?_⟩;rcases q with ⟨k,e⟩|⟨k,c,e,z⟩
  .refine .inl ⟨k,?_⟩;have:y≠n:=λz=>hj (qQ hN e1 (z ▸ hi));simp[this,e]
  exact .inr ⟨k,c,e,z.sameBut hs (I1.cne y c e)⟩
 .obtain⟨w',z⟩:=I1.cell y c e;exact⟨w',z.sameBut hs (I1.cne y c e)⟩
 .obtain⟨e,n',ne,nf,d⟩:=I1.pin p hp;exact⟨(hs.2 p.1 ne).trans e,n',ne,nf,d⟩
 have:=I.len;simpa using this
end
section
variable {body suite:List Stmt}{b0:Stmt}{cx n:Str}{np hpos pos:Pos}{Ch:Addr}{bmh:List Value}{i:Nat}{tb:XK->TS}{ts:Addr->TS}
def sO(i:Nat)(D:Ends):Ends:={nx:=λZ H=>D.nx (Z.set i none) H,rt:=D.rt,bk:=λZ H=>D.bk (Z.set i none) H,ct:=λZ H=>D.ct (Z.set i none) H}
def tTry(K:W.Frag)(len:Nat)(Ch:Addr)(i:Nat)(tb:XK->TS)(ts:Addr->TS):TS:=λD Z H=>∃E:XK,tb E D Z H/\∀cls d H',E cls d H'->
 ∃a bm,cls=.ref a/\clsIn K a=some bm/\(Value.ref a::bm).contains (.ref Ch)=true/\∀x,H' x=none->ts x (sO i D) ((List.replicate len none).set i (some (.ref x))) (upd H' x (dz x cls d))
theorem land{D:Ends}{x:Addr}{cls:Value}{d:Option Addr}(hst:X.stack=X.env::X.outer/\X.env.frame=some X.env.locals)(hnx:X.ex=[])
  (hN:X.N.Nodup) (hi:X.N[i]?=some n) (hl:X.env.scope.names.lookup n=some .local) (hg:Gl X cx) (hm:X.mg cx=some (.ref Ch)) (hcl:clsIn X.K Ch=some bmh) (hbm:bmh.contains (.type "BaseException")=true)
  (hs:∀x,PSs (lM X x) (b0::suite) (ts x)) (hdb:(cx==("__debug__" : Str))=false) (I:Inv X NI Z H s) (hx:Exc s.heap x cls d) (hn:X.s₀.heap.get? x=none) (hpx:∀p∈X.pn++NI,p.1≠x) (hH:H x=none)
  (hq:∃Ce bm,cls=.ref Ce/\clsIn X.K Ce=some bm/\(Value.ref Ce::bm).contains (.ref Ch)=true/\∀x,H x=none->ts x (sO i D) ((List.replicate X.N.length none).set i (some (.ref x))) (upd H x (dz x cls d))) :
  wpAny (model X.prog X.w) X.A (noteFrame (.ref x) X.env) (λ_ s2=>wpAny (model X.prog X.w) X.A (setFlight (.ref x) none) (λ_ s3=>wpAny (model X.prog X.w) X.A (handleBy (.ref x) X.env [.ExceptHandler (some (.Name cx np)) (some n) (b0::suite) hpos]) (SP X NI D) X.xe s3) X.xe s2) X.xe s:=by
 obtain⟨Ce,bm,rfl,hce,hmt,ts0⟩:=hq;have hfr:X.A.frames=some (X.env::X.outer):=by rw[<-hst.1];exact I.ok.frames
 have hfl:s.heap.FunFrames X.base (X.env::X.outer):=by rw[<-hst.1];exact I.stack
 refine xp hfr hfl hst.2 hx λh1 x1 L1=>?_;have nx0:∀b o,X.s₀.heap.get? b=some o->b≠x:=λb o e z=>by rw[z,hn] at e;cases e
 have hxl:x≠X.env.locals:=λz=>by
  obtain⟨m,⟨o,es,ep,ho,hd,_⟩,_⟩:=I.loc;obtain⟨oe,vs,he,_,_,hd',_⟩:=hx;rw[z,ho] at he;cases he;rw[hd] at hd';cases hd'
 have hxc:∀y c,X.env.cells.lookup y=some c->c≠x:=λy c e z=>by
  obtain⟨v,o,ho,hd⟩:=I.cell y c e;obtain⟨oe,vs,he,_,_,hd',_⟩:=hx;rw[z,he] at ho;cases ho;rw[hd'] at hd;cases hd
 have nfs:∀b,b∈frs (X.env::X.outer)->b∈X.env.locals::X.fs:=λb hb=>I.stkSub b (by rw[hst.1];exact hb);have I1:Inv X NI (List.replicate X.N.length none) (upd H x (dz x (.ref Ce) d)) {s with heap:=h1}:=by
  have J:=I.forget;have kp:∀b o,b≠x->b∉frs (X.env::X.outer)->s.heap.get? b=some o->h1.get? b=some o:=L1.keep;have nfr:∀b u,H b=some u->b∉frs (X.env::X.outer):=λb u e hb=>by
   have:=I.stkFree b (by rw[hst.1];exact hb);rw[e] at this;cases this
  have nex:∀b u,H b=some u->b≠x:=λb u e z=>by rw[z,hH] at e;cases e
  have hok:HOk X.prog X.w (upd H x (dz x (.ref Ce) d)) h1:=λb u e=>by
   by_cases hb:b=x
   .subst hb;rw[aP] at e;cases e;exact FM x1
   rw[ar hb] at e;refine (I.hok b u e).stay (λc v hc q=>?_) (λc q=>by rw[ar (nex c _ q)];exact q) λc xs q=>by rw[ar (nex c _ q)];exact q
   rcases hc with z|z
   .rw[z] at q |-;exact kp b v hb (nfr b u e) q
   exact kp c v (nex c _ z) (nfr c _ z) q
  refine⟨J.ok,J.os,J.bare,⟨λb o e n' hb hx'=>?_,λb o e n' hb hx'=>?_,λb o e n' hx'=>?_,λb o e hx'=>?_,λb xs e=>?_,λb o u e=>?_,λb ps e=>?_⟩,?_,λy c e=>?_,?_,λy c e=>?_,λp hp=>?_,hok,J.len⟩
  .refine kp b o (nx0 b o e) (λhm'=>?_) (I.base.keep b o e n' hb hx');rcases aK.mp (nfs b hm') with z|z
   .exact absurd (bP (aE e) I.ok.above) (by rw[z];exact de _)
   exact hb z
  .obtain⟨sl,z⟩:=I.base.slot b o e n' hb hx';obtain⟨sl',z'⟩:=L1.slot b _ (nx0 b o e) z;exact⟨sl',z'⟩
  .rw[ar (nx0 b o e)];exact I.base.free b o e n' hx'
  .obtain⟨o',z⟩:=I.base.there b o e hx';obtain⟨sl,z'⟩:=L1.slot b _ (nx0 b o e) z;exact⟨_,z'⟩
  .have q:=I.base.tups b xs e;rw[ar (nex b _ q)];exact q
  .have q:=I.base.frzs b o u e;rw[ar (nex b _ q)];exact q
  .obtain⟨more,q⟩:=I.base.tbls b ps e;exact⟨more,by rw[ar (nex b _ q)];exact q⟩
  .obtain⟨m,⟨o,es,ep,ho,r⟩,hl'⟩:=J.loc;obtain⟨sl,z⟩:=L1.slot _ o (aB hxl) ho;refine⟨m,⟨_,es,ep,z,r⟩,λj y v e1 e2 e3=>?_⟩;rw[zE] at e2
   split at e2<;>cases e2
  .obtain⟨v,o,ho,hd⟩:=I.cell y c e;obtain⟨sl,z⟩:=L1.slot c o (hxc y c e) ho;exact⟨v,_,z,hd⟩
  .rw[ar (aB hxl)];exact I.free
  .rw[ar (hxc y c e)];exact I.freeC y c e
  obtain⟨e,n',ne,nf,dd⟩:=I.pin p hp;refine⟨kp p.1 p.2 (hpx p hp) (λhm'=>?_) e,by rw[ar (hpx p hp)];exact n',ne,nf,dd⟩;rcases aK.mp (nfs p.1 hm') with z|z
  .exact ne z
  exact nf z
 obtain⟨N1,nm1,q1,bs1,hd1,sn1,sub1,ab1,col1,dd1,a0,a1,a2,a3,a5,hC⟩:=rJ I1.kIn hce;obtain⟨N2,nm2,q2,bs2,hd2,sn2,sub2,ab2,col2,dd2,b0',b1,b2,b3,b5,hHc⟩:=rJ I1.kIn hcl;obtain⟨oe,vs,he,hcl',_⟩:=id x1;refine wpAny_handleBy_cons (codeAny_handlers_test (iZ (I1.suite x) hg hm (CB hC hHc he hcl' hbm hmt ?_) hdb)) (λz=>nomatch z);show codeAny _ _ (.handlers (.ref x) [.ExceptHandler none (some n) (b0::suite) hpos] X.env) _ _;refine codeAny_handlers_suite_as (Cz x1 λh2 x2 same=>?_);have I2:Inv X NI (List.replicate X.N.length none) (upd H x (dz x (.ref Ce) d)) {s with heap:=h2}:=I1.kept (t':=s.toks) λb o e=>(same b).trans e;refine oj I2 hN hi (.inl hl) (v:=.ref x) rfl (λs3 I3=>?_) (.inr hl);have run:=hs x NI s3 _ _ (sO i D) (I3.suite x) (ts0 x hH);refine cC run (λf s4 q4=>?_) λ_ _ z=>z.elim;have fin:∀{Z':St}{H':Hp},Inv (lM X x) NI Z' H' s4->(∀s',Inv X NI (Z'.set i none) H' s'->SP X NI D f s')->wpAny (model X.prog X.w) X.A (do bindName X.env n .none;unbindBehindTheSuite X.env n hpos) (λ_ s'=>SP X NI D f s') X.xe s4:=
  λJ k=>(J.unsuite I.ok).unname hN hi hl k
 cases f with
 |next=>obtain⟨Z',H',J,q⟩:=q4;exact fin J λs' J'=>⟨_,H',J',q⟩
 |brk=>obtain⟨Z',H',J,q⟩:=q4;exact fin J λs' J'=>⟨_,H',J',q⟩
 |cont=>obtain⟨Z',H',J,q⟩:=q4;exact fin J λs' J'=>⟨_,H',J',q⟩
 |ret v=>obtain⟨w',Z',H',J,r,q⟩:=q4;exact fin J λs' J'=>⟨w',_,H',J',r,q⟩
abbrev i_(X:Cx)(NI:List (Addr×Obj))(xe:Value->Shared->Prop):Cx:={X with pn:=X.pn++NI,xe:=xe}
theorem Inv.toBody{xe:Value->Shared->Prop}(I:Inv X NI Z H s):Inv (i_ X NI xe) [] Z H s:=
 ⟨⟨I.ok.mod,I.ok.kind,I.ok.glob,I.ok.blt,I.ok.above,I.ok.inj,I.ok.has,I.ok.cab,I.ok.hd,I.ok.frames,I.ok.stk,I.ok.exf,I.ok.bs,I.ok.bsz,I.ok.noex,I.ok.exfs,I.ok.funs,I.ok.frf⟩,I.os,I.bare,I.base,I.loc,I.cell,I.free,I.freeC,λp a=>I.pin p (by rw[fM] at a;exact a),I.hok,I.len⟩
theorem Inv.ofBody{NI a:List (Addr×Obj)}{xe:Value->Shared->Prop}(J:Inv (i_ X NI xe) a Z H s):Inv X NI Z H s:=
 ⟨⟨J.ok.mod,J.ok.kind,J.ok.glob,J.ok.blt,J.ok.above,J.ok.inj,J.ok.has,J.ok.cab,J.ok.hd,J.ok.frames,J.ok.stk,J.ok.exf,J.ok.bs,J.ok.bsz,J.ok.noex,J.ok.exfs,J.ok.funs,J.ok.frf⟩,J.os,J.bare,J.base,J.loc,J.cell,J.free,J.freeC,λp b=>J.pin p (dC _ b),J.hok,J.len⟩
theorem Hl(m:X.stack=X.env::X.outer/\X.env.frame=some X.env.locals)(g:X.ex=[])(o:X.N.Nodup)(hi:X.N[i]?=some n)(u:X.env.scope.names.lookup n=some .local)(y:Gl X cx)(hm:X.mg cx=some (.ref Ch))
  (B:clsIn X.K Ch=some bmh) (C:bmh.contains (.type "BaseException")=true)
  (P:∀(NI:List (Addr×Obj))(xe:Value->Shared->Prop)(E:XK),Passes (CX1 X.prog X.w) (i_ X NI xe) E->Lets (i_ X NI xe) E->PSs (i_ X NI xe) body (tb E))
  (L:∀x,PSs (lM X x) (b0::suite) (ts x)) (M:(cx==("__debug__" : Str))=false:=by decide) :
  PS X (.Try body [.ExceptHandler (some (.Name cx np)) (some n) (b0::suite) hpos] [] [] pos) (tTry X.K X.N.length Ch i tb ts):=by
 rintro NI s Z H D I ⟨E,Q,O⟩;refine wpAny_Try_except ?_;have R:Passes (CX1 X.prog X.w) (i_ X NI λe s1=>wpAny (model X.prog X.w) X.A (noteFrame e X.env) (λ_ s2=>wpAny (model X.prog X.w) X.A (setFlight e none) (λ_ h=>wpAny (model X.prog X.w) X.A (handleBy e X.env [.ExceptHandler (some (.Name cx np)) (some n) (b0::suite) hpos]) (SP X NI D) X.xe h) X.xe s2) X.xe s1) E:=by rintro S Z' H' s' e ab J ⟨x,cls,d,H2,rfl,hx,a,j,os,bare,un,hok,q⟩;have T:=J.call' (ch:=[]) os un hok bare (λb z=>absurd z (by simp));refine land m g o hi u y hm B C L M T.ofBody hx (J.ofBody.oldNone a (by rw[g];simp)) (λp l z=>?_) j (O _ _ _ q);have e:=(J.pin p (dC _ l)).1;rw[z,a] at e;cases e
 have U:Lets (i_ X NI λe s1=>wpAny (model X.prog X.w) X.A (noteFrame e X.env) (λ_ s2=>wpAny (model X.prog X.w) X.A (setFlight e none) (λ_ h=>wpAny (model X.prog X.w) X.A (handleBy e X.env [.ExceptHandler (some (.Name cx np)) (some n) (b0::suite) hpos]) (SP X NI D) X.xe h) X.xe s2) X.xe s1) E:=
  λS Z' H' s' x cls d J hx a l j q=>land m g o hi u y hm B C L M J.ofBody hx a (λp Y=>l p (dC _ Y)) j (O _ _ _ q)
 have run:=P NI _ E R U [] s Z H D I.toBody Q;refine cC run (λf s1 c=>?_) λ_ _ z=>z;cases f with
 |next=>
  obtain⟨Z',H',J,q⟩:=c;exact qi ⟨Z',H',J.ofBody,q⟩
 |brk=>obtain⟨Z',H',J,q⟩:=c;exact⟨Z',H',J.ofBody,q⟩
 |cont=>obtain⟨Z',H',J,q⟩:=c;exact⟨Z',H',J.ofBody,q⟩
 |ret v=>obtain⟨w',Z',H',J,r,q⟩:=c;exact⟨w',Z',H',J.ofBody,r,q⟩
end
end L2
end
section
namespace L2
open PySem PySem.Spec PyProof.Rows
section
def pH(z:Str):Bool:=decide (z.length>0)&&z.cps.all Unicode.isDigit
def Dq:V->List V->Hp->VK->Prop:=λx vs H Q=>∃z,x=.str z/\vs=[]/\Q (.bl (pH z)) H
theorem BA:MtR X "str.isdigit" Dq:=by intro NI s Z H x vs v us Q I a b h;obtain⟨z,rfl,rfl,q⟩:=h;obtain⟨t,rfl⟩:=a;cases b.zero;exact Ak F.slot_str_isdigit (gW s z t) F.entry_str_isdigit (F.args_str_isdigit_1 _) (gives_str_isdigit z t) ⟨.bl (pH z),H,I,rfl,q⟩
def Dr:V->List V->Hp->VK->Prop:=λx vs H Q=>∃z,x=.str z/\vs=[]/\Q (.bl (z.cps.all (· < 128))) H
theorem BB:MtR X "str.isascii" Dr:=by intro NI s Z H x vs v us Q I a b h;obtain⟨z,rfl,rfl,q⟩:=h;obtain⟨t,rfl⟩:=a;cases b.zero;exact Ak F.slot_str_isascii (gW s z t) F.entry_str_isascii (F.args_str_isascii_1 _) (gives_str_isascii z t) ⟨.bl (z.cps.all (· < 128)),H,I,rfl,q⟩
def A9:V->List V->Hp->VK->Prop:=λx vs H Q=>∃z y,x=.str z/\vs=[.str y]/\Q (.bl (decide (0+y.length<=z.length)&&Builtin.Str.subAt z y 0)) H
theorem AN:MtR X "str.startswith" A9:=by intro NI s Z H x vs v us Q I a b h;obtain⟨z,y,rfl,rfl,q⟩:=h;obtain⟨t,rfl⟩:=a;obtain⟨u,rfl,t',rfl⟩:=b.one;exact Ak F.slot_str_startswith (gW s z t) F.entry_str_startswith (F.args_str_startswith_2 _ _) (gives_str_startswith z y t t') ⟨.bl _,H,I,rfl,q⟩
def txt(l:List Nat):Str:=⟨l.toArray⟩
theorem gi(l:List Nat):(txt l).cps.toList=l:=by simp[txt]
theorem bE(l:List Nat):(txt l).length=l.length:=by simp[txt,Str.length]
theorem wD(z:Str):txt z.cps.toList=z:=by cases z;simp[txt]
theorem wC{a b:List Nat}(h:txt a=txt b):a=b:=by have:=congrArg (λz:Str=>z.cps.toList) h;simpa [txt] using this
theorem iT(a b:List Nat):txt a++txt b=txt (a++b):=by show (⟨a.toArray++b.toArray⟩:Str)=⟨(a++b).toArray⟩;simp
def eC{α:Type}(xs:List α)(lo hi:Option Int):List α:=(xs.drop (HT.sIx xs.length 0 lo)).take (HT.sIx xs.length xs.length hi-HT.sIx xs.length 0 lo)
theorem Bq(lo hi:Option Int)(n:Nat):Builtin.Str.strSliceIndices lo hi 1 n=sliceRange ((HT.sIx n 0 lo:Nat):Int) ((HT.sIx n n hi:Nat):Int) 1:=by
 have c:∀(o:Option Int)(d:Nat),(match o with|none=>(d:Int)|some i=>max 0 (min (if i<0 then i+(n:Int) else i) (n:Int)))=((HT.sIx n d o:Nat):Int):=by
  intro o d;cases o with
  |none=>rfl
  |some i=>
   show max 0 (min (if i<0 then i+(n:Int) else i) (n:Int))=(((if i<0 then (i+(n:Int)).toNat else min i.toNat n):Nat):Int)
   split<;>lia
 have c1:=c lo 0;have c2:=c hi n;rw[<-c1,<-c2];cases lo<;>cases hi<;>rfl
theorem Bp(l:List Nat)(t:Tok)(lo hi:Option (Int×Tok)){Q:Value->Shared->Prop}(f:l.length<=sizeLine)(h:∀t' k,Q (.str (txt (eC l (lo.map (·.1)) (hi.map (·.1)))) t') {s with toks:=k}) :
  (sliceMade (txt l) t lo hi none).post Q s:=by
 have b:slicePicked (txt l) lo hi none=(List.range (HT.sIx l.length l.length (hi.map (·.1))-HT.sIx l.length 0 (lo.map (·.1)))).map (HT.sIx l.length 0 (lo.map (·.1)) + ·):=by unfold slicePicked;show Builtin.Str.strSliceIndices _ _ 1 _=_;rw[bE,Bq,LQ]
 have c:(slicePicked (txt l) lo hi none).filterMap ((txt l).cps[·]?)=eC l (lo.map (·.1)) (hi.map (·.1)):=by rw[b];have:=pick_run (txt l).cps (HT.sIx l.length 0 (lo.map (·.1))) (HT.sIx l.length l.length (hi.map (·.1))-HT.sIx l.length 0 (lo.map (·.1)));rw[this,gi];rfl
 have g:HT.sIx l.length l.length (hi.map (·.1))<=l.length:=HT.sIx_le _ _ (ak _) _;have ha:HT.sIx l.length 0 (lo.map (·.1))<=l.length:=HT.sIx_le _ _ (aJ _) _;unfold sliceMade
 split
 .rename_i d;simp only[eF,beq_iff_eq] at d;have a:=d.2;rw[b,ao,ny,bE] at a;have e:eC l (lo.map (·.1)) (hi.map (·.1))=l:=by
   unfold eC;have:HT.sIx l.length 0 (lo.map (·.1))=0:=by lia
   rw[this] at a |-;rw[pX,a,bV]
  rw[e] at h;exact h t s.toks
 refine⟨?_,?_⟩
 .show (List.filterMap _ _).toArray.size<=_;rw[a_,c];unfold eC;rw[bf,eV];lia
 rw[c];exact h s.toks (s.toks+1)
def rSlS:V->Option Int->Option Int->Hp->VK->Prop:=λx lo hi H Q=>∃l,x=.str (txt l)/\l.length<=sizeLine/\Q (.str (txt (eC l lo hi))) H
theorem v8{v:Value}{o:Option Int}(h:IsPart v o):∃p:Option (Int×Tok),v=partValue p/\p.map (·.1)=o:=by
 cases h with
 |none=>exact⟨none,rfl,rfl⟩
 |int i t=>exact⟨some (i,t),rfl,rfl⟩
theorem oV:SlR X rSlS:=by intro NI s Z H x v g i lo hi sl Q I b c pl pu h;obtain⟨l,rfl,d,q⟩:=h;obtain⟨t,rfl⟩:=b;obtain⟨al,rfl,e⟩:=v8 pl;obtain⟨a,rfl,f⟩:=v8 pu;refine⟨"str",_,LU.lookup,gW s _ t,wpAny_getItem_str_slice (l:=al) (u:=a) (st:=none) c rfl (Bp l t al a d λt' k=>?_)⟩;rw[e,f];exact⟨.str _,H,I.tok _,⟨_,rfl⟩,q⟩
theorem ur:∀(xs:List Str)(t:Nat),Vals (xs.map λz=>V.str z) (strsFrom t xs)
 | [],_=>.nil
 |x::r,t=>.cons ⟨_,rfl⟩ (ur r (t+1))
theorem Bw(z:Str)(a:List Nat)(w:Nat):(Builtin.Str.partsBetween z a w).length=a.length+1:=by unfold Builtin.Str.partsBetween;simp
end
section
theorem vJ:∀{ls:List (List Nat)}{us:List Value},Vals (ls.map λl=>V.str (txt l)) us->∃l:List (Str×Tok),us=strValues l/\l.map (·.1)=ls.map txt
 | [],_,r=>by cases r;exact⟨[],rfl,rfl⟩
 |l::ls,_,r=>by
  cases r with
  |cons a b=>
   obtain⟨t,rfl⟩:=a;obtain⟨p,rfl,e⟩:=vJ b;exact⟨(txt l,t)::p,rfl,by simp[e]⟩
theorem nS:cu X (.type "int") (λxs H Q=>∃l:List Nat,xs=[.str (txt l)]/\NumText.AllDigits l/\l≠[]/\l.length<=640/\Q (.int ((NumText.digitsVal l:Nat):Int)) H):=by intro NI s Z H xs us Q I r h;obtain⟨l,rfl,hd,a,b,q⟩:=h;obtain⟨u,rfl,t,rfl⟩:=vals1 r;refine Nc (n:=((NumText.digitsVal l:Nat):Int)) ?_ (by rw[bE];exact b) ⟨.int _,H,I.tok _,⟨_,rfl⟩,q⟩;have:=intText_digits (x:=txt l) (by rw[gi];exact hd) (by rw[gi];exact a) (by rw[bE];lia);rw[gi] at this;exact this
def rFmt:V->Hp->VK->Prop:=λx H Q=>∃z,((x=.str z/\z.length<=sizeLine)\/∃i:Int,x=.int i/\i.natAbs.log2<1920/\z=(toString i:String))/\Q (.str z) H
theorem ym{e:Expr}{te:TE}{pos:Pos}(he:PE X e te):PE X (.FormattedValue e (-1) none pos) (tUn rFmt te):=by
 intro NI s Z H Q I h;refine wpAny_FormattedValue_plain (thn (he NI s Z H _ I h) λv s1 ⟨x,H1,a,c,z,d,q⟩=>?_);rcases d with ⟨rfl,b⟩|⟨i,rfl,b,rfl⟩
 .obtain⟨t,rfl⟩:=c;exact Ma ⟨.str z,H1,a,⟨_,rfl⟩,q⟩ ⟨.str z,H1,a.tok _,⟨_,rfl⟩,q⟩ b
 obtain⟨t,rfl⟩:=c;exact wpAny_formatField_int b ⟨.str _,H1,a.tok _,⟨_,rfl⟩,q⟩
abbrev TJ:=St->Hp->Str->(Str->Hp->Prop)->Prop
def PJ(X:Cx)(es:List Expr)(t:TJ):Prop:=
 ∀(NI:List (Addr×Obj))(s:Shared)(Z:St)(H:Hp)(acc:Str)(Q:Str->Hp->Prop),Inv X NI Z H s->t Z H acc Q->
  Joins (model X.prog X.w) X.A X.xe (evalEach es X.env) acc (λout s'=>∃H',Inv X NI Z H' s'/\Q out H') s
def IR:TJ:=λ_ H acc Q=>Q acc H
def Gf(te:TE)(t:TJ):TJ:=λZ H acc Q=>te Z H λx H1=>∃z,x=.str z/\(acc++z).length<=sizeLine/\t Z H1 (acc++z) Q
theorem yj:PJ X [] IR:=λ_ _ _ H _ _ I h=>⟨H,I,h⟩
theorem lI{e:Expr}{es:List Expr}{te:TE}{t:TJ}(he:PE X e te)(a:PJ X es t)(b:evalEach (e::es) X.env=eval e X.env::evalEach es X.env:=by rfl):PJ X (e::es) (Gf te t):=by intro NI s Z H acc Q I h;rw[b];show wpAny _ _ (eval e X.env) _ _ s;refine thn (he NI s Z H _ I h) λv s1 ⟨x,H1,c,d,z,hx,f,q⟩=>?_;subst hx;obtain⟨t,rfl⟩:=d;exact⟨z,t,rfl,f,a NI s1 Z H1 (acc++z) Q c q⟩
def EE(t:TJ):TE:=λZ H Q=>t Z H Str.empty λout H'=>out.length<=sizeLine/\Q (.str out) H'
theorem xo{c d:Expr}{rest:List Expr}{t:TJ}{pos:Pos}(h:PJ X (c::d::rest) t):PE X (.JoinedStr (c::d::rest) pos) (EE t):=by
 intro NI s Z H Q I f;refine wpAny_JoinedStr ?_;have j:=h NI s Z H Str.empty _ I f;have mono:∀(parts:List (Sem Value))(acc:Str)(Q a:Str->Shared->Prop)(s:Shared),(∀o s',Q o s'->a o s')->Joins (model X.prog X.w) X.A X.xe parts acc Q s->Joins (model X.prog X.w) X.A X.xe parts acc a s:=by
  intro parts;induction parts with
  |nil=>intro acc Q a s k z;exact k _ _ z
  |cons p r g=>
   intro acc Q a s k z;refine cC z (λv s1 ⟨y,t,e,b,q⟩=>⟨y,t,e,b,g _ _ _ _ k q⟩) λ_ _ x=>x
 refine mono _ _ _ _ _ (λout s' ⟨H',i,b,q⟩=>⟨b,.str out,H',i.tok _,⟨_,rfl⟩,q⟩) j
def Its(l:List Nat):It:=⟨λi _=>i<l.length,λi H x H'=>H'=H/\∃c,l[i]?=some c/\x=.str (txt [c]),λi _=>l.length<=i⟩
theorem CU{tg:Expr}(it:Addr)(l:List Nat)(t:Tok):Turn P w K tg (Its l) [it] it (λi h=>h.IsStrIter it "str_ascii_iterator" (txt l) t i) where
 mem:=by simp
 obj:=λi h st b f=>by
  have e:b=it:=by simpa using f
  subst e;obtain⟨o,e,c,d⟩:=st;exact⟨o,e,λv z=>by rw[d] at z;cases z⟩
 keep:=λi h h' st k=>let ⟨o,A,r⟩:=st;⟨o,k it (by simp) o A,r⟩
 item:=by intro X g hw j x i NI s Z H E I hf st a;subst g hw j;have a:i<l.length:=a;obtain⟨m,n,B,p,q,u⟩:=hf it (by simp);refine wpAny_pyNext_ascii_item st (c:=l[i]) (by simp[txt,a]) λh' y sb=>?_;have C:Inv X NI Z H {s with heap:=h',toks:=s.toks+1}:=I.turned (λb o f e=>(sb.2 b f).trans e) m n p q u;obtain⟨o,e,c,d⟩:=id y;exact⟨_,rfl,mG (s:={s with heap:=h',toks:=s.toks+1}) e c d (by decide) ⟨.str (txt [l[i]]),H,C,⟨_,rfl⟩,⟨rfl,l[i],by simp[a],rfl⟩,y,λb f=>(hf b f).1⟩⟩
 done:=by intro X g hw j x i NI s Z H E I hf st a;subst g hw j;have a:l.length<=i:=a;obtain⟨m,n,B,p,q,u⟩:=hf it (by simp);exact wpAny_pyNext_ascii_end (I.ok.hd x) st (by simp[txt,a]) λh' D=>⟨rfl,I.turned (t':=s.toks) (λb o f e=>D b o f e) m n p q u⟩
 self:=λ_ _ _ _ _ st h=>wpAny_pyIter_striter_ascii st h
def iStr(tl:TE):TI:=λZ H R=>tl Z H λx H1=>∃l,x=.str (txt l)/\(∀c∈l,c<128)/\R (Its l) H1
theorem Hm{tg e:Expr}{tl:TE}(d:PE X e tl):PI X tg e (iStr tl):=by
 intro NI s Z H R I h;refine thn (d NI s Z H _ I h) λv s1 ⟨x,H1,a,f,l,hx,ha,q⟩=>?_;subst hx;obtain⟨t,rfl⟩:=f;refine wpAny_pyIter_ascii (by
  rw[<-zp,gi,fK];exact λc g=>NF (ha c g)) ?_
 refine⟨s1.heap.objs.size,[s1.heap.objs.size],_,_,H1,rfl,a.kept (t':=s1.toks) λb o e=>aI _ e,CU _ l t,⟨_,bq _ rfl,rfl,rfl⟩,λb i=>?_,q⟩;have e:b=s1.heap.objs.size:=by simpa using i
 subst e;exact a.fpOk (ak _) (a.hok.fresh (ak _))
end
section
variable {D:Addr}{g:TG}{tt:TT}{te:TE}{Z':St}{H1:Hp}{Q:Hp->Prop}
end
section
variable {k:Nat}{f ex:Addr}{ps:List Str}{sp:Sp}{dvs:List V}{ds:List Value}{x:Str}{p pos:Pos}{e:Expr}{es:List Expr}{t:TA}
end
theorem Fun.ok1{x qual:Str}{st:Stmt}{f:Addr}{N ps:List Str}{k:Nat}{sp:Sp}(F:Fun K x qual st f fd)(S:a7 N ps (aC st))(len:∀vs H Q E,sp vs H Q E->vs.length=ps.length)
  (b:∀(a:Value)(A:Around)(outer:List Env)(s:Shared)(H:Hp)(vs:List V)(Q:VK)(E:XK),Room k (A.deeper (envOfC qual (aC st) s.heap.objs.size f a))->sp vs H Q E->
   ∃t,PSs (dw (CX1 P w) P w K mg base N qual (aC st) f a A outer s H E) (cT st) t/\t {nx:=λ_ H'=>Q .non H',rt:=Q} (start N vs) H):aj P w K mg base (CX1 P w) (k+1) f fd ps sp:=by
 obtain⟨g,od,kV,doc,pm,an,a,ct,h,rfl,lk,c⟩:=F.ex;exact zj lk c S len λA outer s H vs Q E d e=>b a A outer s H vs Q E d e
end L2
end
section
namespace K51
open PySem L2
def dig(c:Nat):Bool:=decide (48<=c)&&decide (c<=57)
def digits(n:Nat):List Nat:=(Nat.toDigits 10 n).map Char.toNat
def fig(l:List Nat):Bool:=!l.isEmpty&&l.all dig&&(l==[48]||l.head? != some 48)
def val(l:List Nat):Nat:=NumText.digitsVal l
theorem oN{c:Nat}:dig c=true↔48<=c/\c<=57:=by simp[dig]
theorem jQ{l:List Nat}(h:fig l=true):∀c∈l,dig c=true:=by unfold fig at h;simp only[eF,fK] at h;exact h.1.2
theorem uO(n:Nat):∀c∈digits n,dig c=true:=by intro c a;obtain⟨ch,b,e⟩:=ay.mp a;have r:=MA (Nat.isDigit_of_mem_toDigits (by decide) (by decide) b);rw[<-e];exact oN.mpr r
theorem qo{n:Nat}(h:n<10):digits n=[48+n]:=by
 unfold digits;rw[Nat.toDigits_of_lt_base h];have:∀d:Nat,d<10->(Nat.digitChar d).toNat=48+d:=by decide
 simp[this n h]
theorem Bf{n:Nat}(h:10<=n):digits n=digits (n/10)++[48+n%10]:=by have hm:n%10<10:=jq n (by decide);have t:Nat.toDigits 10 (n/10)++Nat.toDigits 10 (n%10)=Nat.toDigits 10 (10*(n/10)+n%10):=Nat.toDigits_append_toDigits (by decide) (by lia) hm;rw[Nat.div_add_mod] at t;rw[<-qo hm];unfold digits;rw[<-t,aQ]
theorem kI:∀(m n:Nat),n<10 ^ (m+1)->(digits n).length<=m+1
 |0,n,h=>by
  rw[qo (by simpa using h)];simp
 |m+1,n,h=>by
  by_cases a:n<10
  .rw[qo a];simp
  rw[Bf (by lia),aL,bY];have:=kI m (n/10) (by rw[zV] at h;lia);lia
theorem oA(n:Nat):((toString ((n:Nat):Int):String):Str)=txt (digits n):=by rw[<-wD (Str.ofString (toString ((n:Nat):Int))),Nf];rfl
def asc(l:List Nat):Prop:=∀c∈l,c<128
theorem FP{c:Nat}(h:dig c=true):c<128:=by have:=oN.mp h;lia
end K51
end
section
namespace L2
open PySem PySem.Spec PyProof.Rows
def Jt:R2:=λx y H Q=>∃(l:List Nat)(k:Int),x=.str (txt l)/\y=.int k/\-(2 ^ 63)<=k/\k<2 ^ 63/\l.length*k.toNat<=sizeLine/\Q (.str (txt (List.replicate k.toNat l).flatten)) H
theorem uM(l:List Nat):∀(n:Nat)(acc:List Nat),(List.replicate n l.toArray).foldl (·++·) acc.toArray=(acc++(List.replicate n l).flatten).toArray
 |0,acc=>by simp
 |n+1,acc=>by
  rw[gP,jn,List.append_toArray,uM l n (acc++l),gP,gG,dX]
section
theorem Fi:OpR X (binaryOp .Mult) Jt:=by
 intro NI s Z H x y v u Q I c d h;obtain⟨l,k,rfl,rfl,h1,h2,a,q⟩:=h;obtain⟨t,rfl⟩:=c;obtain⟨t',rfl⟩:=d;have b:(txt l).length=l.length:=bE l;refine P.mul_str ?_ ?_ ?_ ?_
 .rw[NG (by lia),NG (by lia)];rfl
 .intro f g;rw[b];have i:1<=k:=by lia
  intro j;have e:(2 ^ 63-1:Int)/k*k<=2 ^ 63-1:=Int.ediv_mul_le _ (by lia);have m:(2 ^ 63-1:Int)<((2 ^ 63-1:Int)/k+1)*k:=Int.lt_ediv_add_one_mul_self _ (by lia);have n:((2 ^ 63-1:Int)/k+1)*k<=(l.length:Int)*k:=Int.mul_le_mul_of_nonneg_right (by lia) (by lia);have o:((l.length*k.toNat:Nat):Int)=(l.length:Int)*k:=by rw[zw,dW (by lia)]
  rw[dg] at a;lia
 .intro _ _;rw[b];unfold Builtin.Str.tooLong;simpa using a
 have give:∀(z:Str),z=txt (List.replicate k.toNat l).flatten->z.length<=sizeLine:=λz e=>by
  rw[e,bE,List.length_flatten];simpa [zU] using a
 by_cases c1:k<1
 .rw[ND c1];have e:Str.empty=txt (List.replicate k.toNat l).flatten:=by
   rw[show k.toNat=0 by lia];rfl
  refine⟨by decide,?_⟩;rw[e];exact⟨.str _,H,I.tok _,⟨_,rfl⟩,q⟩
 rw[NC c1];by_cases c2:(k==1||(txt l).length==0)=true
 .rw[ND c2];have e:txt l=txt (List.replicate k.toNat l).flatten:=by
   rw[b] at c2;rcases Bool.or_eq_true_iff.mp c2 with z|z
   .have:k=1:=by simpa using z
    subst this;simp
   have:l=[]:=by simpa using z
   subst this;simp
  refine⟨.str (txt l),H,I,⟨_,rfl⟩,?_⟩;rw[e];exact q
 rw[NC c2];have e:(⟨(List.replicate k.toNat (txt l).cps).foldl (·++·) #[]⟩:Str)=txt (List.replicate k.toNat l).flatten:=by
  have:=uM l k.toNat [];rw[p6] at this;show (⟨_⟩:Str)=⟨_⟩
  congr 1
 refine⟨give _ e,?_⟩;rw[e];exact⟨.str _,H,I.tok _,⟨_,rfl⟩,q⟩
end
end L2
end
section
namespace L2
open PySem PySem.Spec PyProof.Rows PySem.W
structure jb(K:W.Frag)(D:Addr):Prop where
 ga:W.findIn K (.ref D) "__getattribute__" = some (some (.builtin "BaseException.__getattribute__"))
 ha:W.findIn K (.ref D) "__getattr__" = some none
 cl:W.findIn K (.ref D) "__class__" = some (some (.builtin "object.__class__"))
 gt:W.specialIn K (.builtin "object.__class__") "__get__" = some (some (.builtin "getset_descriptor.__get__"))
 tk:W.takesIn K (.builtin "object.__class__")=some true
 mo:W.mroIn K D (.type "object")=some true
 mb:W.mroIn K D (.type "BaseException")=some true
 cd:(W.clsIn K D).isSome=true
section
variable {prog:Program}{x D:Addr}{ox:Obj}
end
section
theorem iS{c:String}:cu X (.builtin "isinstance") (λxs H Q=>∃(x:V)(ty:Value)(b:Bool),xs=[x,.ty c]/\cD X.K H x ty/\W.kitOne X.K ty (.type c)=some b/\Q (.bl b) H):=by intro NI s Z H xs us Q I r h;obtain⟨x,ty,b,rfl,a,e,q⟩:=h;obtain⟨u,d,rfl,f,g⟩:=vals2 r;cases (show d=Value.type c from g);exact Cn I f a e λtk=>⟨.bl b,H,I.tok _,rfl,q⟩
end
end L2
end
section
namespace K51
open PySem L2
theorem vH:∀c:Nat,c<128->Unicode.isDigit c=dig c:=by decide +kernel
theorem CP{l:List Nat}(h:asc l):(txt l).cps.all (· < 128)=true:=by rw[<-zp,gi,fK];exact λc a=>NF (h c a)
theorem Cp{l:List Nat}(h:asc l):pH (txt l)=(!l.isEmpty&&l.all dig):=by
 unfold pH;rw[bE,<-zp,gi];have e:l.all Unicode.isDigit=l.all dig:=by rw[fH,fK,fK];exact⟨λq c a=>by rw[<-vH c (h c a)];exact q c a,λq c a=>by rw[vH c (h c a)];exact q c a⟩
 rw[e];cases l<;>simp
theorem s48:("0" : Str)=txt [48]:=by decide +kernel
theorem jR(a b:List Nat):decide (V.str (txt a)=V.str (txt b))=(a==b):=by
 rw[fH,decide_eq_true_eq,beq_iff_eq];constructor
 .intro h;injection h with h;exact wC h
 rintro rfl;rfl
structure cq(mg:Str->Option Value):Prop where
 len:mg "len" = none
 int:mg "int" = none
 str:mg "str" = none
 isi:mg "isinstance" = none
 range:mg "range" = none
 list:mg "list" = none
 tuple:mg "tuple" = none
 bool:mg "bool" = none
 all:mg "all" = none
 ve:mg "ValueError" = none
 rev:mg "reversed" = none
 enum:mg "enumerate" = none
theorem xE{α:Type}(l:List α)(a b:Nat):eC l (some (a:Int)) (some (b:Int))=(l.drop a).take (b-a):=by
 unfold eC;rw[HT.sIx_nat,HT.sIx_nat];by_cases h:a<=l.length
 .rw[p7 h];by_cases c:b<=l.length
  .rw[p7 c]
  rw[Nat.min_eq_right (by lia),iK (by rw[eV];lia),iK (by rw[eV];lia)]
 rw[Ku (show l.length<=a by lia),Ku (show l.length<=min a l.length by lia)];simp
theorem pA{α:Type}(l:List α)(b:Nat):eC l none (some (b:Int))=l.take b:=by have h:=xE l 0 b;unfold eC at h |-;rw[HT.sIx_none];simpa [HT.sIx] using h
theorem lh{α:Type}(l:List α)(a:Nat):eC l (some (a:Int)) none=l.drop a:=by have h:=xE l a l.length;rw[iK (by rw[eV];lia)] at h;rw[<-h];unfold eC;rw[HT.sIx_none,HT.sIx_nat,HT.sIx_nat,Nat.min_self]
theorem line5000:5010<=sizeLine:=by rw[dg];decide
theorem bQ{t:Addr}{o:HO}(h:H t=none):Same H (upd H t o):=λb u e=>by rw[ar (aq e h)];exact e
theorem iP{n:Nat}(h:n<10 ^ 160):((n:Nat):Int).natAbs.log2<1920:=by
 show n.log2<1920;by_cases a:n=0
 .subst a;decide
 exact (zR a).mpr (bP (nA h (show 10 ^ 160<2 ^ 600 by decide)) (p9 (by decide) (by decide)))
theorem gh{N:List Str}(nd:N.Nodup)(kind:scope.kind=.function)(b:scope.names.all (λy=>y.2 != .cell&&y.2 != .free)=true)
  (nm:scope.names.all (λy=>y.2 != .local||scope.names.lookup y.1==some .local)=true):eP X N (N.map λ_=>none) scope:=by
 have h1:∀y∈scope.names,y.2≠.cell/\y.2≠.free:=λy a=>by
  have:=fK.mp b y a;simpa using this
 refine⟨nd,by simp,kind,λy a=>(h1 y a).1,λy a e=>?_,λy a e=>absurd e (h1 y a).2,λj i x e _=>?_⟩
 .have:=fK.mp nm y a;rw[e] at this;simpa using this
 rw[aY] at e;cases q:N[j]? with
 |none=>rw[q] at e;cases e
 |some z=>rw[q] at e;cases e
theorem jf(a b:Int):decide (V.int a=V.int b)=decide (a=b):=by rw[fH];simp
end K51
end
section
namespace L2
open PySem PySem.Spec PyProof.Rows PySem.StrLaws
def inter(sep:List Nat):List (List Nat)->List Nat
 | []=>[]
 | [l]=>l
 |l::m::r=>l++sep++inter sep (m::r)
section
def yi(K:W.Frag):V->List V->Hp->VK->Prop:=λx vs H Q=>∃(sep:List Nat)(a:Addr)(ls:List (List Nat)),x=.str (txt sep)/\vs=[.ref a]/\SqL K H a (ls.map λl=>V.str (txt l))/\ls.flatten.length+(ls.length+1)*sep.length<=sizeLine/\Q (.str (txt (inter sep ls))) H
theorem wk(sep:List Nat):∀(ls:List (List Nat))(acc:List Nat),(ls.map txt).foldl (λ(acc:Array Nat) p=>acc++(txt sep).cps++p.cps) acc.toArray=(match ls with | []=>acc|_=>acc++sep++inter sep ls).toArray
 | [],acc=>by simp
 | [l],acc=>by simp[txt,inter]
 |l::m::r,acc=>by
  rw[aU,jn];have e:acc.toArray++(txt sep).cps++(txt l).cps=(acc++sep++l).toArray:=by simp[txt]
  rw[e,wk sep (m::r) (acc++sep++l)];simp[inter,dX]
theorem JR(sep:List Nat)(ls:List (List Nat)):Builtin.Str.glued (txt sep) (ls.map txt)=txt (inter sep ls):=by
 unfold Builtin.Str.glued;cases ls with
 |nil=>rfl
 |cons l ls=>
  have:=wk sep ls l;rw[aU,List.drop_one,List.tail_cons];show (⟨List.foldl _ (txt l).cps (ls.map txt)⟩:Str)=_;rw[show (txt l).cps=l.toArray from rfl,this];cases ls<;>rfl
theorem sumS(sep:List Nat)(ls:List (List Nat))(n:Nat):(ls.map txt).toArray.foldl (λ(a:Nat)(z:Str)=>a+z.length+(txt sep).length) n=n+ls.flatten.length+ls.length*sep.length:=by
 rw[<-Array.foldl_toList];show (ls.map txt).foldl _ n=_;induction ls generalizing n with
 |nil=>simp
 |cons l ls b=>
  rw[aU,jn,b,bE,bE,gG,aL,bz,p_];lia
theorem qH(sep:List Nat):∀ls:List (List Nat),(inter sep ls).length<=ls.flatten.length+ls.length*sep.length
 | []=>by simp[inter]
 | [l]=>by simp[inter]
 |l::m::r=>by
  have:=qH sep (m::r);show (l++sep++inter sep (m::r)).length<=_;rw[aL,aL,gG,aL,bz (as:=m::r),p_];lia
theorem wa:MtR X "str.join" (yi []):=by
 intro NI s Z H x vs v us Q I g i h;obtain⟨sep,a,ls,rfl,rfl,j,m,q⟩:=h;obtain⟨t,rfl⟩:=g;obtain⟨u,rfl,n⟩:=i.one;cases n;obtain⟨its,r,pl,w⟩:=I.list j;obtain⟨l,rfl,c⟩:=vJ r;have d:=sumS sep ls 0;rw[<-c] at d;have y:=qH sep ls;rw[p_] at m;refine jw F.slot_str_join (gW s _ t) F.entry_str_join (F.args_str_join_2 _ _) (meets_str_join_list (txt sep) t a l (by
  rw[d];unfold Builtin.Str.tooLong;exact NG (by lia))) ⟨pl.isList,?_⟩
 have b:=JR sep ls;rw[<-c] at b;have key:∀tk k,EP X NI Z Q (.str (txt (inter sep ls)) tk) {s with toks:=k}:=λtk k=>⟨.str _,H,I.tok _,⟨_,rfl⟩,q⟩;have f:(txt (inter sep ls)).length<=sizeLine:=by rw[bE];lia
 match l,b with
 | [],b=>
  show _/\_;rw[b];exact⟨f,key _ _⟩
 | [(p,o)],b=>
  have e:p=txt (inter sep ls):=by rw[<-b];show p=(⟨p.cps⟩:Str);rfl
  rw[e];exact key _ _
 |(p,o)::z::A,b=>
  show _/\_;rw[b];exact⟨f,key _ _⟩
end
def spl(sep l:List Nat):List (List Nat):=(Txt.split (txt l) (txt sep)).map λz=>z.cps.toList
theorem wK(sep l:List Nat):(spl sep l).map txt=Txt.split (txt l) (txt sep):=by rw[spl,bU];exact (p5 λz _=>wD z).trans (zK _)
theorem wg(sep:List Nat):∀ls:List (List Nat),Str.join (txt sep) (ls.map txt)=txt (inter sep ls)
 | []=>rfl
 | [l]=>rfl
 |l::m::r=>by
  show txt l++txt sep++Str.join (txt sep) ((m::r).map txt)=txt (l++sep++inter sep (m::r));rw[wg sep (m::r),iT,iT]
theorem nY(sep l:List Nat):inter sep (spl sep l)=l:=by have h:=join_split (txt l) (txt sep);rw[<-wK,wg] at h;exact wC h
theorem qG{sep:List Nat}{c:Nat}(a:c∉sep):∀{ls:List (List Nat)},c∈inter sep ls->∃p∈ls,c∈p
 | [],h=>by cases h
 | [l],h=>⟨l,by simp,h⟩
 |l::m::r,h=>by
  have h:c∈l++sep++inter sep (m::r):=h;rcases aW.mp h with h|h
  .rcases aW.mp h with h|h
   .exact⟨l,by simp,h⟩
   exact absurd h a
  obtain⟨p,b,d⟩:=qG a h;exact⟨p,bZ _ b,d⟩
theorem uB{sep:List Nat}:∀{ls:List (List Nat)}{p:List Nat},p∈ls->p <:+: inter sep ls
 | [l],p,h=>by rw[aR.mp h];exact List.infix_refl _
 |l::m::r,p,h=>by
  show p <:+: l++sep++inter sep (m::r);rcases aK.mp h with rfl|h
  .exact⟨[],sep++inter sep (m::r),by simp⟩
  obtain⟨a,b,e⟩:=uB (sep:=sep) h;exact⟨l++sep++a,b,by rw[<-e];simp⟩
theorem wL{sep l:List Nat}{c:Nat}(a:c∉sep)(h:c∈l):∃p∈spl sep l,c∈p:=by rw[<-nY sep l] at h;exact qG a h
theorem hJ{sep l p:List Nat}(h:p∈spl sep l):p <:+: l:=by
 have:=uB (sep:=sep) h
 rwa [nY] at this
theorem uL{sep:List Nat}(a:sep≠[]):∀ls:List (List Nat),ls.length<=(inter sep ls).length+1
 | []=>by simp
 | [l]=>by simp
 |l::m::r=>by
  have:=uL a (m::r);have b:0<sep.length:=nv.mpr a;show _<=(l++sep++inter sep (m::r)).length+1;rw[aL,aL];simp only[bz] at this |-;lia
theorem C4{sep l:List Nat}(a:sep≠[]):(spl sep l).length<=l.length+1:=by
 have:=uL a (spl sep l)
 rwa [nY] at this
section
def E3:V->List V->Hp->VK->Prop:=λx vs H Q=>∃(sep l:List Nat),x=.str (txt l)/\vs=[.str (txt sep)]/\sep≠[]/\l.length+2<=sizeLine/\∀p,H p=none->Q (.ref p) (upd H p (.lst ((spl sep l).map λz=>V.str (txt z))))
theorem n8:MtR X "str.split" E3:=by
 intro NI s Z H x vs v us Q I c d h;obtain⟨sep,l,rfl,rfl,e,f,q⟩:=h;obtain⟨t,rfl⟩:=c;obtain⟨u,rfl,t',rfl⟩:=d.one;have q:=q s.heap.objs.size I.fresh;rw[show ((spl sep l).map λz=>V.str (txt z))=(Txt.split (txt l) (txt sep)).map λz=>V.str z by rw[<-wK,bU];rfl] at q;unfold Txt.split at q;by_cases h1:(decide ((txt l).length<(txt sep).length)||decide (Builtin.Str.strKind (txt l)<Builtin.Str.strKind (txt sep)))=true
 .rw[ND h1] at q;refine jw F.slot_str_split (gW s _ t) F.entry_str_split (F.args_str_split_2 _ _) (meets_str_split_cannot_occur (txt l) (txt sep) t t' h1) ?_;exact⟨.ref _,_,I.lnew (ys:=[V.str (txt l)]) (its:=[Value.str (txt l) t]) (.cons ⟨t,rfl⟩ .nil) (by show 1<=sizeLine;decide),rfl,q⟩
 rw[NC h1] at q;have h1:=iE.mpr h1;have a:((txt sep).length==0)=false:=by rw[bE,beq_eq_false_iff_ne];exact λz=>e (zI.mp z)
 by_cases hf:(Builtin.Str.occurrences (txt l) (txt sep) 0 (txt l).length ((txt l).length+1)).isEmpty=true
 .rw[ND hf] at q;refine jw F.slot_str_split (gW s _ t) F.entry_str_split (F.args_str_split_2 _ _) (meets_str_split_not_found (txt l) (txt sep) t t' h1 a hf) ?_;exact⟨.ref _,_,I.lnew (ys:=[V.str (txt l)]) (its:=[Value.str (txt l) t]) (.cons ⟨t,rfl⟩ .nil) (by show 1<=sizeLine;decide),rfl,q⟩
 rw[NC hf] at q;have hf:=iE.mpr hf;have b:(Builtin.Str.partsBetween (txt l) (Builtin.Str.occurrences (txt l) (txt sep) 0 (txt l).length ((txt l).length+1)) (txt sep).length).length<=sizeLine:=by rw[Bw];have h2:=StrLaws.occ_length_le_len (txt l) (txt sep) 0 ((txt l).length) ((txt l).length+1);have g:=bE l;lia
 refine jw F.slot_str_split (gW s _ t) F.entry_str_split (F.args_str_split_2 _ _) (meets_str_split_sep (txt l) (txt sep) t t' h1 a hf (by rw[bE];lia) b) ?_;exact⟨.ref _,_,I.lnew (ur _ _) (by rw[ao];exact b),rfl,q⟩
end
end L2
end
section
namespace K15
abbrev Tri:=Nat×Nat×Nat
abbrev Ent:=(Nat×Nat)×Nat
def ents(ts:List Tri):List Ent:=ts.flatMap λt=>[((t.1,t.2.1),t.2.2),((t.2.1,t.2.2),t.1),((t.2.2,t.1),t.2.1)]
theorem eg{ts:List Tri}{a b c:Nat}:((a,b),c)∈ents ts↔(a,b,c)∈ts\/(c,a,b)∈ts\/(b,c,a)∈ts:=by
 unfold ents;rw[gK];constructor
 .rintro⟨⟨x,y,z⟩,d,h⟩;simp only[aK,fZ,or_false,KY] at h;rcases h with ⟨⟨rfl,rfl⟩,rfl⟩|⟨⟨rfl,rfl⟩,rfl⟩|⟨⟨rfl,rfl⟩,rfl⟩
  .exact .inl d
  .exact .inr (.inl d)
  exact .inr (.inr d)
 rintro (h|h|h)
 .exact⟨_,h,by simp⟩
 .exact⟨_,h,by simp⟩
 exact⟨_,h,by simp⟩
structure Sk(E:Nat->Nat->Nat->Prop):Prop where
 rot:∀{a b c},E a b c->E b c a
 one:∀{a b c d},E a b c->E a b d->c=d
 ne:∀{a b c},E a b c->a≠b
def En(ts:List Tri)(a b c:Nat):Prop:=((a,b),c)∈ents ts
structure Good(ts:List Tri):Prop where
 ne:∀t∈ts,t.1≠t.2.1/\t.2.1≠t.2.2/\t.2.2≠t.1
 nd:((ents ts).map (·.1)).Nodup
theorem vk{α β:Type}{l:List (α×β)}(h:(l.map (·.1)).Nodup){a:α}{b c:β}(g:(a,b)∈l)(i:(a,c)∈l):b=c:=by
 induction l with
 |nil=>cases g
 |cons x l m=>
  rw[aU,dY] at h;rcases aK.mp g with e|j
  .rcases aK.mp i with d | f
   .rw[<-e] at d;exact (ju d).2.symm
   exact (h.1 (ay.mpr ⟨_,f,by rw[<-e]⟩)).elim
  rcases aK.mp i with d | f
  .exact (h.1 (ay.mpr ⟨_,j,by rw[<-d]⟩)).elim
  exact m h.2 j f
theorem n6{l:List Nat}(h:l.Nodup):∀{i j x:Nat},l[i]?=some x->l[j]?=some x->i=j:=by
 induction l with
 |nil=>intro i j x h1;simp at h1
 |cons a l b=>
  intro i j x h1 h2;rw[dY] at h;cases i with
  |zero=>
   cases j with
   |zero=>rfl
   |succ j=>
    simp at h1 h2;subst h1;exact (h.1 (a8 h2)).elim
  |succ i=>
   cases j with
   |zero=>
    simp at h1 h2;subst h2;exact (h.1 (a8 h1)).elim
   |succ j=>
    simp at h1 h2;rw[b h.2 h1 h2]
theorem Good.sk{ts:List Tri}(g:Good ts):Sk (En ts):=by
 refine⟨λ{a b c} h=>?_,λ{a b c d} h1 h2=>vk g.nd h1 h2,λ{a b c} h=>?_⟩
 .unfold En at *;rw[eg] at *;rcases h with h|h|h
  .exact .inr (.inl h)
  .exact .inr (.inr h)
  exact .inl h
 unfold En at h;rw[eg] at h;rcases h with h|h|h
 .exact (g.ne _ h).1
 .exact (g.ne _ h).2.1
 exact (g.ne _ h).2.2
section
variable {E:Nat->Nat->Nat->Prop}
theorem Sk.inj(k:Sk E){v p a q:Nat}(h:E v p q)(h':E v a q):p=a:=k.one (k.rot (k.rot h)) (k.rot (k.rot h'))
structure Fan(E:Nat->Nat->Nat->Prop)(v:Nat)(F:List Nat):Prop where
 ne:F≠[]
 nd:F.Nodup
 ch:∀i p q,F[i]?=some p->F[i+1]?=some q->E v p q
 key:∀p∈F,∃q,E v p q
 clF:∀p∈F,∀q,E v p q->(∃r,E v q r)->q∈F
 clB:∀p∈F,∀o,E v o p->o∈F
def One(E:Nat->Nat->Nat->Prop)(v:Nat):Prop:=∃F,Fan E v F/\∀p,(∃q,E v p q)->p∈F
theorem D8(k:Sk E){v:Nat}{L:List Nat}{at_:Nat}(C:L≠[])(nd:L.Nodup)(u:∀p∈L,∃q,E v p q)(ch:∀i p q,L[i]?=some p->L[i+1]?=some q->E v p q)
  (D:∀p,L.getLast?=some p->E v p at_) (H:(∃q,E v at_ q)->at_∈L) {s:Nat} (w:L.head?=some s) (I:(∀o,¬E v o s)\/∀p,(∃q,E v p q)->∃o,E v o p) :
  (∀p,(∃q,E v p q)->p∈L)↔One E v:=by
 constructor
 .intro c;exact⟨L,⟨C,nd,ch,u,λp _ q _ K=>c q K,λp _ o f=>c o ⟨p,f⟩⟩,c⟩
 rintro⟨F,hF,c⟩;have n:s∈L:=by cases L with|nil=>cases w|cons a l=>cases w;simp
 have z:∀x∈L,∀y,E v x y->(∃r,E v y r)->y∈L:=by
  intro x hx y b A;obtain⟨i,hi⟩:=fN hx;have M:=(aG.mp hi).1;by_cases h:i+1<L.length
  .have h1:L[i+1]?=some L[i+1]:=bX h;have:=k.one b (ch i _ _ hi h1);rw[this];exact a8 h1
  have e:L.getLast?=some x:=by rw[p4,show L.length-1=i by lia];exact hi
  have:=k.one b (D x e);rw[this] at A |-;exact H A
 have N:s∈F:=c s (u s n);obtain⟨j,g⟩:=fN N;have B:∀d:Nat,(∀y,F[d]?=some y->y∈L)->∀(m:Nat)(y:Nat),F[d+m]?=some y->y∈L:=by
  intro d O m;induction m with
  |zero=>intro y b;exact O y b
  |succ m P=>
   intro y b;have Q:d+m<F.length:=by have:=(aG.mp b).1;lia
   have h1:F[d+m]?=some F[d+m]:=bX Q;exact z _ (P _ h1) y (hF.ch _ _ _ h1 b) (hF.key y (a8 b))
 have R:=B j (λy b=>by rw[g] at b;cases b;exact n);have zero:∀y,F[0]?=some y->y∈L:=by
  intro y b;by_cases S:j=0
  .subst S;rw[g] at b;cases b;exact n
  have Z:=(aG.mp g).1;have h1:F[j-1]?=some F[j-1]:=bX (by lia);have T:=hF.ch (j-1) _ _ h1 (by rw[show j-1+1=j by lia];exact g);rcases I with h|h
  .exact (h _ T).elim
  obtain⟨o,f⟩:=h y (hF.key y (a8 b));have U:=hF.clB y (a8 b) o f;obtain⟨i,hi⟩:=fN U;have M:=(aG.mp hi).1;by_cases X:i+1<F.length
  .have h2:F[i+1]?=some F[i+1]:=bX X;have e:=k.one (hF.ch i _ _ hi h2) f;rw[e] at h2;have:=n6 hF.nd h2 b;lia
  have:o∈L:=R (i-j) o (by rw[show j+(i-j)=i by lia];exact hi);exact z o this y f (hF.key y (a8 b))
 intro p Y;obtain⟨i,hi⟩:=fN (c p Y);exact B 0 zero i p (by rw[kq];exact hi)
theorem wq{v:Nat}{F G:List Nat}(ch:∀i p q,F[i]?=some p->F[i+1]?=some q->E v p q)(key:∀p∈F,∃q,E v p q)(f:Fan E v G){x:Nat}(l:x∈F)(g:x∈G):∀y∈F,y∈G:=by
 obtain⟨j,b⟩:=fN l;have n:∀(m:Nat)(y:Nat),F[j+m]?=some y->y∈G:=by
  intro m;induction m with
  |zero=>intro y a;rw[KL,b] at a;cases a;exact g
  |succ m c=>
   intro y a;have d:j+m<F.length:=by have:=(aG.mp a).1;lia
   have h1:F[j+m]?=some F[j+m]:=bX d;exact f.clF _ (c _ h1) y (ch (j+m) _ _ h1 a) (key y (a8 a))
 have o:∀m:Nat,m<=j->∀y:Nat,F[j-m]?=some y->y∈G:=by
  intro m;induction m with
  |zero=>intro _ y a;rw[KR,b] at a;cases a;exact g
  |succ m c=>
   intro hm y a;have d:j-m<F.length:=by have:=(aG.mp b).1;lia
   have h1:F[j-m]?=some F[j-m]:=bX d;have e:j-(m+1)+1=j-m:=by lia
   exact f.clB _ (c (by lia) _ h1) y (ch (j-(m+1)) _ _ a (by rw[e];exact h1))
 intro y a;obtain⟨i,hi⟩:=fN a;by_cases h:j<=i
 .exact n (i-j) y (by rw[show j+(i-j)=i by lia];exact hi)
 exact o (j-i) (by lia) y (by rw[show j-(j-i)=i by lia];exact hi)
theorem Ed(k:Sk E){v:Nat}{fs:List (List Nat)}{left F:List Nat}{x0:Nat}(f:∀G∈fs,Fan E v G)(j:∀p,(∃q,E v p q)->p∈left\/∃G∈fs,p∈G)(l:∀p∈left,∀G∈fs,p∉G)
  (nd:F.Nodup) (key:∀p∈F,∃q,E v p q) (ch:∀i p q,F[i]?=some p->F[i+1]?=some q->E v p q) (c:x0∈F) (m:x0∈left)
  (n:∀p,F.getLast?=some p->∀q,E v p q->q∈left->q∈F) (r:∀p,F.head?=some p->∀o,E v o p->o∈F):Fan E v F/\∀p∈F,∀G∈fs,p∉G:=by
 have dis:∀p∈F,∀G∈fs,p∉G:=λp a G b s=>l x0 m G b (wq ch key (f G b) a s x0 c);refine⟨⟨λz=>(by rw[z] at c;cases c),nd,ch,key,λp a q d u=>?_,λp a o g=>?_⟩,dis⟩
 .obtain⟨i,hi⟩:=fN a;have w:=(aG.mp hi).1;by_cases h:i+1<F.length
  .have h1:F[i+1]?=some F[i+1]:=bX h;rw[k.one d (ch i _ _ hi h1)];exact a8 h1
  have e:F.getLast?=some p:=by rw[p4,show F.length-1=i by lia];exact hi
  rcases j q u with z|⟨G,b,x⟩
  .exact n p e q d z
  exact (dis p a G b ((f G b).clB q x p d)).elim
 obtain⟨i,hi⟩:=fN a;cases i with
 |zero=>exact r p (by rw[zG];exact hi) o g
 |succ i=>
  have w:=(aG.mp hi).1;have h1:F[i]?=some F[i]:=bX (by lia);rw[k.inj g (ch i _ _ h1 hi)];exact a8 h1
structure Fans(E:Nat->Nat->Nat->Prop)(v:Nat)(fs:List (List Nat)):Prop where
 fan:∀F∈fs,Fan E v F
 all:∀p,(∃q,E v p q)->∃F∈fs,p∈F
 dis:fs.Pairwise λF G=>∀p∈F,p∉G
theorem Fm(k:Sk E){v:Nat}{fs:List (List Nat)}(h:Fans E v fs)(f:fs≠[]):One E v↔fs.length=1:=by
 cases fs with
 |nil=>exact (f rfl).elim
 |cons F r=>
  have hF:=h.fan F (by simp);constructor
  .rintro⟨H,b,c⟩;cases r with
   |nil=>rfl
   |cons G r=>
    have a:=h.fan G (by simp);obtain⟨x,hx⟩:=tE F hF.ne;obtain⟨y,d⟩:=tE G a.ne;have hd:=(tQ.mp h.dis).1 G (by simp);have g:y∈F:=wq b.ch b.key hF (c x (hF.key x hx)) hx y (c y (a.key y d));exact (hd y g d).elim
  intro i;have j:r=[]:=zI.mp (by simpa using i);subst j;refine⟨F,hF,λp l=>?_⟩;obtain⟨G,a,e⟩:=h.all p l;rw[aR.mp a] at e;exact e
def rn(v n:Nat)(F:List Nat)(a b:Nat):Nat:=if a=v/\b∈F then n else a
def ren(v n:Nat)(F:List Nat)(t:Tri):Tri:=(rn v n F t.1 t.2.1,rn v n F t.2.1 t.2.2,rn v n F t.2.2 t.1)
def Rn(E:Nat->Nat->Nat->Prop)(v n:Nat)(F:List Nat)(x y z:Nat):Prop:=∃a b c,E a b c/\x=rn v n F a b/\y=rn v n F b c/\z=rn v n F c a
theorem Il{ts:List Tri}{v n:Nat}{F:List Nat}{x y z:Nat}:En (ts.map (ren v n F)) x y z↔Rn (En ts) v n F x y z:=by
 unfold En Rn;rw[eg];constructor
 .intro h;have key:∀p q r,(p,q,r)∈ts.map (ren v n F)->∃a b c,(a,b,c)∈ts/\p=rn v n F a b/\q=rn v n F b c/\r=rn v n F c a:=by
   intro p q r j;obtain⟨⟨a,b,c⟩,d,e⟩:=ay.mp j;unfold ren at e;simp only[KY] at e;exact⟨a,b,c,d,e.1.symm,e.2.1.symm,e.2.2.symm⟩
  rcases h with h|h|h
  .obtain⟨a,b,c,d,f,g,i⟩:=key _ _ _ h;exact⟨a,b,c,eg.mpr (.inl d),f,g,i⟩
  .obtain⟨a,b,c,d,f,g,i⟩:=key _ _ _ h;exact⟨b,c,a,eg.mpr (.inr (.inl d)),g,i,f⟩
  obtain⟨a,b,c,d,f,g,i⟩:=key _ _ _ h;exact⟨c,a,b,eg.mpr (.inr (.inr d)),i,f,g⟩
 rintro⟨a,b,c,h,rfl,rfl,rfl⟩;rcases eg.mp h with h|h|h
 .exact .inl (ay.mpr ⟨_,h,rfl⟩)
 .exact .inr (.inl (ay.mpr ⟨_,h,rfl⟩))
 exact .inr (.inr (ay.mpr ⟨_,h,rfl⟩))
theorem e_{v n:Nat}{F:List Nat}{a b:Nat}(h:a≠v):rn v n F a b=a:=by unfold rn;rw[NC λz=>h z.1]
theorem pE{v n:Nat}{F:List Nat}{b:Nat}(h:b∈F):rn v n F v b=n:=by unfold rn;rw[ND ⟨rfl,h⟩]
theorem rR{v n:Nat}{F:List Nat}{b:Nat}(h:b∉F):rn v n F v b=v:=by unfold rn;rw[NC λz=>h z.2]
section
variable {v n:Nat}{F:List Nat}
theorem gz{a b:Nat}(ha:a≠n)(h:rn v n F a b=n):a=v/\b∈F:=by
 unfold rn at h
 split at h
 .assumption
 exact (ha h).elim
theorem fg{a b:Nat}(h:rn v n F a b≠n):rn v n F a b=a:=by
 unfold rn at h |-
 split
 .rename_i z;rw[ND z] at h;exact (h rfl).elim
 rfl
variable (k:Sk E)(fr:∀a b c,E a b c->a≠n)(hF:Fan E v F)
include k fr
theorem lG{p q:Nat}:Rn E v n F n p q↔E v p q/\p∈F:=by
 constructor
 .rintro⟨a,b,c,h,d,rfl,rfl⟩;obtain⟨rfl,e⟩:=gz (fr _ _ _ h) d.symm;rw[e_ (aB (k.ne h)),e_ (k.ne (k.rot (k.rot h)))];exact⟨h,e⟩
 rintro⟨h,f⟩;exact⟨v,p,q,h,(pE f).symm,(e_ (aB (k.ne h))).symm,(e_ (k.ne (k.rot (k.rot h)))).symm⟩
theorem jM(e:v≠n){p q:Nat}:Rn E v n F v p q↔E v p q/\p∉F:=by
 constructor
 .rintro⟨a,b,c,h,d,rfl,rfl⟩;have:a=v:=by
   have f:=fg (v:=v) (n:=n) (F:=F) (a:=a) (b:=b) (by rw[<-d];exact e);rw[d,f]
  subst this;have g:b∉F:=λz=>by rw[pE z] at d;exact e d
  rw[e_ (aB (k.ne h)),e_ (k.ne (k.rot (k.rot h)))];exact⟨h,g⟩
 rintro⟨h,i⟩;exact⟨v,p,q,h,(rR i).symm,(e_ (aB (k.ne h))).symm,(e_ (k.ne (k.rot (k.rot h)))).symm⟩
theorem Jp:Sk (Rn E v n F):=by
 refine⟨?_,?_,?_⟩
 .rintro x y z ⟨a,b,c,h,d,f,j⟩;exact⟨b,c,a,k.rot h,f,j,d⟩
 .rintro x y z C ⟨a,b,c,h,d,f,j⟩ ⟨l,g,r,h',m,o,s⟩;have fa:a≠n:=fr _ _ _ h;have u:l≠n:=fr _ _ _ h';have p:b≠n:=fr _ _ _ (k.rot h);have w:g≠n:=fr _ _ _ (k.rot h');have A:a=l:=by
   by_cases hx:x=n
   .rw[(gz fa (d.symm.trans hx)).1,(gz u (m.symm.trans hx)).1]
   rw[<-fg (v:=v) (n:=n) (F:=F) (a:=a) (b:=b) (by rw[<-d];exact hx),<-fg (v:=v) (n:=n) (F:=F) (a:=l) (b:=g) (by rw[<-m];exact hx),<-d,<-m]
  have B:b=g:=by
   by_cases i:y=n
   .rw[(gz p (f.symm.trans i)).1,(gz w (o.symm.trans i)).1]
   rw[<-fg (v:=v) (n:=n) (F:=F) (a:=b) (b:=c) (by rw[<-f];exact i),<-fg (v:=v) (n:=n) (F:=F) (a:=g) (b:=r) (by rw[<-o];exact i),<-f,<-o]
  subst A B;rw[j,s,k.one h h']
 rintro x y z ⟨a,b,c,h,rfl,rfl,_⟩;have fa:a≠n:=fr _ _ _ h;have p:b≠n:=fr _ _ _ (k.rot h);have q:=k.ne h;intro e;by_cases hx:rn v n F a b=n
 .have h1:=(gz fa hx).1;have h2:=(gz p (e.symm.trans hx)).1;exact q (h1.trans h2.symm)
 have h1:=fg hx;have h2:=fg (v:=v) (n:=n) (F:=F) (a:=b) (b:=c) (by rw[<-e];exact hx);exact q (by rw[<-h1,e,h2])
include hF
theorem DF:One (Rn E v n F) n:=by
 refine⟨F,⟨hF.ne,hF.nd,λi p q a b=>(lG k fr).mpr ⟨hF.ch i p q a b,a8 a⟩,λp a=>?_,λp a q b c=>?_,λp a o d=>((lG k fr).mp d).2⟩,λp ⟨q,b⟩=>((lG k fr).mp b).2⟩
 .obtain⟨q,b⟩:=hF.key p a;exact⟨q,(lG k fr).mpr ⟨b,a⟩⟩
 obtain⟨r,c⟩:=c;exact ((lG k fr).mp c).2
omit hF in
theorem Ec(c:v≠n){G:List Nat}(b:Fan E v G)(hd:∀p∈F,p∉G):Fan (Rn E v n F) v G:=by
 have out:∀p∈G,p∉F:=λp a z=>hd p z a;refine⟨b.ne,b.nd,λi p q a d=>(jM k fr c).mpr ⟨b.ch i p q a d,out p (a8 a)⟩,λp a=>?_,λp a q d e=>?_,λp a o f=>b.clB p a o ((jM k fr c).mp f).1⟩
 .obtain⟨q,d⟩:=b.key p a;exact⟨q,(jM k fr c).mpr ⟨d,out p a⟩⟩
 obtain⟨r,e⟩:=e;exact b.clF p a q ((jM k fr c).mp d).1 ⟨r,((jM k fr c).mp e).1⟩
theorem B5(U:v≠n){u:Nat}(O:u≠v)(P:u≠n)(h:One E u):One (Rn E v n F) u:=by
 obtain⟨G,m,Q⟩:=h
 let cond:Prop:=(∃q∈F,E u v q)\/((∃p,E u p v)/\u∈F)
 have dec:=Classical.propDecidable cond
 let ρ:Nat->Nat:=λx=>if x=v then (if cond then n else v) else x
 have ρo:∀x,x≠v->ρ x=x:=λx hx=>NC hx;have ρv:ρ v=if cond then n else v:=ND rfl
 have L:∀p q,E u p q->rn v n F p q=ρ p:=by
  intro p q h;by_cases s:p=v
  .subst s;by_cases d:q∈F
   .rw[pE d,ρv,ND (.inl ⟨q,d,h⟩)]
   rw[rR d,ρv,NC];rintro (⟨A,B,h'⟩|⟨⟨f,j⟩,H⟩)
   .exact d (by rw[k.one h h'];exact B)
   exact d (hF.clB u H q (k.rot h))
  rw[e_ s,ρo p s]
 have M:∀p q,E u p q->rn v n F q u=ρ q:=by
  intro p q h;by_cases d:q=v
  .subst d;by_cases C:u∈F
   .rw[pE C,ρv,ND (.inr ⟨⟨p,h⟩,C⟩)]
   rw[rR C,ρv,NC];rintro (⟨A,B,h'⟩|⟨_,H⟩)
   .exact C (hF.clF A B u (k.rot h') ⟨p,k.rot (k.rot h)⟩)
   exact C H
  rw[e_ d,ρo q d]
 have R:∀b,rn v n F u b=u:=λb=>e_ O;have to:∀p q,E u p q->Rn E v n F u (ρ p) (ρ q):=λp q h=>⟨u,p,q,h,(R p).symm,(L p q h).symm,(M p q h).symm⟩;have back:∀x y,Rn E v n F u x y->∃p q,E u p q/\x=ρ p/\y=ρ q:=by
  rintro x y ⟨a,b,c,h,w,I,S⟩;have ha:a=u:=by
   by_cases hx:rn v n F a b=n
   .exact (P (w.trans hx)).elim
   rw[w,fg hx]
  subst ha;exact⟨b,c,h,I.trans (L b c h),S.trans (M b c h)⟩
 have fresh:∀p q,E u p q->p≠n/\q≠n:=λp q h=>⟨fr _ _ _ (k.rot h),fr _ _ _ (k.rot (k.rot h))⟩;have inj:∀x y,x≠n->y≠n->ρ x=ρ y->x=y:=by
  intro x y hx g e;by_cases h1:x=v
  .by_cases h2:y=v
   .rw[h1,h2]
   rw[h1,ρo y h2,ρv] at e
   split at e
   .exact (g e.symm).elim
   exact (h2 e.symm).elim
  by_cases h2:y=v
  .rw[h2,ρo x h1,ρv] at e
   split at e
   .exact (hx e).elim
   exact (h1 e).elim
  rw[ρo x h1,ρo y h2] at e;exact e
 have D:∀x∈G,x≠n:=λx hx=>by
  obtain⟨q,d⟩:=m.key x hx;exact (fresh x q d).1
 have X:∀x,x≠n->ρ x∈G.map ρ->x∈G:=λx hx h=>by
  obtain⟨y,g,e⟩:=ay.mp h;rw[<-inj y x (D y g) hx e];exact g
 have get:∀(i:Nat)(x:Nat),(G.map ρ)[i]?=some x->∃p,G[i]?=some p/\x=ρ p:=λi x h=>by
  rw[aY] at h;cases e:G[i]? with
  |none=>rw[e] at h;cases h
  |some p=>rw[e] at h;cases h;exact⟨p,rfl,rfl⟩
 refine⟨G.map ρ,⟨by simpa using m.ne,?_,λi p q s d=>?_,λp s=>?_,λx hx y g K=>?_,λx hx y g=>?_⟩,?_⟩
 .have:∀l:List Nat,(∀x∈l,x≠n)->l.Nodup->(l.map ρ).Nodup:=by
   intro l;induction l with
   |nil=>intro _ _;exact kl
   |cons a l T=>
    intro h1 h2;rw[dY] at h2;rw[aU,dY];refine⟨λz=>?_,T (λx hx=>h1 x (bZ _ hx)) h2.2⟩;obtain⟨y,g,e⟩:=ay.mp z;have:=inj y a (h1 y (bZ _ g)) (h1 a (by simp)) e;exact h2.1 (this ▸ g)
  exact this G D m.nd
 .obtain⟨f,j,rfl⟩:=get i p s;obtain⟨A,B,rfl⟩:=get (i+1) q d;exact to f A (m.ch i f A j B)
 .obtain⟨f,j,rfl⟩:=ay.mp s;obtain⟨q,d⟩:=m.key f j;exact⟨_,to f q d⟩
 .obtain⟨f,j,rfl⟩:=ay.mp hx;obtain⟨p,q,h1,w,rfl⟩:=back _ _ g;have ep:=inj f p (D f j) (fresh p q h1).1 w;subst ep;obtain⟨r,K⟩:=K;obtain⟨p2,N,h2,I,_⟩:=back _ _ K;have eq:=inj q p2 (fresh f q h1).2 (fresh p2 N h2).1 I;subst eq;exact ay.mpr ⟨q,m.clF f j q h1 ⟨N,h2⟩,rfl⟩
 .obtain⟨f,j,rfl⟩:=ay.mp hx;obtain⟨p,q,h1,rfl,w⟩:=back _ _ g;have eq:=inj f q (D f j) (fresh p q h1).2 w;subst eq;exact ay.mpr ⟨p,m.clB f j p h1,rfl⟩
 rintro x ⟨y,g⟩;obtain⟨p,q,h1,rfl,_⟩:=back _ _ g;exact ay.mpr ⟨p,Q p ⟨q,h1⟩,rfl⟩
end
end
end K15
end
section
namespace K15
open PySem L2 K51
def Runs(B:Nat)(l:List Nat):Prop:=∀b,b <:+: l->(∀c∈b,dig c=true)->b.length<=B
theorem Runs.mono{B C:Nat}{l:List Nat}(h:Runs B l)(a:B<=C):Runs C l:=λb c hd=>br (h b c hd) a
theorem Runs.infix{B:Nat}{l m:List Nat}(h:Runs B l)(hm:m <:+: l):Runs B m:=λb a hd=>h b (a.trans hm) hd
theorem Runs.take{B:Nat}{l:List Nat}(h:Runs B l)(k:Nat):Runs B (l.take k):=h.infix (List.take_prefix k l).isInfix
theorem Runs.drop{B:Nat}{l:List Nat}(h:Runs B l)(k:Nat):Runs B (l.drop k):=h.infix (List.drop_suffix k l).isInfix
theorem Cr{b p q:List Nat}(h:b <:+: p++q):∃i j,b=i++j/\i <:+: p/\j <:+: q:=by
 obtain⟨a,c,e⟩:=h;rw[dX] at e;rcases tu.mp e with ⟨x,d,f⟩|⟨x,d,f⟩
 .rcases tu.mp f with ⟨y,g,l⟩|⟨y,g,l⟩
  .exact⟨b,[],by simp,⟨a,y,by rw[d,g];simp⟩,KF⟩
  exact⟨x,y,g,⟨a,[],by rw[d];simp⟩,⟨[],c,by rw[l];simp⟩⟩
 exact⟨[],b,by simp,KF,⟨x,c,by rw[f];simp⟩⟩
theorem Runs.app{B C:Nat}{p q:List Nat}(d:Runs B p)(e:Runs C q):Runs (B+C) (p++q):=λb f hd=>by
 obtain⟨g,h,rfl,h1,h2⟩:=Cr f;have:=d g h1 λc a=>hd c (dC _ a);have:=e h h2 λc a=>hd c (eO _ a);rw[aL];lia
theorem Runs.len{l:List Nat}:Runs l.length l:=λb a _=>a.length_le
theorem Runs.sep{B s:Nat}{p q:List Nat}(i:dig s=false)(j:Runs B p)(l:Runs B q):Runs B (p++s::q):=λb m hd=>by
 obtain⟨a,c,e⟩:=m;rw[dX] at e;rcases tu.mp e with ⟨x,g,d⟩|⟨x,g,d⟩
 .rcases tu.mp d with ⟨y,f,h⟩|⟨y,f,h⟩
  .exact j b ⟨a,y,by rw[g,f];simp⟩ hd
  cases y with
  |nil=>rw[f,fM] at hd |-;exact j x ⟨a,[],by rw[g];simp⟩ hd
  |cons z y=>
   rw[tD] at h;cases h;have:=hd s (by rw[f];simp);rw[i] at this;cases this
 cases x with
 |nil=>
  rw[p6] at d;cases b with
  |nil=>exact aJ _
  |cons z b=>
   rw[tD] at d;cases d;have:=hd s (by simp);rw[i] at this;cases this
 |cons z x=>
  rw[tD] at d;cases d;exact l b ⟨x,c,by simp⟩ hd
theorem Runs.intr{B s0:Nat}{sr:List Nat}(e:dig s0=false)(f:∀c∈sr,dig c=false):∀{ls:List (List Nat)},(∀p∈ls,Runs B p)->Runs B (inter (s0::sr) ls)
 | [],_=>λb a _=>by have:=a.length_le;exact br this (aJ _)
 | [l],h=>h l (by simp)
 |l::m::r,h=>by
  have d:=Runs.intr e f (ls:=m::r) λp g=>h p (bZ _ g);have go:∀(xs:List Nat),(∀c∈xs,dig c=false)->∀{q:List Nat},Runs B q->Runs B (xs++q):=λxs=>by
   induction xs with
   |nil=>intro _ q h;exact h
   |cons x xs d=>
    intro hx q i;have:=Runs.sep (p:=[]) (hx x (by simp)) (λb a _=>by have:=a.length_le;exact br this (aJ _)) (d (λc j=>hx c (bZ _ j)) i);exact this
  show Runs B (l++(s0::sr)++L2.inter (s0::sr) (m::r));rw[dX,tD];exact Runs.sep e (h l (by simp)) (go sr f d)
def rdW(l:List Nat):Option Nat:=if fig l=true then some (val l) else none
def rdP(l:List Nat):Option Tri:=match spl [32] l with
 | [a,b,c]=>match rdW a,rdW b,rdW c with
  |some x,some y,some z=>some (x,y,z)
  |_,_,_=>none
 |_=>none
def rdT(l:List Nat):List (Option Tri):=if l=[] then [] else (spl [59,32] l).map rdP
theorem vU{l:List Nat}{t:Tri}(h:rdP l=some t):∃a b c,spl [32] l=[a,b,c]/\fig a=true/\fig b=true/\fig c=true/\t=(val a,val b,val c):=by
 unfold rdP at h
 split at h
 .rename_i a b c e;unfold rdW at h;by_cases ha:fig a=true
  .by_cases d:fig b=true
   .by_cases f:fig c=true
    .rw[ND ha,ND d,ND f] at h;cases h;exact⟨a,b,c,e,ha,d,f,rfl⟩
    rw[ND ha,ND d,NC f] at h;cases h
   rw[ND ha,NC d] at h;cases h
  rw[NC ha] at h;cases h
 cases h
theorem lH{l:List Nat}(h:(spl [32] l).length≠3\/∃w∈spl [32] l,fig w=false):rdP l=none:=by
 cases e:rdP l with
 |none=>rfl
 |some t=>
  obtain⟨a,b,c,d,ha,f,g,_⟩:=vU e;rw[d] at h;rcases h with h|⟨w,hw,hf⟩
  .exact absurd rfl h
  simp at hw;rcases hw with rfl|rfl|rfl
  .rw[ha] at hf;cases hf
  .rw[f] at hf;cases hf
  rw[g] at hf;cases hf
theorem F8{l:List Nat}(h:∀c∈l,dig c=true):val l<10 ^ l.length:=by
 have key:∀(l:List Nat)(a:Nat),(∀c∈l,dig c=true)->l.foldl (λa c=>a*10+(c-48)) a<(a+1)*10 ^ l.length:=by
  intro l;induction l with
  |nil=>intro a _;simp
  |cons c l e=>
   intro a b;have h1:=e (a*10+(c-48)) λd hd=>b d (bZ _ hd);have h2:=oN.mp (b c (by simp));rw[jn,bz,zV];refine bP h1 ?_;have:a*10+(c-48)+1<=(a+1)*10:=by lia
   have:=Nat.mul_le_mul_right (10 ^ l.length) this;rw[zU (10 ^ l.length) 10,<-Nat.mul_assoc];exact this
 have:=key l 0 h;simp at this;exact this
end K15
end
section
namespace K31
open K51
abbrev Side:=Nat×Nat
abbrev Lps:=List (List Nat)
end K31
end
section
namespace L2
open PySem PySem.Spec PyProof.Rows
section
end
theorem k_{a:Addr}{g:TG}{tb:TS}{D:Ends}(Pv:Nat->St->Hp->Prop)(f:Pv 0 Z H)(h:∀i Z H,i<=xs.length->Pv i Z H->SqL K H a xs)
  (j:∀i x p Z H,xs[i]?=some x->Pv i Z H->H p=none->g (.ref p) Z (upd H p (.tup [.int (i:Int),x])) λσ2 H2=>tb {D with nx:=Pv (i+1),ct:=Pv (i+1),bk:=D.nx} σ2 H2) (hd:∀Z H,Pv xs.length Z H->D.nx Z H) :
  ∃W:Nat->Nat->St->Hp->Prop,(∃m,W 0 m Z H)/\∀i m Z H,W i m Z H->
   ((Ite K a).stop i H/\D.nx Z H)\/((Ite K a).go i H/\∃N:St->Hp->Prop,(∀Z' H',N Z' H'->∃c,c<m/\W (i+1) c Z' H')/\∀x H',(Ite K a).yld i H x H'->g x Z H' λσ2 H2=>tb {D with nx:=N,ct:=N,bk:=D.nx} σ2 H2):=by
 refine⟨λi m Z H=>m=xs.length-i/\i<=xs.length/\Pv i Z H,⟨xs.length,by simp,aJ _,f⟩,?_⟩;rintro i m Z H ⟨rfl,hi,p⟩;have q:=h i Z H hi p;by_cases d:i<xs.length
 .refine .inr ⟨⟨xs,xs[i],q,bX d⟩,Pv (i+1),λZ' H' l=>⟨xs.length-(i+1),by lia,rfl,d,l⟩,λx H' y=>?_⟩;obtain⟨b,v,n,rfl,rfl,y⟩:=y;exact j i v b Z H (y xs q) p n
 have e:i=xs.length:=by lia
 subst e;exact .inl ⟨⟨xs,q,ak _⟩,hd Z H p⟩
section
variable {prog:Program}
theorem vB{it t:Addr}{items:Array Value}(b:t≠it):∀(n i:Nat)(s:Shared)(Q:List Value->Shared->Prop),s.heap.IsListIter it t i->s.heap.IsList t items->i+n<=items.size->
  (∀h',h'.IsListIter it t (i+n)->Heap.SameBut it s.heap h'->Q ((items.toList.drop i).take n) {s with heap:=h'})->wpAny (model prog w) A (draw (.ref it) n) Q E s
 |0,i,s,Q,hit,_,_,a=>by
  show wpAny _ _ (pure []) Q E s;exact ag (by simpa using a s.heap hit (Ms ..))
 |n+1,i,s,Q,hit,c,hle,a=>by
  have d:i<items.size:=by lia
  show wpAny _ _ (pyNext (.ref it) >>= _) Q E s;refine aa (Mn hit c (x:=items[i]) (by simp[d]) λh1 f e=>?_);refine aa (cH (vB b n (i+1) _ _ f (c.extBut e.extBut b) (by lia) λh2 g h=>ag ?_));have hd:items.toList.drop i=items[i]::items.toList.drop (i+1):=by simp[nj,d]
  have z:=a h2 (by rw[show i+(n+1)=i+1+n by lia];exact g) (e.trans h);rw[hd,List.take_succ_cons] at z;exact z
theorem AX{t:Addr}{items:Array Value}{Q:List Value->Shared->Prop}(g:A.handled=none)(a:s.heap.IsList t items)
  (h:∀h',Heap.ExtBut s.heap.objs.size s.heap h'->Q items.toList {s with heap:=h'}):wpAny (model prog w) A (unpackItems (.ref t) items.size none) Q E s:=by
 have c:t≠s.heap.objs.size:=by obtain⟨o,i,_⟩:=a;exact bc (aE i)
 unfold unpackItems;refine aa ?_;unfold notIterableAtAll;refine aa (Mp a.typeIs slot_list_iter.lookup (ag ?_));simp only[jj,if_false];refine aa (cH (qk a ?_));refine aa (cH (vB c items.size 0 _ _ ⟨_,bq _ rfl,rfl,rfl⟩ (a.push _) (by lia) λh1 j d=>?_));have l:List.take items.size (List.drop 0 items.toList)=items.toList:=by rw[pX];exact iK (by simp)
 rw[l,NC (by simp)];have m:h1.IsList t items:=(a.push _).extBut d.extBut c;refine aa (cH (Mm g (by simpa using j) m (by simp) λh2 n=>?_));simp only[Option.isSome_none,jj,if_false];exact ag (h h2 λb o f e=>n b o f (d.extBut b o f (aI _ e)))
end
section
variable {pos:Pos}
def JV(K:W.Frag)(n:Nat)(t:TGs)(v:V)(Z:St)(H:Hp)(Q:St->Hp->Prop)(a:Addr)(xs:List V):Prop:=v=.ref a/\SqL K H a xs/\xs.length=n/\t xs Z H Q
def gLst(K:W.Frag)(n:Nat)(t:TGs):TG:=λv Z H Q=>Exists (Ex2 (JV K n t v Z H Q))
theorem Ho{es:List Expr}{k:Nat}{t:TGs}(d:X.calm=true)(h:PGs X es t)
  (f:(assignEach es X.env).length=es.length:=by rfl) (g:(assignEach es X.env).findIdx? (·.1)=none:=by rfl):PG X (.Tuple es k pos) (gLst [] es.length t):=by
 intro NI s Z H v u Q I r hw;obtain⟨a,xs,rfl,i,j,hw⟩:=hw;cases r;obtain⟨its,c,p,m⟩:=I.list i;rw[assign_Tuple];refine aa (kB ?_);unfold unpack;have hsz:(assignEach es X.env).length=its.toArray.size:=by simp[f,<-j,c.length]
 rw[hsz,g];refine aa (cH (AX (I.ok.hd d) p.isList λh' hx=>?_));have l:Inv X NI Z H {s with heap:=h'}:=I.kept (t':=s.toks) λb o e=>hx b o (bc (aE e)) e;exact h NI _ Z H xs _ Q l (by simpa using c) hw
def rAny(K:W.Frag):List V->Hp->VK->Prop:=λxs H Q=>∃(a:Addr)(bs:List Bool),xs=[.ref a]/\SqL K H a (bs.map V.bl)/\Q (.bl (bs.any id)) H
theorem AV(m:X.calm=true):cu X (.builtin "any") (rAny []):=by
 intro NI s Z H xs us Q I r h;obtain⟨a,bs,rfl,n,q⟩:=h;obtain⟨u,rfl,w⟩:=Vals.one r;cases w;obtain⟨its,g,p,E⟩:=I.list n;have j:=g.length;rw[ao] at j;have c:=p.isList;have y:a<s.heap.objs.size:=by obtain⟨_,e,_⟩:=c;exact aE e
 refine call_any_walk (qk c ?_);refine⟨s.heap.objs.size,_,_,_,_,_,(λi=>bs.getD i false),rfl,Aj (A:=X.A.in1) (I.ok.hd m) _ a (bc y) its.toArray,⟨⟨_,bq _ rfl,rfl,rfl⟩,c.push _⟩,λi v s' K L B d=>?_,λh' tk C=>?_⟩
 .obtain⟨x,l,f⟩:=lr g (i:=i) (v:=v) (by simpa using B);rw[aY] at l;obtain⟨b,D,rfl⟩:=bW.mp l;cases f;have:bs.getD i false=b:=by rw[List.getD,D];rfl
  dsimp only at d;rw[this] at d;exact gY d
 have e:(List.range its.toArray.size).any (λi=>bs.getD i false)=bs.any id:=by
  rw[a_,<-j];have f:bs=(List.range bs.length).map λi=>bs.getD i false:=by refine tF (by simp) λi h1 h2=>?_;simp[h1]
  conv=>rhs;rw[f,tq]
  rfl
 rw[e];exact⟨.bl _,H,I.kept (t':=tk) λb o e=>C b o (λz=>by rw[aR.mp z] at e;exact absurd (aE e) (de _)) (aI _ e),rfl,q⟩
end
end L2
end
section
namespace K31
open PySem L2 K51
theorem same_of{H H1:Hp}{p:Addr}{o:HO}(g:H p=none)(e:upd H p o=H1):Same H H1:=by rw[<-e];exact bQ g
theorem at_of{H H1:Hp}{p:Addr}{o:HO}(e:upd H p o=H1):H1 p=some o:=by rw[<-e];exact aP
def nV(l:List Nat):List V:=l.map λn:Nat=>V.int (n:Int)
def mY(H:Hp)(v:V)(l:List Nat):Prop:=∃a,v=.ref a/\H a=some (.lst (nV l))
abbrev j9(H:Hp):List V->Lps->Prop:=Paired (mY H)
def mX(H:Hp)(v:V)(t:Nat×Nat×Nat):Prop:=∃a,v=.ref a/\H a=some (.tup [.int (t.1:Int),.int (t.2.1:Int),.int (t.2.2:Int)])
abbrev aw(H:Hp):List V->List (Nat×Nat×Nat)->Prop:=Paired (mX H)
theorem mY.same{v:V}{l:List Nat}(s:Same H H')(h:mY H v l):mY H' v l:=by obtain⟨a,e,h⟩:=h;exact⟨a,e,s a _ h⟩
theorem j9.same{ls:Lps}(s:Same H H')(h:j9 H vs ls):j9 H' vs ls:=Paired.imp' (λ_ _ q=>q.same s) h
theorem mX.same{v:V}{t:Nat×Nat×Nat}(s:Same H H')(h:mX H v t):mX H' v t:=by obtain⟨a,e,h⟩:=h;exact⟨a,e,s a _ h⟩
theorem aw.same{ls:List (Nat×Nat×Nat)}(s:Same H H')(h:aw H vs ls):aw H' vs ls:=Paired.imp' (λ_ _ q=>q.same s) h
section
variable {α β:Type}{F:α->β->Prop}
theorem aF:∀{xs:List α}{ys:List β},Paired F xs ys->xs.length=ys.length
 |_,_,.nil=>rfl
 |_,_,.cons _ t=>by rw[bz,bz,aF t]
theorem cJ:∀{xs:List α}{ys:List β}{b:List α}{c:List β},Paired F xs ys->Paired F b c->Paired F (xs++b) (ys++c)
 |_,_,_,_,.nil,h=>h
 |_,_,_,_,.cons a t,h=>.cons a (cJ t h)
theorem xl:∀{xs:List α}{ys:List β}(k:Nat),Paired F xs ys->Paired F (xs.take k) (ys.take k)
 |_,_,0,_=>by simp only[zO];exact .nil
 |_,_,_+1,.nil=>by simp only[List.take_nil];exact .nil
 |_,_,k+1,.cons a t=>.cons a (xl k t)
theorem rT:∀{xs:List α}{ys:List β}{i:Nat}{y:β},Paired F xs ys->ys[i]?=some y->∃x,xs[i]?=some x/\F x y
 |_,_,_,_,.nil,h=>by simp at h
 |_,_,0,_,.cons a t,h=>by
  simp at h;subst h;exact⟨_,rfl,a⟩
 |_,_,i+1,_,.cons a t,h=>by simpa using rT (i:=i) t (by simpa using h)
theorem cw:∀{xs:List α}{ys:List β}{i:Nat}{x:α},Paired F xs ys->xs[i]?=some x->∃y,ys[i]?=some y/\F x y
 |_,_,_,_,.nil,h=>by simp at h
 |_,_,0,_,.cons a t,h=>by
  simp at h;subst h;exact⟨_,rfl,a⟩
 |_,_,i+1,_,.cons a t,h=>by simpa using cw (i:=i) t (by simpa using h)
end
theorem bM(l:List Nat):(nV l).length=l.length:=ao ..
theorem eS(l r:List Nat):nV l++nV r=nV (l++r):=(aQ ..).symm
theorem rZ(n:Nat):[V.int (n:Int)]=nV [n]:=rfl
theorem HF{l:List Nat}{i n:Nat}(h:l[i]?=some n):(nV l)[i]?=some (.int (n:Int)):=by unfold nV;rw[aY,h];rfl
theorem wr_of{H H1:Hp}{p:Addr}{o:HO}(e:upd H p o=H1):∀b,b≠p->H1 b=H b:=λb a=>by rw[<-e,ar a]
def ky(p q:Nat):List Key:=[Sum.inl (p:Int),Sum.inl (q:Int)]
theorem pj{p q a b:Nat}:ky p q=ky a b↔(p,q)=(a,b):=by
 unfold ky;constructor
 .intro h;injection h with h1 h2;injection h2 with h2 _;injection h1 with h1;injection h2 with h2;have:p=a:=by lia
  have:q=b:=by lia
  simp[*]
 intro h;injection h with h1 h2;rw[h1,h2]
def SdAt(H:Hp)(v:V)(s:Side):Prop:=∃a,v=.ref a/\H a=some (.tup ((ky s.1 s.2).map kV))
abbrev SdsAt(H:Hp):List V->List Side->Prop:=Paired (SdAt H)
theorem lit1:1<=sizeLine:=by show 1<=sizeLine;decide
theorem lit2:2<=sizeLine:=by show 2<=sizeLine;decide
theorem lit3:3<=sizeLine:=by show 3<=sizeLine;decide
theorem ef{N:List Str}{fr:List (Option Nat)}(nd:N.Nodup)(len:fr.length=N.length)(kind:scope.kind=.function)(b:scope.names.all (λy=>y.2 != .cell)=true)
  (nm:scope.names.all (λy=>y.2 != .local||scope.names.lookup y.1==some .local)=true)
  (c:∀y∈scope.names,y.2=.free->X.env.kindOf y.1=some .cell\/X.env.kindOf y.1=some .free)
  (d:∀(j i:Nat)(x:Str),fr[j]?=some (some i)->N[j]?=some x->X.N[i]?=some x/\scope.names.lookup x=some .free):eP X N fr scope:=by
 refine⟨nd,len,kind,λy a=>?_,λy a e=>?_,c,d⟩
 .have:=fK.mp b y a;simpa using this
 have:=fK.mp nm y a;rw[e] at this;simpa using this
end K31
end
local macro_rules | `(tactic| walk_at $s:str) => let i := fun (x : String) => Lean.mkIdent (Lean.Name.mkSimple x); match s.getString.splitOn " " with | [h, p, g, h1, t, y] => `(tactic| (generalize hq : L2.upd $(i h) $(i p) _ = $(i h1); have $(i t) := K31.same_of $(i g) hq; have $(i y) := K31.at_of hq; clear hq)) | [h, p, h1, k, y] => `(tactic| (generalize hq : L2.upd $(i h) $(i p) _ = $(i h1); have $(i k) := K31.wr_of hq; have $(i y) := K31.at_of hq; clear hq)) | ["cs"] => `(tactic| ((intro y hy e; simp only [List.mem_cons, List.not_mem_nil, or_false] at hy; repeat' first | subst hy | rcases hy with hy | hy) <;> first | (cases e; done) | exact .inl rfl | exact .inr rfl)) | ["ct"] => `(tactic| (intro j i y e1 e2; rcases j with _ | _ | _ | _ | _ | _ | j <;> first | (simp at e1; done) | (simp at e1 e2; subst e1 e2; exact ⟨rfl, rfl⟩))) | ["sc"] => `(tactic| exact ⟨rfl, rfl, rfl, by decide +kernel, rfl, by decide +kernel, by decide +kernel⟩) | _ => Lean.Macro.throwUnsupported
section
namespace K51
open PySem L2
def mixed(ns:List Int)(k:Int):Int:=(ns.take 40).foldl (λs c=>(s*48271+c)%2147483647) (7+1009*k)
def j5(ns:List Int)(k:Int):Int:=if k<(ns.length:Int) then ns.getD k.toNat 0 else 0
def potOf(ns:List Int)(k:Int):Int×Int:=(if j5 ns k<1000000000000000000 then 0 else j5 ns k,mixed ns k)
def refill(p:Int×Int):Int×Int:=if p.1=0 then (((p.2*16807+11)%2147483647)*((p.2*16807+11)%2147483647)%2147483629,(p.2*16807+11)%2147483647) else p
def digO(p:Int×Int)(b:Int):Int:=(refill p).1%b
def nxt(p:Int×Int)(b:Int):Int×Int:=((refill p).1/b,(refill p).2)
def bG(p:Int×Int):List V:=[.int p.1,.int p.2]
def bT(p:Int×Int):Prop:=-(2 ^ 60)<p.2/\p.2<2 ^ 60
theorem B0{p:Int×Int}(h:bT p):bT (refill p):=by
 unfold refill
 split
 .have:=pU (p.2*16807+11) (show (0:Int)<2147483647 by decide);have:=pV (p.2*16807+11) (show (2147483647:Int)≠0 by decide);unfold bT;constructor<;>(show _<_;lia)
 exact h
theorem bJ{p:Int×Int}{b:Int}(h:bT p):bT (nxt p b):=B0 h
theorem wc(ns:List Int){k:Int}(b:0<=k)(h1:k<1000):-(2 ^ 60)<mixed ns k/\mixed ns k<2 ^ 60:=by
 unfold mixed;have:∀(l:List Int)(s:Int),(-(2 ^ 60)<s/\s<2 ^ 60)->(-(2 ^ 60)<l.foldl (λs c=>(s*48271+c)%2147483647) s/\l.foldl (λs c=>(s*48271+c)%2147483647) s<2 ^ 60):=by
  intro l;induction l with
  |nil=>intro s h;exact h
  |cons c r a=>
   intro s h;rw[jn];refine a _ ?_;have:=pU (s*48271+c) (show (0:Int)<2147483647 by decide);have:=pV (s*48271+c) (show (2147483647:Int)≠0 by decide);constructor<;>lia
 exact this _ _ (by constructor<;>lia)
theorem jH:OpR X (binaryOp .FloorDiv) (rI (λ_ j=>0<j/\j.natAbs.log2<9000) λi j=>.int (i/j)):=opI λi j _ _ _ _ _ a q=>by
 have e:i.fdiv j=i/j:=by rw[Int.fdiv_eq_ediv_of_nonneg _ (Int.le_of_lt a.1)]
 rw[<-e] at q;exact MB (by lia) q (.inl (PyProof.noPylong_of_log2 a.2))
def Jj(K:W.Frag)(vs:List V)(H:Hp)(Q:VK)(a:Addr)(ns:List Int)(k:Int):Prop:=vs=[.ref a,.int k]/\SqL [] H a (ns.map V.int)/\0<=k/\Q (.int (j5 ns k)) H
def spAt(K:W.Frag):Sp:=λvs H Q _=>Exists (Ex3 (Jj K vs H Q))
def Gw(K:W.Frag)(vs:List V)(H:Hp)(Q:VK)(a:Addr)(ns:List Int)(k:Int):Prop:=vs=[.ref a,.int k]/\SqL [] H a (ns.map V.int)/\0<=k/\k<1000/\
 ∀(p:Addr)(H':Hp),H p=none->Same H H'->H' p=some (.lst (bG (potOf ns k)))->Q (.ref p) H'
def yX(K:W.Frag):Sp:=λvs H Q _=>Exists (Ex3 (Gw K vs H Q))
def De(vs:List V)(H:Hp)(Q:VK)(p:Addr)(q:Int×Int)(b:Int):Prop:=vs=[.ref p,.int b]/\H p=some (.lst (bG q))/\bT q/\0<b/\b.natAbs.log2<9000/\WrO H p (.lst (bG (nxt q b))) (Q (.int (digO q b)))
def gj:Sp:=λvs H Q _=>Exists (Ex3 (De vs H Q))
section
theorem scAt:a7 ["_law_script","_law_k"] ["_law_script","_law_k"] (aC sAt):=by walk_at"sc"
theorem JI{f:Addr}(U:Fun K "_law_at" "_law_at" sAt f fd)(T:cq mg):aj P w K mg base CX0 1 f fd ["_law_script","_law_k"] (spAt K):=by
 refine U.ok scAt (by rintro _ _ _ _ ⟨_,_,_,rfl,_⟩;rfl) λi A outer s H vs Q E j h=>?_
 obtain⟨a,ns,k,rfl,b,l,q⟩:=h;refine⟨_,af (bo (a6 mF (pv 1) (pln T.len (pv 0)) (nomark _)) (ai (aN (ixx cI (pv 0) (pv 1)))) bj) (ai (aN ah)),?_⟩;refine⟨_,rfl,_,rfl,a,_,rfl,.inl b,_,_,rfl,rfl,_,rfl,?_⟩;unfold j5 at q;rw[ao];refine ite2 (λc=>?_) (λc=>?_)
 .have c:k<(ns.length:Int):=NH c;rw[ND c] at q;have d:k.toNat<ns.length:=by lia
  refine⟨_,rfl,_,rfl,a,_,k,.int (ns.getD k.toNat 0),rfl,rfl,b,?_,q⟩;have e:((k.toNat:Nat):Int)=k:=by lia
  rw[<-e];refine c9 ?_;have g:ns[k.toNat]?=some (ns.getD k.toNat 0):=by simp[List.getD,d]
  rw[aY,g];rfl
 have c:¬k<(ns.length:Int):=λz=>c (NF z);rw[NC c] at q;exact q
theorem xi:a7 ["_law_pot_here","_law_base","_law_digit_here"] ["_law_pot_here","_law_base"] (aC l_):=by walk_at"sc"
theorem DU{f:Addr}(U:Fun K "_law_digit" "_law_digit" l_ f fd):aj P w K mg base CX0 1 f fd ["_law_pot_here","_law_base"] gj:=by
 refine U.ok xi (by rintro _ _ _ _ ⟨_,_,_,rfl,_⟩;rfl) λC A outer s H vs Q E D h=>?_
 obtain⟨p,⟨n,z⟩,b,rfl,a,hok,g,r,q⟩:=h;refine⟨_,af (bo (a6 eA (ixx cI (pv 0) ah) ah (nomark _))
   (af (gk (ax eK (ax cF (ax ir (ixx cI (pv 0) ah) ah) ah) ah) (rV (pv 0) ah qO))
    (ai (gk (ax eK (ax ir (ixx cI (pv 0) ah) (ixx cI (pv 0) ah)) ah) (rV (pv 0) ah qO)))) bj)
  (af (sx 2 xi.nd (ax eK (ixx cI (pv 0) ah) (pv 1)))
  (af (gk (ax jH (ixx cI (pv 0) ah) (pv 1)) (rV (pv 0) ah qO))
  (ai (aN (pv 2))))),?_⟩
 have d:∀(x y:Int),atI [V.int x,V.int y] 0=some (V.int x):=λ_ _=>rfl;have i:∀(x y:Int),atI [V.int x,V.int y] 1=some (V.int y):=λ_ _=>rfl;have b0:∀(x y:V),ixN [x,y].length 0=some 0:=λ_ _=>rfl;have B:∀(x y:V),ixN [x,y].length 1=some 1:=λ_ _=>rfl;have u:=hok.1;have v:=hok.2;refine⟨_,rfl,p,_,0,_,rfl,rfl,SqL.of a,d _ _,rfl,_,rfl,?_⟩;have u:-(2 ^ 60)<z:=u;have v:z<2 ^ 60:=v;refine ite2 (λc=>?_) (λc=>?_)
 .have c:n=0:=by
   have:=NH c;injection this
  have I:=pU (z*16807+11) (show (0:Int)<2147483647 by decide);have L:=pV (z*16807+11) (show (2147483647:Int)≠0 by decide);refine⟨_,rfl,p,_,1,_,rfl,rfl,SqL.of a,i _ _,_,_,rfl,rfl,.inl ⟨by lia,by lia⟩,_,_,rfl,rfl,_,_,rfl,rfl,(show (0:Int)<2147483647 by decide),_,rfl,p,_,_,_,rfl,rfl,a,B _ _,λH1 k1 j=>?_⟩;refine⟨_,rfl,p,_,1,_,rfl,rfl,SqL.of j,i _ _,_,rfl,p,_,1,_,rfl,rfl,SqL.of j,i _ _,_,_,rfl,rfl,.inl ⟨by lia,by lia⟩,_,_,rfl,rfl,(show (0:Int)<2147483629 by decide),_,rfl,p,_,_,_,rfl,rfl,j,b0 _ _,λH2 k2 l=>?_⟩;refine⟨_,rfl,p,_,0,_,rfl,rfl,SqL.of l,d _ _,_,rfl,_,_,rfl,rfl,g,?_⟩;refine⟨_,rfl,p,_,0,_,rfl,rfl,SqL.of l,d _ _,_,rfl,_,_,rfl,rfl,⟨g,r⟩,_,rfl,p,_,_,_,rfl,rfl,l,b0 _ _,λm k3 o=>?_⟩;refine⟨_,rfl,?_⟩;have e:refill (n,z)=((z*16807+11)%2147483647*((z*16807+11)%2147483647)%2147483629,(z*16807+11)%2147483647):=by unfold refill;rw[ND c]
  unfold digO nxt bG at q;rw[e] at q;exact q m (λb h=>(k3 b h).trans ((k2 b h).trans (k1 b h))) o
 have c:¬n=0:=λy=>c (by rw[y];exact NF rfl);refine⟨_,rfl,p,_,0,_,rfl,rfl,SqL.of a,d _ _,_,rfl,_,_,rfl,rfl,g,?_⟩;refine⟨_,rfl,p,_,0,_,rfl,rfl,SqL.of a,d _ _,_,rfl,_,_,rfl,rfl,⟨g,r⟩,_,rfl,p,_,_,_,rfl,rfl,a,b0 _ _,λm k3 o=>?_⟩;refine⟨_,rfl,?_⟩;have e:refill (n,z)=(n,z):=by unfold refill;rw[NC c]
 unfold digO nxt bG at q;rw[e] at q;exact q m k3 o
theorem j7:a7 ["_law_script","_law_k","_law_seed","_law_cell","_law_number"] ["_law_script","_law_k"] (aC mV):=by walk_at"sc"
theorem CW(ns:List Int):fX (ns.map V.int) none (some 40)=(ns.take 40).map V.int:=by
 unfold fX;have a:HT.sIx (ns.map V.int).length 0 none=0:=rfl;have b:HT.sIx (ns.map V.int).length (ns.map V.int).length (some 40)=min 40 ns.length:=by rw[ao];have:=HT.sIx_nat ns.length ns.length 40;simpa using this
 rw[a,b,pX,<-tN,KR]
 congr 1
 rw[List.take_eq_take_iff];lia
theorem Hy{f d:Addr}{fd g:FuncData}(U:Fun K "_law_pot" "_law_pot" mV f fd)(n:Fun K "_law_at" "_law_at" sAt d g)(o:Binds K g ["_law_script","_law_k"] [])(mA:mg "_law_at" = some (.ref d))(p:W.keepIn K (.ref d)=true)(T:cq mg) :
  aj P w K mg base CX0 2 f fd ["_law_script","_law_k"] (yX K):=by
 have u:aj P w K mg base CX0 1 d g ["_law_script","_law_k"] (spAt K):=JI n T;refine U.ok j7 (by rintro _ _ _ _ ⟨_,_,_,rfl,_⟩;rfl) λI A outer s H vs Q E x h=>?_
 obtain⟨a,ns,k,rfl,m,z,h1,q⟩:=h;refine⟨_,af (sx 2 j7.nd (ax cF ah (ax ir ah (pv 1))))
  (af (b_ cv rfl (bI (h_ w9 (pv 0) ie (ic ah))) (gx 3 j7.nd)
   (ai (sx 2 j7.nd (ax eK (ax cF (ax ir (pv 2) ah) (pv 3)) ah))))
  (af (sx 4 j7.nd (iX u x rfl mA p o .nil pass0 (ae (pv 0) (pa1 (pv 1)))))
  (af (bo (a6 mF (pv 4) (ax mm ah ah) (nomark _)) (ai (sx 4 j7.nd ah)) bj)
  (ai (aN (bF (ae (pv 4) (pa1 (pv 2))))))))),?_⟩
 refine⟨_,rfl,_,_,rfl,rfl,.inl ⟨by lia,by lia⟩,_,_,rfl,rfl,?_⟩;refine⟨_,rfl,40,rfl,a,_,rfl,m,λl H1 L sm j=>?_⟩;rw[CW] at j;refine⟨l,rfl,⟨_,SqL.of j⟩,dh (K:=[]) (a:=l) (xs:=(ns.take 40).map V.int) (λi Z H2=>∃v,Z=[some (.ref a),some (.int k),some (.int (((ns.take 40).take i).foldl (λs c=>(s*48271+c)%2147483647) (7+1009*k))),v,none]/\H2=H1/\
  (-(2 ^ 60)<(((ns.take 40).take i).foldl (λs c=>(s*48271+c)%2147483647) (7+1009*k))/\(((ns.take 40).take i).foldl (λs c=>(s*48271+c)%2147483647) (7+1009*k))<2 ^ 60))
  ⟨none,rfl,rfl,by simp only[zO,Kw];constructor<;>lia⟩ (λi Z H2 _ ⟨_,_,e,_⟩=>by rw[e];exact SqL.of j) ?_ ?_⟩
 .rintro i y Z H2 hi ⟨v,rfl,rfl,M,N⟩;obtain⟨c,B,rfl⟩:∃c,(ns.take 40)[i]?=some c/\V.int c=y:=by
   rw[aY] at hi;exact bW.mp hi
  have e:(ns.take 40).take (i+1)=(ns.take 40).take i++[c]:=by rw[ba,B];rfl
  refine⟨_,rfl,_,_,rfl,rfl,.inl ⟨by lia,by lia⟩,_,rfl,_,_,rfl,rfl,_,_,rfl,rfl,(show (0:Int)<2147483647 by decide),?_⟩;refine⟨some (.int c),?_,rfl,?_⟩
  .rw[e,Kv];rfl
  rw[e,Kv];have O:=pU ((((ns.take 40).take i).foldl (λs c=>(s*48271+c)%2147483647) (7+1009*k))*48271+c) (show (0:Int)<2147483647 by decide);have R:=pV ((((ns.take 40).take i).foldl (λs c=>(s*48271+c)%2147483647) (7+1009*k))*48271+c) (show (2147483647:Int)≠0 by decide);simp only[jn,Kw];constructor<;>lia
 rintro Z H2 ⟨v,rfl,rfl,_,_⟩;rw[ao,bV];refine⟨_,rfl,_,rfl,a,ns,k,rfl,sm.seq m,z,?_⟩;refine⟨_,rfl,_,_,rfl,rfl,⟨by decide,by decide,by decide⟩,_,_,rfl,rfl,_,rfl,?_⟩;have fin:∀(r:Addr)(b:Hp),H2 r=none->Same H2 b->b r=some (.lst (bG (potOf ns k)))->Q (.ref r) b:=λr b C s2 D=>q r b (sm.free C) (sm.trans s2) D;unfold potOf at fin;refine ite2 (λc=>?_) (λc=>?_)
 .have c:j5 ns k<1000000000000000000:=NH c;rw[ND c] at fin;exact⟨_,rfl,_,rfl,(show 2<=sizeLine by decide),fin⟩
 have c:¬j5 ns k<1000000000000000000:=λy=>c (NF y);rw[NC c] at fin;exact⟨_,rfl,_,rfl,(show 2<=sizeLine by decide),fin⟩
end
theorem cQ{q:Int×Int}{b:Int}(a:0<b):0<=digO q b/\digO q b<b:=⟨pV _ (by lia),pU _ a⟩
theorem iR{b:Int}(a:0<b)(h:b<=10 ^ 60):b.natAbs.log2<9000:=by
 have h1:b.natAbs≠0:=by lia
 refine (zR h1).mpr ?_;have h2:b.natAbs<=10 ^ 60:=by lia
 exact zT h2 (bP (show 10 ^ 60<2 ^ 200 by decide) (p9 (by decide) (by decide)))
end K51
end
section
namespace K15
open PySem L2 K51 K31
def bD(e:Ent):List Key×V:=(ky e.1.1 e.1.2,V.int (e.2:Int))
theorem hU{l:List Ent}{p q:Nat}:bh (l.map bD) (ky p q)=none↔(p,q)∉l.map (·.1):=by
 induction l with
 |nil=>simp[bh]
 |cons e l a=>
  rw[aU,aU,aK];by_cases h:(bD e).1=ky p q
  .rw[hV h];have:e.1=(p,q):=pj.mp h;simp[this]
  rw[fR h,a];have:(p,q)≠e.1:=λz=>h (pj.mpr (by rw[z]));simp[this]
theorem CS{l:List Ent}(nd:(l.map (·.1)).Nodup){p q c:Nat}:bh (l.map bD) (ky p q)=some (V.int (c:Int))↔((p,q),c)∈l:=by
 induction l with
 |nil=>simp[bh]
 |cons e l b=>
  rw[aU,dY] at nd;rw[aU,aK];by_cases h:(bD e).1=ky p q
  .rw[hV h];have a:e.1=(p,q):=pj.mp h;constructor
   .intro z;injection z with z;injection z with z;left;have:e.2=c:=by lia
    rw[<-a,<-this]
   rintro (z|z)
   .rw[<-z];rfl
   exact (nd.1 (ay.mpr ⟨_,z,a.symm⟩)).elim
  rw[fR h,b nd.2];constructor
  .exact .inr
  rintro (z|z)
  .exact (h (pj.mpr (by rw[<-z]))).elim
  exact z
theorem Ez{l:List Ent}{p q:Nat}{v:V}(h:bh (l.map bD) (ky p q)=some v):∃c:Nat,v=V.int (c:Int):=by
 induction l with
 |nil=>cases h
 |cons e l a=>
  rw[aU] at h;by_cases h1:(bD e).1=ky p q
  .rw[hV h1] at h;injection h with h;exact⟨e.2,h.symm⟩
  rw[fR h1] at h;exact a h
theorem wA{ts:List Tri}(g:Good ts)(p q:Nat):(∃c,En ts p q c/\bh ((ents ts).map bD) (ky p q)=some (V.int (c:Int)))\/((∀c,¬En ts p q c)/\bh ((ents ts).map bD) (ky p q)=none):=by
 cases h:bh ((ents ts).map bD) (ky p q) with
 |none=>
  refine .inr ⟨λc a=>?_,rfl⟩;exact hU.mp h (ay.mpr ⟨_,a,rfl⟩)
 |some v=>
  obtain⟨c,rfl⟩:=Ez h;exact .inl ⟨c,(CS g.nd).mp h,rfl⟩
theorem fe(a b:List Tri):ents (a++b)=ents a++ents b:=by simp[ents]
theorem fc(ts:List Tri):(ents ts).length=3*ts.length:=by
 induction ts with
 |nil=>rfl
 |cons t ts a=>
  rw[show t::ts=[t]++ts from rfl,fe,aL,a,aL];show 3+_=3*(1+_);lia
theorem oE{l:List Ent}{a b c:Nat}(h:((l++[((a,b),c)]).map (·.1)).Nodup):(l.map (·.1)).Nodup/\(a,b)∉l.map (·.1):=by rw[aQ,cY] at h;refine⟨h.1,λz=>?_⟩;exact h.2.2 _ z (a,b) (by simp) rfl
theorem oH{l:List Ent}{a b c:Nat}(h:(a,b)∉l.map (·.1)):cL (l.map bD) (ky a b) (V.int (c:Int))=(l++[((a,b),c)]).map bD:=by rw[om _ (hU.mpr h),aQ];rfl
def dH(t:Tri):List (Nat×Nat):=[(t.1,t.2.1),(t.2.1,t.2.2),(t.2.2,t.1)]
def C8(vs:List V)(H:Hp)(Q:VK)(t:Addr)(x:Tri):Prop:=vs=[.ref t]/\H t=some (.tup [.int (x.1:Int),.int (x.2.1:Int),.int (x.2.2:Int)])/\
 ∀r zs H',H r=none->Same H H'->H' r=some (.lst zs)->SdsAt H' zs (dH x)->Q (.ref r) H'
def oB:Sp:=λvs H Q _=>Exists (Ex2 (C8 vs H Q))
def BS(vs:List V)(H:Hp)(Q:VK)(T:Addr)(a:List V)(ts:List Tri):Prop:=vs=[.ref T]/\H T=some (.lst a)/\aw H a ts/\ts.length<=400/\((ents ts).map (·.1)).Nodup/\
 ∀D H',H D=none->Same H H'->H' D=some (.dT ((ents ts).map bD))->Q (.ref D) H'
def kQ:Sp:=λvs H Q _=>Exists (Ex3 (BS vs H Q))
def iz(ts:List Tri)(x:Tri):Bool:=(dH x).all λs=>decide (s∉(ents ts).map (·.1))
def EO(vs:List V)(H:Hp)(Q:VK)(D t:Addr)(ts:List Tri)(x:Tri):Prop:=vs=[.ref D,.ref t]/\H D=some (.dT ((ents ts).map bD))/\H t=some (.tup [.int (x.1:Int),.int (x.2.1:Int),.int (x.2.2:Int)])/\
 ∀H',Same H H'->Q (.bl (iz ts x)) H'
def rN:Sp:=λvs H Q _=>Exists (Ex4 (EO vs H Q))
section
theorem oF:a7 ["_law_triple","_law_a","_law_b","_law_c"] ["_law_triple"] (aC lU):=by walk_at"sc"
theorem DK{f:Addr}(U:Fun K "_law_sides" "_law_sides" lU f fd):aj P w K mg base CX0 1 f fd ["_law_triple"] oB:=by
 refine U.ok oF (by rintro _ _ _ _ ⟨_,_,rfl,_⟩;rfl) λp A outer s H vs Q E u h=>?_
 obtain⟨t,x,rfl,c,q⟩:=h;refine⟨_,af (gk (pv 0) (cX rfl (aX (gx 1 oF.nd) (aX (gx 2 oF.nd) (aX (gx 3 oF.nd) cR)))))
  (ai (aN (bF (ae (aO (ae (pv 1) (pa1 (pv 2)))) (ae (aO (ae (pv 2) (pa1 (pv 3)))) (pa1 (aO (ae (pv 3) (pa1 (pv 1)))))))))),?_⟩
 refine⟨_,rfl,t,_,rfl,SqT.of c,rfl,_,_,rfl,_,_,rfl,_,_,rfl,rfl,?_⟩;refine⟨_,rfl,_,rfl,lit2,λd H1 h1 s1 e=>?_⟩;refine⟨_,rfl,_,rfl,lit2,λg H2 h2 s2 i=>?_⟩;refine⟨_,rfl,_,rfl,lit2,λj v y a l=>?_⟩;refine⟨lit3,λr m n b o=>?_⟩;exact q r _ m (((s1.trans s2).trans a).free n) (((s1.trans s2).trans a).trans b) o (.cons ⟨d,rfl,((s2.trans a).trans b) _ _ e⟩ (.cons ⟨g,rfl,(a.trans b) _ _ i⟩ (.cons ⟨j,rfl,b _ _ l⟩ .nil)))
theorem kU:a7 ["_law_triples","_law_thirds_here","_law_a","_law_b","_law_c"] ["_law_triples"] (aC lA):=by walk_at"sc"
theorem B7{f:Addr}(U:Fun K "_law_thirds" "_law_thirds" lA f fd):aj P w K mg base CX0 1 f fd ["_law_triples"] kQ:=by
 refine U.ok kU (by rintro _ _ _ _ ⟨_,_,_,rfl,_⟩;rfl) λNJ A outer s H vs Q E M h=>?_
 obtain⟨T,N,ts,rfl,r,u,hl,v,q⟩:=h;have g:=dv M;refine⟨_,af (sx 1 kU.nd vZ)
  (af (b_ cv rfl (bI (pv 0)) (cX rfl (aX (gx 2 kU.nd) (aX (gx 3 kU.nd) (aX (gx 4 kU.nd) cR))))
   (af (iW g (pv 1) (aO (ae (pv 2) (pa1 (pv 3)))) (pv 4) rfl)
   (af (iW g (pv 1) (aO (ae (pv 3) (pa1 (pv 4)))) (pv 2) rfl)
   (ai (iW g (pv 1) (aO (ae (pv 4) (pa1 (pv 2)))) (pv 3) rfl)))))
  (ai (aN (pv 1)))),?_⟩
 have ab:=line5000;have hlen:=aF u;refine λD H1 h1 s1 O=>?_;refine⟨_,rfl,T,rfl,⟨_,SqL.of (s1 _ _ r)⟩,dh (K:=[]) (a:=T) (xs:=N) (λi Z H2=>∃j l m,Z=[some (.ref T),some (.ref D),j,l,m]/\Same H H2/\H2 D=some (.dT ((ents (ts.take i)).map bD)))
  ⟨none,none,none,rfl,s1,O⟩ (by rintro i Z H2 _ ⟨_,_,_,_,e,_⟩;exact SqL.of (e _ _ r)) ?_ ?_⟩
 .rintro i x Z H2 hi ⟨j,l,m,rfl,sm,d⟩;obtain⟨⟨a,b,c⟩,y,t,rfl,n⟩:=cw u hi;have n:H t=some (.tup [.int (a:Int),.int (b:Int),.int (c:Int)]):=n;have ad:i<ts.length:=(aG.mp y).1;have R:ts.take (i+1)=ts.take i++[(a,b,c)]:=by rw[ba,y];rfl
  have z:((ents (ts.take (i+1))).map (·.1)).Nodup:=by rw[<-f_ (i+1) ts,fe,aQ,cY] at v;exact v.1
  have B:ents (ts.take (i+1))=((ents (ts.take i)++[((a,b),c)])++[((b,c),a)])++[((c,a),b)]:=by rw[R,fe];simp[ents]
  rw[B] at z;obtain⟨S,X⟩:=oE z;obtain⟨Y,n2⟩:=oE S;obtain⟨_,n1⟩:=oE Y;have l0:=fc (ts.take i);rw[bf] at l0;refine⟨t,_,rfl,SqT.of (sm _ _ n),rfl,_,_,rfl,_,_,rfl,_,_,rfl,rfl,?_⟩;refine⟨_,rfl,_,rfl,_,rfl,_,rfl,lit2,λt1 H3 g1 C y3=>?_⟩;refine⟨D,_,rfl,DPut.t (k:=ky a b) (C _ _ d) y3 (by rw[ao];lia),?_⟩;rw[oH n1];walk_at"H3 D H4 k4 y4";refine⟨_,rfl,_,rfl,_,rfl,_,rfl,lit2,λt2 H5 g2 I y5=>?_⟩;refine⟨D,_,rfl,DPut.t (k:=ky b c) (I _ _ y4) y5 (by rw[ao,aL,bY];lia),?_⟩;rw[oH n2];walk_at"H5 D H6 k6 y6";refine⟨_,rfl,_,rfl,_,rfl,_,rfl,lit2,λt3 H7 g3 L y7=>?_⟩;refine⟨D,_,rfl,DPut.t (k:=ky c a) (L _ _ y6) y7 (by rw[ao,aL,aL,bY,bY];lia),?_⟩;rw[oH X];walk_at"H7 D H8 k8 y8";refine⟨_,_,_,rfl,λp o e=>?_,by rw[y8,B]⟩;have nb:=aq e h1;exact (k8 p nb).trans (L _ _ ((k6 p nb).trans (I _ _ ((k4 p nb).trans (C _ _ (sm _ _ e))))))
 rintro Z H2 ⟨j,l,m,rfl,sm,d⟩;rw[hlen,bV] at d;exact⟨_,rfl,q D H2 h1 sm d⟩
end
theorem Eu:bootBuiltins "all" = some (.builtin "all"):=by decide +kernel
theorem iN:bootBuiltins "sorted" = some (.builtin "sorted"):=by decide +kernel
def flat(ts:List Tri):List Nat:=ts.flatMap λt=>[t.1,t.2.1,t.2.2]
def kb(c:Nat):Key×V:=(Sum.inl (c:Int),V.bl true)
theorem HU{c d:Nat}:(kb c).1=(Sum.inl (d:Int):Key)↔c=d:=by
 unfold kb;constructor
 .intro h;injection h with h;lia
 rintro rfl;rfl
theorem Hk(dd:List Nat)(c:Nat):cL (dd.map kb) (Sum.inl (c:Int)) (V.bl true)=(if c∈dd then dd else dd++[c]).map kb:=by
 by_cases h:c∈dd
 .rw[ND h];have ha:((dd.map kb).any λa=>decide (a.1=(Sum.inl (c:Int):Key)))=true:=tm.mpr ⟨kb c,ay.mpr ⟨c,h,rfl⟩,NF rfl⟩;unfold cL;rw[ND ha,bU];refine p5 λx _=>?_;show (if (kb x).1=(Sum.inl (c:Int):Key) then ((kb x).1,V.bl true) else kb x)=kb x
  split<;>rfl
 rw[NC h,om,aQ]
 .rfl
 cases e:bh (dd.map kb) (Sum.inl (c:Int)) with
 |none=>rfl
 |some v=>
  have:=EA e;rw[bU] at this;obtain⟨x,hx,ex⟩:=ay.mp this;exact (h (HU.mp ex ▸ hx)).elim
def Cs(ts:List Tri)(cs:List Nat):Prop:=cs.Pairwise (· < ·)/\∀c,c∈cs↔c∈flat ts
theorem qv{dd:List Nat}{ms:List Int}(nd:dd.Nodup)(f:ms.Perm (dd.map λc:Nat=>(c:Int)))(d:ms.Pairwise (·<=·)):∃cs:List Nat,ms=cs.map (λc:Nat=>(c:Int))/\cs.Pairwise (· < ·)/\cs.Perm dd:=by
 have e:ms=(ms.map Int.toNat).map (λc:Nat=>(c:Int)):=by
  rw[bU];have:∀x∈ms,((λc:Nat=>(c:Int)) ∘ Int.toNat) x=id x:=by intro x hx;obtain⟨c,_,rfl⟩:=ay.mp (f.mem_iff.mp hx);simp
  rw[p5 this,zK]
 have pm:(ms.map Int.toNat).Perm dd:=by
  have:=f.map Int.toNat;rw[bU] at this;have g:dd.map (Int.toNat ∘ λc:Nat=>(c:Int))=dd:=by
   have:∀x∈dd,(Int.toNat ∘ λc:Nat=>(c:Int)) x=id x:=λx _=>by simp
   rw[p5 this,zK]
  rw[g] at this;exact this
 refine⟨ms.map Int.toNat,e,?_,pm⟩;have i:(ms.map Int.toNat).Nodup:=pm.nodup_iff.mpr nd;rw[e] at d;rw[iJ] at d;have:=d.and i;refine this.imp λ{a b} h=>?_;have h1:=h.1;have h2:=h.2;lia
def Bn(vs:List V)(H:Hp)(Q:VK)(T:Addr)(a:List V)(ts:List Tri):Prop:=vs=[.ref T]/\H T=some (.lst a)/\aw H a ts/\ts.length<=200/\
 ∀r cs H',H r=none->Same H H'->H' r=some (.lst (nV cs))->Cs ts cs->cs.length<=3*ts.length->Q (.ref r) H'
def iO:Sp:=λvs H Q _=>Exists (Ex3 (Bn vs H Q))
section
theorem GO:a7 ["_law_thirds_here","_law_triple"] ["_law_thirds_here","_law_triple"] (aC mB):=by walk_at"sc"
theorem Ft{f B:Addr}{fd C:FuncData}(U:Fun K "_law_free" "_law_free" mB f fd)(T:cq mg)(G:Use P w K mg base 1 "_law_sides" ["_law_triple"] oB B C) :
  aj P w K mg base CX0 2 f fd ["_law_thirds_here","_law_triple"] rN:=by
 refine U.ok GO (by rintro _ _ _ _ ⟨_,_,_,_,rfl,_⟩;rfl) λX A outer s H vs Q E l h=>?_
 obtain⟨D,t,ts,x,rfl,I,L,q⟩:=h;have M:=dv l;refine⟨_,ai (aN (bH (AW rfl) (by rfl) T.all Eu (pa1 (c7 (N:=["_law_side","_law_thirds_here"]) (fr:=[none,some 0]) (ef (by decide +kernel) rfl rfl (by decide +kernel) (by decide +kernel) (by walk_at"cs") (by walk_at"ct")) rfl (bI (uc G l (pa1 (pv 1))))
    (λY s' H' fp NI=>⟨gx 0 (by decide:(["_law_side","_law_thirds_here"]:List Str).Nodup),di,Hs (vh M (pv 0) (pv 1))⟩))))),?_⟩
 have ab:=line5000;refine⟨_,rfl,t,x,rfl,L,λr zs H1 ad s1 m n=>?_⟩;have O:=aF n;refine⟨r,rfl,⟨_,SqL.of m⟩,λZ_ p=>dG (K:=[]) (a:=r) (xs:=zs) (λi Z ys H'=>∃o,Z=[o,some (.ref D)]/\ys=(((dH x).take i).map λs=>decide (s∉(ents ts).map (·.1))).map V.bl/\Same H1 H'/\H' Z_=some (.lst ys)) ⟨none,rfl,rfl,bQ p,aP⟩ (by rintro i Z ys H' _ ⟨_,_,_,e,_⟩;exact SqL.of (e _ _ m)) ?_ ?_⟩
 .rintro i y Z ys H' hi ⟨o,rfl,rfl,d,g⟩;obtain⟨⟨a,b⟩,u,c,rfl,R⟩:=cw n hi;have al:=(aG.mp u).1;refine⟨_,rfl,_,rfl,D,_,rfl,DGet.t (k:=ky a b) (d _ _ (s1 _ _ I)) (d _ _ R),g,?_,λH3 k3 S=>⟨_,rfl,?_,λb o e=>(k3 b (aq e p)).trans (d _ _ e),S⟩⟩
  .rw[ao,ao,bf];have:(dH x).length=3:=rfl;lia
  rw[ba,u];show _=((((dH x).take i)++[(a,b)]).map _).map _;rw[aQ,aQ]
  congr 1
  show [V.bl _]=[V.bl _]
  congr 2
  cases j:bh ((ents ts).map bD) (ky a b) with
  |none=>exact (NF (hU.mp j)).symm
  |some v=>exact (NG λz=>by rw[hU.mpr z] at j;cases j).symm
 rintro Z ys H' ⟨o,rfl,rfl,d,g⟩;refine⟨Z_,(dH x).map λs=>decide (s∉(ents ts).map (·.1)),rfl,SqL.of ?_,?_⟩
 .rw[g,O,bV]
 rw[Kp];exact q _ (s1.trans d)
theorem nZ:a7 ["_law_triples","_law_found","_law_triple","_law_corner"] ["_law_triples"] (aC kY):=by walk_at"sc"
theorem Bx{f:Addr}(U:Fun K "_law_corners" "_law_corners" kY f fd)(X:mg "sorted" = none):aj P w K mg base CX0 1 f fd ["_law_triples"] iO:=by
 refine U.ok nZ (by rintro _ _ _ _ ⟨_,_,_,rfl,_⟩;rfl) λNJ A outer s H vs Q E Y h=>?_
 obtain⟨T,vt,ts,rfl,L,M,hl,q⟩:=h;have hu:=dv Y;refine⟨_,af (sx 1 nZ.nd ou)
  (af (b_ cv rfl (bI (pv 0)) (gx 2 nZ.nd)
   (ai (b_ cv rfl (i7 (pv 2)) (gx 3 nZ.nd) (ai (iW hu (pv 1) (pv 3) cB rfl)))))
  (ai (aN (bH (nQ rfl) (by rfl) X iN (pa1 (pv 1)))))),?_⟩
 have ad:=line5000;have hlen:=aF M;refine λD H1 h1 s1 y1=>?_;refine⟨_,rfl,T,rfl,⟨_,SqL.of (s1 _ _ L)⟩,dh (K:=[]) (a:=T) (xs:=vt) (λi Z H2=>∃v g dd,Z=[some (.ref T),some (.ref D),v,g]/\Same H H2/\H2 D=some (.dK (dd.map kb))/\dd.Nodup/\(∀c,c∈dd↔c∈flat (ts.take i))/\dd.length<=3*i)
  ⟨none,none,[],rfl,s1,y1,kl,by simp[flat],aJ _⟩ (by rintro i Z H2 _ ⟨_,_,_,_,e,_⟩;exact SqL.of (e _ _ L)) ?_ ?_⟩
 .rintro i x Z H2 hi ⟨v,g,dd,rfl,sm,m,nd,hm,N⟩;obtain⟨⟨a,b,c⟩,O,t,rfl,r⟩:=cw M hi;have r:H t=some (.tup [.int (a:Int),.int (b:Int),.int (c:Int)]):=r;have al:i<ts.length:=(aG.mp O).1;have et:flat (ts.take (i+1))=flat (ts.take i)++[a,b,c]:=by rw[ba,O];simp[flat]
  refine⟨_,rfl,t,rfl,⟨_,SqT.of (sm _ _ r)⟩,xw (K:=[]) (a:=t) (xs:=[.int (a:Int),.int (b:Int),.int (c:Int)]) (λj Z l=>∃g dd,Z=[some (.ref T),some (.ref D),some (.ref t),g]/\Same H l/\l D=some (.dK (dd.map kb))/\dd.Nodup/\(∀z,z∈dd↔z∈flat (ts.take i)++[a,b,c].take j)/\dd.length<=3*i+j)
   ⟨_,dd,rfl,sm,m,nd,by simpa using hm,N⟩ (by rintro j Z l _ ⟨_,_,_,e,_⟩;exact SqT.of (e _ _ r)) ?_ ?_⟩
  .rintro j y Z l d ⟨g,dd,rfl,B,C,u,I,ab⟩;obtain⟨n,R,rfl⟩:∃n:Nat,[a,b,c][j]?=some n/\y=.int (n:Int):=by
    match j,d with
    |0,d=>simp at d;exact⟨a,rfl,d.symm⟩
    |1,d=>simp at d;exact⟨b,rfl,d.symm⟩
    |2,d=>simp at d;exact⟨c,rfl,d.symm⟩
    |j+3,d=>simp at d
   have am:j<3:=(aG.mp R).1;refine⟨_,rfl,_,rfl,D,_,rfl,DPut.k (k:=Sum.inl (n:Int)) C (by rw[ao];lia),?_⟩;rw[Hk];walk_at"l D H4 k4 y4";refine⟨_,_,rfl,λb' o e=>(k4 b' (aq e h1)).trans (B _ _ e),y4,?_,λz=>?_,?_⟩
   .split
    .exact u
    rename_i h;exact cY.mpr ⟨u,by simp,λx hx y hy=>by rw[aR.mp hy];rintro rfl;exact h hx⟩
   .rw[ba,R,<-dX];show _↔z∈(flat (ts.take i)++[a,b,c].take j)++[n];rw[aW,<-I z]
    split
    .rename_i h;constructor
     .exact .inl
     rintro (h' | h')
     .exact h'
     rw[aR.mp h'];exact h
    rw[aW]
   split
   .lia
   rw[aL,bY];lia
  rintro Z l ⟨g,dd,rfl,B,C,u,I,ab⟩;refine⟨_,_,dd,rfl,B,C,u,λz=>?_,?_⟩
  .rw[et];exact I z
  have:([V.int (a:Int),.int (b:Int),.int (c:Int)]:List V).length=3:=rfl;lia
 rintro Z H2 ⟨v,g,dd,rfl,sm,m,nd,hm,N⟩;rw[hlen,bV] at hm;refine⟨_,rfl,D,rfl,.inl ⟨_,m⟩,λks vs hk=>.inl ⟨dd.map (λc:Nat=>(c:Int)),?_,by rw[ao];lia,λp ms S pm ps=>?_⟩⟩
 .rcases hk with ⟨kvs,e,rfl,_⟩|⟨kvs,as,e,_⟩
  .rw[m] at e;cases e;rw[bU,bU];rfl
  rw[m] at e;cases e
 obtain⟨cs,rfl,pl,pc⟩:=qv nd pm ps;have an:=pc.length_eq;have e:(cs.map (λc:Nat=>(c:Int))).map V.int=nV cs:=by rw[bU];rfl
 rw[e];exact q p cs _ (sm.free S) (sm.trans (bQ S)) aP ⟨pl,λc=>by rw[pc.mem_iff];exact hm c⟩ (by lia)
end
theorem i5(l:List Nat):(nV l).all gr=true:=by rw[fK];intro v a;obtain⟨n,_,rfl⟩:=ay.mp a;rfl
theorem iu(c:Nat)(l:List Nat):inV (V.int (c:Int)) (nV l)=decide (c∈l):=by
 unfold inV nV;rw[tq,fH,decide_eq_true_eq,tm];constructor
 .rintro⟨x,hx,e⟩;have:(x:Int)=(c:Int):=by simpa [eqV] using e
  have:x=c:=by lia
  rw[<-this];exact hx
 intro h;exact⟨c,h,by simp[eqV]⟩
theorem FE(l:List Nat):inV V.non (nV l)=false:=by unfold inV nV;rw[tq,Kq];intro x _;simp[eqV]
theorem Cd{l m:List Nat}(h:l.Nodup)(b:∀x∈l,x∈m):l.length<=m.length:=by
 induction l generalizing m with
 |nil=>exact aJ _
 |cons a l c=>
  rw[dY] at h;have ha:=b a (by simp);have:=c (m:=m.erase a) h.2 λx hx=>by
   have d:x≠a:=λz=>h.1 (z ▸ hx);exact (List.mem_erase_of_ne d).mpr (b x (bZ _ hx))
  rw[List.length_erase_of_mem ha] at this;have hpos:0<m.length:=List.length_pos_of_mem ha;rw[bz];lia
theorem jD{K:W.Frag}{D:Addr}{l:List Ent}{ks vs:List V}(a:H D=some (.dT (l.map bD)))(c:DKeys H D ks vs):SdsAt H ks (l.map (·.1)):=by
 rcases c with ⟨kvs,e,_⟩|⟨kvs,as,e,b,rfl,_⟩
 .rw[a] at e;cases e
 rw[a] at e;cases e;rename_i d;clear a d;induction l generalizing as with
 |nil=>cases b;exact .nil
 |cons x l f=>
  cases b with
  |cons h t=>exact .cons ⟨_,rfl,h⟩ (f _ t)
theorem vS{ks:List V}{ss:List (Nat×Nat)}(h:SdsAt H ks ss):Tups K H ks (ss.map λs=>[(s.1:Int),(s.2:Int)]):=by
 induction h with
 |nil=>exact .nil
 |cons q _ b=>
  obtain⟨a,rfl,ha⟩:=q;exact .cons ⟨a,rfl,SqT.of ha,by simp⟩ b
theorem qP{ks:List V}{ss:List (Nat×Nat)}(h:SdsAt H ks ss):∀ix:List Nat,(∀i∈ix,i<ks.length)->SdsAt H (ix.map λi=>ks.getD i .non) (ix.map λi=>ss.getD i (0,0))
 | [],_=>.nil
 |i::ix,hi=>by
  have a:=hi i (by simp);have h1:ks[i]?=some ks[i]:=bX a;obtain⟨y,b,hf⟩:=cw h h1;refine .cons ?_ (qP h ix λj c=>hi j (bZ _ c));simp only[List.getD,h1,b,zY];exact hf
theorem vg{ss:List (Nat×Nat)}{ix:List Nat}(h:ix.Perm (List.range ss.length)):(ix.map λi=>ss.getD i (0,0)).Perm ss:=by
 have:=h.map λi=>ss.getD i (0,0);refine this.trans (tj ?_);refine tG λi=>?_;rw[aY];by_cases hi:i<ss.length
 .rw[KB hi];simp[List.getD,bX hi]
 rw[tI (by simpa using hi),tI (by lia)];rfl
theorem Im(l:List Nat):Dts K H (nV l) (l.map λn:Nat=>PyData.int (n:Int)):=by
 induction l with
 |nil=>exact .nil
 |cons a l b=>exact .cons (.int _) b
theorem Ir(l:List Nat):(PyData.list (l.map λn:Nat=>PyData.int (n:Int))).depth<=3:=by
 have:PyData.depthAll (l.map λn:Nat=>PyData.int (n:Int))<=1:=by
  induction l with
  |nil=>simp[PyData.depthAll]
  |cons a l b=>simp only[aU,PyData.depthAll,PyData.depth];lia
 simp only[PyData.depth];lia
theorem Ef(ds:List PyData):PyData.eqv (.list ds) (.list [])=ds.isEmpty:=by cases ds<;>simp[PyData.eqv,PyData.eqvAll]
structure Run(ts:List Tri)(v x0:Nat)(F:List Nat):Prop where
 nd:F.Nodup
 key:∀p∈F,∃q,En ts v p q
 ch:∀i p q,F[i]?=some p->F[i+1]?=some q->En ts v p q
 x1:x0∈F
section
variable {ts:List Tri}{v x0 p c o:Nat}{F:List Nat}
theorem EV(h:∃q,En ts v x0 q):Run ts v x0 [x0]:=⟨by simp,λp a=>by rw[aR.mp a];exact h,λi p q _ h2=>by simp at h2,by simp⟩
theorem EX(r:Run ts v x0 F)(d:F.getLast?=some p)(e:En ts v p c)(g:∃q,En ts v c q)(j:c∉F):Run ts v x0 (F++[c]):=by
 refine⟨cY.mpr ⟨r.nd,by simp,λx hx y l=>by rw[aR.mp l];rintro rfl;exact j hx⟩,λq m=>?_,λi a b h1 h2=>?_,dC _ r.x1⟩
 .rcases aW.mp m with h|h
  .exact r.key q h
  rw[aR.mp h];exact g
 by_cases hi:i+1<F.length
 .rw[gH hi] at h2;rw[gH (by lia)] at h1;exact r.ch i a b h1 h2
 have n:=(aG.mp h2).1;rw[aL,bY] at n;have f:i+1=F.length:=by lia
 rw[p4,<-f,tT] at d;rw[gH (by lia),d] at h1;rw[f,kj (ak _),zW] at h2;cases h1;cases h2;exact e
theorem EW(r:Run ts v x0 F)(c:F.head?=some p)(e:En ts v o p)(d:o∉F):Run ts v x0 (o::F):=by
 refine⟨dY.mpr ⟨d,r.nd⟩,λq f=>?_,λi a b h1 h2=>?_,bZ _ r.x1⟩
 .rcases aK.mp f with rfl|h
  .exact⟨p,e⟩
  exact r.key q h
 cases i with
 |zero=>
  rw[Kx,<-zG,c] at h2;cases h1;cases h2;exact e
 |succ i=>
  rw[Kx] at h1 h2;exact r.ch i a b h1 h2
theorem rD(r:Run ts v x0 F)(b:ts.length<=200):F.length<=600:=by
 have:=Cd (m:=(ents ts).map (·.1.2)) r.nd λx hx=>by
  obtain⟨q,a⟩:=r.key x hx;exact ay.mpr ⟨_,a,rfl⟩
 rw[ao,fc] at this;lia
theorem rQ(r:Run ts v x0 F):F≠[]:=λz=>by have:=r.x1;rw[z] at this;cases this
theorem xt(h:F≠[]):∃p,F.getLast?=some p:=⟨_,List.getLast?_eq_some_getLast h⟩
theorem FF(h:F≠[]):∃p,F.head?=some p:=by
 cases F with
 |nil=>exact (h rfl).elim
 |cons a l=>exact⟨a,rfl⟩
theorem Iz{α:Type}{l:List α}{x:α}(h:l[l.length-1]?=some x):atI l (-1)=some x:=by have a:=(aG.mp h).1;unfold atI ixN;rw[NC (by decide),ND (by lia)];rw[show ((-1:Int)+(l.length:Int)).toNat=l.length-1 by lia];exact h
theorem FX(h:F.getLast?=some p):atI (nV F) (-1)=some (V.int (p:Int)):=by refine Iz ?_;rw[bM,nV,aY,<-p4,h];rfl
theorem xJ(h:F.head?=some p):atI (nV F) 0=some (V.int (p:Int)):=by
 have:(nV F)[0]?=some (V.int (p:Int)):=by rw[nV,aY,<-zG,h];rfl
 exact c9 this
end
theorem uT{c:TT}{tb:TS}{D:Ends}(R:St->Hp->Prop)(h:∀a:St->Hp->Prop,(∀Z H,R Z H->a Z H)->rL c tb {D with nx:=a} Z H)(out:∀Z H,R Z H->D.nx Z H):rL c tb D Z H:=h D.nx out
theorem Bu{α β:Type}{F G:α->β->Prop}{xs:List α}{ys:List β}(h:∀x y,x∈xs->F x y->G x y)(p:Paired F xs ys):Paired G xs ys:=by
 induction p with
 |nil=>exact .nil
 |cons a _ b=>exact .cons (h _ _ (by simp) a) (b λx y hx=>h x y (bZ _ hx))
def ER(vs:List V)(H:Hp)(Q:VK)(T:Addr)(a:List V)(ts:List Tri)(v:Nat):Prop:=vs=[.ref T,.int (v:Int)]/\H T=some (.lst a)/\aw H a ts/\ts.length<=200/\Good ts/\
 ∀r b fs H',H r=none->Same H H'->H' r=some (.lst b)->j9 H' b fs->Fans (En ts) v fs->fs.length<=600->Q (.ref r) H'
def rO:Sp:=λvs H Q _=>Exists (Ex4 (ER vs H Q))
section
theorem jU:a7 ["_law_triples","_law_corner","_law_thirds_here","_law_left","_law_found","_law_fan"] ["_law_triples","_law_corner"] (aC mE):=by walk_at"sc"
theorem Fv{f f1:Addr}{fd d1:FuncData}(U:Fun K "_law_fans" "_law_fans" mE f fd)(mS:mg "sorted" = none)(G:Use P w K mg base 1 "_law_thirds" ["_law_triples"] kQ f1 d1) :
  aj P w K mg base CX0 2 f fd ["_law_triples","_law_corner"] rO:=by
 refine U.ok jU (by rintro _ _ _ _ ⟨_,_,_,_,rfl,_⟩;rfl) λNJ A outer s H vs Q E hr h=>?_
 obtain⟨T,vt,ts,v,rfl,hT,ht,hl,g,q⟩:=h;have hu:=dv hr;refine⟨_,af (sx 2 jU.nd (uc G hr (pa1 (pv 0))))
  (af (oI (i:=3) (N:=["_law_a","_law_p","_law_corner"]) (fr:=[none,none,some 1]) (g:=pN [] 2 (jd (cK 0) (jd (cK 1) pO))) (ef (by decide +kernel) rfl rfl (by decide +kernel) (by decide +kernel) (by walk_at"cs") (by walk_at"ct")) rfl (bI (bH (nQ rfl) (by rfl) mS iN (pa1 (pv 2))))
    (λC' s' H' fp NI=>⟨cX rfl (aX (gx 0 (by decide:(["_law_a","_law_p","_law_corner"]:List Str).Nodup)) (aX (gx 1 (by decide:(["_law_a","_law_p","_law_corner"]:List Str).Nodup)) cR)),jO (a6 eA (pv 0) (pv 2) (nomark _)),pv 1⟩) jU.nd rfl (.inl rfl))
  (af (sx 4 jU.nd (bF du))
  (af (oo cv (a6 (rX hr.units) (pv 3) (bF du) (nomark _)) (af (sx 5 jU.nd (bF (pa1 (ixx cI (pv 3) ah))))
   (af (oo cv (PW.pt (jW (a6 qB (DC hu (pv 2) (aO (ae (pv 1) (pa1 (ixx cI (pv 5) (pF oU ah))))) ⟨rfl,rfl,rfl,rfl⟩) (pv 3) rfl) (jN (a6 kC (jP hu (pv 2) (aO (ae (pv 1) (pa1 (ixx cI (pv 5) (pF oU ah))))) (λ_ _=>rfl)) (pv 5) rfl)))) (ai (cZ (cA dD eX eY dP (pv 5) (pa1 (jP hu (pv 2) (aO (ae (pv 1) (pa1 (ixx cI (pv 5) (pF oU ah))))) (λ_ _=>rfl)))))))
   (af (oo cv (PW.pt (jW (pd (rW hu (aO (ae (ixx cI (pv 5) ah) (pa1 (pv 1)))) (pv 2))) (jN (a6 kC (jP hu (pv 2) (aO (ae (ixx cI (pv 5) ah) (pa1 (pv 1)))) (λ_ _=>rfl)) (pv 5) rfl)))) (ai (cZ (cA dD tZ Ac qC (pv 5) (ae ah (pa1 (jP hu (pv 2) (aO (ae (ixx cI (pv 5) ah) (pa1 (pv 1)))) (λ_ _=>rfl))))))))
   (af (oI (i:=3) (N:=["_law_p","_law_fan"]) (fr:=[none,some 5]) (tt:=si (tOp (rIn [] true) (ck 0) (ck 1))) (ef (by decide +kernel) rfl rfl (by decide +kernel) (by decide +kernel) (by walk_at"cs") (by walk_at"ct")) rfl (bI (pv 3))
    (λC' s' H' fp NI=>⟨gx 0 (by decide:(["_law_p","_law_fan"]:List Str).Nodup),jO (a6 kC (pv 0) (pv 1) rfl),pv 0⟩) jU.nd rfl (.inl rfl))
   (ai (cZ (cA dD eX eY dP (pv 4) (pa1 (pv 5))))))))))
  (ai (aN (pv 4)))))),?_⟩
 have c0:=line5000;have k:=g.sk;refine⟨_,rfl,T,vt,ts,rfl,hT,ht,by lia,g.nd,λD H1 c1 s1 hD=>?_⟩;refine⟨_,rfl,D,rfl,.inr ⟨_,hD⟩,λks vs hk=>.inr ⟨_,vS (jD (K:=[]) hD hk),?_,λp ix O pm _=>?_⟩⟩
 .rw[aF (jD (K:=[]) hD hk),ao,fc];lia
 have bK:=jD (K:=[]) hD hk;have lk:=aF bK;walk_at"H1 p O H2 s2 y2";have ca:∀i∈ix,i<ks.length:=λi hi=>iI.mp (pm.mem_iff.mp hi);have a1:=qP (Paired.imp' (λ_ _ ⟨a,e,h⟩=>⟨a,e,s2 _ _ h⟩) bK:SdsAt H2 ks ((ents ts).map (·.1))) ix ca;have am:(ix.map λi=>((ents ts).map (·.1)).getD i (0,0)).Perm ((ents ts).map (·.1)):=vg (by rw[<-lk];exact pm);generalize (ix.map λi=>((ents ts).map (·.1)).getD i (0,0))=ss at a1 am;generalize (ix.map λi=>ks.getD i .non)=zs at a1 y2;have lz:=aF a1;have cb:ss.length<=600:=by rw[am.length_eq,ao,fc];lia
 refine⟨p,rfl,⟨_,SqL.of y2⟩,λZ_ hZ=>dG (K:=[]) (a:=p) (xs:=zs) (λi Z ys H'=>∃o1 o2,Z=[o1,o2,some (.int (v:Int))]/\ys=nV (((ss.take i).filter λs=>decide (s.1=v)).map (·.2))/\Same H2 H'/\H' Z_=some (.lst ys)) ⟨none,none,rfl,rfl,bQ hZ,aP⟩ (by rintro i Z ys H' _ ⟨_,_,_,_,e,_⟩;exact SqL.of (e _ _ y2)) ?_ ?_⟩
 .rintro i y Z ys H' hi ⟨o1,o2,rfl,rfl,L,R⟩;obtain⟨⟨a,b⟩,hs,c,rfl,I⟩:=cw a1 hi;have et:ss.take (i+1)=ss.take i++[(a,b)]:=by rw[ba,hs];rfl
  refine⟨c,_,rfl,SqT.of (L _ _ I),rfl,_,_,rfl,_,_,rfl,rfl,?_⟩;refine⟨_,rfl,_,rfl,rfl,_,rfl,?_⟩;show if decide (V.int (a:Int)=V.int (v:Int))=true then _ else _
  rw[jf];by_cases bb:a=v
  .rw[NF (by rw[bb])];refine aT ⟨_,rfl,R,?_,λH3 k3 y3=>⟨_,_,rfl,?_,λb o e=>(k3 b (aq e hZ)).trans (L _ _ e),y3⟩⟩
   .rw[bM,ao];have h1:=jo (λs:Nat×Nat=>decide (s.1=v)) (ss.take i);rw[bf] at h1;lia
   rw[et,ki,eN,ND (NF bb),nq,aQ,<-eS];rfl
  rw[NG (by lia)];refine aH ⟨_,_,rfl,?_,L,R⟩;rw[et,ki,eN,NC (by simp[bb]),nq,fM]
 rintro Z ys H3 ⟨o1,o2,rfl,rfl,L,R⟩;rw[lz,bV] at R;have bd:∀x,x∈((ss.filter λs=>decide (s.1=v)).map (·.2))↔∃q,En ts v x q:=by
  intro x;rw[ay];constructor
  .rintro⟨⟨a,b⟩,hm,rfl⟩;rw[gJ,am.mem_iff] at hm;obtain⟨hm,ha⟩:=hm;have ha:a=v:=NH ha;obtain⟨⟨e1,c⟩,he,e2⟩:=ay.mp hm;have e2:e1=(a,b):=e2;subst e2 ha;exact⟨c,he⟩
  rintro⟨c,I⟩;exact⟨(v,x),gJ.mpr ⟨am.mem_iff.mpr (ay.mpr ⟨_,I,rfl⟩),NF rfl⟩,rfl⟩
 have bL:((ss.filter λs=>decide (s.1=v)).map (·.2)).Nodup:=by
  have cc:ss.Nodup:=am.nodup_iff.mpr g.nd;have:∀l:List (Nat×Nat),l.Nodup->((l.filter λs=>decide (s.1=v)).map (·.2)).Nodup:=by
   intro l;induction l with
   |nil=>intro _;exact kl
   |cons x l ih=>
    intro h;rw[dY] at h;rw[eN]
    split
    .rename_i hx;rw[aU,dY];refine⟨λz=>?_,ih h.2⟩;obtain⟨y,hy,e⟩:=ay.mp z;rw[gJ] at hy;have h1:y.1=v:=NH hy.2;have h2:x.1=v:=NH hx;have:y=x:=nG (h1.trans h2.symm) e;exact h.1 (this ▸ hy.1)
    exact ih h.2
  exact this ss cc
 have bR:((ss.filter λs=>decide (s.1=v)).map (·.2)).length<=600:=by rw[ao];exact br (jo _ _) cb
 generalize ((ss.filter λs=>decide (s.1=v)).map (·.2))=cd at bd bL bR R;have q3:=(s1.trans s2).trans L;refine⟨aJ _,λr H4 ce s4 y4=>?_⟩;have q4:=q3.trans s4;have cf:=((s2.trans L).trans s4) _ _ hD;refine⟨λm Z H'=>∃v5 S lf r gs fs,Z=[some (V.ref T),some (.int (v:Int)),some (.ref D),some (.ref S),some (.ref r),v5]/\m=lf.length/\H r=none/\Same H H'/\H' D=some (.dT ((ents ts).map bD))/\H' S=some (.lst (nV lf))/\H' r=some (.lst gs)/\j9 H' gs fs/\lf.Nodup/\
   (∀x∈lf,∃q,En ts v x q)/\(∀F∈fs,Fan (En ts) v F)/\(∀x,(∃q,En ts v x q)->x∈lf\/∃F∈fs,x∈F)/\(∀x∈lf,∀F∈fs,x∉F)/\(fs.Pairwise λF G=>∀x∈F,x∉G)/\fs.length+lf.length<=600/\V.ref r∉gs,
  ⟨_,none,Z_,cd,r,[],[],rfl,rfl,q3.free ce,q4,cf,s4 _ _ R,y4,.nil,bL,λx hx=>(bd x).mp hx,by simp,λx hx=>.inl ((bd x).mpr hx),by simp,List.Pairwise.nil,by simpa using bR,by simp⟩,?_⟩
 rintro m Z H5 ⟨v5,S,lf,r,gs,fs,rfl,rfl,be,sm,cg,bg,bS,bi,ci,bl,bm,bn,b0,b1,hsz,b2⟩;refine⟨_,rfl,aJ _,λpe H6 c2 s6 y6=>?_⟩;refine⟨_,_,.lst (SqL.of (s6 _ _ bg)) (Im lf),.lst (SqL.of y6) .nil,br (Ir lf) (by decide),_,rfl,?_⟩;rw[ND rfl,Ef];cases lf with
 |nil=>
  refine aH ?_;refine⟨_,rfl,q r gs fs H6 be (sm.trans s6) (s6 _ _ bS) (bi.same s6) ⟨bm,λx hx=>?_,b1⟩ (by simp at hsz;lia)⟩;exact (bn x hx).resolve_left (by simp)
 |cons x0 lf=>
  refine aT ?_;have cj:=bl x0 (by simp);refine⟨_,λZ' H' h=>h,?_⟩;refine⟨_,rfl,S,_,0,V.int (x0:Int),rfl,rfl,SqL.of (s6 _ _ bg),xJ rfl,lit1,λfa H7 cl s7 y7=>?_⟩;have nD:∀{b:Addr}{ob:HO},H6 b=some ob->b≠fa:=λe=>aq e cl;have X:=s6 _ _ cg;have bt:=s6 _ _ bg;refine uT (λZ H'=>∃F,Z=[some (V.ref T),some (.int (v:Int)),some (.ref D),some (.ref S),some (.ref r),some (.ref fa)]/\Same H6 H'/\H' fa=some (.lst (nV F))/\Run ts v x0 F/\∀p,F.getLast?=some p->∀q,En ts v p q->q∈x0::lf->q∈F) (λNX z=>?_) ?_
  .refine⟨λm Z H'=>∃F,Z=[some (V.ref T),some (.int (v:Int)),some (.ref D),some (.ref S),some (.ref r),some (.ref fa)]/\m=1000-F.length/\Same H6 H'/\H' fa=some (.lst (nV F))/\Run ts v x0 F,⟨_,[x0],rfl,rfl,s7,y7,EV cj⟩,?_⟩;rintro m Z H8 ⟨F,rfl,rfl,Y,d,rn⟩;have b3:=rD rn hl;obtain⟨p,O⟩:=xt (rQ rn);have ap:=FX O;refine⟨_,rfl,D,rfl,.inr ⟨_,.inl (Y _ _ X)⟩,_,rfl,_,rfl,_,rfl,fa,_,_,_,rfl,rfl,SqL.of d,ap,lit2,λk1 H9 g1 j y9=>?_⟩;have B:=Y.trans j;rcases wA g v p with ⟨c,I,e⟩|⟨I,e⟩
   .refine⟨_,e ▸ DGet.t (k:=ky v p) (B _ _ X) y9,_,rfl,S,_,rfl,.inl (SqL.of (B _ _ bt)),rfl,i5 _,_,rfl,?_⟩;show if (if false=true then _ else inV (V.int (c:Int)) (nV (x0::lf)))=true then _ else _
    rw[NC bu,iu];by_cases a2:c∈x0::lf
    .rw[NF a2];refine aT ?_;refine⟨_,rfl,_,rfl,_,rfl,_,rfl,fa,_,_,_,rfl,rfl,SqL.of (j _ _ d),ap,lit2,λk2 b4 g2 M an=>?_⟩;have al:=B.trans M;refine⟨D,V.int (c:Int),rfl,e ▸ DGet.t (k:=ky v p) (al _ _ X) an,_,rfl,fa,_,rfl,.inl (SqL.of (M _ _ (j _ _ d))),rfl,i5 _,_,rfl,?_⟩;show if (if true=true then !inV (V.int (c:Int)) (nV F) else _)=true then _ else _
     rw[ND rfl,iu];by_cases ab:c∈F
     .rw[NF ab];refine aH (z _ _ ⟨F,rfl,al,M _ _ (j _ _ d),rn,λp' C q hq _=>?_⟩);rw[O] at C;cases C;rw[k.one hq I];exact ab
     rw[NG ab];refine aT ⟨_,λZ' H' h=>h,?_⟩;refine⟨_,rfl,.inl ⟨rfl,_,SqL.of (M _ _ (j _ _ d))⟩,_,rfl,_,rfl,_,rfl,_,rfl,fa,_,_,_,rfl,rfl,SqL.of (M _ _ (j _ _ d)),ap,lit2,λk3 cm g3 au bw=>?_⟩;have aM:=al.trans au;refine⟨D,V.int (c:Int),rfl,e ▸ DGet.t (k:=ky v p) (aM _ _ X) bw,fa,_,_,rfl,rfl,au _ _ (M _ _ (j _ _ d)),by rw[bM];lia,λcn bx bA=>?_⟩;refine⟨_,?_,F++[c],rfl,rfl,λb' o e=>(bx b' (nD e)).trans (aM _ _ e),?_,EX rn O I (bl c a2) ab⟩
     .rw[aL,bY];lia
     rw[bA];simp[nV]
    rw[NG a2];refine aH (aH (z _ _ ⟨F,rfl,B,j _ _ d,rn,λp' C q hq b5=>?_⟩));rw[O] at C;cases C;rw[k.one hq I] at b5;exact (a2 b5).elim
   refine⟨_,e ▸ DGet.t (k:=ky v p) (B _ _ X) y9,_,rfl,S,_,rfl,.inl (SqL.of (B _ _ bt)),rfl,i5 _,_,rfl,?_⟩;show if (if false=true then _ else inV V.non (nV (x0::lf)))=true then _ else _
   rw[NC bu,FE];refine aH (aH (z _ _ ⟨F,rfl,B,j _ _ d,rn,λp' C q hq _=>?_⟩));rw[O] at C;cases C;exact (I q hq).elim
  rintro Z H8 ⟨F,rfl,Y,d,rn,ad⟩;clear y7 s7 H7;refine uT (λZ H'=>∃F,Z=[some (V.ref T),some (.int (v:Int)),some (.ref D),some (.ref S),some (.ref r),some (.ref fa)]/\Same H6 H'/\H' fa=some (.lst (nV F))/\Run ts v x0 F/\(∀p,F.getLast?=some p->∀q,En ts v p q->q∈x0::lf->q∈F)/\∀p,F.head?=some p->∀o,En ts v o p->o∈F) (λNX z=>?_) ?_
  .refine⟨λm Z H'=>∃F,Z=[some (V.ref T),some (.int (v:Int)),some (.ref D),some (.ref S),some (.ref r),some (.ref fa)]/\m=1000-F.length/\Same H6 H'/\H' fa=some (.lst (nV F))/\Run ts v x0 F/\∀p,F.getLast?=some p->∀q,En ts v p q->q∈x0::lf->q∈F,⟨_,F,rfl,rfl,Y,d,rn,ad⟩,?_⟩;clear ad rn d Y;clear F H8;rintro m Z H8 ⟨F,rfl,rfl,Y,d,rn,ad⟩;have b3:=rD rn hl;obtain⟨p,O⟩:=FF (rQ rn);have ap:=xJ O;refine⟨_,rfl,fa,_,_,_,rfl,rfl,SqL.of d,ap,_,rfl,lit2,λk1 H9 g1 j y9=>?_⟩;have B:=Y.trans j;rcases wA g p v with ⟨c,I,e⟩|⟨I,e⟩
   .refine⟨_,rfl,D,_,rfl,e ▸ DGet.t (k:=ky p v) (B _ _ X) y9,_,rfl,?_⟩;refine aT ?_;refine⟨_,rfl,_,rfl,fa,_,_,_,rfl,rfl,SqL.of (j _ _ d),ap,_,rfl,lit2,λk2 b4 g2 M an=>?_⟩;have al:=B.trans M;refine⟨D,V.int (c:Int),rfl,e ▸ DGet.t (k:=ky p v) (al _ _ X) an,_,rfl,fa,_,rfl,.inl (SqL.of (M _ _ (j _ _ d))),rfl,i5 _,_,rfl,?_⟩;show if (if true=true then !inV (V.int (c:Int)) (nV F) else _)=true then _ else _
    rw[ND rfl,iu];by_cases ab:c∈F
    .rw[NF ab];refine aH (z _ _ ⟨F,rfl,al,M _ _ (j _ _ d),rn,ad,λp' C o ho=>?_⟩);rw[O] at C;cases C;rw[k.one (k.rot (k.rot ho)) I];exact ab
    rw[NG ab];refine aT ⟨_,λZ' H' h=>h,?_⟩;refine⟨_,rfl,.inl ⟨rfl,_,SqL.of (M _ _ (j _ _ d))⟩,_,rfl,_,rfl,fa,_,_,_,rfl,rfl,SqL.of (M _ _ (j _ _ d)),ap,_,rfl,lit2,λk3 cm g3 au bw=>?_⟩;have aM:=al.trans au;refine⟨D,V.int (c:Int),rfl,e ▸ DGet.t (k:=ky p v) (aM _ _ X) bw,fa,_,0,_,rfl,rfl,au _ _ (M _ _ (j _ _ d)),aJ _,by rw[bM];lia,λcn bx bA=>?_⟩;refine⟨_,?_,c::F,rfl,rfl,λb' o e=>(bx b' (nD e)).trans (aM _ _ e),?_,EW rn O (k.rot I) ab,λp' C q hq co=>?_⟩
    .rw[bz];lia
    .rw[bA];simp[nV]
    refine bZ _ (ad p' ?_ q hq co);rw[<-C];obtain⟨z,hz⟩:=xt (rQ rn);rw[List.getLast?_cons,hz];rfl
   refine⟨_,rfl,D,_,rfl,e ▸ DGet.t (k:=ky p v) (B _ _ X) y9,_,rfl,?_⟩;refine aH (aH (z _ _ ⟨F,rfl,B,j _ _ d,rn,ad,λp' C o ho=>?_⟩));rw[O] at C;cases C;exact (I _ (k.rot (k.rot ho))).elim
  clear ad rn d Y;clear F H8;rintro Z H8 ⟨F,rfl,Y,d,rn,ad,cp⟩;have b3:=rD rn hl;obtain⟨fF,dF⟩:=Ed k bm bn b0 rn.nd rn.key rn.ch rn.x1 (by simp) ad cp;have b6:=Y _ _ bt;refine⟨_,rfl,S,rfl,⟨_,SqL.of b6⟩,λZ_ hZ=>dG (K:=[]) (a:=S) (xs:=nV (x0::lf)) (λi Z ys H'=>∃o,Z=[o,some (.ref fa)]/\ys=nV (((x0::lf).take i).filter λp=>decide (p∉F))/\Same H8 H'/\H' Z_=some (.lst ys)) ⟨none,rfl,rfl,bQ hZ,aP⟩ (by rintro i Z ys H' _ ⟨_,_,_,e,_⟩;exact SqL.of (e _ _ b6)) ?_ ?_⟩
  .rintro i y Z ys H' hi ⟨o,rfl,rfl,L,R⟩;rw[nV,aY] at hi;obtain⟨n,hn,rfl⟩:=bW.mp hi;have et:(x0::lf).take (i+1)=(x0::lf).take i++[n]:=by rw[ba,hn];rfl
   refine⟨_,rfl,_,rfl,fa,_,rfl,.inl (SqL.of (L _ _ d)),rfl,i5 _,_,rfl,?_⟩;show if (if true=true then !inV (V.int (n:Int)) (nV F) else _)=true then _ else _
   rw[ND rfl,iu];by_cases a3:n∈F
   .rw[NF a3];refine aH ⟨_,rfl,?_,L,R⟩;rw[et,ki,eN,NC (by simp[a3]),nq,fM]
   rw[NG a3];refine aT ⟨_,rfl,R,?_,λH3 k3 y3=>⟨_,rfl,?_,λb o e=>(k3 b (aq e hZ)).trans (L _ _ e),y3⟩⟩
   .rw[bM];have h1:=jo (λp=>decide (p∉F)) ((x0::lf).take i);rw[bf] at h1;rw[bz] at hsz h1;lia
   rw[et,ki,eN,ND (by simp[a3]),nq,<-eS];rfl
  rintro Z ys H9 ⟨o,rfl,rfl,L,R⟩;rw[bM,bV] at R;have e0:((x0::lf).filter λp=>decide (p∉F))=lf.filter λp=>decide (p∉F):=by rw[eN,NC (by simp[rn.x1])]
  have l0:=jo (λp=>decide (p∉F)) lf;rw[<-e0] at l0;have a4:∀x,x∈((x0::lf).filter λp=>decide (p∉F))↔x∈x0::lf/\x∉F:=λx=>by rw[gJ,decide_eq_true_eq]
  have cr:((x0::lf).filter λp=>decide (p∉F)).Nodup:=ci.filter _;generalize ((x0::lf).filter λp=>decide (p∉F))=b7 at *;have B:=Y.trans L;have a5:=s6 _ _ bS;have b8:=B _ _ a5;have hg:=aF bi;rw[bz] at hsz;refine⟨_,rfl,.inl ⟨rfl,_,SqL.of b8⟩,_,rfl,r,gs,_,rfl,rfl,b8,by rw[hg];lia,λb4 aS an=>?_⟩;have b9:r≠fa:=nD a5;have cx:D≠r:=λz=>by rw[z,a5] at X;cases X
  have cz:Z_≠r:=λz=>by rw[z,Y _ _ a5] at hZ;cases hZ
  have sH:Same H H9:=(sm.trans s6).trans B;refine⟨b7.length,by rw[bz];lia,_,Z_,b7,r,gs++[V.ref fa],fs++[F],rfl,rfl,be,λb' o e=>(aS b' (aq e be)).trans (sH _ _ e),(aS D cx).trans (B _ _ X),(aS Z_ cz).trans R,an,?_,cr,λx hx=>bl x ((a4 x).mp hx).1,?_,?_,?_,?_,?_,?_⟩
  .refine cJ ?_ (.cons ⟨fa,rfl,(aS fa (aB b9)).trans (L _ _ d)⟩ .nil);refine Bu (λu l hu ⟨a,e1,e2⟩=>⟨a,e1,(aS a λz=>b2 (by rw[<-z,<-e1];exact hu)).trans (B _ _ (s6 _ _ e2))⟩) bi
  .intro G hG;rcases aW.mp hG with h|h
   .exact bm G h
   rw[aR.mp h];exact fF
  .intro x hx;rcases bn x hx with h|⟨G,hG,h⟩
   .by_cases a0:x∈F
    .exact .inr ⟨F,by simp,a0⟩
    exact .inl ((a4 x).mpr ⟨h,a0⟩)
   exact .inr ⟨G,dC _ hG,h⟩
  .intro x hx G hG;rcases aW.mp hG with h|h
   .exact b0 x ((a4 x).mp hx).1 G h
   rw[aR.mp h];exact ((a4 x).mp hx).2
  .refine zN.mpr ⟨b1,tS _ _,λG hG F' cS x hx a0=>?_⟩;rw[aR.mp cS] at a0;exact dF x a0 G hG hx
  .rw[aL,bY];lia
  intro z;rcases aW.mp z with h|h
  .exact b2 h
  have:=aR.mp h;cases this;exact b9 rfl
end
end K15
end
section
namespace K15
def reE(v n:Nat)(F:List Nat)(e:Ent):Ent:=((rn v n F e.1.1 e.1.2,rn v n F e.1.2 e.2),rn v n F e.2 e.1.1)
theorem Ei{ts:List Tri}{v n:Nat}{F:List Nat}:ents (ts.map (ren v n F))=(ents ts).map (reE v n F):=by
 induction ts with
 |nil=>rfl
 |cons t ts a=>
  have h1:ents ((t::ts).map (ren v n F))=ents [ren v n F t]++ents (ts.map (ren v n F)):=by simp[ents]
  have h2:ents (t::ts)=ents [t]++ents ts:=by simp[ents]
  rw[h1,h2,aQ,a];rfl
def Co(ts:List Tri)(u:Nat):Prop:=∃p q,En ts u p q
theorem D9{ts:List Tri}{v n:Nat}{F:List Nat}(g:Good ts)(fr:∀a b c,En ts a b c->a≠n):Good (ts.map (ren v n F)):=by
 have k:=g.sk;have ks:=Jp (v:=v) (F:=F) k fr;refine⟨λt u=>?_,?_⟩
 .obtain⟨⟨a,b,c⟩,h,rfl⟩:=ay.mp u;have l:En ts a b c:=eg.mpr (.inl h);have m:=k.rot l;have w:=k.rot m;exact⟨ks.ne (c:=rn v n F c a) ⟨a,b,c,l,rfl,rfl,rfl⟩,ks.ne (c:=rn v n F a b) ⟨b,c,a,m,rfl,rfl,rfl⟩,ks.ne (c:=rn v n F b c) ⟨c,a,b,w,rfl,rfl,rfl⟩⟩
 rw[Ei,bU];have nd:=g.nd;have mem:∀e∈ents ts,En ts e.1.1 e.1.2 e.2:=λe he=>he;rw[List.Nodup,iJ] at nd |-;refine nd.imp_of_mem λ{x y} hx A h z=>h ?_;have z:=ju z;obtain⟨⟨a,b⟩,c⟩:=x;obtain⟨⟨i,d⟩,o⟩:=y;have e:En ts a b c:=mem _ hx;have r:En ts i d o:=mem _ A;have B:rn v n F a b=rn v n F i d:=z.1;have C:rn v n F b c=rn v n F d o:=z.2;have key:∀{p q f s},p≠n->f≠n->rn v n F p q=rn v n F f s->p=f:=by
  intro p q f s h1 h2 j;by_cases hx:rn v n F p q=n
  .rw[(gz h1 hx).1,(gz h2 (j ▸ hx)).1]
  rw[<-fg hx,j,fg (j ▸ hx)]
 show (a,b)=(i,d);rw[key (fr _ _ _ e) (fr _ _ _ r) B,key (fr _ _ _ (k.rot e)) (fr _ _ _ (k.rot r)) C]
structure Mid(ts:List Tri)(v:Nat)(F0:List Nat)(fs:List (List Nat))(rest:List Nat):Prop where
 good:Good ts
 fans:Fans (En ts) v (F0::fs)
 oth:∀u,Co ts u->u=v\/u∈rest\/One (En ts) u
theorem Fn{E d:Nat->Nat->Nat->Prop}(h:∀a b c,E a b c↔d a b c):E=d:=by funext a b c;exact propext (h a b c)
theorem DY{ts:List Tri}{v n:Nat}{g F:List Nat}{fs:List (List Nat)}{rest:List Nat}(m:Mid ts v g (F::fs) rest)(fr:∀u,Co ts u->u≠n):Mid (ts.map (ren v n F)) v g fs rest:=by
 have f:∀a b c,En ts a b c->a≠n:=λa b c h=>fr a ⟨b,c,h⟩;have k:=m.good.sk;have o:En (ts.map (ren v n F))=Rn (En ts) v n F:=Fn λ_ _ _=>Il;have hF:=m.fans.fan F (by simp);have i:v≠n:=by obtain⟨p,d⟩:=tE _ hF.ne;obtain⟨q,j⟩:=hF.key p d;exact f _ _ _ j
 have dis:=m.fans.dis;rw[tQ,tQ] at dis;obtain⟨r,y,z⟩:=dis;have A:∀G∈g::fs,∀p∈F,p∉G:=by
  intro G e p d s;rcases aK.mp e with rfl|h
  .exact r F (by simp) p s d
  exact y G h p d s
 refine⟨D9 m.good f,?_,?_⟩
 .rw[o];refine⟨λG e=>?_,λp ⟨q,j⟩=>?_,?_⟩
  .refine Ec k f i (m.fans.fan G ?_) (A G e);rcases aK.mp e with rfl|h
   .simp
   exact bZ _ (bZ _ h)
  .obtain⟨h1,h2⟩:=(jM k f i).mp j;obtain⟨G,e,d⟩:=m.fans.all p ⟨q,h1⟩;rcases aK.mp e with rfl|h
   .exact⟨G,by simp,d⟩
   rcases aK.mp h with rfl|h
   .exact (h2 d).elim
   exact⟨G,bZ _ h,d⟩
  rw[tQ];exact⟨λG e=>r G (bZ _ e),z⟩
 rintro u ⟨p,q,h⟩;rw[o] at h |-;by_cases l:u=n
 .subst l;exact .inr (.inr (DF k f hF))
 obtain⟨a,b,c,h,w,_,_⟩:=h;have B:u=a:=by rw[w];exact fg (by rw[<-w];exact l)
 subst B;rcases m.oth u ⟨b,c,h⟩ with h1|h1|h1
 .exact .inl h1
 .exact .inr (.inl h1)
 by_cases x:u=v
 .exact .inl x
 exact .inr (.inr (B5 k f hF i x l h1))
theorem Fy{ts:List Tri}{v:Nat}{a:List Nat}{rest:List Nat}(m:Mid ts v a [] rest)(u:Nat)(b:Co ts u):u∈rest\/One (En ts) u:=by
 rcases m.oth u b with rfl|h
 .refine .inr ⟨a,m.fans.fan a (by simp),λp c=>?_⟩;obtain⟨G,d,h⟩:=m.fans.all p c;rw[aR.mp d] at h;exact h
 exact h
theorem Ci{ts:List Tri}{v:Nat}{a:List Nat}{fs:List (List Nat)}{rest:List Nat}(g:Good ts)(h:Fans (En ts) v (a::fs))(o:∀u,Co ts u->u∈v::rest\/One (En ts) u):Mid ts v a fs rest:=
 ⟨g,h,λu b=>(o u b).elim (λz=>(aK.mp z).elim .inl λz=>.inr (.inl z)) λz=>.inr (.inr z)⟩
theorem DZ{ts:List Tri}{v:Nat}{rest:List Nat}(h:Fans (En ts) v [])(o:∀u,Co ts u->u∈v::rest\/One (En ts) u)(u:Nat)(a:Co ts u):u∈rest\/One (En ts) u:=by
 rcases o u a with z|z
 .rcases aK.mp z with rfl|z
  .obtain⟨p,q,b⟩:=a;obtain⟨G,c,_⟩:=h.all p ⟨q,b⟩;cases c
  exact .inl z
 exact .inr z
theorem cy{ts:List Tri}{u:Nat}:Co ts u↔∃t∈ts,u=t.1\/u=t.2.1\/u=t.2.2:=by
 constructor
 .rintro⟨p,q,h⟩;rcases eg.mp h with h|h|h
  .exact⟨_,h,.inl rfl⟩
  .exact⟨_,h,.inr (.inl rfl)⟩
  exact⟨_,h,.inr (.inr rfl)⟩
 rintro⟨⟨a,b,c⟩,h,rfl|rfl|rfl⟩
 .exact⟨b,c,eg.mpr (.inl h)⟩
 .exact⟨c,a,eg.mpr (.inr (.inl h))⟩
 exact⟨a,b,eg.mpr (.inr (.inr h))⟩
end K15
end
section
namespace L2
open PySem PySem.Spec PyProof.Rows
section
theorem Inv.bareTup{a:Addr}(I:Inv X NI Z H s)(h:Rd H a (.tup xs)) :
  s.TypeIs (.ref a) "tuple"/\∃c,s.heap.get? a=some c/\c.dict=none:=by
 obtain⟨⟨_,b⟩,its,r,p⟩:=h.ok I.hok;exact⟨p.typeIs,b⟩
def tTM2(r:V->List V->Hp->VK->Prop)(x:V)(Q:VK):List V->Hp->Prop:=λvs H2=>r x vs H2 Q
def tTM1(r:V->List V->Hp->VK->Prop)(t:TA)(Z:St)(Q:VK):VK:=λx H1=>(∃a xs,x=.ref a/\Rd H1 a (.tup xs))/\t Z H1 (tTM2 r x Q)
def tTM(r:V->List V->Hp->VK->Prop)(to:TE)(t:TA):TE:=λZ H Q=>to Z H (tTM1 r t Z Q)
theorem zc{o e:Expr}{es:List Expr}{to:TE}{t:TA}{name:Str}{apos cpos:Pos}{id:String}{r:V->List V->Hp->VK->Prop}(f:PlainAttrs "tuple")(slot:Slot "tuple" name id)(g:typeOf (.builtin id)=pure (.type "method_descriptor"))(hm:MtM X id r)(i:PE X o to)(ha:PA X (e::es) t)
  (j:attributeBase o name X.env (eval o X.env)=eval o X.env:=by rfl)
  (l:((backTo cpos (starEach (e::es) X.env)).all (λx=>!x.1)&&(backToKw cpos (keywordEach [] X.env)).all (λx=>x.1.isSome)
   && decide ((e::es).length+([]:List Keyword).length+(if ([]:List Keyword).isEmpty then 0 else 1)<30))=true:=by rfl)
  (m:(apos.endLine==cpos.line)=true:=by rfl) (n:starEach (e::es) X.env=(false,eval e X.env)::starEach es X.env:=by rfl) (p:(backTo cpos (starEach es X.env)).any (·.1)=false:=by rfl) :
  PE X (.Call (.Attribute o name apos) (e::es) [] cpos) (tTM r to t):=by
 intro NI s Z H Q I h;refine LY j l m rfl (thn (i NI s Z H _ I h) λv s1 ⟨x,H1,c,q,⟨a,xs,ex,hx⟩,u⟩=>?_);subst ex;obtain rfl:v=Value.ref a:=q;obtain⟨h1,h2⟩:=c.bareTup hx;refine⟨"tuple",id,f,slot,g,h1,λb e=>by cases e;exact h2,?_⟩;have d:=ha cpos NI s1 Z H1 _ c u;rw[n] at d |-;refine kh (by show (false||(backTo cpos (starEach es X.env)).any (·.1))=false;rw[p]<;>rfl) (ng ?_);exact thn d λus s2 ⟨vs,H2,w,y,z⟩=>hm NI s2 Z H2 (.ref a) vs (.ref a) us Q w rfl y z
end
end L2
end
section
namespace K15
open PySem L2 K51 K31
theorem iU{A B:TS}{D:Ends}(R:St->Hp->Prop)(b:∀a:St->Hp->Prop,(∀Z H,R Z H->a Z H)->A {D with nx:=a} Z H)(c:∀Z H,R Z H->B D Z H):pL A B D Z H:=b (B D) c
theorem Ex{x:V}{i:Nat}{B:TS}{D:Ends}(h:B D (Z.set i (some x)) H):pL (mP (tC x) (cK i)) B D Z H:=h
theorem EY{v n a b c:Nat}{F:List Nat}(h1:a=v->b∉F)(h2:b=v->c∉F)(d:c=v->a∉F):rn v n F a b=a/\rn v n F b c=b/\rn v n F c a=c:=by unfold rn;exact⟨NC λz=>h1 z.1 z.2,NC λz=>h2 z.1 z.2,NC λz=>d z.1 z.2⟩
theorem GZ{v n a b c:Nat}{F:List Nat}(h:a=v/\b∈F\/b=v/\c∈F\/c=v/\a∈F)(d:a≠b)(e:b≠c)(f:c≠a) :
  rn v n F a b=(if a=v then n else a)/\rn v n F b c=(if b=v then n else b)/\rn v n F c a=if c=v then n else c:=by
 unfold rn;rcases h with ⟨rfl,h⟩|⟨rfl,h⟩|⟨rfl,h⟩
 .exact⟨by rw[ND ⟨rfl,h⟩,ND rfl],by rw[NC λz=>d z.1.symm,NC λz=>d z.symm],by rw[NC λz=>f z.1,NC f]⟩
 .exact⟨by rw[NC λz=>d z.1,NC d],by rw[ND ⟨rfl,h⟩,ND rfl],by rw[NC λz=>e z.1.symm,NC λz=>e z.symm]⟩
 exact⟨by rw[NC λz=>f z.1.symm,NC λz=>f z.symm],by rw[NC λz=>e z.1,NC e],by rw[ND ⟨rfl,h⟩,ND rfl]⟩
def C6(vs:List V)(H:Hp)(Q:VK)(T:Addr)(b:List V)(ts:List Tri):Prop:=vs=[.ref T]/\H T=some (.lst b)/\aw H b ts/\ts.length<=20/\Good ts/\
 ∀r c a H',Same H H'->H' r=some (.lst c)->aw H' c a->a.length=ts.length->Good a->(∀u,Co a u->One (En a) u)->Q (.ref r) H'
def rm:Sp:=λvs H Q _=>Exists (Ex3 (C6 vs H Q))
section
theorem fS:a7 ["_law_triples","_law_corner","_law_fan","_law_new","_law_made","_law_triple","_law_at_here"] ["_law_triples"] (aC lQ):=by walk_at"sc"
theorem DH{f f1 f2:Addr}{fd d1 d2:FuncData}(U:Fun K "_law_split" "_law_split" lQ f fd)(T:cq mg)(mM:mg "max" = none)
  (G1:Use P w K mg base 2 "_law_corners" ["_law_triples"] iO f1 d1)
  (G2:Use P w K mg base 2 "_law_fans" ["_law_triples","_law_corner"] rO f2 d2) :
  aj P w K mg base CX0 3 f fd ["_law_triples"] rm:=by
 refine U.ok fS (by rintro _ _ _ _ ⟨_,_,_,rfl,_⟩;rfl) λNJ A outer s H vs Q E hr h=>?_
 obtain⟨T0,vt,ts,rfl,hT,ht,hl,g,q⟩:=h;have D:=dv hr;refine⟨_,(af (b_ cv rfl (bI (uc G1 hr (pa1 (pv 0)))) (gx 1 fS.nd) (ai (b_ cv rfl (bI (h_ w9 (uc G2 hr (ae (pv 0) (pa1 (pv 1)))) (ic ah) ie)) (gx 2 fS.nd) (af (sx 3 fS.nd (ax cF (bH (qm rfl) (by rfl) mM z8 (pa1 (uc G1 hr (pa1 (pv 0))))) ah))
  (af (sx 4 fS.nd (bF du))
  (af (b_ cv rfl (bI (pv 0)) (gx 5 fS.nd) (af (sx 6 fS.nd ah)
  (af (bo (a6 qB (pv 1) (pv 5) rfl) (ai (sx 6 fS.nd (zc Lc Ab Lq (vn hr.units) (pv 5) (pa1 (pv 1))))) bj)
  (af (bo (PW.pt (jW (a6 mF (pv 6) ah (nomark _)) (jN (a6 qB (ixx i9 (pv 5) (ax eK (ax cF (pv 6) ah) ah)) (pv 2) rfl)))) (ai (sx 5 fS.nd (cP jC (by rfl) T.tuple jv (pa1 (c7 (N:=["_law_one","_law_new","_law_corner"]) (fr:=[none,some 3,some 1]) (te:=tOp (rIxL []) (sN (dJ (ck 0) (dJ (ck 1) eB))) (tCB (λxs H Q=>(∃i,xs=[.int i]/\Q (.int i) H)\/∃k,xs=[.bl k]/\Q (.int (if k then 1 else 0)) H) (dJ (tOp rEq (ck 0) (ck 2)) eB))) (ef (by decide +kernel) rfl rfl (by decide +kernel) (by decide +kernel) (by walk_at"cs") (by walk_at"ct")) rfl (i7 (pv 5))
    (λC' s' H' fp NI=>⟨gx 0 (by decide:(["_law_one","_law_new","_law_corner"]:List Str).Nodup),di,zd cI (bF (ae (pv 0) (pa1 (pv 1)))) (cP og (by rfl) T.int gQ (pa1 (eQ eA (pv 0) (pv 2) (nomark _)))) (λ_ _=>rfl)⟩)))))) bj)
  (ai (cZ (cA dD eX eY dP (pv 4) (pa1 (pv 5)))))))))
  (ai (sx 0 fS.nd (pv 4)))))))))
  (ai (aN (pv 0)))),?_⟩
 have cg:=line5000;refine⟨_,rfl,T0,vt,ts,rfl,hT,ht,by lia,λr0 cs H1 ch s1 y1 b1 ci=>?_⟩;refine⟨r0,rfl,⟨_,SqL.of y1⟩,dh (K:=[]) (a:=r0) (xs:=nV cs) (λi Z H'=>∃v1 M O R B C d l tc,Z=[some (V.ref d),v1,M,O,R,B,C]/\Same H1 H'/\H' d=some (.lst l)/\aw H' l tc/\tc.length=ts.length/\Good tc/\∀u,Co tc u->u∈cs.drop i\/One (En tc) u)
  ⟨none,none,none,none,none,none,T0,vt,ts,rfl,Same.refl _,s1 _ _ hT,ht.same s1,rfl,g,λu D=>.inl ?_⟩ (by rintro i Z H' _ ⟨_,_,_,_,_,_,_,_,_,_,e,_⟩;exact SqL.of (e _ _ y1)) ?_ ?_⟩
 .rw[pX,b1.2];obtain⟨t,a0,D⟩:=cy.mp D;exact gK.mpr ⟨t,a0,by simpa using D⟩
 .rintro i x Z H2 hi ⟨v1,M,O,R,B,C,d,l,tc,rfl,a1,L,I,Y,gc,oc⟩;rw[nV,aY] at hi;obtain⟨v,hv,rfl⟩:=bW.mp hi;have bg:=(aG.mp hv).1;have b2:cs.drop i=v::cs.drop (i+1):=by
   rw[nj bg,(aG.mp hv).2]
  rw[b2] at oc;refine⟨_,rfl,_,rfl,d,l,tc,v,rfl,L,I,by lia,gc,λr gs fs H3 cj s3 y3 bi bm cl=>?_⟩;refine⟨1,rfl,r,gs,rfl,SqL.of y3,λp H4 hp s4 y4=>?_⟩;rw[show fX gs (some 1) none=gs.drop 1 from lh gs 1] at y4;have bn:=(a1.trans s3).trans s4;cases fs with
  |nil=>
   cases bi;refine⟨p,rfl,⟨_,SqL.of y4⟩,dh (K:=[]) (a:=p) (xs:=[]) (λj Z H'=>Z=[some (V.ref d),some (.int (v:Int)),M,O,R,B,C]/\H'=H4) ⟨rfl,rfl⟩ (λj Z H' _ ⟨_,e⟩=>by rw[e];exact SqL.of y4) (λj x Z H' h=>by simp at h) ?_⟩;rintro Z H' ⟨rfl,rfl⟩;exact⟨_,_,_,_,_,_,d,l,tc,rfl,bn,s4 _ _ (s3 _ _ L),(I.same s3).same s4,Y,gc,DZ bm oc⟩
  |cons F0 fs=>
   obtain⟨g0,gs,rfl,cm,bt⟩:∃g0 bw,gs=g0::bw/\mY H3 g0 F0/\j9 H3 bw fs:=by
    cases bi with
    |cons a b=>exact⟨_,_,rfl,a,b⟩
   refine⟨p,rfl,⟨_,SqL.of y4⟩,dh (K:=[]) (a:=p) (xs:=gs) (λj Z H'=>∃M O R B C d l tc,Z=[some (V.ref d),some (.int (v:Int)),M,O,R,B,C]/\Same H4 H'/\H' d=some (.lst l)/\aw H' l tc/\tc.length=ts.length/\Mid tc v F0 (fs.drop j) (cs.drop (i+1)))
    ⟨M,O,R,B,C,d,l,tc,rfl,Same.refl _,s4 _ _ (s3 _ _ L),(I.same s3).same s4,Y,Ci gc bm oc⟩ (by rintro j Z H' _ ⟨_,_,_,_,_,_,_,_,_,e,_⟩;exact SqL.of (e _ _ y4)) ?_ ?_⟩
   .rintro j x Z H5 hj ⟨M,O,R,B,C,d,l,tc,rfl,an,L,I,Y,md⟩;obtain⟨F,hF,fa,rfl,b3⟩:=cw bt hj;have b4:=(aG.mp hF).1;have b5:fs.drop j=F::fs.drop (j+1):=by
     rw[nj b4,(aG.mp hF).2]
    rw[b5] at md;have b6:=an _ _ (s4 _ _ b3);refine⟨_,rfl,d,l,tc,rfl,L,I,by lia,λrc a2 H6 cn s6 y6 b7 co=>?_⟩;have ev:nV a2=(a2.map (λc:Nat=>(c:Int))).map V.int:=by rw[bU];rfl
    have bx:∀u,Co tc u->u∈a2:=λu D=>by
     rw[b7.2];obtain⟨t,a0,D⟩:=cy.mp D;exact gK.mpr ⟨t,a0,by simpa using D⟩
    have bA:Co tc v:=by have fF:=md.fans.fan F (by simp);obtain⟨p,hp⟩:=tE _ fF.ne;obtain⟨q,hq⟩:=fF.key p hp;exact⟨p,q,hq⟩
    refine⟨rc,_,rfl,SqL.of (by rw[y6,ev]),λz=>?_,λm hm b8=>⟨_,_,rfl,rfl,?_⟩⟩
    .have:=bx v bA;rw[zJ.mp z] at this;cases this
    obtain⟨n0,cp,rfl⟩:=ay.mp hm;have a3:∀u,Co tc u->u≠n0+1:=λu D z=>by
     have:=b8 (u:Int) (ay.mpr ⟨u,bx u D,rfl⟩);lia
    have en:V.int ((n0:Int)+1)=V.int ((n0+1:Nat):Int):=rfl;have bK:=DY md a3;have b9:=a3 v bA;generalize n0+1=n at a3 en bK b9;refine⟨aJ _,λmo H7 ca s7 y7=>?_⟩;have cb:=s7 _ _ (s6 _ _ L);have cr:=(I.same s6).same s7;refine⟨_,rfl,d,rfl,⟨_,SqL.of cb⟩,dh (K:=[]) (a:=d) (xs:=l) (λk Z H'=>∃B C vm,Z=[some (V.ref d),some (.int (v:Int)),some (.ref fa),some (.int (n:Int)),some (.ref mo),B,C]/\Same H6 H'/\H' mo=some (.lst vm)/\aw H' vm ((tc.take k).map (ren v n F)))
     ⟨B,C,[],by rw[<-en];rfl,s7,y7,.nil⟩ (by rintro k Z H' _ ⟨_,_,_,_,e,_⟩;exact SqL.of (e _ _ (s6 _ _ L))) ?_ ?_⟩
    .rintro k x Z H8 hk ⟨B,C,vm,rfl,ad,a4,al⟩;obtain⟨⟨a,b,c⟩,hs,t,rfl,hb⟩:=cw I hk;have hb:H5 t=some (.tup [.int (a:Int),.int (b:Int),.int (c:Int)]):=hb;have S:=ad _ _ (s6 _ _ hb);have cc:=ad _ _ (s6 _ _ b6);obtain⟨n1,n2,n3⟩:a≠b/\b≠c/\c≠a:=md.good.ne (a,b,c) (a8 hs);have et:(tc.take (k+1)).map (ren v n F)=(tc.take k).map (ren v n F)++[(rn v n F a b,rn v n F b c,rn v n F c a)]:=by rw[ba,hs,aQ];rfl
     have cx:vm.length<=20:=by rw[aF al,ao,bf];lia
     refine Ex ?_;refine iU (λZ H'=>∃j:Nat,Z=[some (V.ref d),some (.int (v:Int)),some (.ref fa),some (.int (n:Int)),some (.ref mo),some (.ref t),some (.int (j:Int))]/\H'=H8/\(j=3/\a≠v/\b≠v/\c≠v\/j=0/\a=v\/j=1/\b=v\/j=2/\c=v)) (λNX z=>?_) ?_
     .refine⟨_,rfl,_,rfl,t,_,rfl,.inr (SqT.of S),rfl,rfl,_,rfl,?_⟩;show if (if false=true then _ else inV (V.int (v:Int)) (nV [a,b,c]))=true then _ else _
      rw[NC bu,iu];by_cases ab:v∈[a,b,c]
      .rw[NF ab];refine aT ⟨_,rfl,⟨t,_,rfl,.inl S⟩,_,rfl,?_⟩;have dts:Dts [] H8 [V.int (a:Int),.int (b:Int),.int (c:Int)] [.int (a:Int),.int (b:Int),.int (c:Int)]:=.cons (.int _) (.cons (.int _) (.cons (.int _) .nil));have am:∀x y:Nat,PyData.eqv (.int (x:Int)) (.int (y:Int))=decide (x=y):=λx y=>by
        rw[fH];simp[PyData.eqv];lia
       have dd:(PyData.int (v:Int)).depth<=60:=by simp[PyData.depth]
       by_cases ha:a=v
       .exact⟨t,_,_,_,_,0,rfl,rfl,SqT.of S,dts,.int _,dd,by simp,by show PyData.eqv (.int (a:Int)) _=true;rw[am];exact NF ha,λm hm=>by lia,z _ _ ⟨0,rfl,rfl,.inr (.inl ⟨rfl,ha⟩)⟩⟩
       have f0:PyData.eqv (.int (a:Int)) (.int (v:Int))=false:=by rw[am];exact NG ha
       by_cases ap:b=v
       .refine⟨t,_,_,_,_,1,rfl,rfl,SqT.of S,dts,.int _,dd,by simp,by show PyData.eqv (.int (b:Int)) _=true;rw[am];exact NF ap,λm hm=>?_,z _ _ ⟨1,rfl,rfl,.inr (.inr (.inl ⟨rfl,ap⟩))⟩⟩;obtain rfl:m=0:=by lia
        exact f0
       have f1:PyData.eqv (.int (b:Int)) (.int (v:Int))=false:=by rw[am];exact NG ap
       have bL:c=v:=by
        simp only[aK,fZ,or_false] at ab;rcases ab with h|h|h
        .exact (ha h.symm).elim
        .exact (ap h.symm).elim
        exact h.symm
       refine⟨t,_,_,_,_,2,rfl,rfl,SqT.of S,dts,.int _,dd,by simp,by show PyData.eqv (.int (c:Int)) _=true;rw[am];exact NF bL,λm hm=>?_,z _ _ ⟨2,rfl,rfl,.inr (.inr (.inr ⟨rfl,bL⟩))⟩⟩;obtain rfl|rfl:m=0\/m=1:=by lia
       .exact f0
       exact f1
      rw[NG ab];simp only[aK,fZ,or_false,not_or] at ab;exact aH (z _ _ ⟨3,rfl,rfl,.inl ⟨rfl,aB ab.1,aB ab.2.1,aB ab.2.2⟩⟩)
     rintro Z H9 ⟨j,rfl,rfl,bR⟩;refine iU (λZ H'=>∃t' w6,Z=[some (V.ref d),some (.int (v:Int)),some (.ref fa),some (.int (n:Int)),some (.ref mo),some (.ref t'),w6]/\Same H9 H'/\H' t'=some (.tup [.int (rn v n F a b:Int),.int (rn v n F b c:Int),.int (rn v n F c a:Int)])) (λNX z=>?_) ?_
     .obtain⟨y,hy,bS⟩:∃y:Nat,(j<3->atI [V.int (a:Int),.int (b:Int),.int (c:Int)] (((j:Int)+1)%3)=some (V.int (y:Int)))/\(j<3->(y∈F->a=v/\b∈F\/b=v/\c∈F\/c=v/\a∈F)/\(y∉F->(a=v->b∉F)/\(b=v->c∉F)/\(c=v->a∉F))):=by
       rcases bR with ⟨rfl,_⟩|⟨rfl,h⟩|⟨rfl,h⟩|⟨rfl,h⟩
       .exact⟨0,λz=>by lia,λz=>by lia⟩
       .exact⟨b,λ_=>c9 (j:=1) rfl,λ_=>⟨λz=>.inl ⟨h,z⟩,λz=>⟨λ_=>z,λe=>(n1 (h.trans e.symm)).elim,λe=>(n3 (e.trans h.symm)).elim⟩⟩⟩
       .exact⟨c,λ_=>c9 (j:=2) rfl,λ_=>⟨λz=>.inr (.inl ⟨h,z⟩),λz=>⟨λe=>(n1 (e.trans h.symm)).elim,λ_=>z,λe=>(n2 (h.trans e.symm)).elim⟩⟩⟩
       exact⟨a,λ_=>c9 (j:=0) rfl,λ_=>⟨λz=>.inr (.inr ⟨h,z⟩),λz=>⟨λe=>(n3 (h.trans e.symm)).elim,λe=>(n2 (e.trans h.symm)).elim,λ_=>z⟩⟩⟩
      have same:(a=v->b∉F)/\(b=v->c∉F)/\(c=v->a∉F)->NX [some (V.ref d),some (.int (v:Int)),some (.ref fa),some (.int (n:Int)),some (.ref mo),some (.ref t),some (.int (j:Int))] H9:=λh=>by
       obtain⟨e1,e2,e3⟩:=EY (n:=n) h.1 h.2.1 h.2.2;exact z _ _ ⟨t,_,rfl,Same.refl _,by rw[e1,e2,e3];exact S⟩
      refine⟨_,rfl,_,_,rfl,rfl,_,rfl,?_⟩;show if decide ((j:Int)<3)=true then _ else _
      by_cases hj:j<3
      .rw[NF (show (j:Int)<3 by lia)];refine aT ?_;refine⟨_,rfl,_,rfl,_,_,rfl,rfl,_,_,rfl,rfl,by lia,t,_,_,_,rfl,rfl,SqT.of S,hy hj,_,rfl,fa,_,rfl,.inl (SqL.of cc),rfl,i5 _,_,rfl,?_⟩;show if (if false=true then _ else inV (V.int (y:Int)) (nV F))=true then _ else _
       rw[NC bu,iu];by_cases au:y∈F
       .rw[NF au];refine aT ?_;obtain⟨e1,e2,e3⟩:=GZ (n:=n) ((bS hj).1 au) n1 n2 n3;have fv:∀z:Nat,atI [V.int (z:Int),V.int (n:Int)] (if decide ((z:Int)=(v:Int))=true then 1 else 0)=some (V.int ((if z=v then n else z:Nat):Int)):=λz=>by
         by_cases h:z=v
         .rw[ND (NF (by lia)),ND h];exact c9 (j:=1) rfl
         rw[NC (by simp;lia),NC h];exact c9 (j:=0) rfl
        refine⟨_,rfl,t,rfl,⟨_,SqT.of S⟩,λZ_ hZ=>ll (K:=[]) (a:=t) (xs:=nV [a,b,c]) (λi Z ys H'=>∃o,Z=[o,some (.int (n:Int)),some (.int (v:Int))]/\ys=nV (([a,b,c].take i).map λz=>if z=v then n else z)/\Same H9 H'/\H' Z_=some (.lst ys)) ⟨none,rfl,rfl,bQ hZ,aP⟩ (by rintro i Z ys H' _ ⟨_,_,_,e,_⟩;exact SqT.of (e _ _ S)) ?_ ?_⟩
        .rintro i x Z ys H' hi ⟨o,rfl,rfl,a5,bb⟩;rw[nV,aY] at hi;obtain⟨z,hz,rfl⟩:=bW.mp hi;have bg:i<3:=(aG.mp hz).1;refine⟨_,rfl,_,rfl,lit2,λl2 cz cS b0 cd=>?_⟩;refine⟨_,rfl,_,rfl,rfl,.inr ⟨_,rfl,l2,_,_,V.int ((if z=v then n else z:Nat):Int),rfl,rfl,SqL.of cd,?_,b0 _ _ bb,?_,λH3 k3 y3=>⟨_,rfl,?_,λX o e=>(k3 X (λq=>by rw[q] at e;rw[e] at hZ;cases hZ)).trans (b0 _ _ (a5 _ _ e)),y3⟩⟩⟩
         .rw[jf];exact fv z
         .rw[bM,ao,bf];simp;lia
         rw[ba,hz,aQ,<-eS];rfl
        rintro Z ys H' ⟨o,rfl,rfl,a5,bb⟩;refine⟨Z_,_,rfl,.inl ⟨SqL.of bb,λt' aM=>?_⟩⟩;exact z _ _ ⟨t',_,rfl,a5.trans (bQ aM),by rw[aP,e1,e2,e3];rfl⟩
       rw[NG au];exact aH (same ((bS hj).2 au))
      rw[NG (show ¬(j:Int)<3 by lia)];refine aH (aH (same ?_));rcases bR with ⟨_,h1,h2,h3⟩|⟨h,_⟩|⟨h,_⟩|⟨h,_⟩
      .exact⟨λz=>(h1 z).elim,λz=>(h2 z).elim,λz=>(h3 z).elim⟩
      all_goals lia
     rintro Z ce ⟨t',w6,rfl,aS,aM⟩;have bd:=aS _ _ a4;refine⟨_,rfl,.inl ⟨rfl,_,SqL.of bd⟩,_,rfl,mo,vm,_,rfl,rfl,bd,by lia,λc0 be cf=>?_⟩;refine⟨_,_,_,rfl,λX o e=>(be X (aq e ca)).trans ((ad.trans aS) _ _ e),cf,?_⟩;rw[et];have tn:∀{X:Addr}{xs:List V},ce X=some (.tup xs)->X≠mo:=λe=>bO e bd (by simp);refine cJ (Paired.imp' (λ_ _ ⟨X,e1,e2⟩=>⟨X,e1,(be X (tn (aS _ _ e2))).trans (aS _ _ e2)⟩) al) (.cons ⟨t',rfl,(be t' (tn aM)).trans aM⟩ .nil)
    rintro Z H8 ⟨B,C,vm,rfl,ad,a4,al⟩;rw[aF I,bV] at al;exact⟨_,rfl,_,_,_,_,_,mo,vm,_,rfl,(an.trans s6).trans ad,a4,al,by rw[ao];exact Y,bK⟩
   rintro Z H5 ⟨M,O,R,B,C,d,l,tc,rfl,an,L,I,Y,md⟩;rw[aF bt,Kt] at md;exact⟨_,_,_,_,_,_,d,l,tc,rfl,bn.trans an,L,I,Y,md.good,Fy md⟩
 rintro Z H2 ⟨v1,M,O,R,B,C,d,l,tc,rfl,a1,L,I,Y,gc,oc⟩;rw[bM,Kt] at oc;exact⟨_,rfl,q d l tc H2 (s1.trans a1) L I Y gc λu D=>(oc u D).resolve_left (by simp)⟩
end
def But(p:Addr)(H H':Hp):Prop:=∀b o,b≠p->H b=some o->H' b=some o
theorem But.refl{p:Addr}:But p H H:=λ_ _ _ e=>e
theorem But.same{p:Addr}{H H' a:Hp}(h:But p H H')(s:Same H' a):But p H a:=λb o n e=>s _ _ (h b o n e)
theorem Cu{ts d:List Tri}(g:Good ts)(h:(ents d).Perm (ents ts)):Good d:=by refine⟨λt f=>?_,(h.map _).nodup_iff.mpr g.nd⟩;have k:=g.sk;obtain⟨a,b,c⟩:=t;have e:En ts a b c:=h.mem_iff.mp (eg.mpr (.inl f));exact⟨k.ne e,k.ne (k.rot e),k.ne (k.rot (k.rot e))⟩
theorem lg20{n:Nat}(h:n<=1000):((n:Int)+1).natAbs.log2<9000:=by
 have e:((n:Int)+1).natAbs=n+1:=by lia
 rw[e];have:=zR (n:=n+1) (k:=9000) (by lia);rw[this];exact bP (show n+1<2 ^ 10 by lia) (p9 (by decide) (by decide))
theorem n9{ts:List Tri}{x:Tri}(g:Good ts)(e:x.1≠x.2.1/\x.2.1≠x.2.2/\x.2.2≠x.1)(hf:iz ts x=true):Good (ts++[x]):=by
 refine⟨λt l=>?_,?_⟩
 .rcases aW.mp l with h|h
  .exact g.ne t h
  rw[aR.mp h];exact e
 rw[fe,aQ,cY];obtain⟨a,b,c⟩:=x;obtain⟨f,i,j⟩:a≠b/\b≠c/\c≠a:=e;have m:∀s∈dH (a,b,c),s∉(ents ts).map (·.1):=by intro s d;unfold iz at hf;exact NH (fK.mp hf s d)
 have n:(ents [(a,b,c)]).map (·.1)=[(a,b),(b,c),(c,a)]:=rfl;rw[n];refine⟨g.nd,?_,λs d s' o z=>m s' o (z ▸ d)⟩;simp[f,i,j,aB f,aB i,aB j]
end K15
end
section
namespace K15
def nam(f:Nat->Nat)(t:Tri):Tri:=(f t.1,f t.2.1,f t.2.2)
def naE(f:Nat->Nat)(e:Ent):Ent:=((f e.1.1,f e.1.2),f e.2)
theorem qW{f:Nat->Nat}{ts:List Tri}:ents (ts.map (nam f))=(ents ts).map (naE f):=by
 induction ts with
 |nil=>rfl
 |cons t ts a=>
  have h1:ents ((t::ts).map (nam f))=ents [nam f t]++ents (ts.map (nam f)):=by simp[ents]
  have h2:ents (t::ts)=ents [t]++ents ts:=by simp[ents]
  rw[h1,h2,aQ,a];rfl
theorem wj{f:Nat->Nat}{ts:List Tri}(g:Good ts)(inj:∀a b,Co ts a->Co ts b->f a=f b->a=b):Good (ts.map (nam f)):=by
 have k:=g.sk;refine⟨λt o=>?_,?_⟩
 .obtain⟨⟨a,b,c⟩,h,rfl⟩:=ay.mp o;have ca:Co ts a:=cy.mpr ⟨_,h,.inl rfl⟩;have l:Co ts b:=cy.mpr ⟨_,h,.inr (.inl rfl)⟩;have m:Co ts c:=cy.mpr ⟨_,h,.inr (.inr rfl)⟩;obtain⟨p,q,r⟩:a≠b/\b≠c/\c≠a:=g.ne _ h;exact⟨λz=>p (inj _ _ ca l z),λz=>q (inj _ _ l m z),λz=>r (inj _ _ m ca z)⟩
 rw[qW,bU];have nd:=g.nd;rw[List.Nodup,iJ] at nd |-;refine nd.imp_of_mem λ{x y} hx s h z=>h ?_;obtain⟨⟨a,b⟩,c⟩:=x;obtain⟨⟨d,i⟩,j⟩:=y;have z:=ju z;have e:En ts a b c:=hx;have n:En ts d i j:=s;have u:f a=f d:=z.1;have v:f b=f i:=z.2;show (a,b)=(d,i);rw[inj a d ⟨b,c,e⟩ ⟨i,j,n⟩ u,inj b i ⟨c,a,k.rot e⟩ ⟨j,d,k.rot n⟩ v]
theorem yQ{f:Nat->Nat}{ts:List Tri}{u:Nat}(h:Co (ts.map (nam f)) u):∃a,Co ts a/\u=f a:=by
 obtain⟨t,d,e⟩:=cy.mp h;obtain⟨⟨a,b,c⟩,hm,rfl⟩:=ay.mp d;rcases e with rfl|rfl|rfl
 .exact⟨a,cy.mpr ⟨_,hm,.inl rfl⟩,rfl⟩
 .exact⟨b,cy.mpr ⟨_,hm,.inr (.inl rfl)⟩,rfl⟩
 exact⟨c,cy.mpr ⟨_,hm,.inr (.inr rfl)⟩,rfl⟩
def Win(w j x:Nat):Prop:=w=0/\x=j\/w=1/\7*j<=x/\x<7*j+7\/w=2/\x+(j+1)*10 ^ 9+1<=10 ^ 60/\10 ^ 60<x+(j+2)*10 ^ 9+1
theorem Ey{w i j x:Nat}(h:Win w i x)(h':Win w j x):i=j:=by
 rcases h with ⟨rfl,h⟩|⟨rfl,h1,h2⟩|⟨rfl,h1,h2⟩
 .rcases h' with ⟨_,h'⟩|⟨z,_⟩|⟨z,_⟩
  .lia
  .cases z
  cases z
 .rcases h' with ⟨z,_⟩|⟨_,a,b⟩|⟨z,_⟩
  .cases z
  .lia
  cases z
 rcases h' with ⟨z,_⟩|⟨z,_⟩|⟨_,a,b⟩
 .cases z
 .cases z
 lia
theorem F6{w j x:Nat}(a:j<=1000)(h:Win w j x):x<10 ^ 60:=by
 rcases h with ⟨_,h⟩|⟨_,_,h⟩|⟨_,h,_⟩
 .lia
 .lia
 lia
end K15
end
section
namespace K15
open PySem L2 K51 K31
theorem ux{l:List Nat}(nd:l.Nodup){i a:Nat}(h:l[i]?=some a):a∉l.eraseIdx i/\(l.eraseIdx i).Nodup/\(∀x∈l.eraseIdx i,x∈l)/\(l.eraseIdx i).length=l.length-1:=by
 have hi:=(aG.mp h).1;refine⟨λz=>?_,nd.sublist (jm l i),λx hx=>(jm l i).subset hx,tL hi⟩;obtain⟨j,b⟩:=fN z;rw[List.getElem?_eraseIdx] at b
 split at b
 .have:=n6 nd h b;lia
 have:=n6 nd h b;lia
theorem pops3{n s0 s1 s2:Nat}(h:s0<n)(h1:s1<n-1)(h2:s2<n-2):∃a b c,(List.range n)[s0]?=some a/\((List.range n).eraseIdx s0)[s1]?=some b/\(((List.range n).eraseIdx s0).eraseIdx s1)[s2]?=some c/\a≠b/\b≠c/\c≠a:=by
 have f:s0<(List.range n).length:=by rw[ny];exact h
 obtain⟨g,i,o,j⟩:=ux (KG (n:=n)) (bX f);rw[ny] at j;have d:s1<((List.range n).eraseIdx s0).length:=by lia
 obtain⟨l,p,m,q⟩:=ux i (bX d);have e:s2<(((List.range n).eraseIdx s0).eraseIdx s1).length:=by lia
 refine⟨_,_,_,bX f,bX d,bX e,λz=>g ?_,λz=>l ?_,λz=>g ?_⟩
 .rw[z];exact p0 d
 .rw[z];exact p0 e
 rw[<-z];exact m _ (p0 e)
theorem Ee(l:List Nat)(k:Nat):(nV l).eraseIdx k=nV (l.eraseIdx k):=by
 induction l generalizing k with
 |nil=>rfl
 |cons a l b=>
  cases k with
  |zero=>rfl
  |succ k=>
   show _::(nV l).eraseIdx k=_;rw[b];rfl
theorem w_{n k:Nat}(h:k<n):seqIndex? (k:Int) n=some k:=by refine (rF ?_).1;unfold ixN;rw[ND (by lia),ND (by lia)];simp
theorem FW{n:Nat}(h:3<=n):(n:Int)*((n:Int)-1)*((n:Int)-2)=((n*(n-1)*(n-2):Nat):Int):=by
 have a:(n:Int)-1=((n-1:Nat):Int):=by lia
 have b:(n:Int)-2=((n-2:Nat):Int):=by lia
 rw[a,b,zw,zw]
theorem Ew{n:Nat}(h:3<=n):0<n*(n-1)*(n-2):=KP (KP (by lia) (by lia)) (by lia)
theorem FV{n:Nat}(h:n<=9):n*(n-1)*(n-2)<=504:=KO (KO h (show n-1<=8 by lia)) (show n-2<=7 by lia)
theorem vK{n m:Nat}(h:3<=n)(hm:m<n*(n-1)*(n-2)):m/n/(n-1)<n-2:=by rw[Nat.div_div_eq_div_mul];exact Nat.div_lt_of_lt_mul hm
def Dd(vs:List V)(H:Hp)(Q:VK)(p:Addr)(q:Int×Int)(m:Nat):Prop:=vs=[.ref p,.int (m:Int)]/\H p=some (.lst (bG q))/\bT q/\m<=16/\
 ∀r a ts b H',H r=none->But p H H'->H' p=some (.lst (bG b))->bT b->H' r=some (.lst a)->aw H' a ts->ts.length<=m->Good ts->Q (.ref r) H'
def rA:Sp:=λvs H Q _=>Exists (Ex3 (Dd vs H Q))
section
theorem iV:a7 ["_law_pot_here","_law_most","_law_n","_law_triples","_law_k","_law_number","_law_left","_law_triple"] ["_law_pot_here","_law_most"] (aC l8):=by walk_at"sc"
theorem DT{f f1 f2 f3:Addr}{fd d1 d2 d3:FuncData}(U:Fun K "_law_drawn" "_law_drawn" l8 f fd)(T:cq mg)
  (GD:Use P w K mg base 2 "_law_digit" ["_law_pot_here","_law_base"] gj f1 d1)
  (GT:Use P w K mg base 2 "_law_thirds" ["_law_triples"] kQ f2 d2)
  (GF:Use P w K mg base 2 "_law_free" ["_law_thirds_here","_law_triple"] rN f3 d3) :
  aj P w K mg base CX0 3 f fd ["_law_pot_here","_law_most"] rA:=by
 refine U.ok iV (by rintro _ _ _ _ ⟨_,_,_,rfl,_⟩;rfl) λNJ A outer s H vs Q E v h=>?_
 obtain⟨p,q,m,rfl,hp,al,hm,Qq⟩:=h;have hu:=dv v;refine⟨_,(af (sx 2 iV.nd (ax cF ah (uc GD v (ae (pv 0) (pa1 ah)))))
  (af (sx 3 iV.nd (bF du))
  (af (b_ cv rfl (kO rfl T.range (pa1 (uc GD v (ae (pv 0) (pa1 (ax cF (pv 1) ah)))))) (gx 4 iV.nd) (af (sx 5 iV.nd (uc GD v (ae (pv 0) (pa1 (ax ir (ax ir (pv 2) (ax gp (pv 2) ah)) (ax gp (pv 2) ah))))))
  (af (sx 6 iV.nd (cP (AU rfl) (by rfl) T.list z7 (pa1 (cP AI (by rfl) T.range My (pa1 (pv 2))))))
  (af (sx 7 iV.nd (cP jC (by rfl) T.tuple jv (pa1 (c7 (N:=["_law_spot","_law_left"]) (fr:=[none,some 6]) (te:=tBM [] "list" yh (ck 1) (dJ (ck 0) eB)) (ef (by decide +kernel) rfl rfl (by decide +kernel) (by decide +kernel) (by walk_at"cs") (by walk_at"ct")) rfl (bI (bF (ae (ax eK (pv 5) (pv 2)) (ae (ax eK (ax jH (pv 5) (pv 2)) (ax gp (pv 2) ah)) (pa1 (ax jH (ax jH (pv 5) (pv 2)) (ax gp (pv 2) ah)))))))
    (λC' s' H' fp NI=>⟨gx 0 (by decide:(["_law_spot","_law_left"]:List Str).Nodup),di,cA dD Lk Ln v_ (pv 1) (pa1 (pv 0))⟩)))))
  (ai (bo (dq (uc GF v (ae (uc GT v (pa1 (pv 3))) (pa1 (pv 7))))) (ai (cZ (cA dD eX eY dP (pv 3) (pa1 (pv 7))))) bj))))))
  (ai (aN (pv 3)))))),?_⟩
 have b8:=line5000;obtain⟨d1,d2⟩:=cQ (q:=q) (b:=7) (by decide);refine⟨_,rfl,p,q,7,rfl,hp,al,by decide,by decide +kernel,λH1 k1 y1=>⟨_,_,rfl,rfl,?_⟩⟩;obtain⟨n,en,R,bw⟩:∃n:Nat,3+digO q 7=(n:Int)/\3<=n/\n<=9:=⟨(3+digO q 7).toNat,by lia,by lia,by lia⟩;show cK 2 (V.int (3+digO q 7)) _ _ _;rw[en];refine⟨aJ _,λg H2 a2 s2 y2=>?_⟩;have S:p≠g:=aq y1 a2;have a3:H g=none:=(k1 g (aB S)).symm.trans a2;obtain⟨d3,d4⟩:=cQ (q:=nxt q 7) (b:=(m:Int)+1) (by lia);refine⟨_,rfl,_,rfl,_,_,rfl,rfl,p,nxt q 7,_,rfl,s2 _ _ y1,bJ al,by lia,lg20 (by lia),λH3 k3 y3=>⟨_,rfl,by lia,by lia,?_⟩⟩;have hN:(digO (nxt q 7) ((m:Int)+1)).toNat<=m:=by lia
 generalize (digO (nxt q 7) ((m:Int)+1)).toNat=N at hN;refine kP (lo:=0) (n:=N) (λi Z H'=>∃o4 o5 o6 o7 r j q',Z=[some (V.ref p),some (.int (m:Int)),some (.int (n:Int)),some (.ref g),o4,o5,o6,o7]/\But p H H'/\H' p=some (.lst (bG q'))/\bT q'/\H' g=some (.lst r)/\aw H' r j/\j.length<=i/\Good j)
  ⟨none,none,none,none,[],[],_,rfl,λd o nb e=>(k3 d nb).trans (s2 _ _ ((k1 d nb).trans e)),y3,bJ (bJ al),(k3 g (aB S)).trans y2,.nil,ak _,⟨by simp,by simp[ents]⟩⟩ ?_ ?_
 .rintro i Z H4 hi ⟨o4,o5,o6,o7,r,j,z,rfl,sm,X,B,am,Y,bx,C⟩;have I:=FW R;have b9:=Ew R;have ca:=FV bw;refine⟨_,rfl,_,rfl,_,rfl,_,_,rfl,rfl,_,_,rfl,rfl,.inl ⟨by lia,by lia⟩,_,rfl,_,_,rfl,rfl,_,_,rfl,rfl,.inr ⟨by lia,by lia⟩,p,z,_,rfl,X,B,by rw[I];lia,iR (by rw[I];lia) (by rw[I];exact s_ (show ((n*(n-1)*(n-2):Nat):Int)<=504 by lia) (by decide)),λH5 k5 y5=>?_⟩;obtain⟨d5,d6⟩:=cQ (q:=z) (b:=(n:Int)*((n:Int)-1)*((n:Int)-2)) (by rw[I];lia);obtain⟨num,enum⟩:∃num:Nat,digO z ((n:Int)*((n:Int)-1)*((n:Int)-2))=(num:Int):=⟨_,(dW d5).symm⟩;rw[enum] at d6 |-;rw[I] at d6;have a4:num<n*(n-1)*(n-2):=by lia
  clear d6 d5;refine⟨_,rfl,_,rfl,λra bA=>?_⟩;walk_at"H5 ra bA L s6 y6";refine⟨ra,n,rfl,y6,by lia,λu a5=>?_⟩;walk_at"L u a5 H7 s7 y7";have y7:H7 u=some (.lst (nV (List.range n))):=y7;have bb:(n:Int).natAbs.log2<9000:=iR (by lia) (s_ (show (n:Int)<=9 by lia) (by decide));have bK:((n:Int)-1).natAbs.log2<9000:=iR (by lia) (s_ (show (n:Int)-1<=9 by lia) (by decide));refine⟨_,rfl,_,rfl,_,_,rfl,rfl,by lia,_,rfl,_,rfl,_,_,rfl,rfl,⟨by lia,bb⟩,_,rfl,_,_,rfl,rfl,_,_,rfl,rfl,by lia,_,rfl,_,rfl,_,_,rfl,rfl,⟨by lia,bb⟩,_,rfl,_,_,rfl,rfl,_,_,rfl,rfl,⟨by lia,bK⟩,lit3,λdl H8 bL s8 y8=>?_⟩;have ed:([V.int ((num:Int)%(n:Int)),V.int ((num:Int)/(n:Int)%((n:Int)-1)),V.int ((num:Int)/(n:Int)/((n:Int)-1))]:List V)=nV [num%n,num/n%(n-1),num/n/(n-1)]:=by
   have M:(n:Int)-1=((n-1:Nat):Int):=by lia
   rw[M];rfl
  rw[ed] at y8;obtain⟨a,b,c,ha,hb,hc,n1,n2,n3⟩:=pops3 (n:=n) (s0:=num%n) (s1:=num/n%(n-1)) (s2:=num/n/(n-1)) (jq _ (by lia)) (jq _ (by lia)) (vK R a4);have yL:=s8 _ _ y7;have bR:dl≠u:=aB (aq y7 bL);refine⟨dl,rfl,⟨_,SqL.of y8⟩,λZ_ hZ=>?_⟩;have bd:u≠Z_:=aq yL hZ;have bS:num%n<100:=bP (jq _ (by lia)) (by lia);have b0:num/n%(n-1)<100:=bP (jq _ (by lia)) (by lia);have b1:num/n/(n-1)<100:=bP (vK R a4) (by lia);have be:But p H L:=λd o nb e=>s6 _ _ ((k5 d nb).trans (sm _ _ nb e));have an:L g=some (.lst r):=s6 _ _ ((k5 g (aB S)).trans am);have bg:=s6 _ _ y5;have ap:aw L r j:=Paired.imp' (λ_ _ ⟨d,M,O⟩=>⟨d,M,s6 _ _ ((k5 d (bO O X (by simp))).trans O)⟩) Y;generalize num%n=s0 at *;generalize num/n%(n-1)=s1 at *;generalize num/n/(n-1)=bi at *;refine dG (K:=[]) (a:=dl) (xs:=nV [s0,s1,bi]) (λi Z ys H'=>∃o l,Z=[o,some (V.ref u)]/\(i=0/\l=List.range n/\ys=[]\/i=1/\l=(List.range n).eraseIdx s0/\ys=nV [a]\/i=2/\l=((List.range n).eraseIdx s0).eraseIdx s1/\ys=nV [a,b]\/i=3/\ys=nV [a,b,c])/\But u H8 H'/\H' u=some (.lst (nV l))/\H' Z_=some (.lst ys))
   ⟨none,_,rfl,.inl ⟨rfl,rfl,rfl⟩,But.refl.same (bQ hZ),bQ hZ _ _ yL,aP⟩ (by rintro i Z ys H' _ ⟨_,_,_,_,e,_⟩;exact SqL.of (e _ _ bR y8)) ?_ ?_
  .rintro i x Z ys H' hi ⟨o,l,rfl,ab,bt,au,aM⟩;rw[nV,aY] at hi;obtain⟨s,hs,rfl⟩:=bW.mp hi;obtain⟨y,hy,cb,cc,b2⟩:∃y:Nat,l[s]?=some y/\s<100/\ys.length<=3/\(i+1=0/\l.eraseIdx s=List.range n/\ys++[V.int (y:Int)]=[]\/i+1=1/\l.eraseIdx s=(List.range n).eraseIdx s0/\ys++[V.int (y:Int)]=nV [a]\/i+1=2/\l.eraseIdx s=((List.range n).eraseIdx s0).eraseIdx s1/\ys++[V.int (y:Int)]=nV [a,b]\/i+1=3/\ys++[V.int (y:Int)]=nV [a,b,c]):=by
    rcases ab with ⟨rfl,rfl,rfl⟩|⟨rfl,rfl,rfl⟩|⟨rfl,rfl,rfl⟩|⟨rfl,rfl⟩
    .cases hs;exact⟨a,ha,bS,by simp,.inr (.inl ⟨rfl,rfl,rfl⟩)⟩
    .cases hs;exact⟨b,hb,b0,by simp[nV],.inr (.inr (.inl ⟨rfl,rfl,rfl⟩))⟩
    .cases hs;exact⟨c,hc,b1,by simp[nV],.inr (.inr (.inr ⟨rfl,rfl⟩))⟩
    cases hs
   have b3:=(aG.mp hy).1;refine⟨_,rfl,.inl ⟨rfl,_,SqL.of au⟩,_,rfl,u,nV l,(s:Int),s,V.int (y:Int),rfl,rfl,au,by lia,by lia,w_ (by rw[bM];exact b3),by rw[nV,aY,hy];rfl,λcd bl b4=>?_⟩;exact⟨(bl Z_ (aB bd)).trans aM,by lia,λH3 k3 y3=>⟨_,_,rfl,b2,λd o nb e=>(k3 d (aq e hZ)).trans ((bl d nb).trans (bt _ _ nb e)),(k3 u bd).trans (by rw[b4,Ee]),y3⟩⟩
  rintro Z ys H' ⟨o,l,rfl,ab,bt,au,aM⟩;obtain rfl:ys=nV [a,b,c]:=by
   have e3:(nV [s0,s1,bi]).length=3:=rfl;rw[e3] at ab;rcases ab with ⟨h,_⟩|⟨h,_⟩|⟨h,_⟩|⟨_,h⟩
   .cases h
   .cases h
   .cases h
   exact h
  refine⟨Z_,_,rfl,.inl ⟨SqL.of aM,λt ht=>?_⟩⟩;walk_at"H' t ht H9 s9 y9";have aS:Same L H9:=λd o e=>s9 _ _ (bt _ _ (aq e a5) (s8 _ _ (s7 _ _ e)));refine⟨_,rfl,g,r,j,rfl,aS _ _ an,ap.same aS,by lia,C.nd,λD ce cf a0 hD=>?_⟩;refine⟨_,rfl,D,t,j,(a,b,c),rfl,hD,a0 _ _ y9,λb5 bm=>?_⟩;have st:=(aS.trans a0).trans bm;have bn:=bm _ _ (a0 _ _ y9);refine⟨_,rfl,?_⟩;cases b6:iz j (a,b,c) with
  |false=>
   exact aH ⟨_,_,_,_,r,j,_,rfl,λd o nb e=>st _ _ (be _ _ nb e),st _ _ bg,bJ B,st _ _ an,ap.same st,by lia,C⟩
  |true=>
   have a1:=st _ _ an;refine aT ⟨_,rfl,.inl ⟨rfl,_,SqL.of a1⟩,_,rfl,g,r,_,rfl,rfl,a1,by rw[aF Y];lia,λcg ad b7=>?_⟩;have tn:∀{d:Addr}{xs:List V},b5 d=some (.tup xs)->d≠g:=λe=>bO e a1 (by simp);refine⟨_,_,_,_,_,j++[(a,b,c)],_,rfl,λd o nb e=>(ad d (aq e a3)).trans (st _ _ (be _ _ nb e)),(ad p S).trans (st _ _ bg),bJ B,b7,?_,by rw[aL,bY];lia,n9 C ⟨n1,n2,n3⟩ b6⟩;exact cJ (Paired.imp' (λ_ _ ⟨d,M,O⟩=>⟨d,M,(ad d (tn (st _ _ O))).trans (st _ _ O)⟩) ap) (.cons ⟨t,rfl,(ad t (tn bn)).trans bn⟩ .nil)
 rintro Z H4 ⟨o4,o5,o6,o7,r,j,z,rfl,sm,X,B,am,Y,bx,C⟩;exact⟨_,rfl,Qq g r j z H4 a3 sm X B am Y (by lia) C⟩
end
end K15
end
section
namespace K15
theorem yK{f:Nat->Nat}{ts:List Tri}(g:Good ts)(inj:∀a b,Co ts a->Co ts b->f a=f b->a=b){a b c:Nat}(h:En (ts.map (nam f)) a b c):∃d e i,En ts d e i/\a=f d/\b=f e/\c=f i:=by unfold En at h;rw[qW] at h;obtain⟨⟨⟨d,e⟩,i⟩,h1,h2⟩:=ay.mp h;have h2:=ju h2;have j:=ju h2.1;exact⟨d,e,i,h1,j.1.symm,j.2.symm,h2.2.symm⟩
theorem yu{f:Nat->Nat}{ts:List Tri}{a b c:Nat}(h:En ts a b c):En (ts.map (nam f)) (f a) (f b) (f c):=by unfold En;rw[qW];exact ay.mpr ⟨_,h,rfl⟩
theorem Fl{f:Nat->Nat}{ts:List Tri}(g:Good ts)(inj:∀a b,Co ts a->Co ts b->f a=f b->a=b){v:Nat}(H:Co ts v)(h:One (En ts) v):One (En (ts.map (nam f))) (f v):=by
 obtain⟨F,hF,I⟩:=h;have k:=g.sk;have key:∀p∈F,Co ts p:=λp d=>by
  obtain⟨q,j⟩:=hF.key p d;exact⟨q,v,k.rot j⟩
 have nx:∀{x y z:Nat},En ts x y z->Co ts y:=λ{x y z} e=>⟨z,x,k.rot e⟩;have u:∀{x y z:Nat},En ts x y z->Co ts z:=λ{x y z} e=>⟨x,y,k.rot (k.rot e)⟩;have back:∀{p q:Nat},En (ts.map (nam f)) (f v) p q->∃c m,En ts v c m/\p=f c/\q=f m:=λ{p q} e=>by
  obtain⟨w,A,B,h1,h2,n,K⟩:=yK g inj e;have:v=w:=inj v w H ⟨A,B,h1⟩ h2;subst this;exact⟨A,B,h1,n,K⟩
 refine⟨F.map f,⟨λz=>hF.ne (zJ.mp z),?_,λi p q d j=>?_,λp d=>?_,λp d q j s=>?_,λp d o L=>?_⟩,λp ⟨q,j⟩=>?_⟩
 .have:=hF.nd;rw[List.Nodup] at this |-;rw[iJ];exact this.imp_of_mem λ{x y} hx M N z=>N (inj x y (key x hx) (key y M) z)
 .rw[aY] at d j;obtain⟨c,h1,rfl⟩:=bW.mp d;obtain⟨m,h2,rfl⟩:=bW.mp j;exact yu (hF.ch i c m h1 h2)
 .obtain⟨c,h1,rfl⟩:=ay.mp d;obtain⟨q,j⟩:=hF.key c h1;exact⟨f q,yu j⟩
 .obtain⟨c,h1,rfl⟩:=ay.mp d;obtain⟨p2,l,e,h2,rfl⟩:=back j;have:c=p2:=inj c p2 (key c h1) (nx e) h2;subst this;obtain⟨r,s⟩:=s;obtain⟨C,O,D,n,_⟩:=back s;have:l=C:=inj l C (u e) (nx D) n;subst this;exact ay.mpr ⟨l,hF.clF c h1 l e ⟨O,D⟩,rfl⟩
 .obtain⟨c,h1,rfl⟩:=ay.mp d;obtain⟨E,p2,e,rfl,h2⟩:=back L;have:c=p2:=inj c p2 (key c h1) (u e) h2;subst this;exact ay.mpr ⟨E,hF.clB c h1 E e,rfl⟩
 obtain⟨p2,l,e,rfl,rfl⟩:=back j;exact ay.mpr ⟨p2,I p2 ⟨l,e⟩,rfl⟩
theorem qJ(a:Tri)(l:List Tri):ents (a::l)=ents [a]++ents l:=by simp[ents]
theorem Eh{ts c:List Tri}(h:c.Sublist ts):(ents c).Sublist (ents ts):=by
 induction h with
 |slnil=>exact Ko _
 |cons a _ b=>rw[qJ a];exact b.trans (List.sublist_append_right _ _)
 |cons_cons a _ b=>rw[qJ a,qJ a];exact Mt (Ko _) b
theorem qS{ts a:List Tri}(g:Good ts)(h:a.Sublist ts):Good a:=by refine⟨λt b=>g.ne t (h.subset b),g.nd.sublist (Kn _ ?_)⟩;exact Eh h
theorem D_{as bs:List Tri}(g:Good as)(g':Good bs)(h:∀a,Co as a->¬Co bs a):Good (as++bs):=by
 have e:ents (as++bs)=ents as++ents bs:=by simp[ents]
 refine⟨λt j=>(aW.mp j).elim (g.ne t) (g'.ne t),?_⟩;rw[e,aQ,cY];refine⟨g.nd,g'.nd,λs l s' m z=>?_⟩;obtain⟨⟨⟨a,b⟩,c⟩,h1,h2⟩:=ay.mp l;obtain⟨⟨⟨f,i⟩,n⟩,o,d⟩:=ay.mp m;have h2:(a,b)=s:=h2;have d:(f,i)=s':=d;have:(a,b)=(f,i):=by rw[h2,d,z]
 cases this;exact h a ⟨b,c,h1⟩ ⟨b,n,o⟩
theorem Cv{l:List Tri}{a b c n:Nat}(g:Good (l++[(a,b,c)]))(f:¬Co (l++[(a,b,c)]) n):Good (l++[(a,b,n),(b,c,n),(c,a,n)]):=by
 have e:∀m,ents (l++m)=ents l++ents m:=λm=>by simp[ents]
 have gl:Good l:=qS g (by simp);have nd:=g.nd;rw[e,aQ,cY] at nd;obtain⟨j,o,r⟩:a≠b/\b≠c/\c≠a:=g.ne (a,b,c) (by simp);have co:∀x,x=a\/x=b\/x=c->Co (l++[(a,b,c)]) x:=λx hx=>cy.mpr ⟨(a,b,c),by simp,hx⟩;have na:n≠a:=λz=>f (co n (.inl z));have nb:n≠b:=λz=>f (co n (.inr (.inl z)));have i:n≠c:=λz=>f (co n (.inr (.inr z)));have nl:∀s∈(ents l).map (·.1),s.1≠n/\s.2≠n:=λs d=>by
  obtain⟨⟨⟨x,y⟩,z⟩,h1,rfl⟩:=ay.mp d;have h1:En l x y z:=h1;have cx:∀u,Co l u->Co (l++[(a,b,c)]) u:=λu ⟨p,q,A⟩=>⟨p,q,by unfold En at *;rw[e];exact dC _ A⟩;exact⟨λw=>f (w ▸ cx x ⟨y,z,h1⟩),λw=>f (w ▸ cx y ⟨z,x,gl.sk.rot h1⟩)⟩
 have B:∀s∈(ents l).map (·.1),s≠(a,b)/\s≠(b,c)/\s≠(c,a):=λs d=>by
  have h:=nd.2.2 s d;exact⟨h (a,b) (by simp[ents]),h (b,c) (by simp[ents]),h (c,a) (by simp[ents])⟩
 refine⟨λt C=>?_,?_⟩
 .rcases aW.mp C with h|h
  .exact gl.ne t h
  simp only[aK,fZ,or_false] at h;rcases h with rfl|rfl|rfl
  .exact⟨j,aB nb,na⟩
  .exact⟨o,aB i,nb⟩
  exact⟨r,aB na,i⟩
 rw[e,aQ,cY];refine⟨gl.nd,?_,λs d s' v z=>?_⟩
 .simp[ents,j,o,r,na,nb,i,aB j,aB o,aB r,aB na,aB nb,aB i]
 subst z;obtain⟨D,E⟩:=nl s d;obtain⟨H,I,K⟩:=B s d;simp[ents] at v;rcases v with rfl|rfl|rfl|rfl|rfl|rfl|rfl|rfl|rfl
 all_goals first|exact H rfl|exact I rfl|exact K rfl|exact D rfl|exact E rfl
end K15
end
section
namespace K15
open PySem L2 K51 K31
theorem HW(cl:List Nat)(d v:Nat):(nV cl).take d++V.int (v:Int)::(nV cl).drop d=nV (cl.take d++v::cl.drop d):=by unfold nV;rw[aQ,aU,tN,List.map_drop]
def nmV(x:Nat×Nat):Key×V:=(Sum.inl (x.1:Int),V.int (x.2:Int))
theorem xO{nm:List (Nat×Nat)}{c:Nat}(h:c∉nm.map (·.1)):bh (nm.map nmV) (Sum.inl (c:Int):Key)=none:=by
 induction nm with
 |nil=>simp[bh]
 |cons x nm a=>
  rw[aU,aK,not_or] at h;rw[aU,fR (λz=>h.1 ?_)]
  .exact a h.2
  have:(x.1:Int)=(c:Int):=nK z;lia
theorem rS{nm:List (Nat×Nat)}{c x:Nat}(h:c∉nm.map (·.1)):cL (nm.map nmV) (Sum.inl (c:Int):Key) (V.int (x:Int))=(nm++[(c,x)]).map nmV:=by rw[om _ (xO h),aQ];rfl
def nmF(nm:List (Nat×Nat))(c:Nat):Nat:=(nm.lookup c).getD 0
theorem mq{nm:List (Nat×Nat)}{c:Nat}(h:c∈nm.map (·.1)):∃k x:Nat,nm[k]?=some (c,x)/\bh (nm.map nmV) (Sum.inl (c:Int):Key)=some (V.int (x:Int))/\nmF nm c=x:=by
 induction nm with
 |nil=>cases h
 |cons y nm d=>
  obtain⟨a,x⟩:=y;by_cases e:a=c
  .subst e;exact⟨0,x,rfl,hV (p:=nmV (a,x)) (r:=nm.map nmV) rfl,by simp[nmF]⟩
  rw[aU] at h;obtain⟨k,f,h1,h2,b⟩:=d ((aK.mp h).resolve_left λz=>e z.symm);refine⟨k+1,f,h1,?_,?_⟩
  .rw[aU,fR (λz=>e ?_)]
   .exact h2
   have:(a:Int)=(c:Int):=nK z;lia
  have:(c==a)=false:=by simpa using λz:c=a=>e z.symm
  unfold nmF at b |-;rw[iG,this];exact b
def C9(vs:List V)(H:Hp)(Q:VK)(p T:Addr)(q:Int×Int)(b:List V)(ts:List Tri):Prop:=vs=[.ref p,.ref T]/\H p=some (.lst (bG q))/\bT q/\H T=some (.lst b)/\T≠p/\aw H b ts/\ts.length<=200/\Good ts/\
 ∀r d a e H',H r=none->But p H H'->H' p=some (.lst (bG e))->bT e->H' r=some (.lst d)->aw H' d a->a.length=ts.length->Good a->(∀u,Co a u->u<10 ^ 60)->((∀c,Co ts c->One (En ts) c)->∀c,Co a c->One (En a) c)->Q (.ref r) H'
def wW:Sp:=λvs H Q _=>Exists (Ex5 (C9 vs H Q))
section
theorem ia:a7 ["_law_pot_here","_law_triples","_law_way","_law_corners_here","_law_corner","_law_names","_law_i","_law_far"] ["_law_pot_here","_law_triples"] (aC lV):=by walk_at"sc"
theorem DO{f f1 f2:Addr}{fd d1 d2:FuncData}(U:Fun K "_law_named" "_law_named" lV f fd)(T:cq mg)
  (GD:Use P w K mg base 1 "_law_digit" ["_law_pot_here","_law_base"] gj f1 d1)
  (GC:Use P w K mg base 1 "_law_corners" ["_law_triples"] iO f2 d2) :
  aj P w K mg base CX0 2 f fd ["_law_pot_here","_law_triples"] wW:=by
 refine U.ok ia (by rintro _ _ _ _ ⟨_,_,_,_,_,rfl,_⟩;rfl) λNJ A outer s H vs Q E X h=>?_
 obtain⟨p,T0,q,vt,ts,rfl,hp,bx,hT,bA,ht,hl,g,Qq⟩:=h;have hu:=dv X;refine⟨_,(af (sx 2 ia.nd (uc GD X (ae (pv 0) (pa1 ah))))
  (af (sx 3 ia.nd (bF du))
  (af (b_ cv rfl (bI (uc GC X (pa1 (pv 1)))) (gx 4 ia.nd) (ai (cZ (cA dD tZ Ac qC (pv 3) (ae (uc GD X (ae (pv 0) (pa1 (ax cF (pln T.len (pv 3)) ah)))) (pa1 (pv 4)))))))
  (af (sx 5 ia.nd ou)
  (af (b_ cv rfl (lJ rfl T.enum (pa1 (pv 3))) (cX rfl (aX (gx 6 ia.nd) (aX (gx 4 ia.nd) cR))) (af (sx 7 ia.nd (ax gp (ax gp (ax gp (ax mm ah ah) ah) (ax ir (ax cF (pv 6) ah) (ax mm ah ah))) (uc GD X (ae (pv 0) (pa1 (ax mm ah ah))))))
  (ai (iW hu (pv 5) (pv 4) (ixx cI (bF (ae (pv 6) (ae (ax cF (ax ir ah (pv 6)) (uc GD X (ae (pv 0) (pa1 ah)))) (pa1 (pv 7))))) (pv 2)) rfl))))
  (ai (aN (c7 (N:=["_law_triple","_law_names"]) (fr:=[none,some 5]) (te:=tCB (λxs H Q=>∃p ys,xs=[.ref p]/\((SqL [] H p ys/\∀l,H l=none->Q (.ref l) (upd H l (.tup ys)))\/(SqT [] H p ys/\Q (.ref p) H))) (dJ (iw (mW [] (ck 0)) (cK 0) (λ_ H Q=>Q true H) (sq (ck 1) (ck 0)) [none,some 1]) eB)) (ef (by decide +kernel) rfl rfl (by decide +kernel) (by decide +kernel) (by walk_at"cs") (by walk_at"ct")) rfl (bI (pv 1))
    (λC' s' H' fp NI=>⟨gx 0 (by decide:(["_law_triple","_law_names"]:List Str).Nodup),di,cP jC (by rfl) T.tuple jv (pa1 (c7 (N:=["_law_corner","_law_names"]) (fr:=[none,some 1]) (te:=sq (ck 1) (ck 0)) (ef (by decide +kernel) rfl rfl (by decide +kernel) (by decide +kernel) (by walk_at"cs") (by walk_at"ct")) rfl (i7 (pv 0))
    (λC2 s2 H2 c5 c6=>⟨gx 0 (by decide:(["_law_corner","_law_names"]:List Str).Nodup),di,jP hu (pv 1) (pv 0) (λ_ _=>rfl)⟩)))⟩))))))))),?_⟩
 have c8:=line5000;obtain⟨d1,d2⟩:=cQ (q:=q) (b:=3) (by decide);obtain⟨r,ew⟩:∃r:Nat,digO q 3=(r:Int):=⟨_,(dW d1).symm⟩;refine⟨_,rfl,p,q,3,rfl,hp,bx,by decide,by decide +kernel,λH1 k1 y1=>?_⟩;rw[ew] at d2 |-;have da:r<3:=by lia
 refine⟨aJ _,λch H2 bK s2 y2=>?_⟩;have aM:p≠ch:=aq y1 bK;have b7:H ch=none:=(k1 ch (aB aM)).symm.trans bK;have b8:=s2 _ _ ((k1 T0 bA).trans hT);have b9:aw H2 vt ts:=Paired.imp' (λ_ _ ⟨m,D,I⟩=>⟨m,D,s2 _ _ ((k1 m (bO I hp (by simp))).trans I)⟩) ht;refine⟨_,rfl,T0,vt,ts,rfl,b8,b9,hl,λr0 cs H3 bL s3 y3 bR db=>?_⟩;have ca:r0≠p:=aB (aq (s2 _ _ y1) bL);have cb:r0≠ch:=aB (aq y2 bL);refine⟨r0,rfl,⟨_,SqL.of y3⟩,dh (K:=[]) (a:=r0) (xs:=nV cs) (λi Z H'=>∃L cl q',Z=[some (V.ref p),some (.ref T0),some (.int (r:Int)),some (.ref ch),L,none,none,none]/\(∀b o,b≠p->b≠ch->H3 b=some o->H' b=some o)/\H' p=some (.lst (bG q'))/\bT q'/\H' ch=some (.lst (nV cl))/\cl.Perm (cs.take i))
  ⟨none,[],_,rfl,λ_ _ _ _ e=>e,s3 _ _ (s2 _ _ y1),bJ bx,s3 _ _ y2,Km _⟩ (λi Z H' _ ⟨_,_,_,_,e,_⟩=>SqL.of (e _ _ ca cb y3)) ?_ ?_⟩
 .rintro i x Z H4 hi ⟨L,cl,q4,rfl,sm,aS,a0,ab,M⟩;rw[nV,aY] at hi;obtain⟨v,hv,rfl⟩:=bW.mp hi;have cc:=(aG.mp hv).1;have bS:(nV cl).length=i:=by
   rw[bM,M.length_eq,bf];lia
  refine⟨_,rfl,.inl ⟨rfl,_,SqL.of ab⟩,_,rfl,_,rfl,ch,nV cl,rfl,.inl (SqL.of ab),_,_,rfl,rfl,p,q4,_,rfl,aS,a0,by lia,by rw[bS];exact lg20 (by lia),λH5 k5 y5=>?_⟩;obtain⟨cd,ce⟩:=cQ (q:=q4) (b:=((nV cl).length:Int)+1) (by lia);obtain⟨d,hd⟩:∃d:Nat,digO q4 (((nV cl).length:Int)+1)=(d:Int):=⟨_,(dW cd).symm⟩;rw[hd] at ce |-;have a1:=(k5 ch (aB aM)).trans ab;refine⟨_,rfl,ch,nV cl,d,_,rfl,rfl,a1,by lia,by lia,λO k6 y6=>?_⟩;refine⟨_,cl.take d++v::cl.drop d,_,rfl,λm o n1 n2 e=>(k6 m n2).trans ((k5 m n1).trans (sm _ _ n1 n2 e)),(k6 p aM).trans y5,bJ a0,by rw[y6,HW],?_⟩;have D:cs.take (i+1)=cs.take i++[v]:=by rw[ba,hv];rfl
  rw[D];refine List.Perm.trans List.perm_middle ?_;rw[f_];exact (List.Perm.cons v M).trans (gO (l₁:=[v]) (l₂:=cs.take i))
 rintro Z H4 ⟨L,cl,q4,rfl,sm,aS,a0,ab,M⟩;rw[bM,bV] at M;refine λn H5 a5 s5 y5=>?_;have bS:cl.length<=600:=by rw[M.length_eq];lia
 have cf:cl.Nodup:=M.nodup_iff.mpr (bR.1.imp λh=>bc h);have bb:p≠n:=aq aS a5;have a1:=s5 _ _ ab;have cg:ch≠n:=aq ab a5;refine⟨_,rfl,ch,nV cl,rfl,SqL.of a1,k_ (K:=[]) (a:=ch) (xs:=nV cl) (λj Z H'=>∃L o6 o7 nm q',Z=[some (V.ref p),some (.ref T0),some (.int (r:Int)),some (.ref ch),L,some (.ref n),o6,o7]/\(∀b o,b≠p->b≠n->H5 b=some o->H' b=some o)/\H' p=some (.lst (bG q'))/\bT q'/\H' n=some (.dK (nm.map nmV))/\nm.map (·.1)=cl.take j/\∀k c x,nm[k]?=some (c,x)->Win r k x)
  ⟨_,none,none,[],_,rfl,λ_ _ _ _ e=>e,s5 _ _ aS,a0,y5,rfl,λk c x h=>by simp at h⟩ (λj Z H' _ ⟨_,_,_,_,_,_,e,_⟩=>SqL.of (e _ _ (aB aM) cg a1)) ?_ ?_⟩
 .rintro j x pt Z O hj ⟨L,o6,o7,nm,y,rfl,bd,a2,am,be,R,an⟩ ci;rw[nV,aY] at hj;obtain⟨c,S,rfl⟩:=bW.mp hj;have dc:=(aG.mp S).1;walk_at"O pt ci H7 s7 y7";refine⟨pt,_,rfl,SqT.of y7,rfl,_,_,rfl,_,_,rfl,rfl,?_⟩;have cp:∀k:Int,0<=k->k<=100->CPow 10 k:=λk h1 h2=>⟨h1,by lia,by decide⟩;have cj:=s7 _ _ a2;refine⟨_,_,rfl,rfl,cp _ (by decide) (by decide),_,_,rfl,rfl,_,rfl,_,_,rfl,rfl,_,_,rfl,rfl,cp _ (by decide) (by decide),_,_,rfl,rfl,.inl ⟨by lia,by lia⟩,_,_,rfl,rfl,_,rfl,_,_,rfl,rfl,cp _ (by decide) (by decide),p,y,(10:Int) ^ 9,rfl,cj,am,by decide,by decide +kernel,λH8 k8 y8=>⟨_,_,rfl,rfl,?_⟩⟩;obtain⟨f1,f2⟩:=cQ (q:=y) (b:=(10:Int) ^ 9) (by decide);obtain⟨C,e9⟩:∃C:Nat,digO y ((10:Int) ^ 9)=(C:Int):=⟨_,(dW f1).symm⟩;rw[e9] at f2;have dd:C<10 ^ 9:=by lia
  show cK 7 (V.int (10 ^ 60-1-((j:Int)+1)*10 ^ 9-digO y ((10:Int) ^ 9))) _ _ _;rw[e9];have cm:(10:Int) ^ 60-1-((j:Int)+1)*10 ^ 9-(C:Int)=((10 ^ 60-1-(j+1)*10 ^ 9-C:Nat):Int):=by lia
  rw[cm];refine⟨_,rfl,_,rfl,_,_,rfl,rfl,.inl ⟨by decide,by decide⟩,_,rfl,p,_,7,rfl,y8,bJ am,by decide,by decide +kernel,λH9 k9 y9=>⟨_,_,rfl,rfl,?_⟩⟩;obtain⟨f3,f4⟩:=cQ (q:=nxt y ((10:Int) ^ 9)) (b:=7) (by decide);obtain⟨d7,e7⟩:∃d7:Nat,digO (nxt y ((10:Int) ^ 9)) 7=(d7:Int):=⟨_,(dW f3).symm⟩;rw[e7] at f4;refine⟨_,rfl,lit3,λl bg dj bi a3=>?_⟩;rw[show ([V.int (j:Int),(λi j=>V.int (i+j)) (7*(j:Int)) (digO (nxt y ((10:Int) ^ 9)) 7),V.int ((10 ^ 60-1-(j+1)*10 ^ 9-C:Nat):Int)]:List V)=nV [j,7*j+d7,10 ^ 60-1-(j+1)*10 ^ 9-C] by rw[e7];rfl] at a3;obtain⟨x,hx,hw⟩:∃x:Nat,[j,7*j+d7,10 ^ 60-1-(j+1)*10 ^ 9-C][r]?=some x/\Win r j x:=by
   obtain rfl|rfl|rfl:r=0\/r=1\/r=2:=by lia
   .exact⟨_,rfl,.inl ⟨rfl,rfl⟩⟩
   .exact⟨_,rfl,.inr (.inl ⟨rfl,by lia,by lia⟩)⟩
   exact⟨_,rfl,.inr (.inr ⟨rfl,by lia,by lia⟩)⟩
  have cn:bg n=some (.dK (nm.map nmV)):=bi _ _ ((k9 n (aB bb)).trans ((k8 n (aB bb)).trans (s7 _ _ be)));have b0:nm.length=j:=by have:=congrArg List.length R;rw[ao,bf] at this;lia
  have co:c∉nm.map (·.1):=by rw[R];intro z;obtain⟨k,B⟩:=fN z;have b1:=(aG.mp B).1;rw[bf] at b1;rw[zF (by lia)] at B;have:=n6 cf B S;lia
  refine⟨_,rfl,l,_,_,V.int (x:Int),rfl,rfl,SqL.of a3,c9 (by rw[nV,aY,hx];rfl),_,rfl,_,rfl,n,_,rfl,DPut.k (k:=Sum.inl (c:Int)) cn (by rw[ao];lia),?_⟩;rw[rS co];walk_at"bg n dk b2 cr";refine⟨_,_,_,nm++[(c,x)],_,rfl,λm o n1 n2 e=>?_,(b2 p bb).trans (bi _ _ y9),bJ (bJ am),cr,?_,λk c' x' h=>?_⟩
  .exact (b2 m n2).trans (bi _ _ ((k9 m n1).trans ((k8 m n1).trans (s7 _ _ (bd _ _ n1 n2 e)))))
  .rw[aQ,R,ba,S];rfl
  by_cases B:k<nm.length
  .rw[gH B] at h;exact an k c' x' h
  have cx:=(aG.mp h).1;rw[aL,bY] at cx;have ek:k=nm.length:=by lia
  rw[ek,kj (ak _),zW] at h;cases h;rw[ek,b0];exact hw
 rintro Z O ⟨L,o6,o7,nm,y,rfl,bd,a2,am,be,R,an⟩;rw[bM,bV] at R;have st:But p H O:=λm o nb e=>by
  have e3:H3 m=some o:=s3 _ _ (s2 _ _ ((k1 m nb).trans e));have e4:H4 m=some o:=sm _ _ nb (aq e b7) e3;exact bd _ _ nb (aq e4 a5) (s5 _ _ e4)
 have b3:=st _ _ bA hT;have b4:aw O vt ts:=Paired.imp' (λ_ _ ⟨m,D,I⟩=>⟨m,D,st _ _ (bO I hp (by simp)) I⟩) ht;have a4:∀c,Co ts c->c∈nm.map (·.1):=λc S=>by
  rw[R,M.mem_iff,bR.2];obtain⟨t,bl,hu⟩:=cy.mp S;exact gK.mpr ⟨t,bl,by simpa using hu⟩
 have b0:nm.length<=600:=by have:=congrArg List.length R;rw[ao] at this;lia
 have inj:∀a b,Co ts a->Co ts b->nmF nm a=nmF nm b->a=b:=λa b ha hb e=>by
  obtain⟨k,x,h1,_,h3⟩:=mq (a4 a ha);obtain⟨k',x',bm,_,cz⟩:=mq (a4 b hb);have ex:x=x':=by rw[<-h3,<-cz,e]
  subst ex;have ek:=Ey (an _ _ _ h1) (an _ _ _ bm);subst ek;rw[h1] at bm;exact (ju (cN bm)).1
 have cS:∀a,Co ts a->nmF nm a<10 ^ 60:=λa ha=>by
  obtain⟨k,x,h1,_,h3⟩:=mq (a4 a ha);have B:=(aG.mp h1).1;rw[h3];exact F6 (by lia) (an _ _ _ h1)
 refine⟨_,rfl,T0,rfl,⟨_,SqL.of b3⟩,λZ_ hZ=>dG (K:=[]) (a:=T0) (xs:=vt) (λi Z ys H'=>∃o,Z=[o,some (V.ref n)]/\aw H' ys ((ts.take i).map (nam (nmF nm)))/\Same O H'/\H' Z_=some (.lst ys)) ⟨none,rfl,.nil,bQ hZ,aP⟩ (λi Z ys H' _ ⟨_,_,_,e,_⟩=>SqL.of (e _ _ b3)) ?_ ?_⟩
 .rintro i x Z ys H' hi ⟨o,rfl,ap,ad,bn⟩;obtain⟨⟨a,b,c⟩,hs,t,rfl,hb⟩:=cw b4 hi;have hb:O t=some (.tup (nV [a,b,c])):=hb;have b5:=ad _ _ hb;have bl:=a8 hs;have cc:=(aG.mp hs).1;have dl:ys.length<=200:=by rw[aF ap,ao,bf];lia
  have c0:∀z∈[a,b,c],Co ts z:=λz hz=>by
   refine cy.mpr ⟨_,bl,?_⟩;simpa using hz
  refine⟨_,rfl,t,rfl,⟨_,SqT.of b5⟩,λY hY=>ll (K:=[]) (a:=t) (xs:=nV [a,b,c]) (λk Z au al=>∃o,Z=[o,some (V.ref n)]/\au=nV (([a,b,c].take k).map (nmF nm))/\Same H' al/\al Y=some (.lst au)) ⟨none,rfl,rfl,bQ hY,aP⟩ (by rintro k Z au al _ ⟨_,_,_,e,_⟩;exact SqT.of (e _ _ b5)) ?_ ?_⟩
  .rintro k x Z au al B ⟨o,rfl,rfl,sY,bt⟩;rw[nV,aY] at B;obtain⟨z,hz,rfl⟩:=bW.mp B;have b1:k<3:=(aG.mp hz).1;obtain⟨_,x',_,h2,h3⟩:=mq (a4 z (c0 z (a8 hz)));subst h3;refine⟨_,rfl,_,rfl,n,V.int (nmF nm z:Int),rfl,h2 ▸ DGet.k (k:=Sum.inl (z:Int)) (sY _ _ (ad _ _ be)),bt,?_,λHn kn yn=>⟨_,rfl,?_,λm o e=>(kn m (aq e hY)).trans (sY _ _ e),yn⟩⟩
   .rw[bM,ao,bf];have:([a,b,c]:List Nat).length=3:=rfl;lia
   rw[ba,hz,aQ,<-eS];rfl
  rintro Z au al ⟨o,rfl,rfl,sY,bt⟩;refine⟨Y,_,rfl,.inl ⟨SqL.of bt,λt' c1=>?_⟩⟩;walk_at"al t' c1 H9 s9 y9";have b6:=s9 _ _ (sY _ _ bn);have tn:∀{m:Addr}{xs:List V},H9 m=some (.tup xs)->m≠Z_:=λe=>bO e b6 (by simp);have et:(ts.take (i+1)).map (nam (nmF nm))=(ts.take i).map (nam (nmF nm))++[nam (nmF nm) (a,b,c)]:=by rw[ba,hs,aQ];rfl
  refine⟨b6,by lia,λbg bw a3=>⟨_,rfl,?_,λm o e=>?_,a3⟩⟩
  .rw[et];refine cJ (Paired.imp' (λ_ _ ⟨m,D,I⟩=>⟨m,D,by have e3:=s9 _ _ (sY _ _ I);exact (bw _ (tn e3)).trans e3⟩) ap) (.cons ⟨t',rfl,(bw _ (tn y9)).trans y9⟩ .nil)
  exact (bw _ (aq e hZ)).trans (s9 _ _ (sY _ _ (ad _ _ e)))
 rintro Z ys H' ⟨o,rfl,ap,ad,bn⟩;rw[aF b4,bV] at ap;have c2:H Z_=none:=by
  cases e:H Z_ with
  |none=>rfl
  |some o=>
   have c3:Z_≠p:=λz=>by rw[z,a2] at hZ;cases hZ
   rw[st _ _ c3 e] at hZ;cases hZ
 exact Qq Z_ ys _ y H' c2 (st.same ad) (ad _ _ a2) am bn ap (ao ..) (wj g inj) (λu hu=>by
  obtain⟨a,ha,rfl⟩:=yQ hu;exact cS a ha) λc4 c S=>by
  obtain⟨a,ha,rfl⟩:=yQ S;exact Fl g inj ha (c4 a ha)
end
structure UseM(P:Program)(w:World)(K:W.Frag)(mg:Str->Option Value)(base:Heap)(C:Addr)(n:Nat)(x:Str)(ps:List Str)(sp:Sp)(f:Addr)(fd:FuncData):Prop where
 g:aj P w K mg base CX0 n f fd ps sp
 b:Binds K fd ps []
 m:Meth K C x f
theorem ke{u:TT}{Q:Bool->Hp->Prop}(h:u Z H Q):jc (mJ u Z Q) true H:=aH (A:=Q true H) h
theorem kg{t u:TS}{D:Ends}(h:u D Z H):jc (mK t u D Z) true H:=aH (A:=t D Z H) h
theorem j6{t u:TS}{D:Ends}(h:t D Z H):jc (mK t u D Z) false H:=aT (B:=u D Z H) h
structure pQ(K:W.Frag):Prop where
 t:W.kitOne K (.type "tuple") (.type "tuple")=some true
 i:W.kitOne K (.type "int") (.type "int")=some true
 b:W.kitOne K (.type "int") (.type "bool")=some false
section
theorem EU:a7 ["thing"] ["thing"] (aC lO):=by walk_at"sc"
theorem Bs:a7 ["thing"] ["thing"] (aC kL):=by walk_at"sc"
end
section
theorem nW:a7 ["thing","a","b","c"] ["thing"] (aC kK):=by walk_at"sc"
end
def JZ(K:W.Frag)(H:Hp)(x:V):Prop:=∃ty,cD K H x ty/\(W.kitOne K ty (.type "int")=some false\/W.kitOne K ty (.type "int")=some true/\W.kitOne K ty (.type "bool")=some true)
def El(K:W.Frag)(H:Hp)(x:V):Option Int->Prop
 |some n=>x=.int n
 |none=>JZ K H x
def gq:List (Option Int)->Option Tri
 | [some a,some b,some c]=>if 0<=a/\0<=b/\0<=c/\a≠b/\b≠c/\c≠a then some (a.toNat,b.toNat,c.toNat) else none
 |_=>none
def Th(K:W.Frag)(H:Hp)(v:V)(o:Option Tri):Prop:=
 (o=none/\∃ty,cD K H v ty/\W.kitOne K ty (.type "tuple")=some false)\/∃a xs es,v=.ref a/\H a=some (.tup xs)/\Paired (El K H) xs es/\o=gq es
theorem cD.same{x:V}{ty:Value}(s:Same H H')(h:cD K H x ty):cD K H' x ty:=by
 cases h with
 |non=>exact .non
 |bl x=>exact .bl x
 |int i=>exact .int i
 |str x=>exact .str x
 |flt x=>exact .flt x
 |lst e=>exact .lst (s _ _ e)
 |frz e=>exact .frz (s _ _ e)
 |tup e=>exact .tup (s _ _ e)
 |dK e=>exact .dK (s _ _ e)
 |dT e=>exact .dT (s _ _ e)
 |ins e cl ha a b hm=>exact .ins (s _ _ e) cl ha a b hm
theorem El.same{x:V}{o:Option Int}(s:Same H H')(h:El K H x o):El K H' x o:=by
 cases o with
 |some n=>exact h
 |none=>obtain⟨ty,t,q⟩:=h;exact⟨ty,cD.same s t,q⟩
theorem Th.same{v:V}{o:Option Tri}(s:Same H H')(h:Th K H v o):Th K H' v o:=by
 rcases h with ⟨e,ty,t,q⟩|⟨a,xs,es,b,c,d,f⟩
 .exact .inl ⟨e,ty,cD.same s t,q⟩
 exact .inr ⟨a,xs,es,b,s _ _ c,Paired.imp' (λ_ _ q=>El.same s q) d,f⟩
abbrev mH(K:W.Frag)(H:Hp):List V->List (Option Tri)->Prop:=Paired (Th K H)
theorem qu{es:List (Option Int)}{t:Tri}(h:gq es=some t):es=[some (t.1:Int),some (t.2.1:Int),some (t.2.2:Int)]/\(t.1≠t.2.1/\t.2.1≠t.2.2/\t.2.2≠t.1):=by
 unfold gq at h
 split at h
 .split at h
  .rename_i a b c d;cases h;obtain⟨h1,h2,e,f,g,i⟩:=d;rw[show (((a.toNat,b.toNat,c.toNat):Tri).1:Int)=a from dW h1,show (((a.toNat,b.toNat,c.toNat):Tri).2.1:Int)=b from dW h2,show (((a.toNat,b.toNat,c.toNat):Tri).2.2:Int)=c from dW e];refine⟨rfl,?_,?_,?_⟩
   .show a.toNat≠b.toNat;lia
   .show b.toNat≠c.toNat;lia
   show c.toNat≠a.toNat;lia
  cases h
 cases h
theorem Th.tri{v:V}{t:Tri}(h:Th K H v (some t)):mX H v t/\(t.1≠t.2.1/\t.2.1≠t.2.2/\t.2.2≠t.1):=by
 rcases h with ⟨e,_⟩|⟨a,xs,es,rfl,c,d,f⟩
 .cases e
 obtain⟨rfl,ne⟩:=qu f.symm;cases d with
 |cons h1 g=>cases g with
  |cons h2 i=>cases i with
   |cons b j=>
    cases j;have h1:_=_:=h1;have h2:_=_:=h2;have b:_=_:=b;subst h1 h2 b;exact⟨⟨a,rfl,c⟩,ne⟩
def vL(K:W.Frag):Sp:=λvs H Q _=>∃x o,vs=[x]/\El K H x o/\Q (.bl o.isSome) H
def cnr:Option Int->Bool
 |some n=>decide (0<=n)
 |none=>false
def uv(K:W.Frag):Sp:=λvs H Q _=>∃x o,vs=[x]/\El K H x o/\Q (.bl (cnr o)) H
def nU(K:W.Frag):Sp:=λvs H Q _=>∃x o,vs=[x]/\Th K H x o/\Q (.bl o.isSome) H
theorem pB{u:TT}{Q:Bool->Hp->Prop}(h:Q true H):jc (mJ u Z Q) false H:=aT (B:=u Z H Q) h
theorem ze{u:TT}{Q:Bool->Hp->Prop}{b:Bool}(h1:b=false->Q true H)(h2:b=true->u Z H Q):jc (mJ u Z Q) b H:=by
 cases b with
 |true=>exact ke (h2 rfl)
 |false=>exact pB (h1 rfl)
theorem zf{t u:TS}{D:Ends}{b:Bool}(h1:b=false->t D Z H)(h2:b=true->u D Z H):jc (mK t u D Z) b H:=by
 cases b with
 |true=>exact kg (h2 rfl)
 |false=>exact j6 (h1 rfl)
section
theorem B6{f:Addr}(U:Fun K "is_whole" "is_whole" lO f fd)(T:cq mg)(F:pQ K):aj P w K mg base CX0 1 f fd ["thing"] (vL K):=by
 refine U.ok EU (by rintro _ _ _ _ ⟨_,_,rfl,_⟩;rfl) λd A outer s H vs Q E e h=>?_
 refine⟨_,ai (aN (jZ (bH (iS (c:="int")) (by rfl) T.isi eW (ae (pv 0) (pa1 (ig (v:=.ty "int") rfl T.int gQ rfl))))
  (ml (yk (bH (iS (c:="bool")) (by rfl) T.isi eW (ae (pv 0) (pa1 (ig (v:=.ty "bool") rfl T.bool K3 rfl)))))))),?_⟩
 obtain⟨x,o,rfl,h,q⟩:=h;cases o with
 |some n=>cases (show x=.int n from h);exact⟨_,rfl,_,_,true,rfl,.int n,F.i,true,rfl,aT ⟨_,rfl,_,_,false,rfl,.int n,F.b,false,rfl,q⟩⟩
 |none=>
  obtain⟨ty,a,h⟩:=h;rcases h with h|⟨h1,h2⟩
  .exact⟨_,rfl,_,_,false,rfl,a,h,false,rfl,aH q⟩
  exact⟨_,rfl,_,_,true,rfl,a,h1,true,rfl,aT ⟨_,rfl,_,_,true,rfl,a,h2,true,rfl,q⟩⟩
theorem A2{f a:Addr}{fd b:FuncData}(U:Fun K "is_corner" "is_corner" kL f fd)(G:Use P w K mg base 1 "is_whole" ["thing"] (vL K) a b) :
  aj P w K mg base CX0 2 f fd ["thing"] (uv K):=by
 refine U.ok Bs (by rintro _ _ _ _ ⟨_,_,rfl,_⟩;rfl) λd A outer s H vs Q E c h=>?_
 refine⟨_,ai (aN (jZ (uc G c (pa1 (pv 0))) (ml (eQ JG (pv 0) ah (nomark _))))),?_⟩;obtain⟨x,o,rfl,h,q⟩:=h;refine⟨_,rfl,x,o,rfl,h,?_⟩;cases o with
 |some n=>cases (show x=.int n from h);exact⟨true,rfl,aT ⟨_,rfl,_,_,rfl,rfl,q⟩⟩
 |none=>exact⟨false,rfl,aH q⟩
end
end K15
end
section
namespace K51
open PySem L2
theorem Bl(l:List Nat):(decide (0+(txt [48]).length<=(txt l).length)&&Builtin.Str.subAt (txt l) (txt [48]) 0)=(l.head?==some 48):=by
 unfold Builtin.Str.subAt;rw[bE,bE];cases l with
 |nil=>simp
 |cons c r=>
  have e:(txt (c::r)).cps.extract 0 (0 + [48].length)=#[c]:=by show (c::r).toArray.extract 0 1=#[c];simp
  rw[e];simp[txt]
theorem xx{l:List Nat}(h:fig l=true):NumText.AllDigits l:=λc a=>oN.mp (jQ h c a)
theorem yH{l:List Nat}(h:fig l=true):l≠[]:=λe=>by subst e;simp[fig] at h
end K51
namespace K15
open PySem L2 K51 K31
theorem line99k:100000<=sizeLine:=by rw[dg];decide
theorem s_b:(Str.ofString " ")=txt [32]:=by decide +kernel
theorem sP:(Str.ofString "; ")=txt [59,32]:=by decide +kernel
theorem vI{l m:List Nat}(h:asc l)(i:m <:+: l):asc m:=λc a=>h c (i.subset a)
def xZ:Sp:=λvs H Q _=>∃l,vs=[.str (txt l)]/\asc l/\Q (.bl (fig l)) H
structure Rdb(l:List Nat):Prop where
 a:asc l
 r:Runs 155 l
 n:l.length<=90000
theorem Rdb.infix{l m:List Nat}(h:Rdb l)(i:m <:+: l):Rdb m:=⟨vI h.a i,h.r.infix i,br i.length_le h.n⟩
def wR(C:Addr):Sp:=λvs H Q E=>∃l,vs=[.str (txt l)]/\Rdb l/\(∀t x H',rdP l=some t->Same H H'->H' x=some (.tup [.int (t.1:Int),.int (t.2.1:Int),.int (t.2.2:Int)])->Q (.ref x) H')/\(rdP l=none->∀H',Same H H'->E (.ref C) none H')
section
theorem Jl:a7 ["text"] ["text"] (aC kG):=by walk_at"sc"
theorem Fu{f:Addr}(U:Fun K "is_figures" "is_figures" kG f fd):aj P w K mg base CX0 1 f fd ["text"] xZ:=by
 refine U.ok Jl (by rintro _ _ _ _ ⟨_,rfl,_⟩;rfl) λb A outer s H vs Q E c h=>?_
 obtain⟨l,rfl,ha,q⟩:=h;refine⟨_,af (bo (PW.pt (fm (eJ (dq (yp F.plainAttrs_str F.slot_str_isascii F.type_str_isascii BB (pv 0)))) (iq (eJ (dq (yp F.plainAttrs_str F.slot_str_isdigit F.type_str_isdigit BA (pv 0))))))) (ai (aN cB)) bj)
  (ai (aN (JF (eQ eA (pv 0) bB (nomark _)) (ml (yk (cA F.plainAttrs_str F.slot_str_startswith F.type_str_startswith AN (pv 0) (pa1 bB))))))),?_⟩
 refine⟨_,rfl,rfl,_,rfl,rfl,_,rfl,?_⟩;rw[CP ha];refine ke ?_;refine⟨_,rfl,rfl,_,rfl,rfl,_,rfl,?_⟩;rw[Cp ha];unfold fig at q;cases e:(!l.isEmpty&&l.all dig) with
 |false=>rw[e,eM] at q;exact j6 q
 |true=>
  rw[e,Kc] at q;refine kg ?_;refine⟨_,rfl,rfl,_,rfl,?_⟩;rw[show (Str.ofString "0")=txt [48] from s48,jR];cases a:(l==[48]) with
  |true=>rw[a,Kd] at q;exact aT q
  |false=>
   rw[a,sX] at q;refine aH ?_;refine⟨_,rfl,rfl,_,_,rfl,rfl,_,rfl,?_⟩;rw[Bl];exact q
theorem kd:a7 ["part","figures","each","a","b","c"] ["part"] (aC kD):=by walk_at"sc"
theorem DL{f O C:Addr}{fd R:FuncData}(U:Fun K "read_triple" "read_triple" kD f fd)(T:cq mg)(S:Use P w K mg base 1 "is_figures" ["text"] xZ O R)(v:mg "NoText" = some (.ref C))(x:W.excIn K C bmV "ValueError.__new__" = true):aj P w K mg base (CX1 P w) 2 f fd ["part"] (wR C):=by
 refine U.ok1 kd (λvs H Q E h=>?_) (λNJ A outer s H vs Q E X h=>?_)
 .obtain⟨t,rfl,_⟩:=h;rfl
 obtain⟨l,rfl,m,Y,B⟩:=h;have ab:=line99k;have hn:=m.n;have hlen:(spl [32] l).length<=90001:=br (C4 (by simp)) (by lia);refine⟨_,(af (sx 1 kd.nd (cA nI t4 t6 n8 (pv 0) (pa1 bB)))
  (af (bo (a6 fq (pln T.len (pv 1)) ah (nomark _)) (ai (oq lets1 rfl rfl rfl v x (pa1 bB))) bj)
  (af (b_ qa rfl (bI (pv 1)) (gx 2 kd.nd)
   (ai (bo (eJ (dq (uc S X (pa1 (pv 2))))) (ai (oq lets1 rfl rfl rfl v x (pa1 bB))) bj)))
  (af (gk (pv 1) (Ho rfl (aX (gx 3 kd.nd) (aX (gx 4 kd.nd) (aX (gx 5 kd.nd) cR)))))
  (ai (aN (aO (ae (cP nS (by rfl) T.int gQ (pa1 (pv 3))) (ae (cP nS (by rfl) T.int gQ (pa1 (pv 4))) (pa1 (cP nS (by rfl) T.int gQ (pa1 (pv 5))))))))))))),?_⟩
 refine⟨_,rfl,rfl,[32],l,rfl,by rw[s_b],by simp,by lia,λp hp=>?_⟩;walk_at"H p hp H1 s1 g";refine⟨_,rfl,p,_,rfl,.inl (SqL.of g),rfl,_,rfl,?_⟩;rw[ao];by_cases q:(spl [32] l).length=3
 .rw[q];refine aH ?_;refine⟨_,rfl,p,rfl,⟨_,SqL.of g⟩,dh (K:=[]) (a:=p) (xs:=(spl [32] l).map λz=>V.str (txt z)) (λi Z H'=>(∃o,Z=[some (.str (txt l)),some (.ref p),o,none,none,none])/\H'=H1/\∀z∈(spl [32] l).take i,fig z=true) ⟨⟨none,rfl⟩,rfl,by simp⟩ (by rintro i Z H' _ ⟨_,rfl,_⟩;exact SqL.of g) ?_ ?_⟩
  .rintro i y Z H' hi ⟨⟨o,rfl⟩,rfl,d⟩;rw[aY] at hi;obtain⟨z,D,rfl⟩:=bW.mp hi;have hm:=a8 D;refine⟨_,rfl,z,rfl,vI m.a (hJ hm),_,rfl,zf (λe=>?_) λe=>?_⟩
   .exact⟨lit1,B (lH (.inr ⟨z,hm,e⟩)) H' s1⟩
   refine⟨⟨_,rfl⟩,rfl,λI L=>?_⟩;rw[ba,D] at L;rcases aW.mp L with h|h
   .exact d I h
   rw[show I=z by simpa using h];exact e
  rintro Z H' ⟨⟨o,rfl⟩,rfl,d⟩;rw[ao,bV] at d
  match j:spl [32] l,q with
  | [a,b,c],_=>
   rw[j] at g d;have ha:=d a (by simp);have M:=d b (by simp);have N:=d c (by simp);have u:∀z∈spl [32] l,fig z=true->NumText.AllDigits z/\z≠[]/\z.length<=640:=λz d hf=>⟨xx hf,yH hf,br (m.r z (hJ d) (jQ hf)) (by decide)⟩;obtain⟨a1,a2,a3⟩:=u a (by rw[j];simp) ha;obtain⟨b1,b2,b3⟩:=u b (by rw[j];simp) M;obtain⟨c1,c2,c3⟩:=u c (by rw[j];simp) N;refine⟨_,rfl,p,_,rfl,SqL.of g,rfl,_,_,rfl,_,_,rfl,_,_,rfl,rfl,?_⟩;refine⟨_,rfl,_,rfl,a1,a2,a3,_,rfl,_,rfl,b1,b2,b3,_,rfl,_,rfl,c1,c2,c3,lit3,λt H2 ht s2 y2=>?_⟩;exact Y (val a,val b,val c) t H2 (by unfold rdP;rw[j];simp[rdW,ha,M,N]) (s1.trans s2) y2
 have:(!decide (V.int ((spl [32] l).length:Int)=V.int 3))=true:=by rw[jf,NG (by lia)];rfl
 rw[this];exact aT ⟨lit1,B (lH (.inl q)) H1 s1⟩
end
theorem vW{α β:Type}{R:α->β->Prop}{xs:List α}{ys:List β}(h:Paired R xs ys)(l:xs.length=3):∃a b c x y z,xs=[a,b,c]/\ys=[x,y,z]/\R a x/\R b y/\R c z:=by
 cases h with
 |nil=>cases l
 |cons h1 d=>cases d with
  |nil=>cases l
  |cons h2 e=>cases e with
   |nil=>cases l
   |cons f g=>cases g with
    |nil=>exact⟨_,_,_,_,_,_,rfl,rfl,h1,h2,f⟩
    |cons _ _=>simp at l
theorem uX{es:List (Option Int)}(h:es.length≠3):gq es=none:=by
 unfold gq
 split
 .exact absurd rfl h
 rfl
theorem wI(x y z:Option Int):(gq [x,y,z]).isSome=(cnr x&&cnr y&&cnr z&&(!decide (x=y)&&(!decide (y=z)&&!decide (z=x)))):=by
 cases x with
 |none=>rfl
 |some a=>cases y with
  |none=>simp[gq,cnr]
  |some b=>cases z with
   |none=>simp[gq,cnr]
   |some c=>
    show (if _ then _ else _:Option Tri).isSome=(decide (0<=a)&&decide (0<=b)&&decide (0<=c)&&_);by_cases h:0<=a/\0<=b/\0<=c/\a≠b/\b≠c/\c≠a
    .rw[ND h];obtain⟨h1,h2,d,e,f,g⟩:=h;simp[h1,h2,d,e,f,g]
    rw[NC h];symm;show _=false;rw[iE];intro z;simp at z;exact h (by obtain⟨⟨⟨i,j⟩,l⟩,m,n,o⟩:=z;exact⟨i,j,l,m,n,o⟩)
section
theorem A1{f L:Addr}{fd M:FuncData}(U:Fun K "is_triple" "is_triple" kK f fd)(T:cq mg)(F:pQ K)(G:Use P w K mg base 2 "is_corner" ["thing"] (uv K) L M) :
  aj P w K mg base CX0 3 f fd ["thing"] (nU K):=by
 refine U.ok nW (by rintro _ _ _ _ ⟨_,_,rfl,_⟩;rfl) λO A outer s H vs Q E g h=>?_
 obtain⟨x,o,rfl,h,q⟩:=h;refine⟨_,af (bo (PW.pt (fm (eJ (dq (bH (iS (c:="tuple")) (by rfl) T.isi eW (ae (pv 0) (pa1 (ig (v:=.ty "tuple") rfl T.tuple jv rfl))))))
    (iq (a6 fq (pln T.len (pv 0)) ah (nomark _))))) (ai (aN cB)) bj)
  (af (gk (pv 0) (cX rfl (aX (gx 1 nW.nd) (aX (gx 2 nW.nd) (aX (gx 3 nW.nd) cR)))))
  (af (bo (PW.pt (fm (eJ (dq (uc G g (pa1 (pv 1))))) (fm (eJ (dq (uc G g (pa1 (pv 2))))) (iq (eJ (dq (uc G g (pa1 (pv 3))))))))) (ai (aN cB)) bj)
  (ai (aN (jZ (eQ fq (pv 1) (pv 2) (nomark _)) (jZ (eQ fq (pv 2) (pv 3) (nomark _)) (ml (eQ fq (pv 3) (pv 1) (nomark _))))))))),?_⟩
 rcases h with ⟨rfl,ty,d,N⟩|⟨t,xs,es,rfl,d,u,rfl⟩
 .exact⟨_,rfl,_,_,false,rfl,d,N,_,rfl,pB q⟩
 refine⟨_,rfl,_,_,true,rfl,.tup d,F.t,_,rfl,ke ?_⟩;refine⟨_,rfl,t,_,rfl,.inr (SqT.of d),rfl,_,rfl,?_⟩;refine Kf (p:=xs.length=3) (λi=>?_) λi=>?_
 .obtain⟨a,b,c,x,y,z,rfl,rfl,h1,h2,B⟩:=vW u i;refine aH ⟨_,rfl,t,_,rfl,SqT.of d,rfl,_,_,rfl,_,_,rfl,_,_,rfl,rfl,?_⟩;rw[wI] at q;refine⟨_,rfl,a,x,rfl,h1,_,rfl,ze (λe=>?_) λC=>⟨_,rfl,b,y,rfl,h2,_,rfl,ze (λe=>?_) λD=>⟨_,rfl,c,z,rfl,B,_,rfl,zf (λe=>?_) λI=>?_⟩⟩⟩
  .rw[e,eM,eM,eM] at q;exact q
  .rw[e,pS,eM,eM] at q;exact q
  .rw[e,pS,eM] at q;exact q
  rw[C,D,I] at q;cases x with
  |none=>cases C
  |some j=>cases y with
   |none=>cases D
   |some l=>cases z with
    |none=>cases I
    |some m=>
     cases (show a=.int j from h1);cases (show b=.int l from h2);cases (show c=.int m from B);have e:∀a b:Int,(!decide ((some a:Option Int)=some b))=!decide (V.int a=V.int b):=λa b=>by simp
     rw[e,e,e] at q;have q:Q (V.bl (!decide (V.int j=V.int l)&&(!decide (V.int l=V.int m)&&!decide (V.int m=V.int j)))) H:=q;refine⟨_,rfl,_,rfl,rfl,_,rfl,ite2 (λn=>?_) λn=>?_⟩
     .rw[n] at q;refine⟨_,rfl,_,rfl,rfl,_,rfl,ite2 (λr=>?_) λr=>?_⟩
      .rw[r] at q;exact⟨_,rfl,_,rfl,rfl,q⟩
      rw[iE.mpr r] at q;exact q
     rw[iE.mpr n] at q;exact q
 show if (!decide (V.int (xs.length:Int)=V.int 3))=true then _ else _
 rw[jf,NG (by lia)];rw[uX (by rw[<-aF u];exact i)] at q;exact aT q
end
theorem qK:bootBuiltins "min" = some (.builtin "min"):=by decide +kernel
def Bg(t u:Tri):Prop:=(u=t\/u=(t.2.1,t.2.2,t.1)\/u=(t.2.2,t.1,t.2.1))/\u.1<=u.2.1/\u.1<=u.2.2
def kyT(u:Tri):List Int:=[(u.1:Int),(u.2.1:Int),(u.2.2:Int)]
theorem qL{us:List Tri}(h:aw H vs us):Tups K H vs (us.map kyT):=by
 induction h with
 |nil=>exact .nil
 |cons q _ b=>
  obtain⟨a,rfl,ha⟩:=q;exact .cons ⟨a,rfl,SqT.of ha,by simp[kyT]⟩ b
theorem qM{ks:List V}{ss:List Tri}(h:aw H ks ss):∀ix:List Nat,(∀i∈ix,i<ks.length)->aw H (ix.map λi=>ks.getD i .non) (ix.map λi=>ss.getD i (0,0,0))
 | [],_=>.nil
 |i::ix,hi=>by
  have a:=hi i (by simp);have h1:ks[i]?=some ks[i]:=bX a;obtain⟨y,b,hf⟩:=cw h h1;refine .cons ?_ (qM h ix λj c=>hi j (bZ _ c));simp only[List.getD,h1,b,zY];exact hf
theorem uI{ss:List Tri}{ix:List Nat}(h:ix.Perm (List.range ss.length)):(ix.map λi=>ss.getD i (0,0,0)).Perm ss:=by
 have:=h.map λi=>ss.getD i (0,0,0);refine this.trans (tj ?_);refine tG λi=>?_;rw[aY];by_cases hi:i<ss.length
 .rw[KB hi];simp[List.getD,bX hi]
 rw[tI (by simpa using hi),tI (by lia)];rfl
def Df(vs:List V)(H:Hp)(Q:VK)(t:Addr)(x:Tri):Prop:=vs=[.ref t]/\H t=some (.tup [.int (x.1:Int),.int (x.2.1:Int),.int (x.2.2:Int)])/\
 ∀r u H',Same H H'->H' r=some (.tup [.int (u.1:Int),.int (u.2.1:Int),.int (u.2.2:Int)])->Bg x u->Q (.ref r) H'
def w4:Sp:=λvs H Q _=>Exists (Ex2 (Df vs H Q))
theorem jI{a b:Int}{xs ys:List Int}(h:HT.lexLt (b::ys) (a::xs)=false):a<=b:=by
 unfold HT.lexLt at h
 split at h
 .lia
 have:=of_decide_eq_false h;lia
section
theorem oG:a7 ["triple","a","b","c"] ["triple"] (aC mh):=by walk_at"sc"
theorem DV{f:Addr}(U:Fun K "begun_least" "begun_least" mh f fd)(mN:mg "min" = none):aj P w K mg base CX0 1 f fd ["triple"] w4:=by
 refine U.ok oG (by rintro _ _ _ _ ⟨_,_,rfl,_⟩;rfl) λR A outer s H vs Q E I h=>?_
 obtain⟨t,⟨a,b,c⟩,rfl,j,q⟩:=h;have j:H t=some (.tup [.int (a:Int),.int (b:Int),.int (c:Int)]):=j;refine⟨_,af (gk (pv 0) (cX rfl (aX (gx 1 oG.nd) (aX (gx 2 oG.nd) (aX (gx 3 oG.nd) cR)))))
  (ai (aN (bH (AR rfl I.units) (by rfl) mN qK (pa1 (bF (ae (aO (ae (pv 1) (ae (pv 2) (pa1 (pv 3))))) (ae (aO (ae (pv 2) (ae (pv 3) (pa1 (pv 1))))) (pa1 (aO (ae (pv 3) (ae (pv 1) (pa1 (pv 2))))))))))))),?_⟩
 refine⟨_,rfl,t,_,rfl,SqT.of j,rfl,_,_,rfl,_,_,rfl,_,_,rfl,rfl,?_⟩;refine⟨_,rfl,_,rfl,_,rfl,lit3,λm H1 S s1 L=>?_⟩;refine⟨_,rfl,_,rfl,_,rfl,lit3,λn H2 T s2 M=>?_⟩;refine⟨_,rfl,_,rfl,_,rfl,lit3,λo X Y p N=>?_⟩;refine⟨lit3,λl e Z g O=>?_⟩;have v:=((s2.trans p).trans g) _ _ L;have x:=(p.trans g) _ _ M;have z:=g _ _ N;have r:=((s1.trans s2).trans p).trans g;have tr:aw e [V.ref m,.ref n,.ref o] [(a,b,c),(b,c,a),(c,a,b)]:=.cons ⟨m,rfl,v⟩ (.cons ⟨n,rfl,x⟩ (.cons ⟨o,rfl,z⟩ .nil));refine⟨l,_,_,rfl,SqL.of O,qL tr,by simp,λi y d u=>?_⟩;have B:=u 0 (by simp);have C:=u 1 (by simp);have D:=u 2 (by simp)
 match i,d with
 |0,d=>
  cases d;have h1:(a:Int)<=b:=jI C;have h2:(a:Int)<=c:=jI D;exact q m (a,b,c) e r v ⟨.inl rfl,by show a<=b;lia,by show a<=c;lia⟩
 |1,d=>
  cases d;have h1:(b:Int)<=a:=jI B;have h2:(b:Int)<=c:=jI D;exact q n (b,c,a) e r x ⟨.inr (.inl rfl),by show b<=c;lia,by show b<=a;lia⟩
 |2,d=>
  cases d;have h1:(c:Int)<=a:=jI B;have h2:(c:Int)<=b:=jI C;exact q o (c,a,b) e r z ⟨.inr (.inr rfl),by show c<=a;lia,by show c<=b;lia⟩
 |i+3,d=>simp at d
end
end K15
end
section
namespace L2
open PySem PySem.Spec PyProof.Rows
section
def tDM0(r:V->List V->Hp->VK->Prop)(to:TE):TE:=λZ H Q=>to Z H λx H1=>(∃a,x=.ref a/\IsD H1 a)/\r x [] H1 Q
theorem yo{o:Expr}{to:TE}{name:Str}{apos cpos:Pos}{id:String}{r:V->List V->Hp->VK->Prop}(slot:Slot "dict" name id)(c:typeOf (.builtin id)=pure (.type "method_descriptor"))(hm:MtM X id r)(d:PE X o to)
  (e:attributeBase o name X.env (eval o X.env)=eval o X.env:=by rfl) (f:(apos.endLine==cpos.line)=true:=by rfl):PE X (.Call (.Attribute o name apos) [] [] cpos) (tDM0 r to):=by
 intro NI s Z H Q I h;refine LX e f (thn (d NI s Z H _ I h) λv s1 ⟨x,H1,b,g,⟨a,ex,hd⟩,i⟩=>?_);subst ex;obtain rfl:v=Value.ref a:=g;obtain⟨j,l,_⟩:=r9 b hd;exact⟨"dict",id,tY,slot,c,j,l,kh rfl (Ly (hm NI s1 Z H1 (.ref a) [] (.ref a) [] Q b rfl .nil i))⟩
end
section
open PySem.W in
def E4(K:W.Frag):List V->Hp->VK->Prop:=λxs H Q=>∃(a:Addr)(u:HO),xs=[.ref a]/\Rd H a u/\dS u/\∀ks vs,DKV H u ks vs->
 (∃ns:List Int,ks=ns.map V.int/\ns.length<5000/\∀(p:Addr)(ms:List Int),H p=none->ms.Perm ns->ms.Pairwise (·<=·)->Q (.ref p) (upd H p (.lst (ms.map V.int)))) \/
 ∃c:List (List Int),Tups K H ks c/\ks.length<5000/\∀(p:Addr)(ix:List Nat),H p=none->ix.Perm (List.range ks.length)->(ix.map λi=>c.getD i []).Pairwise (λa b=>HT.lexLt b a=false)->Q (.ref p) (upd H p (.lst (ix.map λi=>ks.getD i .non)))
open PySem.W in
theorem AB(n:X.calm=true):cu X (.builtin "sorted") (E4 []):=by
 intro NI s Z H xs us Q I r h;obtain⟨a,O,rfl,hd,p,k⟩:=h;obtain⟨u,rfl,q⟩:=Vals.one r;cases q;obtain⟨lo,ks,vs,es,ep,w,d,x,f,P⟩:=mw I hd p;obtain⟨m,F⟩:=I.fr;have y:ks.length=es.size:=by have:=f.length;simpa using this
 refine kdu_sorted (dSrc (es:=es) (ep:=ep) lo) (I.ok.hd n) F (qR (g:=X.base) (L:=X.env.locals)) x (by rw[<-y];exact d) λD h' tk b A i B C E=>?_;obtain⟨k1,k2⟩:=I.newsKept (t':=s.toks) (more:=[(D,listOf b.toArray 0)]) F A i;have c:=i (D,listOf b.toArray 0) (.head _);have l:s.heap.get? D=none:=by
  cases e:s.heap.get? D with
  |none=>rfl
  |some o=>exact absurd (B (D,o) (qp c.2.1 c.2.2 e)) (de _)
 have ev:b=es.toList.map (·.key):=by refine uJ (by rw[C];simp) λj v e=>?_;obtain⟨K,rfl⟩:=E j v e;rw[aY];simp[K]
 have M:Inv X NI Z (upd H D (.lst ks)) {s with heap:=h',toks:=tk}:=I.laidN (t':=tk) k1 k2 l (λH'=>⟨d,b,0,by rw[ev];exact f,c.1⟩) (λ_ _ z=>by cases z);have z:=uy (X:=pJ X) NI _ Z _ (.ref D) [] (.ref D) [] (λ_ H'=>Q (.ref D) H') M.toIn1 rfl .nil (vP (I.hok.none_of l) (k ks vs w));exact thn z λ_ s' ⟨_,H',J,_,N⟩=>⟨.ref D,H',J.ofIn1,rfl,N⟩
end
def Sm(H H':Hp):Prop:=∀b o,H b=some o->H' b=some o\/(dS o/\∃a,H' b=some (.frz a o))
theorem Sm.refl(H:Hp):Sm H H:=λ_ _ e=>.inl e
theorem Sm.of(s:Same H H'):Sm H H':=λb o e=>.inl (s b o e)
theorem Sm.trans{H H1 H2:Hp}(a:Sm H H1)(b:Sm H1 H2):Sm H H2:=λc o e=>by
 rcases a c o e with d|⟨hd,f,d⟩
 .exact b c o d
 rcases b c _ d with g|⟨h,_⟩
 .exact .inr ⟨hd,f,g⟩
 exact False.elim h
theorem Sm.free(s:Sm H H'){l:Addr}(h:H' l=none):H l=none:=by
 cases q:H l with
 |none=>rfl
 |some o=>rcases s l o q with e|⟨_,_,e⟩<;>(rw[h] at e;cases e)
theorem Sm.keep(s:Sm H H'){b:Addr}{o:HO}(e:H b=some o)(a:¬dS o):H' b=some o:=(s b o e).elim id λz=>(a z.1).elim
theorem Sm.rd(s:Sm H H'){b:Addr}{o:HO}(e:Rd H b o):Rd H' b o:=by
 rcases e with e|⟨a,e⟩
 .rcases s b o e with z|⟨_,a,z⟩
  .exact .inl z
  exact .inr ⟨a,z⟩
 exact .inr ⟨a,s.keep e (λz=>z)⟩
theorem Fz.sm{H H2:Hp}{d:Addr}{o:Obj}{u:HO}(f:Fz H H2 d o u):Sm H H2:=λb w e=>by
 by_cases a:b=d
 .subst a;rcases f.1 with z|z
  .rw[z] at e;cases e;exact .inr ⟨f.2.1,o,f.at⟩
  rw[z] at e;cases e;exact .inl f.at
 exact .inl ((f.ne a).trans e)
section
variable {d D:Addr}{o:Obj}{u:HO}{ks vs:List V}{g:TG}{tt:TT}{te:TE}{Z':St}{H1:Hp}{Q:Hp->Prop}
theorem CJ(Pv:Nat->St->List V->Hp->Prop)(b:Pv 0 Z' [] (upd H1 D (.lst [])))(c:∀i Z ys H,i<=ks.length->Pv i Z ys H->H d=some (.frz o u))
  (f:∀i x Z ys H,ks[i]?=some x->Pv i Z ys H->g x Z H (mO tt te D ys (Pv (i+1))))
  (hd:∀Z ys H,Pv ks.length Z ys H->Q H):ik (Itk d o ks) g tt te D Z' H1 Q:=by
 refine⟨λi m Z ys H=>m=ks.length-i/\i<=ks.length/\Pv i Z ys H,⟨ks.length,by simp,aJ _,b⟩,?_⟩;rintro i m Z ys H ⟨rfl,hi,p⟩;have q:=c i Z ys H hi p;by_cases a:i<ks.length
 .refine .inr ⟨⟨a,u,q⟩,Pv (i+1),λZ' j H' h=>⟨ks.length-(i+1),by lia,rfl,a,h⟩,λx H' y=>?_⟩;obtain⟨e,y⟩:=y;subst e;exact f i x Z ys _ y p
 have e:i=ks.length:=by lia
 subst e;exact .inl ⟨⟨ak _,u,q⟩,hd Z ys H p⟩
theorem Cy{tb:TS}{D:Ends}(Pv:Nat->St->Hp->Prop)(f:Pv 0 Z H)(h:∀i Z H,i<=ks.length->Pv i Z H->H d=some (.frz o u))
  (j:∀i x y p Z H,ks[i]?=some x->vs[i]?=some y->Pv i Z H->H p=none->g (.ref p) Z (upd H p (.tup [x,y])) λσ2 H2=>tb {D with nx:=Pv (i+1),ct:=Pv (i+1),bk:=D.nx} σ2 H2) (hd:∀Z H,Pv ks.length Z H->D.nx Z H) :
  ∃W:Nat->Nat->St->Hp->Prop,(∃m,W 0 m Z H)/\∀i m Z H,W i m Z H->
   ((Iti d o ks vs).stop i H/\D.nx Z H)\/((Iti d o ks vs).go i H/\∃N:St->Hp->Prop,(∀Z' H',N Z' H'->∃a,a<m/\W (i+1) a Z' H')/\∀x H',(Iti d o ks vs).yld i H x H'->g x Z H' λσ2 H2=>tb {D with nx:=N,ct:=N,bk:=D.nx} σ2 H2):=by
 refine⟨λi m Z H=>m=ks.length-i/\i<=ks.length/\Pv i Z H,⟨ks.length,by simp,aJ _,f⟩,?_⟩;rintro i m Z H ⟨rfl,hi,p⟩;have q:=h i Z H hi p;by_cases c:i<ks.length
 .refine .inr ⟨⟨c,u,q⟩,Pv (i+1),λZ' H' l=>⟨ks.length-(i+1),by lia,rfl,c,l⟩,λx H' y=>?_⟩;obtain⟨b,k,v,n,rfl,rfl,r,s⟩:=y;exact j i k v b Z H r s p n
 have e:i=ks.length:=by lia
 subst e;exact .inl ⟨⟨ak _,u,q⟩,hd Z H p⟩
end
end L2
end
section
namespace K15
open PySem L2 K51 K31
def Dc(vs:List V)(H:Hp)(Q:VK)(d:Addr)(l:List (Nat×Nat)):Prop:=vs=[.ref d]/\Rd H d (.dK (l.map nmV))/\l≠[]/\l.length<=1000/\
 ∀(s:Nat) H',Sm H H'->s∈l.map (·.1)->((∀o,(o,s)∉l)\/∀p,p∈l.map (·.1)->∃o,(o,p)∈l)->Q (.int (s:Int)) H'
def wZ:Sp:=λvs H Q _=>Exists (Ex2 (Dc vs H Q))
theorem xq(l:List (Nat×Nat)):(l.map nmV).map (λp=>kV p.1)=nV (l.map (·.1)):=by rw[bU];unfold nV;rw[bU];rfl
theorem Fx(l:List (Nat×Nat)):(l.map nmV).map (·.2)=nV (l.map (·.2)):=by rw[bU];unfold nV;rw[bU];rfl
section
theorem rB:a7 ["onward","reached","begins"] ["onward"] (aC l7):=by walk_at"sc"
theorem DS{f:Addr}(U:Fun K "first_of" "first_of" l7 f fd)(T:cq mg)(mN:mg "min" = none):aj P w K mg base CX0 1 f fd ["onward"] wZ:=by
 refine U.ok rB (by rintro _ _ _ _ ⟨_,_,rfl,_⟩;rfl) λNJ A outer s H vs Q E hr h=>?_
 obtain⟨d,l,rfl,hd,ad,hl,q⟩:=h;refine⟨_,af (sx 1 rB.nd (cP (AJ rfl) (by rfl) T.list z7 (pa1 (yo Lj PySem.F.type_dict_values Cf (pv 0)))))
  (af (oI (i:=2) (N:=["p","reached"]) (fr:=[none,some 1]) (tt:=si (tOp (rIn [] true) (ck 0) (ck 1))) (ef (by decide +kernel) rfl rfl (by decide +kernel) (by decide +kernel) (by walk_at"cs") (by walk_at"ct")) rfl (Fe (pv 0))
    (λC' s' H' fp NI=>⟨gx 0 (by decide:(["p","reached"]:List Str).Nodup),jO (a6 kC (pv 0) (pv 1) rfl),pv 0⟩) rB.nd rfl (.inl rfl))
  (ai (aN (DA (Dw (pv 2) (λ_=>rfl)) (ixx cI (pv 2) ah) (bH (AS rfl) (by rfl) mN qK (pa1 (pv 0))))))),?_⟩
 have ap:=line5000;refine⟨_,rfl,⟨d,rfl,.inl ⟨_,hd⟩⟩,d,_,rfl,rfl,hd,λv hv=>?_⟩;walk_at"H v hv H1 s1 y1";have O:=(Sm.of s1).rd hd;refine⟨v,d,_,rfl,y1,O,λr al=>?_⟩;walk_at"H1 r al H2 s2 R";have am:=(Sm.of s2).rd O;rw[Fx] at R;refine⟨_,rfl,d,_,rfl,am,True.intro,λks vs o S hk g=>?_⟩;have ek:ks=nV (l.map (·.1)):=by
  rcases hk with ⟨kvs,e,e1,_⟩|⟨kvs,as,e,_⟩
  .cases e;rw[e1,xq]
  cases e
 subst ek;have y3:S r=some (.lst (nV (l.map (·.2)))):=g.sm.keep R (λz=>z);refine λZ_ X=>CJ (d:=d) (o:=o) (u:=.dK (l.map nmV)) (ks:=nV (l.map (·.1))) (λi Z ys H'=>∃o,Z=[o,some (.ref r)]/\ys=nV (((l.map (·.1)).take i).filter λp=>decide (p∉l.map (·.2)))/\Same S H'/\H' Z_=some (.lst ys)) ⟨none,rfl,rfl,bQ X,aP⟩ (by rintro i Z ys H' _ ⟨_,_,_,e,_⟩;exact e _ _ g.at) ?_ ?_
 .rintro i y Z ys H' hi ⟨o,rfl,rfl,c,Y⟩;rw[nV,aY] at hi;obtain⟨n,D,rfl⟩:=bW.mp hi;have et:(l.map (·.1)).take (i+1)=(l.map (·.1)).take i++[n]:=by rw[ba,D];rfl
  refine⟨_,rfl,_,rfl,r,_,rfl,.inl (SqL.of (c _ _ y3)),rfl,i5 _,_,rfl,?_⟩;show if (if true=true then !inV (V.int (n:Int)) (nV (l.map (·.2))) else _)=true then _ else _
  rw[ND rfl,iu];by_cases B:n∈l.map (·.2)
  .rw[NF B];refine aH ⟨_,rfl,?_,c,Y⟩;rw[et,ki,eN,NC (by simpa using B),nq,fM]
  rw[NG B];refine aT ⟨_,rfl,Y,?_,λHn kn yn=>⟨_,rfl,?_,λb o e=>(kn b (aq e X)).trans (c _ _ e),yn⟩⟩
  .rw[bM];have h1:=jo (λp=>decide (p∉l.map (·.2))) ((l.map (·.1)).take i);rw[bf,ao] at h1;lia
  rw[et,ki,eN,ND (by simpa using B),nq,<-eS];rfl
 rintro Z ys I ⟨o',rfl,rfl,c,C⟩;rw[bM,bV] at C;have ab:Sm H I:=((Sm.of (s1.trans s2)).trans g.sm).trans (Sm.of c);have L:∀x,x∈((l.map (·.1)).filter λp=>decide (p∉l.map (·.2)))↔x∈l.map (·.1)/\x∉l.map (·.2):=λx=>by rw[gJ,decide_eq_true_eq]
 have an:∀x,x∉l.map (·.2)->∀o,(o,x)∉l:=λx hx o M=>hx (ay.mpr ⟨_,M,rfl⟩);generalize ((l.map (·.1)).filter λp=>decide (p∉l.map (·.2)))=bs at L C;refine⟨_,rfl,_,.inl ⟨_,SqL.of C,rfl⟩,?_⟩;cases bs with
 |cons b bs=>
  refine aT ⟨_,rfl,Z_,_,_,_,rfl,rfl,SqL.of C,c9 (j:=0) rfl,?_⟩;obtain⟨h1,h2⟩:=(L b).mp (by simp);exact q b I ab h1 (.inl (an b h2))
 |nil=>
  refine aH ⟨_,rfl,d,_,(l.map (·.1)).map (λn:Nat=>(n:Int)),rfl,(Sm.of c).rd (.inr ⟨_,g.at⟩),by rw[xq,bU];rfl,?_,λm hm au=>?_⟩
  .cases l with
   |nil=>exact absurd rfl ad
   |cons a l=>simp
  obtain⟨n,D,rfl⟩:=ay.mp hm;refine q n I ab D (.inr λp hp=>?_);have:p∈l.map (·.2):=nh λz=>by
   have:=(L p).mpr ⟨hp,z⟩;cases this
  obtain⟨⟨o,p'⟩,M,rfl⟩:=ay.mp this;exact⟨o,M⟩
end
structure Abt(E:Nat->Nat->Nat->Prop)(v:Nat)(l:List (Nat×Nat)):Prop where
 nd:(l.map (·.1)).Nodup
 mem:∀p q,(p,q)∈l↔E v p q
def EN(vs:List V)(H:Hp)(Q:VK)(d:Addr)(l:List (Nat×Nat))(E:Nat->Nat->Nat->Prop)(v:Nat):Prop:=vs=[.ref d]/\Rd H d (.dK (l.map nmV))/\l≠[]/\l.length<=1000/\Sk E/\Abt E v l/\
 ∀(b:Bool) H',Sm H H'->(b=true↔One E v)->Q (.bl b) H'
def xY:Sp:=λvs H Q _=>Exists (Ex4 (EN vs H Q))
theorem FO(l:List (Nat×Nat))(c:Nat):je (l.map nmV) (Sum.inl (c:Int):Key)=(l.filter λx=>decide (x.1≠c)).map nmV:=by
 unfold je;rw[List.filter_map]
 congr 1
 apply List.filter_congr;intro x _;show decide ((Sum.inl (x.1:Int):Key)≠Sum.inl (c:Int))=decide (x.1≠c);by_cases h:x.1=c
 .simp[h]
 have z:¬(Sum.inl (x.1:Int):Key)=Sum.inl (c:Int):=λz=>h (by have:(x.1:Int)=(c:Int):=nK z;lia);simp only[ne_eq,h,z,not_false_eq_true]
theorem CA{α:Type}(l:List α)(f:α->Bool){x:α}(hx:x∈l)(hf:f x=false):(l.filter f).length<l.length:=by
 induction l with
 |nil=>cases hx
 |cons a l b=>
  rw[eN];have:=jo f l;rcases aK.mp hx with e|h
  .subst e;rw[NC (by rw[hf];decide),bz];lia
  have:=b h
  split<;>simp only[bz]<;>lia
section
theorem o_:a7 ["about","at","left"] ["about"] (aC mz):=by walk_at"sc"
theorem Fs{f f1:Addr}{fd d1:FuncData}(U:Fun K "hang_together" "hang_together" mz f fd)(T:cq mg)(mD:mg "dict" = none)(G:Use P w K mg base 1 "first_of" ["onward"] wZ f1 d1) :
  aj P w K mg base CX0 2 f fd ["about"] xY:=by
 refine U.ok o_ (by rintro _ _ _ _ ⟨_,_,_,_,rfl,_⟩;rfl) λNJ A outer s H vs Q E S h=>?_
 obtain⟨d,l,E,v,rfl,hd,al,X,k,ab,q⟩:=h;have hu:=dv S;refine⟨_,af (sx 1 o_.nd (uc G S (pa1 (pv 0))))
  (af (sx 2 o_.nd (cP AK (by rfl) mD Mx (pa1 (pv 0))))
  (af (oo cv (pd (rW hu (pv 1) (pv 2))) (ai (sx 1 o_.nd (DB (pv 2) (pv 1) ⟨rfl,rfl,rfl,rfl⟩))))
  (ai (aN (eQ eA (bH CK (by rfl) T.len t7 (pa1 (pv 2))) ah (nomark _)))))),?_⟩
 refine⟨_,rfl,d,l,rfl,hd,al,X,λs1 H1 I am an=>?_⟩;refine⟨_,rfl,d,_,rfl,I.rd hd,λp g=>?_⟩;walk_at"H1 p g H2 s2 y2";have ap:(∀o,¬E v o s1)\/∀p,(∃q,E v p q)->∃o,E v o p:=by
  rcases an with h|h
  .exact .inl λo M=>h o ((ab.mem _ _).mpr M)
  refine .inr λp ⟨q,j⟩=>?_;obtain⟨o,M⟩:=h p (ay.mpr ⟨_,(ab.mem _ _).mpr j,rfl⟩);exact⟨o,(ab.mem _ _).mp M⟩
 refine⟨λm Z H'=>∃(L:List Nat)(at_:Nat)(lf:List (Nat×Nat)),Z=[some (.ref d),some (.int (at_:Int)),some (.ref p)]/\m=lf.length/\Sm H H'/\H' p=some (.dK (lf.map nmV))/\lf.length<=1000/\(lf.map (·.1)).Nodup/\(∀x,x∈lf↔x∈l/\x.1∉L)/\
  L.Nodup/\(∀p∈L,∃q,E v p q)/\(∀i p q,L[i]?=some p->L[i+1]?=some q->E v p q)/\(L=[]/\at_=s1\/L.head?=some s1/\∀p,L.getLast?=some p->E v p at_),
  ⟨_,[],s1,l,rfl,rfl,I.trans (Sm.of s2),y2,X,ab.nd,by simp,kl,by simp,by simp,.inl ⟨rfl,rfl⟩⟩,?_⟩
 rintro m Z H' ⟨L,at_,lf,rfl,rfl,sm,B,a4,nd,mem,Y,key,ch,C⟩;refine⟨_,rfl,_,rfl,p,_,rfl,DGet.k (k:=Sum.inl (at_:Int)) B,?_⟩;by_cases D:at_∈lf.map (·.1)
 .obtain⟨i,x,h1,h2,_⟩:=mq D;have hx:(at_,x)∈lf:=a8 h1;obtain⟨au,aM⟩:=(mem _).mp hx;have hE:E v at_ x:=(ab.mem _ _).mp au;refine⟨true,by rw[h2];rfl,?_⟩;refine aT ⟨λZ' N=>∃(L:List Nat)(u:Nat)(n:List (Nat×Nat)),Z'=[some (.ref d),some (.int (u:Int)),some (.ref p)]/\n.length<lf.length/\Sm H N/\N p=some (.dK (n.map nmV))/\n.length<=1000/\(n.map (·.1)).Nodup/\(∀x,x∈n↔x∈l/\x.1∉L)/\
   L.Nodup/\(∀p∈L,∃q,E v p q)/\(∀i p q,L[i]?=some p->L[i+1]?=some q->E v p q)/\(L=[]/\u=s1\/L.head?=some s1/\∀p,L.getLast?=some p->E v p u),
   λZ' N ⟨L,u,n,e,O,r⟩=>⟨_,O,L,u,n,e,rfl,r⟩,?_⟩
  refine⟨_,rfl,p,rfl,.inl ⟨_,.inl B⟩,_,rfl,_,Sum.inl (at_:Int),_,B,rfl,h2,?_⟩;rw[FO];have aS:H p=none:=(I.free g);have O:=CA lf (λy=>decide (y.1≠at_)) hx (by simp);refine λH3 k3 y3=>⟨L++[at_],x,lf.filter λy=>decide (y.1≠at_),rfl,O,λb o e=>?_,y3,by lia,?_,λy=>?_,?_,λy hy=>?_,λi p q g j=>?_,.inr ⟨?_,λp g=>?_⟩⟩
  .rw[k3 _ (aq e aS)];exact sm b o e
  .exact nd.sublist (Kn _ List.filter_sublist)
  .rw[gJ,mem y,aW,aR,decide_eq_true_eq];constructor
   .rintro⟨⟨a,b⟩,c⟩;exact⟨a,λz=>z.elim b c⟩
   rintro⟨a,b⟩;exact⟨⟨a,λz=>b (.inl z)⟩,λz=>b (.inr z)⟩
  .rw[cY];exact⟨Y,by simp,λa ha b hb=>by rw[aR] at hb;rintro rfl;rw[hb] at ha;exact aM ha⟩
  .rcases aW.mp hy with h|h
   .exact key y h
   rw[aR.mp h];exact⟨x,hE⟩
  .by_cases hi:i+1<L.length
   .rw[gH (by lia)] at g;rw[gH hi] at j;exact ch i p q g j
   by_cases a0:i+1=L.length
   .rw[gH (by lia)] at g;rw[kj (by lia)] at j;have:i+1-L.length=0:=by lia
    rw[this] at j;simp at j;subst j;rcases C with ⟨rfl,_⟩|⟨_,h⟩
    .simp at a0
    exact h p (by rw[p4,show L.length-1=i by lia];exact g)
   rw[kj (by lia)] at j;have:=(aG.mp j).1;rw[bY] at this;lia
  .rcases C with ⟨rfl,rfl⟩|⟨h,_⟩
   .rfl
   cases L with
   |nil=>cases h
   |cons a L=>exact h
  rw[List.getLast?_append] at g;simp at g;subst g;exact hE
 refine⟨false,by rw[xO D];rfl,aH ?_⟩;have ad:L≠[]:=by
  rintro rfl;rcases C with ⟨_,rfl⟩|⟨h,_⟩
  .obtain⟨⟨a,b⟩,h1,rfl⟩:=ay.mp am;exact D (ay.mpr ⟨_,(mem _).mpr ⟨h1,by simp⟩,rfl⟩)
  cases h
 obtain⟨hh,a1⟩:L.head?=some s1/\∀p,L.getLast?=some p->E v p at_:=C.resolve_left λz=>ad z.1;have a2:=D8 k ad Y key ch a1 (λ⟨r,R⟩=>nh λz=>D (ay.mpr ⟨_,(mem (at_,r)).mpr ⟨(ab.mem _ _).mpr R,z⟩,rfl⟩)) hh ap;refine⟨_,rfl,p,_,rfl,B,rfl,?_⟩;rw[ao];refine q _ H' sm ?_;rw[jf,decide_eq_true_eq,<-a2];constructor
 .intro h0 p ⟨r,R⟩;have:lf=[]:=zI.mp (by lia);refine nh λz=>?_;have:=(mem (p,r)).mpr ⟨(ab.mem _ _).mpr R,z⟩;rw[‹lf=[]›] at this;cases this
 intro a3;have:lf=[]:=by
  cases lf with
  |nil=>rfl
  |cons y lf=>
   obtain⟨h1,h2⟩:=(mem y).mp (by simp);obtain⟨a,b⟩:=y;exact absurd (a3 a ⟨b,(ab.mem _ _).mp h1⟩) h2
 rw[this];rfl
end
def EnAt(H:Hp)(v:V)(e:Ent):Prop:=∃u s,v=.ref u/\H u=some (.tup [.ref s,.int (e.2:Int)])/\H s=some (.tup ((ky e.1.1 e.1.2).map kV))
section
theorem iQ:a7 ["things","triples","k","thing","a","b","c"] ["things"] (aC jG):=by walk_at"sc"
theorem hW:a7 ["triples","thirds","k","a","b","c","side","third"] ["triples"] (aC lF):=by walk_at"sc"
end
def stV(x:Nat×Addr):Key×V:=(Sum.inl (x.1:Int),V.ref x.2)
theorem F7{L:List (Nat×Addr)}{c:Nat}(h:c∉L.map (·.1)):bh (L.map stV) (Sum.inl (c:Int):Key)=none:=by
 induction L with
 |nil=>simp[bh]
 |cons x L a=>
  rw[aU,aK,not_or] at h;rw[aU,fR (λz=>h.1 ?_)]
  .exact a h.2
  have:(x.1:Int)=(c:Int):=nK z;lia
theorem rM{L:List (Nat×Addr)}{c:Nat}(h:c∈L.map (·.1)):∃a,(c,a)∈L/\bh (L.map stV) (Sum.inl (c:Int):Key)=some (V.ref a):=by
 induction L with
 |nil=>cases h
 |cons y L d=>
  obtain⟨b,x⟩:=y;by_cases e:b=c
  .subst e;exact⟨x,by simp,hV (p:=stV (b,x)) (r:=L.map stV) rfl⟩
  rw[aU] at h;obtain⟨a,h1,h2⟩:=d ((aK.mp h).resolve_left λz=>e z.symm);refine⟨a,bZ _ h1,?_⟩;rw[aU,fR (λz=>e ?_)]
  .exact h2
  have:(b:Int)=(c:Int):=nK z;lia
def abt(es:List Ent)(c:Nat):List (Nat×Nat):=(es.filter λe=>decide (e.1.1=c)).map λe=>(e.1.2,e.2)
theorem oR{es:List Ent}{c p q:Nat}:(p,q)∈abt es c↔((c,p),q)∈es:=by
 unfold abt;rw[ay];constructor
 .rintro⟨⟨⟨a,b⟩,d⟩,h1,h2⟩;rw[gJ,decide_eq_true_eq] at h1;obtain⟨h1,rfl⟩:=h1;cases h2;exact h1
 intro h;exact⟨_,gJ.mpr ⟨h,NF rfl⟩,rfl⟩
theorem xK(es:List Ent)(c:Nat):(abt es c).length<=es.length:=by unfold abt;rw[ao];exact jo _ _
theorem wz{es:List Ent}{c p:Nat}(h:p∈(abt es c).map (·.1)):(c,p)∈es.map (·.1):=by obtain⟨⟨a,q⟩,h1,rfl⟩:=ay.mp h;exact ay.mpr ⟨_,oR.mp h1,rfl⟩
theorem IC{es:List Ent}(h:(es.map (·.1)).Nodup)(c:Nat):((abt es c).map (·.1)).Nodup:=by
 induction es with
 |nil=>simp[abt]
 |cons e es b=>
  rw[aU,dY] at h;by_cases he:e.1.1=c
  .have a:abt (e::es) c=(e.1.2,e.2)::abt es c:=by unfold abt;rw[eN,ND (NF he)];rfl
   rw[a,aU,dY];refine⟨λz=>h.1 ?_,b h.2⟩;have:=wz z;rw[<-he] at this;exact this
  have a:abt (e::es) c=abt es c:=by unfold abt;rw[eN,NC (by simpa using he)]
  rw[a];exact b h.2
theorem rg(es:List Ent)(c p q a:Nat):abt (es++[((c,p),q)]) a=if c=a then abt es a++[(p,q)] else abt es a:=by
 unfold abt;rw[ki,aQ,eN];by_cases h:c=a
 .rw[ND h,ND (NF h)];rfl
 rw[NC h,NC (by simpa using h)];simp
structure StAt(H0 H:Hp)(S:Addr)(es:List Ent)(L:List (Nat×Addr)):Prop where
 at_:H S=some (.dK (L.map stV))
 len:L.length<=es.length
 nk:(L.map (·.1)).Nodup
 na:(L.map (·.2)).Nodup
 fr:∀x∈L,H0 x.2=none/\x.2≠S
 ab:∀x∈L,H x.2=some (.dK ((abt es x.1).map nmV))
 key:∀c,c∈L.map (·.1)↔∃p q,((c,p),q)∈es
def C5(vs:List V)(H:Hp)(Q:VK)(D:Addr)(es:List Ent):Prop:=vs=[.ref D]/\H D=some (.dT (es.map bD))/\(es.map (·.1)).Nodup/\es.length<=1200/\
 ∀S L H',H S=none->Sm H H'->StAt H H' S es L->Q (.ref S) H'
def wN:Sp:=λvs H Q _=>Exists (Ex2 (C5 vs H Q))
theorem FA{L:List (Nat×Addr)}(nk:(L.map (·.1)).Nodup)(na:(L.map (·.2)).Nodup){c d:Nat}{a:Addr}(h:(c,a)∈L)(h':(d,a)∈L):c=d:=by
 induction L with
 |nil=>cases h
 |cons x L f=>
  rw[aU,dY] at nk na;rcases aK.mp h with e|h
  .rcases aK.mp h' with b | h'
   .rw[<-e] at b;cases b;rfl
   exact (na.1 (ay.mpr ⟨_,h',by rw[<-e]⟩)).elim
  rcases aK.mp h' with b | h'
  .exact (na.1 (ay.mpr ⟨_,h,by rw[<-b]⟩)).elim
  exact f nk.2 na.2 h h'
section
theorem jL:a7 ["thirds","steps","c","p","q","about"] ["thirds"] (aC lP):=by walk_at"sc"
theorem DG{f:Addr}(U:Fun K "steps_by_corner" "steps_by_corner" lP f fd):aj P w K mg base CX0 1 f fd ["thirds"] wN:=by
 refine U.ok jL (by rintro _ _ _ _ ⟨_,_,rfl,_⟩;rfl) λNJ A outer s H vs Q E hr h=>?_
 obtain⟨D,es,rfl,C,a2,hl,q⟩:=h;have hu:=dv hr;refine⟨_,af (sx 1 jL.nd ou)
  (af (b_ cv rfl (Dy (yo Ld PySem.F.type_dict_items DX (pv 0))) (cX rfl (aX (cX rfl (aX (gx 2 jL.nd) (aX (gx 3 jL.nd) cR))) (aX (gx 4 jL.nd) cR)))
   (af (sx 5 jL.nd (cA tY Li PySem.F.type_dict_setdefault AO (pv 1) (ae (pv 2) (pa1 ou))))
   (ai (iW hu (pv 5) (pv 3) (pv 4) rfl))))
  (ai (aN (pv 1)))),?_⟩
 have b2:=line5000;refine λS H1 R s1 y1=>?_;have al:=s1 _ _ C;refine⟨_,rfl,⟨D,rfl,.inr ⟨_,.inl al⟩⟩,D,_,rfl,rfl,.inl al,True.intro,λv hv=>?_⟩;walk_at"H1 v hv H2 s2 y2";have be:=s2 _ _ al;refine⟨v,D,_,rfl,y2,.inl be,True.intro,λks vs o H3 hk hz=>?_⟩;obtain⟨as,pa,rfl,rfl⟩:∃as,Paired (λ(p:List Key×V) a=>H2 a=some (.tup (p.1.map kV))) (es.map bD) as/\ks=as.map V.ref/\vs=(es.map bD).map (·.2):=by
  rcases hk with ⟨kvs,e,_⟩|⟨kvs,as,e,h1,h2,h3⟩
  .cases e
  cases e;exact⟨as,h1,h2,h3⟩
 have lk:as.length=es.length:=by rw[<-aF pa,ao]
 have bg:Sm H H3:=(Sm.of (s1.trans s2)).trans hz.sm;have bi:H3 S=some (.dK (([]:List (Nat×Addr)).map stV)):=by rw[hz.ne (λz=>by rw[z,al] at y1;cases y1)];exact s2 _ _ y1
 refine Cy (d:=D) (o:=o) (u:=.dT (es.map bD)) (ks:=as.map V.ref) (vs:=(es.map bD).map (·.2)) (λi Z H'=>∃v2 v3 v4 v5 L,Z=[some (.ref D),some (.ref S),v2,v3,v4,v5]/\Sm H H'/\H' D=some (.frz o (.dT (es.map bD)))/\(∀a xs,H2 a=some (.tup xs)->H' a=some (.tup xs))/\StAt H H' S (es.take i) L)
  ⟨none,none,none,none,[],rfl,bg,hz.at,λa xs e=>hz.sm.keep e (λz=>z),⟨bi,aJ _,kl,kl,by simp,by simp,by simp⟩⟩ (λi Z H' _ ⟨_,_,_,_,_,_,_,e,_⟩=>e) ?_ ?_
 .rintro i x y pr Z H' hx hy ⟨v2,v3,v4,v5,L,rfl,sm,ap,am,st⟩ bl;rw[aY] at hx hy;obtain⟨a,ha,rfl⟩:=bW.mp hx;rw[aY] at hy;obtain⟨kv,bm,rfl⟩:=bW.mp hy;obtain⟨⟨⟨c,p⟩,T⟩,he,rfl⟩:=bW.mp bm;have bn:H2 a=some (.tup [.int (c:Int),.int (p:Int)]):=by
   obtain⟨b3,h1,h2⟩:=cw pa (show (es.map bD)[i]?=some (bD ((c,p),T)) by rw[aY,he];rfl);rw[ha] at h1;cases h1;exact h2
  have n:es.take (i+1)=es.take i++[((c,p),T)]:=by rw[ba,he];rfl
  have b4:i<es.length:=(aG.mp he).1;have a3:((es.take (i+1)).map (·.1)).Nodup:=by rw[<-f_ (i+1) es,aQ,cY] at a2;exact a2.1
  rw[n] at a3;obtain⟨b5,bt⟩:=oE a3;have bw:p∉(abt (es.take i) c).map (·.1):=λz=>bt (wz z);rw[show (bD ((c,p),T)).2=V.int (T:Int) from rfl];walk_at"H' pr bl H4 N y4";refine⟨pr,_,rfl,SqT.of y4,rfl,_,_,rfl,a,_,rfl,SqT.of (N _ _ (am _ _ bn)),rfl,_,_,rfl,_,_,rfl,rfl,_,_,rfl,rfl,?_⟩;have au:=N _ _ st.at_;have lt:(es.take i).length<=1200:=by rw[bf];lia
  refine⟨_,rfl,.inr (.inr (.inl ⟨rfl,.inl ⟨_,au⟩⟩)),_,rfl,λz H5 X s5 y5=>?_⟩;have a4:=s5 _ _ au;have a5:Sm H H5:=(sm.trans (Sm.of N)).trans (Sm.of s5);have zH:H z=none:=(sm.trans (Sm.of N)).free X;have aM:H' z=none:=N.free X;have I:=N.trans s5;have la:=xK (es.take i) c;refine⟨S,_,Sum.inl (c:Int),.ref z,rfl,rfl,a4,by rw[ao];have:=st.len;lia,λu an=>?_,λhn=>?_⟩
  .have O:c∈L.map (·.1):=nh λg=>by rw[F7 g] at an;cases an
   obtain⟨ad,hL,bx⟩:=rM O;rw[bx] at an;cases an;have bb:H5 ad=some (.dK ((abt (es.take i) c).map nmV)):=I _ _ (st.ab _ hL);obtain⟨bd,bA⟩:H ad=none/\ad≠S:=st.fr _ hL;refine⟨_,rfl,_,rfl,_,rfl,ad,_,rfl,DPut.k (k:=Sum.inl (p:Int)) bb (by rw[ao];lia),?_⟩;rw[rS bw];walk_at"H5 ad H6 j y6";refine⟨_,_,_,_,L,rfl,λb o e=>?_,?_,λb xs e=>?_,⟨(j S bA.symm).trans a4,?_,st.nk,st.na,st.fr,λx M=>?_,λY=>?_⟩⟩
   .rw[j b (aq e bd)];exact a5 b o e
   .rw[j D (λg=>by rw[g,bd] at C;cases C)];exact I _ _ ap
   .have B:=I _ _ (am b xs e);rw[j b (λg=>by rw[g,bb] at B;cases B)];exact B
   .rw[n,aL];have:=st.len;lia
   .obtain⟨Y,b⟩:=x;rw[n,rg];by_cases aS:c=Y
    .subst aS;rw[ND rfl];have:b=ad:=vk st.nk M hL;subst this;exact y6
    rw[NC aS];have nb:b≠ad:=λg=>aS (by subst g;exact FA st.nk st.na hL M);rw[j b nb];exact I _ _ (st.ab _ M)
   rw[st.key Y,n];constructor
   .rintro⟨l,m,h1⟩;exact⟨l,m,dC _ h1⟩
   rintro⟨l,m,h1⟩;rcases aW.mp h1 with h1|h1
   .exact⟨l,m,h1⟩
   rw[aR] at h1;cases h1;exact (st.key _).mp O
  have O:c∉L.map (·.1):=λg=>by
   obtain⟨_,_,h⟩:=rM g;rw[hn] at h;cases h
  have bK:cL (L.map stV) (Sum.inl (c:Int):Key) (V.ref z)=(L++[(c,z)]).map stV:=by rw[om _ hn,aQ];rfl
  rw[bK];have zS:z≠S:=λg=>by rw[g,R] at zH;rw[g] at X;rw[au] at X;cases X
  walk_at"H5 S H6 j y6";have a0:abt (es.take i) c=[]:=by
   cases e:abt (es.take i) c with
   |nil=>rfl
   |cons x r=>
    obtain⟨l,m⟩:=x;have:(l,m)∈abt (es.take i) c:=by rw[e];simp
    exact (O ((st.key c).mpr ⟨l,m,oR.mp this⟩)).elim
  have bL:H6 z=some (.dK (([]:List (Nat×Nat)).map nmV)):=(j z zS).trans y5;refine⟨_,rfl,_,rfl,_,rfl,z,_,rfl,DPut.k (k:=Sum.inl (p:Int)) bL (by simp;lia),?_⟩;rw[rS (by simp)];walk_at"H6 z H7 k7 y7";have b6:∀b,H b≠none->b≠S:=λb h g=>h (by rw[g];exact R);refine⟨_,_,_,_,L++[(c,z)],rfl,λb o e=>?_,?_,λb xs e=>?_,⟨(k7 S zS.symm).trans y6,?_,?_,?_,λx M=>?_,λx M=>?_,λY=>?_⟩⟩
  .rw[k7 b (aq e zH),j b (aq e R)];exact a5 b o e
  .have e1:=I _ _ ap;rw[k7 D (λg=>by rw[g,zH] at C;cases C),j D (λg=>by rw[g,R] at C;cases C)];exact e1
  .have B:=am b xs e;rw[k7 b (aq B aM),j b (λg=>by rw[g,st.at_] at B;cases B)];exact I _ _ B
  .rw[n,aL,aL];have:=st.len;simp only[bY];lia
  .rw[aQ,cY];refine⟨st.nk,by simp,λa1 h1 b1 h2=>?_⟩;simp at h2;subst h2;rintro rfl;exact O h1
  .rw[aQ,cY];refine⟨st.na,by simp,λa1 h1 b1 h2=>?_⟩;simp at h2;subst h2;rintro rfl;obtain⟨x,bR,bS⟩:=ay.mp h1;have:=st.ab x bR;rw[bS,aM] at this;cases this
  .rcases aW.mp M with h|h
   .exact st.fr x h
   rw[aR.mp h];exact⟨zH,zS⟩
  .rcases aW.mp M with h|h
   .have b0:x.1≠c:=λg=>O (ay.mpr ⟨x,h,g⟩);rw[n,rg,NC (λg=>b0 g.symm)];have e1:=st.ab x h;rw[k7 x.2 (aq e1 aM),j x.2 (st.fr x h).2];exact I _ _ e1
   rw[aR.mp h,n,rg,ND rfl,a0];exact y7
  rw[aQ,aW,st.key Y,n];constructor
  .rintro (⟨l,m,h1⟩|h1)
   .exact⟨l,m,dC _ h1⟩
   simp at h1;subst h1;exact⟨p,T,by simp⟩
  rintro⟨l,m,h1⟩;rcases aW.mp h1 with h1|h1
  .exact .inl ⟨l,m,h1⟩
  rw[aR] at h1;cases h1;exact .inr (by simp)
 rintro Z H' ⟨v2,v3,v4,v5,L,rfl,sm,ap,am,st⟩;rw[ao,lk,bV] at st;exact⟨_,rfl,q S L H' R sm st⟩
end
end K15
end
section
namespace L2
open PySem PySem.Spec PyProof.Rows
section
variable {M:Model}{env:Env}
variable {nm q:Str}{C N:Addr}{bs bm:List Value}{hdct:Bool}{sn:List Str}{sub:List Value}{ab:Bool}{col:Option Bool}{dd:Option Addr}{k0 k1 k2 k3 k5:Option Value}{newId:String}
theorem Bt{x:Sem Value}{Q:Flow->Shared->Prop}(b:bm.contains (.type "BaseException")=true)(c:A.handled=none)
  (h:wpAny M A x (λv s₁=>∃e d vs sl,v=.ref e/\s₁.heap.get? C=some (excClassObj nm q C N bs bm hdct sn sub ab col dd k0 k1 k2 k3 k5 newId)/\
   s₁.heap.get? e=some {cls:=.ref C,dict:=d,data:=.fields vs,slots:=sl}/\vs[1]?=some .none/\E (.ref e) s₁) E s) :
  wpAny M A (raiseStmt env (some x) none) Q E s:=by
 have f:(Value.ref C::bm).contains (.type "BaseException")=true:=by rw[Kr,b,Kb]
 unfold raiseStmt;refine aa (cC h (λv s₁ h₁=>?_) λ_ _ x=>x);obtain⟨e,d,vs,sl,rfl,a,he,i,j⟩:=h₁;obtain⟨l,g,m,tk,os⟩:=s₁;refine aa (ag (aa (cH ?_)));unfold excFromValue
 repeat (first|with_reducible refine jB he ?_|with_reducible refine jB a ?_|(with_reducible refine uf a ?_;rw[f])|wp_step)
 rw[i];refine ag ?_;rw[NC (by decide)];exact ag (wpAny_raiseNew_none c j)
end
section
variable {prog:Program}{h:Heap}{g:Array GenState}{d:Drawn}{t:Nat}{os:OsState}
variable {nm q:Str}{C N:Addr}{bs bm bmB:List Value}{hdct:Bool}{sn:List Str}{sub:List Value}{ab:Bool}{col:Option Bool}{dd:Option Addr}{k0 k1 k2 k3 k5:Option Value}{B newId initId:String}
theorem Cj(F:ExcBaseFacts B newId initId bmB)(T:OwnTail h bmB bm){rest:List Value}{f:Addr}{Q:Fin->Shared->Prop}(X:K.In h)
  (a:h.get? C=some (excClassObj nm q C N bs bm hdct sn sub ab col dd k0 k1 k2 k3 k5 newId)) (hi:W.findIn K (.ref C) "__init__" = some (some (.ref f))) (hf:W.typeIn K (.ref f)=some (.type "function"))
  (l:∀h' e,Heap.MadeExcOf h h' e (.ref C) rest->wpAny (model prog w) A (call (.ref f) (.ref e::rest)) (λr s'=>r=.none/\Q (.done (.ret (.ref e))) s') E ⟨h',g,d,t,os⟩) (m:rest.length<=sizeLine) :
  wpAny (model prog w) A (Builtin.«type.__call__» ⟨.ref C::rest,[]⟩) Q E ⟨h,g,d,t,os⟩:=by
 repeat (first|with_reducible refine jB a ?_|with_reducible refine wpAny_madeBy_exc a ?_|wp_step)
 refine codeAny_call_builtin_code (Kh _ F.quiet) (wpAny_check_new_subT F T a (codeAny_exc_new_subT F T a ?_ m));show wpAny _ _ _ _ _ _;generalize i:({cls:=.ref C,data:=.fields #[.ref h.objs.size,.none,.none,.none,.bool false,.none]}:Obj)=c;have kp:∀b o,h.get? b=some o->((h.push {cls:=.type "tuple",data:=.seq rest.toArray}).push c).get? b=some o:=λb o e=>aI _ (aI _ e);have a₁:=kp _ _ a;have j:((h.push {cls:=.type "tuple",data:=.seq rest.toArray}).push c).get? (h.objs.size+1)=some c:=by subst i;heap_get
 have n:c.cls=.ref C:=by subst i;rfl
 have p:(Value.ref C::bm).contains (.ref C)=true:=by simp
 unfold isInstance
 repeat (first|(with_reducible refine jB j ?_;rw[n])|(with_reducible refine uf a₁ ?_;rw[p])|wp_step)
 show wpAny _ _ (typeLookup (.ref C) _) _ _ _;refine Af X hi _ _ _ _ kp ?_;refine cH (aa (Lr X _ hf _ _ _ _ kp ?_));refine aa (cC (l _ (h.objs.size+1) ⟨kp,ni (ko _),h.objs.size,by subst i;exact j,ni (ak _),?_⟩) (λr s' s=>?_) λ_ _ x=>x)
 .exact aI _ (Kj rfl rfl)
 obtain⟨rfl,u⟩:=s
 wp_walk
 exact u
theorem CN(F:ExcBaseFacts B newId initId bmB)(T:OwnTail h bmB bm){rest:List Value}{b:Addr}{Q:Value->Shared->Prop}(X:K.In h)
  (a:h.get? C=some (excClassObj nm q C N bs bm hdct sn sub ab col dd k0 k1 k2 k3 k5 newId)) (hi:W.findIn K (.ref C) "__init__" = some (some (.ref b))) (hf:W.typeIn K (.ref b)=some (.type "function"))
  (c:∀h' e,Heap.MadeExcOf h h' e (.ref C) rest->wpAny (model prog w) (A.under (.builtin "type.__call__" ⟨.ref C::rest,[]⟩)) (call (.ref b) (.ref e::rest)) (λr s'=>r=.none/\Q (.ref e) s') E ⟨h',g,d,t,os⟩) (f:rest.length<=sizeLine) :
  wpAny (model prog w) A (call (.ref C) rest) Q E ⟨h,g,d,t,os⟩:=by
 have i:=tc_lookup;have j:=tc_bind (.ref C);have l:(⟨h,g,d,t,os⟩:Shared).TypeIs (.ref C) "type":=⟨_,a,rfl⟩;refine jz (codeAny_of_tree ?_);show wpAny _ _ (callAny (.ref C) _) _ _ _
 repeat (any_goals (first|assumption|with_reducible refine jB a ?_|wp_step))
 refine⟨rfl,?_⟩;exact codeAny_call_builtin_at (Kh _ (by decide +kernel)) entry_typeCall (wpAny_check_type_call_sub a (Cj F T X a hi hf (λh' e hm=>c h' e hm) f))
end
end L2
end
section
namespace L2
open PySem PySem.Spec PyProof.Rows
section
variable {prog:Program}{h:Heap}{g:Array GenState}{d:Drawn}{t:Nat}{os:OsState}
variable {nm q:Str}{C N:Addr}{bs bm bmB:List Value}{hdct:Bool}{sn:List Str}{sub:List Value}{ab:Bool}{col:Option Bool}{dd:Option Addr}{k0 k1 k2 k3 k5:Option Value}{B newId initId:String}
theorem CO(F:ExcBaseFacts B newId initId bmB)(T:OwnTail h bmB bm){e:Addr}{dx:Option Addr}{vs:Array Value}{sl:Array (Option Value)}{rest:List Value}{Q:Value->Shared->Prop}
  (f:h.get? C=some (excClassObj nm q C N bs bm hdct sn sub ab col dd k0 k1 k2 k3 k5 newId)) (he:h.get? e=some ⟨.ref C,dx,.fields vs,sl⟩) {t0:Addr} (a:vs[0]?=some (.ref t0)) (n:rest.length<=sizeLine)
  (i:∀h' (j:Addr),(∀b o,b≠e->h.get? b=some o->h'.get? b=some o)->h'.get? e=some ⟨.ref C,dx,.fields (vs.setIfInBounds 0 (.ref j)),sl⟩->Q .none ⟨h',g,d,t,os⟩) :
  wpAny (model prog w) A (call (.builtin initId) (.ref e::rest)) Q E ⟨h,g,d,t,os⟩:=by
 refine jz (t8 F.init.plain F.initEntry (wpAny_check_init_subT F T f he rfl ?_))
 wp_walk
 rw[a];refine ag (aa ?_);have c:(h.push {cls:=.type "tuple",data:=.seq rest.toArray}).get? e=some ⟨.ref C,dx,.fields vs,sl⟩:=aI _ he;refine eZ c rfl (fG.mp a).1 ?_
 wp_walk
 refine i _ h.objs.size (λb o l m=>?_) ?_
 .rw[dU _ _ (aB l)];exact aI _ m
 exact fJ _ c rfl
end
def oJ:List Value->Bool
 |.ref _::r=>oJ r
 |l=>l==bmV
theorem uw(self:Value):∀{l:List Value},oJ l=true->refuseLoop self "__setattr__" l=pure ()
 |.ref c::r,e=>by rw[refuseLoop_ref];exact uw self e
 |.type n::r,e=>by rw[show Value.type n::r=bmV from beq_iff_eq.mp e];exact PySem.F.store_ValueError.passes self
 | [],e=>by cases e
structure fk(K:W.Frag)(C:Addr)(name:Str):Prop where
 sa:W.findIn K (.ref C) "__setattr__" = some (some (.builtin "object.__setattr__"))
 mo:W.mroIn K C (.type "object")=some true
 ov:(W.clsIn K C).any (λcd=>oJ cd.mro)=true
 no:W.findIn K (.ref C) name=some none
 hd:(W.clsIn K C).any (·.hasDict)=true
section
variable {prog:Program}{x C:Addr}{vs:Array Value}{sl:Array (Option Value)}{name:Str}{v:Value}
theorem FJ{Q:Unit->Shared->Prop}(X:K.In s.heap)(hx:s.heap.get? x=some ⟨.ref C,none,.fields vs,sl⟩)(c:fk K C name)
  (q:∀h' dx tk,s.heap.get? dx=none->dx≠x->(∀b o,b≠x->s.heap.get? b=some o->h'.get? b=some o)->h'.get? x=some ⟨.ref C,some dx,.fields vs,sl⟩->h'.Ns1 dx (λy=>if y=name then some v else none)->Q () {s with heap:=h',toks:=tk}) :
  wpAny (model prog w) A (setAttr (.ref x) name v) Q E s:=by
 have I:W.InstAt s.heap x ⟨.ref C,none,.fields vs,sl⟩ C none:=⟨hx,rfl,rfl,trivial⟩;refine Lx X I c.sa ?_;obtain⟨a,g,d,t,os⟩:=s;have f:=PySem.F.store_object;obtain⟨cd,h,r⟩:=Ad c.ov;obtain⟨P,l,hd⟩:=Ad c.hd;rw[h] at l;cases l;have i:=I.type (M:=model prog w);have u:W.Looks (model prog w) a (isInstance (.ref x) (.type "object")) true:=i.andThen (W.looks_mroIn X c.mo);refine t8 f.slot.plain f.entry (@W.check_slot (model prog w) _ _ ⟨a,g,d,t+1,os⟩ "object.__setattr__" "object" "__setattr__" (.ref x) [.str name t,v] [] _ f.kind f.split u (f.args (.ref x) (.str name t) v) ?_);have hm:W.Looks (model prog w) a (mroOf (.ref C)) cd.mro:=(Ae X h).andThen .now;have ha:=Af (M:=model prog w) X c.no;have z:=Ae (M:=model prog w) X h;rw[W.osa_eq,refuse_eq];refine aa (aa (i.at (aa (hm.at ?_))));rw[uw _ r];refine ag (aa (i.at (aa (ha.at (aa (ag ?_))))));show wpAny _ _ (Builtin.ObjectAttr.storeInOwnDict _ _ _ _ _ _) _ _ _;unfold Builtin.ObjectAttr.storeInOwnDict Builtin.ObjectAttr.ownDictForStores;refine aa (ag ?_);dsimp only;rw[NC (show ¬((Value.ref C==Value.type "module")=true) by simp)];unfold instanceDict;refine aa (aa (Av hx ?_));refine aa (z.at ?_);rw[hd];have m:(a.push {cls:=.type "dict",data:=.dict #[]}).get? x=some ⟨.ref C,none,.fields vs,sl⟩:=aI _ hx;have j:x≠a.objs.size:=bc (aE hx);refine aa (wpAny_alloc' ?_);refine aa (wpAny_update' m ?_);refine ag ?_;have B:((a.push {cls:=.type "dict",data:=.dict #[]}).update x λo=>{cls:=o.cls,dict:=some a.objs.size,data:=o.data,slots:=o.slots}).get? x=some ⟨.ref C,some a.objs.size,.fields vs,sl⟩:=fJ _ m rfl;have D:((a.push {cls:=.type "dict",data:=.dict #[]}).update x λo=>{cls:=o.cls,dict:=some a.objs.size,data:=o.data,slots:=o.slots}).Ns a.objs.size (λ_=>none):=
  ⟨_,#[],_,(pT _ _ _ _ j.symm).trans (Kj rfl rfl),rfl,λe he=>absurd he (by simp),λ_=>rfl⟩
 show wpAny _ _ (Builtin.ObjectAttr.storeInDict a.objs.size (.str name t) name v) _ _ _;unfold Builtin.ObjectAttr.storeInDict Builtin.ObjectAttr.newKeyGuard;refine aa (ag (aa (wpAny_nsSet1 (Ki D) λh' n p=>?_)));obtain⟨R,S,T,H,L,N⟩:=n.count (Within.cons name v Within.nil);refine aa (Md H (by rw[L];exact LM (br N (by rw[bz,gI,dg];lia))) ?_);refine ag ?_;refine q h' a.objs.size _ (ni (ak _)) j.symm (λb o O e=>?_) ((p.2 x j).trans B) n;exact (p.2 b (bc (aE e))).trans ((pT _ _ _ _ O).trans (aI _ e))
end
end L2
end
section
namespace L2
open PySem PySem.Spec PyProof.Rows PySem.W
section
variable {prog:Program}{x D:Addr}{ox od:Obj}{name:Str}{v:Value}{expr:Bool}
theorem FL{Q:Value->Shared->Prop}(X:K.In s.heap)(c:jb K D)(e:fk K D name)(I:W.InstAt s.heap x ox D (some od))(i:lookIn name od=some (some v))(j:handedIn v=true)
  (h:Q v {s with toks:=s.toks+1}):wpAny (model prog w) A (getAttr (.ref x) name expr) Q E s:=by
 obtain⟨f,g,d,t,os⟩:=s;have b:=I.type (M:=model prog w);have l:=t9 (M:=model prog w) X c.ga;have L2:=t9 (M:=model prog w) X c.ha;have hf:findObj K D (some od) name=some (.value v):=findObj_own e.hd e.no rfl i;have n:=looks_find (M:=model prog w) X I hf;have o:=looks_mroIn (M:=model prog w) X c.mb;have p:(onTheHeap (Value.ref D)&&Value.builtin "BaseException.__getattribute__"==Value.builtin "object.__getattribute__")=false:=by
  have:(Value.builtin "BaseException.__getattribute__"==Value.builtin "object.__getattribute__")=false:=by decide +kernel
  rw[this];rfl
 unfold getAttr getAttrBy;refine aa (wpAny_mkText (cH (aa (b.at (aa (l.at ?_))))));dsimp only;rw[p];show wpAny _ _ (getAttrByItsOwn _ _ _ _ _ _) _ _ _;unfold getAttrByItsOwn hookBefore;refine aa ?_;show wpAny _ _ (typeLookup (.ref D) "__getattr__") _ _ _;refine L2.at (aa (jx (cH ?_)));unfold callGetattribute;rw[show (expr&&onTheHeap (Value.builtin "BaseException.__getattribute__"))=false from pS _,NC (by decide)];unfold boundAndCalled;rw[F.excAttr_ValueError.ga.bind (.ref x)];refine aa (ag ?_);refine jz (t8 F.excAttr_ValueError.ga.plain F.entry_bexc_ga ?_);have q:builtinKind "BaseException.__getattribute__" = some .slot:=by decide +kernel
 have r:splitId "BaseException.__getattribute__" = some ("BaseException","__getattribute__"):=by decide +kernel
 have u:Looks (model prog w) f (isInstance (.ref x) (.type "BaseException")) true:=b.andThen o;refine @check_slot (model prog w) _ _ ⟨f,g,d,t+1,os⟩ "BaseException.__getattribute__" "BaseException" "__getattribute__" (.ref x) [.str name t] [] _ q r u (F.args_bexc_ga (.ref x) (.str name t)) ?_;unfold Builtin.«object.__getattribute__»;refine aa (m:=slotArgs _ _ _) (ku (a:=(.ref x,[.str name t])) rfl ?_);refine aa (ku (a:=name) rfl ?_);refine aa (b.at (aa (n.at ?_)));refine ag ?_;exact handed_on j h
end
def cV(x C:Addr)(d:Option Addr):HO:=.ext λh=>∃(vs:Array Value)(sl:Array (Option Value))(t0:Addr),h.get? x=some ⟨.ref C,d,.fields vs,sl⟩/\vs[0]?=some (.ref t0)/\vs[1]?=some .none/\vs[2]?=some .none
theorem rH{h:Heap}{x C:Addr}{d:Option Addr}{vs:Array Value}{sl:Array (Option Value)}{t0:Addr}(e:h.get? x=some ⟨.ref C,d,.fields vs,sl⟩)(c:vs[0]?=some (.ref t0))(h1:vs[1]?=some .none)(h2:vs[2]?=some .none) :
  aV P w H h x (cV x C d):=by
 refine⟨⟨vs,sl,t0,e,c,h1,h2⟩,⟨_,e⟩,λa b p k=>?_⟩;obtain⟨vs,sl,t0,e,r⟩:=p;exact⟨vs,sl,t0,k _ e,r⟩
def j3(K:W.Frag)(C:Addr):Bool:=(L2.clsIn K C).any λbm=>tailIn K bmV bm
theorem v9{C:Addr}{h:Heap}(X:K.In h)(q:j3 K C=true) :
  ∃bm N nm q bs hdct sn sub ab col dd k0 k1 k2 k3 k5,h.get? C=some (excClassObj nm q C N bs bm hdct sn sub ab col dd k0 k1 k2 k3 k5 "ValueError.__new__")/\OwnTail h bmV bm:=by
 unfold j3 at q;cases e:L2.clsIn K C with
 |none=>rw[e] at q;cases q
 |some bm=>
  rw[e] at q;obtain⟨N,nm,a,bs,hd,sn,sub,ab,col,dd,k0,k1,k2,k3,k5,b⟩:=rJ X e;exact⟨bm,N,nm,a,bs,hd,sn,sub,ab,col,dd,k0,k1,k2,k3,k5,b,tail_of_in X q⟩
structure BInit(K:W.Frag)(S:Addr):Prop where
 sp:specialIn K (.ref S) "__getattribute__" = some (some (.builtin "type.__getattribute__"))
 rd:readsIn K S (.type "type")=true
 fd:findCls K (.ref S) (.type "type") "__init__" = some (.val (.builtin "ValueError.__init__"))
section
variable {y:Str}{S:Addr}{p apos pos:Pos}{e o value:Expr}{es:List Expr}{t:TA}{ta tv:TE}{f:Str}
def Gs(K:W.Frag)(t:TA):TE:=λZ H Q=>t Z H λvs H1=>∃(x C:Addr)(rest:List V),vs=.ref x::rest/\H1 x=some (cV x C none)/\j3 K C=true/\rest.length<=sizeLine/\Q .non H1
theorem DE{pl:Sem Bool}(hg:Gl X y)(hm:X.mg y=some (.ref S))(b:BInit X.K S)(ha:PA X (e::es) t)(hdb:(y==("__debug__" : Str))=false:=by decide)
  (hst:starEach (e::es) X.env=(false,eval e X.env)::starEach es X.env:=by rfl) (hpl:(backTo pos (starEach es X.env)).any (·.1)=false:=by rfl)
  (ht:eval (.Call (.Attribute (.Name y p) "__init__" apos) (e::es) [] pos) X.env=(do
   let ov <-eval (.Name y p) X.env
   standAt apos.atName
   let (f,first) <-holding [ov] (getMethod ov "__init__" pl)
   callWith pos f first (backTo pos (starEach (e::es) X.env)) (backToKw pos (keywordEach [] X.env))):=by rfl) :
  PE X (.Call (.Attribute (.Name y p) "__init__" apos) (e::es) [] pos) (Gs X.K t):=by
 intro NI s Z H Q I h;refine methodCall_KW (pl:=pl) (iZ I hg hm ?_ hdb) ht;refine method_cls I.kIn b.sp (cls_value I.kIn b.rd b.fd rfl ?_);have hA:=ha pos NI {s with toks:=s.toks+1} Z H _ (I.tok _) h;show wpAny _ _ (callWith pos (.builtin "ValueError.__init__") [] _ []) _ _ _;rw[hst] at hA |-;refine kh (by show (false||(backTo pos (starEach es X.env)).any (·.1))=false;rw[hpl]<;>rfl) (ng ?_);refine thn hA λus s1 ⟨vs,H1,I1,r1,x,C,rest,ev,hx,hov,hz,q1⟩=>?_;subst ev
 match us,r1 with
 |u::us',.cons ru rr=>
  obtain rfl:u=Value.ref x:=ru;obtain⟨bm,N,nm,q',bs,hd,sn,sub,ab,col,dd,k0,k1,k2,k3,k5,hC,T⟩:=v9 I1.kIn hov;obtain⟨⟨wv,sl,t0,hxo,h0,h1,h2⟩,_⟩:=(show aV X.prog X.w H1 s1.heap x (cV x C none) from I1.hok x _ hx);obtain⟨hh,g,d,tk,os⟩:=s1;refine CO qb T hC hxo h0 (by rw[<-rr.length];exact hz) λh' v0 keep here=>?_;have z0:(0:Nat)<wv.size:=(fG.mp h0).1;have I2:=I1.write (x:=x) (e:=x) (o:=cV x C none) (h':=h') (t':=tk) (by rw[hx];exact True.intro) (.inl rfl) keep ⟨_,here⟩
   (rH here (t0:=v0) (by simp[z0]) (by rw[sU (by decide)];exact h1) (by rw[sU (by decide)];exact h2))
  have e1:upd H1 x (cV x C none)=H1:=by
   funext b;by_cases hb:b=x
   .subst hb;rw[aP,hx]
   rw[ar hb]
  rw[e1] at I2;exact⟨.non,H1,I2,rfl,q1⟩
def Jn(K:W.Frag)(ta tv:TE)(f:Str):TS:=λD Z H=>tv Z H λy H1=>ta Z H1 λx H2=>∃a C,x=.ref a/\H2 a=some (cV a C none)/\fk K C f/\
 ∀dx,H2 dx=none->dx≠a->D.nx Z (upd (upd H2 a (cV a C (some dx))) dx (.xd [(f,y)]))
theorem Fc(ha:PE X o ta)(L:PE X value tv)(M:swapsWith value (some (.Attribute o f apos)) pos.line X.env=pure false):PS X (.Assign [.Attribute o f apos] value pos) (Jn X.K ta tv f):=by
 intro NI s Z H D I h;refine LN (thn (L NI s Z H _ I h) λu s1 ⟨y,H1,N,O,q⟩=>thn (ha NI s1 Z H1 _ N q) λov s2 ⟨x,H2,l,P,a,C,ex,j,Q,R⟩=>?_) M;subst ex;obtain rfl:ov=Value.ref a:=P;obtain⟨⟨wv,sl,t0,S,T,h1,h2⟩,_⟩:=(show aV X.prog X.w H2 s2.heap a (cV a C none) from l.hok a _ j);refine FJ l.kIn S Q λh' dx tk B U keep here Y=>?_;have E:H2 dx=none:=l.hok.none_of' B;have nd:∀b d,s2.heap.get? b=some d->b≠dx:=λb d e z=>by rw[z,B] at e;cases e
 have m:∀b d,H2 b=some d->b≠dx:=λb d e z=>by rw[z,E] at e;cases e
 have na:∀b,H2 b=none->b≠a:=λb e z=>by rw[z,j] at e;cases e
 have up:∀b,b≠dx->b≠a->upd (upd H2 a (cV a C (some dx))) dx (.xd [(f,y)]) b=H2 b:=λb z1 z2=>by rw[ar z1,ar z2]
 have un:Un X.fs [] H2 (upd (upd H2 a (cV a C (some dx))) dx (.xd [(f,y)])) s2.heap h':=by
  refine⟨λb d e n _ _=>keep b d (na b n) e,λb d e n _ _=>⟨d.slots,keep b d (na b n) e⟩,λb d e n _=>by rw[up b (nd b d e) (na b n)];exact n,λb d e _=>?_,λb xs e=>?_,λb d xs e=>?_,λb ps e=>⟨#[],?_⟩⟩
  .by_cases i:b=a
   .rw[i];exact⟨_,here⟩
   exact⟨_,keep b d i e⟩
  .rw[up b (m b _ e) (λz=>by rw[z,j] at e;cases e)];exact e
  .rw[up b (m b _ e) (λz=>by rw[z,j] at e;cases e)];exact e
  rw[up b (m b _ e) (λz=>by rw[z,j] at e;cases e),e];simp
 have hok:HOk X.prog X.w (upd (upd H2 a (cV a C (some dx))) dx (.xd [(f,y)])) h':=λb d e=>by
  by_cases i:b=dx
  .subst i;rw[aP] at e;cases e;refine⟨_,Y,λg=>?_⟩;show cM (List.lookup g [(f,y)]) (if g=f then some u else none);by_cases p:g=f
   .have i:(g==f)=true:=beq_iff_eq.mpr p;simp only[List.lookup,i,ND p];exact O
   have i:(g==f)=false:=beq_eq_false_iff_ne.mpr p;simp only[List.lookup,i,NC p];trivial
  by_cases A:b=a
  .subst A;rw[ar i,aP] at e;cases e;exact rH here T h1 h2
  rw[up b i A] at e;refine (l.hok b d e).stay (λc w' hc r=>keep c w' (λz=>?_) r) (λc r=>?_) λc xs r=>?_
  .rcases hc with v | v
   .exact A (v.symm.trans z)
   rw[z,j] at v;cases v
  .rw[up c (m c _ r) (λz=>by rw[z,j] at r;cases r)];exact r
  rw[up c (m c _ r) (λz=>by rw[z,j] at r;cases r)];exact r
 exact⟨Z,_,l.un (t':=tk) un hok,R dx E U⟩
def IE(K:W.Frag)(ta:TE)(f:Str):TE:=λZ H Q=>ta Z H λx H1=>∃a C dx fs v,x=.ref a/\H1 a=some (dz a (.ref C) (some dx))/\H1 dx=some (.xd fs)/\jb K C/\fk K C f/\fs.lookup f=some v/\Q v H1
theorem Fg(he:PE X e ta)(g:attributeBase e f X.env (eval e X.env)=eval e X.env):PE X (.Attribute e f pos) (IE X.K ta f):=by
 intro NI s Z H Q I h;refine xI g (thn (he NI s Z H _ I h) λu s1 ⟨x,H1,b,i,a,C,dx,fs,v,ex,j,m,c,n,l,q⟩=>?_);subst ex;obtain rfl:u=Value.ref a:=i;obtain⟨⟨E,vs,h1,h2,p,r,_⟩,_⟩:=(show aV X.prog X.w H1 s1.heap a (dz a (.ref C) (some dx)) from b.hok a _ j);obtain⟨mA,y,z⟩:=(show aV X.prog X.w H1 s1.heap dx (.xd fs) from b.hok dx _ m);obtain⟨od,A,B⟩:=qD y;obtain⟨L,D,d⟩:=cM.some_of (v:=v) (o:=mA f) (by rw[<-l];exact z f);refine FL b.kIn c n ⟨h1,h2,?_,?_⟩ (by rw[B f,D]) (vz d) ⟨v,H1,b.tok _,d,q⟩
 .unfold W.notCls;rw[r]
 rw[p];exact A
end
structure j_(K:W.Frag)(C f:Addr):Prop where
 over:j3 K C=true
 init:findIn K (.ref C) "__init__" = some (some (.ref f))
 fn:typeIn K (.ref f)=some (.type "function")
 kp:keepIn K (.ref C)=true
def del(H:Hp)(x:Addr):Hp:=λb=>if b=x then none else H b
theorem eL{x b:Addr}(h:b≠x):del H x b=H b:=by unfold del;rw[NC h]
theorem wo{x:Addr}:del H x x=none:=by unfold del;rw[ND rfl]
section
variable {E:XK}{k:Nat}{x:Str}{C f:Addr}{ps:List Str}{sp:Sp}{np cpos pos:Pos}{e:Expr}{es:List Expr}{t:TA}
def EC(E:XK)(C:Addr)(sp:Sp)(t:TA):TS:=λ_ Z H=>t Z H λvs H1=>vs.length<=sizeLine/\∀x,H1 x=none->sp (.ref x::vs) (upd H1 x (cV x C none)) (λv H2=>v=.non/\∃d,H2 x=some (cV x C d)/\E (.ref C) d (del H2 x)) E0
theorem qA(hE:Lets X E)(hc:X.calm=true)(hnx:X.ex=[])(M:j_ X.K C f)(F:aj X.prog X.w X.K X.mg X.base CX0 k f fd ps sp)(hr:Room (k+1) X.A)(hb:Binds X.K fd ps [])(hg:Gl X x)(hm:X.mg x=some (.ref C))(ha:PA X (e::es) t)
  (he:starEach (e::es) X.env=(false,eval e X.env)::starEach es X.env:=by rfl) (hpl:(backTo cpos (starEach es X.env)).any (·.1)=false:=by rfl) (hd:(x==("__debug__" : Str))=false:=by decide) :
  PS X (.Raise (some (.Call (.Name x np) (e::es) [] cpos)) none pos) (EC E C sp t):=by
 intro NI s Z H D I h;obtain⟨bm,N,nm,q',bs,hdc,sn,sub,ab,col,dd,k0,k1,k2,k3,k5,hC,T⟩:=v9 I.ok.mod.kin M.over;rw[arm_exec_Raise];show wpAny _ _ (do standAt pos;raiseStmt X.env (some (do let v <-eval (.Call (.Name x np) (e::es) [] cpos) X.env;standAt pos;pure v)) none) _ _ _;refine aa (kB (Bt (nm:=nm) (q:=q') (C:=C) (N:=N) (bs:=bs) (bm:=bm) (hdct:=hdc) (sn:=sn) (sub:=sub) (ab:=ab) (col:=col) (dd:=dd) (k0:=k0) (k1:=k1) (k2:=k2) (k3:=k3) (k5:=k5) (newId:="ValueError.__new__") (T.hasType qb.hasBase) (I.ok.hd hc) ?_));refine aa (cC (qh (iZ I hg hm ?_ hd)) (λv s₃ h₃=>aa (kB (ag h₃))) λ_ _ z=>z);refine callWith_K (h₀:=X.base) I.ok.mod.kin M.kp (thn (ha cpos NI s Z H _ I h) λus s1 ⟨vs,H1,I1,r,hz,q⟩=>⟨I1.kIn,?_⟩) he hpl;obtain⟨hh,g,d,tk,os⟩:=s1;show wpAny _ _ (call (.ref C) us) _ _ _;refine CN qb (T.keeps I1.bk) I1.kIn (I1.bk _ _ hC) M.init M.fn (λh' x' me=>?_) (by rw[<-r.length];exact hz);obtain⟨tt,hx',_,_⟩:=me.there;have hnew:hh.get? x'=none:=me.new;have hxH:H1 x'=none:=I1.hok.none_of' hnew;have hok1:HOk X.prog X.w (upd H1 x' (cV x' C none)) h':=λb ob e=>by
  by_cases hb:b=x'
  .subst hb;rw[aP] at e;cases e;exact rH hx' rfl rfl rfl
  rw[ar hb] at e;exact (I1.hok b ob e).stay (λc w' _ r=>me.keeps c w' r) (λc r=>by rw[ar (aq r hxH)];exact r) λc xs r=>by rw[ar (aq r hxH)];exact r
 have e0:iC X.prog X.w X.K X.mg X.base X.A X.stack ⟨h',g,d,tk,os⟩ (upd H1 x' (cV x' C none)):=by
  have E1:=I1.env0;refine⟨E1.frames,E1.mod,λb ob e=>?_,?_,E1.funs.of_keeps λb o hb _=>⟨o,me.keeps _ _ hb,rfl⟩,λb hb=>?_,hok1,E1.bare⟩
  .obtain⟨a1,a2⟩:=E1.bs b ob e;exact⟨me.keeps _ _ a1,by rw[ar (λz=>by rw[z] at a1;have a1:hh.get? x'=_:=a1;rw[hnew] at a1;cases a1)];exact a2⟩
  .obtain⟨m,⟨o,es,ep,ho,_⟩,_⟩:=I1.loc;exact br I1.ok.bsz (br I1.ok.above (km (aE (me.keeps _ _ ho))))
  rw[ar (λz=>?_)];exact E1.frf b hb;obtain⟨_,o,ho,_⟩:=E1.funs.mem hb;rw[z] at ho;have ho:hh.get? x'=_:=ho;rw[hnew] at ho;cases ho
 have hl:(Value.ref x'::us++[]).length=ps.length:=by have e:=(show Vals (V.ref x'::vs) (Value.ref x'::us) from .cons rfl r).length;rw[F.len _ _ _ _ (q x' hxH)] at e;rw[fM];exact e.symm
 have kin':X.K.In h':=I1.kIn.keeps me.keeps;have bb:=hb ⟨h',g,d,tk,os⟩ (Value.ref x'::us) kin' hl;rw[fM] at bb;refine jz (qf (F.run _ X.stack _ _ ⟨Value.ref x'::us,[]⟩ (Value.ref x'::us) (V.ref x'::vs) _ E0 (hr.make C us []) (e0.make C us []) bb (.cons rfl r) (q x' hxH)) λr' s' hq'=>?_);cases r' with
 |error e=>exact hq'.elim
 |ok fl=>
  cases fl with
  |next=>exact hq'.elim
  |brk=>exact hq'.elim
  |cont=>exact hq'.elim
  |ret u=>
   obtain⟨v,H',os',bare',un',hok',rv,ev,d',hx2,q2⟩:=hq';subst ev;have os':s'.os=os:=os';refine⟨rv,?_⟩;have nx:∀b ob,hh.get? b=some ob->b≠x':=λb ob e z=>by rw[z,hnew] at e;cases e
   have nxH:∀b ob,H1 b=some ob->b≠x':=λb ob e z=>by rw[z,hxH] at e;cases e
   have un:Un (frs X.stack) [] H1 (del H' x') hh s'.heap:=by
    refine⟨λb ob e n hb hx=>un'.keep b ob (me.keeps _ _ e) (by rw[ar (nx b ob e)];exact n) hb hx,λb ob e n hb hx=>un'.slot b ob (me.keeps _ _ e) (by rw[ar (nx b ob e)];exact n) hb hx,
     λb ob e n hx=>by rw[eL (nx b ob e)];exact un'.free b ob (me.keeps _ _ e) (by rw[ar (nx b ob e)];exact n) hx,λb ob e hx=>un'.there b ob (me.keeps _ _ e) hx,
     λb xs e=>by rw[eL (nxH b _ e)];exact un'.tups b xs (by rw[ar (nxH b _ e)];exact e),λb ob xs e=>by rw[eL (nxH b _ e)];exact un'.frzs b ob xs (by rw[ar (nxH b _ e)];exact e),λb ps e=>?_⟩
    obtain⟨more,z⟩:=un'.tbls b ps (by rw[ar (nxH b _ e)];exact e);exact⟨more,by rw[eL (nxH b _ e)];exact z⟩
   have hok2:HOk X.prog X.w (del H' x') s'.heap:=λb ob e=>by
    have hb:b≠x':=λz=>by rw[z,wo] at e;cases e
    rw[eL hb] at e;refine (hok' b ob e).stay (λ_ _ _ r=>r) (λc r=>?_) λc xs r=>?_
    .rw[eL (λz=>by rw[z,hx2] at r;cases r)];exact r
    rw[eL (λz=>by rw[z,hx2] at r;cases r)];exact r
   have I3:=I1.call' (ch:=[]) os' un hok2 bare' (λb z=>absurd z (by simp));obtain⟨⟨wv,sl,t0,hxo,h0,h1,h2⟩,_⟩:=(show aV X.prog X.w H' s'.heap x' (cV x' C d') from hok' x' _ hx2);refine⟨x',d',wv,sl,rfl,I3.bk _ _ hC,hxo,h1,?_⟩;refine hE NI Z _ s' x' (.ref C) d' I3 ⟨_,wv,hxo,rfl,rfl,rfl,h2,.inl h1⟩ (I1.oldNone hnew (by rw[hnx];simp)) (λp hp z=>?_) wo q2;have e:=(I1.pin p hp).1;rw[z] at e;have e:hh.get? x'=_:=e;rw[hnew] at e;cases e
end
end L2
end
section
namespace L2
open PySem PySem.Spec PyProof.Rows
section
def JB(K:W.Frag):V->Hp->VK->Prop:=λx H Q=>∃d:PyData,Dt K H x d/\d.showable=true/\d.depth<=60/\d.shown.length<=sizeLine/\Q (.str d.shown) H
theorem Fh{e:Expr}{te:TE}{pos:Pos}(o:X.A.units+64<cLine)(j:X.A.guards=some [])(he:PE X e te):PE X (.FormattedValue e 114 none pos) (tUn (JB []) te):=by
 intro NI s Z H Q I h;refine wpAny_FormattedValue_repr (thn (he NI s Z H _ I h) λu s1 ⟨x,H1,a,c,d,hd,g,p,f,q⟩=>?_);obtain⟨as,l⟩:=Dt.reads a d x u hd c;have m:=PyData.hasDict_of_canLay d (Dt.can d x hd);have fin:∀(s2:Shared)(t:Tok),Inv X NI Z H1 s2->wpAny (model X.prog X.w) X.A (formatField (.str d.shown t) Str.empty) (EP X NI Z Q) X.xe s2:=λs2 t n=>
  Ma ⟨.str d.shown,H1,n,⟨_,rfl⟩,q⟩ ⟨.str d.shown,H1,n.tok _,⟨_,rfl⟩,q⟩ f
 cases hd with
 |non=>cases c;exact pyReprObj_none (fin _ _ (a.tok _))
 |bl b=>cases c;exact pyReprObj_bool (fin _ _ (a.tok _))
 |int i=>obtain⟨t,rfl⟩:=c;exact pyReprObj_int (by simpa [PyData.showable] using g) (fin _ _ (a.tok _))
 |str y r=>obtain⟨t,rfl⟩:=c;exact pyReprObj_str (fin _ _ (a.tok _)) (hx:=f)
 |lst h1 h2=>
  cases c;exact LO l g (KZ m) j (by lia) (λ_ _ z=>z) (λh' u tk k=>fin _ _ (a.kept k)) (hsz:=f)
 |tup h1 h2=>
  cases c;exact LO l g (KZ m) j (by lia) (λ_ _ z=>z) (λh' u tk k=>fin _ _ (a.kept k)) (hsz:=f)
end
end L2
end
section
namespace K15
open PySem L2 K51 K31
def BU(K:W.Frag)(vs:List V)(H:Hp)(Q:VK)(x C:Addr)(v:V)(d:PyData):Prop:=vs=[.ref x,v]/\H x=some (cV x C none)/\j3 K C=true/\fk K C "fault"/\
 (Dt [] H v d/\d.showable=true/\d.depth<=60/\d.shown.length<=10000)/\∀dx,H dx=none->dx≠x->Q .non (upd (upd H x (cV x C (some dx))) dx (.xd [("fault",v)]))
def kS(K:W.Frag):Sp:=λvs H Q _=>Exists (Ex4 (BU K vs H Q))
section
theorem Dj:a7 ["self","fault"] ["self","fault"] (aC ib):=by walk_at"sc"
theorem B8{f S:Addr}(U:Fun K "__init__" "NoSkin.__init__" ib f fd)(e:mg "ShapeError" = some (.ref S))(b:BInit K S):aj P w K mg base CX0 1 f fd ["self","fault"] (kS K):=by
 refine U.ok Dj (by rintro _ _ _ _ ⟨_,_,_,_,rfl,_⟩;rfl) λm A outer s H vs Q E a h=>?_
 obtain⟨x,C,v,d,rfl,hx,g,hf,⟨i,j,l,n⟩,q⟩:=h;refine⟨_,af (cZ (DE rfl e b (ae (pv 0) (pa1 (xo (lI bB (lI (Fh a.units a.gu (pv 1)) yj))))))) (ai (Fc (pv 0) (pv 1) rfl)),?_⟩;have o:(Str.empty++("no skin: " : Str)).length<=20:=by decide +kernel
 have p:10020<=sizeLine:=by rw[dg];lia
 have c:((Str.empty++("no skin: " : Str))++d.shown).length<=sizeLine:=by rw[gU];lia
 refine⟨_,rfl,_,rfl,by lia,_,rfl,d,i,j,l,by lia,_,rfl,c,c,x,C,_,rfl,hx,g,by show 1<=sizeLine;lia,?_⟩;exact⟨_,rfl,_,rfl,x,C,rfl,hx,hf,λdx h1 h2=>q dx h1 h2⟩
end
def pP(c:Nat):PyData:=.tuple [.str "round",.int (c:Int)]
theorem Eb{c:Nat}(h:c<10 ^ 160):(pP c).showable=true/\(pP c).depth<=60/\(pP c).shown.length<=10000:=by
 refine⟨?_,?_,?_⟩
 .show (true&&(decide (((c:Nat):Int).natAbs.log2<1920)&&true))=true;rw[NF (iP h)];rfl
 .show max 0 (max 0 0)+1<=60;decide
 have h1:((toString ((c:Nat):Int):String):Str).length<=160:=by rw[oA,bE];exact kI 159 c h
 show (tupleText [reprText "round",(toString ((c:Nat):Int):String)]).length<=10000;have h2:(reprText "round").length<=20:=by decide +kernel
 unfold tupleText;rw[gU,gU];have a:=An [reprText "round",(toString ((c:Nat):Int):String)] (by simp);have b:(("(" : Str)).length=1:=by decide +kernel
 have d:(Str.ofString ")").length=1:=by decide +kernel
 have e:piled [reprText "round",((toString ((c:Nat):Int):String):Str)]<=300:=by generalize ((toString ((c:Nat):Int):String):Str)=z at h1;simp[piled];lia
 show _+_+(Str.ofString ")").length<=_;lia
def EM(C:Addr)(vs:List V)(H:Hp)(Q:VK)(E:XK)(S:Addr)(ts:List Tri)(L:List (Nat×Addr)):Prop:=vs=[.ref S]/\H S=some (.dK (L.map stV))/\(L.map (·.1)).Nodup/\(∀x∈L,Rd H x.2 (.dK ((abt (ents ts) x.1).map nmV)))/\
 (∀c,c∈L.map (·.1)↔Co ts c)/\L.length<5000/\ts.length<=200/\Good ts/\((∀c,Co ts c->One (En ts) c)\/∀c,Co ts c->c<10 ^ 160)/\
 (∀H',Sm H H'->(∀c,Co ts c->One (En ts) c)->Q .non H')/\
 ∀(c:Nat) d t H',Sm H H'->H' d=some (.xd [("fault",.ref t)])->H' t=some (.tup [.str "round",.int (c:Int)])->Co ts c->¬One (En ts) c->(∀a,Co ts a->a<c->One (En ts) a)->E (.ref C) (some d) H'
def xX(C:Addr):Sp:=λvs H Q E=>Exists (Ex3 (EM C vs H Q E))
theorem IB{ts:List Tri}(g:Good ts)(c:Nat):Abt (En ts) c (abt (ents ts) c):=⟨IC g.nd c,λ_ _=>oR⟩
section
theorem xg:a7 ["steps","corner"] ["steps"] (aC lW):=by walk_at"sc"
theorem DQ{f f1 R C:Addr}{fd d1 T:FuncData}(U:Fun K "look_rounds_through" "look_rounds_through" lW f fd)(mS:mg "sorted" = none)(G:Use P w K mg base 2 "hang_together" ["about"] xY f1 d1)
  (M:j_ K C R) (cf:fk K C "fault") (F:aj P w K mg base CX0 1 R T ["self","fault"] (kS K)) (b2:Binds K T ["self","fault"] []) (mC:mg "NoSkin" = some (.ref C)) :
  aj P w K mg base (CX1 P w) 3 f fd ["steps"] (xX C):=by
 refine U.ok1 xg (λvs H Q E h=>?_) (λNJ A outer s H vs Q E y h=>?_)
 .obtain⟨S,ts,L,rfl,_⟩:=h;rfl
 obtain⟨S,ts,L,rfl,r,nk,an,B,hL,hl,g,ap,q1,q2⟩:=h;have hu:=dv y;refine⟨_,ai (b_ qa rfl (bI (bH (nQ rfl) (by rfl) mS iN (pa1 (pv 0)))) (gx 1 xg.nd)
  (ai (bo (eJ (dq (uc G y (pa1 (jP hu (pv 0) (pv 1) (λ_ _=>rfl)))))) (ai (qA lets1 rfl rfl M F y b2 rfl mC (pa1 (aO (ae bB (pa1 (pv 1))))))) bj))),?_⟩
 have bb:=line5000;refine⟨_,rfl,S,rfl,.inl ⟨_,r⟩,λks vs hk=>.inl ⟨(L.map (·.1)).map (λc:Nat=>(c:Int)),?_,by rw[ao,ao];exact hL,λp ms hp pm ps=>?_⟩⟩
 .rcases hk with ⟨kvs,e,rfl,_⟩|⟨kvs,as,e,_⟩
  .rw[r] at e;cases e;rw[bU,bU,bU];rfl
  rw[r] at e;cases e
 obtain⟨cs,rfl,pl,pc⟩:=qv nk pm ps;have e:(cs.map (λc:Nat=>(c:Int))).map V.int=nV cs:=by rw[bU];rfl
 rw[e];walk_at"H p hp H1 s1 X";refine⟨p,rfl,⟨_,SqL.of X⟩,dh (K:=[]) (a:=p) (xs:=nV cs) (λi Z H'=>∃D,Z=[some (.ref S),D]/\Sm H1 H'/\∀c∈cs.take i,One (En ts) c) ⟨none,rfl,Sm.refl _,by simp⟩ (λi Z H' _ ⟨_,_,e,_⟩=>SqL.of (e.keep X (λz=>z))) ?_ ?_⟩
 .rintro i x Z H2 hi ⟨D,rfl,sm,m⟩;rw[nV,aY] at hi;obtain⟨c,d,rfl⟩:=bW.mp hi;have Y:c∈L.map (·.1):=pc.mem_iff.mp (a8 d);have u:Co ts c:=(B c).mp Y;obtain⟨a,ha,au⟩:=rM Y;have ab:Sm H H2:=(Sm.of s1).trans sm;have aM:=ab.rd (an _ ha);have et:cs.take (i+1)=cs.take i++[c]:=by rw[ba,d];rfl
  have aS:abt (ents ts) c≠[]:=λz=>by
   obtain⟨p',q',h⟩:=u;have:=oR.mpr h;rw[z] at this;cases this
  have hlen:(abt (ents ts) c).length<=1000:=by have:=xK (ents ts) c;rw[fc] at this;lia
  refine⟨_,rfl,_,rfl,S,_,rfl,.inl ⟨_,Sum.inl (c:Int),ab.rd (.inl r),rfl,au.symm⟩,a,_,En ts,c,rfl,aM,aS,hlen,g.sk,IB g c,λb H3 ad hb=>?_⟩;refine⟨_,rfl,?_⟩;cases b with
  |true=>
   refine kg ⟨_,rfl,sm.trans ad,λn v=>?_⟩;rw[et] at v;rcases aW.mp v with h|h
   .exact m n h
   rw[aR.mp h];exact hb.mp rfl
  |false=>
   have al:¬One (En ts) c:=λz=>by have:=hb.mpr z;cases this
   have a0:c<10 ^ 160:=(ap.resolve_left λz=>al (z c u)) c u;obtain⟨a1,a2,a3⟩:=Eb a0;refine j6 ⟨_,rfl,lit2,λt H4 ht s4 l=>?_⟩;refine⟨lit1,λx hx=>?_⟩;refine⟨x,C,.ref t,pP c,rfl,aP,M.over,cf,⟨.tup (SqT.of (bQ hx _ _ l)) (.cons (.str _ (by decide +kernel)) (.cons (.int _) .nil)),a1,a2,a3⟩,λdx am I=>⟨rfl,some dx,?_,?_⟩⟩
   .rw[ar (aB I),aP]
   have N:H4 dx=none:=by rw[ar I] at am;exact am
   refine q2 c dx t _ (λb o e=>?_) ?_ ?_ u al λn v bd=>m n ?_
   .rcases ((Sm.of s1).trans (sm.trans (ad.trans (Sm.of s4)))) b o e with z|⟨z1,ob,z⟩
    .refine .inl ?_;rw[eL (aq z hx),ar (aq z N),ar (aq z hx),ar (aq z hx)];exact z
    refine .inr ⟨z1,ob,?_⟩;rw[eL (aq z hx),ar (aq z N),ar (aq z hx),ar (aq z hx)];exact z
   .rw[eL I,aP]
   .rw[eL (aq l hx),ar (aq l N),ar (aq l hx),ar (aq l hx)];exact l
   have hm:n∈cs:=pc.mem_iff.mpr ((B n).mpr v);obtain⟨j,q⟩:=fN hm;have a4:=(aG.mp q).1;have a5:=(aG.mp d).1;have O:j<i:=by
    refine nh λz=>?_;by_cases O:j=i
    .subst O;rw[d] at q;cases q;lia
    have:=tR.mp pl i j a5 a4 (by lia);rw[(aG.mp d).2,(aG.mp q).2] at this;lia
   exact a8 (by rw[pZ,ND O];exact q)
 rintro Z H2 ⟨D,rfl,sm,m⟩;rw[bM,bV] at m;exact q1 H2 ((Sm.of s1).trans sm) λc d=>m c (pc.mem_iff.mpr ((B c).mpr d))
end
def sI(H:Hp)(d:Addr)(xs:List V):Prop:=∃t,H d=some (.xd [("fault",.ref t)])/\H t=some (.tup xs)
theorem vV{C g t:Addr}{d:PyData}{a:Hp}{E:XK}(M:j_ K C g)(h:fk K C "fault")(j:a t=some (.tup xs))(hd:∀H',Same a H'->Dt [] H' (.ref t) d)
  (c:d.showable=true/\d.depth<=60/\d.shown.length<=10000) (q:∀dx H',Same a H'->H' dx=some (.xd [("fault",.ref t)])->E (.ref C) (some dx) H') :
  [V.ref t].length<=sizeLine/\∀x,a x=none->kS K [.ref x,.ref t] (upd a x (cV x C none)) (λv H2=>v=.non/\∃d,H2 x=some (cV x C d)/\E (.ref C) d (del H2 x)) E0:=by
 refine⟨lit1,λx hx=>?_⟩;refine⟨x,C,.ref t,d,rfl,aP,M.over,h,⟨hd _ (bQ hx),c.1,c.2.1,c.2.2⟩,λdx f e=>⟨rfl,some dx,?_,?_⟩⟩
 .rw[ar (aB e),aP]
 have i:a dx=none:=by rw[ar e] at f;exact f
 refine q dx _ (λb o z=>?_) ?_
 .rw[eL (aq z hx),ar (aq z i),ar (aq z hx),ar (aq z hx)];exact z
 rw[eL e,aP]
def A7(K:W.Frag)(C:Addr)(vs:List V)(H:Hp)(Q:VK)(E:XK)(T:Addr)(a:List V)(os:List (Option Tri)):Prop:=vs=[.ref T]/\H T=some (.lst a)/\mH K H a os/\os.length<=400/\
 (∀r b (ts:List Tri) H',os=ts.map some->H r=none->Same H H'->H' r=some (.lst b)->aw H' b ts->(∀t∈ts,t.1≠t.2.1/\t.2.1≠t.2.2/\t.2.2≠t.1)->Q (.ref r) H')/\
 ∀(k:Nat) d H',os[k]?=some none->(∃ts:List Tri,os.take k=ts.map some)->Same H H'->sI H' d [.str "triple",.int (k:Int)]->E (.ref C) (some d) H'
def uG(K:W.Frag)(C:Addr):Sp:=λvs H Q E=>Exists (Ex3 (A7 K C vs H Q E))
def pC(k:Nat):PyData:=.tuple [.str "triple",.int (k:Int)]
theorem BQ{c:Nat}(h:c<10 ^ 160):(pC c).showable=true/\(pC c).depth<=60/\(pC c).shown.length<=10000:=by
 refine⟨?_,?_,?_⟩
 .show (true&&(decide (((c:Nat):Int).natAbs.log2<1920)&&true))=true;rw[NF (iP h)];rfl
 .show max 0 (max 0 0)+1<=60;decide
 have h1:((toString ((c:Nat):Int):String):Str).length<=160:=by rw[oA,bE];exact kI 159 c h
 show (tupleText [reprText "triple",(toString ((c:Nat):Int):String)]).length<=10000;have h2:(reprText "triple").length<=20:=by decide +kernel
 unfold tupleText;rw[gU,gU];have a:=An [reprText "triple",(toString ((c:Nat):Int):String)] (by simp);have b:(("(" : Str)).length=1:=by decide +kernel
 have d:(Str.ofString ")").length=1:=by decide +kernel
 have e:piled [reprText "triple",((toString ((c:Nat):Int):String):Str)]<=300:=by generalize ((toString ((c:Nat):Int):String):Str)=z at h1;simp[piled];lia
 show _+_+(Str.ofString ")").length<=_;lia
theorem qz{n:Nat}(h:n<=1000):n<10 ^ 160:=zT h (by decide)
section
theorem Ba{f f1 f2 C:Addr}{fd d1 d2:FuncData}(U:Fun K "checked_triples" "checked_triples" jG f fd)(T:cq mg)(G:Use P w K mg base 3 "is_triple" ["thing"] (nU K) f1 d1)
  (M:j_ K C f2) (cf:fk K C "fault") (F:aj P w K mg base CX0 1 f2 d2 ["self","fault"] (kS K)) (b2:Binds K d2 ["self","fault"] []) (mC:mg "NoSkin" = some (.ref C)) :
  aj P w K mg base (CX1 P w) 4 f fd ["things"] (uG K C):=by
 refine U.ok1 iQ (λvs H Q E h=>?_) (λNJ A outer s H vs Q E hr h=>?_)
 .obtain⟨T,y,ts,rfl,_⟩:=h;rfl
 obtain⟨B,y,os,rfl,hT,ht,hl,q,qE⟩:=h;have al:Room 2 (A.deeper (PyProof.Rows.envOfC "checked_triples" (aC jG) s.heap.objs.size f NJ)):=hr.mono (by decide);refine⟨_,af (sx 1 iQ.nd (bF du))
  (af (b_ qa rfl (lJ rfl T.enum (pa1 (pv 0))) (cX rfl (aX (gx 2 iQ.nd) (aX (gx 3 iQ.nd) cR)))
   (af (bo (eJ (dq (uc G hr (pa1 (pv 3))))) (ai (qA lets1 rfl rfl M F al b2 rfl mC (pa1 (aO (ae bB (pa1 (pv 2))))))) bj)
   (af (gk (pv 3) (cX rfl (aX (gx 4 iQ.nd) (aX (gx 5 iQ.nd) (aX (gx 6 iQ.nd) cR)))))
   (ai (cZ (cA dD eX eY dP (pv 1) (pa1 (aO (ae (cP og (by rfl) T.int gQ (pa1 (pv 4))) (ae (cP og (by rfl) T.int gQ (pa1 (pv 5))) (pa1 (cP og (by rfl) T.int gQ (pa1 (pv 6))))))))))))))
  (ai (aN (pv 1)))),?_⟩
 have ap:=line5000;have hlen:=aF ht;refine⟨aJ _,λr H1 ab s1 y1=>?_⟩;refine⟨_,rfl,B,y,rfl,SqL.of (s1 _ _ hT),k_ (K:=[]) (a:=B) (xs:=y) (λi Z H'=>∃D I L N O n,∃ts:List Tri,Z=[some (V.ref B),some (.ref r),D,I,L,N,O]/\Same H H'/\H' r=some (.lst n)/\aw H' n ts/\os.take i=ts.map some/\∀t∈ts,t.1≠t.2.1/\t.2.1≠t.2.2/\t.2.2≠t.1)
  ⟨none,none,none,none,none,[],[],rfl,s1,y1,.nil,rfl,by simp⟩ (λi Z H' _ ⟨_,_,_,_,_,_,_,_,e,_⟩=>SqL.of (e _ _ hT)) ?_ ?_⟩
 .rintro i x p Z H2 hi ⟨D,I,L,N,O,n,ts,rfl,sm,u,tr,j,R⟩ hp;obtain⟨o,S,ad⟩:=cw ht hi;have au:i<os.length:=(aG.mp S).1;have et:os.take (i+1)=os.take i++[o]:=by rw[ba,S];rfl
  walk_at"H2 p hp H3 g y3";refine⟨p,_,rfl,SqT.of y3,rfl,_,_,rfl,_,_,rfl,rfl,?_⟩;refine⟨_,rfl,x,o,rfl,Th.same (sm.trans g) ad,_,rfl,?_⟩;cases o with
  |none=>
   refine j6 ⟨_,rfl,lit2,λt H4 aM v l=>?_⟩;refine vV (d:=pC i) M cf l (λH' s'=>.tup (SqT.of (s' _ _ l)) (.cons (.str _ (by decide +kernel)) (.cons (.int _) .nil))) (BQ (qz (by lia))) λdx H' s5 e5=>?_;exact qE i dx H' S ⟨ts,j⟩ (((sm.trans g).trans v).trans s5) ⟨t,e5,s5 _ _ l⟩
  |some t3=>
   obtain⟨⟨t,rfl,X⟩,n3⟩:=Th.tri ad;obtain⟨a,b,c⟩:=t3;have X:H t=some (.tup [.int (a:Int),.int (b:Int),.int (c:Int)]):=X;refine kg ⟨_,rfl,t,_,rfl,SqT.of (g _ _ (sm _ _ X)),rfl,_,_,rfl,_,_,rfl,_,_,rfl,rfl,?_⟩;refine⟨_,rfl,.inl ⟨rfl,_,SqL.of (g _ _ u)⟩,_,rfl,.inl ⟨_,rfl,_,rfl,.inl ⟨_,rfl,_,rfl,.inl ⟨_,rfl,lit3,λt1 H4 g1 v l=>?_⟩⟩⟩⟩;have Y:=v _ _ (g _ _ u);have l1:=aF tr;have l2:=congrArg List.length j;rw[bf,ao] at l2;refine⟨r,_,_,rfl,rfl,Y,by lia,λH5 k5 y5=>?_⟩;have am:H r=none:=ab;have n1:∀m o,H m=some o->m≠r:=λm o e=>aq e am;refine⟨_,_,_,_,_,_,ts++[(a,b,c)],rfl,λm o e=>(k5 m (n1 m o e)).trans (v _ _ (g _ _ (sm _ _ e))),y5,?_,?_,?_⟩
   .exact cJ (Paired.imp' (λv' t' ⟨a',e,hh⟩=>⟨a',e,(k5 a' (λz=>by rw[z,u] at hh;cases hh)).trans (v _ _ (g _ _ hh))⟩) tr) (.cons ⟨t1,rfl,(k5 t1 (λz=>by rw[<-z,l] at Y;cases Y)).trans l⟩ .nil)
   .rw[et,j,aQ];rfl
   intro t an;rcases aW.mp an with z|z
   .exact R t z
   rw[aR.mp z];exact n3
 rintro Z H2 ⟨D,I,L,N,O,n,ts,rfl,sm,u,tr,j,R⟩;rw[hlen,bV] at j;exact⟨_,rfl,q r n ts H2 j ab sm u tr R⟩
end
def ent3(t:Tri):List Ent:=[((t.1,t.2.1),t.2.2),((t.2.1,t.2.2),t.1),((t.2.2,t.1),t.2.1)]
def SdF(ts:List Tri)(k:Nat)(s:Nat×Nat):Prop:=((ents (ts.take k)).map (·.1)).Nodup/\∃t j,ts[k]?=some t/\((ent3 t).map (·.1))[j]?=some s/\s∈(ents (ts.take k)).map (·.1)/\∀s'∈((ent3 t).map (·.1)).take j,s'∉(ents (ts.take k)).map (·.1)
def FltS(H:Hp)(d:Addr)(k m n:Nat):Prop:=∃t u,H d=some (.xd [("fault",.ref t)])/\H t=some (.tup [.str "side",.int (k:Int),.ref u])/\H u=some (.tup [.int (m:Int),.int (n:Int)])
def Bm(C:Addr)(vs:List V)(H:Hp)(Q:VK)(E:XK)(T:Addr)(a:List V)(ts:List Tri):Prop:=vs=[.ref T]/\H T=some (.lst a)/\aw H a ts/\ts.length<=400/\(∀t∈ts,t.1≠t.2.1/\t.2.1≠t.2.2/\t.2.2≠t.1)/\(((ents ts).map (·.1)).Nodup\/∀t∈ts,t.1<10 ^ 160/\t.2.1<10 ^ 160/\t.2.2<10 ^ 160)/\
 (∀D H',((ents ts).map (·.1)).Nodup->H D=none->Same H H'->H' D=some (.dT ((ents ts).map bD))->Q (.ref D) H')/\
 ∀k m n d H',SdF ts k (m,n)->Same H H'->FltS H' d k m n->E (.ref C) (some d) H'
def u_(C:Addr):Sp:=λvs H Q E=>Exists (Ex3 (Bm C vs H Q E))
theorem qI(ts:List Tri)(t:Tri):ents (ts++[t])=ents ts++ent3 t:=by rw[fe];simp[ents,ent3]
theorem SdF.not{ts:List Tri}{k:Nat}{s:Nat×Nat}(h:SdF ts k s):¬((ents ts).map (·.1)).Nodup:=λnd=>by
 obtain⟨_,t,j,a,b,c,_⟩:=h;rw[<-f_ (k+1) ts,fe,aQ,cY] at nd;have nd:=nd.1;rw[ba,a] at nd;have nd:((ents (ts.take k++[t])).map (·.1)).Nodup:=nd;rw[qI,aQ,cY] at nd;exact nd.2.2 _ c _ (a8 b) rfl
theorem xA{t:Tri}(h:t.1≠t.2.1/\t.2.1≠t.2.2/\t.2.2≠t.1):((ent3 t).map (·.1)).Nodup:=by obtain⟨a,b,c⟩:=t;obtain⟨h1,h2,d⟩:=h;have h1:a≠b:=h1;have h2:b≠c:=h2;have d:c≠a:=d;simp[ent3];lia
def pD(k m n:Nat):PyData:=.tuple [.str "side",.int (k:Int),.tuple [.int (m:Int),.int (n:Int)]]
theorem oK{c:Nat}(h:c<10 ^ 160):((toString ((c:Nat):Int):String):Str).length<=160:=by rw[oA,bE];exact kI 159 c h
theorem vY{n:Nat}:∀{xs:List Str},(∀x∈xs,x.length<=n)->piled xs<=xs.length*(n+2)
 | [],_=>by simp[piled]
 |x::xs,h=>by
  have h1:=h x (by simp);have h2:=vY (n:=n) (xs:=xs) λy a=>h y (by simp[a]);have b:piled (x::xs)=x.length+2+piled xs:=by simp[piled]
  rw[b,bz,p_];lia
theorem wG{xs:List Str}{n:Nat}(h1:2<=xs.length)(h:∀x∈xs,x.length<=n):(tupleText xs).length<=xs.length*(n+2)+3:=by
 unfold tupleText;rw[gU,gU];have a:=An xs (λz=>by rw[z] at h1;simp at h1);have b:(("(" : Str)).length=1:=by decide +kernel
 have c:(Str.ofString ")").length=1:=by decide +kernel
 have d:=vY h;rw[NC (by simp;lia)];show _+_+(Str.ofString ")").length<=_;lia
theorem BY{k m n:Nat}(a:k<10 ^ 160)(hm:m<10 ^ 160)(b:n<10 ^ 160):(pD k m n).showable=true/\(pD k m n).depth<=60/\(pD k m n).shown.length<=10000:=by
 refine⟨?_,?_,?_⟩
 .show (true&&(decide (((k:Nat):Int).natAbs.log2<1920)&&((decide (((m:Nat):Int).natAbs.log2<1920)&&(decide (((n:Nat):Int).natAbs.log2<1920)&&true))&&true)))=true;rw[NF (iP a),NF (iP hm),NF (iP b)];rfl
 .show max 0 (max 0 (max (max 0 (max 0 0)+1) 0))+1<=60;decide
 show (tupleText [reprText "side",(toString ((k:Nat):Int):String),tupleText [(toString ((m:Nat):Int):String),(toString ((n:Nat):Int):String)]]).length<=10000;have h2:(reprText "side").length<=20:=by decide +kernel
 have e:=oK a;have c:=oK hm;have d:=oK b;have h1:(tupleText [((toString ((m:Nat):Int):String):Str),((toString ((n:Nat):Int):String):Str)]).length<=2*(160+2)+3:=wG (by simp) λx hx=>by
  rcases aK.mp hx with rfl|hx
  .exact c
  rw[aR.mp hx];exact d
 refine br (wG (n:=400) (by simp) λx hx=>?_) (by show 3*(400+2)+3<=10000;decide);rcases aK.mp hx with rfl|hx
 .lia
 rcases aK.mp hx with rfl|hx
 .lia
 rw[aR.mp hx];lia
section
theorem By{f f2 C:Addr}{fd d2:FuncData}(U:Fun K "thirds_by_side" "thirds_by_side" lF f fd)(T:cq mg)
  (MX:j_ K C f2) (cf:fk K C "fault") (F:aj P w K mg base CX0 1 f2 d2 ["self","fault"] (kS K)) (b2:Binds K d2 ["self","fault"] []) (mC:mg "NoSkin" = some (.ref C)):aj P w K mg base (CX1 P w) 3 f fd ["triples"] (u_ C):=by
 refine U.ok1 hW (λvs H Q E h=>?_) (λNJ A outer s H vs Q E hr h=>?_)
 .obtain⟨T,vt,ts,rfl,_⟩:=h;rfl
 obtain⟨T0,vt,ts,rfl,hT,ht,hl,a2,a3,q,qE⟩:=h;have hu:=dv hr;refine⟨_,af (sx 1 hW.nd vZ)
  (af (b_ qa rfl (lJ rfl T.enum (pa1 (pv 0))) (cX rfl (aX (gx 2 hW.nd) (aX (cX rfl (aX (gx 3 hW.nd) (aX (gx 4 hW.nd) (aX (gx 5 hW.nd) cR)))) cR)))
   (ai (b_ qa rfl (bI (bF (ae (aO (ae (aO (ae (pv 3) (pa1 (pv 4)))) (pa1 (pv 5)))) (ae (aO (ae (aO (ae (pv 4) (pa1 (pv 5)))) (pa1 (pv 3)))) (pa1 (aO (ae (aO (ae (pv 5) (pa1 (pv 3)))) (pa1 (pv 4))))))))) (cX rfl (aX (gx 6 hW.nd) (aX (gx 7 hW.nd) cR)))
    (af (bo (pd (rW hu (pv 6) (pv 1))) (ai (qA lets1 rfl rfl MX F hr b2 rfl mC (pa1 (aO (ae bB (ae (pv 2) (pa1 (pv 6)))))))) bj)
    (ai (iW hu (pv 1) (pv 6) (pv 7) rfl))))))
  (ai (aN (pv 1)))),?_⟩
 have bm:=line5000;have hlen:=aF ht;refine λD H1 h1 s1 y1=>?_;refine⟨_,rfl,T0,vt,rfl,SqL.of (s1 _ _ hT),k_ (K:=[]) (a:=T0) (xs:=vt) (λi Z H2=>∃v2 v3 v4 v5 v6 v7,Z=[some (.ref T0),some (.ref D),v2,v3,v4,v5,v6,v7]/\Same H H2/\H2 D=some (.dT ((ents (ts.take i)).map bD))/\((ents (ts.take i)).map (·.1)).Nodup)
  ⟨none,none,none,none,none,none,rfl,s1,y1,List.Pairwise.nil⟩ (λi Z H2 _ ⟨_,_,_,_,_,_,_,e,_⟩=>SqL.of (e _ _ hT)) ?_ ?_⟩
 .rintro i x p Z H2 hi ⟨v2,v3,v4,v5,v6,v7,rfl,sm,hD,I⟩ hp;obtain⟨⟨a,b,c⟩,L,t,rfl,hb⟩:=cw ht hi;have hb:H t=some (.tup [.int (a:Int),.int (b:Int),.int (c:Int)]):=hb;have et:ts.take (i+1)=ts.take i++[(a,b,c)]:=by rw[ba,L];rfl
  walk_at"H2 p hp H3 s3 y3";refine⟨p,_,rfl,SqT.of y3,rfl,_,_,rfl,_,_,rfl,t,_,rfl,SqT.of (s3 _ _ (sm _ _ hb)),rfl,_,_,rfl,_,_,rfl,_,_,rfl,rfl,rfl,?_⟩;refine⟨_,rfl,_,rfl,lit2,λsa H4 ga s4 y4=>?_⟩;refine⟨_,rfl,lit2,λua H5 bn S X=>?_⟩;refine⟨_,rfl,_,rfl,lit2,λsb H6 gb y y6=>?_⟩;refine⟨_,rfl,lit2,λub H7 bt s7 y7=>?_⟩;refine⟨_,rfl,_,rfl,lit2,λsc H8 gc s8 y8=>?_⟩;refine⟨_,rfl,lit2,λuc H9 bw s9 y9=>?_⟩;refine⟨lit3,λM r gM sA yM=>?_⟩;have a4:Same H3 H7:=((s4.trans S).trans y).trans s7;have Y:Same H7 r:=(s8.trans s9).trans sA;have an:Same H3 r:=a4.trans Y;have en:Paired (EnAt r) [V.ref ua,.ref ub,.ref uc] [((a,b),c),((b,c),a),((c,a),b)]:=
   .cons ⟨ua,sa,rfl,Y _ _ (s7 _ _ (y _ _ X)),Y _ _ (s7 _ _ (y _ _ (S _ _ y4)))⟩ (.cons ⟨ub,sb,rfl,Y _ _ y7,Y _ _ (s7 _ _ y6)⟩ (.cons ⟨uc,sc,rfl,sA _ _ y9,sA _ _ (s9 _ _ y8)⟩ .nil))
  have am:r D=some (.dT ((ents (ts.take i)).map bD)):=an _ _ (s3 _ _ hD);have ee:ents (ts.take (i+1))=ents (ts.take i)++[((a,b),c),((b,c),a),((c,a),b)]:=by rw[et,fe];simp[ents]
  have N:=xA (a2 _ (a8 L));have N:(([((a,b),c),((b,c),a),((c,a),b)]:List Ent).map (·.1)).Nodup:=N;have ab:ent3 (a,b,c)=[((a,b),c),((b,c),a),((c,a),b)]:=rfl;have bx:i<ts.length:=(aG.mp L).1;have l0:=fc (ts.take i);rw[bf] at l0;have ap:Same H r:=(sm.trans s3).trans an;generalize au:[((a,b),c),((b,c),a),((c,a),b)]=g at en N ee ab;have a5:g.length=3:=by rw[<-au];rfl
  have bb:M≠D:=λz=>by rw[z,am] at yM;cases yM
  refine⟨M,rfl,⟨_,SqL.of yM⟩,dh (K:=[]) (a:=M) (xs:=[V.ref ua,.ref ub,.ref uc]) (λj Z H'=>∃w6 w7,Z=[some (.ref T0),some (.ref D),some (.int (i:Int)),some (.int (a:Int)),some (.int (b:Int)),some (.int (c:Int)),w6,w7]/\(∀l o,l≠D->r l=some o->H' l=some o)/\H' D=some (.dT ((ents (ts.take i)++g.take j).map bD))/\∀s'∈(g.take j).map (·.1),s'∉(ents (ts.take i)).map (·.1))
   ⟨v6,v7,rfl,λ_ _ _ e=>e,by rw[zO,fM];exact am,by simp⟩ (λj Z H' _ ⟨_,_,_,e,_⟩=>SqL.of (e _ _ bb yM)) ?_ ?_⟩
  .rintro j x Z H' hj ⟨w6,w7,rfl,but,O,R⟩;obtain⟨⟨⟨m,n⟩,o⟩,ho,u,B,rfl,ad,v⟩:=cw en hj;have ad:r u=some (.tup [.ref B,.int (o:Int)]):=ad;have v:r B=some (.tup ((ky m n).map kV)):=v;have ej:g.take (j+1)=g.take j++[((m,n),o)]:=by rw[ba,ho];rfl
   have bA:j<g.length:=(aG.mp ho).1;have nu:u≠D:=λz=>by rw[z,am] at ad;cases ad
   have ns:B≠D:=λz=>by rw[z,am] at v;cases v
   refine⟨u,_,rfl,SqT.of (but _ _ nu ad),rfl,_,_,rfl,_,_,rfl,rfl,?_⟩;have bd:Same H H':=λl o e=>but l o (aq e h1) (ap _ _ e);by_cases al:(m,n)∈(ents (ts.take i)).map (·.1)
   .have be:∀t∈ts,t.1<10 ^ 160/\t.2.1<10 ^ 160/\t.2.2<10 ^ 160:=a3.resolve_left λnd=>by
     have B:SdF ts i (m,n):=⟨I,(a,b,c),j,L,by rw[ab,aY,ho];rfl,al,by rw[ab,<-tN];exact R⟩;exact B.not nd
    have bg:SdF ts i (m,n):=⟨I,(a,b,c),j,L,by rw[ab,aY,ho];rfl,al,by rw[ab,<-tN];exact R⟩;have hc:=be _ (a8 L);have aM:m<10 ^ 160/\n<10 ^ 160:=by
     have hm:=a8 ho;rw[<-au] at hm;obtain⟨c1,c2,c3⟩:=hc;simp at hm;rcases hm with ⟨⟨rfl,rfl⟩,_⟩|⟨⟨rfl,rfl⟩,_⟩|⟨⟨rfl,rfl⟩,_⟩
     .exact⟨c1,c2⟩
     .exact⟨c2,c3⟩
     exact⟨c3,c1⟩
    obtain⟨x,hx⟩:∃x,bh ((ents (ts.take i)++g.take j).map bD) (ky m n)=some x:=by
     cases hv:bh ((ents (ts.take i)++g.take j).map bD) (ky m n) with
     |some x=>exact⟨x,rfl⟩
     |none=>exact absurd (by rw[aQ];exact dC _ al) (hU.mp hv)
    refine⟨_,rfl,_,rfl,D,_,rfl,DGet.t (k:=ky m n) O (but _ _ ns v),true,by rw[hx];rfl,aT ?_⟩;refine⟨_,rfl,_,rfl,lit3,λt5 H5 g5 S X=>?_⟩;have aS:H5 B=some (.tup [.int (m:Int),.int (n:Int)]):=S _ _ (but _ _ ns v);refine vV (d:=pD i m n) MX cf X (λH' s'=>.tup (SqT.of (s' _ _ X)) (.cons (.str _ (by decide +kernel)) (.cons (.int _) (.cons (.tup (SqT.of (s' _ _ aS)) (.cons (.int _) (.cons (.int _) .nil))) .nil)))) (BY (qz (by lia)) aM.1 aM.2) λdx H6 y e6=>?_;exact qE i m n dx H6 bg ((bd.trans S).trans y) ⟨t5,B,e6,y _ _ X,y _ _ aS⟩
   have a0:(m,n)∉(ents (ts.take i)++g.take j).map (·.1):=by
    rw[aQ,aW];rintro (z|z)
    .exact al z
    rw[<-f_ (j+1) g,ej,dX,aQ,cY] at N;exact N.2.2 _ z (m,n) (by simp) rfl
   refine⟨_,rfl,_,rfl,D,_,rfl,DGet.t (k:=ky m n) O (but _ _ ns v),false,by rw[hU.mpr a0];rfl,aH ?_⟩;refine⟨_,rfl,_,rfl,_,rfl,D,_,rfl,DPut.t (k:=ky m n) O (but _ _ ns v) (by rw[ao,aL,bf];lia),?_⟩;rw[oH a0];walk_at"H' D Hb kb yb";refine⟨_,_,rfl,λl o e1 e2=>(kb l e1).trans (but l o e1 e2),by rw[yb,ej,dX],λs' a1=>?_⟩;rw[ej,aQ] at a1;rcases aW.mp a1 with z|z
   .exact R s' z
   rw[aR.mp z];exact al
  rintro Z H' ⟨w6,w7,rfl,but,O,R⟩;have:g.take [V.ref ua,.ref ub,.ref uc].length=g:=iK (by rw[a5];exact ak 3);rw[this] at O R;refine⟨_,_,_,_,_,_,rfl,λl o e=>but l o (aq e h1) (ap _ _ e),by rw[O,ee],?_⟩;rw[ee,aQ,cY];exact⟨I,N,λa' bi l bl z=>R l bl (z ▸ bi)⟩
 rintro Z H2 ⟨v2,v3,v4,v5,v6,v7,rfl,sm,hD,I⟩;rw[hlen,bV] at hD I;exact⟨_,rfl,q D H2 I h1 sm hD⟩
end
inductive Flt
 |many
 |triple (k:Nat)
 |side (k m n:Nat)
 |round (c:Nat)
def dQ(os:List (Option Tri)):Option Flt->Prop
 |some .many=>200<os.length
 |some (.triple k)=>os.length<=200/\os[k]?=some none/\∃ts:List Tri,os.take k=ts.map some
 |some (.side k m n)=>os.length<=200/\∃ts:List Tri,os=ts.map some/\SdF ts k (m,n)
 |some (.round c)=>os.length<=200/\∃ts:List Tri,os=ts.map some/\((ents ts).map (·.1)).Nodup/\Co ts c/\¬One (En ts) c/\∀a,Co ts a->a<c->One (En ts) a
 |none=>os.length<=200/\∃ts:List Tri,os=ts.map some/\((ents ts).map (·.1)).Nodup/\∀c,Co ts c->One (En ts) c
def Refuses(C b:Addr)(H:Hp):Flt->Value->Option Addr->Prop
 |.many,c,d=>c=.ref b/\d=none
 |.triple k,c,d=>c=.ref C/\∃a,d=some a/\sI H a [.str "triple",.int (k:Int)]
 |.side k m n,c,d=>c=.ref C/\∃a,d=some a/\FltS H a k m n
 |.round k,c,d=>c=.ref C/\∃a,d=some a/\sI H a [.str "round",.int (k:Int)]
structure SCls(K:W.Frag)(C:Addr):Prop where
 cl:Cls K C
 ordered:fV K C "ordered"
 rising:fV K C "rising"
 thirds:fV K C "thirds"
 steps:fV K C "steps"
def sflds(O R D S:Addr):List (Str×V):=[("ordered",.ref O),("rising",.ref R),("thirds",.ref D),("steps",.ref S)]
def Srt(us:List Tri):Prop:=us.Pairwise (λa b=>HT.lexLt [(b.1:Int),(b.2.1:Int),(b.2.2:Int)] [(a.1:Int),(a.2.1:Int),(a.2.2:Int)]=false)
def sF(C:Addr)(H:Hp)(x:Addr)(ts:List Tri):Prop:=∃(dx O R D S:Addr)(a:List V)(us ws:List Tri),H x=some (.ins C dx (sflds O R D S))/\H O=some (.lst a)/\aw H a us/\us.Perm ws/\Paired Bg ts ws/\Srt us
def SmB(x:Addr)(H H':Hp):Prop:=∀b o,b≠x->H b=some o->H' b=some o\/(dS o/\∃a,H' b=some (.frz a o))
def SmF(os:List (Option Tri))(H H':Hp):Prop:=Sm H H'/\(none∈os->Same H H')
def C7(K:W.Frag)(Cs C b:Addr)(vs:List V)(H:Hp)(Q:VK)(E:XK)(x dx T:Addr)(a:List V)(os:List (Option Tri)):Prop:=vs=[.ref x,.ref T]/\H x=some (.ins Cs dx [])/\H T=some (.lst a)/\mH K H a os/\os.length<=400/\
 (∀t,some t∈os->t.1<10 ^ 160/\t.2.1<10 ^ 160/\t.2.2<10 ^ 160)/\
 (∀ts H',os=ts.map some->dQ os none->SmB x H H'->sF Cs H' x ts->Q .non H')/\∀fl c d H',dQ os (some fl)->SmF os H H'->Refuses C b H' fl c d->E c d H'
def wO(K:W.Frag)(Cs C a:Addr):Sp:=λvs H Q E=>Exists (Ex5 (C7 K Cs C a vs H Q E))
theorem ow{ts:List Tri}:none∉ts.map some:=λz=>by
 obtain⟨_,_,e⟩:=ay.mp z;cases e
theorem xu{ts:List Tri}(h1:∀t∈ts,t.1≠t.2.1/\t.2.1≠t.2.2/\t.2.2≠t.1)(h2:((ents ts).map (·.1)).Nodup):Good ts:=⟨h1,h2⟩
theorem SmF.same{os:List (Option Tri)}(s:Same H H'):SmF os H H':=⟨Sm.of s,λ_=>s⟩
theorem SmF.sm{ts:List Tri}(s:Sm H H'):SmF (ts.map some) H H':=⟨s,λz=>absurd z ow⟩
section
theorem oZ:a7 ["self","triples","checked","thirds","steps"] ["self","triples"] (aC fW):=by walk_at"sc"
theorem DI{f f1 f2 f3 f4 f5 Cs C CM:Addr}{fd d1 d2 d3 d4 d5:FuncData}(U:Fun K "__init__" "Skin.__init__" fW f fd)(T:cq mg)(mS:mg "sorted" = none){tM:Tok}(mM:mg "MOST_TRIPLES" = some (.int 200 tM))(X:SCls K Cs)
  (bA:mg "TooMany" = some (.ref CM)) (bK:W.excIn K CM bmV "ValueError.__new__" = true)
  (G1:aj P w K mg base (CX1 P w) 4 f1 d1 ["things"] (uG K C)) (b1:Binds K d1 ["things"] []) (m1:mg "checked_triples" = some (.ref f1)) (k1:W.keepIn K (.ref f1)=true)
  (G2:aj P w K mg base (CX1 P w) 3 f2 d2 ["triples"] (u_ C)) (b2:Binds K d2 ["triples"] []) (m2:mg "thirds_by_side" = some (.ref f2)) (k2:W.keepIn K (.ref f2)=true)
  (G3:Use P w K mg base 1 "steps_by_corner" ["thirds"] wN f3 d3)
  (G4:aj P w K mg base (CX1 P w) 3 f4 d4 ["steps"] (xX C)) (b4:Binds K d4 ["steps"] []) (m4:mg "look_rounds_through" = some (.ref f4)) (k4:W.keepIn K (.ref f4)=true)
  (G5:Use P w K mg base 1 "begun_least" ["triple"] w4 f5 d5) :
  aj P w K mg base (CX1 P w) 5 f fd ["self","triples"] (wO K Cs C CM):=by
 refine U.ok1 oZ (λvs H Q E h=>?_) (λNJ A outer s H vs Q E hr h=>?_)
 .obtain⟨x,dx,T,l,ts,rfl,_⟩:=h;rfl
 obtain⟨x,dx,T0,l,os,rfl,hx,hT,ht,hl,bL,q1,qE⟩:=h;have a3:Room 1 (A.deeper (PyProof.Rows.envOfC "Skin.__init__" (aC fW) s.heap.objs.size f NJ)):=hr.mono (by decide);have a4:Room 3 (A.deeper (PyProof.Rows.envOfC "Skin.__init__" (aC fW) s.heap.objs.size f NJ)):=hr.mono (by decide);refine⟨_,af (bo (a6 pG (pln T.len (pv 1)) (dI (v:=.int 200) rfl mM ⟨_,rfl⟩) (nomark _)) (ai (oq lets1 rfl rfl rfl bA bK (pa1 (xo (lI (ym (pln T.len (pv 1))) (lI bB (lI (ym (dI (v:=.int 200) rfl mM ⟨_,rfl⟩)) yj))))))) bj)
  (af (sx 2 oZ.nd (iX G1 hr rfl m1 k1 b1 .nil pass1 (pa1 (pv 1))))
  (af (sx 3 oZ.nd (iX G2 a4 rfl m2 k2 b2 .nil pass1 (pa1 (pv 2))))
  (af (sx 4 oZ.nd (uc G3 a3 (pa1 (pv 3))))
  (af (cZ (iX G4 a4 rfl m4 k4 b4 .nil pass1 (pa1 (pv 4))))
  (af (pf (pv 0) (bH uo (by rfl) mS iN (pa1 (c7 (N:=["triple"]) (fr:=[none]) (gh (by decide +kernel) rfl (by decide +kernel) (by decide +kernel)) rfl (bI (pv 2))
    (λC s H fp NI=>⟨gx 0 (by decide:(["triple"]:List Str).Nodup),di,uc G5 a3 (pa1 (pv 0))⟩)))) rfl)
  (af (pf (pv 0) (bH (AB rfl) (by rfl) mS iN (pa1 (pv 4))) rfl)
  (af (pf (pv 0) (pv 3) rfl)
  (ai (pf (pv 0) (pv 4) rfl))))))))),?_⟩
 have cg:=line5000;have hlen:=aF ht;refine⟨_,rfl,T0,_,rfl,.inl (SqL.of hT),_,_,rfl,rfl,_,rfl,ite2 (λan=>?_) λan=>?_⟩
 .have an:(200:Int)<(l.length:Int):=NH an;have hv:l.length<10 ^ 160:=qz (by lia);have i1:((toString ((l.length:Nat):Int):String):Str).length<=160:=oK hv;have i2:((toString (200:Int):String):Str).length<=60:=by decide +kernel
  have i3:((" triples, more than " : Str)).length<=60:=by decide +kernel
  have hz:10020<=sizeLine:=by rw[dg];lia
  have i0:(Str.empty).length=0:=rfl;have l1:(Str.empty++((toString ((l.length:Nat):Int):String):Str)).length<=200:=by rw[gU];lia
  have l2:((Str.empty++((toString ((l.length:Nat):Int):String):Str))++(" triples, more than " : Str)).length<=300:=by rw[gU];lia
  have l3:(((Str.empty++((toString ((l.length:Nat):Int):String):Str))++(" triples, more than " : Str))++((toString (200:Int):String):Str)).length<=400:=by rw[gU];lia
  refine⟨_,rfl,T0,_,rfl,.inl (SqL.of hT),_,.inr ⟨_,rfl,iP hv,rfl⟩,_,rfl,by lia,_,rfl,by lia,_,.inr ⟨_,rfl,by decide +kernel,rfl⟩,_,rfl,by lia,by lia,lit1,?_⟩;exact qE .many _ _ H (by show 200<os.length;lia) (.same λ_ _ z=>z) ⟨rfl,rfl⟩
 have hle:os.length<=200:=by have:¬(200:Int)<(l.length:Int):=λz=>an (NF z);lia
 refine⟨_,rfl,T0,l,os,rfl,hT,ht,by lia,λr vr ts H1 bR ch s1 y1 a5 bb=>?_,λk d H1 B e2 s1 q=>qE (.triple k) _ _ H1 ⟨hle,B,e2⟩ (.same s1) ⟨rfl,d,rfl,q⟩⟩;subst bR;have ci:ts.length<=200:=by rw[ao] at hle;exact hle
 have ap:∀t∈ts,t.1<10 ^ 160/\t.2.1<10 ^ 160/\t.2.2<10 ^ 160:=λt bS=>bL t (ay.mpr ⟨t,bS,rfl⟩);refine⟨_,rfl,r,vr,ts,rfl,y1,a5,by lia,bb,.inr ap,λD H2 aS cj s2 y2=>?_,λk m n d H2 B s2 q=>qE (.side k m n) _ _ H2 ⟨hle,ts,rfl,B⟩ (.same (s1.trans s2)) ⟨rfl,d,rfl,q⟩⟩;have g:Good ts:=xu bb aS;have b0:∀c,Co ts c->c<10 ^ 160:=λc hc=>by
  obtain⟨p',q',b3⟩:=hc;rcases eg.mp b3 with z|z|z
  .exact (ap _ z).1
  .exact (ap _ z).2.1
  exact (ap _ z).2.2
 refine⟨_,rfl,D,ents ts,rfl,y2,g.nd,by rw[fc];lia,λS L H3 cm a0 st=>?_⟩;have lL:L.length<5000:=by have:=st.len;rw[fc] at this;lia
 have hlen:l.length=ts.length:=by rw[hlen,ao]
 refine⟨_,rfl,S,ts,L,rfl,st.at_,st.nk,λz hz=>.inl (st.ab z hz),st.key,lL,by lia,g,.inr b0,λp al b5=>?_,λc d t p al B e2 q e4 e5=>qE (.round c) _ _ p ⟨hle,ts,rfl,aS,q,e4,e5⟩ (.sm (((Sm.of (s1.trans s2)).trans a0).trans al)) ⟨rfl,d,rfl,t,B,e2⟩⟩
 have bd:Sm H p:=((Sm.of (s1.trans s2)).trans a0).trans al;have be:p x=some (.ins Cs dx []):=bd.keep hx (λz=>z);have a1:Sm H2 p:=a0.trans al;have bi:p r=some (.lst vr):=a1.keep (s2 _ _ y1) (λz=>z);have bl:aw p vr ts:=Paired.imp' (λv' t' ⟨M,e,I⟩=>⟨M,e,a1.keep (s2 _ _ I) (λz=>z)⟩) a5;have b6:=aF bl;refine⟨_,rfl,r,rfl,⟨_,SqL.of bi⟩,λZ_ hZ=>dG (K:=[]) (a:=r) (xs:=vr) (λi Z ys H'=>∃o us,Z=[o]/\Same p H'/\H' Z_=some (.lst ys)/\aw H' ys us/\Paired Bg (ts.take i) us) ⟨none,[],rfl,bQ hZ,aP,.nil,.nil⟩
  (λi Z ys H' _ ⟨_,_,_,e,_⟩=>SqL.of (e _ _ bi)) ?_ ?_⟩
 .rintro i v Z ys H' hi ⟨o,us,rfl,sm,bm,tr,Y⟩;obtain⟨t3,hs,t,rfl,hb⟩:=cw bl hi;have bn:i<ts.length:=(aG.mp hs).1;have ly:ys.length<=200:=by rw[aF tr,<-aF Y,bf];lia
  refine⟨_,rfl,t,t3,rfl,sm _ _ hb,λr' u H5 s5 y5 b7=>⟨s5 _ _ bm,by lia,λHn kn yn=>⟨some (.ref t),us++[u],rfl,λb o e=>(kn b (aq e hZ)).trans (s5 _ _ (sm _ _ e)),yn,?_,by rw[ba,hs];exact cJ Y (.cons b7 .nil)⟩⟩⟩;have b8:=s5 _ _ bm;have tn:∀{b':Addr}{xs:List V},H5 b'=some (.tup xs)->b'≠Z_:=λe=>bO e b8 (by simp);exact cJ (Paired.imp' (λ_ _ ⟨b',B,e2⟩=>⟨b',B,by have q:=s5 _ _ e2;exact (kn _ (tn q)).trans q⟩) tr) (.cons ⟨r',rfl,(kn _ (tn y5)).trans y5⟩ .nil)
 rintro Z ys H5 ⟨o,ws,rfl,s5,b9,am,Y⟩;rw[b6,bV] at Y;have cn:ys.length=ts.length:=by rw[aF am,<-aF Y]
 have ly:ys.length<=200:=by lia
 refine⟨Z_,ys,ws.map kyT,rfl,SqL.of b9,qL am,by lia,λO ix hO pm ps=>?_⟩;have bt:∀i∈ix,i<ys.length:=λi hi=>iI.mp (pm.mem_iff.mp hi);have a2:=qM am ix bt;have perm:(ix.map λi=>ws.getD i (0,0,0)).Perm ws:=uI (by rw[<-aF am];exact pm);have bw:Srt (ix.map λi=>ws.getD i (0,0,0)):=by
  unfold Srt;rw[iJ] at ps |-;refine ps.imp_of_mem λ{i j} hi hj h=>?_;have gt:∀i,i∈ix->(ws.map kyT).getD i []=kyT (ws.getD i (0,0,0)):=λi hi=>by
   have bn:i<ws.length:=by rw[<-aF am];exact bt i hi
   simp[List.getD,bX bn]
  rw[gt i hi,gt j hj] at h;exact h
 generalize (ix.map λi=>ws.getD i (0,0,0))=us at a2 perm bw;generalize (ix.map λi=>ys.getD i .non)=vo at a2 |-;walk_at"H5 O hO y s6 y6";have ad:Same p y:=s5.trans s6;have ca:aw y vo us:=Paired.imp' (λv' t' ⟨M,e,I⟩=>⟨M,e,s6 _ _ I⟩) a2;refine⟨_,rfl,x,Cs,dx,_,rfl,ad _ _ be,X.cl,X.ordered,(by show 0<1000;decide),?_⟩;have cb:Rd y S (.dK (L.map stV)):=(Sm.of ad).rd (al.rd (.inl st.at_));have au:=ad _ _ be;walk_at"y x H7 k7 y7";have cc:∀{b:Addr}{u:HO},dS u->Rd y b u->b≠x:=λ{b u} hu hb z=>by
  subst z;rcases hb with e|⟨ob,e⟩
  .rw[au] at e;cases e;exact hu
  rw[au] at e;cases e
 have bx:∀{b:Addr}{u:HO},dS u->Rd y b u->Rd H7 b u:=λ{b u} hu hb=>by
  have n:=cc hu hb;rcases hb with e|⟨ob,e⟩
  .exact .inl ((k7 b n).trans e)
  exact .inr ⟨ob,(k7 b n).trans e⟩
 have cd:=bx (u:=.dK (L.map stV)) True.intro cb;have ce:Rd y D (.dT ((ents ts).map bD)):=(Sm.of ad).rd (a1.rd (.inl y2));have co:=bx (u:=.dT ((ents ts).map bD)) True.intro ce;refine⟨_,rfl,S,_,rfl,cd,True.intro,λks vs hk=>.inl ⟨(L.map (·.1)).map (λc:Nat=>(c:Int)),?_,by rw[ao,ao];exact lL,λR ms hR pm ps=>?_⟩⟩
 .rcases hk with ⟨kvs,e,rfl,_⟩|⟨kvs,as,e,_⟩
  .cases e;rw[bU,bU,bU];rfl
  cases e
 obtain⟨cs,rfl,pl,pc⟩:=qv st.nk pm ps;have e:(cs.map (λc:Nat=>(c:Int))).map V.int=nV cs:=by rw[bU];rfl
 rw[e];walk_at"H7 R hR H8 s8 y8";refine⟨_,rfl,x,Cs,dx,_,rfl,s8 _ _ y7,X.cl,X.rising,(by show 1<1000;decide),?_⟩;walk_at"H8 x H9 k9 y9";refine⟨_,rfl,_,rfl,x,Cs,dx,_,rfl,y9,X.cl,X.thirds,(by show 2<1000;decide),?_⟩;walk_at"H9 x Ha ka ya";refine⟨_,rfl,_,rfl,x,Cs,dx,_,rfl,ya,X.cl,X.steps,(by show 3<1000;decide),?_⟩;walk_at"Ha x Hb kb yb";have cf:∀b,b≠x->Hb b=H8 b:=λb n=>(kb b n).trans ((ka b n).trans (k9 b n));have aM:∀b o,b≠x->y b=some o->Hb b=some o:=λb o n e=>(cf b n).trans (s8 _ _ ((k7 b n).trans e));have nO:O≠x:=λz=>by rw[z,au] at y6;cases y6
 have z2:aw Hb vo us:=Paired.imp' (λv' t' ⟨M,e,I⟩=>⟨M,e,aM M _ (λz=>by rw[z,au] at I;cases I) I⟩) ca;refine q1 ts Hb rfl ⟨hle,ts,rfl,aS,b5⟩ (λb o n e=>?_) ⟨dx,O,R,D,S,vo,us,ws,yb,aM O _ nO y6,z2,perm,Y,bw⟩;rcases bd b o e with z|⟨z1,ob,z⟩
 .exact .inl (aM b _ n (ad _ _ z))
 exact .inr ⟨z1,ob,aM b _ n (ad _ _ z)⟩
end
end K15
end
section
namespace L2
open PySem PySem.Spec PyProof.Rows
def ji(h:Heap)(e:Addr)(cls:Value)(d:Option Addr)(T:Addr):Prop:=
 ∃(a:Obj)(vs:Array Value)(b:Obj)(ts:Array Value),h.get? e=some a/\a.cls=cls/\a.dict=d/\a.data=.fields vs/\vs[2]?=some .none/\vs[1]?=some (.ref T)/\T≠e/\h.get? T=some b/\b.data=.fields ts/\3<ts.size
section
variable {M:Model}{e L T:Addr}{cls:Value}{d:Option Addr}{env env':Env}{outer:List Env}
theorem Cw{Q:Value->Shared->Prop}(a:A.frames=some (env::outer))(b:s.heap.FunFrames base (env::outer))(hf:env.frame=some L)(c:env'.frame=some L)
  (h:∀h',Heap.SlotsOnly ((env::outer).filterMap (·.frame)) s.heap h'->Q (.ref L) {s with heap:=h'}):wpAny M A (PySem.frameOf env') Q E s:=by
 unfold PySem.frameOf;refine aa (wpAny_frameEnvs a ?_);have d:((env::outer).dropWhile λx=>x.frame != env'.frame)=env::outer:=by rw[c,List.dropWhile_cons,NC (by rw[hf];simp)]
 rw[d];unfold frameObject;refine aa (aa (wpAny_readyFrames_fun b λh₁ e₁=>ag ?_));rw[hf];exact ag (h h₁ e₁)
theorem HE{Q:Unit->Shared->Prop}(hfr:A.frames=some (env::outer))(hl:s.heap.FunFrames base (env::outer))(hf:env.frame=some L)(hf':env'.frame=some L)(x:Exc s.heap e cls d)
  (h:∀h' T,ji h' e cls d T->s.heap.get? T=none->mI (frs (env::outer)) e s.heap h'->Q () {s with heap:=h'}):wpAny M A (noteFrame (.ref e) env') Q E s:=by
 have go:∀{s:Shared}{oe:Obj}{vs:Array Value}{head:Value}{had:Bool},s.heap.FunFrames base (env::outer)->s.heap.get? e=some oe->oe.cls=cls->oe.dict=d->oe.data=.fields vs->vs[2]?=some .none->1<vs.size->
   (∀h' T,ji h' e cls d T->s.heap.get? T=none->mI (frs (env::outer)) e s.heap h'->Q () {s with heap:=h'})->
   wpAny M A (do let a <-PySem.frameOf env';let pl <-entryPlaceOf L had;let b <-EntryCells.newEntry head a .none (rawInt L) .none pl;setField (.ref e) 1 b) Q E s:=by
  intro s oe vs head had hl he hc hdd hd hc2 hsz h;have hene:e∉frs (env::outer):=λhm=>by
   obtain⟨_,o,ho,hnf⟩:=hl.mem hm;rw[he] at ho;cases ho;exact hnf vs hd
  refine aa (Cw hfr hl hf hf' λh1 hs1=>aa (L7 λpl hpl=>?_));unfold EntryCells.newEntry newFields;refine aa (dZ ?_ (hpl.sizeOk5 _ _ _ _ _));generalize hO:({cls:=.type "traceback",dict:=none,data:=.fields ([head,.ref L,.none,rawInt L,.none]++(if pl.isEmpty then List.replicate 6 Value.none else pl)).toArray}:Obj)=oT;have hOd:oT.data=.fields ([head,.ref L,.none,rawInt L,.none]++(if pl.isEmpty then List.replicate 6 Value.none else pl)).toArray:=by rw[<-hO]
  have e1:h1.get? e=some oe:=(hs1.2.1 e hene).trans he;have e2:(h1.push oT).get? e=some oe:=aI _ e1;have hTe:h1.objs.size≠e:=jr (aE e1);have eT:(h1.push oT).get? h1.objs.size=some oT:=bq _ (jt hOd);refine eZ e2 hd hsz ?_;have hd3:=iL hd (·.setIfInBounds 1 (Value.ref h1.objs.size));have e3:=fJ (Obj.mapFields (·.setIfInBounds 1 (Value.ref h1.objs.size))) e2 (jt hd3);have T3:=(dU (h1.push oT) (Obj.mapFields (·.setIfInBounds 1 (Value.ref h1.objs.size))) (aB hTe)).trans eT;have keep:∀b o,b≠e->h1.get? b=some o->((h1.push oT).update e (Obj.mapFields (·.setIfInBounds 1 (Value.ref h1.objs.size)))).get? b=some o:=λb o hb q=>by
   rw[dU _ _ (aB hb)];exact aI _ q
  refine h _ h1.objs.size ⟨_,_,_,_,e3,(zX _ _).trans hc,?_,hd3,by rw[sU (by decide)];exact hc2,by simp[hsz],hTe,T3,hOd,?_⟩ ?_ ⟨λb o hb hn q=>keep b o hb ((hs1.2.1 b hn).trans q),λb o hb q=>by
   obtain⟨sl,z⟩:=hs1.2.2 b o q;exact⟨sl,keep b _ hb z⟩⟩
  .obtain⟨c0,d0,dt0,sl0⟩:=oe;cases dt0<;>exact hdd
  .simp only[a_,aL,bz,gI];lia
  cases q:s.heap.get? h1.objs.size with
  |none=>rfl
  |some o=>
   obtain⟨sl,z⟩:=hs1.2.2 _ o q;exact absurd (aE z) (de _)
 obtain⟨oe,vs,he,hc,hdd,hd,hc2,tb⟩:=x;unfold noteFrame;simp only[hf'];rcases tb with h1|⟨T,oT,ts,h1,hTe,hT,hdT,h3⟩
 .refine aa (cW he hd h1 ?_);rw[NC (by decide)];exact go hl he hc hdd hd hc2 (fG.mp h1).1 h
 refine aa (cW he hd h1 ?_);rw[ND (show (Value.ref T != Value.none)=true by simp)];refine aa (cW hT hdT h3 ?_);rw[NC (show ¬((Value.none==rawInt L)=true) by simp[rawInt])];refine aa (eZ hT hdT (fG.mp h3).1 ?_);have same:=qU hT (qt hdT h3);have hl2:(s.heap.update T (Obj.mapFields (·.setIfInBounds 3 Value.none))).FunFrames base (env::outer):=hl.of_keeps λb o hb _=>⟨o,(same b).trans hb,rfl⟩;exact go (s:={s with heap:=s.heap.update T (Obj.mapFields (·.setIfInBounds 3 Value.none))}) hl2 ((same e).trans he) hc hdd hd hc2 (fG.mp h1).1 λh' T' x1 nT x2=>h h' T' x1 ((same T').symm.trans nT) ⟨λb o hb hn q=>x2.keep b o hb hn ((same b).trans q),λb o hb q=>x2.slot b o hb ((same b).trans q)⟩
theorem Hu{i:String}{j:Env}{Q:Value->Shared->Prop}(x:ji s.heap e cls d T)(h:∀h',ji h' e cls d T->(∀b,b≠T->h'.get? b=s.heap.get? b)->E (.ref e) {s with heap:=h'}):wpAny M A (PySem.passOn i (.ref e) j:Sem Value) Q E s:=by obtain⟨l,vs,q,ts,he,m,n,hd,o,h1,c,f,a,g⟩:=x;unfold PySem.passOn;refine aa (cW he hd h1 ?_);rw[NC (by simp)];refine aa ?_;unfold setFlight;refine aa (cW he hd h1 ?_);rw[ND (show (Value.ref T != Value.none)=true by simp)];refine eZ f a g ?_;refine Ay ?_;refine h _ ⟨l,vs,_,_,(dU _ _ c).trans he,m,n,hd,o,h1,c,fJ _ f (jt (iL a _)),iL a _,by simpa using g⟩ λb p=>dU _ _ (aB p)
theorem FD{Q:Unit->Shared->Prop}(y:A.frames=some (env::outer))(z:s.heap.FunFrames base (env::outer))(hf:env.frame=some L)(x:ji s.heap e cls d T)
  (h:∀h',Exc h' e cls d->(∀b o,b≠e->b≠T->b∉frs (env::outer)->s.heap.get? b=some o->h'.get? b=some o)->(∀b o,b≠e->b≠T->s.heap.get? b=some o->∃sl,h'.get? b=some {o with slots:=sl})->Q () {s with heap:=h'}) :
  wpAny M A (leaving env (.ref e)) Q E s:=by
 obtain⟨B,vs,O,ts,he,l,m,hd,n,h1,j,c,f,i⟩:=x;have p:=iL f (·.setIfInBounds 3 Value.none);have C:=fJ (Obj.mapFields (·.setIfInBounds 3 Value.none)) c (jt p);have oth:∀b,b≠T->(s.heap.update T (Obj.mapFields (·.setIfInBounds 3 Value.none))).get? b=s.heap.get? b:=λb g=>dU _ _ (aB g);obtain⟨v,D⟩:∃v,ts[3]?=some v:=⟨_,sT i⟩;unfold leaving;refine aa ?_;unfold noteFrame;simp only[hf];refine aa (cW he hd h1 ?_);rw[ND (show (Value.ref T != Value.none)=true by simp)];refine aa (cW c f D ?_);by_cases r:(v==rawInt L)=true
 .rw[ND r];refine ag ?_;unfold setFlight;refine aa (cW he hd h1 ?_);rw[ND (show (Value.ref T != Value.none)=true by simp)];refine eZ c f i ?_;refine h _ ⟨B,vs,(oth e (aB j)).trans he,l,m,hd,n,.inr ⟨T,_,_,h1,j,C,p,by simp[i]⟩⟩ (λb o _ a _ q=>(oth b a).trans q) λb o _ a q=>⟨o.slots,(oth b a).trans q⟩
 rw[NC r];refine aa (eZ c f i ?_);have H:(s.heap.update T (Obj.mapFields (·.setIfInBounds 3 Value.none))).FunFrames base (env::outer):=z.of_keeps λb o g I=>by
  by_cases u:b=T
  .subst u;rw[c] at g;cases g;exact absurd f (I ts)
  exact⟨o,(oth b u).trans g,rfl⟩
 exact qX (s:={s with heap:=s.heap.update T (Obj.mapFields (·.setIfInBounds 3 Value.none))}) y H hf ((oth e (aB j)).trans he) l m hd n (fG.mp h1).1 λh' K w=>h h' K (λb o nb a N q=>w.keep b o nb N ((oth b a).trans q)) λb o nb a q=>w.slot b o nb ((oth b a).trans q)
end
theorem uC{h h' base:Heap}:∀{l:List Env},(∀b∈frs l,∀o,h.get? b=some o->(∀vs,o.data≠.fields vs)->∃o',h'.get? b=some o'/\o'.data=o.data)->h.FunFrames base l->h'.FunFrames base l
 | [],_,_=>trivial
 |env::rest,k,⟨c,⟨L,o,hf,d,e,hd⟩,f⟩=>by
  have hm:∀b∈frs rest,b∈frs (env::rest):=λb a=>by unfold frs at a |-;rw[pY,hf];exact bZ _ a
  obtain⟨o',g,i⟩:=k L (by unfold frs;rw[pY,hf];exact iH) o e hd;exact⟨c,⟨L,o',hf,d,g,λvs=>i ▸ hd vs⟩,uC (λb a=>k b (hm b a)) f⟩
section
variable {N:List Str}{qual:Str}{f:Addr}{cd:Value}{outer:List Env}{s0:Shared}{H0:Hp}{E:XK}{x T C:Addr}{cls:Value}{d:Option Addr}
 {NI:List (Addr×Obj)} {Z:St} {H:Hp} {s:Shared} {h1:Heap}
theorem HK(I:Inv (dw (CX1 P w) P w K mg base N qual scope f cd A outer s0 H0 E) NI Z H s)(R:s0.heap.get? x=none)(ab:∀o,s.heap.get? x=some o->∃vs,o.data=.fields vs)(S:H x=none)(q:E cls d H)(hx:ji h1 x cls d T)(B:s.heap.get? T=none)
  (l:cU (dw (CX1 P w) P w K mg base N qual scope f cd A outer s0 H0 E) NI H C)
  (k1:∀b o,b≠x->b≠T->b≠C->b∉frs (envOfC qual scope s0.heap.objs.size f cd::outer)->s.heap.get? b=some o->h1.get? b=some o)
  (k2:∀b o,b≠x->b≠T->b≠C->s.heap.get? b=some o->∃sl,h1.get? b=some {o with slots:=sl}) :
  (dw (CX1 P w) P w K mg base N qual scope f cd A outer s0 H0 E).xe (.ref x) {s with heap:=h1}:=by
 show wpAny _ _ (leaving _ (.ref x)) _ _ _;have ad:=I.stkFree;have CL:C∉frs (envOfC qual scope s0.heap.objs.size f cd::outer):=λhm=>by
  rcases aK.mp (I.stkSub C hm) with z|z
  .exact l.2.1 z
  exact l.2.2.1 z
 have al:h1.FunFrames base (envOfC qual scope s0.heap.objs.size f cd::outer):=uC (λb a o p hd=>by
  obtain⟨sl,z⟩:=k2 b o (λz=>by subst z;obtain⟨vs,e⟩:=ab o p;exact hd vs e) (λz=>by rw[z,B] at p;cases p) (λz=>CL (by rw[<-z];exact a)) p;exact⟨_,z,rfl⟩) I.stack
 refine FD (s:={s with heap:=h1}) (outer:=outer) I.ok.frames al rfl hx λh' x1 x2 x3=>?_;have D:∀b o,s0.heap.get? b=some o->b≠T:=λb o e z=>by
  obtain⟨o',g⟩:=I.base.there b o e (by show b∉([]:List Addr);simp);rw[z,B] at g;cases g
 have L:∀b o,s0.heap.get? b=some o->b≠C:=λb o e z=>by
  rcases l.2.2.2.1 with m|m
  .cases m
  exact absurd (aE e) (by rw[z];exact tX.mpr m)
 have nx:∀b o,s0.heap.get? b=some o->b≠x:=λb o e z=>by rw[z,R] at e;cases e
 have nL:∀b o,s0.heap.get? b=some o->b∉frs outer->b∉frs (envOfC qual scope s0.heap.objs.size f cd::outer):=λb o e a hm=>by
  rcases aK.mp (I.stkSub b hm) with z|z
  .exact absurd (aE e) (by rw[z];exact tX.mpr I.ok.above)
  exact a z
 have M:∀b o,b≠x->b≠T->b≠C->b∉frs (envOfC qual scope s0.heap.objs.size f cd::outer)->s.heap.get? b=some o->h'.get? b=some o:=λb o i j O U e=>x2 b o i j U (k1 b o i j O U e);have ks:∀b o,b≠x->b≠T->b≠C->s.heap.get? b=some o->∃sl,h'.get? b=some {o with slots:=sl}:=λb o i j O e=>by
  obtain⟨sl,z⟩:=k2 b o i j O e;obtain⟨Q,g⟩:=x3 b _ i j z;exact⟨Q,g⟩
 refine⟨x,cls,d,H,rfl,x1,R,S,I.os,I.bare,⟨λb o e n a h=>?_,λb o e n a h=>?_,λb o e n h=>I.base.free b o e n h,λb o e h=>?_,I.base.tups,I.base.frzs,I.base.tbls⟩,λb u e=>?_,q⟩
 .exact M b o (nx b o e) (D b o e) (L b o e) (nL b o e a) (I.base.keep b o e n a h)
 .obtain⟨sl,z⟩:=I.base.slot b o e n a h;obtain⟨Q,g⟩:=ks b _ (nx b o e) (D b o e) (L b o e) z;exact⟨Q,g⟩
 .obtain⟨o',z⟩:=I.base.there b o e h;obtain⟨sl,g⟩:=ks b _ (nx b o e) (D b o e) (L b o e) z;exact⟨_,g⟩
 have X:∀c v,H c=some v->c∉frs (envOfC qual scope s0.heap.objs.size f cd::outer):=λc v z hm=>by
  have:=ad c hm;rw[z] at this;cases this
 have ne:∀c v,H c=some v->c≠x:=λc v z y=>by rw[y,S] at z;cases z
 have Y:∀c v,H c=some v->c≠C:=λc v z y=>by rw[y,l.1] at z;cases z
 have neT:∀(c:Addr)(o:Obj),s.heap.get? c=some o->c≠T:=λc o z y=>by rw[y,B] at z;cases z
 refine (I.hok b u e).stay (λc v hc r=>?_) (λ_ r=>r) λ_ _ r=>r;rcases hc with z|z
 .rw[z] at r |-;exact M b v (ne b u e) (neT b v r) (Y b u e) (X b u e) r
 exact M c v (ne c _ z) (neT c v r) (Y c _ z) (X c _ z) r
end
theorem BK{elt target iter:Expr}{ifs:List Expr}{scope:Scope}{pos:Pos}{it acc:Value}{env:Env}{R:Result->Shared->Prop}{NE:Value->Shared->Prop}(hNE:∀e t,NE e t->notedBy (model P w) A env (λe s'=>R (.error e) s') e t)(I:Nat->Shared->Prop)
  (turn:∀n s,I n s->wpAny (model P w) A (pyNext it) (λr s1=>match r with
   |none=>R (.ok .next) s1
   |some v=>wpAny (model P w) A (letOwnedTupleGo target it v) (λ_ s1'=>wpAny (model P w) A (assign target env v) (λ_ s2=>
     wpAny (model P w) A (forIn ifs true λc r=>if r=true then do let ok <-isTrue c env (eval c env);pure (ForInStep.yield ok) else pure (ForInStep.yield r)) (λok s3=>
      if ok=true then wpAny (model P w) A (eval elt env) (λx s4=>
       wpAny (model P w) A (call (.builtin "list.append") [acc,x]) (λ_ s5=>∃m,m<n/\I m s5) NE s4) NE s3
      else ∃m,m<n/\I m s3) NE s2) NE s1') NE s1) NE s)
  (n:Nat) (h:I n s) :
  codeAny (model P w) A (.compLoop (.ListComp elt [⟨target,iter,ifs,0⟩] scope pos) 0 it acc env) R s:=by
 refine codeAny_loop rfl I (λn s hI=>?_) n h;refine wpAny_noted ?_;rw[compTurn_list];refine aa (kB (aa (cC (turn n s hI) (λr s1 h1=>?_) hNE)));cases r with
 |none=>exact ag h1
 |some v=>
  refine aa (cC h1 (λ_ s1' h1'=>?_) hNE);refine aa (cC h1' (λ_ s2 h2=>aa (cC h2 (λok s3 h3=>?_) hNE)) hNE);cases ok with
  |false=>exact ag ⟨rfl,h3⟩
  |true=>
   exact aa (aa (cC h3 (λx s4 h4=>aa (cC h4 (λ_ s5 h5=>ag (ag ⟨rfl,h5⟩)) hNE)) hNE))
theorem CG{fp:List Addr}{elt target iter:Expr}{ifs:List Expr}{pos:Pos}{it D:Addr}{q:Nat->Heap->Prop}{J:It}{g:TG}{tt:TT}{te:TE}{R:Result->Shared->Prop}{s1:Shared}{H:St}{H1:Hp}{Q:Hp->Prop}
  {Y:Cx} (hY:∀e s',Y.xe e s'->notedBy (model Y.prog Y.w) Y.A Y.env (λe s'=>R (.error e) s') e s') (P:Y.calm=true) (I:Inv Y [] H (upd H1 D (.lst [])) s1) (T:Turn Y.prog Y.w Y.K target J fp it q) (ht:q 0 s1.heap) (hf:∀b∈fp,cU Y [] (upd H1 D (.lst [])) b)
  (hg:PG Y target g) (hi:PIf Y ifs tt) (he:PE Y elt te) (h:ik J g tt te D H H1 Q) (hR:∀s' Z' H',Inv Y [] Z' H' s'->Q H'->R (.ok .next) s') :
  codeAny (model Y.prog Y.w) Y.A (.compLoop (.ListComp elt [⟨target,iter,ifs,0⟩] scope pos) 0 (.ref it) (.ref D) Y.env) R s1:=by
 obtain⟨W,⟨m0,w0⟩,turn⟩:=h;have L:∀{H':Hp},(∀b∈fp,H' b=none)->∀b∈fp,cU Y [] H' b:=λhn b a=>⟨hn b a,(hf b a).2⟩;refine BK hY (λn s'=>∃i Z' ys H',Inv Y [] Z' H' s'/\q i s'.heap/\(∀b∈fp,H' b=none)/\W i n Z' ys H') ?_ m0 ⟨0,H,[],_,I,ht,λb a=>(hf b a).1,w0⟩;rintro n S ⟨i,l,ys,s,U,X,Z,w3⟩;rcases turn i n l ys s w3 with ⟨stop,qn⟩|⟨go,N',ab,step⟩
 .refine thn (T.done Y rfl rfl rfl P i [] S l s _ U (L Z) X stop) λr s4 ⟨M,I4⟩=>?_;subst M;exact hR s4 l s I4 qn
 refine thn (T.item Y rfl rfl rfl P i [] S l s _ U (L Z) X go) λr s4 ⟨u,M,h4⟩=>?_;subst M;refine thn h4 λ_ s5 ⟨x,H5,I5,r5,y5,N,al⟩=>?_;have ad:=I5.pinned (L al) (T.obj _ _ N);rw[p6] at ad;refine thn (hg _ s5 l H5 x u _ ad r5 (step x H5 y5)) λ_ s6 ⟨z,H6,I6,q6⟩=>?_;refine thn (hi _ s6 z H6 _ I6 q6) λb c ⟨f,j,B⟩=>?_;have again:∀{C:St}{f:Hp}{c:Shared}{O:List V},Inv Y (jX fp s5.heap) C f c->(∃E,E<n/\W (i+1) E C O f)->∃m,m<n/\∃i Z' ys H',Inv Y [] Z' H' c/\q i c.heap/\(∀b∈fp,H' b=none)/\W i m Z' ys H':=λ{C f c O} j ⟨E,hm,w7⟩=>by
  refine⟨E,hm,i+1,C,O,f,j.pins_of (λp hp=>by simp at hp),T.keep _ _ _ N λb a o e=>(j.pin (b,o) (eO _ (jE a e))).1,λb a=>?_,w7⟩;obtain⟨o,e,d⟩:=T.obj _ _ N b a;exact (j.pin (b,o) (eO _ (jE a e))).2.1
 cases b with
 |false=>
  rw[mL,NC bu] at B;rw[NC bu];exact again j (ab _ _ _ B)
 |true=>
  rw[mL,ND rfl] at B;rw[ND rfl];refine thn (he _ c z f _ j B) λv s8 ⟨y,H8,I8,r8,hD,hl,q8⟩=>?_;refine thn (dP _ s8 z H8 (.ref D) [y] (.ref D) [v] (λ_ H'=>N' z (ys++[y]) H') I8 rfl (.cons r8 .nil) ⟨D,ys,y,rfl,rfl,hD,hl,q8⟩) λ_ s9 ⟨_,H9,I9,_,q9⟩=>?_;exact again I9 (ab _ _ _ q9)
abbrev iB(X:Cx)(xe:Value->Shared->Prop):Cx:={X with xe:=xe}
theorem Inv.withXe{xe:Value->Shared->Prop}(I:Inv X NI Z H s):Inv (iB X xe) NI Z H s:=
 ⟨⟨I.ok.mod,I.ok.kind,I.ok.glob,I.ok.blt,I.ok.above,I.ok.inj,I.ok.has,I.ok.cab,I.ok.hd,I.ok.frames,I.ok.stk,I.ok.exf,I.ok.bs,I.ok.bsz,I.ok.noex,I.ok.exfs,I.ok.funs,I.ok.frf⟩,I.os,I.bare,I.base,I.loc,I.cell,I.free,I.freeC,I.pin,I.hok,I.len⟩
theorem Inv.noXe{xe:Value->Shared->Prop}(I:Inv (iB X xe) NI Z H s):Inv X NI Z H s:=
 ⟨⟨I.ok.mod,I.ok.kind,I.ok.glob,I.ok.blt,I.ok.above,I.ok.inj,I.ok.has,I.ok.cab,I.ok.hd,I.ok.frames,I.ok.stk,I.ok.exf,I.ok.bs,I.ok.bsz,I.ok.noex,I.ok.exfs,I.ok.funs,I.ok.frf⟩,I.os,I.bare,I.base,I.loc,I.cell,I.free,I.freeC,I.pin,I.hok,I.len⟩
section
variable {N0:List Str}{qual:Str}{scope0:Scope}{f:Addr}{cd:Value}{outer:List Env}{s0:Shared}{H0:Hp}{E:XK}
 {N:List Str} {fr:List (Option Nat)} {scope:Scope} {elt tg iter:Expr} {ifs:List Expr} {pos:Pos} {wi:TI} {g:TG} {tt:TT} {te:TE}
theorem DD(hX:X=dw (CX1 P w) P w K mg base N0 qual scope0 f cd A outer s0 H0 E)(S:eP X N fr scope)(hi:PI X tg iter wi)
  (a:∀(C:Addr)(s:Shared)(H:Hp)(fp:List Addr)(NI:List (Addr×Obj))(xe:Value->Shared->Prop),Passes (CX1 P w) (iB (dR X N scope C s H fp NI) xe) E->PG (iB (dR X N scope C s H fp NI) xe) tg g/\PIf (iB (dR X N scope C s H fp NI) xe) ifs tt/\PE (iB (dR X N scope C s H fp NI) xe) elt te)
  (hs:∀x,foldedSetIterable iter X.env x=pure x:=by intro _;rfl):PE X (.ListComp elt [⟨tg,iter,ifs,0⟩] scope pos) (iw wi g tt te fr):=by
 subst hX;intro NI s Z H Q I h;rw[eval_ListComp];refine As (use:=none) rfl hs (qy (S.cells I.ok)) S.kind S.names (thn (hi NI s Z H _ I h) λv s1 h1=>thn h1 λbA s2 h2=>?_);generalize i:dw (CX1 P w) P w K mg base N0 qual scope0 f cd A outer s0 H0 E=X at *;obtain⟨it,fp,tn,J,H1,e,I2,T,an,f2,q⟩:=h2;subst e;have hD:H1 s2.heap.objs.size=none:=I2.hok.fresh (ak _);have old:∀b∈fp,b<s2.heap.objs.size:=λb a=>by
  obtain⟨o,e,_⟩:=T.obj _ _ an b a;exact aE e
 refine dZ (Me S.nocell (by intro y hy;simp at hy) (λh1 ap ab=>?_) S.kind);dsimp only at ap ab |-;have D:Inv X NI Z (upd H1 s2.heap.objs.size (.lst [])) {s2 with heap:=s2.heap.push {cls:=.type "list",dict:=none,data:=.seq ([]:List Value).toArray}}:=by refine I2.laid (t':=s2.toks) (λb u e=>aI _ e) (ak _) ?_;exact⟨aJ _,[],_,.nil,bq _ rfl⟩
 have j:∀b∈fp,cU X NI (upd H1 s2.heap.objs.size (.lst [])) b:=λb a=>⟨by rw[ar (bc (old b a))];exact (f2 b a).1,(f2 b a).2⟩;have hsz:(s2.heap.push {cls:=.type "list",dict:=none,data:=.seq ([]:List Value).toArray}).objs.size=s2.heap.objs.size+1:=jk ..;have L:=uP (C:=(s2.heap.push {cls:=.type "list",dict:=none,data:=.seq ([]:List Value).toArray}).objs.size) (h1:=h1) (t:=s2.toks+([]:List (Str×Value)).length) (fp:=fp) S D j (ak _)
  (λb a=>by rw[hsz];exact bc (nz (old b a))) ap λb o e=>ab.extBut b o (bc (aE e)) (aI _ e)
 have au:tn 0 h1:=T.keep _ _ _ an λb a o e=>by
  have e1:=aI {cls:=.type "list",dict:=none,data:=.seq ([]:List Value).toArray} e;exact ab.extBut b o (bc (aE e1)) (aI _ e1)
 generalize hC:(s2.heap.push {cls:=.type "list",dict:=none,data:=.seq ([]:List Value).toArray}).objs.size=C at *;generalize aM:({s2 with heap:=s2.heap.push {cls:=.type "list",dict:=none,data:=.seq ([]:List Value).toArray}}:Shared)=B at *;have aS:B.heap.objs.size<=C:=by rw[<-aM,<-hC];exact ak _
 have hc:X.calm=true:=by rw[<-i];rfl
 have hex:X.ex=[]:=by rw[<-i];rfl
 have ad:X.stack=X.env::outer:=by rw[<-i];rfl
 have bK:X.outer=outer:=by rw[<-i];rfl
 have a0:X.env.frame=some X.env.locals:=by rw[<-i];rfl
 have f4:∀b∈fp,cU (dR X N scope C B (upd H1 s2.heap.objs.size (.lst [])) fp NI) [] (upd H1 s2.heap.objs.size (.lst [])) b:=λb a=>by
  refine⟨(j b a).1,(L.ok.exf b a).1,L.ok.exfs b a,.inl a,(L.ok.exf b a).2,λp M=>?_⟩;have M:p∈(X.pn++NI)++[]:=M;rw[fM] at M;exact (j b a).2.2.2.2.2 p M
 let R:Result->Shared->Prop:=λr s'=>compPost (model X.prog X.w) X.A X.xe none (EP X NI Z Q) (.ref s2.heap.objs.size) C r s'
 let NE:Value->Shared->Prop:=notedBy (model X.prog X.w) X.A (compEnvC scope (c_ X.env scope.names []) C X.env) (λe s'=>R (.error e) s')
 have hP:Passes (CX1 P w) (iB (dR X N scope C B (upd H1 s2.heap.objs.size (.lst [])) fp NI) NE) E:=by
  rintro bL Z' H' s' e l J ⟨x,cls,d,H2,rfl,hx,hn,hH,os,bare,un,hok,qE⟩;have a1:X.prog=P/\X.w=w:=by rw[<-i];exact⟨rfl,rfl⟩
  have a3:HOk X.prog X.w H2 l.heap:=by rw[a1.1,a1.2];exact hok
  have J2:=J.call' (ch:=[]) os un a3 bare (λb z=>absurd z (by simp));obtain⟨n,c⟩:=qZ D j aS J2.noXe;have a4:X.s₀.heap.get? x=none:=by
   cases ex:X.s₀.heap.get? x with
   |none=>rfl
   |some o=>
    obtain⟨o',z⟩:=D.base.there x o ex (by rw[hex];simp);have a5:x∉fp:=λm=>by
     rcases (j x m).2.2.2.1 with y|y
     .rw[hex] at y;cases y
     exact absurd (aE ex) (tX.mpr y)
    obtain⟨bR,O⟩:=J.base.there x o' z a5;rw[hn] at O;cases O
  have bb:∀o,l.heap.get? x=some o->∃vs,o.data=.fields vs:=λo ho=>by
   obtain⟨oe,vs,he,_,_,hd,_⟩:=hx;rw[he] at ho;cases ho;exact⟨vs,hd⟩
  obtain⟨m,hm,_⟩:=J2.loc;have hm:l.heap.Ns C m:=hm;obtain⟨oC,es,ep,al,rC⟩:=hm;have Cx:C≠x:=λz=>by
   obtain⟨m',U,_⟩:=J.loc;obtain⟨o',_,_,a2,_⟩:=(show s'.heap.Ns C m' from U);rw[z,hn] at a2;cases a2
  show wpAny _ _ (noteFrame (.ref x) _) _ _ l;have sk:=n.stack;rw[ad] at sk;refine HE (outer:=outer) (by rw[<-ad];exact n.ok.frames) sk a0 a0 hx λh3 Tb xv nT lb=>?_;have CT:C≠Tb:=λz=>by rw[z,nT] at al;cases al
  have CL:C∉frs (X.env::outer):=λU=>by
   rw[<-ad] at U;rcases aK.mp (n.stkSub C U) with z|z
   .exact c.2.1 z
   exact c.2.2.1 z
  refine⟨m,⟨oC,es,ep,lb.keep C oC Cx CL al,rC⟩,λh5 bd bS b0=>?_⟩;have o5:∀b,b≠C->∀o,h3.get? b=some o->h5.get? b=some o:=λb a o z=>bd.extBut b o a z;have be:ji h5 x cls d Tb:=by obtain⟨oe,vs,oT,ts,he,bg,bi,hd,bl,bm,bn,hT,bt,hz⟩:=xv;exact⟨oe,vs,oT,ts,o5 x (aB Cx) _ he,bg,bi,hd,bl,bm,bn,o5 Tb (aB CT) _ hT,bt,hz⟩
  refine Hu (s:={l with heap:=h5}) be λh6 bw o6=>?_;subst i;refine HK (s:=l) (T:=Tb) (C:=C) n a4 bb hH qE bw nT c (λb o nx am nC a z=>?_) λb o nx am nC z=>?_
  .rw[o6 b am];exact o5 b nC o (lb.keep b o nx a z)
  obtain⟨sl,O⟩:=lb.slot b o nx z;exact⟨sl,by rw[o6 b am];exact o5 b nC _ O⟩
 obtain⟨b1,b2,b3⟩:=a C B (upd H1 s2.heap.objs.size (.lst [])) fp NI NE hP;have run:=CG (Y:=iB (dR X N scope C B (upd H1 s2.heap.objs.size (.lst [])) fp NI) NE) (elt:=elt) (iter:=iter) (pos:=pos) (scope:=scope) (R:=R) (λ_ _ z=>z) hc L.withXe T au f4 b1 b2 b3 (q _ hD) λs' Z' H' I' q'=>by
  obtain⟨n,c⟩:=qZ D j aS I'.noXe;obtain⟨m,hm,_⟩:=I'.loc;refine⟨m,hm,λh' bx=>⟨.ref _,H',?_,rfl,q'⟩⟩;exact n.turned (t':=s'.toks) (λb o a e=>bx.extBut b o a e) c.1 c.2.1 c.2.2.2.1 c.2.2.2.2.1 c.2.2.2.2.2
 subst aM;show codeAny _ _ _ R _;exact LF run (T.self _ 0 _ _ _ au run)
end
end L2
end
section
namespace K15
open PySem L2 K51 K31
def dM(t:Tri):Option Tri:=gq [some (t.1:Int),some (t.2.1:Int),some (t.2.2:Int)]
theorem xT{ts:List Tri}(h:aw H vs ts):mH K H vs (ts.map dM):=by
 induction h with
 |nil=>exact .nil
 |cons q _ b=>
  obtain⟨a,e,h⟩:=q;subst e;exact .cons (.inr ⟨a,_,[some (_:Int),some (_:Int),some (_:Int)],rfl,h,.cons rfl (.cons rfl (.cons rfl .nil)),rfl⟩) b
theorem uY{t u:Tri}(h:dM t=some u):u=t:=by obtain⟨e,_⟩:=qu h;obtain⟨a,b,c⟩:=t;obtain⟨x,y,z⟩:=u;simp at e;simp;lia
theorem Dl{l:List Nat}{t:Tri}(d:Rdb l)(h:rdP l=some t):t.1<10 ^ 160/\t.2.1<10 ^ 160/\t.2.2<10 ^ 160:=by
 obtain⟨a,b,c,e,ha,f,g,rfl⟩:=vU h;have one:∀w∈spl [32] l,fig w=true->val w<10 ^ 160:=λw hw hf=>
  bP (F8 (jQ hf)) (p9 (by decide) (br (d.r w (hJ hw) (jQ hf)) (by decide)))
 exact⟨one a (by rw[e];simp) ha,one b (by rw[e];simp) f,one c (by rw[e];simp) g⟩
def wV(K:W.Frag)(Cs C b a:Addr):Sp:=λvs H Q E=>∃v,vs=[v]/\
 ((∃ty,cD K H v ty/\W.kitOne K ty (.type "str")=some false)/\(∀H',Same H H'->E (.ref a) none H') \/
  ∃l,v=.str (txt l)/\Rdb l/\(spl [59,32] l).length<=300/\(none∈rdT l->∀H',Same H H'->E (.ref a) none H')/\∀ts:List Tri,rdT l=ts.map some->
   (∀(us:List Tri) x H',ts.map dM=us.map some->dQ (ts.map dM) none->Sm H H'->sF Cs H' x us->Q (.ref x) H')/\∀fl c d H',dQ (ts.map dM) (some fl)->Sm H H'->Refuses C b H' fl c d->E c d H')
theorem w5{x dx:Addr}{Cs:Addr}(h1:H x=none)(h2:H dx=none)(s:SmB x (upd (upd H dx (.own x)) x (.ins Cs dx [])) H'):Sm H H':=λb o e=>by
 have a:=aq e h1;have c:=aq e h2;exact s b o a (by rw[ar a,ar c];exact e)
theorem vd{x dx:Addr}{Cs:Addr}(h1:H x=none)(h2:H dx=none):Same H (upd (upd H dx (.own x)) x (.ins Cs dx [])):=λb o e=>by
 rw[ar (aq e h1),ar (aq e h2)];exact e
section
theorem scRK:a7 ["text"] ["text"] (aC kJ):=by walk_at"sc"
theorem DN{f O fa Cs C CM r:Addr}{fd d1 da:FuncData}(U:Fun K "read_skin" "read_skin" kJ f fd)(T:cq mg)(M:Mk K Cs fa)(al:mg "Skin" = some (.ref Cs))
  (GR:aj P w K mg base (CX1 P w) 2 O d1 ["part"] (wR r)) (bR:Binds K d1 ["part"] []) (mR:mg "read_triple" = some (.ref O)) (kR:W.keepIn K (.ref O)=true)
  (GK:aj P w K mg base (CX1 P w) 5 fa da ["self","triples"] (wO K Cs C CM)) (bK:Binds K da ["self","triples"] []) (mC:mg "NoText" = some (.ref r)) (hC:W.excIn K r bmV "ValueError.__new__" = true):aj P w K mg base (CX1 P w) 7 f fd ["text"] (wV K Cs C CM r):=by
 refine U.ok1 scRK (λvs H Q E h=>?_) (λNJ A outer s H vs Q E R h=>?_)
 .obtain⟨v,rfl,_⟩:=h;rfl
 obtain⟨v,rfl,h⟩:=h;have ap:=R.mono (show 2<=6 by decide);have a0:=line99k;refine⟨_,(af (bo (eJ (dq (bH (iS (c:="str")) (by rfl) T.isi eW (ae (pv 0) (pa1 (ig (v:=.ty "str") rfl T.str K4 rfl)))))) (ai (oq lets1 rfl rfl rfl mC hC (pa1 bB))) bj)
  (af (bo (a6 eA (pv 0) bB (nomark _)) (ai (aN (xn M GK R rfl al bK .nil pass1 (pa1 (bF du))))) bj)
  (ai (aN (xn M GK R rfl al bK .nil pass1 (pa1 (DD rfl (N:=["part"]) (fr:=[none]) (gh (by decide +kernel) rfl (by decide +kernel) (by decide +kernel)) (bI (cA nI t4 t6 n8 (pv 0) (pa1 bB)))
    (λC' s' H' fp NI xe S=>⟨(gx 0 (by decide:(["part"]:List Str).Nodup)),di,(iX GR ap rfl mR kR bR .nil S (pa1 (pv 0)))⟩)))))))),?_⟩
 rcases h with ⟨⟨ty,X,hk⟩,qE⟩|⟨l,rfl,Y,hm,qN,qT⟩
 .exact⟨_,rfl,_,_,false,rfl,X,hk,_,rfl,j6 ⟨lit1,qE H λ_ _ z=>z⟩⟩
 refine⟨_,rfl,_,_,true,rfl,.str _,rfl,_,rfl,kg ⟨_,rfl,rfl,_,rfl,?_⟩⟩;rw[show (Str.ofString "")=txt [] from rfl,jR];by_cases hl:l=[]
 .subst hl;obtain⟨q1,q2⟩:=qT [] (by unfold rdT;rw[ND rfl];rfl);refine aT ⟨aJ _,λT0 H1 g1 s1 B x dx hx q au=>?_⟩;have m:=vd (Cs:=Cs) hx q;exact⟨x,dx,T0,[],[],rfl,aP,m _ _ B,.nil,aJ _,by simp,λus H' e g sm ord=>⟨rfl,q1 us x H' e g ((Sm.of s1).trans (w5 hx q sm)) ord⟩,λfl c d H' g sm rf=>q2 fl c d H' g (((Sm.of s1).trans (Sm.of m)).trans sm.1) rf⟩
 rw[show (l==[])=false from beq_eq_false_iff_ne.mpr hl];have am:rdT l=(spl [59,32] l).map rdP:=by unfold rdT;rw[NC hl]
 have hn:=Y.n;refine aH ⟨_,rfl,rfl,[59,32],l,rfl,by rw[sP],by simp,by lia,λp S=>?_⟩;walk_at"H p S H1 s1 B";refine⟨p,rfl,⟨_,SqL.of B⟩,λZ_ hZ=>dG (K:=[]) (a:=p) (xs:=(spl [59,32] l).map λz=>V.str (txt z)) (λi Z ys H'=>∃o ts,Z=[o]/\Same H1 H'/\H' Z_=some (.lst ys)/\aw H' ys ts/\((spl [59,32] l).take i).map rdP=ts.map some) ⟨none,[],rfl,bQ hZ,aP,.nil,rfl⟩ (by rintro i Z ys H' _ ⟨_,_,_,e,_⟩;exact SqL.of (e _ _ B)) ?_ ?_⟩
 .rintro i y Z ys H' hi ⟨o,ts,rfl,sm,D,tr,j⟩;rw[aY] at hi;obtain⟨z,ab,rfl⟩:=bW.mp hi;have an:=a8 ab;have a1:=(aG.mp ab).1;have aM:ts.length=i:=by
   have:=congrArg List.length j;rw[ao,ao,bf] at this;lia
  refine⟨_,rfl,z,rfl,Y.infix (hJ an),λt x H2 e s2 y2=>⟨s2 _ _ D,by rw[aF tr];lia,λHn kn yn=>⟨_,ts++[t],rfl,λb o e=>(kn b (aq e hZ)).trans (s2 _ _ (sm _ _ e)),yn,?_,?_⟩⟩,λe H2 s2=>qN ?_ H2 ((s1.trans sm).trans s2)⟩
  .have aS:=s2 _ _ D;have tn:∀{I:Addr}{xs:List V},H2 I=some (.tup xs)->I≠Z_:=λe=>bO e aS (by simp);exact cJ (Paired.imp' (λ_ _ ⟨I,e1,L⟩=>⟨I,e1,(kn _ (tn (s2 _ _ L))).trans (s2 _ _ L)⟩) tr) (.cons ⟨x,rfl,(kn _ (tn y2)).trans y2⟩ .nil)
  .rw[ba,ab,aQ,j,aQ];simp[e]
  rw[am];exact ay.mpr ⟨z,an,e⟩
 rintro Z ys H2 ⟨o,ts,rfl,sm,D,tr,j⟩;rw[ao,bV] at j;have aM:ts.length<=300:=by have:=congrArg List.length j;rw[ao,ao] at this;lia
 obtain⟨q1,q2⟩:=qT ts (by rw[am];exact j);intro x dx hx q au;have m:=vd (Cs:=Cs) hx q;have s2:Same H H2:=s1.trans sm;refine⟨x,dx,Z_,ys,ts.map dM,rfl,aP,m _ _ D,xT (tr.same m),by rw[ao];lia,λt X=>?_,λus H' e g ad ord=>⟨rfl,q1 us x H' e g ((Sm.of s2).trans (w5 hx q ad)) ord⟩,λfl c d H' g ad rf=>q2 fl c d H' g (((Sm.of s2).trans (Sm.of m)).trans ad.1) rf⟩;obtain⟨u,hu,e⟩:=ay.mp X;rw[uY e];obtain⟨z,hz,L⟩:=ay.mp (show some u∈(spl [59,32] l).map rdP by rw[j];exact ay.mpr ⟨u,hu,rfl⟩);exact Dl (Y.infix (hJ hz)) L
end
def sgs:List Nat:=[48,49,50,51,52,53,54,55,56,57,32,59,32,32,48,48,95,43,45,44,10,9]
theorem Jm:(Str.ofString "0123456789 ;  00_+-,\n\t")=txt sgs:=by decide +kernel
def Sp1(l a:List Nat):Prop:=∃i j m,i<=l.length/\a=l.take i++m++l.drop j/\i<=j/\m.length<=1/\(j=i\/j=i+1)/\∀c∈m,c∈sgs
theorem Sp1.runs{l a:List Nat}(h:Sp1 l a){B:Nat}(r:Runs B l):Runs (2*B+1) a:=by obtain⟨i,j,m,_,rfl,_,hm,_⟩:=h;have:=((r.take i).app (Runs.len (l:=m))).app (r.drop j);exact this.mono (by lia)
theorem Sp1.asc{l d:List Nat}(h:Sp1 l d)(a:asc l):asc d:=by
 obtain⟨i,j,m,_,rfl,_,_,_,hm⟩:=h;intro c b;rcases aW.mp b with b|b
 .rcases aW.mp b with b|b
  .exact a c (List.mem_of_mem_take b)
  have:=hm c b;revert this;exact (by decide:∀c∈sgs,c<128) c
 exact a c (List.mem_of_mem_drop b)
theorem Sp1.len{l a:List Nat}(h:Sp1 l a):a.length<=l.length+1:=by obtain⟨i,j,m,_,rfl,_,hm,_⟩:=h;rw[aL,aL,bf,eV];lia
theorem Sp1.count{l a:List Nat}(h:Sp1 l a)(c:Nat):a.count c<=l.count c+1:=by
 obtain⟨i,j,m,_,rfl,b,hm,_⟩:=h;have h1:(l.take i).count c+(l.drop i).count c=l.count c:=by rw[<-jl,f_]
 have h2:(l.drop j).count c<=(l.drop i).count c:=by
  have e:l.drop j=(l.drop i).drop (j-i):=by rw[zD];congr 1;lia
  rw[e];exact Mu _ (List.drop_sublist _ _)
 have d:m.count c<=m.length:=List.count_le_length;rw[jl,jl];lia
def wQ:Sp:=λvs H Q _=>∃p l q,vs=[.ref p,.str (txt l)]/\H p=some (.lst (bG q))/\bT q/\l.length<=80000/\∀a b H',Sp1 l a->But p H H'->H' p=some (.lst (bG b))->bT b->Q (.str (txt a)) H'
section
theorem mQ:a7 ["_law_pot_here","_law_text","_law_signs_here","_law_way","_law_at_here","_law_sign"] ["_law_pot_here","_law_text"] (aC lC):=by walk_at"sc"
theorem DJ{f R:Addr}{fd S:FuncData}(U:Fun K "_law_signs" "_law_signs" lC f fd)(T:cq mg)(n:Use P w K mg base 1 "_law_digit" ["_law_pot_here","_law_base"] gj R S):aj P w K mg base CX0 2 f fd ["_law_pot_here","_law_text"] wQ:=by
 refine U.ok mQ (by rintro _ _ _ _ ⟨_,_,_,rfl,_⟩;rfl) λNJ A outer s H vs Q E r h=>?_
 obtain⟨p,l,q,rfl,X,d,Y,Z⟩:=h;have B:=line99k;refine⟨_,(af (sx 2 mQ.nd bB)
  (af (sx 3 mQ.nd (uc n r (ae (pv 0) (pa1 ah))))
  (af (sx 4 mQ.nd (uc n r (ae (pv 0) (pa1 (ax cF (bH uu (by rfl) T.len t7 (pa1 (pv 1))) ah)))))
  (af (sx 5 mQ.nd (ixx yy (pv 2) (uc n r (ae (pv 0) (pa1 (bH uu (by rfl) T.len t7 (pa1 (pv 2))))))))
  (af (bo (a6 eA (pv 3) ah (nomark _)) (ai (aN (ax kH (ax kH (h_ oV (pv 1) ie (ic (pv 4))) (pv 5)) (h_ oV (pv 1) (ic (pv 4)) ie)))) bj)
  (ai (aN (ax kH (ax kH (h_ oV (pv 1) ie (ic (pv 4))) (ax Fi (pv 5) (ax gp (pv 3) ah))) (h_ oV (pv 1) (ic (ax cF (pv 4) ah)) ie))))))))),?_⟩
 rw[Jm];obtain⟨w1,w2⟩:=cQ (q:=q) (b:=3) (by decide);refine⟨_,rfl,p,q,3,rfl,X,d,by decide,by decide +kernel,λH1 k1 y1=>?_⟩;have tl:(txt l).length=l.length:=bE l;obtain⟨a1,C⟩:=cQ (q:=nxt q 3) (b:=((txt l).length:Int)+1) (by lia);refine⟨_,rfl,_,rfl,_,rfl,by rw[tl];lia,_,_,rfl,rfl,p,nxt q 3,_,rfl,y1,bJ d,by lia,iR (by lia) (by rw[tl];exact s_ (show (l.length:Int)+1<=80001 by lia) (by decide)),λH2 k2 y2=>?_⟩;obtain⟨i,hi⟩:∃i:Nat,digO (nxt q 3) (((txt l).length:Int)+1)=(i:Int):=⟨_,(dW a1).symm⟩;rw[hi] at C |-;rw[tl] at C;have D:i<=l.length:=by lia
 obtain⟨x1,I⟩:=cQ (q:=nxt (nxt q 3) (((txt l).length:Int)+1)) (b:=((txt sgs).length:Int)) (by rw[bE];decide);refine⟨_,rfl,_,rfl,_,rfl,_,rfl,by rw[bE];exact br (show sgs.length<=100000 by decide) B,p,_,_,rfl,y2,bJ (bJ d),by rw[bE];decide,by rw[bE];decide +kernel,λu k3 y3=>?_⟩;obtain⟨j,hj⟩:∃j:Nat,digO (nxt (nxt q 3) (((txt l).length:Int)+1)) ((txt sgs).length:Int)=(j:Int):=⟨_,(dW x1).symm⟩;rw[hj] at I |-;rw[bE] at I;obtain⟨c,L⟩:∃c,sgs[j]?=some c:=⟨_,bX (by have:sgs.length=22:=rfl;lia)⟩;have M:=a8 L;refine⟨_,_,c,rfl,rfl,by rw[bE];exact br (show sgs.length<=100000 by decide) B,by rw[gi];exact c9 L,?_⟩;rw[show (⟨#[c]⟩:Str)=txt [c] from rfl];have bt:But p H u:=λb o nb e=>(k3 b nb).trans ((k2 b nb).trans ((k1 b nb).trans e));have fin:∀g,Sp1 l g->Q (.str (txt g)) u:=λg h=>Z g _ u h bt y3 (bJ (bJ (bJ d)));have cz:∀(a b:Option Int),(eC l a b).length<=80000:=λa b=>br (by unfold eC;exact br (List.length_take_le' ..) (by rw[eV];exact Nat.sub_le _ _)) Y;refine⟨_,rfl,rfl,_,rfl,?_⟩;generalize digO q 3=m at *;by_cases N:m=0
 .subst N;refine aT ⟨_,rfl,_,rfl,_,rfl,l,rfl,by lia,_,rfl,_,_,rfl,rfl,?_,?_⟩
  .rw[pA,bE,bE,bf,bY];lia
  rw[pA,iT];refine⟨_,rfl,_,rfl,_,rfl,l,rfl,by lia,_,_,rfl,rfl,?_,?_⟩
  .rw[lh,bE,bE,aL,bf,bY,eV];lia
  rw[lh,iT];exact fin _ ⟨i,i,[c],D,rfl,ak _,by simp,.inl rfl,by simpa using M⟩
 rw[show decide (V.int m=V.int 0)=false from NG λz=>N (V.int.inj z)];obtain⟨k,hk,ab⟩:∃k:Nat,m-1=(k:Int)/\k<=1:=⟨(m-1).toNat,by lia,by lia⟩;have v:((List.replicate k [c]).flatten).length=k:=by simp
 refine aH ⟨_,rfl,_,rfl,_,rfl,l,rfl,by lia,_,rfl,_,rfl,_,_,rfl,rfl,[c],(k:Int),rfl,congrArg V.int hk,by lia,by lia,by rw[bY,iF];lia,_,_,rfl,rfl,?_,?_⟩
 .rw[pA,bE,bE,bf,iF,v];lia
 rw[pA,iT,iF];have O:(i:Int)+1=((i+1:Nat):Int):=by lia
 refine⟨_,rfl,_,rfl,_,_,rfl,rfl,_,rfl,l,rfl,by lia,_,_,rfl,rfl,?_,?_⟩
 .rw[O,lh,bE,bE,aL,bf,v,eV];lia
 rw[O,lh,iT];exact fin _ ⟨i,i+1,_,D,rfl,ko _,by rw[v];exact ab,.inr rfl,λx hx=>by
  obtain⟨y,hy,hx⟩:=List.mem_flatten.mp hx;rw[(KD.mp hy).2] at hx;rw[aR.mp hx];exact M⟩
end
end K15
end
section
namespace L2
open PySem
theorem Er{D:Addr}{g:TG}{tt:TT}{te:TE}{Z':St}{H1:Hp}{Q:Hp->Prop}{l:List Nat}(Pv:Nat->St->List V->Hp->Prop)(b:Pv 0 Z' [] (upd H1 D (.lst [])))
  (d:∀i c Z ys H,l[i]?=some c->Pv i Z ys H->g (.str (txt [c])) Z H (mO tt te D ys (Pv (i+1))))
  (hd:∀Z ys H,Pv l.length Z ys H->Q H):ik (Its l) g tt te D Z' H1 Q:=by
 refine⟨λi m Z ys H=>m=l.length-i/\i<=l.length/\Pv i Z ys H,⟨l.length,by simp,aJ _,b⟩,?_⟩;rintro i m Z ys H ⟨rfl,hi,p⟩;by_cases a:i<l.length
 .refine .inr ⟨a,Pv (i+1),λZ' j H' f=>⟨l.length-(i+1),by lia,rfl,a,f⟩,λx H' y=>?_⟩;obtain⟨e,c,h,ex⟩:=y;subst e ex;exact d i c Z ys _ h p
 have e:i=l.length:=by lia
 subst e;exact .inl ⟨ak _,hd Z ys H p⟩
end L2
namespace K15
open PySem L2 K51 K31
theorem s_ds:(Str.ofString "0123456789")=txt [48,49,50,51,52,53,54,55,56,57]:=by decide +kernel
theorem Cc:∀c:Nat,c<128->(!(!(Builtin.Str.occurrences (txt [48,49,50,51,52,53,54,55,56,57]) (txt [c]) 0 (txt [48,49,50,51,52,53,54,55,56,57]).length 1).isEmpty))=!dig c:=by decide +kernel
def wU:Sp:=λvs H Q _=>∃l,vs=[.str (txt l)]/\Rdb l/\(spl [59,32] l).length<=300/\(none∈rdT l->∀H',Same H H'->Q .non H')/\∀ts:List Tri,rdT l=ts.map some->∀r a H',Same H H'->H' r=some (.lst a)->aw H' a ts->Q (.ref r) H'
theorem Ij(z:List Nat):fig z=!(z==[]||(z.any (λc=>!dig c)||(z.head?==some 48&&!(z==[48])))):=by
 unfold fig;rw[<-List.not_all_eq_any_not];have e:(z.head? != some 48)=!(z.head?==some 48):=rfl;rw[e];have f:z.isEmpty=(z==[]):=by cases z<;>rfl
 rw[f];generalize (z==[])=a;generalize z.all dig=b;generalize (z.head?==some 48)=c;generalize (z==[48])=d;cases a<;>cases b<;>cases c<;>cases d<;>rfl
section
theorem mU:a7 ["_law_text","_law_triples","_law_part","_law_words","_law_word"] ["_law_text"] (aC lZ):=by walk_at"sc"
theorem DM{f:Addr}(U:Fun K "_law_read" "_law_read" lZ f fd)(T:cq mg)(mA:mg "any" = none):aj P w K mg base CX0 1 f fd ["_law_text"] wU:=by
 refine U.ok mU (by rintro _ _ _ _ ⟨_,rfl,_⟩;rfl) λNJ A outer s H vs Q E hr h=>?_
 obtain⟨l,rfl,rb,hm,qN,qT⟩:=h;have a4:=line99k;have hn:=rb.n;refine⟨_,(af (sx 1 mU.nd (bF du))
  (af (bo (a6 eA (pv 0) bB (nomark _)) (ai (aN (pv 1))) bj)
  (af (b_ cv rfl (bI (cA nI t4 t6 n8 (pv 0) (pa1 bB))) (gx 2 mU.nd)
   (af (sx 3 mU.nd (cA nI t4 t6 n8 (pv 2) (pa1 bB)))
   (af (bo (a6 fq (pln T.len (pv 3)) ah (nomark _)) (ai (aN jY)) bj)
   (af (b_ cv rfl (bI (pv 3)) (gx 4 mU.nd)
    (ai (bo (PW.pt (fm (a6 eA (pv 4) bB (nomark _)) (fm (dq (bH (AV rfl) (by rfl) mA Mw (pa1 (c7 (N:=["_law_sign"]) (fr:=[none]) (gh (by decide +kernel) rfl (by decide +kernel) (by decide +kernel)) rfl (Hm (pv 4))
      (λC s H fp NI=>⟨gx 0 (by decide:(["_law_sign"]:List Str).Nodup),di,eQ AZ (pv 0) bB rfl⟩)))))
     (iq (PW.pt (jW (a6 eA (ixx yy (pv 4) ah) bB (nomark _)) (jN (a6 fq (pv 4) bB (nomark _))))))))) (ai (aN jY)) bj)))
   (ai (cZ (cA dD eX eY dP (pv 1) (pa1 (cP jC (by rfl) T.tuple jv (pa1 (c7 (N:=["_law_word"]) (fr:=[none]) (gh (by decide +kernel) rfl (by decide +kernel) (by decide +kernel)) rfl (bI (pv 3))
      (λC s H fp NI=>⟨gx 0 (by decide:(["_law_word"]:List Str).Nodup),di,cP nS (by rfl) T.int gQ (pa1 (pv 0))⟩))))))))))))
  (ai (aN (pv 1)))))),?_⟩
 refine⟨aJ _,λg H1 g1 s1 y1=>?_⟩;refine⟨_,rfl,rfl,_,rfl,?_⟩;rw[show (Str.ofString "")=txt [] from rfl,jR];by_cases hl:l=[]
 .subst hl;exact aT ⟨_,rfl,qT [] (by unfold rdT;rw[ND rfl];rfl) g [] H1 s1 y1 .nil⟩
 rw[show (l==[])=false from beq_eq_false_iff_ne.mpr hl];have au:rdT l=(spl [59,32] l).map rdP:=by unfold rdT;rw[NC hl]
 refine aH ⟨_,rfl,rfl,[59,32],l,rfl,by rw[sP],by simp,by lia,λp hp=>?_⟩;walk_at"H1 p hp H2 s2 y2";have a1:p≠g:=aB (aq y1 hp);refine⟨p,rfl,⟨_,SqL.of y2⟩,dh (K:=[]) (a:=p) (xs:=(spl [59,32] l).map λz=>V.str (txt z)) (λi Z H'=>∃o2 o3 o4 D ts,Z=[some (.str (txt l)),some (.ref g),o2,o3,o4]/\But g H2 H'/\H' g=some (.lst D)/\aw H' D ts/\((spl [59,32] l).take i).map rdP=ts.map some)
  ⟨none,none,none,[],[],rfl,But.refl,s2 _ _ y1,.nil,rfl⟩ (by rintro i Z H' _ ⟨_,_,_,_,_,_,e,_⟩;exact SqL.of (e _ _ a1 y2)) ?_ ?_⟩
 .rintro i y Z O hi ⟨o2,o3,o4,D,ts,rfl,bt,al,tr,R⟩;rw[aY] at hi;obtain⟨z,am,rfl⟩:=bW.mp hi;have aM:=a8 am;have a5:=(aG.mp am).1;have rz:=rb.infix (hJ aM);have bb:=rz.n;have bd:ts.length=i:=by
   have:=congrArg List.length R;rw[ao,ao,bf] at this;lia
  have a2:Same H O:=λb o e=>bt _ _ (aq e g1) (s2 _ _ (s1 _ _ e));have bad:rdP z=none->∀H',Same O H'->Q .non H':=λe H' s=>qN (by rw[au];exact ay.mpr ⟨z,aM,e⟩) H' (a2.trans s);refine⟨_,rfl,rfl,[32],z,rfl,by rw[s_b],by simp,by lia,λv a3=>?_⟩;walk_at"O v a3 H4 s4 y4";refine⟨_,rfl,v,_,rfl,.inl (SqL.of y4),rfl,_,rfl,?_⟩;rw[ao];by_cases h3:(spl [32] z).length=3
  .rw[h3];refine aH ?_;refine⟨_,rfl,v,rfl,⟨_,SqL.of y4⟩,dh (K:=[]) (a:=v) (xs:=(spl [32] z).map λz=>V.str (txt z)) (λj Z H'=>(∃o,Z=[some (.str (txt l)),some (.ref g),some (.str (txt z)),some (.ref v),o])/\Same H4 H'/\∀w∈(spl [32] z).take j,fig w=true) ⟨⟨_,rfl⟩,λ_ _ e=>e,by simp⟩ (by rintro j Z H' _ ⟨_,e,_⟩;exact SqL.of (e _ _ y4)) ?_ ?_⟩
   .rintro j y Z S hj ⟨⟨o,rfl⟩,x,q⟩;rw[aY] at hj;obtain⟨u,X,rfl⟩:=bW.mp hj;have ab:=a8 X;have an:=rz.infix (hJ ab);have be:=an.n;have out:fig u=false->∀H',Same S H'->Q .non H':=λe H' s=>bad (lH (.inr ⟨u,ab,e⟩)) H' ((s4.trans x).trans s);have keep:fig u=true->∀w∈(spl [32] z).take (j+1),fig w=true:=λe w hw=>by
     rw[ba,X] at hw;rcases aW.mp hw with hw|hw
     .exact q w hw
     rw[show w=u by simpa using hw];exact e
    rw[Ij] at out keep;refine⟨_,rfl,rfl,_,rfl,?_⟩;rw[jR];cases e1:(u==[]) with
    |true=>rw[e1] at out;exact aT (aT (out rfl S λ_ _ e=>e))
    |false=>
     rw[e1,sX] at out keep;refine aH ⟨_,rfl,u,rfl,an.a,λY hY=>Er (l:=u) (λk Z ys H'=>∃o,Z=[o]/\Same S H'/\H' Y=some (.lst ys)/\ys=((u.take k).map λc=>!dig c).map V.bl) ⟨none,rfl,bQ hY,aP,rfl⟩ ?_ ?_⟩
     .rintro k c Z ys I L ⟨o,rfl,d,m,rfl⟩;have bg:=(aG.mp L).1;refine⟨_,rfl,_,_,rfl,rfl,m,by rw[ao,ao,bf];lia,λHn B yn=>⟨_,rfl,λb o e=>(B b (aq e hY)).trans (d _ _ e),yn,?_⟩⟩;rw[s_ds,Cc c (an.a c (a8 L)),ba,L,aQ,aQ];rfl
     rintro Z ys I ⟨o,rfl,d,m,rfl⟩;rw[bV] at m;refine⟨Y,_,rfl,SqL.of m,_,rfl,?_⟩;rw[tq];have ea:(u.any (id ∘ λc=>!dig c))=u.any λc=>!dig c:=rfl;rw[ea];cases e2:(u.any λc=>!dig c) with
     |true=>rw[e2] at out;exact aT (aT (out rfl I d))
     |false=>
      rw[e2,sX] at out keep;obtain⟨c,r,rfl⟩:∃c r,u=c::r:=by
       cases u with
       |nil=>cases e1
       |cons c r=>exact⟨c,r,rfl⟩
      refine aH ⟨_,rfl,txt (c::r),0,c,rfl,rfl,by rw[bE];lia,by rw[gi];exact c9 (j:=0) rfl,rfl,_,rfl,?_⟩;rw[show (⟨#[c]⟩:Str)=txt [c] from rfl,show (Str.ofString "0")=txt [48] from s48,jR];have eh:((c::r).head?==some 48)=([c]==[48]):=by simp
      rw[eh] at out keep;cases e3:([c]==[48]) with
      |false=>rw[e3] at keep;exact aH (aH ⟨⟨_,rfl⟩,x.trans d,keep rfl⟩)
      |true=>
       rw[e3,Kc] at out keep;refine aT ⟨_,rfl,rfl,_,rfl,?_⟩;rw[jR];cases e4:((c::r)==[48]) with
       |true=>rw[e4] at keep;exact aH ⟨⟨_,rfl⟩,x.trans d,keep rfl⟩
       |false=>rw[e4] at out;exact aT (out rfl I d)
   rintro Z S ⟨⟨o,rfl⟩,x,q⟩;rw[ao,bV] at q;have y5:=x _ _ y4;have aS:=x _ _ (s4 _ _ al);have ap:=s4.trans x;refine⟨_,rfl,.inl ⟨rfl,_,SqL.of aS⟩,_,rfl,v,rfl,⟨_,SqL.of y5⟩,λY hY=>dG (K:=[]) (a:=v) (xs:=(spl [32] z).map λz=>V.str (txt z)) (λk Z ys H'=>∃o,Z=[o]/\Same S H'/\H' Y=some (.lst ys)/\ys=nV (((spl [32] z).take k).map val)) ⟨none,rfl,bQ hY,aP,rfl⟩ (by rintro k Z ys H' _ ⟨_,_,e,_⟩;exact SqL.of (e _ _ y5)) ?_ ?_⟩
   .rintro k y Z ys I L ⟨o,rfl,d,m,rfl⟩;rw[aY] at L;obtain⟨u,X,rfl⟩:=bW.mp L;have ab:=a8 X;have hf:=q u ab;refine⟨_,rfl,u,rfl,xx hf,yH hf,br (rz.r u (hJ ab) (jQ hf)) (by decide),m,by rw[bM,ao,bf];lia,λHn B yn=>⟨_,rfl,λb o e=>(B b (aq e hY)).trans (d _ _ e),yn,?_⟩⟩;rw[ba,X,aQ,<-eS];rfl
   rintro Z ys I ⟨o,rfl,d,m,rfl⟩;rw[ao,bV] at m;refine⟨Y,_,rfl,.inl ⟨SqL.of m,λt ht=>?_⟩⟩;walk_at"I t ht H7 s7 y7"
   match hs:spl [32] z,h3 with
   | [a,b,c],_=>
    rw[hs] at y7 q;have ad:=d.trans s7;have e3:rdP z=some (val a,val b,val c):=by unfold rdP;rw[hs];simp[rdW,q a (by simp),q b (by simp),q c (by simp)]
    have a0:=ad _ _ aS;refine⟨g,D,_,rfl,rfl,a0,by rw[aF tr];lia,λHn B yn=>⟨_,_,_,_,ts++[(val a,val b,val c)],rfl,λM o' nb e=>(B M nb).trans (ad _ _ (ap _ _ (bt _ _ nb e))),yn,?_,?_⟩⟩
    .have tn:∀{M:Addr}{xs:List V},H7 M=some (.tup xs)->M≠g:=λe=>bO e a0 (by simp);exact cJ (Paired.imp' (λ_ _ ⟨M,e1,e2⟩=>⟨M,e1,(B _ (tn (ad _ _ (ap _ _ e2)))).trans (ad _ _ (ap _ _ e2))⟩) tr) (.cons ⟨t,rfl,(B _ (tn y7)).trans y7⟩ .nil)
    rw[ba,am,aQ,R,aQ];simp[e3]
  have:(!decide (V.int ((spl [32] z).length:Int)=V.int 3))=true:=by rw[jf,NG (by lia)];rfl
  rw[this];exact aT (bad (lH (.inl h3)) H4 s4)
 rintro Z O ⟨o2,o3,o4,D,ts,rfl,bt,al,tr,R⟩;rw[ao,bV] at R;exact⟨_,rfl,qT ts (by rw[au];exact R) g D O (λb o e=>bt _ _ (aq e g1) (s2 _ _ (s1 _ _ e))) al tr⟩
end
end K15
end
section
namespace HT
open PySem PySem.Spec PyProof.Rows
section
variable {prog:Program}
theorem getItem_tuple_all{t sl:Addr}{items:Array Value}{b c:Value}{lo hi:Option Int}{Q:Value->Shared->Prop}(a:IsTup s.heap t items)(d:s.heap.IsSliceOf sl b c .none)(pl:IsPart b lo)(pu:IsPart c hi)
  (hw:sIx items.size 0 lo=0/\sIx items.size items.size hi=items.size) (h:Q (.ref t) s):wpAny (model prog w) A (getItem (.ref t) (.ref sl)) Q E s:=by
 obtain⟨os,e,f,i⟩:=id d;have g:s.TypeIs (.ref sl) "slice":=⟨os,e,f⟩;unfold getItem
 try with_reducible refine cH ?_
 first|refine aa (ag ?_)|skip
 refine aa (Mo a.typeIs (by decide) ?_);refine aa (nM (name:=Str.ofString "__getitem__") a.typeIs nH
  (gX nH a.typeIs LH ?_ (LD _ _)))
 show wpAny _ _ (Builtin.Tuple.tupleItemsOf (.ref t) >>= _) _ _ s;refine aa (tupleItemsOf_ a ?_);refine aa (Az g ?_);rw[ND (by decide)];refine aa (um d pl pu ?_);have yes:(((sIx items.size 0 lo:Nat):Int)==0&&(1:Int)==1&&(sIx items.size items.size hi-sIx items.size 0 lo)==items.size)=true:=by rw[hw.1,hw.2];simp
 show wpAny _ _ (if (((sIx items.size 0 lo:Nat):Int)==0&&(1:Int)==1&&(sIx items.size items.size hi-sIx items.size 0 lo)==items.size)=true then _ else _) _ _ s;rw[ND yes];unfold Builtin.Tuple.tupleIsExact;refine aa (aa (Az a.typeIs (ag ?_)));rw[ND (by decide)];refine aa (wpAny_rule (ag ⟨_,rfl,ag h⟩))
end
end HT
namespace L2
open PySem PySem.Spec PyProof.Rows
section
def rSlW(K:W.Frag):V->Option Int->Option Int->Hp->VK->Prop:=λx lo hi H Q=>∃a xs,x=.ref a/\SqT K H a xs/\
 ((HT.sIx xs.length 0 lo=0/\HT.sIx xs.length xs.length hi=xs.length)->Q (.ref a) H)/\(¬(HT.sIx xs.length 0 lo=0/\HT.sIx xs.length xs.length hi=xs.length)->∀p,H p=none->Q (.ref p) (upd H p (.tup (fX xs lo hi))))
theorem w8:SlR X (rSlW []):=by
 intro NI s Z H x v e f lo hi sl Q I b c pl pu h;obtain⟨a,xs,ex,hx,g,i⟩:=h;by_cases hw:HT.sIx xs.length 0 lo=0/\HT.sIx xs.length xs.length hi=xs.length
 .subst ex;cases b;obtain⟨its,r,d,j⟩:=I.tuple hx;have hlen:its.toArray.size=xs.length:=by rw[a_];exact r.length.symm
  refine⟨"tuple",_,nH.lookup,d.typeIs,?_⟩;exact HT.getItem_tuple_all d c pl pu (by rw[hlen];exact hw) ⟨.ref a,H,I,rfl,g hw⟩
 exact Gz NI s Z H x v e f lo hi sl Q I b c pl pu ⟨a,xs,ex,hx,hw,i hw⟩
end
end L2
end
section
namespace K15
open PySem L2 K51 K31
def EK(vs:List V)(H:Hp)(Q:VK)(T:Addr)(c:List V)(ts:List Tri):Prop:=vs=[.ref T]/\H T=some (.lst c)/\aw H c ts/\ts.length<=200/\(∀t∈ts,t.1≠t.2.1/\t.2.1≠t.2.2/\t.2.2≠t.1)/\
 ∀r d us ws H',H r=none->Same H H'->H' r=some (.lst d)->aw H' d us->us.Perm ws->Paired Bg ts ws->us.Pairwise (λa b=>HT.lexLt [(b.1:Int),(b.2.1:Int),(b.2.2:Int)] [(a.1:Int),(a.2.1:Int),(a.2.2:Int)]=false)->Q (.ref r) H'
def xV:Sp:=λvs H Q _=>Exists (Ex3 (EK vs H Q))
section
theorem oY:a7 ["_law_triples","_law_found","_law_triple","_law_at_here"] ["_law_triples"] (aC my):=by walk_at"sc"
theorem Fp{f:Addr}(U:Fun K "_law_told" "_law_told" my f fd)(mN:mg "min" = none)(mS:mg "sorted" = none):aj P w K mg base CX0 1 f fd ["_law_triples"] xV:=by
 refine U.ok oY (by rintro _ _ _ _ ⟨_,_,_,rfl,_⟩;rfl) λNJ A outer s H vs Q E hr h=>?_
 obtain⟨C,vt,ts,rfl,hT,ht,hl,a0,Qq⟩:=h;have hu:=dv hr;refine⟨_,(af (sx 1 oY.nd (bF du))
  (af (b_ cv rfl (bI (pv 0)) (gx 2 oY.nd) (af (sx 3 oY.nd (zc Lc Ab Lq (vn hr.units) (pv 2) (pa1 (bH (A4 rfl) (by rfl) mN qK (pa1 (pv 2))))))
  (ai (cZ (cA dD eX eY dP (pv 1) (pa1 (ax Fk (h_ w8 (pv 2) (ic (pv 3)) ie) (h_ w8 (pv 2) ie (ic (pv 3))))))))))
  (ai (aN (bH uo (by rfl) mS iN (pa1 (pv 1))))))),?_⟩
 have bd:=line5000;refine⟨aJ _,λg H1 a1 s1 y1=>?_⟩;refine⟨_,rfl,C,rfl,⟨_,SqL.of (s1 _ _ hT)⟩,dh (K:=[]) (a:=C) (xs:=vt) (λi Z H'=>∃M N l wf,Z=[some (V.ref C),some (.ref g),M,N]/\Same H H'/\H' g=some (.lst l)/\aw H' l wf/\Paired Bg (ts.take i) wf)
  ⟨none,none,[],[],rfl,s1,y1,.nil,.nil⟩ (λi Z H' _ ⟨_,_,_,_,_,e,_⟩=>SqL.of (e _ _ hT)) ?_ ?_⟩
 .rintro i x Z H2 hi ⟨M,N,l,wf,rfl,sm,r,v,D⟩;obtain⟨⟨a,b,c⟩,hs,t,rfl,hb⟩:=cw ht hi;have hb:H t=some (.tup [.int (a:Int),.int (b:Int),.int (c:Int)]):=hb;have n:=sm _ _ hb;obtain⟨n1,n2,n3⟩:a≠b/\b≠c/\c≠a:=a0 _ (a8 hs);have a2:l.length<=200:=by
   rw[aF v,<-aF D,bf];lia
  refine iU (λZ H'=>∃j:Nat,Z=[some (V.ref C),some (.ref g),some (.ref t),some (.int (j:Int))]/\H'=H2/\(j=0/\a<=b/\a<=c\/j=1/\b<=c/\b<=a\/j=2/\c<=a/\c<=b)) (λNX hOut=>?_) ?_
  .refine⟨_,rfl,⟨t,_,rfl,.inl n⟩,_,rfl,t,[(a:Int),(b:Int),(c:Int)],rfl,SqT.of n,by simp,λm hm ad=>?_⟩;have dts:Dts [] H2 [V.int (a:Int),.int (b:Int),.int (c:Int)] [.int (a:Int),.int (b:Int),.int (c:Int)]:=.cons (.int _) (.cons (.int _) (.cons (.int _) .nil));have O:∀x y:Int,PyData.eqv (.int x) (.int y)=decide (x=y):=λx y=>by
    rw[fH];simp[PyData.eqv]
   have dd:(PyData.int m).depth<=60:=by simp[PyData.depth]
   have ma:=ad a (by simp);have mb:=ad b (by simp);have mc:=ad c (by simp);by_cases ha:m=a
   .exact⟨t,_,_,_,_,0,rfl,rfl,SqT.of n,dts,.int _,dd,by simp,by show PyData.eqv (.int (a:Int)) _=true;rw[O];exact NF ha.symm,λk hk=>by lia,hOut _ _ ⟨0,rfl,rfl,.inl ⟨rfl,by lia,by lia⟩⟩⟩
   have f0:PyData.eqv (.int (a:Int)) (.int m)=false:=by rw[O];exact NG λz=>ha z.symm
   by_cases al:m=b
   .refine⟨t,_,_,_,_,1,rfl,rfl,SqT.of n,dts,.int _,dd,by simp,by show PyData.eqv (.int (b:Int)) _=true;rw[O];exact NF al.symm,λk hk=>?_,hOut _ _ ⟨1,rfl,rfl,.inr (.inl ⟨rfl,by lia,by lia⟩)⟩⟩;obtain rfl:k=0:=by lia
    exact f0
   have f1:PyData.eqv (.int (b:Int)) (.int m)=false:=by rw[O];exact NG λz=>al z.symm
   have a3:m=c:=by
    simp only[aK,fZ,or_false] at hm;rcases hm with h|h|h
    .exact (ha h).elim
    .exact (al h).elim
    exact h
   refine⟨t,_,_,_,_,2,rfl,rfl,SqT.of n,dts,.int _,dd,by simp,by show PyData.eqv (.int (c:Int)) _=true;rw[O];exact NF a3.symm,λk hk=>?_,hOut _ _ ⟨2,rfl,rfl,.inr (.inr ⟨rfl,by lia,by lia⟩)⟩⟩;obtain rfl|rfl:k=0\/k=1:=by lia
   .exact f0
   exact f1
  rintro Z ab ⟨j,rfl,rfl,hj⟩;have fin:∀(t':Addr)(u:Tri)(q:Hp),Same ab q->q t'=some (.tup [.int (u.1:Int),.int (u.2.1:Int),.int (u.2.2:Int)])->Bg (a,b,c) u->∀I,(∀b,b≠g->I b=q b)->I g=some (.lst (l++[V.ref t']))->∃M N ap au,[some (V.ref C),some (.ref g),some (.ref t),some (.int (j:Int))]=[some (V.ref C),some (.ref g),M,N]/\Same H I/\I g=some (.lst ap)/\aw I ap au/\Paired Bg (ts.take (i+1)) au:=by
   intro t' u q d aM a4 I kn yn;have a5:=d _ _ r;have tn:∀{L:Addr}{xs:List V},q L=some (.tup xs)->L≠g:=λe=>bO e a5 (by simp);refine⟨_,_,_,wf++[u],rfl,λL o e=>(kn L (aq e a1)).trans (d _ _ (sm _ _ e)),yn,?_,?_⟩
   .exact cJ (Paired.imp' (λ_ _ ⟨L,e1,e2⟩=>⟨L,e1,(kn _ (tn (d _ _ e2))).trans (d _ _ e2)⟩) v) (.cons ⟨t',rfl,(kn _ (tn aM)).trans aM⟩ .nil)
   rw[ba,hs];exact cJ D (.cons a4 .nil)
  rcases hj with ⟨rfl,h1,h2⟩|⟨rfl,h1,h2⟩|⟨rfl,h1,h2⟩
  .refine⟨_,rfl,.inl ⟨rfl,_,SqL.of r⟩,_,rfl,_,rfl,_,rfl,t,_,rfl,SqT.of n,λ_=>?_,λz=>(z ⟨by simp[HT.sIx],by simp[HT.sIx]⟩).elim⟩;refine⟨_,rfl,_,rfl,_,rfl,t,_,rfl,SqT.of n,λz=>absurd z.2 (by simp[HT.sIx]),λ_ B R=>?_⟩;walk_at"ab B R q d S";exact⟨t,B,_,[],rfl,rfl,SqT.of (d _ _ n),SqT.of S,by simp,lit3,λ_=>⟨g,l,_,rfl,rfl,d _ _ r,by lia,fin t (a,b,c) q d (d _ _ n) ⟨.inl rfl,h1,h2⟩⟩,λz=>(z rfl).elim⟩
  .refine⟨_,rfl,.inl ⟨rfl,_,SqL.of r⟩,_,rfl,_,rfl,_,rfl,t,_,rfl,SqT.of n,λz=>absurd z.1 (by simp[HT.sIx]),λ_ T am=>?_⟩;walk_at"ab T am q d S";refine⟨_,rfl,_,rfl,_,rfl,t,_,rfl,SqT.of (d _ _ n),λz=>absurd z.2 (by simp[HT.sIx]),λ_ B R=>?_⟩;walk_at"q B R H4 X y4";refine⟨T,B,[.int (b:Int),.int (c:Int)],[.int (a:Int)],rfl,rfl,SqT.of (X _ _ S),SqT.of y4,by simp,lit3,λz=>(by cases z),λ_ pn an=>?_⟩;walk_at"H4 pn an H5 s5 y5";have Y:=(d.trans X).trans s5;exact⟨g,l,_,rfl,rfl,Y _ _ r,by lia,fin pn (b,c,a) H5 Y y5 ⟨.inr (.inl rfl),h1,h2⟩⟩
  refine⟨_,rfl,.inl ⟨rfl,_,SqL.of r⟩,_,rfl,_,rfl,_,rfl,t,_,rfl,SqT.of n,λz=>absurd z.1 (by simp[HT.sIx]),λ_ T am=>?_⟩;walk_at"ab T am q d S";refine⟨_,rfl,_,rfl,_,rfl,t,_,rfl,SqT.of (d _ _ n),λz=>absurd z.2 (by simp[HT.sIx]),λ_ B R=>?_⟩;walk_at"q B R H4 X y4";refine⟨T,B,[.int (c:Int)],[.int (a:Int),.int (b:Int)],rfl,rfl,SqT.of (X _ _ S),SqT.of y4,by simp,lit3,λz=>(by cases z),λ_ pn an=>?_⟩;walk_at"H4 pn an H5 s5 y5";have Y:=(d.trans X).trans s5;exact⟨g,l,_,rfl,rfl,Y _ _ r,by lia,fin pn (c,a,b) H5 Y y5 ⟨.inr (.inr rfl),h1,h2⟩⟩
 rintro Z H2 ⟨M,N,l,wf,rfl,sm,r,v,D⟩;rw[aF ht,bV] at D;have a2:l.length<=200:=by rw[aF v,<-aF D];exact hl
 refine⟨_,rfl,g,l,wf.map kyT,rfl,SqL.of r,qL v,by lia,λp ix hp pm ps=>?_⟩;have aS:∀i∈ix,i<l.length:=λi hi=>iI.mp (pm.mem_iff.mp hi);have d:=bQ (o:=.lst (ix.map λi=>l.getD i .non)) hp;refine Qq p _ _ wf _ (sm.free hp) (sm.trans d) aP ((qM v ix aS).same d) (uI (by rw[<-aF v];exact pm)) D ?_;rw[iJ] at ps |-;refine ps.imp_of_mem λ{i j} hi hj h=>?_;have gt:∀i,i∈ix->(wf.map kyT).getD i []=kyT (wf.getD i (0,0,0)):=λi hi=>by
  have bb:i<wf.length:=by rw[<-aF v];exact aS i hi
  simp[List.getD,bX bb]
 rw[gt i hi,gt j hj] at h;exact h
end
def xU(C:Addr):Sp:=λvs H Q _=>∃(x:Addr)(ts:List Tri),vs=[.ref x]/\sF C H x ts/\
 ∀l a us ws H',H l=none->Same H H'->H' l=some (.lst a)->aw H' a us->us.Perm ws->Paired Bg ts ws->Srt us->Q (.ref l) H'
section
theorem GM:a7 ["self"] ["self"] (aC g_):=by walk_at"sc"
theorem Fo{f C:Addr}(U:Fun K "triangles" "Skin.triangles" g_ f fd)(X:SCls K C)(T:cq mg):aj P w K mg base CX0 1 f fd ["self"] (xU C):=by
 refine U.ok GM (by rintro _ _ _ _ ⟨_,_,rfl,_⟩;rfl) λg A outer s H vs Q E i h=>?_
 obtain⟨x,ts,rfl,⟨dx,O,R,D,S,j,us,ws,hx,a,tr,pm,b,c⟩,q⟩:=h;refine⟨_,ai (aN (cP A5 (by rfl) T.list z7 (pa1 (Hr (pv 0) rfl)))),?_⟩;exact⟨_,rfl,x,C,dx,_,_,rfl,hx,X.cl,X.ordered,rfl,O,_,rfl,.inl (SqL.of a),λl H' d s' e=>q l _ us ws H' d s' e (tr.same s') pm b c⟩
end
section
theorem y0:a7 ["_law_thing","_law_one"] ["_law_thing"] (aC kF):=by walk_at"sc"
theorem A0{f:Addr}(U:Fun K "_law_is_triple" "_law_is_triple" kF f fd)(T:cq mg)(F:pQ K) :
  aj P w K mg base CX0 1 f fd ["_law_thing"] (nU K):=by
 refine U.ok y0 (by rintro _ _ _ _ ⟨_,_,rfl,_⟩;rfl) λNJ A outer s H vs Q E hr h=>?_
 obtain⟨x,o,rfl,h,q⟩:=h;refine⟨_,af (bo (PW.pt (fm (eJ (dq (bH (iS (c:="tuple")) (by rfl) T.isi eW (ae (pv 0) (pa1 (ig (v:=.ty "tuple") rfl T.tuple jv rfl))))))
    (iq (a6 fq (pln T.len (pv 0)) ah (nomark _))))) (ai (aN cB)) bj)
  (af (b_ cv rfl (i7 (pv 0)) (gx 1 y0.nd)
   (ai (bo (PW.pt (fm (eJ (dq (bH (iS (c:="int")) (by rfl) T.isi eW (ae (pv 1) (pa1 (ig (v:=.ty "int") rfl T.int gQ rfl))))))
    (fm (dq (bH (iS (c:="bool")) (by rfl) T.isi eW (ae (pv 1) (pa1 (ig (v:=.ty "bool") rfl T.bool K3 rfl)))))
    (iq (a6 mF (pv 1) ah (nomark _)))))) (ai (aN cB)) bj)))
  (ai (aN (jZ (eQ fq (ixx i9 (pv 0) ah) (ixx i9 (pv 0) ah) (nomark _)) (jZ (eQ fq (ixx i9 (pv 0) ah) (ixx i9 (pv 0) ah) (nomark _)) (ml (eQ fq (ixx i9 (pv 0) ah) (ixx i9 (pv 0) ah) (nomark _)))))))),?_⟩
 rcases h with ⟨rfl,ty,d,j⟩|⟨t,xs,es,rfl,d,m,rfl⟩
 .exact⟨_,rfl,_,_,false,rfl,d,j,_,rfl,pB q⟩
 refine⟨_,rfl,_,_,true,rfl,.tup d,F.t,_,rfl,ke ?_⟩;refine⟨_,rfl,t,_,rfl,.inr (SqT.of d),rfl,_,rfl,?_⟩;refine Kf (p:=xs.length=3) (λr=>?_) λr=>?_
 .obtain⟨a,b,c,x,y,z,rfl,rfl,h1,h2,Y⟩:=vW m r;rw[wI] at q;refine aH ⟨_,rfl,t,rfl,⟨_,SqT.of d⟩,xw (K:=[]) (a:=t) (xs:=[a,b,c]) (λi Z H'=>(∃o,Z=[some (.ref t),o])/\H'=H/\∀e∈([x,y,z]:List (Option Int)).take i,cnr e=true) ⟨⟨none,rfl⟩,rfl,by simp⟩ (λi Z H' _ ⟨_,e,_⟩=>by rw[e];exact SqT.of d) ?_ ?_⟩
  .rintro i v Z H' hi ⟨⟨o,rfl⟩,rfl,l⟩;obtain⟨e,he,N⟩:=cw m hi;have ab:i<([x,y,z]:List (Option Int)).length:=(aG.mp he).1;have et:([x,y,z]:List (Option Int)).take (i+1)=([x,y,z]:List (Option Int)).take i++[e]:=by rw[ba,he];rfl
   have bad:cnr e=false->Q (.bl false) H':=λg=>by
    have hm:=a8 he;simp at hm;rcases hm with rfl|rfl|rfl
    .rw[g,eM,eM,eM] at q;exact q
    .rw[g,pS,eM,eM] at q;exact q
    rw[g,pS,eM] at q;exact q
   cases e with
   |none=>
    obtain⟨ty,u,j⟩:=N;rcases j with j|⟨k1,k2⟩
    .exact⟨_,rfl,_,_,false,rfl,u,j,_,rfl,pB (bad rfl)⟩
    exact⟨_,rfl,_,_,true,rfl,u,k1,_,rfl,ke ⟨_,rfl,_,_,true,rfl,u,k2,_,rfl,aT (bad rfl)⟩⟩
   |some n=>
    cases (show v=.int n from N);refine⟨_,rfl,_,_,true,rfl,.int n,F.i,_,rfl,ke ⟨_,rfl,_,_,false,rfl,.int n,F.b,_,rfl,aH ⟨_,rfl,_,_,rfl,rfl,_,rfl,ite2 (λB=>?_) λB=>?_⟩⟩⟩
    .exact bad (NG (by have:n<0:=NH B;lia))
    refine⟨⟨_,rfl⟩,rfl,λe O=>?_⟩;rw[et] at O;rcases aW.mp O with g | g
    .exact l e g
    rw[aR.mp g];exact NF (by have:¬n<0:=λz=>B (NF z);lia)
  rintro Z H' ⟨⟨o,rfl⟩,rfl,l⟩;have R:=l x (by simp);have S:=l y (by simp);have X:=l z (by simp);rw[R,S,X] at q;cases x with
  |none=>cases R
  |some C=>cases y with
   |none=>cases S
   |some D=>cases z with
    |none=>cases X
    |some I=>
     cases (show a=.int C from h1);cases (show b=.int D from h2);cases (show c=.int I from Y);have e:∀a b:Int,(!decide ((some a:Option Int)=some b))=!decide (V.int a=V.int b):=λa b=>by simp
     rw[e,e,e] at q;have q:Q (V.bl (!decide (V.int C=V.int D)&&(!decide (V.int D=V.int I)&&!decide (V.int I=V.int C)))) H':=q;refine⟨_,rfl,t,_,_,_,rfl,rfl,SqT.of d,rfl,_,rfl,t,_,_,_,rfl,rfl,SqT.of d,rfl,rfl,_,rfl,ite2 (λL=>?_) λL=>?_⟩
     .rw[L] at q;refine⟨_,rfl,t,_,_,_,rfl,rfl,SqT.of d,rfl,_,rfl,t,_,_,_,rfl,rfl,SqT.of d,rfl,rfl,_,rfl,ite2 (λM=>?_) λM=>?_⟩
      .rw[M] at q;exact⟨_,rfl,t,_,_,_,rfl,rfl,SqT.of d,rfl,_,rfl,t,_,_,_,rfl,rfl,SqT.of d,rfl,rfl,q⟩
      rw[iE.mpr M] at q;exact q
     rw[iE.mpr L] at q;exact q
 show if (!decide (V.int (xs.length:Int)=V.int 3))=true then _ else _
 rw[jf,NG (by lia)];rw[uX (by rw[<-aF m];exact r)] at q;exact aT q
end
theorem SdF.lt{ts:List Tri}{k a:Nat}{s s':Nat×Nat}(h:SdF ts k s)(h':SdF ts a s'):¬k<a:=λb=>by
 obtain⟨nd,t,j,c,d,f,hf⟩:=h;have e:(ts.take a).take k=ts.take k:=by rw[List.take_take,p7 (km b)]
 have z:SdF (ts.take a) k s:=⟨by rw[e];exact nd,t,j,by rw[pZ,ND b];exact c,d,by rw[e];exact f,by rw[e];exact hf⟩;exact z.not h'.1
theorem SdF.one{ts:List Tri}{k a:Nat}{s s':Nat×Nat}(h:SdF ts k s)(h':SdF ts a s'):k=a/\s=s':=by
 have e:k=a:=by have h1:=h.lt h';have h2:=h'.lt h;lia
 subst e;refine⟨rfl,?_⟩;obtain⟨nd,t,j,l,d,m,hf⟩:=h;obtain⟨_,t',b,f,g,n,o⟩:=h';rw[l] at f;cases f;have no:∀{i c:Nat}{x:Nat×Nat},((ent3 t).map (·.1))[i]?=some x->i<c->x∈((ent3 t).map (·.1)).take c:=λ{i c x} h1 h2=>a8 (i:=i) (by rw[pZ,ND h2];exact h1);have e:j=b:=by have h1:¬j<b:=λz=>o _ (no d z) m;have h2:¬b<j:=λz=>hf _ (no g z) n;lia
 subst e;exact cN (d.symm.trans g)
theorem gg:∀{ts us:List Tri},ts.map some=us.map some->ts=us
 | [],[],_=>rfl
 | [],_::_,h=>by cases h
 |_::_,[],h=>by cases h
 |a::ts,b::us,h=>by
  rw[aU,aU] at h;injection h with h1 h2;rw[cN h1,gg h2]
theorem iY{os:List (Option Tri)}{ts:List Tri}{k:Nat}(h:os=ts.map some)(e:os[k]?=some none):False:=by subst h;exact ow (a8 e)
theorem uN{os:List (Option Tri)}{k a:Nat}{ts:List Tri}(e:os[k]?=some none)(h:os.take a=ts.map some):¬k<a:=λb=>
 iY h (k:=k) (by rw[pZ,ND b];exact e)
theorem fault_one{os:List (Option Tri)}{a b:Option Flt}(h:dQ os a)(h':dQ os b):a=b:=by
 have big:∀{b:Option Flt},200<os.length->dQ os b->b=some .many:=λ{b} y g=>by
  match b,g with
  |some .many,_=>rfl
  |some (.triple k),g=>exact absurd g.1 (by lia)
  |some (.side k m n),g=>exact absurd g.1 (by lia)
  |some (.round c),g=>exact absurd g.1 (by lia)
  |none,g=>exact absurd g.1 (by lia)
 match a,b,h,h' with
 |some .many,b,h,h'=>exact (big h h').symm
 |a,some .many,h,h'=>exact big h' h
 |some (.triple k),some (.triple q),⟨_,h1,A,h2⟩,⟨_,d,B,f⟩=>
  have e:k=q:=by have r:=uN h1 f;have s:=uN d h2;lia
  rw[e]
 |some (.triple k),some (.side _ _ _),⟨_,h1,_⟩,⟨_,ts,h2,_⟩=>exact (iY h2 h1).elim
 |some (.triple k),some (.round _),⟨_,h1,_⟩,⟨_,ts,h2,_⟩=>exact (iY h2 h1).elim
 |some (.triple k),none,⟨_,h1,_⟩,⟨_,ts,h2,_⟩=>exact (iY h2 h1).elim
 |some (.side _ _ _),some (.triple k),⟨_,ts,h2,_⟩,⟨_,h1,_⟩=>exact (iY h2 h1).elim
 |some (.round _),some (.triple k),⟨_,ts,h2,_⟩,⟨_,h1,_⟩=>exact (iY h2 h1).elim
 |none,some (.triple k),⟨_,ts,h2,_⟩,⟨_,h1,_⟩=>exact (iY h2 h1).elim
 |some (.side k m n),some (.side q C D),⟨_,ts,h1,h2⟩,⟨_,us,d,f⟩=>
  have e:=gg (h1.symm.trans d);subst e;obtain⟨u,v⟩:=h2.one f;cases v;rw[u]
 |some (.side k m n),some (.round _),⟨_,ts,h1,h2⟩,⟨_,us,d,f,_⟩=>
  have e:=gg (h1.symm.trans d);subst e;exact (h2.not f).elim
 |some (.side k m n),none,⟨_,ts,h1,h2⟩,⟨_,us,d,f,_⟩=>
  have e:=gg (h1.symm.trans d);subst e;exact (h2.not f).elim
 |some (.round _),some (.side k m n),⟨_,us,d,f,_⟩,⟨_,ts,h1,h2⟩=>
  have e:=gg (h1.symm.trans d);subst e;exact (h2.not f).elim
 |none,some (.side k m n),⟨_,us,d,f,_⟩,⟨_,ts,h1,h2⟩=>
  have e:=gg (h1.symm.trans d);subst e;exact (h2.not f).elim
 |some (.round c),some (.round o),⟨_,ts,h1,_,i,j,p⟩,⟨_,us,d,_,l,w,x⟩=>
  have e:=gg (h1.symm.trans d);subst e;have:c=o:=by have r:¬c<o:=λz=>j (x c i z);have s:¬o<c:=λz=>w (p o l z);lia
  rw[this]
 |some (.round c),none,⟨_,ts,h1,_,i,j,p⟩,⟨_,us,d,_,l⟩=>
  have e:=gg (h1.symm.trans d);subst e;exact (j (l c i)).elim
 |none,some (.round c),⟨_,us,d,_,l⟩,⟨_,ts,h1,_,i,j,p⟩=>
  have e:=gg (h1.symm.trans d);subst e;exact (j (l c i)).elim
 |none,none,_,_=>rfl
def Rim(ts:List Tri)(s:Nat×Nat):Prop:=s∈(ents ts).map (·.1)/\(s.2,s.1)∉(ents ts).map (·.1)
theorem _root_.K31.SdsAt.same{ls:List (Nat×Nat)}(s:Same H H')(h:SdsAt H vs ls):SdsAt H' vs ls:=Paired.imp' (λ_ _ ⟨a,e,q⟩=>⟨a,e,s _ _ q⟩) h
def Gv(vs:List V)(H:Hp)(Q:VK)(T:Addr)(a:List V)(ts:List Tri):Prop:=vs=[.ref T]/\H T=some (.lst a)/\aw H a ts/\ts.length<=200/\((ents ts).map (·.1)).Nodup/\
 ∀r zs rs H',H r=none->Same H H'->H' r=some (.lst zs)->SdsAt H' zs rs->(∀s∈rs,Rim ts s)->rs.length<=600->rs.Nodup/\(∀s,Rim ts s->s∈rs)->Q (.ref r) H'
def yW:Sp:=λvs H Q _=>Exists (Ex3 (Gv vs H Q))
section
theorem yY:a7 ["_law_triples","_law_thirds_here"] ["_law_triples"] (aC kE):=by walk_at"sc"
theorem Hw{f f1:Addr}{fd d1:FuncData}(U:Fun K "_law_rim_sides" "_law_rim_sides" kE f fd)(mS:mg "sorted" = none)(G:Use P w K mg base 1 "_law_thirds" ["_law_triples"] kQ f1 d1) :
  aj P w K mg base CX0 2 f fd ["_law_triples"] yW:=by
 refine U.ok yY (by rintro _ _ _ _ ⟨_,_,_,rfl,_⟩;rfl) λNJ A outer s H vs Q E hr h=>?_
 obtain⟨T,vt,ts,rfl,hT,ht,hl,ab,q⟩:=h;have hu:=dv hr;refine⟨_,af (sx 1 yY.nd (uc G hr (pa1 (pv 0))))
  (ai (aN (c7 (N:=["_law_a","_law_b","_law_thirds_here"]) (fr:=[none,none,some 1]) (g:=pN [] 2 (jd (cK 0) (jd (cK 1) pO))) (ef (by decide +kernel) rfl rfl (by decide +kernel) (by decide +kernel) (by walk_at"cs") (by walk_at"ct")) rfl (bI (bH (nQ rfl) (by rfl) mS iN (pa1 (pv 1))))
    (λC' s' H' fp NI=>⟨cX rfl (aX (gx 0 (by decide:(["_law_a","_law_b","_law_thirds_here"]:List Str).Nodup)) (aX (gx 1 (by decide:(["_law_a","_law_b","_law_thirds_here"]:List Str).Nodup)) cR)),
     jO (pd (vh hu (aO (ae (pv 1) (pa1 (pv 0)))) (pv 2))),aO (ae (pv 0) (pa1 (pv 1)))⟩)))),?_⟩
 have au:=line5000;refine⟨_,rfl,T,vt,ts,rfl,hT,ht,by lia,ab,λD H1 aM s1 m=>?_⟩;refine⟨_,rfl,D,rfl,.inr ⟨_,m⟩,λks vs X=>.inr ⟨_,vS (jD (K:=[]) m X),?_,λp ix hp pm _=>?_⟩⟩
 .rw[aF (jD (K:=[]) m X),ao,fc];lia
 have ad:=jD (K:=[]) m X;have lk:=aF ad;walk_at"H1 p hp H2 s2 Y";have am:∀i∈ix,i<ks.length:=λi hi=>iI.mp (pm.mem_iff.mp hi);have I:=qP (Paired.imp' (λ_ _ ⟨a,e,h⟩=>⟨a,e,s2 _ _ h⟩) ad:SdsAt H2 ks ((ents ts).map (·.1))) ix am;have n:(ix.map λi=>((ents ts).map (·.1)).getD i (0,0)).Perm ((ents ts).map (·.1)):=vg (by rw[<-lk];exact pm);generalize (ix.map λi=>((ents ts).map (·.1)).getD i (0,0))=ss at I n;generalize (ix.map λi=>ks.getD i .non)=zs at I Y;have lz:=aF I;have an:ss.Nodup:=n.nodup_iff.mpr ab;have aS:ss.length<=600:=by rw[n.length_eq,ao,fc];lia
 refine⟨p,rfl,⟨_,SqL.of Y⟩,λZ_ hZ=>dG (K:=[]) (a:=p) (xs:=zs) (λi Z ys H'=>∃o1 o2 rs,Z=[o1,o2,some (.ref D)]/\Same H2 H'/\H' Z_=some (.lst ys)/\SdsAt H' ys rs/\(∀s∈rs,Rim ts s)/\rs.length<=i/\rs.Nodup/\(∀s∈rs,s∈ss.take i)/\∀s∈ss.take i,Rim ts s->s∈rs) ⟨none,none,[],rfl,bQ hZ,aP,.nil,by simp,ak _,.nil,by simp,by simp⟩ (by rintro i Z ys H' _ ⟨_,_,_,_,e,_⟩;exact SqL.of (e _ _ Y)) ?_ ?_⟩
 .rintro i y Z ys H' hi ⟨o1,o2,rs,rfl,sm,L,r,M,ap,O,inr,R⟩;obtain⟨⟨a,b⟩,l,c,rfl,hc⟩:=cw I hi;have a0:i<ss.length:=(aG.mp l).1;have hm:(a,b)∈(ents ts).map (·.1):=n.mem_iff.mp (a8 l);have u:ss.take (i+1)=ss.take i++[(a,b)]:=by rw[ba,l];rfl
  refine⟨c,_,rfl,SqT.of (sm _ _ hc),rfl,_,_,rfl,_,_,rfl,rfl,?_⟩;refine⟨_,rfl,_,rfl,lit2,λt1 H3 g1 j y3=>?_⟩;have a1:ys.length<=600:=by rw[aF r];lia
  refine⟨_,rfl,D,_,rfl,DGet.t (k:=ky b a) (j _ _ (sm _ _ (s2 _ _ m))) y3,?_⟩;by_cases S:(b,a)∈(ents ts).map (·.1)
  .have hv:(bh ((ents ts).map bD) (ky b a)).isSome=true:=by
    cases e:bh ((ents ts).map bD) (ky b a) with
    |none=>exact (hU.mp e S).elim
    |some v=>rfl
   refine⟨false,by rw[hv];rfl,aH ⟨_,_,rs,rfl,sm.trans j,j _ _ L,K31.SdsAt.same j r,M,by lia,O,λs d=>by rw[u];exact dC _ (inr s d),λs d B=>by
    rw[u] at d;rcases aW.mp d with h|h
    .exact R s h B
    rw[aR.mp h] at B;exact (B.2 S).elim⟩⟩
  refine⟨true,by rw[hU.mpr S];rfl,aT ⟨_,rfl,_,rfl,lit2,λt2 H4 g2 s4 y4=>?_⟩⟩;have al:=s4 _ _ (j _ _ L);have tn:∀{C:Addr}{xs:List V},H4 C=some (.tup xs)->C≠Z_:=λe=>bO e al (by simp);refine⟨al,by lia,λH5 k5 y5=>⟨_,_,rs++[(a,b)],rfl,λC o e=>(k5 _ (aq e hZ)).trans (s4 _ _ (j _ _ (sm _ _ e))),y5,?_,?_,by rw[aL,bY];lia,?_,λs d=>?_,λs d B=>?_⟩⟩
  .exact cJ (Paired.imp' (λ_ _ ⟨C,e1,e2⟩=>⟨C,e1,by have e3:=s4 _ _ (j _ _ e2);exact (k5 _ (tn e3)).trans e3⟩) r) (.cons ⟨t2,rfl,(k5 _ (tn y4)).trans y4⟩ .nil)
  .intro s d;rcases aW.mp d with h|h
   .exact M s h
   rw[aR.mp h];exact⟨hm,S⟩
  .rw[cY];refine⟨O,by simp,λx hx z hz e=>?_⟩;rw[aR.mp hz] at e;rw[e] at hx;have nd:=an;rw[<-f_ (i+1) ss,u,cY,cY] at nd;exact nd.1.2.2 _ (inr _ hx) _ (by simp) rfl
  .rw[u];rcases aW.mp d with h|h
   .exact dC _ (inr s h)
   exact eO _ h
  rw[u] at d;rcases aW.mp d with h|h
  .exact dC _ (R s h B)
  exact eO _ h
 rintro Z ys H' ⟨o1,o2,rs,rfl,sm,L,r,M,ap,O,inr,R⟩;refine q Z_ ys rs H' ?_ ((s1.trans s2).trans sm) L r M (by lia) ⟨O,λs l=>R s (by rw[iK (by lia)];exact n.mem_iff.mpr l.1) l⟩;exact (s1.trans s2).free hZ
end
theorem JQ{g:TG}{x:V}{tb:TS}{rt:VK}{bk P:St->Hp->Prop}(h:∀N:St->Hp->Prop,(∀Z' H',P Z' H'->N Z' H')->g x Z H (tb ⟨N,rt,bk,N⟩)):g x Z H λσ2 H2=>tb ⟨P,rt,bk,P⟩ σ2 H2:=h P λ_ _ z=>z
def Da(vs:List V)(H:Hp)(Q:VK)(p:Addr)(q:Int×Int)(m:Nat):Prop:=vs=[.ref p,.int (m:Int)]/\H p=some (.lst (bG q))/\bT q/\m<=16/\
 ∀r a ts b H',H r=none->But p H H'->H' p=some (.lst (bG b))->bT b->H' r=some (.lst a)->aw H' a ts->ts.length<=m->Good ts->Q (.ref r) H'
def wY:Sp:=λvs H Q _=>Exists (Ex3 (Da vs H Q))
def Cov(ts:List Tri)(n:Nat):Prop:=∀c,Co ts c↔c<n
theorem Iv{ts:List Tri}{cs:List Nat}{n:Nat}(h:Cs ts cs)(b:Cov ts n):cs.length=n:=by
 have nd:cs.Nodup:=h.1.imp λc=>bc c;have:cs.Perm (List.range n):=(List.perm_ext_iff_of_nodup nd KG).mpr λa=>by
  rw[iI,h.2 a];refine Iff.trans ?_ (b a);rw[cy];unfold flat;rw[gK];constructor
  .rintro⟨t,h1,h2⟩;exact⟨t,h1,by simpa using h2⟩
  rintro⟨t,h1,h2⟩;exact⟨t,h1,by simpa using h2⟩
 rw[this.length_eq,ny]
theorem Ep{ts:List Tri}{n a b x:Nat}(d:Cov ts n)(ha:a<n)(e:b<n)(hx:x<n\/x=n):Cov (ts++[(b,a,x)]) (if x=n then n+1 else n):=λc=>by
 have:Co (ts++[(b,a,x)]) c↔Co ts c\/c=b\/c=a\/c=x:=by
  rw[cy,cy];constructor
  .rintro⟨t,h1,h2⟩;rcases aW.mp h1 with h|h
   .exact .inl ⟨t,h,h2⟩
   rw[aR] at h;subst h;exact .inr h2
  rintro (⟨t,h1,h2⟩|h)
  .exact⟨t,dC _ h1,h2⟩
  exact⟨(b,a,x),by simp,h⟩
 rw[this,d c]
 split<;>lia
theorem FR{ts:List Tri}{n:Nat}(a:Cov ts n):Cov (ts++[(n,n+1,n+2)]) (n+3):=λc=>by
 have:Co (ts++[(n,n+1,n+2)]) c↔Co ts c\/c=n\/c=n+1\/c=n+2:=by
  rw[cy,cy];constructor
  .rintro⟨t,h1,h2⟩;rcases aW.mp h1 with h|h
   .exact .inl ⟨t,h,h2⟩
   rw[aR] at h;subst h;exact .inr h2
  rintro (⟨t,h1,h2⟩|h)
  .exact⟨t,dC _ h1,h2⟩
  exact⟨(n,n+1,n+2),by simp,h⟩
 rw[this,a c];lia
def sdD(s:Nat×Nat):PyData:=.tuple [.int (s.1:Int),.int (s.2:Int)]
theorem oX{ss:List (Nat×Nat)}(h:SdsAt H vs ss):Dts K H vs (ss.map sdD):=by
 induction h with
 |nil=>exact .nil
 |cons q _ b=>
  obtain⟨a,rfl,ha⟩:=q;exact .cons (.tup (SqT.of ha) (.cons (.int _) (.cons (.int _) .nil))) b
theorem Di(ss:List (Nat×Nat)):(PyData.list (ss.map sdD)).depth<=60:=by
 have:PyData.depthAll (ss.map sdD)<=1:=by
  induction ss with
  |nil=>exact aJ _
  |cons u us a=>
   rw[aU];show max (sdD u).depth _<=1;have:(sdD u).depth=1:=by simp[sdD,PyData.depth,PyData.depthAll]
   lia
 show PyData.depthAll _+1<=60;lia
theorem FN(ds:List PyData):PyData.eqv (.list ds) (.list [])=ds.isEmpty:=by cases ds<;>simp[PyData.eqv,PyData.eqvAll]
theorem free_of{ts:List Tri}(g:Good ts){x:Tri}(h:∀s∈dH x,∀c,¬En ts s.1 s.2 c):iz ts x=true:=by unfold iz;rw[fK];intro s d;refine NF λz=>?_;obtain⟨⟨⟨a,b⟩,c⟩,h1,rfl⟩:=ay.mp z;exact h (a,b) d c h1
section
theorem ff:a7 ["_law_pot_here","_law_most","_law_triples","_law_k","_law_rim","_law_come","_law_new","_law_a","_law_b","_law_thirds_here","_law_some","_law_near"] ["_law_pot_here","_law_most"] (aC lD):=by walk_at"sc"
theorem DR{f f1 f2 f3 f4 f5:Addr}{fd d1 d2 d3 d4 d5:FuncData}(U:Fun K "_law_grown" "_law_grown" lD f fd)(T:cq mg)
  (GD:Use P w K mg base 2 "_law_digit" ["_law_pot_here","_law_base"] gj f1 d1)
  (GT:Use P w K mg base 2 "_law_thirds" ["_law_triples"] kQ f2 d2)
  (GF:Use P w K mg base 2 "_law_free" ["_law_thirds_here","_law_triple"] rN f3 d3)
  (GR:Use P w K mg base 2 "_law_rim_sides" ["_law_triples"] yW f4 d4)
  (GC:Use P w K mg base 2 "_law_corners" ["_law_triples"] iO f5 d5) :
  aj P w K mg base CX0 3 f fd ["_law_pot_here","_law_most"] wY:=by
 refine U.ok ff (by rintro _ _ _ _ ⟨_,_,_,rfl,_⟩;rfl) λNJ A outer s H vs Q E C h=>?_
 obtain⟨p,q,m,rfl,hp,bw,hm,Qq⟩:=h;have hu:=dv C;refine⟨_,(af (sx 2 ff.nd (bF du))
  (af (b_ cv rfl (kO rfl T.range (pa1 (uc GD C (ae (pv 0) (pa1 (ax cF (pv 1) ah)))))) (gx 3 ff.nd)
   (af (sx 4 ff.nd (uc GR C (pa1 (pv 2))))
  (af (sx 5 ff.nd (uc GC C (pa1 (pv 2))))
  (af (sx 6 ff.nd (pln T.len (pv 5)))
  (af (bo (a6 (mn C.units) (pv 4) (bF du) (nomark _)) (af (cZ (cA dD eX eY dP (pv 2) (pa1 (aO (ae (pv 6) (ae (ax cF (pv 6) ah) (pa1 (ax cF (pv 6) ah))))))))
  (ai A_)) bj)
  (af (gk (ixx cI (pv 4) (uc GD C (ae (pv 0) (pa1 (pln T.len (pv 4)))))) (cX rfl (aX (gx 7 ff.nd) (aX (gx 8 ff.nd) cR))))
  (af (sx 9 ff.nd (uc GT C (pa1 (pv 2))))
  (af (fU (i:=10) ff.nd rfl (.inl rfl) (ax i8 (c7 (N:=["_law_x","_law_a","_law_b","_law_thirds_here"]) (fr:=[none,some 7,some 8,some 9])  (ef (by decide +kernel) rfl rfl (by decide +kernel) (by decide +kernel) (by walk_at"cs") (by walk_at"ct")) rfl (bI (pv 5))
    (λC' s' H' fp NI=>⟨(gx 0 (by decide:(["_law_x","_law_a","_law_b","_law_thirds_here"]:List Str).Nodup)),jO (PW.pt (jW (a6 (show OpR _ (compareOp .NotIn) (rIn [] true) from kC) (pv 0) (aO (ae (pv 1) (pa1 (pv 2)))) rfl) (jN (dq (uc GF C (ae (pv 3) (pa1 (aO (ae (pv 2) (ae (pv 1) (pa1 (pv 0)))))))))))),(pv 0)⟩)) (bF (pa1 (pv 6)))))
  (af (fU (i:=11) ff.nd rfl (.inl rfl) (ax i8 (c7 (N:=["_law_x","_law_a","_law_b","_law_rim"]) (fr:=[none,some 7,some 8,some 4])  (ef (by decide +kernel) rfl rfl (by decide +kernel) (by decide +kernel) (by walk_at"cs") (by walk_at"ct")) rfl (bI (pv 10))
    (λC' s' H' fp NI=>⟨(gx 0 (by decide:(["_law_x","_law_a","_law_b","_law_rim"]:List Str).Nodup)),jO (PW.pt (fm (a6 (show OpR _ (compareOp .In) (sQ [] false) from rY C.units) (aO (ae (pv 2) (pa1 (pv 0)))) (pv 3) rfl) (iq (a6 (show OpR _ (compareOp .In) (sQ [] false) from rY C.units) (aO (ae (pv 0) (pa1 (pv 1)))) (pv 3) rfl)))),(pv 0)⟩)) (pv 10)))
  (ai (cZ (cA dD eX eY dP (pv 2) (pa1 (aO (ae (pv 8) (ae (pv 7) (pa1 (ixx cI (pv 11) (uc GD C (ae (pv 0) (pa1 (pln T.len (pv 11)))))))))))))))))))))))
  (ai (aN (pv 2))))),?_⟩
 have dm:=line5000;refine⟨aJ _,λl H1 a2 s1 y1=>?_⟩;obtain⟨d3,d4⟩:=cQ (q:=q) (b:=(m:Int)+1) (by lia);refine⟨_,rfl,_,rfl,_,_,rfl,rfl,p,q,_,rfl,s1 _ _ hp,bw,by lia,lg20 (by lia),λH2 k2 y2=>⟨_,rfl,by lia,by lia,?_⟩⟩;have a3:l≠p:=λz=>by rw[z,hp] at a2;cases a2
 have hN:(digO q ((m:Int)+1)).toNat<=m:=by lia
 generalize (digO q ((m:Int)+1)).toNat=N at hN;refine kP (lo:=0) (n:=N) (λi Z H'=>∃o3 o4 o5 o6 o7 o8 o9 oa ob v g q' n,Z=[some (V.ref p),some (.int (m:Int)),some (.ref l),o3,o4,o5,o6,o7,o8,o9,oa,ob]/\But p H H'/\H' p=some (.lst (bG q'))/\bT q'/\H' l=some (.lst v)/\aw H' v g/\g.length<=i/\Good g/\Cov g n)
  ⟨none,none,none,none,none,none,none,none,none,[],[],_,0,rfl,λd o nb e=>(k2 d nb).trans (s1 _ _ e),y2,bJ bw,(k2 l a3).trans y1,.nil,ak _,⟨by simp,by simp[ents]⟩,λc=>by simp[cy]⟩ ?_ ?_
 .rintro i Z H4 hi ⟨o3,o4,o5,o6,o7,o8,o9,oa,ob,v,g,R,n,rfl,sm,ad,au,ab,al,ci,I,am⟩;refine JQ λNX hN=>?_;have dp:g.length<=16:=by lia
  have dr:=aF al;have fin:∀(t:Addr)(u:Tri)(r:Hp)(q8:Int×Int)(n':Nat)(x3 x4 x5 x6 x7 x8 x9 xa xb:Option V),But p H r->r p=some (.lst (bG q8))->bT q8->r l=some (.lst v)->aw r v g->r t=some (.tup [.int (u.1:Int),.int (u.2.1:Int),.int (u.2.2:Int)])->Good (g++[u])->Cov (g++[u]) n'->∀B:Hp,(∀d,d≠l->B d=r d)->B l=some (.lst (v++[V.ref t]))->
    ∃o3 o4 o5 o6 o7 o8 o9 oa ob bx a4 q' n',[some (V.ref p),some (.int (m:Int)),some (.ref l),x3,x4,x5,x6,x7,x8,x9,xa,xb]=[some (V.ref p),some (.int (m:Int)),some (.ref l),o3,o4,o5,o6,o7,o8,o9,oa,ob]/\But p H B/\B p=some (.lst (bG q'))/\bT q'/\B l=some (.lst bx)/\aw B bx a4/\a4.length<=i+1/\Good a4/\Cov a4 n':=by
   intro t u r q8 n' x3 x4 x5 x6 x7 x8 x9 xa xb b8 p8 k8 f8 a5 ht g8 c8 B k9 y9;have tn:∀{d:Addr}{xs:List V},r d=some (.tup xs)->d≠l:=λe=>bO e f8 (by simp);refine⟨_,_,_,_,_,_,_,_,_,_,g++[u],q8,n',rfl,λd o nb e=>(k9 d (aq e a2)).trans (b8 d o nb e),(k9 p (aB a3)).trans p8,k8,y9,?_,by rw[aL,bY];lia,g8,c8⟩;exact cJ (Paired.imp' (λ_ _ ⟨d,S,X⟩=>⟨d,S,(k9 _ (tn X)).trans X⟩) a5) (.cons ⟨t,rfl,(k9 _ (tn ht)).trans ht⟩ .nil)
  have bg:∀{a b c:Nat},En g a b c->a<n/\b<n:=λ{a b c} e=>⟨(am a).mp ⟨b,c,e⟩,(am b).mp ⟨c,a,I.sk.rot e⟩⟩;refine⟨_,rfl,l,v,g,rfl,ab,al,by lia,I.nd,λRm zs rs H5 cj s5 y5 sd cl ds _=>?_⟩;refine⟨_,rfl,l,v,g,rfl,s5 _ _ ab,al.same s5,by lia,λL cs H6 bA s6 y6 bK lcs=>?_⟩;have bL:=Iv bK am;refine⟨_,rfl,L,_,rfl,.inl (SqL.of y6),?_⟩;rw[bM,bL];have cm:=s5.trans s6;refine⟨_,rfl,aJ _,λz H7 hz s7 y7=>?_⟩;have an:=cm.trans s7;refine⟨.list (rs.map sdD),.list [],.lst (SqL.of (s7 _ _ (s6 _ _ y5))) (oX (K31.SdsAt.same s7 (K31.SdsAt.same s6 sd))),.lst (SqL.of y7) .nil,Di rs,_,rfl,?_⟩;rw[NC bu,FN];cases rs with
  |nil=>
   refine aT ⟨_,rfl,.inl ⟨rfl,_,SqL.of (an _ _ ab)⟩,_,rfl,_,rfl,_,_,rfl,rfl,_,rfl,_,_,rfl,rfl,lit3,λt r ht s8 y8=>?_⟩;have s48:=an.trans s8;refine⟨l,v,_,rfl,rfl,s48 _ _ ab,by lia,λB k9 y9=>hN _ _ ?_⟩;refine fin t (n,n+1,n+2) r R (n+3) _ _ _ _ _ _ _ _ _ (sm.same s48) (s48 _ _ ad) au (s48 _ _ ab) (al.same s48) y8 (n9 I ⟨by show n≠n+1;lia,by show n+1≠n+2;lia,by show n+2≠n;lia⟩ (free_of I λs hs c e=>?_)) (FR am) B k9 y9;have:=bg e;simp only[dH,aK,fZ,or_false] at hs;rcases hs with rfl|rfl|rfl<;>simp only at this<;>lia
  |cons r0 rs=>
   refine aH ?_;generalize cn:r0::rs=rl at *;have dt:0<rl.length:=by rw[<-cn];simp
   have dx:=aF sd;obtain⟨S,X⟩:=cQ (q:=R) (b:=(zs.length:Int)) (by lia);obtain⟨k,hk⟩:∃k:Nat,digO R (zs.length:Int)=(k:Int):=⟨_,(dW S).symm⟩;have co:k<rl.length:=by lia
   obtain⟨⟨a,b⟩,bR⟩:∃s,rl[k]?=some s:=⟨_,bX co⟩;obtain⟨zv,cp,tt,rfl,cr⟩:=rT sd bR;obtain⟨bS,cx⟩:=cl (a,b) (a8 bR);refine⟨_,rfl,_,rfl,_,rfl,Rm,_,rfl,.inl (SqL.of (s7 _ _ (s6 _ _ y5))),p,R,_,rfl,an _ _ ad,au,by lia,iR (by lia) (by lia),λr k8 y8=>?_⟩;rw[hk];have cz:∀{d:Addr}{o:HO},H4 d=none->H7 d=some o->d≠p:=λh0 h1 z=>by rw[z,ad] at h0;cases h0
   have ap:∀d o,d≠p->H7 d=some o->r d=some o:=λd o nb e=>(k8 d nb).trans e;have b0:H7 Rm=some (.lst zs):=s7 _ _ (s6 _ _ y5);have b3:=ap _ _ (cz cj b0) b0;have b4:H7 tt=some (.tup [.int (a:Int),.int (b:Int)]):=s7 _ _ (s6 _ _ cr);have bi:=an _ _ ad;have cS:=ap _ _ (bO b4 bi (by simp)) b4;have c0:SdsAt r zs rl:=Paired.imp' (λ_ _ ⟨d,S,X⟩=>⟨d,S,by have M:=s7 _ _ (s6 _ _ X);exact ap _ _ (bO M bi (by simp)) M⟩) sd;have bl:=ap _ _ a3 (an _ _ ab);have a5:aw r v g:=Paired.imp' (λ_ _ ⟨d,S,X⟩=>⟨d,S,by have M:=an _ _ X;exact ap _ _ (bO M bi (by simp)) M⟩) al;have c1:H7 L=some (.lst (nV cs)):=s7 _ _ y6;have c2:L≠p:=λzz=>by rw[zz,s5 _ _ ad] at bA;cases bA
   have b5:=ap _ _ c2 c1;have c3:But p H r:=λd o nb e=>ap _ _ nb (an _ _ (sm d o nb e));obtain⟨c4,c5⟩:a<n/\b<n:=by obtain⟨⟨⟨x,y⟩,c⟩,h1,h2⟩:=ay.mp bS;cases h2;exact bg h1
   have b6:a≠b:=by obtain⟨⟨⟨x,y⟩,c⟩,h1,h2⟩:=ay.mp bS;cases h2;exact I.sk.ne h1
   refine⟨Rm,zs,(k:Int),_,rfl,rfl,SqL.of b3,c9 cp,tt,_,rfl,SqT.of cS,rfl,_,_,rfl,_,_,rfl,rfl,?_⟩;refine⟨_,rfl,l,v,g,rfl,bl,a5,by lia,I.nd,λD B dy s9 y9=>?_⟩;refine⟨_,rfl,L,rfl,⟨_,SqL.of (s9 _ _ b5)⟩,λZ_ hZ=>dG (K:=[]) (a:=L) (xs:=nV cs) (λi Z ys H'=>∃o sl,Z=[o,some (.int (a:Int)),some (.int (b:Int)),some (.ref D)]/\Same B H'/\H' Z_=some (.lst ys)/\ys=nV sl/\(∀x∈sl,x<n/\x≠a/\x≠b/\iz g (b,a,x)=true)/\sl.length<=i)
    ⟨none,[],rfl,bQ hZ,aP,rfl,by simp,ak _⟩ (by rintro i Z ys H' _ ⟨_,_,_,e,_⟩;exact SqL.of (e _ _ (s9 _ _ b5))) ?_ ?_⟩
   .rintro j y Z ys H' hj ⟨o,sl,rfl,sj,b7,rfl,aM,b9⟩;rw[nV,aY] at hj;obtain⟨x,hx,rfl⟩:=bW.mp hj;have ca:=(aG.mp hx).1;have c6:x<n:=by
     refine (am x).mp ?_;have:=(bK.2 x).mp (a8 hx);rw[cy];unfold flat at this;rw[gK] at this;obtain⟨t,h1,h2⟩:=this;exact⟨t,h1,by simpa using h2⟩
    refine⟨_,rfl,_,rfl,_,rfl,lit2,λt1 Ha g1 sA yA=>?_⟩;refine⟨t1,_,rfl,.inr (SqT.of yA),rfl,rfl,_,rfl,?_⟩;show if (if true=true then !inV (V.int (x:Int)) (nV [a,b]) else _)=true then _ else _
    rw[ND rfl,iu];by_cases aS:x∈[a,b]
    .rw[NF aS];exact aH (aH ⟨_,sl,rfl,sj.trans sA,sA _ _ b7,rfl,aM,by lia⟩)
    rw[NG aS];refine aT ⟨_,rfl,_,rfl,_,rfl,_,rfl,lit3,λt2 Hb g2 sB yB=>?_⟩;refine⟨D,t2,g,(b,a,x),rfl,sB _ _ (sA _ _ (sj _ _ y9)),yB,λHc sC=>?_⟩;have cb:=((sj.trans sA).trans sB).trans sC;have cc:=sC _ _ (sB _ _ (sA _ _ b7));refine⟨_,rfl,?_⟩;by_cases bm:iz g (b,a,x)=true
    .rw[bm];refine aT ⟨_,rfl,cc,by rw[bM];lia,λH3 k3 y3=>⟨_,sl++[x],rfl,λd o e=>(k3 d (aq e hZ)).trans (cb _ _ e),y3,by rw[rZ,eS],λy hy=>?_,by rw[aL,bY];lia⟩⟩
     .rcases aW.mp hy with h|h
      .exact aM y h
      rw[aR.mp h];simp at aS;exact⟨c6,aS.1,aS.2,bm⟩
    rw[iE.mpr bm];exact aH ⟨_,sl,rfl,cb,cc,rfl,aM,by lia⟩
   rintro Z ys Ha ⟨o,sl,rfl,sA,da,rfl,aM,b9⟩;rw[bM,bL] at b9;refine⟨_,rfl,lit1,λl1 Hb g1 sB yB=>?_⟩;refine⟨Z_,l1,_,_,rfl,rfl,sB _ _ da,yB,by rw[bM];simp only[bY];lia,λSo Hc g2 sC yC=>?_⟩;rw[rZ,eS] at yC;have bb:=(sA.trans sB).trans sC;refine⟨_,rfl,So,rfl,⟨_,SqL.of yC⟩,λY hY=>dG (K:=[]) (a:=So) (xs:=nV (sl++[n])) (λi Z ys H'=>∃o nl,Z=[o,some (.int (a:Int)),some (.int (b:Int)),some (.ref Rm)]/\Same Hc H'/\H' Y=some (.lst ys)/\ys=nV nl/\(∀x∈nl,x∈sl++[n])/\nl.length<=i)
    ⟨none,[],rfl,bQ hY,aP,rfl,by simp,ak _⟩ (by rintro i Z ys H' _ ⟨_,_,_,e,_⟩;exact SqL.of (e _ _ yC)) ?_ ?_⟩
   .rintro j y Z ys H' hj ⟨o,nl,rfl,sj,cd,rfl,bd,ce⟩;rw[nV,aY] at hj;obtain⟨x,hx,rfl⟩:=bW.mp hj;have ca:=(aG.mp hx).1;rw[aL,bY] at ca;have db:=a8 hx;have cf:∀{Hx:Hp},Same H' Hx->Hx Rm=some (.lst zs)/\SdsAt Hx zs rl:=λsx=>⟨sx _ _ (sj _ _ (bb _ _ (s9 _ _ b3))),K31.SdsAt.same (((s9.trans bb).trans sj).trans sx) c0⟩;have take:∀Hx:Hp,Same H' Hx->Hx Y=some (.lst (nV nl))/\(nV nl).length<sizeLine/\∀H3:Hp,(∀d,d≠Y->H3 d=Hx d)->H3 Y=some (.lst (nV nl++[V.int (x:Int)]))->∃o bn,[some (V.int (x:Int)),some (.int (a:Int)),some (.int (b:Int)),some (.ref Rm)]=[o,some (.int (a:Int)),some (.int (b:Int)),some (.ref Rm)]/\Same Hc H3/\H3 Y=some (.lst (nV nl++[V.int (x:Int)]))/\nV nl++[V.int (x:Int)]=nV bn/\(∀y∈bn,y∈sl++[n])/\bn.length<=j+1:=λHx sx=>by
     refine⟨sx _ _ cd,by rw[bM];lia,λH3 k3 y3=>⟨_,nl++[x],rfl,λd o e=>(k3 d (aq e hY)).trans (sx _ _ (sj _ _ e)),y3,by rw[rZ,eS],λy hy=>?_,by rw[aL,bY];lia⟩⟩
     rcases aW.mp hy with h|h
     .exact bd y h
     rw[aR.mp h];exact db
    refine⟨_,rfl,_,rfl,lit2,λt1 Hd g1 O yD=>?_⟩;obtain⟨r1,r2⟩:=cf O;refine⟨_,rfl,sdD (b,x),Rm,zs,_,.tup (SqT.of yD) (.cons (.int _) (.cons (.int _) .nil)),rfl,.inl (SqL.of r1),oX r2,by show max 0 (max 0 0)+1<=60;decide,_,rfl,?_⟩;rw[NC bu];generalize (rl.map sdD).any _=b1;cases b1 with
    |true=>exact aT (aT ⟨_,rfl,take Hd O⟩)
    |false=>
     refine aH ⟨_,rfl,_,rfl,lit2,λt2 He g2 sE yE=>?_⟩;obtain⟨r1,r2⟩:=cf (O.trans sE);refine⟨_,rfl,sdD (x,a),Rm,zs,_,.tup (SqT.of yE) (.cons (.int _) (.cons (.int _) .nil)),rfl,.inl (SqL.of r1),oX r2,by show max 0 (max 0 0)+1<=60;decide,_,rfl,?_⟩;rw[NC bu];generalize (rl.map sdD).any _=b2;cases b2 with
     |true=>exact aT ⟨_,rfl,take He (O.trans sE)⟩
     |false=>exact aH ⟨_,nl,rfl,sj.trans (O.trans sE),sE _ _ (O _ _ cd),rfl,bd,by lia⟩
   rintro Z ys Hd ⟨o,nl,rfl,O,dc,rfl,bd,ce⟩;rw[bM,aL,bY] at ce;refine⟨_,rfl,Y,So,_,_,rfl,rfl,dc,O _ _ yC,by rw[bM,bM,aL,bY];lia,λNr He g3 sE yE=>?_⟩;rw[eS] at yE;have a0:Same r He:=((s9.trans bb).trans O).trans sE;have cg:He p=some (.lst (bG (nxt R (zs.length:Int)))):=a0 _ _ y8;obtain⟨M,e4⟩:=cQ (q:=nxt R (zs.length:Int)) (b:=((nV (nl++(sl++[n]))).length:Int)) (by rw[bM];simp only[aL,bY];lia);obtain⟨a1,dd⟩:∃k:Nat,digO (nxt R (zs.length:Int)) ((nV (nl++(sl++[n]))).length:Int)=(k:Int):=⟨_,(dW M).symm⟩;have dA:(nV (nl++(sl++[n]))).length=nl.length+(sl.length+1):=by rw[bM];simp
   have dj:a1<(nl++(sl++[n])).length:=by have l2:=bM (nl++(sl++[n]));lia
   have bt:(nl++(sl++[n]))[a1]?=some (nl++(sl++[n]))[a1]:=bX dj;generalize (nl++(sl++[n]))[a1]=x at bt;have dk:x∈sl++[n]:=by
    rcases aW.mp (a8 bt) with h|h
    .exact bd x h
    exact h
   refine⟨_,rfl,.inl ⟨rfl,_,SqL.of (a0 _ _ bl)⟩,_,rfl,_,rfl,_,rfl,_,rfl,_,rfl,Nr,_,rfl,.inl (SqL.of yE),p,_,_,rfl,cg,bJ au,by lia,iR (by lia) (by lia),λHf kf yf=>?_⟩;rw[dd];have be:∀d o,d≠p->He d=some o->Hf d=some o:=λd o nb e=>(kf d nb).trans e;have dl:Nr≠p:=λzz=>by rw[zz,O _ _ (bb _ _ (s9 _ _ y8))] at g3;cases g3
   refine⟨Nr,_,(a1:Int),_,rfl,rfl,SqL.of (be _ _ dl yE),c9 (HF bt),lit3,λt Hg ht sG yG=>?_⟩;have ch:=sG _ _ (be _ _ a3 (a0 _ _ bl));refine⟨l,v,_,rfl,rfl,ch,by lia,λB k9 y9=>hN _ _ ?_⟩;have good:Good (g++[(b,a,x)])/\(x<n\/x=n):=by
    rcases aW.mp dk with h|h
    .obtain⟨h1,h2,h3,h4⟩:=aM x h;exact⟨n9 I ⟨aB b6,aB h2,h3⟩ h4,.inl h1⟩
    rw[aR.mp h];refine⟨n9 I ⟨aB b6,by show a≠n;lia,by show n≠b;lia⟩ (free_of I λs hs c e=>?_),.inr rfl⟩;have hn:=bg e;simp only[dH,aK,fZ,or_false] at hs;rcases hs with rfl|rfl|rfl
    .exact cx (ay.mpr ⟨_,e,rfl⟩)
    .simp only at hn;lia
    simp only at hn;lia
   exact fin t (b,a,x) Hg _ _ _ _ _ _ _ _ _ _ _ (λd o nb e=>sG _ _ (be _ _ nb (a0 _ _ (c3 d o nb e)))) (sG _ _ yf) (bJ (bJ au)) ch (Paired.imp' (λ_ _ ⟨d,S,X⟩=>⟨d,S,by have M:=a0 _ _ X;exact sG _ _ (be _ _ (bO M cg (by simp)) M)⟩) a5) yG good.1 (Ep am c4 c5 good.2) B k9 y9
 rintro Z H4 ⟨o3,o4,o5,o6,o7,o8,o9,oa,ob,v,g,R,n,rfl,sm,ad,au,ab,al,ci,I,am⟩;exact⟨_,rfl,Qq l v g R H4 a2 sm ad au ab al (by lia) I⟩
end
def rtF(i:Nat):List Tri:=[(i,(i+1)%7,(i+3)%7),(i,(i+3)%7,(i+2)%7)]
def rt:List Tri:=(List.range 7).flatMap rtF
theorem rE:Good rt:=⟨by decide +kernel,by decide +kernel⟩
theorem GY:∀i:Fin 14,∀j:Fin 13,∃t∈(rt.eraseIdx i).eraseIdx j,6=t.1\/6=t.2.1\/6=t.2.2:=by decide +kernel
theorem y_:∀t∈rt,t.1<7/\t.2.1<7/\t.2.2<7:=by decide +kernel
theorem qw{α:Type}:∀{l:List α}{i:Nat}{x:α},l[i]?=some x->(l.eraseIdx i++[x]).Perm l
 | [],i,x,h=>by simp at h
 |a::l,0,x,h=>by
  simp at h;subst h;exact (gO (l₁:=l) (l₂:=[a]))
 |a::l,i+1,x,h=>(qw (l:=l) (i:=i) (by simpa using h)).cons a
theorem CC{as bs:List Tri}(h:as.Perm bs):(ents as).Perm (ents bs):=h.flatMap_right _
theorem oi{H H1:Hp}{c t:Addr}{d:List V}{f:List Tri}{u:Tri}(hf:H c=some (.lst d))(k:∀b,b≠c->H1 b=H b)(tr:aw H d f)(g:H t=some (.tup [.int (u.1:Int),.int (u.2.1:Int),.int (u.2.2:Int)])) :
  aw H1 (d++[V.ref t]) (f++[u]):=by
 have h:∀{a:Addr}{xs:List V},H a=some (.tup xs)->a≠c:=λe=>bO e hf (by simp);exact cJ (Paired.imp' (λ_ _ ⟨a,j,i⟩=>⟨a,j,(k _ (h i)).trans i⟩) tr) (.cons ⟨t,rfl,(k _ (h g)).trans g⟩ .nil)
theorem lu{p:Addr}{a pv:List V}{c:List Tri}(b:But p H H')(e:H p=some (.lst pv))(h:aw H a c):aw H' a c:=
 Paired.imp' (λ_ _ ⟨f,g,d⟩=>⟨f,g,b _ _ (bO d e (by simp)) d⟩) h
theorem vX{α β:Type}{F:α->β->Prop}:∀{xs:List α}{ys:List β}(k:Nat),Paired F xs ys->Paired F (xs.eraseIdx k) (ys.eraseIdx k)
 |_,_,_,.nil=>.nil
 |_,_,0,.cons _ t=>t
 |_,_,k+1,.cons h t=>.cons h (vX k t)
def EL(vs:List V)(H:Hp)(Q:VK)(p:Addr)(q:Int×Int):Prop:=vs=[.ref p]/\H p=some (.lst (bG q))/\bT q/\
 ∀r a ts b H',H r=none->But p H H'->H' p=some (.lst (bG b))->bT b->H' r=some (.lst a)->aw H' a ts->ts.length<=16->Good ts->Q (.ref r) H'
def xW:Sp:=λvs H Q _=>Exists (Ex2 (EL vs H Q))
section
theorem il:a7 ["_law_pot_here","_law_triples","_law_i","_law_way","_law_k","_law_gone","_law_new"] ["_law_pot_here"] (aC lY):=by walk_at"sc"
theorem Fq{f f1 f2 f3:Addr}{fd d1 d2 d3:FuncData}(U:Fun K "_law_ring" "_law_ring" lY f fd)(T:cq mg)(mM:mg "max" = none)
  (GD:Use P w K mg base 2 "_law_digit" ["_law_pot_here","_law_base"] gj f1 d1)
  (GC:Use P w K mg base 2 "_law_corners" ["_law_triples"] iO f2 d2)
  (GS:Use P w K mg base 2 "_law_sides" ["_law_triple"] oB f3 d3) :
  aj P w K mg base CX0 3 f fd ["_law_pot_here"] xW:=by
 refine U.ok il (by rintro _ _ _ _ ⟨_,_,rfl,_⟩;rfl) λNJ A outer s H vs Q E hr h=>?_
 obtain⟨p,q,rfl,hp,a5,Qq⟩:=h;have hu:=dv hr;refine⟨_,(af (sx 1 il.nd (bF du))
  (af (b_ cv rfl (kO rfl T.range (pa1 ah)) (gx 2 il.nd)
   (af (cZ (cA dD eX eY dP (pv 1) (pa1 (aO (ae (pv 2) (ae (ax eK (ax cF (pv 2) ah) ah) (pa1 (ax eK (ax cF (pv 2) ah) ah))))))))
  (ai (cZ (cA dD eX eY dP (pv 1) (pa1 (aO (ae (pv 2) (ae (ax eK (ax cF (pv 2) ah) ah) (pa1 (ax eK (ax cF (pv 2) ah) ah)))))))))))
  (af (sx 3 il.nd (uc GD hr (ae (pv 0) (pa1 ah))))
  (af (b_ cv rfl (kO rfl T.range (pa1 (ax eK (pv 3) ah))) (gx 4 il.nd)
   (af (sx 5 il.nd (cA dD Lk Ln v_ (pv 1) (pa1 (uc GD hr (ae (pv 0) (pa1 (pln T.len (pv 1))))))))
  (ai (bo (a6 eA (pv 4) ah (nomark _)) (af (sx 6 il.nd (ax cF (bH (qm rfl) (by rfl) mM z8 (pa1 (uc GC hr (pa1 (pv 1))))) ah))
  (ai (sx 1 il.nd (ax i8 (pv 1) (c7 (N:=["_law_p","_law_q","_law_new"]) (fr:=[none,none,some 6]) (g:=pN [] 2 (jd (cK 0) (jd (cK 1) pO))) (te:=sM (dJ (ck 0) (dJ (ck 1) (dJ (ck 2) eB)))) (ef (by decide +kernel) rfl rfl (by decide +kernel) (by decide +kernel) (by walk_at"cs") (by walk_at"ct")) rfl (bI (uc GS hr (pa1 (pv 5))))
    (λC' s' H' fp NI=>⟨(cX rfl (aX (gx 0 (by decide:(["_law_p","_law_q","_law_new"]:List Str).Nodup)) (aX (gx 1 (by decide:(["_law_p","_law_q","_law_new"]:List Str).Nodup)) cR))),di,(aO (ae (pv 0) (ae (pv 1) (pa1 (pv 2)))))⟩)))))) bj))))
  (ai (aN (pv 1))))))),?_⟩
 have cb:=line5000;refine⟨aJ _,λD H1 al s1 y1=>?_⟩;have bt:D≠p:=λz=>by rw[z,hp] at al;cases al
 refine⟨_,rfl,by decide,by decide,?_⟩;refine kP (lo:=0) (n:=7) (λi Z H'=>∃v B,Z=[some (V.ref p),some (.ref D),v,none,none,none,none]/\Same H H'/\H' D=some (.lst B)/\aw H' B ((List.range i).flatMap rtF))
  ⟨none,[],rfl,s1,y1,.nil⟩ ?_ ?_
 .rintro i Z H2 hi ⟨v,B,rfl,sm,au,O⟩;have cc:B.length<=100:=by
   rw[aF O,List.length_flatMap];have:((List.range i).map λa=>(rtF a).length).sum=2*i:=by
    have e:(List.range i).map (λa=>(rtF a).length)=List.replicate i 2:=by rw[List.eq_replicate_iff];exact⟨by simp,λb hb=>by obtain⟨x,_,rfl⟩:=ay.mp hb;rfl⟩
    rw[e];clear e;have:∀n:Nat,(List.replicate n 2).sum=2*n:=λn=>by
     induction n with
     |zero=>rfl
     |succ n ih=>rw[gP,List.sum_cons,ih];lia
    exact this i
   lia
  refine⟨_,rfl,.inl ⟨rfl,_,SqL.of au⟩,_,rfl,_,rfl,_,_,rfl,rfl,_,_,rfl,rfl,(show (0:Int)<7 by decide),_,rfl,_,_,rfl,rfl,_,_,rfl,rfl,(show (0:Int)<7 by decide),lit3,λt H3 ht s3 y3=>?_⟩;have bw:H3 t=some (.tup [.int (i:Int),.int (((i+1)%7:Nat):Int),.int (((i+3)%7:Nat):Int)]):=by rw[show (0+(i:Int))=(i:Int) by lia] at y3;exact y3
  have bb:=s3 _ _ au;refine⟨D,B,_,rfl,rfl,bb,by lia,λH4 k4 y4=>?_⟩;have I:=oi (u:=(i,(i+1)%7,(i+3)%7)) bb k4 (O.same s3) bw;have bx:Same H H4:=λd o e=>(k4 d (aq e al)).trans (s3 _ _ (sm _ _ e));refine⟨_,rfl,.inl ⟨rfl,_,SqL.of y4⟩,_,rfl,_,rfl,_,_,rfl,rfl,_,_,rfl,rfl,(show (0:Int)<7 by decide),_,rfl,_,_,rfl,rfl,_,_,rfl,rfl,(show (0:Int)<7 by decide),lit3,λt2 H5 cd s5 y5=>?_⟩;have bA:H5 t2=some (.tup [.int (i:Int),.int (((i+3)%7:Nat):Int),.int (((i+2)%7:Nat):Int)]):=by rw[show (0+(i:Int))=(i:Int) by lia] at y5;exact y5
  have bd:=s5 _ _ y4;refine⟨D,_,_,rfl,rfl,bd,by rw[aL,bY];lia,λH6 L y6=>?_⟩;have S:=oi (u:=(i,(i+3)%7,(i+2)%7)) bd L (I.same s5) bA;refine⟨_,_,rfl,λd o e=>(L d (aq e al)).trans (s5 _ _ (bx _ _ e)),y6,?_⟩;rw[List.range_succ,List.flatMap_append];simpa [rtF] using S
 rintro Z H2 ⟨v,B,rfl,sm,au,O⟩;have O:aw H2 B rt:=O;obtain⟨d1,d2⟩:=cQ (q:=q) (b:=4) (by decide);obtain⟨wy,ew⟩:∃wy:Nat,digO q 4=(wy:Int):=⟨_,(dW d1).symm⟩;refine⟨_,rfl,p,q,4,rfl,sm _ _ hp,a5,by decide,by decide +kernel,λH3 k3 y3=>?_⟩;rw[ew] at d2 |-;refine⟨_,rfl,_,_,rfl,rfl,(show (0:Int)<3 by decide),_,rfl,by lia,by lia,?_⟩;have hw:((wy:Int)%3).toNat<=2:=by lia
 generalize ((wy:Int)%3).toNat=W at hw;have b3:But p H H3:=λd o n e=>(k3 d n).trans (sm _ _ e);refine kP (lo:=0) (n:=W) (λi Z H'=>∃v o4 o5 o6 l r tc q',Z=[some (V.ref p),some (.ref l),v,some (.int (wy:Int)),o4,o5,o6]/\But p H H'/\H' p=some (.lst (bG q'))/\bT q'/\H l=none/\H' l=some (.lst r)/\aw H' r tc/\(i=0/\tc=rt\/(i=1/\∃j:Fin 14,tc=rt.eraseIdx j)\/i=2/\tc.length<=16/\Good tc))
  ⟨_,none,none,none,D,B,rt,_,rfl,b3,y3,bJ a5,al,(k3 D bt).trans au,Paired.imp' (λ_ _ ⟨d,M,y⟩=>⟨d,M,(k3 d (bO y (sm _ _ hp) (by simp))).trans y⟩) O,.inl ⟨rfl,rfl⟩⟩ ?_ ?_
 .rintro i Z H4 hi ⟨v,o4,o5,o6,l,r,tc,X,rfl,b4,am,an,ab,ap,I,ad⟩;have ad:i=0/\tc=rt\/(i=1/\∃j:Fin 14,tc=rt.eraseIdx j):=ad.imp_right λh=>h.resolve_right λ⟨z,_⟩=>by lia
  have ce:13<=tc.length/\tc.length<=14:=by
   rcases ad with ⟨_,rfl⟩|⟨_,j,rfl⟩
   .decide
   rw[tL (show (j:Nat)<rt.length from j.2)];decide
  have cf:=aF I;obtain⟨M,y⟩:=cQ (q:=X) (b:=(r.length:Int)) (by lia);obtain⟨k,hk⟩:∃k:Nat,digO X (r.length:Int)=(k:Int):=⟨_,(dW M).symm⟩;have a0:k<tc.length:=by lia
  obtain⟨⟨a,b,c⟩,a1⟩:∃s,tc[k]?=some s:=⟨_,bX a0⟩;obtain⟨zv,bK,tt,rfl,be⟩:=rT I a1;have bg:l≠p:=λz=>by rw[z,hp] at ab;cases ab
  refine⟨_,rfl,.inl ⟨rfl,_,SqL.of ap⟩,_,rfl,_,rfl,l,_,rfl,.inl (SqL.of ap),p,X,_,rfl,am,an,by lia,iR (by lia) (by lia),λH5 k5 y5=>?_⟩;rw[hk];have a2:=(k5 l bg).trans ap;refine⟨l,r,(k:Int),k,_,rfl,rfl,a2,by lia,by lia,w_ (by lia),bK,λH6 L y6=>?_⟩;have b5:But p H H5:=λd o n e=>(k5 d n).trans (b4 _ _ n e);have bL:aw H5 r tc:=Paired.imp' (λ_ _ ⟨d,M,y⟩=>⟨d,M,(k5 d (bO y am (by simp))).trans y⟩) I;have bi:H5 tt=some (.tup [.int (a:Int),.int (b:Int),.int (c:Int)]):=(k5 tt (bO be am (by simp))).trans be;have b6:But p H H6:=λd o n e=>(L d (aq e ab)).trans (b5 _ _ n e);have a3:H6 p=some (.lst (bG (nxt X (r.length:Int)))):=(L p (aB bg)).trans y5;have S:aw H6 (r.eraseIdx k) (tc.eraseIdx k):=Paired.imp' (λ_ _ ⟨d,M,y⟩=>⟨d,M,(L d (bO y a2 (by simp))).trans y⟩) (vX k bL);have bR:=(L tt (bO bi a2 (by simp))).trans bi;refine⟨_,rfl,rfl,_,rfl,?_⟩;rcases ad with ⟨rfl,rfl⟩|⟨rfl,j,rfl⟩
  .exact aH ⟨_,_,_,_,l,_,_,_,rfl,b6,a3,bJ an,ab,y6,S,.inr (.inl ⟨rfl,⟨k,a0⟩,rfl⟩)⟩
  refine aT ?_;have bS:(rt.eraseIdx j).length=13:=by rw[tL (show (j:Nat)<rt.length from j.2)];rfl
  have b0:((rt.eraseIdx j).eraseIdx k).length=12:=by rw[tL a0,bS]
  have cg:=aF S;refine⟨_,rfl,l,_,_,rfl,y6,S,by lia,λrc cs H7 ch s7 y7 bl lcs=>?_⟩;have six:6∈cs:=by rw[bl.2];obtain⟨t,h1,h2⟩:=GY j ⟨k,by lia⟩;exact gK.mpr ⟨t,h1,by simpa using h2⟩
  have hle:∀x∈cs,x<7:=λx hx=>by
   rw[bl.2] at hx;obtain⟨t,h1,h2⟩:=gK.mp hx;have h3:=y_ t ((jm _ _).subset ((jm _ _).subset h1));have h2:x=t.1\/x=t.2.1\/x=t.2.2:=by simpa using h2
   lia
  refine⟨rc,cs.map (λc:Nat=>(c:Int)),rfl,SqL.of (by rw[y7];simp[nV]),λz=>?_,λm hm b1=>⟨_,_,rfl,rfl,?_⟩⟩
  .rw[zJ.mp z] at six;cases six
  have em:m=6:=by obtain⟨x,hx,rfl⟩:=ay.mp hm;have:=b1 6 (ay.mpr ⟨6,six,rfl⟩);have:=hle x hx;lia
  subst em;refine⟨_,rfl,_,rfl,tt,(a,b,c),rfl,s7 _ _ bR,λZ_ zs H8 ci s8 y8 sd=>?_⟩;have b2:=s7.trans s8;refine⟨Z_,rfl,⟨_,SqL.of y8⟩,λY hY=>dG (K:=[]) (a:=Z_) (xs:=zs) (λi Z ys H'=>∃o1 v,Z=[o1,v,some (.int 7)]/\Same H8 H'/\H' Y=some (.lst ys)/\aw H' ys (((dH (a,b,c)).take i).map λs=>(s.1,s.2,7)))
   ⟨none,none,rfl,bQ hY,aP,.nil⟩ (by rintro i Z ys H' _ ⟨_,_,_,e,_⟩;exact SqL.of (e _ _ y8)) ?_ ?_⟩
  .rintro i x Z ys H' hi ⟨o1,b7,rfl,aM,a4,C⟩;obtain⟨⟨x1,x2⟩,hs,c',rfl,b8⟩:=cw sd hi;refine⟨c',_,rfl,SqT.of (aM _ _ b8),rfl,_,_,rfl,_,_,rfl,rfl,?_⟩;refine⟨_,rfl,_,rfl,_,rfl,lit3,λt H9 ht s9 y9=>?_⟩;have bm:=s9 _ _ a4;refine⟨bm,?_,λHn kn yn=>⟨_,_,rfl,λd o e=>(kn d (aq e hY)).trans (s9 _ _ (aM _ _ e)),yn,?_⟩⟩
   .rw[aF C,ao,bf];simp[dH];lia
   rw[ba,hs,aQ];exact oi (u:=(x1,x2,7)) bm kn (C.same s9) y9
  rintro Z ys H9 ⟨o1,b7,rfl,aM,a4,C⟩;have l3:zs.length=3:=aF sd;rw[l3] at C;have C:aw H9 ys [(a,b,7),(b,c,7),(c,a,7)]:=C;have aS:=b2.trans aM;refine⟨l,Y,_,_,rfl,rfl,aS _ _ y6,a4,by have:=aF C;simp at this;lia,λR cj hR bn b9=>?_⟩;have st:=aS.trans bn;have ca:H R=none:=by
   cases e:H R with
   |none=>rfl
   |some o=>
    by_cases ep:R=p
    .rw[ep,aS _ _ a3] at hR;cases hR
    rw[aS _ _ (b6 _ _ ep e)] at hR;cases hR
  refine⟨_,_,_,_,R,_,_,_,rfl,λd o n e=>st _ _ (b6 _ _ n e),st _ _ a3,bJ an,ca,b9,cJ (S.same st) (C.same bn),.inr (.inr ⟨rfl,?_,?_⟩)⟩
  .rw[aL,b0];exact (show 12+3<=16 by decide)
  refine Cv (Cu (qS rE (jm rt j)) (CC (qw a1))) λz=>?_;obtain⟨t,h1,h2⟩:=cy.mp z;have h3:=y_ t ((jm _ _).subset ((qw a1).mem_iff.mp h1));lia
 rintro Z H4 ⟨v,o4,o5,o6,l,r,tc,X,rfl,b4,am,an,ab,ap,I,ad⟩;have hh:tc.length<=16/\Good tc:=by
  rcases ad with ⟨_,rfl⟩|⟨_,j,rfl⟩|⟨_,h⟩
  .exact⟨by decide,rE⟩
  .exact⟨br (jm rt j).length_le (by decide),qS rE (jm rt j)⟩
  exact h
 exact⟨_,rfl,Qq l r tc X H4 ab b4 am an ap I hh.1 hh.2⟩
end
def BX(vs:List V)(H:Hp)(Q:VK)(S T:Addr)(a b:List V)(ss ts:List Tri):Prop:=vs=[.ref S,.ref T]/\H S=some (.lst a)/\aw H a ss/\ss.length<=10/\Good ss/\H T=some (.lst b)/\aw H b ts/\ts.length<=10/\Good ts/\
 ∀r c rs H',H r=none->Same H H'->H' r=some (.lst c)->aw H' c rs->rs.length<=20->Good rs->Q (.ref r) H'
def vO:Sp:=λvs H Q _=>Exists (Ex6 (BX vs H Q))
section
theorem vT:a7 ["_law_one","_law_other","_law_more"] ["_law_one","_law_other"] (aC kW):=by walk_at"sc"
theorem Ca{f f2:Addr}{fd d2:FuncData}(U:Fun K "_law_beside" "_law_beside" kW f fd)(T:cq mg)(mM:mg "max" = none)
  (GC:Use P w K mg base 2 "_law_corners" ["_law_triples"] iO f2 d2) :
  aj P w K mg base CX0 3 f fd ["_law_one","_law_other"] vO:=by
 refine U.ok vT (by rintro _ _ _ _ ⟨_,_,_,_,_,_,rfl,_⟩;rfl) λNJ A outer s H vs Q E hr h=>?_
 obtain⟨S,T0,an,vt,ss,ts,rfl,hS,B,lS,gS,hT,ap,lT,gT,Qq⟩:=h;have hu:=dv hr;refine⟨_,(af (sx 2 vT.nd (ax cF (bH (qm rfl) (by rfl) mM z8 (pa1 (ax i8 (uc GC hr (pa1 (pv 0))) (bF (pa1 (pF oU ah)))))) ah))
  (ai (aN (ax i8 (pv 0) (c7 (N:=["_law_triple","_law_more"]) (fr:=[none,some 2]) (te:=tCB (λxs H Q=>∃p ys,xs=[.ref p]/\((SqL [] H p ys/\∀l,H l=none->Q (.ref l) (upd H l (.tup ys)))\/(SqT [] H p ys/\Q (.ref p) H))) (dJ (iw (mW [] (ck 0)) (cK 0) (λ_ H Q=>Q true H) (tOp (rI0 λi j=>.int (i+j)) (ck 0) (ck 1)) [none,some 1]) eB)) (ef (by decide +kernel) rfl rfl (by decide +kernel) (by decide +kernel) (by walk_at"cs") (by walk_at"ct")) rfl (bI (pv 1))
    (λC' s' H' fp NI=>⟨(gx 0 (by decide:(["_law_triple","_law_more"]:List Str).Nodup)),di,(cP jC (by rfl) T.tuple jv (pa1 (c7 (N:=["_law_corner","_law_more"]) (fr:=[none,some 1]) (te:=tOp (rI0 λi j=>.int (i+j)) (ck 0) (ck 1)) (ef (by decide +kernel) rfl rfl (by decide +kernel) (by decide +kernel) (by walk_at"cs") (by walk_at"ct")) rfl (i7 (pv 0))
    (λC' s' H' fp NI=>⟨(gx 0 (by decide:(["_law_corner","_law_more"]:List Str).Nodup)),di,(ax cF (pv 0) (pv 1))⟩))))⟩)))))),?_⟩
 have a0:=line5000;refine⟨_,rfl,S,an,ss,rfl,hS,B,by lia,λL cs H1 a1 s1 y1 au lcs=>?_⟩;refine⟨_,rfl,lit1,λl1 H2 g1 s2 y2=>?_⟩;refine⟨L,l1,_,_,rfl,rfl,s2 _ _ y1,y2,by rw[bM];simp only[bY];lia,λl2 H3 g2 s3 y3=>?_⟩;refine⟨l2,cs.map (λc:Nat=>(c:Int))++[-1],rfl,SqL.of (by rw[y3];simp[nV]),by simp,λm hm ab=>⟨_,_,rfl,rfl,?_⟩⟩;obtain⟨n,hn⟩:∃n:Nat,m+1=(n:Int):=by have:=ab (-1) (by simp);exact⟨(m+1).toNat,by lia⟩
 have aM:∀c,Co ss c->c<n:=λc hc=>by
  have:c∈cs:=by rw[au.2];obtain⟨t,h1,h2⟩:=cy.mp hc;exact gK.mpr ⟨t,h1,by simpa using h2⟩
  have:=ab (c:Int) (dC _ (ay.mpr ⟨c,this,rfl⟩));lia
 show cK 2 (V.int (m+1)) _ _ _;rw[hn];have C:=(s1.trans s2).trans s3;have ad:=C _ _ hT;have al:=ap.same C;have gN:Good (ts.map (nam (· + n))):=wj gT (λa b _ _ h=>by simpa using h);refine⟨_,rfl,_,rfl,T0,rfl,⟨_,SqL.of ad⟩,λZ_ hZ=>dG (K:=[]) (a:=T0) (xs:=vt) (λi Z ys H'=>∃o,Z=[o,some (.int (n:Int))]/\Same H3 H'/\H' Z_=some (.lst ys)/\aw H' ys ((ts.take i).map (nam (· + n))))
  ⟨none,rfl,bQ hZ,aP,.nil⟩ (by rintro i Z ys H' _ ⟨_,_,e,_⟩;exact SqL.of (e _ _ ad)) ?_ ?_⟩
 .rintro i x Z ys H' hi ⟨o,rfl,sm,D,d⟩;obtain⟨⟨a,b,c⟩,hs,t,rfl,g⟩:=cw al hi;have g:H3 t=some (.tup [.int (a:Int),.int (b:Int),.int (c:Int)]):=g;have a2:=(aG.mp hs).1;refine⟨_,rfl,t,rfl,⟨_,SqT.of (sm _ _ g)⟩,λY hY=>ll (K:=[]) (a:=t) (xs:=nV [a,b,c]) (λi Z ys I=>∃o,Z=[o,some (.int (n:Int))]/\ys=nV (([a,b,c].take i).map (· + n))/\Same H' I/\I Y=some (.lst ys)) ⟨none,rfl,rfl,bQ hY,aP⟩ (by rintro i Z ys I _ ⟨_,_,_,e,_⟩;exact SqT.of (e _ _ (sm _ _ g))) ?_ ?_⟩
  .rintro j x Z zs M hj ⟨o,rfl,rfl,O,X⟩;rw[nV,aY] at hj;obtain⟨z,hz,rfl⟩:=bW.mp hj;have a3:j<3:=(aG.mp hz).1;refine⟨_,rfl,_,rfl,_,_,rfl,rfl,X,?_,λHn r yn=>⟨_,rfl,?_,λv o e=>(r v (aq e hY)).trans (O _ _ e),yn⟩⟩
   .rw[bM,ao,bf];simp;lia
   rw[ba,hz,aQ,<-eS];rfl
  rintro Z zs M ⟨o,rfl,rfl,O,X⟩;refine⟨Y,_,rfl,.inl ⟨SqL.of X,λt' aS=>?_⟩⟩;walk_at"M t' aS H5 q y5";have st:=O.trans q;have am:=st _ _ D;refine⟨am,?_,λHn r yn=>⟨_,rfl,λv o e=>(r v (aq e hZ)).trans (st _ _ (sm _ _ e)),yn,?_⟩⟩
  .rw[aF d,ao,bf];lia
  rw[ba,hs,aQ];exact oi (u:=(a+n,b+n,c+n)) am r (d.same st) y5
 rintro Z ys M ⟨o,rfl,sm,D,d⟩;rw[aF al,bV] at d;have lz:=aF d;rw[ao] at lz;have lv:=aF B;have y:=C.trans sm;refine⟨S,Z_,_,_,rfl,rfl,y _ _ hS,D,by lia,λR H5 hR q y5=>?_⟩;refine Qq R _ _ H5 (y.free hR) (y.trans q) y5 (cJ (B.same (y.trans q)) (d.same q)) ?_ ?_
 .rw[aL,ao];lia
 refine D_ gS gN λa ha g=>?_;have:=aM a ha;obtain⟨b,c,e⟩:=g;obtain⟨a',v,c',_,h2,_⟩:=yK gT (λa b _ _ h=>by simpa using h) e;have h2:a=a' + n:=h2;lia
end
theorem rh{r p:Addr}{a:List V}{ts:List Tri}{q:Int×Int}(c:H r=some (.lst a))(tr:aw H a ts)(d:H p=some (.lst (bG q))):r≠p:=λz=>by
 rw[z,d] at c;cases c;cases tr with
 |cons h _=>
  obtain⟨b,e,_⟩:=h;cases e
section
end
def eD(H:Hp)(a:Addr):Flt->Prop
 |.many=>H a=some (.tup [.str "many"])
 |.triple k=>H a=some (.tup [.str "triple",.int (k:Int)])
 |.side k m n=>∃u,H a=some (.tup [.str "side",.int (k:Int),.ref u])/\H u=some (.tup [.int (m:Int),.int (n:Int)])
 |.round c=>H a=some (.tup [.str "round",.int (c:Int)])
def BV(K:W.Frag)(vs:List V)(H:Hp)(Q:VK)(T:Addr)(b:List V)(os:List (Option Tri)):Prop:=vs=[.ref T]/\H T=some (.lst b)/\mH K H b os/\os.length<=400/\
 (∀H',dQ os none->Same H H'->Q .non H')/\∀fl a H',dQ os (some fl)->Same H H'->eD H' a fl->Q (.ref a) H'
def vM(K:W.Frag):Sp:=λvs H Q _=>Exists (Ex3 (BV K vs H Q))
theorem wJ:∀{a:List V}{ts:List Tri},mH K H a (ts.map some)->aw H a ts/\∀t∈ts,t.1≠t.2.1/\t.2.1≠t.2.2/\t.2.2≠t.1
 | [],[],_=>⟨.nil,by simp⟩
 | [],_::_,h=>by cases h
 |_::_,[],h=>by cases h
 |v::a,t::ts,h=>by
  rw[aU] at h;cases h with
  |cons h1 h2=>
   obtain⟨b,c⟩:=wJ h2;obtain⟨d,e⟩:=Th.tri h1;refine⟨.cons d b,λx hx=>?_⟩;rcases aK.mp hx with rfl|hx
   .exact e
   exact c x hx
theorem sy{ts:List Tri}{c:Nat}:c∈flat ts↔Co ts c:=by rw[cy,flat,gK];refine exists_congr λt=>and_congr_right λ_=>?_;simp
theorem yI(s u:Nat×Nat):PyData.eqv (sdD s) (sdD u)=decide (s=u):=by rw[fH];obtain⟨a,b⟩:=s;obtain⟨c,d⟩:=u;simp[sdD,PyData.eqv,PyData.eqvAll];lia
theorem IA(ss:List (Nat×Nat))(s:Nat×Nat):((ss.map sdD).any λz=>PyData.eqv z (sdD s))=decide (s∈ss):=by
 rw[fH,tm,decide_eq_true_iff];constructor
 .rintro⟨z,a,e⟩;obtain⟨u,b,rfl⟩:=ay.mp a;rw[yI] at e;rw[<-NH e];exact b
 intro h;exact⟨sdD s,ay.mpr ⟨s,h,rfl⟩,by rw[yI];exact NF rfl⟩
section
theorem gv:a7 ["_law_things","_law_k","_law_thing","_law_come","_law_triple","_law_side","_law_corner"] ["_law_things"] (aC jV):=by walk_at"sc"
theorem B9{f f1 f2 f3 f4:Addr}{fd d1 d2 d3 d4:FuncData}(U:Fun K "_law_fault" "_law_fault" jV f fd)(T:cq mg)
  (G1:Use P w K mg base 1 "_law_is_triple" ["_law_thing"] (nU K) f1 d1)
  (G2:Use P w K mg base 1 "_law_sides" ["_law_triple"] oB f2 d2)
  (G3:Use P w K mg base 2 "_law_corners" ["_law_triples"] iO f3 d3)
  (G4:Use P w K mg base 2 "_law_fans" ["_law_triples","_law_corner"] rO f4 d4) :
  aj P w K mg base CX0 3 f fd ["_law_things"] (vM K):=by
 refine U.ok gv (by rintro _ _ _ _ ⟨_,_,_,rfl,_⟩;rfl) λNJ A outer s H vs Q E hr h=>?_
 obtain⟨b,l,os,rfl,O,ht,hl,q0,q1⟩:=h;have a0:Room 1 (A.deeper (PyProof.Rows.envOfC "_law_fault" (aC jV) s.heap.objs.size f NJ)):=hr.mono (by decide);refine⟨_,af (bo (a6 pG (pln T.len (pv 0)) ah (nomark _)) (ai (aN (aO (pa1 bB)))) bj)
  (af (b_ cv rfl (lJ rfl T.enum (pa1 (pv 0))) (cX rfl (aX (gx 1 gv.nd) (aX (gx 2 gv.nd) cR)))
   (ai (bo (eJ (dq (uc G1 a0 (pa1 (pv 2))))) (ai (aN (aO (ae bB (pa1 (pv 1)))))) bj)))
  (af (sx 3 gv.nd (bF du))
  (af (b_ cv rfl (lJ rfl T.enum (pa1 (pv 0))) (cX rfl (aX (gx 1 gv.nd) (aX (gx 4 gv.nd) cR)))
   (af (b_ cv rfl (bI (uc G2 a0 (pa1 (pv 4)))) (gx 5 gv.nd)
    (ai (bo (a6 (rY hr.units) (pv 5) (pv 3) rfl) (ai (aN (aO (ae bB (ae (pv 1) (pa1 (pv 5))))))) bj)))
   (ai (sx 3 gv.nd (ax i8 (pv 3) (uc G2 a0 (pa1 (pv 4))))))))
  (af (b_ cv rfl (bI (uc G3 hr (pa1 (pv 0)))) (gx 6 gv.nd)
   (ai (bo (a6 pG (pln T.len (uc G4 hr (ae (pv 0) (pa1 (pv 6))))) ah (nomark _)) (ai (aN (aO (ae bB (pa1 (pv 6)))))) bj)))
  (ai (aN jY)))))),?_⟩
 have b1:=line5000;have hlen:=aF ht;refine⟨_,rfl,b,_,rfl,.inl (SqL.of O),_,_,rfl,rfl,_,rfl,ite2 (λv=>?_) λv=>?_⟩
 .have v:(200:Int)<(l.length:Int):=NH v;refine⟨lit1,λa H1 g1 s1 y1=>q1 .many a H1 (by show 200<os.length;lia) s1 y1⟩
 have hle:os.length<=200:=by have:¬(200:Int)<(l.length:Int):=λz=>v (NF z);lia
 refine⟨_,rfl,b,l,rfl,SqL.of O,k_ (K:=[]) (a:=b) (xs:=l) (λi Z H'=>∃L y,∃ts:List Tri,Z=[some (V.ref b),L,y,none,none,none,none]/\Same H H'/\os.take i=ts.map some)
  ⟨none,none,[],rfl,λ_ _ z=>z,rfl⟩ (λi Z H' _ ⟨_,_,_,_,e,_⟩=>SqL.of (e _ _ O)) ?_ ?_⟩
 .rintro i x p Z H2 hi ⟨L,y,ts,rfl,sm,ab⟩ hp;obtain⟨o,hs,bn⟩:=cw ht hi;have et:os.take (i+1)=os.take i++[o]:=by rw[ba,hs];rfl
  walk_at"H2 p hp H3 s3 y3";refine⟨p,_,rfl,SqT.of y3,rfl,_,_,rfl,_,_,rfl,rfl,?_⟩;refine⟨_,rfl,x,o,rfl,Th.same (sm.trans s3) bn,_,rfl,?_⟩;cases o with
  |none=>exact j6 ⟨_,rfl,lit2,λt H4 b2 R y4=>q1 (.triple i) t H4 ⟨hle,hs,ts,ab⟩ ((sm.trans s3).trans R) y4⟩
  |some q=>exact kg ⟨_,_,ts++[q],rfl,sm.trans s3,by rw[et,ab,aQ];rfl⟩
 rintro Z H1 ⟨L,y,ts,rfl,s1,ab⟩;rw[hlen,bV] at ab;subst ab;obtain⟨tr,a3⟩:=wJ ht;have a4:ts.length<=200:=by rw[ao] at hle;exact hle
 have bt:=aF tr;refine⟨aJ _,λC0 H2 b3 s2 y2=>?_⟩;have a5:Same H H2:=s1.trans s2;refine⟨_,rfl,b,l,rfl,SqL.of (a5 _ _ O),k_ (K:=[]) (a:=b) (xs:=l) (λi Z H'=>∃L y o4 M C zs,Z=[some (V.ref b),L,y,some (.ref C),o4,M,none]/\Same H H'/\H' C=some (.lst zs)/\SdsAt H' zs ((ents (ts.take i)).map (·.1))/\((ents (ts.take i)).map (·.1)).Nodup)
  ⟨_,_,none,none,C0,[],rfl,a5,y2,.nil,List.Pairwise.nil⟩ (λi Z H' _ ⟨_,_,_,_,_,_,_,e,_⟩=>SqL.of (e _ _ O)) ?_ ?_⟩
 .rintro i x p Z H3 hi ⟨L,y,o4,M,C,zs,rfl,ad,hC,sd,nd⟩ hp;obtain⟨q,hs,t,rfl,hb⟩:=cw tr hi;have et:ts.take (i+1)=ts.take i++[q]:=by rw[ba,hs];rfl
  walk_at"H3 p hp H4 R y4";have al:=ad.trans R;refine⟨p,_,rfl,SqT.of y4,rfl,_,_,rfl,_,_,rfl,rfl,?_⟩;refine⟨_,rfl,t,q,rfl,al _ _ hb,λr zr H5 bw N y5 sr=>?_⟩;have S:=al.trans N;have bb:=N _ _ (R _ _ hC);have a1:SdsAt H5 zs ((ents (ts.take i)).map (·.1)):=Paired.imp' (λ_ _ ⟨d,B,D⟩=>⟨d,B,N _ _ (R _ _ D)⟩) sd;have bx:=aF sr;refine⟨r,rfl,⟨_,SqL.of y5⟩,dh (K:=[]) (a:=r) (xs:=zr) (λj Z H'=>(∃M,Z=[some (V.ref b),some (.int (i:Int)),y,some (.ref C),some (.ref t),M,none])/\H'=H5/\∀s'∈(dH q).take j,s'∉(ents (ts.take i)).map (·.1))
   ⟨⟨_,rfl⟩,rfl,by simp⟩ (λj Z H' _ ⟨_,e,_⟩=>by rw[e];exact SqL.of y5) ?_ ?_⟩
  .rintro j x Z H' X ⟨⟨M,rfl⟩,rfl,am⟩;obtain⟨⟨m,n⟩,ho,bd,rfl,au⟩:=cw sr X;have au:H' bd=some (.tup [.int (m:Int),.int (n:Int)]):=au;have ej:(dH q).take (j+1)=(dH q).take j++[(m,n)]:=by rw[ba,ho];rfl
   refine⟨_,rfl,_,rfl,sdD (m,n),C,zs,_,.tup (SqT.of au) (.cons (.int _) (.cons (.int _) .nil)),rfl,.inl (SqL.of bb),oX a1,by simp[sdD,PyData.depth,PyData.depthAll],_,rfl,?_⟩;show if (((ents (ts.take i)).map (·.1)).map sdD |>.any λz=>PyData.eqv z (sdD (m,n)))=true then _ else _
   rw[IA];refine ite2 (λan=>?_) λan=>?_
   .have an:=NH an;exact⟨_,rfl,_,rfl,lit3,λu H6 g6 I y6=>q1 (.side i m n) u H6 ⟨hle,ts,rfl,nd,q,j,hs,ho,an,am⟩ (S.trans I) ⟨bd,y6,I _ _ au⟩⟩
   refine⟨⟨_,rfl⟩,rfl,λs' be=>?_⟩;rw[ej] at be;rcases aW.mp be with z|z
   .exact am s' z
   rw[aR.mp z];exact λz=>an (NF z)
  rintro Z H' ⟨⟨M,rfl⟩,rfl,am⟩;rw[bx,bV] at am;refine⟨_,rfl,_,rfl,t,q,rfl,S _ _ hb,λr2 z2 H6 b4 I y6 bg=>?_⟩;have l1:=aF a1;have l2:=aF bg;have l3:=fc (ts.take i);rw[bf] at l3;rw[ao] at l1;have l4:(dH q).length=3:=rfl;refine⟨C,r2,_,_,rfl,rfl,I _ _ bb,y6,by lia,λC2 H7 g7 s7 y7=>?_⟩;have sA:SdsAt H7 (zs++z2) ((ents (ts.take (i+1))).map (·.1)):=by rw[et,qI,aQ];exact cJ (Paired.imp' (λ_ _ ⟨d,B,D⟩=>⟨d,B,s7 _ _ (I _ _ D)⟩) a1) (Paired.imp' (λ_ _ ⟨d,B,D⟩=>⟨d,B,s7 _ _ D⟩) bg)
  refine⟨_,_,_,_,C2,_,rfl,(S.trans I).trans s7,y7,sA,?_⟩;rw[et,qI,aQ,cY];exact⟨nd,xA (a3 _ (a8 hs)),λa' bA d bK z=>am d bK (z ▸ bA)⟩
 rintro Z H3 ⟨L,y,o4,M,C,zs,rfl,ad,hC,sd,nd⟩;rw[bt,bV] at nd;have g:Good ts:=xu a3 nd;have bL:aw H3 l ts:=Paired.imp' (λ_ _ ⟨d,B,D⟩=>⟨d,B,ad _ _ D⟩) tr;refine⟨_,rfl,b,l,ts,rfl,ad _ _ O,bL,a4,λr cs H4 bw R y4 aM b5=>?_⟩;have al:=ad.trans R;refine⟨r,rfl,⟨_,SqL.of y4⟩,dh (K:=[]) (a:=r) (xs:=nV cs) (λi Z H'=>(∃o6,Z=[some (V.ref b),L,y,some (.ref C),o4,M,o6])/\Same H4 H'/\∀c∈cs.take i,One (En ts) c)
  ⟨⟨none,rfl⟩,λ_ _ z=>z,by simp⟩ (λi Z H' _ ⟨_,e,_⟩=>SqL.of (e _ _ y4)) ?_ ?_⟩
 .rintro i x Z H5 hi ⟨⟨o6,rfl⟩,N,ap⟩;rw[nV,aY] at hi;obtain⟨c,Y,rfl⟩:=bW.mp hi;have bi:Co ts c:=sy.mp ((aM.2 c).mp (a8 Y));have et:cs.take (i+1)=cs.take i++[c]:=by rw[ba,Y];rfl
  have S:=al.trans N;have bR:aw H5 l ts:=Paired.imp' (λ_ _ ⟨d,B,D⟩=>⟨d,B,S _ _ D⟩) tr;refine⟨_,rfl,_,rfl,b,l,ts,c,rfl,S _ _ O,bR,a4,g,λrf gs fs H6 b6 I y6 lp fans b7=>?_⟩;have lg:=aF lp;have bl:fs≠[]:=λz=>by
   obtain⟨p',q',h⟩:=bi;obtain⟨F,hF,_⟩:=fans.all p' ⟨q',h⟩;rw[z] at hF;cases hF
  have bm:=Fm g.sk fans bl;have b8:1<=fs.length:=by cases fs with
   |nil=>exact (bl rfl).elim
   |cons _ _=>simp
  refine⟨rf,_,rfl,.inl (SqL.of y6),_,_,rfl,rfl,_,rfl,ite2 (λv=>?_) λv=>?_⟩
  .have v:(1:Int)<(gs.length:Int):=NH v;refine⟨_,rfl,lit2,λu H7 g7 s7 y7=>q1 (.round c) u H7 ⟨hle,ts,rfl,nd,bi,λz=>by have:=bm.mp z;lia,λc' aS b9=>ap c' ?_⟩ ((S.trans I).trans s7) y7⟩;obtain⟨j,X⟩:=fN ((aM.2 c').mpr (sy.mpr aS));have bS:=(aG.mp X).1;have b0:=(aG.mp Y).1;have a2:j<i:=by
    refine nh λz=>?_;by_cases a2:j=i
    .subst a2;rw[Y] at X;cases X;lia
    have:=tR.mp aM.1 i j b0 bS (by lia);rw[(aG.mp Y).2,(aG.mp X).2] at this;lia
   exact a8 (by rw[pZ,ND a2];exact X)
  refine⟨⟨_,rfl⟩,N.trans I,λc' aS=>?_⟩;rw[et] at aS;rcases aW.mp aS with z|z
  .exact ap c' z
  rw[aR.mp z];refine bm.mpr ?_;have:¬(1:Int)<(gs.length:Int):=λz=>v (NF z);lia
 rintro Z H5 ⟨⟨o6,rfl⟩,N,ap⟩;rw[bM,bV] at ap;exact q0 H5 ⟨hle,ts,rfl,nd,λc Y=>ap c ((aM.2 c).mpr (sy.mpr Y))⟩ (al.trans N)
end
end K15
end
section
namespace L2
open PySem PySem.Spec PyProof.Rows
section
theorem uU:∀{cs:List Addr}{us:List Value},Vals (cs.map V.ref) us->us=cs.map Value.ref
 | [],_,r=>by cases r;rfl
 |c::cs,_,r=>by
  rw[aU] at r;cases r with
  |cons h t=>
   rw[aU,<-uU t];cases (show _=Value.ref c from h);rfl
end
end L2
end
section
namespace L2
open PySem PySem.Spec PyProof.Rows PySem.W
section
variable {prog:Program}{x D:Addr}{ox:Obj}{od:Option Obj}
theorem BJ{Q:Option Value->Shared->Prop}(X:K.In s.heap)(c:jb K D)(I:W.InstAt s.heap x ox D od)(h:Q (some (.ref D)) {s with toks:=s.toks+1}):wpAny (model prog w) A (getAttr? (.ref x) "__class__") Q E s:=by
 obtain⟨b,g,d,t,os⟩:=s;have e:=I.type (M:=model prog w);have f:=t9 (M:=model prog w) X c.ga;have L2:=t9 (M:=model prog w) X c.ha;have hf:findObj K D od "__class__" = some (.bind (.builtin "getset_descriptor.__get__") (.builtin "object.__class__")):=by obtain⟨cd,i⟩:=nB.mp c.cd;unfold findObj;rw[i,KS,c.cl,KS];simp[c.gt,c.tk]
 have j:=looks_find (M:=model prog w) X I hf;have l:=looks_mroIn (M:=model prog w) X c.mb;have n:(onTheHeap (Value.ref D)&&Value.builtin "BaseException.__getattribute__"==Value.builtin "object.__getattribute__")=false:=by
  have:(Value.builtin "BaseException.__getattribute__"==Value.builtin "object.__getattribute__")=false:=by decide +kernel
  rw[this];rfl
 unfold getAttr? getAttrBy? getAttrBy;refine aa (wpAny_mkText (aa (jx (cH (aa (e.at (aa (f.at ?_))))))));dsimp only;rw[n];show wpAny _ _ (getAttrByItsOwn _ _ _ _ _ _) _ _ _;unfold getAttrByItsOwn hookBefore;refine aa ?_;show wpAny _ _ (typeLookup (.ref D) "__getattr__") _ _ _;refine L2.at (aa (jx (cH ?_)));show wpAny _ _ (boundAndCalled _ _ _) _ _ _;unfold boundAndCalled;rw[F.excAttr_ValueError.ga.bind (.ref x)];refine aa (ag ?_);refine jz (t8 F.excAttr_ValueError.ga.plain F.entry_bexc_ga ?_);have o:builtinKind "BaseException.__getattribute__" = some .slot:=by decide +kernel
 have p:splitId "BaseException.__getattribute__" = some ("BaseException","__getattribute__"):=by decide +kernel
 have ha:=F.args_bexc_ga (.ref x) (.str "__class__" t);have q:Looks (model prog w) b (isInstance (.ref x) (.type "BaseException")) true:=e.andThen l;have r:∀(A:Around)(E:Value->Shared->Prop)(Q:Unit->Shared->Prop),Q () ⟨b,g,d,t+1,os⟩->wpAny (model prog w) A (checkBuiltinCall "BaseException.__getattribute__" ⟨[.ref x,.str "__class__" t],[]⟩) Q E ⟨b,g,d,t+1,os⟩:=by
  intro A E Q u;simp only[checkBuiltinCall,o,p];refine aa (q.at ?_)
  repeat (any_goals (first|assumption|wp_step))
 refine r _ _ _ ?_;unfold Builtin.«object.__getattribute__»;refine aa (m:=slotArgs _ _ _) (ku (a:=(.ref x,[.str "__class__" t])) rfl ?_);refine aa (ku (a:=("__class__" : Str)) rfl ?_);refine aa (e.at (aa (j.at ?_)));show wpAny _ _ (Builtin.ObjectAttr.bindTo (.builtin "getset_descriptor.__get__") (.builtin "object.__class__") (.ref x) (.ref D)) _ _ _;unfold Builtin.ObjectAttr.bindTo;dsimp only;refine aa (cH (jz (class_get (s:=⟨b,g,d,t+1,os⟩) X I c.mo ?_)));exact ag (handed_on rfl (ag h))
theorem vw(c:jb K D):W.KitX K (.ref x) (.ref D) (λh=>∃ox od,W.InstAt h x ox D od) where
 ty:=λ_ _ _ ⟨_,_,I⟩=>I.type
 it:=λ_ _ X _=>by
  obtain⟨d,a⟩:=nB.mp c.cd;unfold W.clsIn at a
  split at a
  .rename_i f d' g i b;intro m o p s' k q;unfold isType loadHead;exact aa (Av (k _ _ (X _ _ b)) (ag q))
  cases a
 ne:=λh j dd its n sl X l=>by
  obtain⟨d,a⟩:=nB.mp c.cd;refine iE.mpr λq=>?_;have e:D=j:=Value.ref.inj (beq_iff_eq.mp q);subst e;unfold W.clsIn at a
  split at a
  .rename_i f d' g i b;have z:=(X _ _ b).symm.trans l;cases z
  cases a
 ca:=λX ⟨_,_,I⟩ k=>BJ X c I k
end
end L2
end
section
namespace L2
open PySem PySem.Spec PyProof.Rows PySem.W
section
def ft(H:Hp)(x D:Addr):Prop:=H x=some (dz x (.ref D) none)\/∃d fs,H x=some (dz x (.ref D) (some d))/\H d=some (.xd fs)
theorem ft.inst{x D:Addr}(I:Inv X NI Z H s)(h:ft H x D):∃ox od,W.InstAt s.heap x ox D od:=by
 rcases h with h|⟨d,fs,h,hd⟩
 .obtain⟨⟨a,vs,h1,h2,b,c,_⟩,_⟩:=(show aV X.prog X.w H s.heap x (dz x (.ref D) none) from I.hok x _ h);refine⟨a,none,h1,h2,?_,?_⟩
  .unfold W.notCls;rw[c]
  rw[b];trivial
 obtain⟨⟨a,vs,h1,h2,b,c,_⟩,_⟩:=(show aV X.prog X.w H s.heap x (dz x (.ref D) (some d)) from I.hok x _ h);obtain⟨mA,e,g⟩:=(show aV X.prog X.w H s.heap d (.xd fs) from I.hok d _ hd);obtain⟨od,f,i⟩:=qD e;refine⟨a,some od,h1,h2,?_,?_⟩
 .unfold W.notCls;rw[c]
 rw[b];exact f
theorem ft.same{x D:Addr}(s:Same H H')(h:ft H x D):ft H' x D:=by
 rcases h with h|⟨d,fs,h,hd⟩
 .exact .inl (s _ _ h)
 exact .inr ⟨d,fs,s _ _ h,s _ _ hd⟩
def Jz(K:W.Frag)(y:V)(c:Value):List V->Hp->VK->Prop:=λxs H Q=>∃(x D:Addr)(b:Bool),xs=[.ref x,y]/\ft H x D/\jb K D/\W.kitOne K (.ref D) c=some b/\Q (.bl b) H
theorem n_{y:V}{c:Value}(a:∀u,az y u->u=c):cu X (.builtin "isinstance") (Jz X.K y c):=by intro NI s Z H xs us Q I r h;obtain⟨x,D,b,rfl,hx,d,e,q⟩:=h;obtain⟨u,f,rfl,g,i⟩:=vals2 r;cases (show u=Value.ref x from g);cases a f i;exact fQ (vw d) I.kIn (hx.inst I) e (λz=>nomatch z) λtk=>⟨.bl b,H,I.tok _,rfl,q⟩
def Hj(K:W.Frag):List V->Hp->VK->Prop:=λxs H Q=>∃(x D a:Addr)(cs:List Addr)(b:Bool),xs=[.ref x,.ref a]/\ft H x D/\jb K D/\H a=some (.tup (cs.map V.ref))/\W.kitAny K (.ref D) (cs.map Value.ref)=some b/\Q (.bl b) H
theorem uS:cu X (.builtin "isinstance") (Hj X.K):=by
 intro NI s Z H xs us Q I r h;obtain⟨x,D,a,cs,b,rfl,hx,d,f,e,q⟩:=h;obtain⟨u,g,rfl,i,j⟩:=vals2 r;cases (show u=Value.ref x from i);cases (show g=Value.ref a from j);obtain⟨its,l,⟨o,m,c1,n,c⟩,_⟩:=I.tuple (SqT.of f);have p:=uU l;subst p;have v:s.heap.get? a=some ⟨.type "tuple",o.dict,.seq (cs.map Value.ref).toArray n,o.slots⟩:=by rw[m];cases o;simp only at c1 c;subst c1 c;rfl
 exact W.kia_tup (vw d) I.kIn (hx.inst I) v e (λz=>nomatch z) λtk=>⟨.bl b,H,I.tok _,rfl,q⟩
end
end L2
end
section
namespace L2
open PySem
theorem ft.but{x D L:Addr}(a:H L=some (.lst xs))(k:∀b,b≠L->H' b=H b)(h:ft H x D):ft H' x D:=by
 rcases h with h|⟨d,fs,h,hd⟩
 .exact .inl ((k x (bO h a (λz=>nomatch z))).trans h)
 exact .inr ⟨d,fs,(k x (bO h a (λz=>nomatch z))).trans h,(k d (bO hd a (λz=>nomatch z))).trans hd⟩
end L2
namespace K15
open PySem L2 K51 K31
inductive TOut
 |text
 |read (ts:List Tri)
 |fl (f:Flt)
def TV(H:Hp)(a:Addr):TOut->Prop
 |.text=>H a=some (.tup [.str "text"])
 |.read ts=>∃r b us ws,H a=some (.tup [.str "read",.ref r])/\H r=some (.lst b)/\aw H b us/\us.Perm ws/\Paired Bg ts ws/\Srt us
 |.fl f=>eD H a f
structure mZ(K:W.Frag)(D S nt cm cn:Addr)(gs tw:List Addr)(i:Nat):Prop where
 xc:jb K D
 cls:∃bm,clsIn K D=some bm/\(Value.ref D::bm).contains (.ref S)=true
 k0:W.kitOne K (.ref D) (.ref nt)=some (i==0)
 k1:W.kitOne K (.ref D) (.ref cm)=some (i==1)
 k2:W.kitOne K (.ref D) (.ref cn)=some (i==2)
 val:W.kitOne K (.ref D) (.type "ValueError")=some true
 odd:W.kitAny K (.ref D) (gs.map Value.ref)=some false
 two:W.kitAny K (.ref D) (tw.map Value.ref)=some false
def rP(K:W.Frag):Sp:=λvs H Q _=>∃v,vs=[v]/\
 ((∃ty,cD K H v ty/\W.kitOne K ty (.type "str")=some false)/\(∀a H',Sm H H'->TV H' a .text->Q (.ref a) H') \/
  ∃l,v=.str (txt l)/\Rdb l/\(spl [59,32] l).length<=300/\(none∈rdT l->∀a H',Sm H H'->TV H' a .text->Q (.ref a) H')/\∀ts:List Tri,rdT l=ts.map some->
   (∀(us:List Tri) a H',ts.map dM=us.map some->dQ (ts.map dM) none->Sm H H'->TV H' a (.read us)->Q (.ref a) H')/\∀fl a H',dQ (ts.map dM) (some fl)->Sm H H'->TV H' a (.fl fl)->Q (.ref a) H')
theorem eD.sm{a:Addr}(s:Sm H H'):∀{fl:Flt},eD H a fl->eD H' a fl
 |.many,h=>s.keep h (λz=>z)
 |.triple _,h=>s.keep h (λz=>z)
 |.side _ _ _,⟨u,h1,h2⟩=>⟨u,s.keep h1 (λz=>z),s.keep h2 (λz=>z)⟩
 |.round _,h=>s.keep h (λz=>z)
theorem eD.same{a:Addr}(s:Same H H'):∀{fl:Flt},eD H a fl->eD H' a fl
 |.many,h=>s _ _ h
 |.triple _,h=>s _ _ h
 |.side _ _ _,⟨u,h1,h2⟩=>⟨u,s _ _ h1,s _ _ h2⟩
 |.round _,h=>s _ _ h
theorem A8{C f:Addr}{fl:Flt}{c:Value}{d:Option Addr}(h:Refuses C f H fl c d):c=.ref f/\d=none/\fl=.many\/c=.ref C/\∃a t,d=some a/\H a=some (.xd [("fault",.ref t)])/\eD H t fl:=by
 cases fl with
 |many=>exact .inl ⟨h.1,h.2,rfl⟩
 |triple k=>obtain⟨h1,a,h2,t,b,e⟩:=h;exact .inr ⟨h1,a,t,h2,b,e⟩
 |side k m n=>obtain⟨h1,a,h2,t,u,b,e,g⟩:=h;exact .inr ⟨h1,a,t,h2,b,u,e,g⟩
 |round k=>obtain⟨h1,a,h2,t,b,e⟩:=h;exact .inr ⟨h1,a,t,h2,b,e⟩
theorem lit4':4<sizeLine:=by show 4<sizeLine;decide
theorem lit5':5<sizeLine:=by show 5<sizeLine;decide
theorem lit4:4<=sizeLine:=by show 4<=sizeLine;decide
theorem lit6:6<=sizeLine:=by show 6<=sizeLine;decide
theorem lit9:9<=sizeLine:=by show 9<=sizeLine;decide
def knB(i:Nat):List Bool:=[i==0,i==1,i==2,true,false,false]
theorem se:∀bs:List Bool,Dts [] H (bs.map V.bl) (bs.map PyData.bool)
 | []=>.nil
 |b::bs=>.cons (.bl b) (se bs)
theorem gE{L M:Addr}{Q:VK}{b:Bool}(i j:Nat)(h:H L=some (.lst ((knB i).map V.bl)))(h':H M=some (.lst ((knB j).map V.bl)))(e:PyData.eqv (.list ((knB i).map .bool)) (.list ((knB j).map .bool))=b)(q:Q (.bl b) H):pM [] false (.ref L) (.ref M) H Q:=
 ⟨_,_,.lst (SqL.of h) (se _),.lst (SqL.of h') (se _),by simp[PyData.depth,PyData.depthAll,knB],by rw[NC (by decide),e];exact q⟩
section
theorem ip:a7 ["_law_text","_law_told_here","e","_law_kinds"] ["_law_text"] (aC kX):=by walk_at"sc"
theorem Bz{f f1 f2 Cs C p r S Y Z M g4 g5 g6 g7 g8 g9 h1 h2:Addr}{fd d1 d2:FuncData}(U:Fun K "_law_answer" "_law_answer" kX f fd)(T:cq mg)(X:SCls K Cs)
  (GR:aj P w K mg base (CX1 P w) 7 f1 d1 ["text"] (wV K Cs C p r)) (bR:Binds K d1 ["text"] []) (mR:mg "read_skin" = some (.ref f1)) (kR:W.keepIn K (.ref f1)=true)
  (GT:UseM P w K mg base Cs 1 "triangles" ["self"] (xU Cs) f2 d2)
  (mS:mg "ShapeError" = some (.ref S)) (cS:∃bm,clsIn K S=some bm/\bm.contains (.type "BaseException")=true) (mN:mg "NoSkin" = some (.ref C)) (mM:mg "TooMany" = some (.ref p)) (mT:mg "NoText" = some (.ref r))
  (m1:mg "Gone" = some (.ref Y)) (m2:mg "NoCaps" = some (.ref Z)) (m3:mg "NoCode" = some (.ref M)) (m4:mg "NoCorner" = some (.ref g4)) (m5:mg "NoDeed" = some (.ref g5)) (m6:mg "NoLetter" = some (.ref g6)) (m7:mg "NoPast" = some (.ref g7)) (m8:mg "NoSide" = some (.ref g8)) (m9:mg "NoWord" = some (.ref g9))
  (n1:mg "Spoilt" = some (.ref h1)) (n2:mg "Taken" = some (.ref h2)) (xf:fk K C "fault")
  (kT:mZ K r S r p C [Y,Z,M,g4,g5,g6,g7,g8,g9] [h1,h2] 0) (kM:mZ K p S r p C [Y,Z,M,g4,g5,g6,g7,g8,g9] [h1,h2] 1) (kN:mZ K C S r p C [Y,Z,M,g4,g5,g6,g7,g8,g9] [h1,h2] 2) :
  aj P w K mg base CX0 9 f fd ["_law_text"] (rP K):=by
 refine U.ok ip (by rintro _ _ _ _ ⟨_,rfl,_⟩;rfl) λNJ A outer s H vs Q E hr h=>?_
 obtain⟨v,rfl,h⟩:=h;obtain⟨bm,aM,aS⟩:=cS;have a0:=hr.mono (show 7<=8 by decide);have a1:=hr.mono (show 1<=8 by decide);refine⟨_,af (sx 1 ip.nd (aO (pa1 bB)))
  (af (Hl (i:=2) ⟨rfl,rfl⟩ rfl ip.nd rfl rfl rfl mS aM aS
   (λNI xe E hp hl=>ai (sx 1 ip.nd (aO (ae bB (pa1 (Dz (iX GR a0 rfl mR kR bR .nil hp (pa1 (pv 0))) X.cl GT.m GT.g a1 GT.b .nil pass0))))))
   (λx=>af (sx 3 ip.nd (bF (ae (bH (n_ (y:=.ref r) (c:=.ref r) (λ_ e=>e)) (by rfl) T.isi eW (ae (pv 2) (pa1 (dI (v:=.ref r) rfl mT rfl)))) (ae (bH (n_ (y:=.ref p) (c:=.ref p) (λ_ e=>e)) (by rfl) T.isi eW (ae (pv 2) (pa1 (dI (v:=.ref p) rfl mM rfl)))) (ae (bH (n_ (y:=.ref C) (c:=.ref C) (λ_ e=>e)) (by rfl) T.isi eW (ae (pv 2) (pa1 (dI (v:=.ref C) rfl mN rfl)))) (pa1 (bH (n_ (y:=.ty "ValueError") (c:=.type "ValueError") (λ_ e=>e)) (by rfl) T.isi eW (ae (pv 2) (pa1 (ig (v:=.ty "ValueError") rfl T.ve rfl rfl))))))))))
    (af (cZ (cA dD eX eY dP (pv 3) (pa1 (bH uS (by rfl) T.isi eW (ae (pv 2) (pa1 (aO (ae (dI (v:=.ref Y) rfl m1 rfl) (ae (dI (v:=.ref Z) rfl m2 rfl) (ae (dI (v:=.ref M) rfl m3 rfl) (ae (dI (v:=.ref g4) rfl m4 rfl) (ae (dI (v:=.ref g5) rfl m5 rfl) (ae (dI (v:=.ref g6) rfl m6 rfl) (ae (dI (v:=.ref g7) rfl m7 rfl) (ae (dI (v:=.ref g8) rfl m8 rfl) (pa1 (dI (v:=.ref g9) rfl m9 rfl)))))))))))))))))
    (af (cZ (cA dD eX eY dP (pv 3) (pa1 (bH uS (by rfl) T.isi eW (ae (pv 2) (pa1 (aO (ae (dI (v:=.ref h1) rfl n1 rfl) (pa1 (dI (v:=.ref h2) rfl n2 rfl))))))))))
    (af (bo (a6 (mn hr.units) (pv 3) (bF (ae cB (ae cB (ae cB (ae cB (ae cB (pa1 cB))))))) (nomark _)) (ai (sx 1 ip.nd (aO (pa1 bB)))) bj)
    (af (bo (a6 (mn hr.units) (pv 3) (bF (ae cB (ae cB (ae cB (ae cB (ae cB (pa1 cB))))))) (nomark _)) (ai (sx 1 ip.nd (aO (pa1 bB)))) bj)
    (ai (bo (a6 (mn hr.units) (pv 3) (bF (ae cB (ae cB (ae cB (ae cB (ae cB (pa1 cB))))))) (nomark _)) (ai (sx 1 ip.nd (Fg (pv 2) rfl))) bj))))))))
  (ai (aN (pv 1)))),?_⟩
 refine⟨lit1,λt0 H1 g0 s1 y1=>?_⟩;refine⟨λcls d H'=>Sm H1 H'/\(cls=.ref r/\d=none/\(∀a H2,Sm H H2->TV H2 a .text->Q (.ref a) H2)\/∃fl,Refuses C p H' fl cls d/\∀a H2,Sm H H2->TV H2 a (.fl fl)->Q (.ref a) H2),?_,?_⟩
 .rcases h with ⟨⟨ty,ht,hk⟩,qE⟩|⟨l,rfl,rb,hm,qN,qT⟩
  .exact⟨_,rfl,v,rfl,.inl ⟨⟨ty,cD.same s1 ht,hk⟩,λH' s=>⟨Sm.of s,.inl ⟨rfl,rfl,qE⟩⟩⟩⟩
  refine⟨_,rfl,_,rfl,.inr ⟨l,rfl,rb,hm,λe H' s=>⟨Sm.of s,.inl ⟨rfl,rfl,qN e⟩⟩,λts e=>⟨λus x H' I fi sm ord=>?_,λfl c d H' fi sm rf=>⟨sm,.inr ⟨fl,rf,λa H2=>(qT ts e).2 fl a H2 fi⟩⟩⟩⟩⟩;obtain⟨dx,O,R,D,S',vo,bw,bx,hx,_⟩:=id ord;refine⟨x,dx,_,rfl,hx,rfl,x,us,rfl,ord,λl' vo a2 ws H2 hl s2 y2 tr pm bg a3=>⟨lit2,λt H3 M s3 y3=>⟨_,rfl,?_⟩⟩⟩;exact (qT ts e).1 us t H3 I fi ((Sm.of s1).trans (sm.trans (Sm.of (s2.trans s3)))) ⟨l',vo,a2,ws,y3,s3 _ _ y2,tr.same s3,pm,bg,a3⟩
 rintro cls d H2 ⟨sm,hh⟩;obtain⟨D,i,rfl,kn,hD⟩:∃D i,cls=.ref D/\mZ K D S r p C [Y,Z,M,g4,g5,g6,g7,g8,g9] [h1,h2] i/\(i=0/\d=none/\(∀a H2,Sm H H2->TV H2 a .text->Q (.ref a) H2)\/i=1/\d=none/\(∀a H2,Sm H H2->TV H2 a (.fl .many)->Q (.ref a) H2)\/i=2/\D=C/\∃N t fl,d=some N/\H2 N=some (.xd [("fault",.ref t)])/\eD H2 t fl/\∀a H2,Sm H H2->TV H2 a (.fl fl)->Q (.ref a) H2):=by
  rcases hh with ⟨e1,I,e3⟩|⟨fl,rf,q⟩
  .exact⟨r,0,e1,kT,.inl ⟨rfl,I,e3⟩⟩
  rcases A8 rf with ⟨e1,I,rfl⟩|⟨e1,N,t,I,e3,e4⟩
  .exact⟨p,1,e1,kM,.inr (.inl ⟨rfl,I,q⟩)⟩
  exact⟨C,2,e1,kN,.inr (.inr ⟨rfl,rfl,N,t,fl,I,e3,e4,q⟩)⟩
 obtain⟨xc,⟨a4,a5,bb⟩,k0,k1,k2,val,odd,two⟩:=kn;refine⟨D,a4,rfl,a5,bb,λx hx=>?_⟩;have s2:=bQ (o:=dz x (.ref D) d) hx;have ha:ft (upd H2 x (dz x (.ref D) d)) x D:=by
  rcases hD with ⟨_,rfl,_⟩|⟨_,rfl,_⟩|⟨_,_,N,t,fl,rfl,e,_⟩
  .exact .inl aP
  .exact .inl aP
  exact .inr ⟨N,_,aP,s2 _ _ e⟩
 have bd:upd H2 x (dz x (.ref D) d) x=some (dz x (.ref D) d):=aP;generalize upd H2 x (dz x (.ref D) d)=H3 at *;have be:Sm H H3:=((Sm.of s1).trans sm).trans (Sm.of s2);refine⟨_,rfl,x,D,_,rfl,ha,xc,k0,_,rfl,x,D,_,rfl,ha,xc,k1,_,rfl,x,D,_,rfl,ha,xc,k2,_,rfl,x,D,_,rfl,ha,xc,val,lit4,λL H4 ap s4 y4=>?_⟩;have am:=ha.same s4;refine⟨_,rfl,.inl ⟨rfl,_,SqL.of y4⟩,_,rfl,lit9,λtp H5 bi s5 y5=>⟨x,D,tp,[Y,Z,M,g4,g5,g6,g7,g8,g9],false,rfl,am.same s5,xc,y5,odd,L,_,_,rfl,rfl,s5 _ _ y4,lit4',λH6 r6 y6=>?_⟩⟩;have au:=(am.same s5).but (s5 _ _ y4) r6;refine⟨_,rfl,.inl ⟨rfl,_,SqL.of y6⟩,_,rfl,lit2,λbn H7 bt s7 y7=>⟨x,D,bn,[h1,h2],false,rfl,au.same s7,xc,y7,two,L,_,_,rfl,rfl,s7 _ _ y6,lit5',λH8 r8 z=>?_⟩⟩;have bL:∀b o,H3 b=some o->H8 b=some o:=λb o e=>by
  have n:b≠L:=aq e ap;exact (r8 b n).trans (s7 _ _ ((r6 b n).trans (s5 _ _ (s4 _ _ e))))
 have an:Sm H H8:=be.trans (Sm.of bL);clear y4 y5 y6 y7 s4 s5 s7 r6 r8 au am ap bi bt;have z:H8 L=some (.lst ((knB i).map V.bl)):=z;rcases hD with ⟨rfl,rfl,qq⟩|⟨rfl,rfl,qq⟩|⟨rfl,rfl,N,t,fl,rfl,e1,I,qq⟩
 .exact⟨_,rfl,lit6,λM0 K0 _ j ab=>gE 0 0 (j _ _ z) ab rfl ⟨_,rfl,aT ⟨lit1,λt1 Ht gt st yt=>⟨_,rfl,lit6,λM1 K1 _ u ad=>gE 0 1 (u _ _ (st _ _ (j _ _ z))) ad rfl ⟨_,rfl,aH ⟨_,rfl,lit6,λM2 K2 _ B al=>gE 0 2 (B _ _ (u _ _ (st _ _ (j _ _ z)))) al rfl ⟨_,rfl,aH ⟨_,rfl,qq t1 _ (an.trans (Sm.of (((j.trans st).trans u).trans B))) (B _ _ (u _ _ yt))⟩⟩⟩⟩⟩⟩⟩⟩
 .exact⟨_,rfl,lit6,λM0 K0 _ j ab=>gE 1 0 (j _ _ z) ab rfl ⟨_,rfl,aH ⟨_,rfl,lit6,λM1 K1 _ u ad=>gE 1 1 (u _ _ (j _ _ z)) ad rfl ⟨_,rfl,aT ⟨lit1,λt1 Ht gt st yt=>⟨_,rfl,lit6,λM2 K2 _ B al=>gE 1 2 (B _ _ (st _ _ (u _ _ (j _ _ z)))) al rfl ⟨_,rfl,aH ⟨_,rfl,qq t1 _ (an.trans (Sm.of (((j.trans u).trans st).trans B))) (B _ _ yt)⟩⟩⟩⟩⟩⟩⟩⟩
 refine⟨_,rfl,lit6,λM0 K0 _ j ab=>gE 2 0 (j _ _ z) ab rfl ⟨_,rfl,aH ⟨_,rfl,lit6,λM1 K1 _ u ad=>gE 2 1 (u _ _ (j _ _ z)) ad rfl ⟨_,rfl,aH ⟨_,rfl,lit6,λM2 K2 _ B al=>gE 2 2 (B _ _ (u _ _ (j _ _ z))) al rfl ⟨_,rfl,?_⟩⟩⟩⟩⟩⟩;have sA:=(j.trans u).trans B;exact aT ⟨_,rfl,x,D,N,_,_,rfl,sA _ _ (bL _ _ bd),sA _ _ (bL _ _ (s2 _ _ e1)),xc,xf,rfl,_,rfl,qq t _ (an.trans (Sm.of sA)) ((I.same s2).same (λb o e=>sA _ _ (bL b o e)))⟩
end
def C_(vs:List V)(H:Hp)(Q:VK)(p:Addr)(q:Int×Int):Prop:=vs=[.ref p,.int 12]/\H p=some (.lst (bG q))/\bT q/\
 ∀r a ts b H',r≠p->But p H H'->H' p=some (.lst (bG b))->bT b->H' r=some (.lst a)->aw H' a ts->ts.length<=20->Good ts->(∀c,Co ts c->One (En ts) c)->Q (.ref r) H'
def wX:Sp:=λvs H Q _=>Exists (Ex2 (C_ vs H Q))
section
theorem xh:a7 ["_law_pot_here","_law_most","_law_way"] ["_law_pot_here","_law_most"] (aC lX):=by walk_at"sc"
theorem DP{f f1 f2 f3 f4 f5 f6:Addr}{fd O S d3 d4 d5 d6:FuncData}(U:Fun K "_law_skin" "_law_skin" lX f fd)
  (GD:Use P w K mg base 3 "_law_digit" ["_law_pot_here","_law_base"] gj f1 O)
  (GR:Use P w K mg base 3 "_law_ring" ["_law_pot_here"] xW f2 S)
  (D:Use P w K mg base 3 "_law_split" ["_law_triples"] rm f3 d3)
  (GB:Use P w K mg base 3 "_law_beside" ["_law_one","_law_other"] vO f4 d4)
  (T:Use P w K mg base 3 "_law_grown" ["_law_pot_here","_law_most"] wY f5 d5)
  (X:Use P w K mg base 3 "_law_drawn" ["_law_pot_here","_law_most"] rA f6 d6) :
  aj P w K mg base CX0 4 f fd ["_law_pot_here","_law_most"] wX:=by
 refine U.ok xh (by rintro _ _ _ _ ⟨_,_,rfl,_⟩;rfl) λNJ A outer s H vs Q E c h=>?_
 obtain⟨p,q,rfl,hp,x,Qq⟩:=h;refine⟨_,(af (sx 2 xh.nd (uc GD c (ae (pv 0) (pa1 ah))))
  (af (bo (PW.pt (jW (a6 eA (pv 2) ah (nomark _)) (jN (a6 pG (pv 1) ah (nomark _))))) (ai (aN (uc D c (pa1 (uc GR c (pa1 (pv 0))))))) bj)
  (af (bo (a6 eA (pv 2) ah (nomark _)) (ai (aN (uc D c (pa1 (uc GB c (ae (uc T c (ae (pv 0) (pa1 (ax jH (pv 1) ah)))) (pa1 (uc X c (ae (pv 0) (pa1 (ax jH (pv 1) ah))))))))))) bj)
  (af (bo (a6 mF (pv 2) ah (nomark _)) (ai (aN (uc D c (pa1 (uc X c (ae (pv 0) (pa1 (pv 1)))))))) bj)
  (ai (aN (uc D c (pa1 (uc T c (ae (pv 0) (pa1 (pv 1)))))))))))),?_⟩
 obtain⟨O,S⟩:=cQ (q:=q) (b:=8) (by decide);refine⟨_,rfl,p,q,8,rfl,hp,x,by decide,by decide +kernel,λH1 k1 y=>?_⟩;have b1:But p H H1:=λm o n e=>(k1 m n).trans e;have end_:∀(R:Addr)(a:List V)(ts:List Tri)(I:Int×Int)(H2:Hp),But p H1 H2->H2 p=some (.lst (bG I))->bT I->H2 R=some (.lst a)->aw H2 a ts->ts.length<=20->Good ts->rm [.ref R] H2 Q E:=by intro R a ts I H2 g d i j tr B l;refine⟨R,a,ts,rfl,j,tr,B,l,λr ab ad Y M Z L l3 g3 o3=>?_⟩;exact Qq r ab ad I Y (rh Z L (M _ _ d)) (λm o n e=>M _ _ (g m o n (b1 m o n e))) (M _ _ d) i Z L (by lia) g3 o3
 refine⟨_,rfl,rfl,_,rfl,?_⟩;generalize digO q 8=u at *;by_cases h0:u=0
 .subst h0;refine aT ⟨_,rfl,_,_,rfl,rfl,_,rfl,aH ⟨_,rfl,rfl,_,rfl,aH ⟨_,rfl,_,_,rfl,rfl,_,rfl,aT ?_⟩⟩⟩;refine⟨_,rfl,_,rfl,p,_,12,rfl,y,bJ x,by decide,λR a ts v H2 C g d i j tr B l=>?_⟩;exact end_ R a ts v H2 g d i j tr (by lia) l
 rw[show decide (V.int u=V.int 0)=false from NG λz=>h0 (V.int.inj z)];refine aH (aH ⟨_,rfl,rfl,_,rfl,?_⟩);by_cases h1:u=1
 .subst h1;refine aT ?_;refine⟨_,rfl,_,rfl,_,_,rfl,rfl,⟨by decide,by decide +kernel⟩,p,_,6,rfl,y,bJ x,by decide,λR a ts v H2 C g d i j tr B l=>?_⟩;refine⟨_,rfl,_,rfl,_,_,rfl,rfl,⟨by decide,by decide +kernel⟩,p,_,6,rfl,d,i,by decide,λR3 al am q3 Y a5 N an ap au L bb aM=>?_⟩;have aS:R≠p:=λz=>by rw[z,y] at C;cases C
  refine⟨R,R3,a,al,ts,am,rfl,N _ _ aS j,lu N d tr,by lia,l,au,L,by lia,aM,λR4 a0 a1 H4 bd s4 a2 a3 be a4=>?_⟩;exact end_ R4 a0 a1 q3 H4 (λm o n e=>s4 _ _ (N m o n (g m o n e))) (s4 _ _ an) ap a2 a3 (by lia) a4
 rw[show decide (V.int u=V.int 1)=false from NG λz=>h1 (V.int.inj z)];refine aH ⟨_,rfl,_,_,rfl,rfl,_,rfl,?_⟩;show if decide (u<5)=true then _ else _
 by_cases h5:u<5
 .rw[NF h5];refine aT ?_;refine⟨_,rfl,_,rfl,p,_,12,rfl,y,bJ x,by decide,λR a ts v H2 C g d i j tr B l=>?_⟩;exact end_ R a ts v H2 g d i j tr (by lia) l
 rw[NG h5];refine aH ?_;refine⟨_,rfl,_,rfl,p,_,12,rfl,y,bJ x,by decide,λR a ts v H2 C g d i j tr B l=>?_⟩;exact end_ R a ts v H2 g d i j tr (by lia) l
end
def figs(t:Tri):List (List Nat):=[digits t.1,digits t.2.1,digits t.2.2]
def fu(t:Tri):List Nat:=inter [32] (figs t)
def skT(ts:List Tri):List Nat:=inter [59,32] (ts.map fu)
def Lo(t:Tri):Prop:=t.1<10 ^ 18/\t.2.1<10 ^ 18/\t.2.2<10 ^ 18
theorem fig18{n:Nat}(h:n<10 ^ 18):(digits n).length<=18:=kI 17 n h
theorem EB{t:Tri}(h:Lo t):(fu t).length<=56:=by show (digits t.1++[32]++(digits t.2.1++[32]++digits t.2.2)).length<=56;simp only[aL,bY];have:=fig18 h.1;have:=fig18 h.2.1;have:=fig18 h.2.2;lia
theorem CV{t:Tri}:59∉fu t:=by
 show 59∉digits t.1++[32]++(digits t.2.1++[32]++digits t.2.2);have h:∀n,59∉digits n:=λn z=>by have:=uO n _ z;revert this;decide
 simp only[aW,aR,not_or];exact⟨⟨h _,by decide⟩,⟨h _,by decide⟩,h _⟩
theorem wm{ts:List Tri}(h:∀t∈ts,Lo t):(ts.map fu).flatten.length<=56*ts.length:=by
 induction ts with
 |nil=>exact aJ _
 |cons t ts a=>
  have:=a λu b=>h u (bZ _ b);have:=EB (h t (by simp));rw[aU,gG,aL,bz];lia
theorem vy{sep:List Nat}{c:Nat}{ls:List (List Nat)}(h:c∈inter sep ls):c∈sep\/∃p∈ls,c∈p:=by
 by_cases a:c∈sep
 .exact .inl a
 exact .inr (qG a h)
theorem yR{s0:Nat}{sr:List Nat}(h:s0∉sr):∀{ls:List (List Nat)},(∀p∈ls,s0∉p)->(inter (s0::sr) ls).count s0<=ls.length
 | [],_=>aJ _
 | [l],a=>by
  show l.count s0<=1;rw[zC.mpr (a l (by simp))];exact aJ _
 |l::m::r,a=>by
  have:=yR h (ls:=m::r) λp z=>a p (bZ _ z);show (l++(s0::sr)++inter (s0::sr) (m::r)).count s0<=_;rw[jl,jl,Ks,zC.mpr (a l (by simp)),zC.mpr h];simp only[bz] at this |-;lia
theorem yS{s0:Nat}{sr:List Nat}:∀ls:List (List Nat),ls.length<=(inter (s0::sr) ls).count s0+1
 | []=>aJ _
 | [l]=>by simp
 |l::m::r=>by
  have:=yS (s0:=s0) (sr:=sr) (m::r);show _<=(l++(s0::sr)++inter (s0::sr) (m::r)).count s0+1;rw[jl,jl,Ks];simp only[bz] at this |-;lia
theorem wM(s0:Nat)(sr l:List Nat):(spl (s0::sr) l).length<=l.count s0+1:=by
 have:=yS (s0:=s0) (sr:=sr) (spl (s0::sr) l)
 rwa [nY] at this
structure Tx(i:Nat)(l:List Nat):Prop where
 a:asc l
 r:Runs (19*2 ^ i-1) l
 n:l.length<=20000+i
 c:l.count 59<=210+i
theorem Tx.sp{i:Nat}{l b:List Nat}(h:Tx i l)(s:Sp1 l b):Tx (i+1) b:=by
 refine⟨s.asc h.a,(s.runs h.r).mono ?_,?_,?_⟩
 .have:=Nat.pow_pos (n:=i) (show 0<2 by decide);rw[zV];lia
 .have:=s.len;have:=h.n;lia
 have:=s.count 59;have:=h.c;lia
theorem Tx.rdb{i:Nat}{l:List Nat}(h:Tx i l)(hi:i<=3):Rdb l/\(spl [59,32] l).length<=300:=by
 refine⟨⟨h.a,h.r.mono ?_,br h.n (by lia)⟩,br (wM 59 [32] l) ?_⟩
 .have:2 ^ i<=2 ^ 3:=p9 (by decide) hi;lia
 have:=h.c;lia
theorem F9{ts:List Tri}(h:∀t∈ts,Lo t)(i:ts.length<=201):Tx 0 (skT ts):=by
 have dl:∀n,∀c∈digits n,c<128:=λn c d=>FP (uO n c d);have g:∀t∈ts,∀p∈figs t,Runs 18 p:=λt e p a=>by
  obtain⟨h1,h2,b⟩:=h t e;simp only[figs,aK,fZ,or_false] at a;rcases a with rfl|rfl|rfl
  .exact Runs.len.mono (fig18 h1)
  .exact Runs.len.mono (fig18 h2)
  exact Runs.len.mono (fig18 b)
 refine⟨λc d=>?_,?_,?_,?_⟩
 .rcases vy d with z|⟨p,a,z⟩
  .revert z;exact (by decide:∀c∈[59,32],c<128) c
  obtain⟨t,_,rfl⟩:=ay.mp a;rcases vy z with z|⟨q,f,z⟩
  .revert z;exact (by decide:∀c∈[32],c<128) c
  simp only[figs,aK,fZ,or_false] at f;rcases f with rfl|rfl|rfl<;>exact dl _ c z
 .refine Runs.intr (by decide) (by decide) λp a=>?_;obtain⟨t,e,rfl⟩:=ay.mp a;exact Runs.intr (by decide) (by simp) (g t e)
 .have h1:=wm h;have b:=qH [59,32] (ts.map fu);rw[ao] at b;have b:(skT ts).length<=(ts.map fu).flatten.length+ts.length*2:=b;lia
 have:=yR (s0:=59) (sr:=[32]) (by decide) (ls:=ts.map fu) λp a=>by
  obtain⟨t,_,rfl⟩:=ay.mp a;exact CV
 rw[ao] at this;have this:(skT ts).count 59<=ts.length:=this;lia
theorem ID{l:List Nat}(f:Rdb l)(o:l.length<=80000)(s:l.count 59<=290):Rdb (l++[10])/\(spl [59,32] (l++[10])).length<=300/\none∈rdT (l++[10]):=by
 have g:(l++[10]).count 59=l.count 59:=by rw[jl];rfl
 refine⟨⟨λc d=>?_,Runs.sep (q:=[]) (by decide) f.r λb h _=>br h.length_le (aJ _),by rw[aL,bY];lia⟩,br (wM 59 [32] _) (by rw[g];lia),?_⟩
 .rcases aW.mp d with d|d
  .exact f.a c d
  rw[aR.mp d];decide
 unfold rdT;rw[NC (by simp)];obtain⟨p,i,j⟩:=wL (sep:=[59,32]) (c:=10) (l:=l++[10]) (by decide) (by simp);obtain⟨u,m,n⟩:=wL (sep:=[32]) (c:=10) (l:=p) (by decide) j;refine ay.mpr ⟨p,i,lH (.inr ⟨u,m,?_⟩)⟩;cases e:fig u with
 |false=>rfl
 |true=>exact absurd (jQ e 10 n) (by decide)
theorem xm{α β:Type}{F:α->β->Prop}:∀{xs:List α}{ys:List β}(k:Nat),Paired F xs ys->Paired F (xs.drop k) (ys.drop k)
 |_,_,0,h=>h
 |_,_,_+1,.nil=>.nil
 |_,_,k+1,.cons _ t=>xm k t
def BW(vs:List V)(H:Hp)(Q:VK)(p T:Addr)(q:Int×Int)(b:List V)(ts:List Tri):Prop:=vs=[.ref p,.ref T]/\H p=some (.lst (bG q))/\bT q/\H T=some (.lst b)/\T≠p/\aw H b ts/\ts.length<=200/\
 ∀r c a d H',H r=none->But p H H'->H' p=some (.lst (bG d))->bT d->H' r=some (.lst c)->aw H' c a->a.length=ts.length->(ents a).Perm (ents ts)->Q (.ref r) H'
def vN:Sp:=λvs H Q _=>Exists (Ex5 (BW vs H Q))
section
theorem jF:a7 ["_law_pot_here","_law_triples","_law_found","_law_a","_law_b","_law_c","_law_triple"] ["_law_pot_here","_law_triples"] (aC lE):=by walk_at"sc"
theorem B_{f f1:Addr}{fd d1:FuncData}(U:Fun K "_law_handed" "_law_handed" lE f fd)(T:cq mg)
  (GD:Use P w K mg base 1 "_law_digit" ["_law_pot_here","_law_base"] gj f1 d1) :
  aj P w K mg base CX0 2 f fd ["_law_pot_here","_law_triples"] vN:=by
 refine U.ok jF (by rintro _ _ _ _ ⟨_,_,_,_,_,rfl,_⟩;rfl) λNJ A outer s H vs Q E X h=>?_
 obtain⟨p,Y,q,vt,ts,rfl,hp,an,hT,ap,ht,hl,Qq⟩:=h;have hu:=dv X;refine⟨_,(af (sx 2 jF.nd (bF du))
  (af (b_ cv rfl (bI (pv 1)) (cX rfl (aX (gx 3 jF.nd) (aX (gx 4 jF.nd) (aX (gx 5 jF.nd) cR)))) (af (sx 6 jF.nd (ixx cI (bF (ae (aO (ae (pv 3) (ae (pv 4) (pa1 (pv 5))))) (ae (aO (ae (pv 4) (ae (pv 5) (pa1 (pv 3))))) (pa1 (aO (ae (pv 5) (ae (pv 3) (pa1 (pv 4))))))))) (uc GD X (ae (pv 0) (pa1 ah)))))
  (ai (cZ (cA dD tZ Ac qC (pv 2) (ae (uc GD X (ae (pv 0) (pa1 (ax cF (pln T.len (pv 2)) ah)))) (pa1 (pv 6))))))))
  (ai (aN (pv 2))))),?_⟩
 have a5:=line5000;refine⟨aJ _,λu H1 ab s1 y1=>?_⟩;have ad:p≠u:=aq hp ab;refine⟨_,rfl,Y,rfl,⟨_,SqL.of (s1 _ _ hT)⟩,dh (K:=[]) (a:=Y) (xs:=vt) (λi Z H'=>∃oa ob oc ot j g q',Z=[some (V.ref p),some (.ref Y),some (.ref u),oa,ob,oc,ot]/\But p H H'/\H' p=some (.lst (bG q'))/\bT q'/\H' u=some (.lst j)/\aw H' j g/\g.length=i/\(ents g).Perm (ents (ts.take i)))
  ⟨none,none,none,none,[],[],q,rfl,But.refl.same s1,s1 _ _ hp,an,y1,.nil,rfl,by simp[ents]⟩ (λi Z H' _ ⟨_,_,_,_,_,_,_,_,e,_⟩=>SqL.of (e _ _ ap hT)) ?_ ?_⟩
 .rintro i x Z H2 hi ⟨oa,ob,oc,ot,j,g,m,rfl,sm,C,v,D,I,L,M⟩;obtain⟨⟨a,b,c⟩,hs,t,rfl,N⟩:=cw ht hi;have N:H t=some (.tup [.int (a:Int),.int (b:Int),.int (c:Int)]):=N;have bb:i<ts.length:=(aG.mp hs).1;have au:=sm _ _ (bO N hp (by simp)) N;refine⟨t,_,rfl,SqT.of au,rfl,_,_,rfl,_,_,rfl,_,_,rfl,rfl,?_⟩;refine⟨_,rfl,_,rfl,_,rfl,lit3,λt1 H3 g1 s3 y3=>?_⟩;refine⟨_,rfl,_,rfl,_,rfl,lit3,λt2 H4 g2 s4 y4=>?_⟩;refine⟨_,rfl,_,rfl,_,rfl,lit3,λt3 H5 g3 O y5=>?_⟩;refine⟨lit3,λl H6 g4 R y6=>?_⟩;have y:=((s3.trans s4).trans O).trans R;have am:=y _ _ C;have z1:=((s4.trans O).trans R) _ _ y3;have z2:=(O.trans R) _ _ y4;have z3:=R _ _ y5;refine⟨_,rfl,p,m,3,rfl,am,v,by decide,by decide +kernel,λH7 S y7=>?_⟩;have nl:l≠p:=λz=>by rw[z,((s3.trans s4).trans O) _ _ C] at g4;cases g4
  have tn:∀{r:Addr}{xs:List V},H6 r=some (.tup xs)->r≠p:=λe=>bO e am (by simp);obtain⟨bd,be⟩:=cQ (q:=m) (b:=3) (by decide);obtain⟨tr,x,aM,aS,a0⟩:∃(tr:Addr)(x:Tri),atI [V.ref t1,.ref t2,.ref t3] (digO m 3)=some (.ref tr)/\H6 tr=some (.tup [.int (x.1:Int),.int (x.2.1:Int),.int (x.2.2:Int)])/\(ents [x]).Perm (ents [(a,b,c)]):=by
   obtain h|h|h:digO m 3=(0:Nat)\/digO m 3=(1:Nat)\/digO m 3=(2:Nat):=by lia
   .rw[h];exact⟨t1,(a,b,c),c9 rfl,z1,Km _⟩
   .rw[h];refine⟨t2,(b,c,a),c9 rfl,z2,?_⟩;show List.Perm [((b,c),a),((c,a),b),((a,b),c)] [((a,b),c),((b,c),a),((c,a),b)];exact gO (l₁:=[((b,c),a),((c,a),b)]) (l₂:=[((a,b),c)])
   rw[h];refine⟨t3,(c,a,b),c9 rfl,z3,?_⟩;show List.Perm [((c,a),b),((a,b),c),((b,c),a)] [((a,b),c),((b,c),a),((c,a),b)];exact gO (l₁:=[((c,a),b)]) (l₂:=[((a,b),c),((b,c),a)])
  refine⟨l,_,_,_,rfl,rfl,SqL.of ((S l nl).trans y6),aM,?_⟩;have al:=(S u (aB ad)).trans (y _ _ D);have a1:j.length=i:=by rw[aF I];exact L
  refine⟨_,rfl,.inl ⟨rfl,_,SqL.of al⟩,_,rfl,_,rfl,u,j,rfl,.inl (SqL.of al),_,_,rfl,rfl,p,nxt m 3,_,rfl,y7,bJ v,by lia,by rw[a1];exact lg20 (by lia),λH8 k8 y8=>?_⟩;obtain⟨a2,a3⟩:=cQ (q:=nxt m 3) (b:=(j.length:Int)+1) (by lia);obtain⟨d,hd⟩:∃d:Nat,digO (nxt m 3) ((j.length:Int)+1)=(d:Int):=⟨_,(dW a2).symm⟩;rw[hd] at a3 |-;have a4:=(k8 u (aB ad)).trans al;refine⟨_,rfl,u,j,d,_,rfl,rfl,a4,by lia,by lia,λH9 k9 y9=>?_⟩;have keep:∀{r:Addr}{xs:List V},H6 r=some (.tup xs)->H9 r=some (.tup xs):=λe=>(k9 _ (bO e (y _ _ D) (by simp))).trans ((k8 _ (tn e)).trans ((S _ (tn e)).trans e));refine⟨_,_,_,_,_,g.take d++x::g.drop d,_,rfl,λr o n e=>?_,(k9 p ad).trans y8,bJ (bJ v),y9,?_,?_,?_⟩
  .have B:=y _ _ (sm _ _ n e);exact (k9 r (aq e ab)).trans ((k8 r n).trans ((S r n).trans B))
  .have h1:aw H9 j g:=Paired.imp' (λ_ _ ⟨r,e1,B⟩=>⟨r,e1,keep (y _ _ B)⟩) I;exact cJ (xl d h1) (.cons ⟨tr,rfl,keep aS⟩ (xm d h1))
  .rw[aL,bz,bf,eV];lia
  have e1:ts.take (i+1)=ts.take i++[(a,b,c)]:=by rw[ba,hs];rfl
  rw[e1,fe,fe];have B:ents (x::g.drop d)=ents [x]++ents (g.drop d):=fe [x] _;rw[B];have e3:(ents g)=ents (g.take d)++ents (g.drop d):=by rw[<-fe,f_]
  refine List.Perm.trans ?_ (M.append a0);rw[e3,dX];exact Kl _ gO
 rintro Z H2 ⟨oa,ob,oc,ot,j,g,m,rfl,sm,C,v,D,I,L,M⟩;rw[aF ht,bV] at M;rw[aF ht] at L;exact⟨_,rfl,Qq u j g m H2 ab sm C v D I L M⟩
end
def Gx(K:W.Frag)(vs:List V)(H:Hp)(Q:VK)(a:Addr)(ns:List Int):Prop:=vs=[.ref a]/\SqL [] H a (ns.map V.int)/\ns.length<=63/\∀H',Q (.bl true) H'
def mx(K:W.Frag):Sp:=λvs H Q _=>Exists (Ex2 (Gx K vs H Q))
def rStr:List V->Hp->VK->Prop:=λxs H Q=>∃i:Int,xs=[.int i]/\i.natAbs.log2<1920/\Q (.str (toString i:String)) H
def teJ:TE:=tBM [] "str" (yi []) (tC (.str (Str.ofString " "))) (dJ (iw (mW [] (ck 0)) (cK 0) (λ_ H Q=>Q true H) (tCB rStr (dJ (ck 0) eB)) [none]) eB)
def teM:TE:=tCB (λxs H Q=>∃p ys,xs=[.ref p]/\((SqL [] H p ys/\∀l,H l=none->Q (.ref l) (upd H l (.tup ys)))\/(SqT [] H p ys/\Q (.ref p) H))) (dJ (iw (mW [] (ck 0)) (cK 0) (λ_ H Q=>Q true H) (tOp (rI (λ_ j=>0<j) λi j=>.int (i%j)) (ck 0) (tOp (rI CPow λi j=>.int (i ^ j.toNat)) (tC (.int 10)) (tC (.int 18)))) [none]) eB)
def md(t:Tri):Tri:=(t.1%10 ^ 18,t.2.1%10 ^ 18,t.2.2%10 ^ 18)
theorem wH{t0:Addr}(h:H t0=some (.tup [.int 0,.int 1,.int 2])):∀n,aw H (List.replicate n [V.ref t0]).flatten (List.replicate n (0,1,2))
 |0=>.nil
 |n+1=>by
  rw[gP,gG,gP];exact .cons ⟨t0,rfl,h⟩ (wH h n)
theorem lit5:5<=sizeLine:=by show 5<=sizeLine;decide
theorem oy:∀{ts us:List Tri},ts.map dM=us.map some->us=ts/\∀t∈ts,t.1≠t.2.1/\t.2.1≠t.2.2/\t.2.2≠t.1
 | [],[],_=>⟨rfl,by simp⟩
 | [],_::_,h=>by cases h
 |_::_,[],h=>by cases h
 |t::ts,u::us,h=>by
  rw[aU,aU] at h;obtain⟨h1,h2⟩:=List.cons.inj h;obtain⟨e,b⟩:=oy h2;have a:=uY h1;refine⟨by rw[a,e],λx hx=>?_⟩;rcases aK.mp hx with rfl|hx
  .rw[<-a];exact (qu h1).2
  exact b x hx
theorem vQ{ts us:List Tri}(h:ts.map some=us.map some):ts=us:=List.map_inj_right (λ_ _ e=>cN e) |>.mp h
theorem EZ(l:List Nat):(rdT l).length<=(spl [59,32] l).length:=by
 unfold rdT
 split
 .exact aJ _
 rw[ao];exact ak _
def fB(u:Tri):PyData:=.tuple [.int (u.1:Int),.int (u.2.1:Int),.int (u.2.2:Int)]
theorem xQ{us:List Tri}(h:aw H vs us):Dts [] H vs (us.map fB):=by
 induction h with
 |nil=>exact .nil
 |cons q _ b=>
  obtain⟨a,rfl,ha⟩:=q;exact .cons (.tup (SqT.of ha) (.cons (.int _) (.cons (.int _) (.cons (.int _) .nil)))) b
theorem BR(us:List Tri):PyData.depthAll (us.map fB)<=1:=by
 induction us with
 |nil=>exact aJ _
 |cons u us a=>
  rw[aU];show max (fB u).depth _<=1;have:(fB u).depth=1:=by simp[fB,PyData.depth,PyData.depthAll]
  lia
theorem Ga(us:List Tri):eR (us.map fB)=true:=by
 induction us with
 |nil=>rfl
 |cons u us a=>
  rw[aU];show (fD (fB u)&&eR (us.map fB))=true;rw[a];rfl
theorem FU{t u v:Tri}(f:t.1≠t.2.1/\t.2.1≠t.2.2/\t.2.2≠t.1)(h1:Bg t u)(h2:Bg t v):u=v:=by obtain⟨a,b,c⟩:=t;obtain⟨g,h,i⟩:=f;obtain⟨d,j,p2⟩:=h1;obtain⟨e,l,m⟩:=h2;simp only at g h i d e;rcases d with rfl|rfl|rfl<;>rcases e with rfl|rfl|rfl<;>simp only at j p2 l m<;>first|rfl|(exfalso;lia)
theorem wu:∀{ts us vs:List Tri},(∀t∈ts,t.1≠t.2.1/\t.2.1≠t.2.2/\t.2.2≠t.1)->Paired Bg ts us->Paired Bg ts vs->us=vs
 |_,_,_,_,.nil,.nil=>rfl
 |_,_,_,a,.cons h1 b,.cons h2 c=>by
  rw[FU (a _ iH) h1 h2,wu (λt d=>a t (bZ _ d)) b c]
theorem lex3{a b:Tri}(h1:HT.lexLt [(b.1:Int),(b.2.1:Int),(b.2.2:Int)] [(a.1:Int),(a.2.1:Int),(a.2.2:Int)]=false)(h2:HT.lexLt [(a.1:Int),(a.2.1:Int),(a.2.2:Int)] [(b.1:Int),(b.2.1:Int),(b.2.2:Int)]=false):a=b:=by
 obtain⟨c,d,e⟩:=a;obtain⟨f,g,h⟩:=b;simp[HT.lexLt] at h1 h2;have i:c=f:=by split at h1<;>split at h2<;>lia
 subst i;rw[ND rfl] at h1 h2;have j:d=g:=by split at h1<;>split at h2<;>lia
 subst j;rw[ND rfl] at h1 h2;have l:e=h:=by lia
 rw[l]
theorem C3{us vs:List Tri}(p:us.Perm vs)(h1:Srt us)(h2:Srt vs):us=vs:=List.Perm.eq_of_pairwise (λa b _ _ x y=>lex3 x y) h1 h2 p
theorem Ii{a b:Addr}:∀{fl:Flt},eD H a fl->eD H b fl->∃D,Dt [] H (.ref a) D/\Dt [] H (.ref b) D/\fD D=true/\D.depth<=60
 |.many,h,k=>⟨_,.tup (SqT.of h) (.cons (.str "many" (by decide +kernel)) .nil),.tup (SqT.of k) (.cons (.str "many" (by decide +kernel)) .nil),rfl,by simp[PyData.depth,PyData.depthAll]⟩
 |.triple n,h,k=>⟨_,.tup (SqT.of h) (.cons (.str "triple" (by decide +kernel)) (.cons (.int _) .nil)),.tup (SqT.of k) (.cons (.str "triple" (by decide +kernel)) (.cons (.int _) .nil)),rfl,by simp[PyData.depth,PyData.depthAll]⟩
 |.side _ _ _,⟨_,h,h'⟩,⟨_,k,c⟩=>⟨_,.tup (SqT.of h) (.cons (.str "side" (by decide +kernel)) (.cons (.int _) (.cons (.tup (SqT.of h') (.cons (.int _) (.cons (.int _) .nil))) .nil))),.tup (SqT.of k) (.cons (.str "side" (by decide +kernel)) (.cons (.int _) (.cons (.tup (SqT.of c) (.cons (.int _) (.cons (.int _) .nil))) .nil))),rfl,by simp[PyData.depth,PyData.depthAll]⟩
 |.round _,h,k=>⟨_,.tup (SqT.of h) (.cons (.str "round" (by decide +kernel)) (.cons (.int _) .nil)),.tup (SqT.of k) (.cons (.str "round" (by decide +kernel)) (.cons (.int _) .nil)),rfl,by simp[PyData.depth,PyData.depthAll]⟩
theorem wF{a b:Addr}:∀{o:TOut},(∀ts,o=.read ts->∀t∈ts,t.1≠t.2.1/\t.2.1≠t.2.2/\t.2.2≠t.1)->TV H a o->TV H b o->∃D,Dt [] H (.ref a) D/\Dt [] H (.ref b) D/\fD D=true/\D.depth<=60
 |.text,_,h,k=>⟨_,.tup (SqT.of h) (.cons (.str "text" (by decide +kernel)) .nil),.tup (SqT.of k) (.cons (.str "text" (by decide +kernel)) .nil),rfl,by simp[PyData.depth,PyData.depthAll]⟩
 |.read ts,c,⟨r,p,us,ws,h1,h2,d,e,g,i⟩,⟨q,s,u,v,k1,k2,k3,j,k5,l⟩=>by
  have m:=wu (c ts rfl) g k5;subst m;have n:=C3 (e.trans j.symm) i l;subst n;refine⟨.tuple [.str "read",.list (us.map fB)],.tup (SqT.of h1) (.cons (.str "read" (by decide +kernel)) (.cons (.lst (SqL.of h2) (xQ d)) .nil)),.tup (SqT.of k1) (.cons (.str "read" (by decide +kernel)) (.cons (.lst (SqL.of k2) (xQ k3)) .nil)),?_,?_⟩
  .show (true&&(eR (us.map fB)&&true))=true;rw[Ga];rfl
  have:=BR us;show max 0 (max (PyData.depthAll (us.map fB)+1) 0)+1<=60;lia
 |.fl f,_,h,k=>Ii h k
theorem TV.sm{a:Addr}(s:Sm H H'):∀{o:TOut},TV H a o->TV H' a o
 |.text,h=>s.keep h (λz=>z)
 |.read _,⟨r,b,us,ws,h1,h2,c,d,e,f⟩=>⟨r,b,us,ws,s.keep h1 (λz=>z),s.keep h2 (λz=>z),Paired.imp' (λ_ _ ⟨g,i,j⟩=>⟨g,i,s.keep j (λz=>z)⟩) c,d,e,f⟩
 |.fl _,h=>eD.sm s h
theorem qV{d:PyData}(h:fD d=true):PyData.eqv d d=true:=(xy d d h h).mpr rfl
theorem orNe{u:TT}{Q:Bool->Hp->Prop}{d:PyData}(h:fD d=true)(h2:u Z H Q):mJ u Z Q (if true=true then !PyData.eqv d d else PyData.eqv d d) H:=by rw[ND rfl,qV h];exact aH h2
theorem ifNe{t u:TS}{D:Ends}{d:PyData}(h:fD d=true)(h2:u D Z H):mK t u D Z (if true=true then !PyData.eqv d d else PyData.eqv d d) H:=by rw[ND rfl,qV h];exact aH h2
abbrev txD:PyData:=.tuple [.str "text"]
theorem qY:∀{ys:List V},(∀y∈ys,∃a,y=.ref a/\H a=some (.tup [.str "text"]))->Dts [] H ys (List.replicate ys.length txD)
 | [],_=>.nil
 |y::ys,h=>by
  obtain⟨a,rfl,e⟩:=h y iH;exact .cons (.tup (SqT.of e) (.cons (.str "text" (by decide +kernel)) .nil)) (qY λz b=>h z (bZ _ b))
theorem JJ(t:Tri):Lo (md t):=⟨jq _ (by decide),jq _ (by decide),jq _ (by decide)⟩
theorem FS{ts a:List Tri}(h:(ents a).Perm (ents ts))(c:Nat):Co a c↔Co ts c:=⟨λ⟨p,q,e⟩=>⟨p,q,h.mem_iff.mp e⟩,λ⟨p,q,e⟩=>⟨p,q,h.mem_iff.mpr e⟩⟩
theorem i6{a p:Addr}(c:a≠p)(h:SqL [] H a xs)(k:∀b o,b≠p->H b=some o->H' b=some o):SqL [] H' a xs:=by
 rcases h with (e|⟨o,e⟩)|h
 .exact .inl (.inl (k _ _ c e))
 .exact .inl (.inr ⟨o,k _ _ c e⟩)
 exact .inr h
structure SE(X:Cx)(e:Expr)(t:TE):Prop where
 out:PE X e t
structure SA(X:Cx)(es:List Expr)(t:TA):Prop where
 out:PA X es t
structure SS(X:Cx)(st:Stmt)(t:TS):Prop where
 out:PS X st t
structure SSs(X:Cx)(ss:List Stmt)(t:TS):Prop where
 out:PSs X ss t
section
variable {e a b:Expr}{es:List Expr}{te ta tb:TE}{t:TA}{pos:Pos}{st:Stmt}{rest:List Stmt}{ts us:TS}
theorem pb:SA X [] eB:=⟨du⟩
theorem fT(ha:SE X e te)(a:SA X es t)(b:starEach (e::es) X.env=(false,eval e X.env)::starEach es X.env:=by rfl):SA X (e::es) (dJ te t):=⟨ae ha.out a.out b⟩
theorem ye(h:SA X es t):SE X (.List es pos) (sN t):=⟨bF h.out⟩
theorem x_{k:Nat}(h:SA X es t):SE X (.Tuple es k pos) (sM t):=⟨aO h.out⟩
theorem oW{i:Int}{j:Nat}:SE X (.Constant (.int i) j pos) (tC (.int i)):=⟨ah⟩
theorem Jk{i:Bool}{j:Nat}:SE X (.Constant (.bool i) j pos) (tC (.bl i)):=⟨cB⟩
theorem GI{j:Nat}:SE X (.Constant .none j pos) (tC .non):=⟨jY⟩
theorem GE{x:Str}{j:Nat}:SE X (.Constant (.str x) j pos) (tC (.str x)):=⟨bB⟩
theorem eI(h1:SS X st ts)(h2:SSs X rest us):SSs X (st::rest) (pL ts us):=⟨af h1.out h2.out⟩
theorem EJ(h1:SS X st ts):SSs X [st] ts:=⟨ai h1.out⟩
theorem Gu(he:SE X e te):SS X (.Return (some e) pos) (tRet te):=⟨aN he.out⟩
theorem GJ(c:X.A.units+64<cLine)(ha:SE X a ta)(d:SE X b tb)(hm:behindInMarks .Eq b=false):SE X (.Compare a [.Eq] [b] pos) (tOp (pM [] false) ta tb):=⟨eQ (mn c) ha.out d.out hm⟩
theorem Dh{N:List Str}{fr:List (Option Nat)}{elt tg l:Expr}{ifs:List Expr}{g:TG}{tt:TT}(S:eP X N fr scope)(a:X.calm=true)(b:SE X l ta)(c:PComp X N scope tg ifs elt g tt te)(d:∀x,foldedSetIterable l X.env x=pure x):SE X (.ListComp elt [⟨tg,l,ifs,0⟩] scope pos) (iw (zi [] ta) g tt te fr):=⟨c7 S a (bI b.out) c d⟩
end
theorem FH{x qual:Str}{st:Stmt}{f:Addr}{N ps:List Str}{k:Nat}{sp:Sp}(F:Fun K x qual st f fd)(S:a7 N ps (aC st))(len:∀vs H Q E,sp vs H Q E->vs.length=ps.length)
  (b:∀(a:Value)(A:Around)(outer:List Env)(s:Shared)(H:Hp)(vs:List V)(Q:VK)(E:XK),Room k (A.deeper (PyProof.Rows.envOfC qual (aC st) s.heap.objs.size f a))->sp vs H Q E->
   ∃t,SSs (dw CX0 P w K mg base N qual (aC st) f a A outer s H E).nox (cT st) t/\t {nx:=λ_ H'=>Q .non H',rt:=Q} (start N vs) H):aj P w K mg base CX0 (k+1) f fd ps sp:=
 F.ok S len λa A outer s H vs Q E c h=>by
  obtain⟨t,h,q⟩:=b a A outer s H vs Q E c h;exact⟨t,h.out,q⟩
section
theorem er:a7 ["_law_script","_law_pot_here","_law_triples","_law_text","_law_k","_law_found","_law_due"] ["_law_script"] (aC gw):=by walk_at"sc"
theorem Hz{f f1 f2 f3 f4 f5 f6 f7 f8 f9 dF dK:Addr}{d d1 d2 d3 d4 d5 d6 d7 d8 d9 dL dT:FuncData}(U:Fun K "law" "law" gw f d)(T:cq mg)
  (GP:Use P w K mg base 2 "_law_pot" ["_law_script","_law_k"] (yX K) f1 d1) (GH:Use P w K mg base 2 "_law_handed" ["_law_pot_here","_law_triples"] vN f2 d2) (GN:Use P w K mg base 2 "_law_named" ["_law_pot_here","_law_triples"] wW f3 d3)
  (GL:Use P w K mg base 4 "_law_skin" ["_law_pot_here","_law_most"] wX f4 d4) (GD:Use P w K mg base 1 "_law_digit" ["_law_pot_here","_law_base"] gj f5 d5) (GW:Use P w K mg base 3 "_law_drawn" ["_law_pot_here","_law_most"] rA f6 d6)
  (GS:Use P w K mg base 2 "_law_signs" ["_law_pot_here","_law_text"] wQ f7 d7) (GR:Use P w K mg base 1 "_law_read" ["_law_text"] wU f8 d8) (GF:Use P w K mg base 3 "_law_fault" ["_law_things"] (vM K) f9 d9) (GT:Use P w K mg base 1 "_law_told" ["_law_triples"] xV dF dL) (GA:Use P w K mg base 9 "_law_answer" ["_law_text"] (rP K) dK dT) :
  aj P w K mg base CX0 10 f d ["_law_script"] (mx K):=by
 refine FH U er (λvs H Q E h=>?_) (λNJ A outer s H vs Q E m h=>?_)
 .obtain⟨a,ns,rfl,_⟩:=h;rfl
 obtain⟨a,ns,rfl,bA,gl,q⟩:=h;have aS:=m.mono (show 1<=9 by decide);have a0:=m.mono (show 2<=9 by decide);have ch:=m.mono (show 3<=9 by decide);have dV:=m.mono (show 4<=9 by decide);have d0:=line99k;refine⟨_,(eI ⟨fU (i:=1) er.nd rfl (.inl rfl) (uc GP a0 (ae (pv 0) (pa1 ah)))⟩
  (eI ⟨fU (i:=2) er.nd rfl (.inl rfl) (ixx cI (bF (ae (uc GL dV (ae (pv 1) (pa1 ah))) (pa1 (uc GW ch (ae (pv 1) (pa1 ah)))))) (uc GD aS (ae (pv 1) (pa1 ah))))⟩
  (eI ⟨oI (i:=2) (N:=["_law_triple"]) (fr:=[none]) (te:=teM) (gh (by decide +kernel) rfl (by decide +kernel) (by decide +kernel)) rfl (bI (uc GN a0 (ae (pv 1) (pa1 (pv 2)))))
    (λC' s' H' fp NI=>⟨(gx 0 (by decide:(["_law_triple"]:List Str).Nodup)),di,(cP jC (by rfl) T.tuple jv (pa1 (c7 (N:=["_law_corner"]) (fr:=[none]) (gh (by decide +kernel) rfl (by decide +kernel) (by decide +kernel)) rfl (i7 (pv 0))
    (λea eb an ec ed=>⟨(gx 0 (by decide:(["_law_corner"]:List Str).Nodup)),di,ax eK (pv 0) (ax mm ah ah)⟩))))⟩) er.nd rfl (.inl rfl)⟩
  (eI ⟨fU (i:=2) er.nd rfl (.inl rfl) (uc GH a0 (ae (pv 1) (pa1 (pv 2))))⟩
  (eI ⟨bo (a6 eA (uc GD aS (ae (pv 1) (pa1 ah))) ah (nomark _)) (ai (sx 2 er.nd (ax i8 (pv 2) (ax yq (bF (pa1 (aO (ae ah (ae ah (pa1 ah)))))) (ax gp ah (pln T.len (pv 2))))))) bj⟩
  (eI ⟨fU (i:=3) er.nd rfl (.inl rfl) (cA nI Ll Lp wa bB (pa1 (c7 (N:=["_law_triple"]) (fr:=[none]) (te:=teJ) (gh (by decide +kernel) rfl (by decide +kernel) (by decide +kernel)) rfl (bI (pv 2))
    (λC' s' H' fp NI=>⟨(gx 0 (by decide:(["_law_triple"]:List Str).Nodup)),di,(cA nI Ll Lp wa bB (pa1 (c7 (N:=["_law_corner"]) (fr:=[none]) (gh (by decide +kernel) rfl (by decide +kernel) (by decide +kernel)) rfl (i7 (pv 0))
    (λea eb an ec ed=>⟨(gx 0 (by decide:(["_law_corner"]:List Str).Nodup)),di,(cP A3 (by rfl) T.str K4 (pa1 (pv 0)))⟩))))⟩))))⟩
  (eI ⟨fU (i:=1) er.nd rfl (.inl rfl) (uc GP a0 (ae (pv 0) (pa1 ah)))⟩
  (eI ⟨b_ cv rfl (kO rfl T.range (pa1 (uc GD aS (ae (pv 1) (pa1 ah))))) (gx 4 er.nd) (ai (sx 3 er.nd (uc GS a0 (ae (pv 1) (pa1 (pv 3))))))⟩
  (eI ⟨fU (i:=5) er.nd rfl (.inl rfl) (uc GR aS (pa1 (pv 3)))⟩
  (eI ⟨fU (i:=6) er.nd rfl (.inl rfl) (aO (pa1 bB))⟩
  (eI ⟨bo (a6 Fj (pv 5) jY (nomark _)) (ai (sx 6 er.nd (uc GF ch (pa1 (pv 5))))) bj⟩
  (eI ⟨bo (a6 Hv (pv 6) jY (nomark _)) (ai (sx 6 er.nd (aO (ae bB (pa1 (uc GT aS (pa1 (pv 5)))))))) bj⟩
  (eI ⟨bo (PW.pt (fm (a6 (rX m.units) (uc GA m (pa1 (pv 3))) (pv 6) (nomark _)) (iq (a6 (rX m.units) (uc GA m (pa1 (ax kH (pv 3) bB))) (aO (pa1 bB)) (nomark _))))) (ai (aN cB)) bj⟩
  (EJ (Gu (GJ m.units (Dh (N:=["_law_thing"]) (fr:=[none]) (gh (by decide +kernel) rfl (by decide +kernel) (by decide +kernel)) rfl (ye (fT GI (fT oW (fT (ye (fT (x_ (fT oW (fT oW (fT oW pb)))) pb)) (fT Jk (fT (x_ (fT GE pb)) pb))))))
    (λC' s' H' fp NI=>⟨(gx 0 (by decide:(["_law_thing"]:List Str).Nodup)),di,(uc GA m (pa1 (pv 0)))⟩) (λ_=>rfl)) ⟨ax yq (bF (pa1 (aO (pa1 bB)))) ah⟩ (nomark _))))))))))))))))),?_⟩
 refine⟨_,rfl,a,ns,1,rfl,bA,by decide,by decide,λp H1 hp s1 y1=>?_⟩;have na:a≠p:=λz=>by
  subst z;rcases bA with (e|⟨o,e⟩)|⟨_,_,_,e,_⟩
  .rw[hp] at e;cases e
  .rw[hp] at e;cases e
  cases e
 refine⟨_,rfl,p,_,rfl,y1,wc ns (by decide) (by decide),λr C ts q1 H2 ci cj ab cl yr tr bi g _=>?_⟩;refine⟨_,rfl,p,q1,12,rfl,ab,cl,by decide,λr2 bK ee q2 H3 bL bm bR bS cm cn l3 g3=>?_⟩;refine⟨lit2,λL H4 g4 s4 y4=>?_⟩;have b0:=s4 _ _ bR;have co:L≠p:=λz=>by rw[z,bR] at g4;cases g4
 have eh:r2≠p:=λz=>by rw[z,ab] at bL;cases bL
 refine⟨_,rfl,p,q2,2,rfl,b0,bS,by decide,by decide +kernel,λH5 k5 y5=>?_⟩;obtain⟨R,vR,us,cp,cr,cs,lR,gR,ct⟩:∃R vR us,atI [V.ref r,.ref r2] (digO q2 2)=some (.ref R)/\H4 R=some (.lst vR)/\aw H4 vR us/\us.length<=20/\Good us/\R≠p:=by
  obtain⟨S,X⟩:=cQ (q:=q2) (b:=2) (by decide);obtain h|h:digO q2 2=(0:Nat)\/digO q2 2=(1:Nat):=by lia
  .rw[h];exact⟨r,C,ts,c9 rfl,s4 _ _ (bm _ _ ci yr),(lu bm ab tr).same s4,bi,g,ci⟩
  rw[h];exact⟨r2,bK,ee,c9 rfl,s4 _ _ cm,cn.same s4,by lia,g3,eh⟩
 refine⟨L,_,_,_,rfl,rfl,SqL.of ((k5 L co).trans y4),cp,?_⟩;have cx:SqL [] H5 a (ns.map V.int):=i6 na bA λb o n e=>(k5 b n).trans (s4 _ _ (bm _ _ n (cj _ _ n (s1 _ _ e))));have cz:=(k5 R ct).trans cr;have cS:aw H5 vR us:=lu (λb o n e=>(k5 b n).trans e) b0 cs;have c0:=bJ (b:=2) bS;generalize nxt q2 2=q5 at *;clear cp cr cs k5 y4 g4 s4 b0 cj bm ab bR cl bS yr cm tr cn bi l3 g g3 s1 y1 bL co;refine⟨_,rfl,_,rfl,p,R,q5,vR,us,rfl,y5,c0,cz,ct,cS,by lia,gR,λr4 ei c1 q4 H6 gm c2 b1 c3 b2 b3 gn g6 ej _=>⟨r4,rfl,⟨_,SqL.of b2⟩,λZ_ hZ=>?_⟩⟩;have c4:SqL [] H6 a (ns.map V.int):=i6 na cx λb o n e=>c2 _ _ n e;refine dG (K:=[]) (a:=r4) (xs:=ei) (λi Z ys H'=>∃o,Z=[o]/\Same H6 H'/\H' Z_=some (.lst ys)/\aw H' ys ((c1.take i).map md)) ⟨none,rfl,bQ hZ,aP,.nil⟩ (by rintro i Z ys H' _ ⟨_,_,e,_⟩;exact SqL.of (e _ _ b2)) ?_ ?_
 .rintro i x Z ys H' hi ⟨o,rfl,sm,O,c5⟩;obtain⟨⟨S,X,x3⟩,hs,t,rfl,hb⟩:=cw b3 hi;have hb:H6 t=some (.tup (nV [S,X,x3])):=hb;have ek:=(aG.mp hs).1;refine⟨_,rfl,t,rfl,⟨_,SqT.of (sm _ _ hb)⟩,λY hY=>ll (K:=[]) (a:=t) (xs:=nV [S,X,x3]) (λi Z ys an=>∃o,Z=[o]/\ys=nV (([S,X,x3].take i).map (· % 10 ^ 18))/\Same H' an/\an Y=some (.lst ys)) ⟨none,rfl,rfl,bQ hY,aP⟩ (by rintro i Z ys an _ ⟨_,_,_,e,_⟩;exact SqT.of (e _ _ (sm _ _ hb))) ?_ ?_⟩
  .rintro j x Z zs H4 hj ⟨o,rfl,rfl,b4,b5⟩;rw[nV,aY] at hj;obtain⟨z,hz,rfl⟩:=bW.mp hj;have el:j<3:=(aG.mp hz).1;refine⟨_,rfl,_,_,rfl,rfl,⟨by decide,by decide,by decide⟩,_,_,rfl,rfl,(show (0:Int)<10 ^ (18:Int).toNat by decide),b5,?_,λHn M yn=>⟨_,rfl,?_,λB o e=>(M B (aq e hY)).trans (b4 _ _ e),yn⟩⟩
   .rw[bM,ao,bf];simp;lia
   rw[ba,hz,aQ,<-eS];rfl
  rintro Z zs H4 ⟨o,rfl,rfl,b4,b5⟩;refine⟨Y,_,rfl,.inl ⟨SqL.of b5,λt' em=>?_⟩⟩;walk_at"H4 t' em en eo c6";have a4:=b4.trans eo;refine⟨a4 _ _ O,by rw[aF c5,ao,bf];lia,λHn M yn=>⟨_,rfl,λB o e=>(M B (aq e hZ)).trans (a4 _ _ (sm _ _ e)),yn,?_⟩⟩;have ep:=a4 _ _ O;have tn:∀{B:Addr}{xs:List V},en B=some (.tup xs)->B≠Z_:=λe=>bO e ep (by simp);rw[ba,hs,aQ];exact cJ (Paired.imp' (λ_ _ ⟨B,e1,e2⟩=>⟨B,e1,(M _ (tn (a4 _ _ e2))).trans (a4 _ _ e2)⟩) c5) (.cons ⟨t',rfl,(M _ (tn c6)).trans c6⟩ .nil)
 rintro Z ys H7 ⟨o,rfl,s7,O,b6⟩;rw[aF b3,bV] at b6;have c8:Z_≠p:=λz=>by rw[z,b1] at hZ;cases hZ
 refine⟨_,rfl,_,rfl,p,Z_,q4,ys,c1.map md,rfl,s7 _ _ b1,c3,O,c8,b6,by rw[ao];lia,λR2 ad al q8 H8 eq da ap db a5 au dc dd=>?_⟩;have b7:∀t∈al,Lo t:=λt D=>by
  have hc:∀c,Co al c->c<10 ^ 18:=λc hc=>by
   obtain⟨u,hu,h⟩:=cy.mp ((FS dd c).mp hc);obtain⟨v,_,rfl⟩:=ay.mp hu;have:=JJ v;rcases h with rfl|rfl|rfl
   .exact this.1
   .exact this.2.1
   exact this.2.2
  exact⟨hc _ (cy.mpr ⟨t,D,.inl rfl⟩),hc _ (cy.mpr ⟨t,D,.inr (.inl rfl)⟩),hc _ (cy.mpr ⟨t,D,.inr (.inr rfl)⟩)⟩
 have l2:al.length<=20:=by rw[dc,ao];lia
 have b8:SqL [] H8 a (ns.map V.int):=i6 na c4 λb o n e=>da _ _ n (s7 _ _ e);clear dd b6 O s7 b3 ej g6 b2 eq da c2 b1 c3 c8 c4 cx cz cS y5 c0;dsimp only [su,cK];refine iU (λZ H'=>∃R vt us,Z=[some (.ref a),some (.ref p),some (.ref R),none,none,none,none]/\SqL [] H' a (ns.map V.int)/\H' R=some (.lst vt)/\aw H' vt us/\us.length<=201/\∀t∈us,Lo t) (λNX hOut=>?_) ?_
 .refine⟨_,rfl,p,q8,16,rfl,ap,db,by decide,by decide +kernel,λH9 k9 y9=>⟨rfl,_,rfl,ite2 (λ_=>?_) λ_=>?_⟩⟩
  .have b9:R2≠p:=rh a5 au ap;have aM:=(k9 R2 b9).trans a5;have bb:aw H9 ad al:=lu (λb o n e=>(k9 b n).trans e) ap au;have lv:=aF au;have bn:SqL [] H9 a (ns.map V.int):=i6 na b8 λb o n e=>(k9 b n).trans e;refine⟨_,rfl,lit3,λt0 Ha ga sa ya=>⟨lit1,λl1 Hb gb sb yb=>⟨_,rfl,R2,ad,rfl,.inl (SqL.of (sb _ _ (sa _ _ aM))),_,_,rfl,rfl,l1,201-(ad.length:Int),[.ref t0],rfl,rfl,yb,by lia,by lia,by rw[bY];lia,λp2 ab=>?_⟩⟩⟩;walk_at"Hb p2 ab Hc sc yc";have hk:(201-(ad.length:Int)).toNat<=201:=by lia
   have es:al.length+(201-(ad.length:Int)).toNat<=201:=by lia
   generalize (201-(ad.length:Int)).toNat=n at *;have ln:((List.replicate n [V.ref t0]).flatten).length=n:=by simp
   refine⟨R2,p2,ad,_,rfl,rfl,sc _ _ (sb _ _ (sa _ _ aM)),yc,by rw[ln];lia,λR3 Hd gd sd yd=>hOut _ _ ⟨R3,_,al++List.replicate n (0,1,2),rfl,?_,yd,?_,by rw[aL,KC];exact es,λt D=>?_⟩⟩
   .exact i6 (p:=p) na bn λb o _ e=>sd _ _ (sc _ _ (sb _ _ (sa _ _ e)))
   .exact cJ (bb.same (λb o e=>sd _ _ (sc _ _ (sb _ _ (sa _ _ e))))) (wH (sd _ _ (sc _ _ (sb _ _ ya))) n)
   rcases aW.mp D with D|D
   .exact b7 t D
   rw[(KD.mp D).2];exact⟨by decide,by decide,by decide⟩
  have b9:R2≠p:=rh a5 au ap;exact hOut _ _ ⟨R2,ad,al,rfl,i6 na b8 λb o n e=>(k9 b n).trans e,(k9 R2 b9).trans a5,lu (λb o n e=>(k9 b n).trans e) ap au,by lia,b7⟩
 clear b8 ap db a5 au b7 l2 dc;rintro Z H9 ⟨R2,vt,us,rfl,bn,aM,bb,l9,bw⟩;have ev:=aF bb;refine⟨rfl,_,rfl,R2,rfl,⟨_,SqL.of aM⟩,λZ_ hZ=>dG (K:=[]) (a:=R2) (xs:=vt) (λk Z ys H'=>∃o,Z=[o]/\ys=((us.take k).map fu).map (λl=>V.str (txt l))/\Same H9 H'/\H' Z_=some (.lst ys)) ⟨none,rfl,rfl,bQ hZ,aP⟩ (by rintro k Z ys H' _ ⟨_,_,_,e,_⟩;exact SqL.of (e _ _ aM)) ?_ ?_⟩
 .rintro k y Z ys dj hk ⟨o,rfl,rfl,dk,O⟩;obtain⟨⟨S,X,x3⟩,D,x,rfl,hb⟩:=cw bb hk;have go:=(aG.mp D).1;have hx:dj x=some (.tup (nV [S,X,x3])):=dk _ _ hb;obtain⟨h1,h2,h3⟩:=bw _ (a8 D);have h1:S<10 ^ 18:=h1;have h2:X<10 ^ 18:=h2;have h3:x3<10 ^ 18:=h3;refine⟨rfl,_,rfl,x,rfl,⟨_,SqT.of hx⟩,λZ2 bd=>ll (K:=[]) (a:=x) (xs:=nV [S,X,x3]) (λk Z ys H'=>∃o,Z=[o]/\ys=(([S,X,x3].take k).map digits).map (λl=>V.str (txt l))/\Same dj H'/\H' Z2=some (.lst ys)) ⟨none,rfl,rfl,bQ bd,aP⟩ (by rintro k Z ys H' _ ⟨_,_,_,e,_⟩;exact SqT.of (e _ _ hx)) ?_ ?_⟩
  .rintro j y Z ys H' hj ⟨o,rfl,rfl,sj,ca⟩;rw[nV,aY] at hj;obtain⟨n,hn,rfl⟩:=bW.mp hj;have el:j<3:=(aG.mp hn).1;have et:n<10 ^ 160:=by
    have cb:(10:Nat) ^ 18<10 ^ 160:=by decide
    have:=a8 hn;simp only[aK,fZ,or_false] at this;rcases this with rfl|rfl|rfl
    .exact nA h1 cb
    .exact nA h2 cb
    exact nA h3 cb
   refine⟨_,rfl,_,rfl,iP et,ca,by rw[ao,ao,bf];simp;lia,λHn M yn=>⟨_,rfl,?_,λB o e=>(M B (aq e bd)).trans (sj _ _ e),yn⟩⟩;rw[oA,ba,hn,aQ,aQ];rfl
  rintro Z ys H' ⟨o,rfl,rfl,sj,ca⟩;refine⟨[32],Z2,[digits S,digits X,digits x3],by rw[s_b],rfl,SqL.of ca,?_,sj _ _ O,by rw[ao,ao,bf];lia,λHn M yn=>⟨_,rfl,?_,λB o e=>(M B (aq e hZ)).trans (sj _ _ (dk _ _ e)),yn⟩⟩
  .have a1:=fig18 h1;have a2:=fig18 h2;have a3:=fig18 h3;simp only[gG,List.flatten_nil,aL,bz,gI];lia
  rw[ba,D,aQ,aQ];rfl
 rintro Z ys eu ⟨o,rfl,rfl,dl,cc⟩;rw[ev,bV] at cc;have ew:SqL [] eu a (ns.map V.int):=i6 (p:=p) na bn λb o _ e=>dl _ _ e;refine⟨[59,32],Z_,us.map fu,by rw[sP],rfl,SqL.of cc,?_,?_⟩
 .have:=wm bw;rw[ao];show _+(us.length+1)*2<=_;lia
 have ex:Tx 0 (inter [59,32] (us.map fu)):=F9 bw l9;generalize inter [59,32] (us.map fu)=l0 at *;clear cc dl bb aM bn bw l9;refine⟨_,rfl,a,ns,2,rfl,ew,by decide,by decide,λp' gs gt gu ey=>?_⟩;have dm:bT (potOf ns 2):=wc ns (by decide) (by decide);generalize potOf ns 2=bx at *;refine⟨_,rfl,p',bx,4,rfl,ey,dm,by decide,by decide +kernel,λgy gM ez=>?_⟩;obtain⟨w1,w2⟩:=cQ (q:=bx) (b:=4) (by decide);refine⟨_,rfl,by lia,by lia,?_⟩;have hN:(digO bx 4).toNat<=3:=by lia
 generalize (digO bx 4).toNat=N at hN;refine kP (lo:=0) (n:=N) (λi Z H'=>∃ok l q',Z=[some (.ref a),some (.ref p'),some (.ref R2),some (.str (txt l)),ok,none,none]/\H' p'=some (.lst (bG q'))/\bT q'/\Tx i l)
  ⟨none,l0,_,rfl,ez,bJ dm,ex⟩ ?_ ?_
 .rintro i Z eE hi ⟨ok,l,q',rfl,eH,eT,tx⟩;exact⟨_,rfl,_,rfl,p',l,q',rfl,eH,eT,by have:=tx.n;lia,λl' e0 H' sp bt e4 e5=>⟨_,l',e0,rfl,e4,e5,tx.sp sp⟩⟩
 rintro Z eE ⟨ok,l,q',rfl,_,_,tx⟩;obtain⟨rb,hm⟩:=tx.rdb hN;dsimp only;refine iU (λZ H'=>∃v,Z=[some (.ref a),some (.ref p'),some (.ref R2),some (.str (txt l)),ok,some v,none]/\(none∈rdT l/\v=.non\/∃ts r C,rdT l=ts.map some/\v=.ref r/\H' r=some (.lst C)/\aw H' C ts)) (λNX hOut=>?_) ?_
 .exact⟨_,rfl,l,rfl,rb,hm,λe H' s=>hOut _ _ ⟨_,rfl,.inl ⟨e,rfl⟩⟩,λts e r C H' s m tr=>hOut _ _ ⟨_,rfl,.inr ⟨ts,r,C,e,rfl,m,tr⟩⟩⟩
 rintro Z gN ⟨v,rfl,hv⟩;refine⟨lit1,λt0 gS e6 am dr=>?_⟩;dsimp only [su,cK];have bi:∀ts:List Tri,rdT l=ts.map some->ts.length<=300:=λts e=>by
  have:=EZ l;rw[e,ao] at this;lia
 refine iU (λZ H'=>∃v6,Z=[some (.ref a),some (.ref p'),some (.ref R2),some (.str (txt l)),ok,some v,some v6]/\(none∈rdT l/\v6=.ref t0/\H' t0=some (.tup [.str "text"])\/∃ts r C,rdT l=ts.map some/\v=.ref r/\H' r=some (.lst C)/\aw H' C ts/\(v6=.non/\dQ (ts.map dM) none\/∃fl d,v6=.ref d/\dQ (ts.map dM) (some fl)/\eD H' d fl))) (λNX hOut=>?_) ?_
 .refine⟨_,rfl,rfl,_,rfl,?_⟩;rcases hv with ⟨e,rfl⟩|⟨ts,r,C,e,rfl,m,tr⟩
  .exact aH (hOut _ _ ⟨_,rfl,.inl ⟨e,rfl,dr⟩⟩)
  exact aT ⟨_,rfl,r,C,ts.map dM,rfl,am _ _ m,xT (tr.same am),by rw[ao];have:=bi ts e;lia,λH' I s=>hOut _ _ ⟨_,rfl,.inr ⟨ts,r,C,e,rfl,s _ _ (am _ _ m),(tr.same am).same s,.inl ⟨rfl,I⟩⟩⟩,λfl d H' I s fv=>hOut _ _ ⟨_,rfl,.inr ⟨ts,r,C,e,rfl,s _ _ (am _ _ m),(tr.same am).same s,.inr ⟨fl,d,rfl,I,fv⟩⟩⟩⟩
 clear hv dr am e6;rintro Z gT ⟨v6,rfl,h6⟩;refine iU (λZ H'=>∃d o,Z=[some (.ref a),some (.ref p'),some (.ref R2),some (.str (txt l)),ok,some v,some (.ref d)]/\TV H' d o/\(o=.text/\none∈rdT l\/∃ts,rdT l=ts.map some/\(o=.read ts/\ts.map dM=ts.map some/\dQ (ts.map dM) none\/∃fl,o=.fl fl/\dQ (ts.map dM) (some fl)))) (λNX hOut=>?_) ?_
 .refine⟨_,rfl,rfl,_,rfl,?_⟩;rcases h6 with ⟨e,rfl,y⟩|⟨ts,r,C,e,rfl,m,tr,⟨rfl,I⟩|⟨fl,d,rfl,I,fv⟩⟩
  .exact aH (hOut _ _ ⟨t0,.text,rfl,y,.inl ⟨rfl,e⟩⟩)
  .obtain⟨ds,cd,e',_,_⟩:=id I;obtain⟨rfl,hn⟩:=oy e';rw[ao] at ds;exact aT ⟨_,rfl,r,C,cd,rfl,m,tr,ds,hn,λr2 bK us ws H' gV s2 y2 e7 pm bg e9=>⟨lit2,λd an g s3 y3=>hOut _ _ ⟨d,.read cd,rfl,⟨r2,bK,us,ws,y3,s3 _ _ y2,e7.same s3,pm,bg,e9⟩,.inr ⟨cd,e,.inl ⟨rfl,e',I⟩⟩⟩⟩⟩
  exact aH (hOut _ _ ⟨d,.fl fl,rfl,fv,.inr ⟨ts,e,.inr ⟨fl,rfl,I⟩⟩⟩)
 clear h6;rintro Z dt ⟨d,o,rfl,tv,ho⟩;have nn:∀ts:List Tri,rdT l=ts.map some->none∈rdT l->False:=λts e z=>by rw[e] at z;exact ow z
 have key:∀Q':VK,(∀a H',Sm dt H'->TV H' a o->Q' (.ref a) H')->rP K [.str (txt l)] dt Q' E0:=λQ' h=>by
  refine⟨_,rfl,.inr ⟨l,rfl,rb,hm,?_⟩⟩;rcases ho with ⟨rfl,e⟩|⟨ts,e,⟨rfl,e3,I⟩|⟨fl,rfl,I⟩⟩
  .exact⟨λ_ a H' sm tv=>h a H' sm tv,λts e'=>(nn ts e' e).elim⟩
  .refine⟨λz=>(nn ts e z).elim,λdx e'=>?_⟩;obtain rfl:=vQ (e.symm.trans e');refine⟨λus a H' e2 _ sm tv=>?_,λfl a H' be _ _=>nomatch fault_one I be⟩;rw[(oy e2).1] at tv;exact h a H' sm tv
  refine⟨λz=>(nn ts e z).elim,λdx e'=>?_⟩;obtain rfl:=vQ (e.symm.trans e');refine⟨λus a H' e2 be _ _=>(nomatch fault_one I be),λg0 a H' be sm tv=>?_⟩;cases fault_one I be;exact h a H' sm tv
 have fb:∀ts,o=.read ts->∀t∈ts,t.1≠t.2.1/\t.2.1≠t.2.2/\t.2.2≠t.1:=λts e=>by
  rcases ho with ⟨rfl,_⟩|⟨dx,_,⟨rfl,e3,_⟩|⟨fl,rfl,_⟩⟩
  .cases e
  .cases e;exact (oy e3).2
  cases e
 refine⟨_,rfl,key _ λa1 g1 fd fn=>?_⟩;obtain⟨D1,dA,dB,nb,dp⟩:=wF fb fn (tv.sm fd);refine⟨_,rfl,D1,D1,dA,dB,dp,_,rfl,orNe nb ?_⟩;obtain⟨fo,fw,dy⟩:=ID rb (by have:=tx.n;lia) (by have:=tx.c;lia);have g2:=tx.n;refine⟨_,rfl,_,_,rfl,rfl,?_,?_⟩
 .rw[bE];exact br (show _+1<=100000 by lia) d0
 rw[show (Str.ofString "\n")=txt [10] by decide +kernel,iT];refine⟨_,rfl,.inr ⟨l++[10],rfl,fo,fw,λ_ a2 g5 g7 fx=>?_,λts e=>by rw[e] at dy;exact (ow dy).elim⟩⟩;refine⟨lit1,λt2 fy g8 fA fC=>?_⟩;obtain⟨D2,fF,fI,f0,gc⟩:=wF (o:=.text) (λ_ e=>nomatch e) (TV.sm (Sm.of fA) fx) (show TV fy t2 .text from fC);refine⟨D2,D2,fF,fI,gc,_,rfl,ifNe f0 ?_⟩;refine⟨lit3,λtA HA gA sA yA=>⟨lit1,λlB HB gB sB yB=>⟨lit1,λtC HC gC sC yC=>⟨lit5,λLL HL gL sL yL=>?_⟩⟩⟩⟩;refine⟨LL,rfl,⟨_,SqL.of yL⟩,λZ_ hZ=>dG (K:=[]) (a:=LL) (xs:=[V.non,.int 3,.ref lB,.bl true,.ref tC]) (λi Z ys H'=>∃o,Z=[o]/\Sm HL H'/\H' Z_=some (.lst ys)/\ys.length=i/\∀y∈ys,∃a,y=.ref a/\H' a=some (.tup [.str "text"])) ⟨none,rfl,Sm.of (bQ hZ),aP,rfl,by simp⟩ (by rintro i Z ys H' _ ⟨_,_,e,_⟩;exact SqL.of (e.keep yL (λz=>z))) ?_ ?_⟩
 .rintro i x Z ys H' hi ⟨o',rfl,sm,O,ce,cf⟩;have ek:i<5:=(aG.mp hi).1;have D:∃ty,cD K H' x ty/\W.kitOne K ty (.type "str")=some false:=by
   have hx:=a8 hi;simp only[aK,fZ,or_false] at hx;rcases hx with rfl|rfl|rfl|rfl|rfl
   .exact⟨_,.non,rfl⟩
   .exact⟨_,.int _,rfl⟩
   .exact⟨_,.lst (sm.keep (sL _ _ (sC _ _ yB)) (λz=>z)),rfl⟩
   .exact⟨_,.bl _,rfl⟩
   exact⟨_,.tup (sm.keep (sL _ _ yC) (λz=>z)),rfl⟩
  refine⟨_,rfl,x,rfl,.inl ⟨D,λa3 ge cg gf=>?_⟩⟩;have bd:=cg.keep O (λz=>z);refine⟨bd,by lia,λHn M yn=>⟨_,rfl,?_,yn,?_,?_⟩⟩
  .intro B o e;have:=(sm.trans cg) B o e
   rwa [<-M B (aq e hZ)] at this
  .rw[aL,ce];rfl
  have tn:∀{B:Addr}{xs:List V},ge B=some (.tup xs)->Hn B=some (.tup xs):=λe=>(M _ (bO e bd (by simp))).trans e;intro y hy;rcases aW.mp hy with hy|hy
  .obtain⟨a',rfl,e⟩:=cf y hy;exact⟨a',rfl,tn (cg.keep e (λz=>z))⟩
  rw[aR] at hy;exact⟨a3,hy,tn gf⟩
 rintro Z ys H' ⟨o',rfl,sm,O,ce,cf⟩;refine⟨lit1,λt5 Ha ga sa ya=>⟨lit1,λl6 Hb gb sb yb=>⟨l6,5,_,rfl,rfl,yb,by decide,by decide,by rw[bY];lia,λp2 ab=>?_⟩⟩⟩;walk_at"Hb p2 ab Hc sc yc";have dA:Dt [] Hc (.ref Z_) (.list (List.replicate 5 txD)):=by have:=qY (H:=Hc) (ys:=ys) λy hy=>(cf y hy).imp λa' h=>⟨h.1,sc _ _ (sb _ _ (sa _ _ h.2))⟩;rw[ce] at this;exact .lst (SqL.of (sc _ _ (sb _ _ (sa _ _ O)))) this
 have dB:Dt [] Hc (.ref p2) (.list (List.replicate 5 txD)):=.lst (SqL.of yc) (qY (ys:=[V.ref t5,.ref t5,.ref t5,.ref t5,.ref t5]) λy hy=>⟨t5,by simpa using hy,sc _ _ (sb _ _ ya)⟩);refine⟨_,_,dA,dB,by simp[PyData.depth,PyData.depthAll,txD],?_⟩;rw[NC (by decide),qV rfl];exact q _
end
theorem len1(h:us.length=1):∃a,us=[a]:=List.length_eq_one_iff.mp h
theorem len2(h:us.length=2):∃a b,us=[a,b]:=by obtain⟨a,r,rfl⟩:=List.exists_cons_of_length_eq_add_one h;obtain⟨b,rfl⟩:=len1 (Nat.succ.inj h);exact⟨a,b,rfl⟩
structure Top(K:W.Frag)(mg:Str->Option Value)(x:Str)(st:Stmt)(f:Addr)(fd:FuncData):Prop where
 u:Fun K x x st f fd
 m:mg x=some (.ref f)
structure InC(K:W.Frag)(C:Addr)(x q:Str)(st:Stmt)(f:Addr)(fd:FuncData):Prop where
 u:Fun K x q st f fd
 m:Meth K C x f
theorem xS{h:Heap}{x:Str}{st:Stmt}{f:Addr}{d:Value}{od an:Option Addr}{e:Array (Option Value)}{kV doc pm b ct:Value}(X:K.In h)(G:h.Ns mainGlobals mg)
  (a:W.nsIn K mainGlobals x=some (some (.ref f))) (l:K.lookup f=some ⟨d,od,.func (W.fnOf x x (dn st) (cT st) (aC st) .none kV doc pm an b ct),e⟩) (c:W.codeIn K b x=true) (k:W.keepIn K (.ref f)=true) :
  Top K mg x st f (W.fnOf x x (dn st) (cT st) (aC st) .none kV doc pm an b ct):=⟨yz (st:=st) l c k,df X G a⟩
theorem r_{C:Addr}{x q:Str}{st:Stmt}{f:Addr}{d:Value}{od an:Option Addr}{e:Array (Option Value)}{kV doc pm b ct:Value}
  (a:W.findIn K (.ref C) x=some (some (.ref f))) (i:W.isFn K (.ref f)=true) (l:K.lookup f=some ⟨d,od,.func (W.fnOf x q (dn st) (cT st) (aC st) .none kV doc pm an b ct),e⟩) (c:W.codeIn K b q=true) (k:W.keepIn K (.ref f)=true) :
  InC K C x q st f (W.fnOf x q (dn st) (cT st) (aC st) .none kV doc pm an b ct):=⟨yz (st:=st) l c k,⟨a,i,k⟩⟩
def bp(K:W.Frag)(x:Str)(st:Stmt):Prop:=∃(f:Addr)(a:Value)(od an:Option Addr)(sl:Array (Option Value))(kV b pm cd ct:Value),W.nsIn K mainGlobals x=some (some (.ref f))/\K.lookup f=some ⟨a,od,.func (W.fnOf x x (dn st) (cT st) (aC st) .none kV b pm an cd ct),sl⟩/\W.codeIn K cd x=true/\W.keepIn K (.ref f)=true
theorem top_in{x:Str}{st:Stmt}{f:Addr}{b:Value}{od an:Option Addr}{sl:Array (Option Value)}{kV d pm cd ct:Value}(a:W.nsIn K mainGlobals x=some (some (.ref f)))(l:K.lookup f=some ⟨b,od,.func (W.fnOf x x (dn st) (cT st) (aC st) .none kV d pm an cd ct),sl⟩)(c:W.codeIn K cd x=true)(k:W.keepIn K (.ref f)=true):bp K x st:=⟨f,b,od,an,sl,kV,d,pm,cd,ct,a,l,c,k⟩
theorem bC{h:Heap}{x:Str}{st:Stmt}(X:K.In h)(G:h.Ns mainGlobals mg)(t:bp K x st):∃f d,Top K mg x st f d:=by obtain⟨f,b,od,an,sl,kV,e,pm,cd,ct,a,l,c,k⟩:=t;exact⟨_,_,xS (st:=st) X G a l c k⟩
def InK(K:W.Frag)(C:Addr)(x q:Str)(st:Stmt):Prop:=∃(f:Addr)(a:Value)(od an:Option Addr)(sl:Array (Option Value))(kV b pm cd ct:Value),W.findIn K (.ref C) x=some (some (.ref f))/\W.isFn K (.ref f)=true/\K.lookup f=some ⟨a,od,.func (W.fnOf x q (dn st) (cT st) (aC st) .none kV b pm an cd ct),sl⟩/\W.codeIn K cd q=true/\W.keepIn K (.ref f)=true
theorem in_in{C:Addr}{x q:Str}{st:Stmt}{f:Addr}{b:Value}{od an:Option Addr}{sl:Array (Option Value)}{kV d pm cd ct:Value}(a:W.findIn K (.ref C) x=some (some (.ref f)))(i:W.isFn K (.ref f)=true)(l:K.lookup f=some ⟨b,od,.func (W.fnOf x q (dn st) (cT st) (aC st) .none kV d pm an cd ct),sl⟩)(c:W.codeIn K cd q=true)(k:W.keepIn K (.ref f)=true):InK K C x q st:=⟨f,b,od,an,sl,kV,d,pm,cd,ct,a,i,l,c,k⟩
def ckE(K:W.Frag)(S c0 c1 c2:Addr)(a b:List Addr)(D:Addr)(i:Nat):Bool:=W.findIn K (.ref D) "__getattribute__"==some (some (.builtin "BaseException.__getattribute__"))&&(W.findIn K (.ref D) "__getattr__"==some none&&(W.findIn K (.ref D) "__class__"==some (some (.builtin "object.__class__"))&&(W.mroIn K D (.type "object")==some true&&(W.mroIn K D (.type "BaseException")==some true&&((W.clsIn K D).isSome &&
 ((L2.clsIn K D).any (λbm=>(Value.ref D::bm).contains (.ref S))&&(W.kitOne K (.ref D) (.ref c0)==some (i==0)&&(W.kitOne K (.ref D) (.ref c1)==some (i==1)&&(W.kitOne K (.ref D) (.ref c2)==some (i==2)&&(W.kitOne K (.ref D) (.type "ValueError")==some true&&(W.kitAny K (.ref D) (a.map Value.ref)==some false&&W.kitAny K (.ref D) (b.map Value.ref)==some false)))))))))))
def ckF(K:W.Frag)(D:Addr)(f:Str):Bool:=W.findIn K (.ref D) "__setattr__"==some (some (.builtin "object.__setattr__"))&&(W.mroIn K D (.type "object")==some true&&((W.clsIn K D).any (λcd=>oJ cd.mro)&&(W.findIn K (.ref D) f==some none&&(W.clsIn K D).any (·.hasDict))))
def ckM(K:W.Frag)(D:Addr):Bool:=j3 K D&&W.keepIn K (.ref D)
def ckN(K:W.Frag)(D:Addr):Bool:=W.excIn K D bmV "ValueError.__new__"&&W.keepIn K (.ref D)
def ckS(K:W.Frag)(S:Addr):Bool:=(L2.clsIn K S).any (λbm=>bm.contains (.type "BaseException"))&&(W.specialIn K (.ref S) "__getattribute__"==some (some (.builtin "type.__getattribute__"))&&(W.readsIn K S (.type "type")&&(W.specialIn K (.builtin "object.__class__") "__get__"==some (some (.builtin "getset_descriptor.__get__"))&&W.takesIn K (.builtin "object.__class__")==some true)))
section
variable {S c0 c1 c2 D:Addr}{i:Nat}
theorem yT{α:Type}{o:Option α}{p:α->Bool}(h:o.any p=true):∃a,o=some a/\p a=true:=by
 cases o with
 |none=>cases h
 |some a=>exact⟨a,rfl,h⟩
theorem sf{a b:List Addr}(s:ckS K S=true)(h:ckE K S c0 c1 c2 a b D i=true):mZ K D S c0 c1 c2 a b i:=by simp only[ckE,ckS,eF,beq_iff_eq] at h s;obtain⟨_,_,_,s1,s2⟩:=s;obtain⟨h1,h2,c,d,e,f,g,j,l,m,n,o,p⟩:=h;exact⟨⟨h1,h2,c,s1,s2,d,e,f⟩,yT g,j,l,m,n,o,p⟩
theorem Iw{f:Str}(h:ckF K D f=true):fk K D f:=by simp only[ckF,eF,beq_iff_eq] at h;exact⟨h.1,h.2.1,h.2.2.1,h.2.2.2.1,h.2.2.2.2⟩
end
section
theorem all_ok{f1 f2 f3 f4 f5 f6 f7 f8 f9 cn co cp cr cs ct cx cz c3 c4 c5 c6 c8 da db dc dd dj dk dl dm dp dr ds dt dx dy b0 ca cb dA Cs S c0 c1 c2 s v x y z A B C D E H:Addr}{d1 d2 d3 d4 d5 d6 d7 d8 d9 dB dF dK dL dT dV d0 ea eb ec ed ee eh ei ej ek el em en eo ep eq es et eu ev ew cc ex ey ez:FuncData}{tM:Tok}(T:cq mg)(j:mg "sorted" = none)(bn:mg "min" = none)(bt:mg "max" = none)(eE:mg "dict" = none)(eH:mg "any" = none)(X:SCls K Cs)(MF:Mk K Cs ca)(mM:mg "MOST_TRIPLES" = some (.int 200 tM))
  (eT:mg "Skin" = some (.ref Cs))
  (mS:mg "ShapeError" = some (.ref S))
  (bw:mg "NoText" = some (.ref c0))
  (cd:mg "TooMany" = some (.ref c1))
  (I:mg "NoSkin" = some (.ref c2))
  (e3:mg "Spoilt" = some (.ref s))
  (e4:mg "Taken" = some (.ref v))
  (e5:mg "Gone" = some (.ref x))
  (e6:mg "NoCaps" = some (.ref y))
  (e7:mg "NoCode" = some (.ref z))
  (e9:mg "NoCorner" = some (.ref A))
  (fb:mg "NoDeed" = some (.ref B))
  (fd:mg "NoLetter" = some (.ref C))
  (fi:mg "NoPast" = some (.ref D))
  (fl:mg "NoSide" = some (.ref E))
  (fn:mg "NoWord" = some (.ref H))
  (r:ckS K S=true) (y3:W.findCls K (.ref S) (.type "type") "__init__" = some (.val (.builtin "ValueError.__init__")))
  (e0:ckE K S c0 c1 c2 [x,y,z,A,B,C,D,E,H] [s,v] c0 0=true)
  (e1:ckE K S c0 c1 c2 [x,y,z,A,B,C,D,E,H] [s,v] c1 1=true)
  (e2:ckE K S c0 c1 c2 [x,y,z,A,B,C,D,E,H] [s,v] c2 2=true)
  (o2:ckF K c2 "fault" = true) (M2:j_ K c2 cb) (n0:ckN K c0=true) (n1:ckN K c1=true)
  (L:Top K mg "first_of" l7 f1 d1)
  (M:Top K mg "is_whole" lO f2 d2)
  (N:Top K mg "is_corner" kL f3 d3)
  (O:Top K mg "is_triple" kK f4 d4)
  (Q:Top K mg "checked_triples" jG f5 d5)
  (R:Top K mg "thirds_by_side" lF f6 d6)
  (U:Top K mg "steps_by_corner" lP f7 d7)
  (Y:Top K mg "hang_together" mz f8 d8)
  (Z:Top K mg "look_rounds_through" lW f9 d9)
  (ab:Top K mg "begun_least" mh cn dB)
  (ad:Top K mg "is_figures" kG co dF)
  (al:Top K mg "read_triple" kD cp dK)
  (am:Top K mg "read_skin" kJ cr dL)
  (an:Top K mg "_law_at" sAt cs dT)
  (ap:Top K mg "_law_pot" mV ct dV)
  (d:Top K mg "_law_digit" l_ cx d0)
  (g:Top K mg "_law_sides" lU cz ea)
  (f:Top K mg "_law_thirds" lA c3 eb)
  (l:Top K mg "_law_free" mB c4 ec)
  (e:Top K mg "_law_corners" kY c5 ed)
  (n:Top K mg "_law_fans" mE c6 ee)
  (au:Top K mg "_law_split" lQ c8 eh)
  (o:Top K mg "_law_drawn" l8 da ei)
  (aM:Top K mg "_law_rim_sides" kE db ej)
  (aS:Top K mg "_law_grown" lD dc ek)
  (a0:Top K mg "_law_ring" lY dd el)
  (a1:Top K mg "_law_beside" kW dj em)
  (a2:Top K mg "_law_skin" lX dk en)
  (a3:Top K mg "_law_named" lV dl eo)
  (a4:Top K mg "_law_handed" lE dm ep)
  (a5:Top K mg "_law_is_triple" kF dp eq)
  (bb:Top K mg "_law_fault" jV dr es)
  (bd:Top K mg "_law_told" my ds et)
  (be:Top K mg "_law_signs" lC dt eu)
  (bg:Top K mg "_law_read" lZ dx ev)
  (bi:Top K mg "_law_answer" kX dy ew)
  (fo:Top K mg "law" gw b0 cc)
  (ce:InC K Cs "__init__" "Skin.__init__" fW ca ex)
  (cf:InC K c2 "__init__" "NoSkin.__init__" ib cb ey)
  (bx:InC K Cs "triangles" "Skin.triangles" g_ dA ez)
  : aj P w K mg base CX0 10 b0 cc ["_law_script"] (mx K):=by
 have b1:=L.u.binds (ps:=["onward"]) λ_ _ _ _ _ _ us c=>by obtain⟨a,rfl⟩:=len1 c;rfl
 have b2:=M.u.binds (ps:=["thing"]) λ_ _ _ _ _ _ us c=>by obtain⟨a,rfl⟩:=len1 c;rfl
 have b3:=N.u.binds (ps:=["thing"]) λ_ _ _ _ _ _ us c=>by obtain⟨a,rfl⟩:=len1 c;rfl
 have b4:=O.u.binds (ps:=["thing"]) λ_ _ _ _ _ _ us c=>by obtain⟨a,rfl⟩:=len1 c;rfl
 have b5:=Q.u.binds (ps:=["things"]) λ_ _ _ _ _ _ us c=>by obtain⟨a,rfl⟩:=len1 c;rfl
 have b6:=R.u.binds (ps:=["triples"]) λ_ _ _ _ _ _ us c=>by obtain⟨a,rfl⟩:=len1 c;rfl
 have b7:=U.u.binds (ps:=["thirds"]) λ_ _ _ _ _ _ us c=>by obtain⟨a,rfl⟩:=len1 c;rfl
 have b8:=Y.u.binds (ps:=["about"]) λ_ _ _ _ _ _ us c=>by obtain⟨a,rfl⟩:=len1 c;rfl
 have b9:=Z.u.binds (ps:=["steps"]) λ_ _ _ _ _ _ us c=>by obtain⟨a,rfl⟩:=len1 c;rfl
 have fp:=ab.u.binds (ps:=["triple"]) λ_ _ _ _ _ _ us c=>by obtain⟨a,rfl⟩:=len1 c;rfl
 have fv:=ad.u.binds (ps:=["text"]) λ_ _ _ _ _ _ us c=>by obtain⟨a,rfl⟩:=len1 c;rfl
 have fw:=al.u.binds (ps:=["part"]) λ_ _ _ _ _ _ us c=>by obtain⟨a,rfl⟩:=len1 c;rfl
 have fx:=am.u.binds (ps:=["text"]) λ_ _ _ _ _ _ us c=>by obtain⟨a,rfl⟩:=len1 c;rfl
 have fy:=an.u.binds (ps:=["_law_script","_law_k"]) λ_ _ _ _ _ _ us c=>by obtain⟨a,b,rfl⟩:=len2 c;rfl
 have fA:=ap.u.binds (ps:=["_law_script","_law_k"]) λ_ _ _ _ _ _ us c=>by obtain⟨a,b,rfl⟩:=len2 c;rfl
 have h:=d.u.binds (ps:=["_law_pot_here","_law_base"]) λ_ _ _ _ _ _ us c=>by obtain⟨a,b,rfl⟩:=len2 c;rfl
 have bA:=g.u.binds (ps:=["_law_triple"]) λ_ _ _ _ _ _ us c=>by obtain⟨a,rfl⟩:=len1 c;rfl
 have bl:=f.u.binds (ps:=["_law_triples"]) λ_ _ _ _ _ _ us c=>by obtain⟨a,rfl⟩:=len1 c;rfl
 have cg:=l.u.binds (ps:=["_law_thirds_here","_law_triple"]) λ_ _ _ _ _ _ us c=>by obtain⟨a,b,rfl⟩:=len2 c;rfl
 have p:=e.u.binds (ps:=["_law_triples"]) λ_ _ _ _ _ _ us c=>by obtain⟨a,rfl⟩:=len1 c;rfl
 have ch:=n.u.binds (ps:=["_law_triples","_law_corner"]) λ_ _ _ _ _ _ us c=>by obtain⟨a,b,rfl⟩:=len2 c;rfl
 have fC:=au.u.binds (ps:=["_law_triples"]) λ_ _ _ _ _ _ us c=>by obtain⟨a,rfl⟩:=len1 c;rfl
 have ci:=o.u.binds (ps:=["_law_pot_here","_law_most"]) λ_ _ _ _ _ _ us c=>by obtain⟨a,b,rfl⟩:=len2 c;rfl
 have fF:=aM.u.binds (ps:=["_law_triples"]) λ_ _ _ _ _ _ us c=>by obtain⟨a,rfl⟩:=len1 c;rfl
 have fI:=aS.u.binds (ps:=["_law_pot_here","_law_most"]) λ_ _ _ _ _ _ us c=>by obtain⟨a,b,rfl⟩:=len2 c;rfl
 have f0:=a0.u.binds (ps:=["_law_pot_here"]) λ_ _ _ _ _ _ us c=>by obtain⟨a,rfl⟩:=len1 c;rfl
 have ga:=a1.u.binds (ps:=["_law_one","_law_other"]) λ_ _ _ _ _ _ us c=>by obtain⟨a,b,rfl⟩:=len2 c;rfl
 have gb:=a2.u.binds (ps:=["_law_pot_here","_law_most"]) λ_ _ _ _ _ _ us c=>by obtain⟨a,b,rfl⟩:=len2 c;rfl
 have gc:=a3.u.binds (ps:=["_law_pot_here","_law_triples"]) λ_ _ _ _ _ _ us c=>by obtain⟨a,b,rfl⟩:=len2 c;rfl
 have gd:=a4.u.binds (ps:=["_law_pot_here","_law_triples"]) λ_ _ _ _ _ _ us c=>by obtain⟨a,b,rfl⟩:=len2 c;rfl
 have ge:=a5.u.binds (ps:=["_law_thing"]) λ_ _ _ _ _ _ us c=>by obtain⟨a,rfl⟩:=len1 c;rfl
 have gf:=bb.u.binds (ps:=["_law_things"]) λ_ _ _ _ _ _ us c=>by obtain⟨a,rfl⟩:=len1 c;rfl
 have gl:=bd.u.binds (ps:=["_law_triples"]) λ_ _ _ _ _ _ us c=>by obtain⟨a,rfl⟩:=len1 c;rfl
 have gm:=be.u.binds (ps:=["_law_pot_here","_law_text"]) λ_ _ _ _ _ _ us c=>by obtain⟨a,b,rfl⟩:=len2 c;rfl
 have gn:=bg.u.binds (ps:=["_law_text"]) λ_ _ _ _ _ _ us c=>by obtain⟨a,rfl⟩:=len1 c;rfl
 have go:=bi.u.binds (ps:=["_law_text"]) λ_ _ _ _ _ _ us c=>by obtain⟨a,rfl⟩:=len1 c;rfl
 have gs:=ce.u.binds (ps:=["self","triples"]) λ_ _ _ _ _ _ us c=>by obtain⟨a,b,rfl⟩:=len2 c;rfl
 have bK:=cf.u.binds (ps:=["self","fault"]) λ_ _ _ _ _ _ us c=>by obtain⟨a,b,rfl⟩:=len2 c;rfl
 have gt:=bx.u.binds (ps:=["self"]) λ_ _ _ _ _ _ us c=>by obtain⟨a,rfl⟩:=len1 c;rfl
 have kt:pQ K:=⟨rfl,rfl,rfl⟩;have k0:=sf r e0;have k1:=sf r e1;have k2:=sf r e2;have x2:=Iw o2;simp only[ckS,eF,beq_iff_eq] at r;simp only[ckN,eF] at n0 n1;obtain⟨s1,s2,s3,_,_⟩:=r;have bS:BInit K S:=⟨s2,s3,y3⟩;have g2:aj P w K mg base CX0 _ _ _ _ _:=B6 M.u T kt;have g3:aj P w K mg base CX0 _ _ _ _ _:=A2 N.u ⟨g2,b2,M.m,M.u.kp⟩;have g1:aj P w K mg base CX0 _ _ _ _ _:=DS L.u T bn;have g4:aj P w K mg base CX0 _ _ _ _ _:=A1 O.u T kt ⟨g3,b3,N.m,N.u.kp⟩;have bL:aj P w K mg base CX0 _ _ _ _ _:=B8 cf.u mS bS;have g5:aj P w K mg base (CX1 P w) _ _ _ _ _:=Ba Q.u T ⟨g4,b4,O.m,O.u.kp⟩ M2 x2 bL bK I;have g6:aj P w K mg base (CX1 P w) _ _ _ _ _:=By R.u T M2 x2 bL bK I;have g7:aj P w K mg base CX0 _ _ _ _ _:=DG U.u;have g8:aj P w K mg base CX0 _ _ _ _ _:=Fs Y.u T eE ⟨g1,b1,L.m,L.u.kp⟩;have g9:aj P w K mg base (CX1 P w) _ _ _ _ _:=DQ Z.u j ⟨g8,b8,Y.m,Y.u.kp⟩ M2 x2 bL bK I;have gu:aj P w K mg base CX0 _ _ _ _ _:=DV ab.u bn;have gy:aj P w K mg base (CX1 P w) _ _ _ _ _:=DI ce.u T j mM X cd n1.1 g5 b5 Q.m Q.u.kp g6 b6 R.m R.u.kp ⟨g7,b7,U.m,U.u.kp⟩ g9 b9 Z.m Z.u.kp ⟨gu,fp,ab.m,ab.u.kp⟩;have gA:aj P w K mg base CX0 _ _ _ _ _:=Fu ad.u;have gB:aj P w K mg base (CX1 P w) _ _ _ _ _:=DL al.u T ⟨gA,fv,ad.m,ad.u.kp⟩ bw n0.1;have gC:aj P w K mg base (CX1 P w) _ _ _ _ _:=DN am.u T MF eT gB fw al.m al.u.kp gy gs bw n0.1;have gL:aj P w K mg base CX0 _ _ _ _ _:=Fo bx.u X T;have gM:aj P w K mg base CX0 _ _ _ _ _:=Hy ap.u an.u fy an.m an.u.kp T;have i:aj P w K mg base CX0 _ _ _ _ _:=DU d.u;have bR:aj P w K mg base CX0 _ _ _ _ _:=DK g.u;have bm:aj P w K mg base CX0 _ _ _ _ _:=B7 f.u;have cj:aj P w K mg base CX0 _ _ _ _ _:=Ft l.u T ⟨bR,bA,g.m,g.u.kp⟩;have q:aj P w K mg base CX0 _ _ _ _ _:=Bx e.u j;have cl:aj P w K mg base CX0 _ _ _ _ _:=Fv n.u j ⟨bm,bl,f.m,f.u.kp⟩;have gN:aj P w K mg base CX0 _ _ _ _ _:=DH au.u T bt ⟨q.mono (by decide),p,e.m,e.u.kp⟩ ⟨cl,ch,n.m,n.u.kp⟩;have cm:aj P w K mg base CX0 _ _ _ _ _:=DT o.u T ⟨i.mono (by decide),h,d.m,d.u.kp⟩ ⟨bm.mono (by decide),bl,f.m,f.u.kp⟩ ⟨cj,cg,l.m,l.u.kp⟩;have gR:aj P w K mg base CX0 _ _ _ _ _:=Hw aM.u j ⟨bm,bl,f.m,f.u.kp⟩;have gS:aj P w K mg base CX0 _ _ _ _ _:=DR aS.u T ⟨i.mono (by decide),h,d.m,d.u.kp⟩ ⟨bm.mono (by decide),bl,f.m,f.u.kp⟩ ⟨cj,cg,l.m,l.u.kp⟩ ⟨gR,fF,aM.m,aM.u.kp⟩ ⟨q.mono (by decide),p,e.m,e.u.kp⟩;have gT:aj P w K mg base CX0 _ _ _ _ _:=Fq a0.u T bt ⟨i.mono (by decide),h,d.m,d.u.kp⟩ ⟨q.mono (by decide),p,e.m,e.u.kp⟩ ⟨bR.mono (by decide),bA,g.m,g.u.kp⟩;have gV:aj P w K mg base CX0 _ _ _ _ _:=Ca a1.u T bt ⟨q.mono (by decide),p,e.m,e.u.kp⟩;have g0:aj P w K mg base CX0 _ _ _ _ _:=DP a2.u ⟨i.mono (by decide),h,d.m,d.u.kp⟩ ⟨gT,f0,a0.m,a0.u.kp⟩ ⟨gN,fC,au.m,au.u.kp⟩ ⟨gV,ga,a1.m,a1.u.kp⟩ ⟨gS,fI,aS.m,aS.u.kp⟩ ⟨cm,ci,o.m,o.u.kp⟩;have ha:aj P w K mg base CX0 _ _ _ _ _:=DO a3.u T ⟨i,h,d.m,d.u.kp⟩ ⟨q,p,e.m,e.u.kp⟩;have hb:aj P w K mg base CX0 _ _ _ _ _:=B_ a4.u T ⟨i,h,d.m,d.u.kp⟩;have hc:aj P w K mg base CX0 _ _ _ _ _:=A0 a5.u T kt;have hd:aj P w K mg base CX0 _ _ _ _ _:=B9 bb.u T ⟨hc,ge,a5.m,a5.u.kp⟩ ⟨bR,bA,g.m,g.u.kp⟩ ⟨q.mono (by decide),p,e.m,e.u.kp⟩ ⟨cl,ch,n.m,n.u.kp⟩;have he:aj P w K mg base CX0 _ _ _ _ _:=Fp bd.u bn j;have hf:aj P w K mg base CX0 _ _ _ _ _:=DJ be.u T ⟨i,h,d.m,d.u.kp⟩;have hg:aj P w K mg base CX0 _ _ _ _ _:=DM bg.u T eH;have hh:aj P w K mg base CX0 _ _ _ _ _:=Bz bi.u T X gC fx am.m am.u.kp ⟨gL,gt,bx.m⟩ mS (yT s1) I cd bw e5 e6 e7 e9 fb fd fi fl fn e3 e4 x2 k0 k1 k2;exact Hz fo.u T ⟨gM,fA,ap.m,ap.u.kp⟩ ⟨hb,gd,a4.m,a4.u.kp⟩ ⟨ha,gc,a3.m,a3.u.kp⟩ ⟨g0,gb,a2.m,a2.u.kp⟩ ⟨i,h,d.m,d.u.kp⟩ ⟨cm,ci,o.m,o.u.kp⟩ ⟨hf,gm,be.m,be.u.kp⟩ ⟨hg,gn,bg.m,bg.u.kp⟩ ⟨hd,gf,bb.m,bb.u.kp⟩ ⟨he,gl,bd.m,bd.u.kp⟩ ⟨hh,go,bi.m,bi.u.kp⟩
end
theorem all_mk{l:W.OpenLaw}{h:Heap}{fa Cs S c0 c1 c2 b d f g i j m n o p q:Addr}{A:Tok}(X:K.In h)(G:h.Ns mainGlobals mg)(B:mg "law" = some (.ref fa))
  (C:W.nsIn K mainGlobals "Skin" = some (some (.ref Cs)))
  (D:W.nsIn K mainGlobals "ShapeError" = some (some (.ref S)))
  (E:W.nsIn K mainGlobals "NoText" = some (some (.ref c0)))
  (H:W.nsIn K mainGlobals "TooMany" = some (some (.ref c1)))
  (I:W.nsIn K mainGlobals "NoSkin" = some (some (.ref c2)))
  (L:W.nsIn K mainGlobals "Spoilt" = some (some (.ref b)))
  (M:W.nsIn K mainGlobals "Taken" = some (some (.ref d)))
  (N:W.nsIn K mainGlobals "Gone" = some (some (.ref f)))
  (O:W.nsIn K mainGlobals "NoCaps" = some (some (.ref g)))
  (P:W.nsIn K mainGlobals "NoCode" = some (some (.ref i)))
  (Q:W.nsIn K mainGlobals "NoCorner" = some (some (.ref j)))
  (R:W.nsIn K mainGlobals "NoDeed" = some (some (.ref m)))
  (U:W.nsIn K mainGlobals "NoLetter" = some (some (.ref n)))
  (Y:W.nsIn K mainGlobals "NoPast" = some (some (.ref o)))
  (Z:W.nsIn K mainGlobals "NoSide" = some (some (.ref p)))
  (ab:W.nsIn K mainGlobals "NoWord" = some (some (.ref q)))
  (aM:W.nsIn K mainGlobals "MOST_TRIPLES" = some (some (.int 200 A)))
  (h1:bp K "first_of" l7)
  (h2:bp K "is_whole" lO)
  (h3:bp K "is_corner" kL)
  (h4:bp K "is_triple" kK)
  (h5:bp K "checked_triples" jG)
  (h6:bp K "thirds_by_side" lF)
  (h7:bp K "steps_by_corner" lP)
  (h8:bp K "hang_together" mz)
  (h9:bp K "look_rounds_through" lW)
  (ad:bp K "begun_least" mh)
  (al:bp K "is_figures" kG)
  (am:bp K "read_triple" kD)
  (ap:bp K "read_skin" kJ)
  (au:bp K "_law_at" sAt)
  (a0:bp K "_law_pot" mV)
  (a1:bp K "_law_digit" l_)
  (a2:bp K "_law_sides" lU)
  (a3:bp K "_law_thirds" lA)
  (a4:bp K "_law_free" mB)
  (a5:bp K "_law_corners" kY)
  (bb:bp K "_law_fans" mE)
  (bd:bp K "_law_split" lQ)
  (be:bp K "_law_drawn" l8)
  (bg:bp K "_law_rim_sides" kE)
  (bi:bp K "_law_grown" lD)
  (bl:bp K "_law_ring" lY)
  (bm:bp K "_law_beside" kW)
  (bn:bp K "_law_skin" lX)
  (bt:bp K "_law_named" lV)
  (bw:bp K "_law_handed" lE)
  (bx:bp K "_law_is_triple" kF)
  (bA:bp K "_law_fault" jV)
  (bK:bp K "_law_told" my)
  (bL:bp K "_law_signs" lC)
  (bR:bp K "_law_read" lZ)
  (bS:bp K "_law_answer" kX)
  (b0:bp K "law" gw)
  (b1:InK K Cs "__init__" "Skin.__init__" fW)
  (b2:InK K c2 "__init__" "NoSkin.__init__" ib)
  (b3:InK K Cs "triangles" "Skin.triangles" g_)
  (pg:W.plainGet K Cs Str.empty=true)
  (hd:W.hasDictIn K Cs=true)
  (po:W.plainOver K Cs=true)
  (sa:W.findIn K (.ref Cs) "__setattr__" = some (some (.builtin "object.__setattr__")))
  (mk:W.makesIn K Cs=true)
  (kc:W.keepIn K (.ref Cs)=true)
  (b4:W.findIn K (.ref Cs) "ordered" = some none)
  (b5:W.findIn K (.ref Cs) "rising" = some none)
  (b6:W.findIn K (.ref Cs) "thirds" = some none)
  (b7:W.findIn K (.ref Cs) "steps" = some none)
  (b8:W.nsIn K mainGlobals "len" = some none)
  (b9:W.nsIn K mainGlobals "int" = some none)
  (ca:W.nsIn K mainGlobals "str" = some none)
  (cb:W.nsIn K mainGlobals "isinstance" = some none)
  (cc:W.nsIn K mainGlobals "range" = some none)
  (ce:W.nsIn K mainGlobals "list" = some none)
  (cf:W.nsIn K mainGlobals "tuple" = some none)
  (cg:W.nsIn K mainGlobals "bool" = some none)
  (ch:W.nsIn K mainGlobals "all" = some none)
  (ci:W.nsIn K mainGlobals "ValueError" = some none)
  (cj:W.nsIn K mainGlobals "reversed" = some none)
  (cl:W.nsIn K mainGlobals "enumerate" = some none)
  (cm:W.nsIn K mainGlobals "sorted" = some none)
  (cn:W.nsIn K mainGlobals "min" = some none)
  (co:W.nsIn K mainGlobals "max" = some none)
  (cp:W.nsIn K mainGlobals "dict" = some none)
  (cr:W.nsIn K mainGlobals "any" = some none)
  (y3:W.findCls K (.ref S) (.type "type") "__init__" = some (.val (.builtin "ValueError.__init__")))
  (cS:ckS K S=true)
  (e0:ckE K S c0 c1 c2 [f,g,i,j,m,n,o,p,q] [b,d] c0 0=true)
  (e1:ckE K S c0 c1 c2 [f,g,i,j,m,n,o,p,q] [b,d] c1 1=true)
  (e2:ckE K S c0 c1 c2 [f,g,i,j,m,n,o,p,q] [b,d] c2 2=true)
  (o2:ckF K c2 "fault" = true)
  (r:ckM K c2=true)
  (n0:ckN K c0=true)
  (n1:ckN K c1=true)
  : ∃fd:FuncData,(∀(s:Shared)(v:Value),BindsTo s fd ⟨[v],[]⟩ [("_law_script",v)])/\∀base:Heap,K.In base->base.Ns mainGlobals mg->aj l.prog w K mg base CX0 10 fa fd ["_law_script"] (mx K):=by
 obtain⟨ea,oc,od,an,sl,kV,dc,pm,cd,ct,a,l,c,k⟩:=b0;have e:=B.symm.trans (df X G a);cases e;have T:cq mg:=⟨dO X G b8,dO X G b9,dO X G ca,dO X G cb,dO X G cc,dO X G ce,dO X G cf,dO X G cg,dO X G ch,dO X G ci,dO X G cj,dO X G cl⟩;have SC:SCls K Cs:=⟨⟨pg,hd,po,sa⟩,b4,b5,b6,b7⟩;simp only[ckM,eF] at r;obtain⟨_,_,U1⟩:=bC X G h1;obtain⟨_,_,U2⟩:=bC X G h2;obtain⟨_,_,U3⟩:=bC X G h3;obtain⟨_,_,U4⟩:=bC X G h4;obtain⟨_,_,U5⟩:=bC X G h5;obtain⟨_,_,U6⟩:=bC X G h6;obtain⟨_,_,U7⟩:=bC X G h7;obtain⟨_,_,U8⟩:=bC X G h8;obtain⟨_,_,U9⟩:=bC X G h9;obtain⟨_,_,cs⟩:=bC X G ad;obtain⟨_,_,cx⟩:=bC X G al;obtain⟨_,_,cz⟩:=bC X G am;obtain⟨_,_,c3⟩:=bC X G ap;obtain⟨_,_,c4⟩:=bC X G au;obtain⟨_,_,c5⟩:=bC X G a0;obtain⟨_,_,c6⟩:=bC X G a1;obtain⟨_,_,c8⟩:=bC X G a2;obtain⟨_,_,da⟩:=bC X G a3;obtain⟨_,_,db⟩:=bC X G a4;obtain⟨_,_,dd⟩:=bC X G a5;obtain⟨_,_,dj⟩:=bC X G bb;obtain⟨_,_,dk⟩:=bC X G bd;obtain⟨_,_,dl⟩:=bC X G be;obtain⟨_,_,dm⟩:=bC X G bg;obtain⟨_,_,dp⟩:=bC X G bi;obtain⟨_,_,dr⟩:=bC X G bl;obtain⟨_,_,ds⟩:=bC X G bm;obtain⟨_,_,dt⟩:=bC X G bn;obtain⟨_,_,dx⟩:=bC X G bt;obtain⟨_,_,dy⟩:=bC X G bw;obtain⟨_,_,dA⟩:=bC X G bx;obtain⟨_,_,dB⟩:=bC X G bA;obtain⟨_,_,dF⟩:=bC X G bK;obtain⟨_,_,dK⟩:=bC X G bL;obtain⟨_,_,dL⟩:=bC X G bR;obtain⟨_,_,dT⟩:=bC X G bS;obtain⟨eb,ec,ed,ee,eh,ei,ej,ek,el,em,u,x,dV,d0,d1⟩:=b1;obtain⟨en,eo,ep,eq,es,et,eu,ev,ew,ex,y,z,d2,d3,d4⟩:=b2;obtain⟨ey,ez,eE,eH,eT,e3,e4,e5,e6,e7,d5,d6,d7,d8,d9⟩:=b3;exact⟨W.fnOf "law" "law" (dn gw) (cT gw) (aC gw) .none kV dc pm an cd ct,λs v=>.of_eq rfl,λbase _ _=>all_ok T (dO X G cm) (dO X G cn) (dO X G co) (dO X G cp) (dO X G cr) SC ⟨mk,u,x,kc⟩ (df X G aM) (df X G C) (df X G D) (df X G E) (df X G H) (df X G I) (df X G L) (df X G M) (df X G N) (df X G O) (df X G P) (df X G Q) (df X G R) (df X G U) (df X G Y) (df X G Z) (df X G ab) cS y3 e0 e1 e2 o2 ⟨r.1,y,beq_iff_eq.mp z,r.2⟩ n0 n1 U1 U2 U3 U4 U5 U6 U7 U8 U9 cs cx cz c3 c4 c5 c6 c8 da db dd dj dk dl dm dp dr ds dt dx dy dA dB dF dK dL dT (xS (st:=gw) X G a l c k) (r_ (st:=fW) u x dV d0 d1) (r_ (st:=ib) y z d2 d3 d4) (r_ (st:=g_) d5 d6 d7 d8 d9)⟩
theorem walk{l:W.OpenLaw}{q:Program}{loose:List Str}{XP:(Str->Option Value)->Heap->Prop}{YP:World->Heap->Prop}{d:DefRec}{K:Params->W.Frag}(b:l.most=some 63)(c:d.params.defaults=[])
  (e:∀(w:World)(h:Heap),YP w h->(K w.params).In h) (g:∀(w:World)(a:Addr)(o:Obj),(K w.params).lookup a=some o->o.cls≠.type "list")
  (F:∀(w:World)(mg:Str->Option Value)(fa:Addr)(h:Heap),(K w.params).In h->h.Ns mainGlobals mg->mg d.name=some (.ref fa)->
   ∃fd:FuncData,(∀(s:Shared)(u:Value),BindsTo s fd ⟨[u],[]⟩ [("_law_script",u)])/\∀base:Heap,(K w.params).In base->base.Ns mainGlobals mg->aj l.prog w (K w.params) mg base CX0 10 fa fd ["_law_script"] (mx (K w.params))) :
  W.WalkO q loose XP YP l.row.toRowW d [] (λf vs=>PySem.call f vs):=
 L2.walk_of (n:=63) (k:=10) (x:="_law_script") (CX:=λ_=>CX0) (sp:=λw=>mx (K w.params)) b (by decide) c ⟨rfl,by decide,by decide,rfl⟩ e F g (λ_ _ a ns i _ j=>⟨a,ns,rfl,j,i,λ_=>rfl⟩) λ_ _ _ _ _ z=>z
end K15
end
namespace K15
open PySem L2 PySem.W K51
theorem kf_nl(P:Params)(a:Addr)(o:Obj)(h:(kf P).lookup a=some o):o.cls≠.type "list":=zg (show _=true by kernel_rfl) h
end K15
def PySem.W.Fast.tw13662416050921663275:PySem.Program:=PySem.Challenge.pw_shapestring_k14_texts_spoilt
theorem PySem.W.Fast.te13662416050921663275:PySem.Challenge.pw_shapestring_k14_texts_spoilt=PySem.W.Fast.tw13662416050921663275:=rfl
open PySem PySem.W PyProof.Rows
set_option maxRecDepth 100000 in
set_option maxHeartbeats 0 in
theorem PySem.Challenge.cw_shapestring_k14_texts_spoilt_holds : PySem.Challenge.rw_shapestring_k14_texts_spoilt.Holds := by
 w_on;o_law
 refine W.holds_open (q:=K15.view) (loose:=[]) (Xt:=λs=>xlAt K15.view [] s&&recOk [] s) (XP:=XL K15.view []) (Yf:=Hook.obs (kHook K15.kf K15.ads (λ_=>by kernel_rfl))) (Ya:=Hook.val (kHook K15.kf K15.ads (λ_=>by kernel_rfl))) (YP:=Hook.says (kHook K15.kf K15.ads (λ_=>by kernel_rfl))) (N:=9630) K15.left (Hook.of _) (Hook.keeps _)
  (λs e=>xl_of s (J_.mp e).1) XL.keeps (by rfl) (by rfl) (by rfl) (λs e=>recFacts_of (J_.mp e).2) (by rfl) (by assumption) (by decide +kernel) ⟨rfl,rfl,rfl,rfl,rfl,by decide +kernel⟩ ?hw ?hc
 case hw=>w_witness2
 k_fill
 refine K15.walk (l:=PySem.Challenge.rw_shapestring_k14_texts_spoilt) rfl rfl (λw h Y=>W.kIn_of Y) (λw=>K15.kf_nl w.params) ?F
 case F=>
  intro w mg fa h KX G hmg
  refine' K15.all_mk KX G hmg ?aCs ?aS ?ac0 ?ac1 ?ac2 ?av1 ?av2 ?au1 ?au2 ?au3 ?au4 ?au5 ?au6 ?au7 ?au8 ?au9 ?aM ?_ ?_ ?_ ?_ ?_ ?_ ?_ ?_ ?_ ?_ ?_ ?_ ?_ ?_ ?_ ?_ ?_ ?_ ?_ ?_ ?_ ?_ ?_ ?_ ?_ ?_ ?_ ?_ ?_ ?_ ?_ ?_ ?_ ?_ ?_ ?_ ?_ ?_ ?_ ?_ ?_ ?_ ?_ ?_ ?_ ?_ ?_ ?_ ?_ ?_ ?_ ?_ ?_ ?_ ?_ ?_ ?_ ?_ ?_ ?_ ?_ ?_ ?_ ?_ ?_ ?_ ?_ ?_ ?_ ?_ ?_ ?_ ?_ ?_ ?_ ?_
  (case aCs=>k_is);(case aS=>k_is);(case ac0=>k_is);(case ac1=>k_is);(case ac2=>k_is);(case av1=>k_is);(case av2=>k_is);(case au1=>k_is);(case au2=>k_is);(case au3=>k_is);(case au4=>k_is);(case au5=>k_is);(case au6=>k_is);(case au7=>k_is);(case au8=>k_is);(case au9=>k_is);(case aM=>k_is)
  all_goals first|k_is|(refine' K15.top_in ?a ?l ?c ?k;(case a=>k_is);(case l=>k_is);(case c=>k_is);(case k=>k_is))|(refine' K15.in_in ?a ?i ?l ?c ?k;(case a=>k_is);(case i=>k_is);(case l=>k_is);(case c=>k_is);(case k=>k_is))|kernel_rfl
#print axioms PySem.Challenge.cw_shapestring_k14_texts_spoilt_holds

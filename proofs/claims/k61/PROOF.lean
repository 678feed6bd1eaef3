import PyProof.Rows.All
import Wide.All
import OpenK.AllK
import Wide.FinOn
import Lean
import PyProof.EqAt
import PyProof.EqKinds
import PyProof.TupleCall
import PyProof.NeData
import PyProof.P3In
import PyProof.DictItems
import KE.KPairComp
import PyProof.Rows.Chain
import PyProof.DictCompW
import PyProof.AttrMissHeap
import PyProof.Rows.ZipGen
import PyProof.ListNew
import PyProof.MeetsSeq3
import KE.KEqDict
import PyProof.Rows.CountFlat
import Open.Pieces
import Open.Seg
import KE.KRevSl
import PyProof.Draws
import PyProof.EnumMake
import KE.KItemsList
import PyProof.ReprRoads
import KE.KTryMore
import PyProof.DictUpdate
import PySem.Challenge.RW_shapestring_k61_deeds_told
set_option Elab.async false
set_option linter.all false
set_option maxRecDepth 100000
set_option maxHeartbeats 0
set_option compiler.extract_closed false
def sT_:List String:=["_law_triples","_law_pot_here","BaseException.__getattribute__","shapestring.errors","BaseException","_law_thirds_here","_law_triple","_law_deed_here","shapestring.changes","_law_corner","shapestring.skins","ValueError.__new__","_law_script","object.__class__","__init__","dict_itemiterator","_law_corners","__static_attributes__","__debug__","triangles_without","tuple","ValueError","ShapeError","look_rounds_through","look_corner_through","_law_thirds","type.__call__","getset_descriptor.__get__","list","look_side_through","_law_most","_law_digit","__firstlineno__","__getattribute__","_law_rim_sides","object.__setattr__","steps_by_corner","checked_triples","_law_side","skin","/claim/cut.py","triples_behind","thirds_by_side","thing","_law_sides","triangles","object.__getattribute__","hang_together","_law_base","_law_a","triples","begun_least","_law_skin_here","checked_deed","triple","sorted","_law_one","__module__","turned_over","pairs_about","is_corner","_law_others","_law_beside","_law_behind","_law_answer","__setattr__","__class__","self","ExceptionGroup.__weakref__","dict","_law_b","fault","getset_descriptor","_law_split","_law_named","_law_k","_law_grown","_law_free","_law_fans","_law_drawn","_law_new","__weakref__","StopIteration","list.extend.loop","dict_keyiterator","taken_out","rim_steps","object","is_triple","enumerate","_law_told","_law_skin","_law_ring","_law_rims","_law_deed","Spoilt.__init__","NoSkin.__init__","isinstance","_law_rim"]
def nC_(m:Lean.TSyntax `Lean.Parser.Command.declModifiers):Lean.MacroM (Lean.TSyntax `Lean.Parser.Command.declModifiers):=if m.raw[4].isNone then pure ⟨m.raw.setArg 4 (Lean.mkNullNode #[Lean.Syntax.node .none `Lean.Parser.Command.noncomputable #[Lean.mkAtom "noncomputable "]])⟩ else Lean.Macro.throwUnsupported
def sQ_:Nat->List Nat
 |1=>[1]
 |2=>[0,1]
 |3=>[0,1,0,1]
 |4=>[0,0,0,1,1]
 |5=>[1,1]
 |6=>[0,0,1,1]
 |7=>[1,0,1]
 |8=>[0,0,0]
 |9=>[0,0,1]
 |0=>[0,0]
 |_=>[]
def eX_(xs:Array (Lean.TSyntax `term)):Lean.MacroM (Array (Lean.TSyntax `term)):=do
 let mut o:=Array.empty
 for x in xs do
  match x.raw.isNatLit? with
  |some k=>for s in sQ_ k do o:=o.push (<-if s==0 then `(_) else pure (Lean.mkIdent `rfl))
  |none=>o:=o.push x
 return o
def pT_:Nat->Lean.TSyntax `term->Lean.MacroM (Lean.TSyntax `rcasesPat)
 |0,_=>Lean.Macro.throwUnsupported
 |n+1,s=>match s with
  |`(#[$xs,*])=>do
   let ys<-(<-eX_ xs.getElems).mapM (pT_ n)
   `(rcasesPat|⟨$[$ys:rcasesPat],*⟩)
  |`(_)=>`(rcasesPat|_)
  |`($x:ident)=>`(rcasesPat|$x:ident)
  |_=>Lean.Macro.throwUnsupported
local macro_rules | `($m:declModifiers def $i:declId $s:optDeclSig $v:declVal) => do `($(<-nC_ m):declModifiers def $i:declId $s:optDeclSig $v:declVal) | `($m:declModifiers abbrev $i:declId $s:optDeclSig $v:declVal) => do `($(<-nC_ m):declModifiers abbrev $i:declId $s:optDeclSig $v:declVal)
local macro_rules | `(#[$xs,*]) => do let ys <- eX_ xs.getElems; `(⟨$ys,*⟩)
local macro_rules | `(tactic| erw [$rs,*]) => do let ts : Array (Lean.TSyntax `term) := rs.getElems.map fun r => ⟨r.raw[1]⟩; `(tactic| refine #[$ts,*])
local macro_rules | `(tactic| let $x:ident $bs* $[: $t]? := $e) => `(tactic| have $x:ident $bs* $[: $t]? := $e) | `(tactic| let $p:term $[: $t]? := $e) => do let q <- pT_ 20 p; match t with | some t => `(tactic| obtain $q:rcasesPat : $t := $e) | none => `(tactic| obtain $q:rcasesPat := $e)
local macro_rules | `($a *> $b) => `($a = some $b)
local macro_rules | `($f $xs* >> $a) => `($f $xs* _ _ $a) | `($f >> $a) => `($f _ _ $a)
local macro_rules | `(!$f:ident $xs*) => do if f.getId ∈ [`gW,`aj,`fZ,`rV,`Use,`vS] then let i := fun (x : String) => Lean.mkIdent (Lean.Name.mkSimple x); `($f $(i "P") $(i "w") $(i "K") $(i "mg") $(i "base") $xs*) else Lean.Macro.throwUnsupported
local macro_rules | `($f $xs* \ $a) => `($f $xs* $a) | `($f \ $a) => `($f $a)
local macro_rules | `($a <* $b) => `(($a).trans $b)
local macro_rules | `(↑$a) => `(($a).length)
local macro_rules | `(↑$n:num) => pure (Lean.Syntax.mkStrLit (sT_.getD n.getNat ""))
local macro_rules | `(!$n:num) => do let ps := (List.replicate n.getNat (<- `(rcasesPat|_)) ++ [<- `(rcasesPat|$(Lean.mkIdent `rfl):ident), <- `(rcasesPat|_)]).toArray; `(by rintro _ _ _ _ ⟨$[$ps:rcasesPat],*⟩;rfl)
local macro_rules | `($n:num \ $o) => `((nat_lit $n,$o))
local macro_rules | `(.f) => `(⟨rfl,rfl,rfl,by decide +kernel,rfl,by decide +kernel,by decide +kernel⟩)
local macro_rules | `(()) => `(by lia)
local macro_rules | `(∅) => `(by simp)
local macro_rules | `(⋯) => `(by decide +kernel)
local macro_rules | `(tactic| show $e:term) => `(tactic| refine $e)
local macro_rules | `(↥$x) => `(($x).heap.objs.size)
local macro_rules | `(⇑$x) => `(PySem.model ($x).prog ($x).w)
local macro_rules | `(‹$e›) => `(by simpa using $e)
open Array renaming getElem?_eq_some_iff->f_,length_toList->gg,toList_push->iw,getElem?_toList->jB,toList_inj->oH,getElem?_setIfInBounds_ne->sN,toList_extract->wd,toList_map->we,getElem?_eq_getElem->Ck,forIn_toList->Oh,getElem?_eq_none->Oi,getElem_setIfInBounds->Oj,perm_iff_toList_perm->Ol,size_push->Om,size_setIfInBounds->On,toList_append->Oo,toList_reverse->Oq
open Array.Perm renaming refl->Og
open Bool renaming false_ne_true->bG,eq_iff_iff->eW,and_eq_true->g_,false_eq_true->jC,and_eq_true_iff->wg,or_true->wj,eq_false_iff->Os,not_eq_true'->Ot,or_false->Ou
open Classical renaming byContradiction->iV
open Int renaming toNat_of_nonneg->jE,toNat_natCast->my,emod_lt_of_pos->sQ,emod_nonneg->sR,le_trans->wk,ofNat_inj->Cn,natCast_mul->OB
open List renaming length_map->av,mem_map->ax,mem_singleton->aG,getElem?_eq_some_iff->aN,mem_cons->aT,getElem?_eq_getElem->aU,map_append->aW,mem_of_getElem?->a9,length_append->bj,mem_append->bo,map_cons->br,getElem?_map->bu,length_take->bz,take_add_one->bE,size_toArray->bJ,take_length->cn,length_cons->cv,length_singleton->cw,map_map->cz,nodup_append->cW,mem_cons_of_mem->de,length_filter_le->dI,getElem?_append_left->dZ,mem_append_left->d_,mem_filter->ef,length_drop->eF,nodup_cons->eO,append_nil->eX,mem_iff_getElem?->eY,not_mem_nil->eZ,filter_cons->fi,mem_append_right->fj,filter_append->fT,append_assoc->gi,getElem?_of_mem->gj,mem_cons_self->gk,pairwise_map->gq,take_append_drop->gr,getElem?_append_right->hJ,length_pos_iff->hU,mem_range->iy,drop_eq_getElem_cons->iW,mem_flatMap->iX,take_of_length_le->iY,all_eq_true->jF,getLast?_eq_getElem?->jG,lookup_cons->jH,perm_append_comm->jI,eraseIdx_sublist->ko,getElem_mem->kq,length_nil->kr,nodup_nil->ku,any_eq_true->mz,filter_nil->mB,getElem?_zip_eq_some->mE,length_range->mF,mem_flatten->mG,any_cons->oJ,find?_cons->oK,map_take->oM,contains_cons->sU,ext_getElem->sV,filter_congr->sW,getElem?_eq_none->sX,getElem?_take_of_lt->s_,map_congr_left->tj,of_mem_zip->tm,pairwise_singleton->tq,any_map->wt,exists_mem_of_ne_nil->wu,ext_getElem?->wx,extract_eq_take_drop->wz,filter_eq_nil_iff->wA,filter_eq_self->wB,getElem?_drop->wC,getElem?_set_ne->wD,getElem?_set_self->wF,length_eq_zero_iff->wG,length_eraseIdx_of_lt->wH,mem_filterMap->wI,pairwise_append->wJ,pairwise_cons->wK,pairwise_iff_getElem->wL,take_zero->wM,all_cons->Cr,drop_eq_nil_of_le->Ct,drop_length->Cu,drop_zero->Cv,exists_cons_of_length_eq_add_one->Cw,filterMap_cons->Cz,filter_filter->CA,foldl_cons->CB,forIn_cons->CC,getElem?_replicate->CD,head?_eq_getElem?->CF,map_drop->CG,map_eq_nil_iff->CH,map_id->CI,map_nil->CJ,perm_ext_iff_of_nodup->CK,all_map->OD,any_eq_false->OE,drop_drop->OF,drop_of_length_le->OG,filter_sublist->OH,flatten_append->OI,foldl_append->OJ,foldl_nil->OL,forIn_nil->OM,getElem?_cons_succ->ON,getElem?_eq_none_iff->OO,getElem?_range->OP,length_zip->OQ,mem_of_mem_take->OR,nil_append->OS,nodup_range->OT,zip_cons_cons->OU,toArray->tA
open List.Pairwise renaming imp_of_mem->wm
open List.Perm renaming of_eq->wq,eq_of_pairwise->Cp
open List.Sublist renaming map->Cq,refl->OC,append->Qy
open Nat renaming le_refl->aq,zero_le->a_,ne_of_lt->bB,lt_of_lt_of_le->bU,le_trans->cR,lt_irrefl->dD,lt_succ_self->hV,lt_succ_of_lt->kB,ne_of_gt->kD,zero_add->kE,le_succ->mH,le_add_right->oN,le_of_lt->oO,lt_trans->oP,add_le_add_left->tu,mod_lt->tw,add_sub_cancel->wN,add_zero->wO,le_of_eq->wQ,lt_of_le_of_lt->wR,max_eq_right->wU,min_eq_left->wV,add_sub_cancel_left->CL,le_of_not_lt->CN,log2_lt->CO,min_le_right->CP,pow_le_pow_right->CQ,sub_self->CS,add_assoc->OV,add_comm->OW,add_lt_add_left->OX,le_of_lt_succ->OY,mul_le_mul->OZ,mul_pos->O0,not_lt_zero->O1,sub_zero->O2
open Nat.succ renaming inj->CT
open Ne renaming symm->aA
open Option renaming map_eq_some_iff->cA,isSome_iff_exists->oQ,map_some->oR,getD_some->wX,isSome_map->CU,bind_some->O3,getD_none->O4
open Option.some renaming inj->eg,injEq->Qz
open Prod renaming ext->mI
open Prod.mk renaming inj->kH,injEq->O6
open PyProof.Rows renaming wpS_bind->aB,wpS_pure->aL,wpS_forRange->fk,wpS_mono->fH,boot_isinstance->gv,boot_int->iz,wpS_get->i6,boot_tuple->jJ,wpS_modify->jL,slot_tuple_getitem->kI,boot_list->oU,callWith_type1->oV,boot_max->wZ,Subscript_->w8,reverseSlice'_eq->xg,slicePart_none->xh,args_tuple_getitem->C8,assignInOrder_cons->C9,entry_tuple_getitem->Dc,tupleItemsOf_->Di,boot_any->O8,boot_dict->O9,args_list_sort->PQ,assignInOrder_nil->PR,entry_list_sort->P0,slot_list_sort->P8,slot_tuple_getitem->P9,subscriptTail_builtinR->P_,boot_bool->QA,boot_range->QB,boot_str->QC,callWith_builtin1->QD,floordiv_int->QE,lt_int->QF
open PyProof.Rows.IsTup renaming new->sS
open PySem renaming wpAny_bind->aa,wpAny_pure->ai,wpAny_mono->bZ,wpAny_field->cD,wpAny_holding->cX,sizeLine_eq->cY,wpAny_newObj_type->eQ,wpAny_call_entry->gA,wpAny_loadPart_at->gB,wpAny_setField->gC,codeAny_builtin->iA,wpAny_truthy_bool->iB,plainId_quiet->iZ,wpAny_attempt->i5,wpAny_callSpecial?_slot->jK,wpAny_call->kK,wpAny_fieldsOf->kL,wpAny_standAt->kM,wpAny_typeOf->kN,call_meetsIn->mL,wpAny_isSubtype_exc->mO,wpAny_of_eq->mP,wpAny_passesOwn->mQ,wpAny_updateSeq->mT,mem_of_lookup->oX,codeAny_mono->oZ,tupleKind_room_in1->o_,wpAny_Call_Name_kw->pb,wpAny_dictEntries->pd,wpAny_dictEpoch->pf,wpAny_execs_nil->ph,wpAny_letGo->pj,wpAny_seqItems->pk,wpAny_setField_rec->pA,call_meets->tI,wpAny_pyIter_list->tJ,wpAny_rule->tK,wpAny_tryCatch->tL,codeAny_call_builtin->w9,wpAny_isOneOf_itemiter->xi,wpAny_throw->xj,wpAny_typeNameOfWhole_itemiter->xl,wpAny_typeNameOfWhole_keyiter->xm,wpAny_typeNameOf_itemiter->xn,wpAny_typeNameOf_keyiter->xo,call_meets->C_,codeAny_handlers_test->Da,evalPart_none->Dd,isSubtype_stop->De,join_length_add->Df,seqIndex_neg->Dg,seqIndex_of->Dh,wpAny_Call_method->Dj,wpAny_Name->Dk,wpAny_bindName->Dl,wpAny_comprehension_free->Dm,wpAny_eqBool_int->Do,wpAny_handleBy_cons->Dp,wpAny_handled->Dq,wpAny_isInstance->Dr,wpAny_isOneOf_keyiter->Ds,wpAny_loadPart->Du,wpAny_loadPart'->Dv,wpAny_newTuple->Dw,wpAny_notOrdered_dict->Dx,wpAny_pyIter_zip->Dy,wpAny_sequenceKey->Dz,wpAny_specialOf->DA,boot_len->PK,builtinLookup_eq_fast->PU,callType_codes->PV,codeAny_call_function->PX,codeAny_handlers_suite_as->PY,entryFor_of_tree->PZ,fitsIndex_both->P2,noFill_tuple_add->P3,pastItsLine_dict->P4,plainObj_wpAny_Assign_Attribute->P5,pyReprObj_of_reads->P6,slot_list_getitem->P7,typeLookup_type->Qa,wpAny_Call_method_late->Qb,wpAny_Compare1->Qc,wpAny_Dict_empty->Qd,wpAny_Try_except->Qe,wpAny_assign_Name->Qf,wpAny_entryPlaceOf->Qg,wpAny_execs_cons->Qh,wpAny_forIn_list->Qi,wpAny_frameOf_fun->Qj,wpAny_isTrue_Compare1->Qk,wpAny_lookBehind->Ql,wpAny_newFunctionEnv->Qm,wpAny_newFunctionEnv_cells->Qn,wpAny_nextOf_list_item->Qo,wpAny_pyIter_enum->Qp,wpAny_pyIter_keyiter->Qr,wpAny_pyIter_slot->Qs,wpAny_pyIter_tuple->Qt,wpAny_pyNext_list_end->Qu,wpAny_pyNext_list_item->Qv,wpAny_pyNext_zip_item->Qw
open PySem.Around renaming under_plainId->iU
open PySem.AutoSeq1 renaming wpAny_loadPart'->fR,list_insert_list_int_val_1->QG,wpAny_loadPart'->QH
open PySem.Calls renaming callWith_builtin->mv,evalArgs_plain->mw,spliced_cons->oI,spliced_nil->sO,Name_function_global->Ov
open PySem.CmpOf renaming ints_lt->Ow
open PySem.Code renaming quiet_builtin->Ox
open PySem.EqMixed renaming eq_bool_str->QI,eq_int_str->QJ,eq_str_bool->QK,eq_str_int->QL,ne_bool_str->QM,ne_int_str->QN,ne_str_bool->QO,ne_str_int->QP
open PySem.EqNone renaming eq_bool_none->QR,eq_int_none->QS,eq_none_bool->QT,eq_none_int->QU,eq_none_none->QV,eq_none_str->QW,eq_str_none->QX,ne_bool_none->QY,ne_int_none->QZ,ne_none_bool->Q0,ne_none_int->Q1,ne_none_none->Q2,ne_none_str->Q3,ne_str_none->Q4
open PySem.F renaming plainAttrs_list->eG,slot_list_append->gw,type_list_append->gz,plain_min_loop->mJ,slot_dict_get->oW,excBase_ValueError->tE,plainAttrs_dict->tF,slot_dict_itemiterator_next->tG,slot_dict_keyiterator_next->tH,entry_dict_get->w4,entry_min_loop->CV,slot_list_getattribute->CW,slot_list_insert->CY,slot_tuple_index->CZ,args_dict_get_2->O_,args_dict_get_3->Pa,args_dict_itemiterator_next_1->Pb,args_dict_keyiterator_next_1->Pc,args_tuple_add_2->Pd,entry_dict_itemiterator_next->Pe,entry_dict_keyiterator_next->Pf,entry_tuple_add->Pg,plainAttrs_tuple->Ph,slot_dict_items->Pi,slot_dict_items_iter->Pj,slot_dict_iter->Pk,slot_dict_pop->Pl,slot_dict_setdefault->Pm,slot_dict_values->Pn,slot_list_lt->Po,slot_list_pop->Pp,slot_tuple_add->Pq,type_dict_get->Pr,type_list_insert->Pt,type_list_pop->Pu,type_tuple_index->Pw
open PySem.Heap renaming lt_size->aJ,get?_push_of_some->aO,get?_push_size->bI,get?_update_other->dY,get?_update_self->fh,get?_none_of_le->jD,size_push->km,get?_update_ne->sP,get?_push_at->OA
open PySem.Heap.DictOf renaming new->Qx
open PySem.Heap.IsSliceOf renaming new->Oy
open PySem.Heap.Ns1 renaming of_empty->Oz
open PySem.Heap.SameBut renaming update->Cm
open PySem.MeetsSeq3 renaming plain_eq_loop->w5,entry_eq_loop->Px
open PySem.Obj renaming data_mapFields->kF,isFreed_of_fields->kG,cls_mapFields->wW
open PySem.Paired renaming length->oS,snoc->O5
open PySem.PassesOwn renaming never->dq,leaving->wY
open PySem.PyData renaming noDict_hsm->O7
open PySem.SeqAt renaming in_tupleAt->PP,compareEq_reads->Q6,compareNe_reads->Q7,eqAt_reads->Q8,in_list_reads->Q9,in_tuple_reads->Q_,notIn_list_reads->Ra,notIn_tuple_reads->Rb
open PySem.SeqAt.EqAt renaming int_int->PL,int_str->PM,str_int->PN,bool_bool->Rg,bool_int->Rh,bool_none->Ri,bool_str->Rj,int_bool->Rk,int_none->Rl,none_bool->Ro,none_int->Rp,none_str->Rq,same->Rr,str_bool->Rt,str_none->Ru,str_str->Rv
open PySem.SeqAt.ReadsAll renaming length->Q5
open PySem.Str renaming length_append->kJ
open PySem.W renaming mg_of->dO,mg_none_of->eP,kia_one->hX,looks_findIn->w_,any_some->C0,callWith_K->C1,cellsFrom_some->C3,looks_clsIn->C4,looks_findIn->C5,plainGet_of->C6,bind_fn->Py,codeRec_of->Pz,kitx_dict->PB,kitx_list->PD,methodCall_KW->PF,set_plain->PH
open PySem.W.KIN renaming signs_num->Rc
open PySem.W.Looks renaming here->Re
open PySem.Walks renaming list->C7
open PySem.Within renaming cons->Rf
open Std.Legacy.Range renaming forIn_eq_forIn_range'->Rw
open Sum.inl renaming inj->oY
open Option renaming none->n7,some->oy
open Bool renaming true->oD,false->p6
open PySem renaming Value->pC,Addr->pR,Shared->pS,wpAny->q7,sizeLine->qs,mainGlobals->r4,starEach->r6,model->rb,FuncData->ro,Program->rp,Heap->rq,Expr->ry,Stmt->rz,World->sf,compareOp->sD,eval->sZ,sysModules->tf,backTo->tD,excClassObj->vb,codeAny->vc,rawInt->vf,cLine->vk,PyData->vu,DictEntry->vT,pyNext->wb,treeTable->wh,importedModules->yl,bootBuiltins->yF,argBest->yT,OsState->yZ,Around->z3,behindInMarks->z4,attributeBase->CM,setFlight->D0
open PySem.W renaming behindTheImports->Fd,boot_heap->GG
open PyProof.Rows renaming Keyed->I7,pendingOf->J0,SortSt->J2,IntsAre->L3,arrOf->L4,failedOf->Lf,SortKind->LI
def Rx.{u}{c : Prop}{h : Decidable c}(a : ¬c){α : Sort u}{t e : α}: (if c then t else e)=e := if_neg a
def Ry.{u}{c : Prop}{h : Decidable c}(a : c){α : Sort u}{t e : α}: (if c then t else e)=t := if_pos a
def Rz{p : Prop}[h : Decidable p](a : p): decide p=oD := decide_eq_true a
def RA{p : Prop}[h : Decidable p](a : ¬p): decide p=p6 := decide_eq_false a
def RB{p : Prop}[h : Decidable p](a : decide p=oD): p := of_decide_eq_true a
abbrev P_W:=PySem.Challenge.pw_shapestring_k61_deeds_told
variable {RC:List (PySem.Addr×PySem.Obj)}{s:PySem.Shared}{P:PySem.Program}{w:PySem.World}{A:PySem.Around}{mg:PySem.Str->Option PySem.Value}{base:PySem.Heap}{us:List PySem.Value}{E:PySem.Value->PySem.Shared->Prop}{fd:PySem.FuncData}{K:PySem.W.Frag}{scope:PySem.Scope}
namespace L2
open PySem
def fe(s:rz):Arguments:=match s with
 |.FunctionDef _ a _ _ _ _ _ _ _ _=>a
 |_=>{posonlyargs:=[],args:=[],vararg:=n7,kwonlyargs:=[],kw_defaults:=[],kwarg:=n7,defaults:=[]}
def dS(s:rz):List Stmt:=match s with
 |.FunctionDef _ _ b _ _ _ _ _ _ _=>b
 |_=>[]
def au(s:rz):Scope:=match s with
 |.FunctionDef _ _ _ _ _ _ sc _ _ _=>sc
 |_=>{kind:=.function,names:=[],isGenerator:=p6,isCoroutine:=p6}
end L2
namespace K51
open PySem L2
def NP:Nat:=55
def aw(i:Nat):Stmt:=P_W.main.body.getD i\.Pass #[(0),(0),(0),(0)]
def top(i:Nat):Stmt:=aw (NP+i)
def lF(c j:Nat):Stmt:=match aw c with
 |.ClassDef _ _ _ body _ _ _ _ _ _ _=>body.getD j\.Pass #[(0),(0),(0),(0)]
 |_=>.Pass #[(0),(0),(0),(0)]
abbrev nU:Stmt:=lF 13 0
abbrev m_:Stmt:=lF 14 0
abbrev qH:Stmt:=aw 17
abbrev pQ:Stmt:=aw 18
abbrev qT:Stmt:=aw 20
abbrev qj:Stmt:=aw 21
abbrev pH:Stmt:=aw 22
abbrev pO:Stmt:=aw 24
abbrev qm:Stmt:=aw 26
abbrev pP:Stmt:=aw 29
abbrev nC:Stmt:=aw 30
abbrev qo:Stmt:=aw 31
abbrev qI:Stmt:=aw 32
abbrev rO:Stmt:=aw 33
abbrev qM:Stmt:=aw 34
abbrev qW:Stmt:=aw 35
abbrev j7:Stmt:=lF 36 0
abbrev nh:Stmt:=lF 36 1
abbrev ni:Stmt:=lF 36 2
abbrev n_:Stmt:=lF 36 3
abbrev lB:Stmt:=aw 41
abbrev pG:Stmt:=aw 42
abbrev mV:Stmt:=aw 43
abbrev pB:Stmt:=aw 44
abbrev mU:Stmt:=aw 45
abbrev kP:Stmt:=aw 46
abbrev kT:Stmt:=aw 47
abbrev nR:Stmt:=aw 48
abbrev lO:Stmt:=aw 49
abbrev og:Stmt:=aw 50
abbrev nW:Stmt:=aw 51
abbrev mY:Stmt:=aw 52
abbrev jb:Stmt:=aw 53
abbrev sAt:Stmt:=top 0
abbrev sy:Stmt:=top 1
abbrev qV:Stmt:=top 2
abbrev qK:Stmt:=top 3
abbrev qk:Stmt:=top 4
abbrev rP:Stmt:=top 5
abbrev p5:Stmt:=top 6
abbrev rQ:Stmt:=top 7
abbrev qJ:Stmt:=top 8
abbrev qU:Stmt:=top 9
abbrev pL:Stmt:=top 10
abbrev ql:Stmt:=top 11
abbrev qP:Stmt:=top 12
abbrev pY:Stmt:=top 13
abbrev qO:Stmt:=top 14
abbrev qL:Stmt:=top 15
abbrev rL:Stmt:=top 17
abbrev qQ:Stmt:=top 18
abbrev pX:Stmt:=top 19
abbrev pZ:Stmt:=top 20
abbrev rN:Stmt:=top 21
abbrev rM:Stmt:=top 22
abbrev p4:Stmt:=top 23
abbrev qR:Stmt:=top 24
abbrev jz:Stmt:=top 25
end K51
namespace K15
open PySem L2 PySem.W K51
def cO'(x y:Str)(t l n a b:Nat):Obj:=#[.type "code",n7,.fields\tA [.str x t,.str y (t+1),.str ↑40 (t+2),.int l 0,.int n 0,.int 0 0,.int 0 0,.int 3 0,.ref a,.bool oD,.int 181 0,.ref (a+1),.none,.ref (a+2),.ref (a+3),.ref (a+4),.int b 0,.int l 0,.str ↑40 (b+1)],(tA [])]
def cN'(x y:Str)(t l n a b:Nat):Obj:=#[.type "code",n7,.fields\tA [.str x t,.str y (t+1),.str ↑40 (t+2),.int l 0,.int n 0,.int 0 0,.int 0 0,.int 3 0,.ref a,.bool oD,.int 181 0,.ref (a+1),.none,.none,.none,.ref (a+2),.int b 0,.int l 0,.str ↑40 (b+1)],(tA [])]
def fO'(x y:Str)(s:rz)(m:Str)(t c:Nat):Obj:=#[.type "function",n7,.func\fnOf x y (fe s) (dS s) (au s) .none .none .none (.str m t) n7 (.ref c) .none,(tA [])]
def dE(P:Params)(x:Str)(t:Nat)(v:pC):DictEntry:=PySem.DictEntry.mk (PySem.PyData.keyHash P x) (.str x t) v
def cO(x:Str):=cO' x x
def cN(x:Str):=cN' x x
def fO(x:Str):=fO' x x
def fL(x:Str)(s:rz):=fO x s "law_shapestring_k61_deeds_told" 778
def eC(x:Str)(b a r k:Nat):Obj:=#[.type "type",n7,.cls\PySem.ClassData.mk x [.ref b] [.ref a,.ref b,.type ↑21,.type "Exception",.type ↑4,.type ↑87] (a-1) x oD [] [] p6 n7 p6,(tA [oy\.ref r,n7,oy\.str x k,oy\.str x (k+8),oy\.builtin ↑11,oy\.bool oD])]
def eD(P:Params)(m:Str)(c k l a:Nat):Obj:=#[.type ↑69,n7,.dict (tA [dE P ↑57 k\.str m c,dE P ↑32 (k+4)\.int l (k+3),dE P ↑17 (k+5)\.ref (a-1),dE P "__doc__" (k+6) .none]) 2,(tA [])]
def kf:Params->Frag:=λP=>
 2\#[.none,n7,(.dict (tA []) 0),(tA [])]::
 3\#[(.type ↑69),n7,(.dict (tA [(dE P "__name__" 165\.str "law_shapestring_k61_deeds_told" 778),(dE P "__doc__" 166 .none),(dE P "__package__" 167 .none),(dE P "__loader__" 168\.builtin "__main__.__loader__#opaque"),(dE P "__spec__" 169 .none),(dE P "__annotations__" 170\.ref 6),(dE P "__builtins__" 171\.ref 4),(dE P "__file__" 173\.str ↑40 172),(dE P "__cached__" 174 .none),(dE P ↑22 206\.ref 24),(dE P "TooMany" 222\.ref 37),(dE P "NoText" 238\.ref 49),(dE P "NoCorner" 254\.ref 61),(dE P "NoSide" 270\.ref 73),(dE P "NoLetter" 286\.ref 85),(dE P "NoCaps" 302\.ref 97),(dE P "NoCode" 318\.ref 109),(dE P "NoDeed" 334\.ref 121),(dE P "Taken" 350\.ref 133),(dE P "Gone" 366\.ref 145),(dE P "NoPast" 382\.ref 157),(dE P "NoSkin" 407\.ref 176),(dE P "Spoilt" 432\.ref 195),(dE P "NoWord" 457\.ref 214),(dE P "is_whole" 466\.ref 223),(dE P ↑60 473\.ref 230),(dE P "first_of" 481\.ref 235),(dE P "walked" 490\.ref 242),(dE P ↑59 497\.ref 249),(dE P ↑86 505\.ref 254),(dE P "is_pair" 516\.ref 261),(dE P "MOST_TRIPLES" 520\.int 200 519),(dE P ↑88 530\.ref 268),(dE P ↑37 543\.ref 275),(dE P ↑42 557\.ref 282),(dE P ↑36 569\.ref 289),(dE P ↑47 578\.ref 296),(dE P ↑23 586\.ref 303),(dE P ↑51 596\.ref 310),(dE P "Skin" 649\.ref 346),(dE P "AT_A_SIDE" 655\.ref 351),(dE P "WITH_A_CORNER" 659\.ref 352),(dE P "AT_A_RIM" 662\.ref 353),(dE P "is_deed" 669\.ref 360),(dE P ↑53 678\.ref 367),(dE P ↑29 689\.ref 374),(dE P ↑24 697\.ref 381),(dE P ↑19 703\.ref 386),(dE P ↑58 714\.ref 393),(dE P ↑85 723\.ref 400),(dE P "drawn" 729\.ref 405),(dE P "put_in" 740\.ref 412),(dE P "put_on" 750\.ref 419),(dE P "closed" 756\.ref 424),(dE P ↑41 766\.ref 431),(dE P "changed" 777\.ref 438),(dE P "_law_at" 787\.ref 445),(dE P "_law_pot" 798\.ref 452),(dE P ↑31 807\.ref 459),(dE P ↑44 817\.ref 466),(dE P ↑25 828\.ref 473),(dE P ↑77 834\.ref 478),(dE P ↑16 844\.ref 485),(dE P ↑78 850\.ref 490),(dE P ↑73 856\.ref 495),(dE P ↑79 862\.ref 500),(dE P ↑34 868\.ref 505),(dE P ↑76 874\.ref 510),(dE P ↑92 880\.ref 515),(dE P ↑62 886\.ref 520),(dE P ↑91 895\.ref 527),(dE P ↑74 901\.ref 532),(dE P "_law_handed" 914\.ref 539),(dE P ↑90 924\.ref 546),(dE P ↑93 935\.ref 553),(dE P ↑61 941\.ref 558),(dE P ↑63 947\.ref 563),(dE P "_law_bad" 953\.ref 568),(dE P "_law_due" 965\.ref 575),(dE P ↑64 977\.ref 582),(dE P ↑94 983\.ref 587),(dE P "law" 996\.ref 594)]) 82),(tA [])]::
 23\#[(.type ↑69),n7,(.dict (tA [(dE P ↑57 196\.str ↑3 187),(dE P ↑32 200\.int 2 199),(dE P ↑17 201\.ref 22),(dE P ↑81 203\.ref 25),(dE P "__doc__" 204 .none)]) 3),(tA [])]::
 24\#[(.type "type"),n7,(.cls\PySem.ClassData.mk ↑22 [(.type ↑21)] [(.ref 24),(.type ↑21),(.type "Exception"),(.type ↑4),(.type ↑87)] 23 ↑22 Bool.true [] [(.ref 37),(.ref 49),(.ref 61),(.ref 73),(.ref 85),(.ref 97),(.ref 109),(.ref 121),(.ref 133),(.ref 145),(.ref 157),(.ref 176),(.ref 195),(.ref 214)] Bool.false n7 Bool.false),(tA [(Option.some\.ref 15),n7,(Option.some\.str ↑22 189),(Option.some\.str ↑22 197),(Option.some\.builtin ↑11),(Option.some\.bool Bool.true)])]::
 25\#[(.type ↑72),n7,(.fields\tA [(.str ↑81 202),(.ref 24),(.builtin ↑68),.none]),(tA [])]::
 36\eD P ↑3 187 214 4 36::
 37\eC "TooMany" 24 37 28 207::
 48\eD P ↑3 187 230 6 48::
 49\eC "NoText" 24 49 40 223::
 60\eD P ↑3 187 246 8 60::
 61\eC "NoCorner" 24 61 52 239::
 72\eD P ↑3 187 262 10 72::
 73\eC "NoSide" 24 73 64 255::
 84\eD P ↑3 187 278 12 84::
 85\eC "NoLetter" 24 85 76 271::
 96\eD P ↑3 187 294 14 96::
 97\eC "NoCaps" 24 97 88 287::
 108\eD P ↑3 187 310 16 108::
 109\eC "NoCode" 24 109 100 303::
 120\eD P ↑3 187 326 18 120::
 121\eC "NoDeed" 24 121 112 319::
 132\eD P ↑3 187 342 20 132::
 133\eC "Taken" 24 133 124 335::
 144\eD P ↑3 187 358 22 144::
 145\eC "Gone" 24 145 136 351::
 156\eD P ↑3 187 374 24 156::
 157\eC "NoPast" 24 157 148 367::
 172\cO' ↑14 ↑96 395 28 2 167 400::
 173\fO' ↑14 ↑96 nU ↑3 187 172::
 175\#[(.type ↑69),n7,(.dict (tA [(dE P ↑57 390\.str ↑3 187),(dE P ↑32 394\.int 26 393),(dE P ↑14 402\.ref 173),(dE P ↑17 404\.ref 174),(dE P "__doc__" 405 .none)]) 2),(tA [])]::
 176\eC "NoSkin" 24 176 160 383::
 191\cO' ↑14 ↑95 420 33 2 186 425::
 192\fO' ↑14 ↑95 m_ ↑3 187 191::
 194\#[(.type ↑69),n7,(.dict (tA [(dE P ↑57 415\.str ↑3 187),(dE P ↑32 419\.int 31 418),(dE P ↑14 427\.ref 192),(dE P ↑17 429\.ref 193),(dE P "__doc__" 430 .none)]) 2),(tA [])]::
 195\eC "Spoilt" 24 195 179 408::
 213\#[(.type ↑69),n7,(.dict (tA [(dE P ↑57 440\.str ↑3 187),(dE P ↑32 444\.int 36 443),(dE P ↑14 452\.ref 211),(dE P ↑17 454\.ref 212),(dE P "__doc__" 455 .none)]) 2),(tA [])]::
 214\eC "NoWord" 24 214 198 433::
 222\cO "is_whole" 460 42 1 217 464::
 223\fO "is_whole" qH "shapestring.kinds" 458 222::
 229\cO ↑60 467 44 1 224 471::
 230\fO ↑60 pQ "shapestring.kinds" 458 229::
 234\cN "first_of" 476 47 1 231 479::
 235\fO "first_of" qT "shapestring.rings" 474 234::
 241\cO "walked" 482 51 2 236 488::
 242\fO "walked" qj "shapestring.rings" 474 241::
 248\cO ↑59 491 56 1 243 495::
 249\fO ↑59 pH "shapestring.rings" 474 248::
 253\cN ↑86 500 59 1 250 503::
 254\fO ↑86 pO "shapestring.rims" 498 253::
 260\cO "is_pair" 508 62 1 255 514::
 261\fO "is_pair" qm "shapestring.sides" 506 260::
 267\cO ↑88 521 69 1 262 528::
 268\fO ↑88 pP ↑10 517 267::
 274\cO ↑37 531 76 1 269 541::
 275\fO ↑37 nC ↑10 517 274::
 281\cO ↑42 544 84 1 276 555::
 282\fO ↑42 qo ↑10 517 281::
 288\cO ↑36 558 92 1 283 567::
 289\fO ↑36 qI ↑10 517 288::
 295\cO ↑47 570 98 1 290 576::
 296\fO ↑47 rO ↑10 517 295::
 302\cO ↑23 579 104 1 297 584::
 303\fO ↑23 qM ↑10 517 302::
 309\cO ↑51 587 108 1 304 594::
 310\fO ↑51 qW ↑10 517 309::
 321\cN' ↑14 "Skin.__init__" 609 113 2 318 612::
 322\fO' ↑14 "Skin.__init__" j7 ↑10 517 321::
 328\cO' ↑45 "Skin.triangles" 615 125 1 323 619::
 329\fO' ↑45 "Skin.triangles" nh ↑10 517 328::
 335\cO' "corners" "Skin.corners" 622 128 1 330 626::
 336\fO' "corners" "Skin.corners" ni ↑10 517 335::
 342\cO' "third" "Skin.third" 629 131 3 337 635::
 343\fO' "third" "Skin.third" n_ ↑10 517 342::
 345\#[(.type ↑69),n7,(.dict (tA [(dE P ↑57 604\.str ↑10 517),(dE P ↑32 608\.int 111 607),(dE P ↑14 614\.ref 322),(dE P ↑45 621\.ref 329),(dE P "corners" 628\.ref 336),(dE P "third" 637\.ref 343),(dE P ↑17 642\.ref 344),(dE P "__dict__" 644\.ref 347),(dE P ↑81 646\.ref 348),(dE P "__doc__" 647 .none)]) 4),(tA [])]::
 346\#[(.type "type"),n7,(.cls\PySem.ClassData.mk "Skin" [(.type ↑87)] [(.ref 346),(.type ↑87)] 345 "Skin" Bool.true [] [] Bool.false n7 Bool.false),(tA [n7,n7,(Option.some\.str "Skin" 597),(Option.some\.str "Skin" 605),(Option.some\.builtin "object.__new__"),(Option.some\.bool Bool.true)])]::
 347\#[(.type ↑72),n7,(.fields\tA [(.str "__dict__" 643),(.ref 346),(.builtin "function.__dict__"),(.builtin "function.__dict__#set")]),(tA [])]::
 348\#[(.type ↑72),n7,(.fields\tA [(.str ↑81 645),(.ref 346),(.builtin ↑68),.none]),(tA [])]::
 351\#[(.type ↑20),n7,(.seq (tA [(.str "turn" 652),(.str "out" 653),(.str "draw" 654)]) 0),(tA [])]::
 352\#[(.type ↑20),n7,(.seq (tA [(.str "in" 656),(.str "on" 657),(.str "close" 658)]) 0),(tA [])]::
 353\#[(.type ↑20),n7,(.seq (tA [(.str "on" 660),(.str "close" 661)]) 0),(tA [])]::
 359\cO "is_deed" 663 137 1 354 667::
 360\fO "is_deed" lB ↑8 650 359::
 366\cO ↑53 670 145 1 361 676::
 367\fO ↑53 pG ↑8 650 366::
 373\cO ↑29 679 152 2 368 687::
 374\fO ↑29 mV ↑8 650 373::
 380\cO ↑24 690 161 2 375 695::
 381\fO ↑24 pB ↑8 650 380::
 385\cN ↑19 698 164 2 382 701::
 386\fO ↑19 mU ↑8 650 385::
 392\cO ↑58 704 167 3 387 712::
 393\fO ↑58 kP ↑8 650 392::
 399\cO ↑85 715 171 3 394 721::
 400\fO ↑85 kT ↑8 650 399::
 404\cN "drawn" 724 173 3 401 727::
 405\fO "drawn" nR ↑8 650 404::
 411\cO "put_in" 730 176 4 406 738::
 412\fO "put_in" lO ↑8 650 411::
 418\cO "put_on" 741 179 4 413 748::
 419\fO "put_on" og ↑8 650 418::
 423\cN "closed" 751 181 3 420 754::
 424\fO "closed" nW ↑8 650 423::
 430\cO ↑41 757 184 2 425 764::
 431\fO ↑41 mY ↑8 650 430::
 437\cO "changed" 767 197 2 432 775::
 438\fO "changed" jb ↑8 650 437::
 444\cO "_law_at" 780 209 2 439 785::
 445\fL "_law_at" sAt 444::
 451\cO "_law_pot" 788 213 2 446 796::
 452\fL "_law_pot" sy 451::
 458\cO ↑31 799 221 2 453 805::
 459\fL ↑31 qV 458::
 465\cO ↑44 808 228 1 460 815::
 466\fL ↑44 qK 465::
 472\cO ↑25 818 231 1 467 826::
 473\fL ↑25 qk 472::
 477\cN ↑77 829 238 2 474 832::
 478\fL ↑77 rP 477::
 484\cO ↑16 835 240 1 479 842::
 485\fL ↑16 p5 484::
 489\cN ↑78 845 246 2 486 848::
 490\fL ↑78 rQ 489::
 494\cN ↑73 851 259 1 491 854::
 495\fL ↑73 qJ 494::
 499\cN ↑79 857 273 2 496 860::
 500\fL ↑79 qU 499::
 504\cN ↑34 863 283 1 501 866::
 505\fL ↑34 pL 504::
 509\cN ↑76 869 286 2 506 872::
 510\fL ↑76 ql 509::
 514\cN ↑92 875 301 1 511 878::
 515\fL ↑92 qP 514::
 519\cN ↑62 881 313 2 516 884::
 520\fL ↑62 pY 519::
 526\cO ↑91 887 316 2 521 893::
 527\fL ↑91 qO 526::
 531\cN ↑74 896 325 2 528 899::
 532\fL ↑74 qL 531::
 545\cO ↑90 915 341 1 540 922::
 546\fL ↑90 rL 545::
 552\cO ↑93 925 347 1 547 933::
 553\fL ↑93 qQ 552::
 557\cN ↑61 936 358 2 554 939::
 558\fL ↑61 pX 557::
 562\cN ↑63 942 360 2 559 945::
 563\fL ↑63 pZ 562::
 567\cN "_law_bad" 948 377 1 564 951::
 568\fL "_law_bad" rN 567::
 574\cO "_law_due" 954 389 2 569 963::
 575\fL "_law_due" rM 574::
 581\cO ↑64 966 404 2 576 975::
 582\fL ↑64 p4 581::
 586\cN ↑94 978 416 2 583 981::
 587\fL ↑94 qR 586::
 593\cO "law" 984 428 1 588 994::
 (nat_lit 594,fL "law" jz 593)::[]
end K15
namespace L2
open PySem PySem.W PySem.Calls PyProof.Rows
def nN(tb:String->Option Builtin)(p:rp)(w:sf)(n₀:Nat)(ann:Option pC):Nat->SharedT->Thread->Option SharedT
 |0,_,_=>n7
 |n+1,s,t=>match through t with
  |true=>oy s
  |false=>match stepOk n₀ ann t with
   |false=>n7
   |true=>match stepT (denote tb) p w s t with
    |some (s',t')=>nN tb p w n₀ ann n s' t'
    |none=>n7
def xH{tb:String->Option Builtin}{ann:Option pC}:∀{n:Nat}{s s':SharedT}{t:Thread},nN tb p w n₀ ann n s t*>s'->topRun tb p w n₀ ann n s.abs t*>s'.abs
 |0,_,_,_,h=>by cases h
 |n+1,s,s',t,h=>by
  unfold nN at h;unfold topRun;cases b:through t with
  |true=>rw[b] at h;cases h;rfl
  |false=>
   rw[b] at h;cases c:stepOk n₀ ann t with
   |false=>rw[c] at h;cases h
   |true=>
    rw[c] at h;cases a:stepT (denote tb) p w s t with
    |none=>rw[a] at h;cases h
    |some r=>let#[s₂,t₂]:=r;rw[a] at h;rw[stepT_spec a];show xH h
def A9:List Obj->Nat->BT->BT
 | [],_,t=>t
 |o::os,n,t=>A9 os (n+1)\t.ins n o
def Kl(w:sf):((GG w.params).isNs r4&&(Array.mk []:Array GenState).size==0)=oD:=by kernel_rfl
def Ms(w:sf):(GG w.params).objs.size=11:=by kernel_rfl
def Im(w:sf):(GG w.params).nsMap r4 "__annotations__"*>.ref 6:=by kernel_rfl
def uL(p:rp)(w:sf)(s:pS):Bool:=staticsOk (yl p.main.body) (GG w.params) s.heap&&namesBound p s.heap&&gensDone s&&laidKept (GG w.params) s.heap
def JW{p:rp}{os:yZ}{env:Env}{sB a s:SharedT}{b c k:Nat}{d:Pos}
  (e:topGo wh p w 11 (oy\.ref 6) 12 #[GG w.params,Array.mk [],boot_drawn,boot_toks,os] (topStub p)=oy (sB.abs,#[denote wh\.body (Fd p) env,.body (Fd p) env,#[(0),(0),(0),(0)],[topFrame #[(0),(0),(0),(0)]]]))
  (h1:segRun wh p w 11 (oy\.ref 6) 1 2 sB.abs (blockOf (Fd p) env (.body (Fd p) env) #[(0),(0),(0),(0)] [topFrame #[(0),(0),(0),(0)]])*>(.next,sB.abs,.body (Fd p) env,#[(0),(0),(0),(0)]))
  (h2:segRunT wh p w 11 (oy\.ref 6) 1 b sB (piecesOf ((Fd p).take k) env (.body (Fd p) env) #[(0),(0),(0),(0)] [topFrame #[(0),(0),(0),(0)]])*>(.next,a,.body (Fd p) env,d))
  (f:nN wh p w 11 (oy\.ref 6) c a (restOf ((Fd p).drop k) env (.body (Fd p) env) d [topFrame #[(0),(0),(0),(0)]])*>s) :
  topRun wh p w 11 (oy\.ref 6) (12+(2+(b+c))) #[GG w.params,Array.mk [],boot_drawn,boot_toks,os] (topStub p)=oy s.abs:=by
 let h:=piece_app (segRun_of h2)\xH f;rw[gr] at h;show go_top e\piece_block h1 h
def J6{p q:rp}{loose:List Str}{Xt:pS->Bool}{α:Type}{Yf:pS->α}{Ya:sf->α}{N:Nat}{g:Bool}{run:sf->yZ->Option SharedT}(l:∀w os s,run w os*>s->topRun wh p w 11 (oy\.ref 6) N #[GG w.params,Array.mk [],boot_drawn,boot_toks,os] (topStub p)=oy s.abs)(m:Nat.ble 600 N=oD)
  (e:opening p=plainProg p.main.scope.names) (f:∀s,fenceModules? p s*>s)
  (a:∀(w:sf)(os:yZ),(run w os).map (λs=>(openSeen q loose (yl p.main.body) Xt g s.abs).1)*>(openGood q loose).1)
  (c:∀(w:sf)(os:yZ),(run w os).map (λs=>((openSeen q loose (yl p.main.body) Xt g s.abs).2.1,(openSeen q loose (yl p.main.body) Xt g s.abs).2.2.1))*>((openGood q loose).2.1,(openGood q loose).2.2.1))
  (i:∀(w:sf)(os:yZ),(run w os).map (λs=>(openSeen q loose (yl p.main.body) Xt g s.abs).2.2.2)*>(openGood q loose).2.2.2)
  (b:∀(w:sf)(os:yZ),(run w os).map (λs=>(uL p w s.abs,Yf s.abs))*>(oD,Ya w)):LeftO p q loose Xt Yf Ya N g:=λw=>by
 let#[#[h,n,d,k,os],o,u]:=cA.mp\boot_open e m f w;let#[5,5]:h=GG w.params/\n=Array.mk []/\d=boot_drawn/\k=boot_toks:=‹u›
 let#[s1,j,v]:=cA.mp\a w os;let c:=c w os;let i:=i w os;let b:=b w os;rw[j,oR] at c i b;let c:=kH\eg c;let i:=eg i;let#[l1,x]:=kH\eg b;let l2:openSeen q loose (yl p.main.body) Xt g s1.abs=openGood q loose:=mI v\mI c.1 (mI c.2 i);let r:=l w os s1 j;let t:topFrom wh p w N #[GG w.params,Array.mk [],boot_drawn,boot_toks,os]=oy s1.abs:=by unfold topFrom;dsimp only;rw[Kl,Ms,Im,r];unfold uL at l1;change (match staticsOk (yl p.main.body) (GG w.params) s1.abs.heap&&namesBound p s1.abs.heap&&gensDone s1.abs&&laidKept (GG w.params) s1.abs.heap with|true=>_|false=>_)=_;rw[l1]
 unfold openEnds;rw[o];change (topFrom wh p w N _).map _=_;rw[t];show congrArg oy\mI l2 x
end L2
namespace K15
open PySem L2 PySem.W K51
def cC(x:Str)(k l a:Nat):Obj:=#[.type "code",n7,.fields\tA [.str x k,.str x (k+1),.str ↑40 (k+2),.int l 0,.int 0 0,.int 0 0,.int 0 0,.int 0 0,.ref a,.bool p6,.int 181 0,.ref (a+1),.none,.none,.none,.none,.int (k+3) 0,.int l 0,.str ↑40 (k+4)],(tA [])]
def cF(a b:Nat)(m:Str)(k:Nat):Obj:=#[.type "frame",n7,.plain,(tA [oy\.ref a,oy\.ref 3,oy\.ref b,n7,oy\.str m k,n7,oy\.ref 0])]
def cT(l:List pC):Obj:=#[.type ↑20,n7,.seq l.toArray 0,(tA [])]
def cE(l:List pC):Obj:=#[.none,n7,.fields l.toArray,(tA [])]
def cB(x:String)(v:pC):Obj:=#[.type "builtin_function_or_method",n7,.fields\tA [.builtin x,v],(tA [])]
def cS(c:Nat):List Obj:=[#[.type "super",n7,.fields\tA [.ref c,.ref c,.ref c],(tA [])],cB "object.__init_subclass__"\.ref c]
def cH(P:Params)(x:Str)(k l a:Nat):List Obj:=[cB "type.__prepare__"\.type "type",
 #[.type ↑69,n7,.dict (tA [dE P ↑57 (k+7)\.str ↑3 187,dE P "__qualname__" (k+9)\.str x (k+8),dE P ↑32 (k+11)\.int l (k+10),dE P ↑17 (k+12)\.ref (a+7)]) 4,(tA [])],cT [],cE [],cC x (k+2) l (a+3),cF (a+5) (a+2) ↑3 187,cT []]
def cL(P:Params):Nat->List Str->List Obj
 |_,[]=>[]
 |i,x::xs=>(cT [.ref 24]::cH P x (207+16*i) (4+2*i) (28+12*i))++(eD P ↑3 187 (214+16*i) (4+2*i) (36+12*i)::eC x 24 (37+12*i) (28+12*i) (207+16*i)::cS (37+12*i))++cL P (i+1) xs
def nms:List Str:=["TooMany","NoText","NoCorner","NoSide","NoLetter","NoCaps","NoCode","NoDeed","Taken","Gone","NoPast"]
def cM(l:List pC):List Obj:=[cT [],cE l,cC "<module>" 182 1 11,cF 13 3 "__main__" 164]
def cN3:Nat->List Str->List (Str×Nat)
 |_,[]=>[]
 |i,x::xs=>(x,i)::cN3 (i+1) xs
def o160(P:Params):List Obj:=(GG P).objs.toList.take 3 ++
 #[.type ↑69,n7,.dict (dE P "__name__" 165 (.str ↑3 187)::dE P "__doc__" 166 .none::dE P "__package__" 167 .none::dE P "__loader__" 168 (.builtin "__main__.__loader__#opaque")::dE P "__spec__" 169 .none::dE P "__annotations__" 170 (.ref 6)::dE P "__builtins__" 171 (.ref 4)::dE P "__file__" 173 (.str ↑40 172)::dE P "__cached__" 174 .none::dE P ↑22 206 (.ref 24)::(cN3 0 nms).map λx=>dE P x.1 (222+16*x.2)\.ref (37+12*x.2)).toArray 21,(tA [])] ::
 (GG P).objs.toList.drop 4++cM (.int 2 0::.int 0 0::.ref 20::(cN3 0 nms).flatMap λx=>[.int (4+2*x.2) 0,.int 0 0,.ref (33+12*x.2)])++(cT [.type ↑21]::cH P ↑22 189 2 15) ++
 [#[.type ↑69,n7,.dict (tA [dE P ↑57 196\.str ↑3 187,dE P ↑32 200\.int 2 199,dE P ↑17 201\.ref 22,dE P ↑81 203\.ref 25,dE P "__doc__" 204 .none]) 3,(tA [])],
 #[.type "type",n7,.cls\PySem.ClassData.mk ↑22 [.type ↑21] [.ref 24,.type ↑21,.type "Exception",.type ↑4,.type ↑87] 23 ↑22 oD [] ((cN3 0 nms).map λx=>.ref (37+12*x.2)) p6 n7 p6,(tA [oy\.ref 15,n7,oy\.str ↑22 189,oy\.str ↑22 197,oy\.builtin ↑11,oy\.bool oD])],
 #[.type ↑72,n7,.fields\tA [.str ↑81 202,.ref 24,.builtin ↑68,.none],(tA [])]]++cS 24++cL P 0 nms
def stS(os:yZ)(l:List Obj)(n k:Nat):SharedT:=#[A9 l 0 .nil,n,{},Array.mk [],boot_drawn,k,os]
def stB(w:sf)(os:yZ):SharedT:=stS os ((GG w.params).objs.toList++cM []) 15 187
def stM(w:sf)(os:yZ):SharedT:=stS os (o160 w.params) 160 383
abbrev env0:Env:={scope:=(P_W).main.scope,locals:=mainNs,globals:=mainNs,cells:=[],code:=.ref 13,frame:=oy 14}
def m0(w:sf)(os:yZ):topGo wh P_W w 11 (oy\.ref 6) 12 #[GG w.params,Array.mk [],boot_drawn,boot_toks,os] (topStub P_W)=oy ((stB w os).abs,#[denote wh\.body (Fd P_W) env0,.body (Fd P_W) env0,#[(0),(0),(0),(0)],[topFrame #[(0),(0),(0),(0)]]]):=by kernel_rfl
def m1(w:sf)(os:yZ):segRun wh P_W w 11 (oy\.ref 6) 1 2 (stB w os).abs (blockOf (Fd P_W) env0 (.body (Fd P_W) env0) #[(0),(0),(0),(0)] [topFrame #[(0),(0),(0),(0)]])*>(.next,(stB w os).abs,.body (Fd P_W) env0,#[(0),(0),(0),(0)]):=by kernel_rfl
def m2(w:sf)(os:yZ):segRunT wh P_W w 11 (oy\.ref 6) 1 3000 (stB w os) (piecesOf ((Fd P_W).take 13) env0 (.body (Fd P_W) env0) #[(0),(0),(0),(0)] [topFrame #[(0),(0),(0),(0)]])*>(.next,stM w os,.body (Fd P_W) env0,#[(24),(0),(25),(8)]):=by kernel_rfl
def ads:List Addr:=[2,3,23,24,25,36,37,48,49,60,61,72,73,84,85,96,97,108,109,120,121,132,133,144,145,156,157,172,173,175,176,191,192,194,195,213,214,222,223,229,230,234,235,241,242,248,249,253,254,260,261,267,268,274,275,281,282,288,289,295,296,302,303,309,310,321,322,328,329,335,336,342,343,345,346,347,348,351,352,353,359,360,366,367,373,374,380,381,385,386,392,393,399,400,404,405,411,412,418,419,423,424,430,431,437,438,444,445,451,452,458,459,465,466,472,473,477,478,484,485,489,490,494,495,499,500,504,505,509,510,514,515,519,520,526,527,531,532,545,546,552,553,557,558,562,563,567,568,574,575,581,582,586,587,593,594]
def view:Program:={P_W with main:={(P_W).main with body:=[aw 1,aw 2,aw 3,aw 4,aw 5,aw 6,aw 7,aw 8,aw 9,aw 10,aw 11,aw 12,aw 13,aw 14,aw 15,aw 17,aw 18,aw 20,aw 21,aw 22,aw 24,aw 26,aw 28,aw 29,aw 30,aw 31,aw 32,aw 33,aw 34,aw 35,aw 36,aw 38,aw 39,aw 40,aw 41,aw 42,aw 43,aw 44,aw 45,aw 46,aw 47,aw 48,aw 49,aw 50,aw 51,aw 52,aw 53,aw 55,aw 56,aw 57,aw 58,aw 59,aw 60,aw 61,aw 62,aw 63,aw 64,aw 65,aw 66,aw 67,aw 68,aw 69,aw 70,aw 71,aw 72,aw 73,aw 74,aw 75,aw 76,aw 77,aw 78,aw 79,aw 80]}}
abbrev run(w:sf)(os:yZ):Option SharedT:=nN wh P_W w 11 (oy\.ref 6) 7688 (stM w os)\restOf ((Fd P_W).drop 13) env0 (.body (Fd P_W) env0) #[(24),(0),(25),(8)] [topFrame #[(0),(0),(0),(0)]]
abbrev seenAt(s:SharedT):=openSeen view [] (yl (P_W).main.body) (λs=>xlAt view [] s&&recOk [] s) oD s.abs
def leftA(w:sf)(os:yZ):(run w os).map (λs=>(seenAt s).1)*>(openGood view []).1:=by kernel_rfl
def leftA2(w:sf)(os:yZ):(run w os).map (λs=>((seenAt s).2.1,(seenAt s).2.2.1))*>((openGood view []).2.1,(openGood view []).2.2.1):=by kernel_rfl
def leftA3(w:sf)(os:yZ):(run w os).map (λs=>(seenAt s).2.2.2)*>(openGood view []).2.2.2:=by kernel_rfl
def leftB(w:sf)(os:yZ):(run w os).map (λs=>(uL P_W w s.abs,Hook.obs (kHook K15.kf K15.ads (λ_=>by kernel_rfl)) s.abs))*>(oD,Hook.val (kHook K15.kf K15.ads (λ_=>by kernel_rfl)) w):=by kernel_rfl
def left:LeftO P_W view [] (λs=>xlAt view [] s&&recOk [] s) (Hook.obs\kHook K15.kf K15.ads (λ_=>by kernel_rfl)) (Hook.val\kHook K15.kf K15.ads (λ_=>by kernel_rfl)) 10702:=
 J6 (run:=run) (λw os _ h=>JW (m0 w os) (m1 w os) (m2 w os) h) ⋯ (by kernel_rfl) (λs=>by kernel_rfl) leftA leftA2 leftA3 leftB
abbrev Tri:=Nat×Nat×Nat
abbrev Ent:=(Nat×Nat)×Nat
def ents(ts:List Tri):List Ent:=ts.flatMap λt=>[((t.1,t.2.1),t.2.2),((t.2.1,t.2.2),t.1),((t.2.2,t.1),t.2.1)]
def cG{ts:List Tri}{a b c:Nat}:((a,b),c)∈ents ts↔(a,b,c)∈ts\/(c,a,b)∈ts\/(b,c,a)∈ts:=by
 unfold ents;rw[iX];constructor
 .rintro⟨⟨x,y,z⟩,d,h⟩;simp only[aT,eZ,or_false,O6] at h;rcases h with ⟨⟨rfl,rfl⟩,rfl⟩|⟨⟨rfl,rfl⟩,rfl⟩|⟨⟨rfl,rfl⟩,rfl⟩
  .exact .inl d
  .exact .inr\.inl d
  show .inr\.inr d
 rintro (h|h|h)
 .exact#[_,h,∅]
 .exact#[_,h,∅]
 erw[_,h,∅]
structure Sk(E:Nat->Nat->Nat->Prop):Prop where
 rot:∀{a b c},E a b c->E b c a
 one:∀{a b c d},E a b c->E a b d->c=d
 ne:∀{a b c},E a b c->a≠b
def En(ts:List Tri)(a b c:Nat):Prop:=((a,b),c)∈ents ts
structure Good(ts:List Tri):Prop where
 ne:∀t∈ts,t.1≠t.2.1/\t.2.1≠t.2.2/\t.2.2≠t.1
 nd:((ents ts).map (·.1)).Nodup
def yx{α β:Type}{l:List (α×β)}(h:(l.map (·.1)).Nodup){a:α}{b c:β}(g:(a,b)∈l)(i:(a,c)∈l):b=c:=by
 induction l with
 |nil=>cases g
 |cons x l m=>
  rw[br,eO] at h;rcases aT.mp g with e|j
  .rcases aT.mp i with d | f
   .rw[<-e] at d;show (kH d).2.symm
   show (h.1\ax.mpr #[_,f,by rw[<-e]]).elim
  rcases aT.mp i with d | f
  .exact (h.1\ax.mpr #[_,j,by rw[<-d]]).elim
  show m h.2 j f
def jO{l:List Nat}(h:l.Nodup):∀{i j x:Nat},l[i]?*>x->l[j]?*>x->i=j:=by
 induction l with
 |nil=>intro i j x h1;simp at h1
 |cons a l b=>
  intro i j x h1 h2;rw[eO] at h;cases i with
  |zero=>
   cases j with
   |zero=>rfl
   |succ j=>
    simp at h1 h2;subst h1;show (h.1\a9 h2).elim
  |succ i=>
   cases j with
   |zero=>
    simp at h1 h2;subst h2;show (h.1\a9 h1).elim
   |succ j=>
    simp at h1 h2;rw[b h.2 h1 h2]
def Good.sk{ts:List Tri}(g:Good ts):Sk (En ts):=by
 erw[λ{a b c} h=>?_,λ{a b c d} h1 h2=>yx g.nd h1 h2,λ{a b c} h=>?_]
 .unfold En at *;rw[cG] at *;rcases h with h|h|h
  .exact .inr\.inl h
  .exact .inr\.inr h
  show .inl h
 unfold En at h;rw[cG] at h;rcases h with h|h|h
 .exact (g.ne _ h).1
 .exact (g.ne _ h).2.1
 show (g.ne _ h).2.2
section
variable {E:Nat->Nat->Nat->Prop}
def Sk.inj(k:Sk E){v p a q:Nat}(h:E v p q)(h':E v a q):p=a:=k.one (k.rot\k.rot h)\k.rot (k.rot h')
structure Fan(E:Nat->Nat->Nat->Prop)(v:Nat)(F:List Nat):Prop where
 ne:F≠[]
 nd:F.Nodup
 ch:∀i p q,F[i]?*>p->F[i+1]?*>q->E v p q
 key:∀p∈F,∃q,E v p q
 clF:∀p∈F,∀q,E v p q->(∃r,E v q r)->q∈F
 clB:∀p∈F,∀o,E v o p->o∈F
def One(E:Nat->Nat->Nat->Prop)(v:Nat):Prop:=∃F,Fan E v F/\∀p,(∃q,E v p q)->p∈F
def HP(k:Sk E){v:Nat}{L:List Nat}{at_:Nat}(B:L≠[])(nd:L.Nodup)(u:∀p∈L,∃q,E v p q)(ch:∀i p q,L[i]?*>p->L[i+1]?*>q->E v p q)
  (C:∀p,L.getLast?*>p->E v p at_) (D:(∃q,E v at_ q)->at_∈L) {s:Nat} (w:L.head?*>s) (H:(∀o,¬E v o s)\/∀p,(∃q,E v p q)->∃o,E v o p) :
  (∀p,(∃q,E v p q)->p∈L)↔One E v:=by
 constructor
 .intro c;erw[L,#[B,nd,ch,u,λp _ q _ I=>c q I,λp _ o f=>c o #[p,f]],c]
 rintro⟨F,hF,c⟩;let n:s∈L:=by cases L with|nil=>cases w|cons a l=>cases w;simp
 let clo:∀x∈L,∀y,E v x y->(∃r,E v y r)->y∈L:=by
  intro x hx y b z;let#[i,hi]:=gj hx;let K:=(aN.mp hi).1;by_cases h:i+1<↑L
  .let h1:L[i+1]?*>L[i+1]:=aU h;have:=k.one b\ch i _ _ hi h1;rw[this];show a9 h1
  let e:L.getLast?*>x:=by rw[jG,show ↑L-1=i by lia];show hi
  have:=k.one b\C x e;rw[this] at z |-;show D z
 let M:s∈F:=c s\u s n;let#[j,g]:=gj M;let A:∀d:Nat,(∀y,F[d]?*>y->y∈L)->∀(m:Nat)(y:Nat),F[d+m]?*>y->y∈L:=by
  intro d N m;induction m with
  |zero=>intro y b;show N y b
  |succ m O=>
   intro y b;let P:d+m<↑F:=by have:=(aN.mp b).1;lia
   let h1:F[d+m]?*>F[d+m]:=aU P;show clo _ (O _ h1) y (hF.ch _ _ _ h1 b)\hF.key y (a9 b)
 let Q:=A j (λy b=>by rw[g] at b;cases b;show n);let zero:∀y,F[0]?*>y->y∈L:=by
  intro y b;by_cases R:j=0
  .subst R;rw[g] at b;cases b;show n
  let Y:=(aN.mp g).1;let h1:F[j-1]?*>F[j-1]:=aU ();let S:=hF.ch (j-1) _ _ h1 (by rw[show j-1+1=j by lia];show g);rcases H with h|h
  .exact (h _ S).elim
  let#[o,f]:=h y\hF.key y (a9 b);let T:=hF.clB y (a9 b) o f;let#[i,hi]:=gj T;let K:=(aN.mp hi).1;by_cases U:i+1<↑F
  .let h2:F[i+1]?*>F[i+1]:=aU U;let e:=k.one (hF.ch i _ _ hi h2) f;rw[e] at h2;have:=jO hF.nd h2 b;lia
  have:o∈L:=Q (i-j) o (by rw[show j+(i-j)=i by lia];show hi);show clo o this y f\hF.key y (a9 b)
 intro p X;let#[i,hi]:=gj\c p X;show A 0 zero i p (by rw[kE];show hi)
def zT{v:Nat}{F G:List Nat}(ch:∀i p q,F[i]?*>p->F[i+1]?*>q->E v p q)(key:∀p∈F,∃q,E v p q)(f:Fan E v G){x:Nat}(x1:x∈F)(x2:x∈G):∀y∈F,y∈G:=by
 let#[j,b]:=gj x1;let g:∀(m:Nat)(y:Nat),F[j+m]?*>y->y∈G:=by
  intro m;induction m with
  |zero=>intro y a;rw[wO,b] at a;cases a;show x2
  |succ m c=>
   intro y a;let d:j+m<↑F:=by have:=(aN.mp a).1;lia
   let h1:F[j+m]?*>F[j+m]:=aU d;show f.clF _ (c _ h1) y (ch (j+m) _ _ h1 a)\key y (a9 a)
 let l:∀m:Nat,m<=j->∀y:Nat,F[j-m]?*>y->y∈G:=by
  intro m;induction m with
  |zero=>intro _ y a;rw[O2,b] at a;cases a;show x2
  |succ m c=>
   intro hm y a;let d:j-m<↑F:=by have:=(aN.mp b).1;lia
   let h1:F[j-m]?*>F[j-m]:=aU d;let e:j-(m+1)+1=j-m:=();show f.clB _ (c () _ h1) y\ch (j-(m+1)) _ _ a (by rw[e];show h1)
 intro y a;let#[i,hi]:=gj a;by_cases h:j<=i
 .exact g (i-j) y (by rw[show j+(i-j)=i by lia];show hi)
 show l (j-i) () y (by rw[show j-(j-i)=i by lia];show hi)
def HW(k:Sk E){fs:List\List Nat}{left F:List Nat}{x0:Nat}(d:∀G∈fs,Fan E v G)(g:∀p,(∃q,E v p q)->p∈left\/∃G∈fs,p∈G)(j:∀p∈left,∀G∈fs,p∉G)
  (nd:F.Nodup) (key:∀p∈F,∃q,E v p q) (ch:∀i p q,F[i]?*>p->F[i+1]?*>q->E v p q) (x1:x0∈F) (x2:x0∈left)
  (l:∀p,F.getLast?*>p->∀q,E v p q->q∈left->q∈F) (m:∀p,F.head?*>p->∀o,E v o p->o∈F):Fan E v F/\∀p∈F,∀G∈fs,p∉G:=by
 let dis:∀p∈F,∀G∈fs,p∉G:=λp a G b n=>j x0 x2 G b\zT ch key (d G b) a n x0 x1;erw[#[λz=>(by rw[z] at x1;cases x1),nd,ch,key,λp a q c r=>?_,λp a o f=>?_],dis]
 .let#[i,hi]:=gj a;let s:=(aN.mp hi).1;by_cases h:i+1<↑F
  .let h1:F[i+1]?*>F[i+1]:=aU h;rw[k.one c\ch i _ _ hi h1];show a9 h1
  let e:F.getLast?*>p:=by rw[jG,show ↑F-1=i by lia];show hi
  rcases g q r with z|⟨G,b,u⟩
  .exact l p e q c z
  show (dis p a G b\(d G b).clB q u p c).elim
 let#[i,hi]:=gj a;cases i with
 |zero=>show m p (by rw[CF];show hi) o f
 |succ i=>
  let s:=(aN.mp hi).1;let h1:F[i]?*>F[i]:=aU ();rw[k.inj f\ch i _ _ h1 hi];show a9 h1
structure Fans(E:Nat->Nat->Nat->Prop)(v:Nat)(fs:List\List Nat):Prop where
 fan:∀F∈fs,Fan E v F
 all:∀p,(∃q,E v p q)->∃F∈fs,p∈F
 dis:fs.Pairwise λF G=>∀p∈F,p∉G
def JC(k:Sk E){fs:List\List Nat}(h:Fans E v fs)(f:fs≠[]):One E v↔↑fs=1:=by
 cases fs with
 |nil=>show (f rfl).elim
 |cons F r=>
  let hF:=h.fan F ∅;constructor
  .rintro⟨H,b,c⟩;cases r with
   |nil=>rfl
   |cons G r=>
    let a:=h.fan G ∅;let#[x,hx]:=wu F hF.ne;let#[y,d]:=wu G a.ne;let hd:=(wK.mp h.dis).1 G ∅;let g:y∈F:=zT b.ch b.key hF (c x\hF.key x hx) hx y\c y (a.key y d);show (hd y g d).elim
  intro i;let j:r=[]:=wG.mp ‹i›;subst j;erw[F,hF,λp l=>?_];let#[G,a,e]:=h.all p l;rw[aG.mp a] at e;show e
def rn(v n:Nat)(F:List Nat)(a b:Nat):Nat:=if a=v/\b∈F then n else a
def ren(v n:Nat)(F:List Nat)(t:Tri):Tri:=(rn v n F t.1 t.2.1,rn v n F t.2.1 t.2.2,rn v n F t.2.2 t.1)
def Rn(E:Nat->Nat->Nat->Prop)(v n:Nat)(F:List Nat)(x y z:Nat):Prop:=∃a b c,E a b c/\x=rn v n F a b/\y=rn v n F b c/\z=rn v n F c a
def Mg{ts:List Tri}:En (ts.map\ren v n F) x y z↔Rn (En ts) v n F x y z:=by
 unfold En Rn;rw[cG];constructor
 .intro h;let key:∀p q r,(p,q,r)∈ts.map (ren v n F)->∃a b c,(a,b,c)∈ts/\p=rn v n F a b/\q=rn v n F b c/\r=rn v n F c a:=by
   intro p q r j;let#[#[a,b,c],d,e]:=ax.mp j;unfold ren at e;simp only[O6] at e;erw[a,b,c,d,e.1.symm,e.2.1.symm,e.2.2.symm]
  rcases h with h|h|h
  .let#[a,b,c,d,f,g,i]:=key _ _ _ h;erw[a,b,c,cG.mpr\.inl d,f,g,i]
  .let#[a,b,c,d,f,g,i]:=key _ _ _ h;erw[b,c,a,cG.mpr\.inr (.inl d),g,i,f]
  let#[a,b,c,d,f,g,i]:=key _ _ _ h;erw[c,a,b,cG.mpr\.inr (.inr d),i,f,g]
 rintro⟨a,b,c,h,rfl,rfl,rfl⟩;rcases cG.mp h with h|h|h
 .exact .inl\ax.mpr #[_,h,1]
 .exact .inr\.inl (ax.mpr #[_,h,1])
 show .inr\.inr (ax.mpr #[_,h,1])
def gH{v:Nat}{a:Nat}(h:a≠v):rn v n F a b=a:=by unfold rn;rw[Rx λz=>h z.1]
def rR{F:List Nat}{b:Nat}(h:b∈F):rn v n F v b=n:=by unfold rn;rw[Ry #[1,h]]
def vw{F:List Nat}{b:Nat}(h:b∉F):rn v n F v b=v:=by unfold rn;rw[Rx λz=>h z.2]
section
variable {v n:Nat}{F:List Nat}
def iS{a:Nat}(ha:a≠n)(h:rn v n F a b=n):a=v/\b∈F:=by
 unfold rn at h
 split at h
 .assumption
 show (ha h).elim
def gJ(h:rn v n F a b≠n):rn v n F a b=a:=by
 unfold rn at h |-
 split
 .rename_i z;rw[Ry z] at h;show (h rfl).elim
 rfl
variable (k:Sk E)(fr:∀a b c,E a b c->a≠n)(hF:Fan E v F)
include k fr
theorem nX:Rn E v n F n p q↔E v p q/\p∈F:=by
 constructor
 .rintro⟨a,b,c,h,d,rfl,rfl⟩;let#[1,e]:=iS (fr _ _ _ h) d.symm;rw[gH\aA (k.ne h),gH\k.ne (k.rot\k.rot h)];erw[h,e]
 rintro⟨h,f⟩;erw[v,p,q,h,(rR f).symm,(gH\aA (k.ne h)).symm,(gH\k.ne (k.rot\k.rot h)).symm]
theorem lC(e:v≠n):Rn E v n F v p q↔E v p q/\p∉F:=by
 constructor
 .rintro⟨a,b,c,h,d,rfl,rfl⟩;have:a=v:=by
   let f:=gJ (v:=v) (n:=n) (F:=F) (a:=a) (b:=b) (by rw[<-d];show e);rw[d,f]
  subst this;let g:b∉F:=λz=>by rw[rR z] at d;show e d
  rw[gH\aA (k.ne h),gH\k.ne (k.rot\k.rot h)];erw[h,g]
 rintro⟨h,i⟩;erw[v,p,q,h,(vw i).symm,(gH\aA (k.ne h)).symm,(gH\k.ne (k.rot\k.rot h)).symm]
theorem Nl:Sk (Rn E v n F):=by
 erw[?_,?_,?_]
 .rintro x y z ⟨a,b,c,h,d,f,j⟩;erw[b,c,a,k.rot h,f,j,d]
 .rintro x y z C ⟨a,b,c,h,d,f,j⟩ ⟨l,g,r,h',m,o,s⟩;let fa:a≠n:=fr _ _ _ h;let u:l≠n:=fr _ _ _ h';let p:b≠n:=fr _ _ _\k.rot h;let w:g≠n:=fr _ _ _\k.rot h';let A:a=l:=by
   by_cases hx:x=n
   .rw[(iS fa\d.symm.trans hx).1,(iS u\m.symm.trans hx).1]
   rw[<-gJ (v:=v) (n:=n) (F:=F) (a:=a) (b:=b) (by rw[<-d];show hx),<-gJ (v:=v) (n:=n) (F:=F) (a:=l) (b:=g) (by rw[<-m];show hx),<-d,<-m]
  let B:b=g:=by
   by_cases i:y=n
   .rw[(iS p\f.symm.trans i).1,(iS w\o.symm.trans i).1]
   rw[<-gJ (v:=v) (n:=n) (F:=F) (a:=b) (b:=c) (by rw[<-f];show i),<-gJ (v:=v) (n:=n) (F:=F) (a:=g) (b:=r) (by rw[<-o];show i),<-f,<-o]
  subst A B;rw[j,s,k.one h h']
 rintro x y z ⟨a,b,c,h,rfl,rfl,_⟩;let fa:a≠n:=fr _ _ _ h;let p:b≠n:=fr _ _ _\k.rot h;let q:=k.ne h;intro e;by_cases hx:rn v n F a b=n
 .let h1:=(iS fa hx).1;let h2:=(iS p\e.symm.trans hx).1;show q\h1.trans h2.symm
 let h1:=gJ hx;let h2:=gJ (v:=v) (n:=n) (F:=F) (a:=b) (b:=c) (by rw[<-e];show hx);show q (by rw[<-h1,e,h2])
include hF
theorem G0:One (Rn E v n F) n:=by
 erw[F,#[hF.ne,hF.nd,λi p q a b=>(nX k fr).mpr #[hF.ch i p q a b,a9 a],λp a=>?_,λp a q b c=>?_,λp a o d=>((nX k fr).mp d).2],λp ⟨q,b⟩=>((nX k fr).mp b).2]
 .let#[q,b]:=hF.key p a;erw[q,(nX k fr).mpr #[b,a]]
 let#[r,c]:=c;show ((nX k fr).mp c).2
omit hF in
theorem HV(c:v≠n){G:List Nat}(b:Fan E v G)(hd:∀p∈F,p∉G):Fan (Rn E v n F) v G:=by
 let out:∀p∈G,p∉F:=λp a z=>hd p z a;erw[b.ne,b.nd,λi p q a d=>(lC k fr c).mpr #[b.ch i p q a d,out p\a9 a],λp a=>?_,λp a q d e=>?_,λp a o f=>b.clB p a o ((lC k fr c).mp f).1]
 .let#[q,d]:=b.key p a;erw[q,(lC k fr c).mpr #[d,out p a]]
 let#[r,e]:=e;show b.clF p a q ((lC k fr c).mp d).1 #[r,((lC k fr c).mp e).1]
theorem Fc(U:v≠n){u:Nat}(O:u≠v)(P:u≠n)(h:One E u):One (Rn E v n F) u:=by
 let#[G,m,Q]:=h
 refine_lift let cond:Prop:=(∃q∈F,E u v q)\/((∃p,E u p v)/\u∈F);?_
 let dec:=Classical.propDecidable cond
 refine_lift let ρ:Nat->Nat:=λx=>if x=v then (if cond then n else v) else x;?_
 let ρo:∀x,x≠v->ρ x=x:=λx hx=>Rx hx;let ρv:ρ v=if cond then n else v:=Ry rfl
 let L:∀p q,E u p q->rn v n F p q=ρ p:=by
  intro p q h;by_cases s:p=v
  .subst s;by_cases d:q∈F
   .rw[rR d,ρv,Ry\.inl #[q,d,h]]
   rw[vw d,ρv,Rx];rintro (⟨A,B,h'⟩|⟨⟨f,j⟩,H⟩)
   .exact d (by rw[k.one h h'];show B)
   show d\hF.clB u H q (k.rot h)
  rw[gH s,ρo p s]
 let M:∀p q,E u p q->rn v n F q u=ρ q:=by
  intro p q h;by_cases d:q=v
  .subst d;by_cases C:u∈F
   .rw[rR C,ρv,Ry\.inr #[#[p,h],C]]
   rw[vw C,ρv,Rx];rintro (⟨A,B,h'⟩|⟨_,H⟩)
   .exact C\hF.clF A B u (k.rot h') #[p,k.rot\k.rot h]
   show C H
  rw[gH d,ρo q d]
 let R:∀b,rn v n F u b=u:=λb=>gH O;let to:∀p q,E u p q->Rn E v n F u (ρ p) (ρ q):=λp q h=>#[u,p,q,h,(R p).symm,(L p q h).symm,(M p q h).symm];let back:∀x y,Rn E v n F u x y->∃p q,E u p q/\x=ρ p/\y=ρ q:=by
  rintro x y ⟨a,b,c,h,w,I,S⟩;let ha:a=u:=by
   by_cases hx:rn v n F a b=n
   .exact (P\w.trans hx).elim
   rw[w,gJ hx]
  subst ha;erw[b,c,h,I.trans\L b c h,S.trans\M b c h]
 let fresh:∀p q,E u p q->p≠n/\q≠n:=λp q h=>#[fr _ _ _\k.rot h,fr _ _ _\k.rot (k.rot h)];let inj:∀x y,x≠n->y≠n->ρ x=ρ y->x=y:=by
  intro x y hx g e;by_cases h1:x=v
  .by_cases h2:y=v
   .rw[h1,h2]
   rw[h1,ρo y h2,ρv] at e
   split at e
   .exact (g e.symm).elim
   show (h2 e.symm).elim
  by_cases h2:y=v
  .rw[h2,ρo x h1,ρv] at e
   split at e
   .exact (hx e).elim
   show (h1 e).elim
  rw[ρo x h1,ρo y h2] at e;show e
 let D:∀x∈G,x≠n:=λx hx=>by
  let#[q,d]:=m.key x hx;show (fresh x q d).1
 let X:∀x,x≠n->ρ x∈G.map ρ->x∈G:=λx hx h=>by
  let#[y,g,e]:=ax.mp h;rw[<-inj y x (D y g) hx e];show g
 let get:∀(i:Nat)(x:Nat),(G.map ρ)[i]?*>x->∃p,G[i]?*>p/\x=ρ p:=λi x h=>by
  rw[bu] at h;cases e:G[i]? with
  |none=>rw[e] at h;cases h
  |some p=>rw[e] at h;cases h;erw[p,5]
 erw[G.map ρ,#[‹m.ne›,?_,λi p q s d=>?_,λp s=>?_,λx hx y g K=>?_,λx hx y g=>?_],?_]
 .have:∀l:List Nat,(∀x∈l,x≠n)->l.Nodup->(l.map ρ).Nodup:=by
   intro l;induction l with
   |nil=>intro _ _;show ku
   |cons a l T=>
    intro h1 h2;rw[eO] at h2;rw[br,eO];erw[λz=>?_,T (λx hx=>h1 x\de _ hx) h2.2];let#[y,g,e]:=ax.mp z;have:=inj y a (h1 y\de _ g) (h1 a ∅) e;show h2.1 (this ▸ g)
  show this G D m.nd
 .let#[f,j,1]:=get i p s;let#[A,B,1]:=get (i+1) q d;show to f A\m.ch i f A j B
 .let#[f,j,1]:=ax.mp s;let#[q,d]:=m.key f j;erw[_,to f q d]
 .let#[f,j,1]:=ax.mp hx;let#[p,q,h1,w,1]:=back>>g;let ep:=inj f p (D f j) (fresh p q h1).1 w;subst ep;let#[r,K]:=K;let#[p2,N,h2,I,_]:=back>>K;let eq:=inj q p2 (fresh f q h1).2 (fresh p2 N h2).1 I;subst eq;show ax.mpr #[q,m.clF f j q h1 #[N,h2],1]
 .let#[f,j,1]:=ax.mp hx;let#[p,q,h1,1,w]:=back>>g;let eq:=inj f q (D f j) (fresh p q h1).2 w;subst eq;show ax.mpr #[p,m.clB f j p h1,1]
 rintro x ⟨y,g⟩;let#[p,q,h1,1,_]:=back>>g;show ax.mpr #[p,Q p #[q,h1],1]
end
end
def reE(v n:Nat)(F:List Nat)(e:Ent):Ent:=((rn v n F e.1.1 e.1.2,rn v n F e.1.2 e.2),rn v n F e.2 e.1.1)
def Ib{ts:List Tri}:ents (ts.map\ren v n F)=(ents ts).map (reE v n F):=by
 induction ts with
 |nil=>rfl
 |cons t ts a=>
  let h1:ents ((t::ts).map\ren v n F)=ents [ren v n F t]++ents (ts.map\ren v n F):=by simp[ents]
  let h2:ents (t::ts)=ents [t]++ents ts:=by simp[ents]
  rw[h1,h2,aW,a];rfl
def Co(ts:List Tri)(u:Nat):Prop:=∃p q,En ts u p q
def HQ{ts:List Tri}{n:Nat}(g:Good ts)(fr:∀a b c,En ts a b c->a≠n):Good (ts.map\ren v n F):=by
 let k:=g.sk;let ks:=Nl (v:=v) (F:=F) k fr;erw[λt u=>?_,?_]
 .let#[#[a,b,c],h,1]:=ax.mp u;let l:En ts a b c:=cG.mpr\.inl h;let m:=k.rot l;let w:=k.rot m;erw[ks.ne (c:=rn v n F c a) #[a,b,c,l,5,1],ks.ne (c:=rn v n F a b) #[b,c,a,m,5,1],ks.ne (c:=rn v n F b c) #[c,a,b,w,5,1]]
 rw[Ib,cz];let nd:=g.nd;let mem:∀e∈ents ts,En ts e.1.1 e.1.2 e.2:=λe he=>he;rw[List.Nodup,gq] at nd |-;show nd.imp_of_mem λ{x y} hx A h z=>h ?_;let z:=kH z;let#[#[a,b],c]:=x;let#[#[i,d],o]:=y;let e:En ts a b c:=mem _ hx;let r:En ts i d o:=mem _ A;let B:rn v n F a b=rn v n F i d:=z.1;let C:rn v n F b c=rn v n F d o:=z.2;let key:∀{p q f s},p≠n->f≠n->rn v n F p q=rn v n F f s->p=f:=by
  intro p q f s h1 h2 j;by_cases hx:rn v n F p q=n
  .rw[(iS h1 hx).1,(iS h2 (j ▸ hx)).1]
  rw[<-gJ hx,j,gJ (j ▸ hx)]
 change (a,b)=(i,d);rw[key (fr _ _ _ e) (fr _ _ _ r) B,key (fr _ _ _\k.rot e) (fr _ _ _\k.rot r) C]
structure Mid(ts:List Tri)(v:Nat)(F0:List Nat)(fs:List\List Nat)(rest:List Nat):Prop where
 good:Good ts
 fans:Fans (En ts) v (F0::fs)
 oth:∀u,Co ts u->u=v\/u∈rest\/One (En ts) u
def JD{E d:Nat->Nat->Nat->Prop}(h:∀a b c,E a b c↔d a b c):E=d:=by funext a b c;show propext\h a b c
def HD{n:Nat}{F:List Nat}{fs:List\List Nat}(m:Mid ts v g (F::fs) rest)(fr:∀u,Co ts u->u≠n):Mid (ts.map\ren v n F) v g fs rest:=by
 let f:∀a b c,En ts a b c->a≠n:=λa b c h=>fr a #[b,c,h];let k:=m.good.sk;let o:En (ts.map\ren v n F)=Rn (En ts) v n F:=JD λ_ _ _=>Mg;let hF:=m.fans.fan F ∅;let i:v≠n:=by let#[p,d]:=wu _ hF.ne;let#[q,j]:=hF.key p d;show f _ _ _ j
 let dis:=m.fans.dis;rw[wK,wK] at dis;let#[r,y,z]:=dis;let A:∀G∈g::fs,∀p∈F,p∉G:=by
  intro G e p d s;rcases aT.mp e with rfl|h
  .exact r F ∅ p s d
  show y G h p d s
 erw[HQ m.good f,?_,?_]
 .rw[o];erw[λG e=>?_,λp ⟨q,j⟩=>?_,?_]
  .refine HV k f i (m.fans.fan G ?_)\A G e;rcases aT.mp e with rfl|h
   .simp
   show de _\de _ h
  .let#[h1,h2]:=(lC k f i).mp j;let#[G,e,d]:=m.fans.all p #[q,h1];rcases aT.mp e with rfl|h
   .exact#[G,∅,d]
   rcases aT.mp h with rfl|h
   .exact (h2 d).elim
   erw[G,de _ h,d]
  rw[wK];erw[λG e=>r G\de _ e,z]
 rintro u ⟨p,q,h⟩;rw[o] at h |-;by_cases l:u=n
 .subst l;show .inr\.inr (G0 k f hF)
 let#[a,b,c,h,w,0]:=h;let B:u=a:=by rw[w];show gJ (by rw[<-w];show l)
 subst B;rcases m.oth u #[b,c,h] with h1|h1|h1
 .exact .inl h1
 .exact .inr\.inl h1
 by_cases x:u=v
 .exact .inl x
 show .inr\.inr (Fc k f hF i x l h1)
def JX(m:Mid ts v a [] rest)(u:Nat)(b:Co ts u):u∈rest\/One (En ts) u:=by
 rcases m.oth u b with rfl|h
 .refine .inr #[a,m.fans.fan a ∅,λp c=>?_];let#[G,d,h]:=m.fans.all p c;rw[aG.mp d] at h;show h
 show h
def Fs{ts:List Tri}{a:List Nat}{fs:List\List Nat}{rest:List Nat}(g:Good ts)(h:Fans (En ts) v (a::fs))(o:∀u,Co ts u->u∈v::rest\/One (En ts) u):Mid ts v a fs rest:=
 #[g,h,λu b=>(o u b).elim (λz=>(aT.mp z).elim .inl λz=>.inr\.inl z) λz=>.inr\.inr z]
def HE{rest:List Nat}(h:Fans (En ts) v [])(o:∀u,Co ts u->u∈v::rest\/One (En ts) u)(u:Nat)(a:Co ts u):u∈rest\/One (En ts) u:=by
 rcases o u a with z|z
 .rcases aT.mp z with rfl|z
  .let#[p,q,b]:=a;let#[G,c,_]:=h.all p #[q,b];cases c
  show .inl z
 show .inr z
def cK:Co ts u↔∃t∈ts,u=t.1\/u=t.2.1\/u=t.2.2:=by
 constructor
 .rintro⟨p,q,h⟩;rcases cG.mp h with h|h|h
  .exact#[_,h,.inl rfl]
  .exact#[_,h,.inr\.inl rfl]
  erw[_,h,.inr\.inr rfl]
 rintro⟨⟨a,b,c⟩,h,rfl|rfl|rfl⟩
 .exact#[b,c,cG.mpr\.inl h]
 .exact#[c,a,cG.mpr\.inr (.inl h)]
 erw[a,b,cG.mpr\.inr (.inr h)]
def nam(f:Nat->Nat)(t:Tri):Tri:=(f t.1,f t.2.1,f t.2.2)
def naE(f:Nat->Nat)(e:Ent):Ent:=((f e.1.1,f e.1.2),f e.2)
def uC{f:Nat->Nat}{ts:List Tri}:ents (ts.map\nam f)=(ents ts).map (naE f):=by
 induction ts with
 |nil=>rfl
 |cons t ts a=>
  let h1:ents ((t::ts).map\nam f)=ents [nam f t]++ents (ts.map\nam f):=by simp[ents]
  let h2:ents (t::ts)=ents [t]++ents ts:=by simp[ents]
  rw[h1,h2,aW,a];rfl
def zO{f:Nat->Nat}{ts:List Tri}(g:Good ts)(inj:∀a b,Co ts a->Co ts b->f a=f b->a=b):Good (ts.map\nam f):=by
 let k:=g.sk;erw[λt o=>?_,?_]
 .let#[#[a,b,c],h,1]:=ax.mp o;let ca:Co ts a:=cK.mpr #[_,h,.inl rfl];let l:Co ts b:=cK.mpr #[_,h,.inr\.inl rfl];let m:Co ts c:=cK.mpr #[_,h,.inr\.inr rfl];let#[p,q,r]:a≠b/\b≠c/\c≠a:=g.ne _ h;erw[λz=>p\inj _ _ ca l z,λz=>q\inj _ _ l m z,λz=>r\inj _ _ m ca z]
 rw[uC,cz];let nd:=g.nd;rw[List.Nodup,gq] at nd |-;show nd.imp_of_mem λ{x y} hx s h z=>h ?_;let#[#[a,b],c]:=x;let#[#[d,i],j]:=y;let z:=kH z;let e:En ts a b c:=hx;let n:En ts d i j:=s;let u:f a=f d:=z.1;let v:f b=f i:=z.2;change (a,b)=(d,i);rw[inj a d #[b,c,e] #[i,j,n] u,inj b i #[c,a,k.rot e] #[j,d,k.rot n] v]
def BN{f:Nat->Nat}{ts:List Tri}(h:Co (ts.map\nam f) u):∃a,Co ts a/\u=f a:=by
 let#[t,d,e]:=cK.mp h;let#[#[a,b,c],hm,1]:=ax.mp d;rcases e with rfl|rfl|rfl
 .exact#[a,cK.mpr #[_,hm,.inl rfl],1]
 .exact#[b,cK.mpr #[_,hm,.inr\.inl rfl],1]
 erw[c,cK.mpr #[_,hm,.inr\.inr rfl],1]
def Win(w j x:Nat):Prop:=w=0/\x=j\/w=1/\7*j<=x/\x<7*j+7\/w=2/\x+(j+1)*10 ^ 9+1<=10 ^ 60/\10 ^ 60<x+(j+2)*10 ^ 9+1
def Iu{w:Nat}(h:Win w i x)(h':Win w j x):i=j:=by
 rcases h with ⟨rfl,h⟩|⟨rfl,h1,h2⟩|⟨rfl,h1,h2⟩
 .rcases h' with ⟨_,h'⟩|⟨z,_⟩|⟨z,_⟩
  .lia
  .cases z
  cases z
 .rcases h' with ⟨z,_⟩|⟨_,a,b⟩|⟨z,_⟩
  .cases z
  .lia
  cases z
 rcases h' with ⟨z,_⟩|⟨z,_⟩|⟨_,a,b⟩
 .cases z
 .cases z
 lia
def Kw{w j:Nat}(a:j<=1000)(h:Win w j x):x<10 ^ 60:=by
 rcases h with ⟨_,h⟩|⟨_,_,h⟩|⟨_,h,_⟩
 .lia
 .lia
 lia
def BG{f:Nat->Nat}{ts:List Tri}(g:Good ts)(inj:∀a b,Co ts a->Co ts b->f a=f b->a=b){a b:Nat}(h:En (ts.map\nam f) a b c):∃d e i,En ts d e i/\a=f d/\b=f e/\c=f i:=by unfold En at h;rw[uC] at h;let#[#[#[d,e],i],h1,h2]:=ax.mp h;let h2:=kH h2;let j:=kH h2.1;erw[d,e,i,h1,j.1.symm,j.2.symm,h2.2.symm]
def Bz{f:Nat->Nat}(h:En ts a b c):En (ts.map\nam f) (f a) (f b) (f c):=by unfold En;rw[uC];show ax.mpr #[_,h,1]
def JB{f:Nat->Nat}{ts:List Tri}(g:Good ts)(inj:∀a b,Co ts a->Co ts b->f a=f b->a=b)(H:Co ts v)(h:One (En ts) v):One (En\ts.map (nam f)) (f v):=by
 let#[F,hF,I]:=h;let k:=g.sk;let key:∀p∈F,Co ts p:=λp d=>by
  let#[q,j]:=hF.key p d;erw[q,v,k.rot j]
 let nx:∀{x y z:Nat},En ts x y z->Co ts y:=λ{x y z} e=>#[z,x,k.rot e];let u:∀{x y z:Nat},En ts x y z->Co ts z:=λ{x y z} e=>#[x,y,k.rot\k.rot e];let back:∀{p q:Nat},En (ts.map\nam f) (f v) p q->∃c m,En ts v c m/\p=f c/\q=f m:=λ{p q} e=>by
  let#[w,A,B,h1,h2,n,K]:=BG g inj e;have:v=w:=inj v w H #[A,B,h1] h2;subst this;erw[A,B,h1,n,K]
 erw[F.map f,#[λz=>hF.ne\CH.mp z,?_,λi p q d j=>?_,λp d=>?_,λp d q j s=>?_,λp d o L=>?_],λp ⟨q,j⟩=>?_]
 .have:=hF.nd;rw[List.Nodup] at this |-;rw[gq];show this.imp_of_mem λ{x y} hx M N z=>N\inj x y (key x hx) (key y M) z
 .rw[bu] at d j;let#[c,h1,1]:=cA.mp d;let#[m,h2,1]:=cA.mp j;show Bz\hF.ch i c m h1 h2
 .let#[c,h1,1]:=ax.mp d;let#[q,j]:=hF.key c h1;erw[f q,Bz j]
 .let#[c,h1,1]:=ax.mp d;let#[p2,l,e,h2,1]:=back j;have:c=p2:=inj c p2 (key c h1) (nx e) h2;subst this;let#[r,s]:=s;let#[C,O,D,n,_]:=back s;have:l=C:=inj l C (u e) (nx D) n;subst this;show ax.mpr #[l,hF.clF c h1 l e #[O,D],1]
 .let#[c,h1,1]:=ax.mp d;let#[E,p2,e,1,h2]:=back L;have:c=p2:=inj c p2 (key c h1) (u e) h2;subst this;show ax.mpr #[E,hF.clB c h1 E e,1]
 let#[p2,l,e,5]:=back j;show ax.mpr #[p2,I p2 #[l,e],1]
def yw{E d:Nat->Nat->Nat->Prop}(h:∀a b c,E a b c↔d a b c)(v:Nat):One E v↔One d v:=by
 have:E=d:=by funext a b c;show propext\h a b c
 rw[this]
def kU(a:Tri)(l:List Tri):ents (a::l)=ents [a]++ents l:=by simp[ents]
def Ia{ts c:List Tri}(h:c.Sublist ts):(ents c).Sublist (ents ts):=by
 induction h with
 |slnil=>show OC _
 |cons a _ b=>rw[kU a];show b.trans\List.sublist_append_right _ _
 |cons_cons a _ b=>rw[kU a,kU a];show Qy (OC _) b
def uA{ts a:List Tri}(g:Good ts)(h:a.Sublist ts):Good a:=by erw[λt b=>g.ne t\h.subset b,g.nd.sublist\Cq _ ?_];show Ia h
def HR{as bs:List Tri}(g:Good as)(g':Good bs)(h:∀a,Co as a->¬Co bs a):Good (as++bs):=by
 let e:ents (as++bs)=ents as++ents bs:=by simp[ents]
 erw[λt j=>(bo.mp j).elim (g.ne t)\g'.ne t,?_];rw[e,aW,cW];erw[g.nd,g'.nd,λs l s' m z=>?_];let#[#[#[a,b],c],h1,h2]:=ax.mp l;let#[#[#[f,i],n],o,d]:=ax.mp m;let h2:(a,b)=s:=h2;let d:(f,i)=s':=d;have:(a,b)=(f,i):=by rw[h2,d,z]
 cases this;show h a #[b,c,h1] #[b,n,o]
def FB{l:List Tri}{a b c:Nat}(g:Good (l++[(a,b,c)]))(f:¬Co (l++[(a,b,c)]) n):Good (l++[(a,b,n),(b,c,n),(c,a,n)]):=by
 let e:∀m,ents (l++m)=ents l++ents m:=λm=>by simp[ents]
 let gl:Good l:=uA g ∅;let nd:=g.nd;rw[e,aW,cW] at nd;let#[j,o,r]:a≠b/\b≠c/\c≠a:=g.ne (a,b,c) ∅;let co:∀x,x=a\/x=b\/x=c->Co (l++[(a,b,c)]) x:=λx hx=>cK.mpr #[(a,b,c),∅,hx];let na:n≠a:=λz=>f\co n (.inl z);let nb:n≠b:=λz=>f\co n (.inr\.inl z);let i:n≠c:=λz=>f\co n (.inr\.inr z);let nl:∀s∈(ents l).map (·.1),s.1≠n/\s.2≠n:=λs d=>by
  let#[#[#[x,y],z],h1,1]:=ax.mp d;let h1:En l x y z:=h1;let cx:∀u,Co l u->Co (l++[(a,b,c)]) u:=λu ⟨p,q,A⟩=>#[p,q,by unfold En at *;rw[e];show d_ _ A];erw[λw=>f (w ▸ cx x #[y,z,h1]),λw=>f (w ▸ cx y #[z,x,gl.sk.rot h1])]
 let B:∀s∈(ents l).map (·.1),s≠(a,b)/\s≠(b,c)/\s≠(c,a):=λs d=>by
  let h:=nd.2.2 s d;erw[h (a,b) (by simp[ents]),h (b,c) (by simp[ents]),h (c,a) (by simp[ents])]
 erw[λt C=>?_,?_]
 .rcases bo.mp C with h|h
  .exact gl.ne t h
  simp only[aT,eZ,or_false] at h;rcases h with rfl|rfl|rfl
  .exact#[j,aA nb,na]
  .exact#[o,aA i,nb]
  erw[r,aA na,i]
 rw[e,aW,cW];erw[gl.nd,?_,λs d s' v z=>?_]
 .simp[ents,j,o,r,na,nb,i,aA j,aA o,aA r,aA na,aA nb,aA i]
 subst z;let#[m1,m2]:=nl s d;let#[D,E,H]:=B s d;simp[ents] at v;rcases v with rfl|rfl|rfl|rfl|rfl|rfl|rfl|rfl|rfl
 all_goals first|show D rfl|show E rfl|show H rfl|show m1 rfl|show m2 rfl
variable {E:Nat->Nat->Nat->Prop}
def bq(E:Nat->Nat->Nat->Prop)(a b:Nat):Prop:=(∃q,E a b q)/\¬∃r,E b a r
def Au(k:Sk E)(hF:Fan E a F)(all:∀p,(∃q,E a p q)->p∈F)(h:bq E a b):F[0]?*>b:=by
 let#[i,hi]:=eY.mp\all b h.1;cases i with
 |zero=>show hi
 |succ i=>
  let#[d,_]:=aN.mp hi;let c:F[i]?*>F[i]'():=aU _;show (h.2 #[_,k.rot\k.rot (hF.ch i _ _ c hi)]).elim
def Jd(k:Sk E)(o:One E a)(h:bq E a b)(h':bq E a c):b=c:=by let#[F,hF,all]:=o;show eg\(Au k hF all h).symm.trans (Au k hF all h')
def uq(k:Sk E)(hF:Fan E a F)(all:∀p,(∃q,E a p q)->p∈F)(h:bq E z a):∃l,F[↑F-1]?*>l/\E a l z:=by
 let#[#[q,b],no]:=h;let b:=k.rot b;let#[i,hi]:=eY.mp\all q #[z,b];let#[f,_]:=aN.mp hi;by_cases c:i+1<↑F
 .let d:F[i+1]?*>F[i+1]:=aU c;let e:z=F[i+1]:=k.one b\hF.ch i _ _ hi d;show (no (by rw[e];show hF.key _\kq c)).elim
 erw[q,by rw[show ↑F-1=i by lia];show hi,b]
def Je(k:Sk E)(o:One E a)(h:bq E z a)(h':bq E b a):z=b:=by let#[F,hF,all]:=o;let#[l,h1,h2]:=uq k hF all h;let#[e,c,d]:=uq k hF all h';cases h1.symm.trans c;show k.one h2 d
def Gq(k:Sk E)(o:One E a)(h:bq E z a):∃b,bq E a b:=by
 let#[F,hF,all]:=o;let#[l,h1,h2]:=uq k hF all h;let j:0<↑F:=by
  cases m:F with
  |nil=>show absurd m hF.ne
  |cons x xs=>simp
 let f:F[0]?*>F[0]'j:=aU _;generalize F[0]'j=b at f;erw[b,hF.key b\a9 f,λ⟨r,d⟩=>?_];let d:=k.rot d;let#[i,hi]:=eY.mp\all r #[b,d];let#[n,_]:=aN.mp hi;by_cases c:i+1<↑F
 .let g:F[i+1]?*>F[i+1]:=aU c;let e:=k.one d\hF.ch i _ _ hi g;rw[<-e] at g;have:=jO hF.nd g f;lia
 rw[show ↑F-1=i by lia] at h1;cases hi.symm.trans h1;let e:=k.one d h2;show h.2 (by rw[<-e];show hF.key b\a9 f)
section
variable {R:Nat->Nat->Prop}
structure Path(R:Nat->Nat->Prop)(l:List Nat):Prop where
 ne:l≠[]
 nd:l.Nodup
 ch:∀i p q,l[i]?*>p->l[i+1]?*>q->R p q
structure Cyc(R:Nat->Nat->Prop)(l:List Nat):Prop extends Path R l where
 back:∀p q,l[↑l-1]?*>p->l[0]?*>q->R p q
def Path.one(R:Nat->Nat->Prop)(a:Nat):Path R [a]:=#[∅,∅,λi p q h1 h2=>by simp at h2]
def Path.home(inj:∀a b c,R a c->R b c->a=b)(h:Path R l){p z:Nat}(g:l[↑l-1]?*>p)(hz:R p z)(hm:z∈l):l[0]?*>z:=by
 let#[j,d]:=eY.mp hm;cases j with
 |zero=>show d
 |succ j=>
  let#[i,_]:=aN.mp d;let f:l[j]?*>l[j]'():=aU _;let e:=inj _ _ _ hz\h.ch j _ _ f d;rw[<-e] at f;have:=jO h.nd g f;lia
def Path.snoc(h:Path R l){p z:Nat}(f:l[↑l-1]?*>p)(hz:R p z)(hm:z∉l):Path R (l++[z]):=by
 let j:0<↑l:=hU.mpr h.ne;erw[∅,cW.mpr #[h.nd,∅,λa ha b g e=>hm (by rw[<-aG.mp g,<-e];show ha)],λi x y h1 h2=>?_];by_cases c:i+1<↑l
 .rw[dZ c] at h2;rw[dZ ()] at h1;show h.ch i x y h1 h2
 by_cases d:i+1=↑l
 .rw[hJ (),show i+1-↑l=0 by lia] at h2;rw[dZ (),show i=↑l-1 by lia] at h1;cases f.symm.trans h1;cases (show oy z*>y from h2);show hz
 rw[hJ ()] at h2;have:[z][i+1-↑l]?=n7:=sX (by simp;lia);rw[this] at h2;cases h2
def Cyc.step(h:Cyc R l){p:Nat}(b:p∈l):∃q∈l,R p q:=by
 let#[i,hi]:=eY.mp b;let#[d,_]:=aN.mp hi;by_cases c:i+1<↑l
 .exact#[l[i+1],kq c,h.ch i _ _ hi\aU c]
 rw[show i=↑l-1 by lia] at hi;let a:l[0]?*>l[0]'():=aU _;erw[_,a9 a,h.back _ _ hi a]
def Cyc.before(inj:∀a b c,R a c->R b c->a=b)(h:Cyc R l){p q:Nat}(f:q∈l)(e:R p q):p∈l:=by
 let#[i,hi]:=eY.mp f;let#[g,_]:=aN.mp hi;cases i with
 |zero=>
  let d:l[↑l-1]?*>l[↑l-1]'():=aU _;rw[inj _ _ _ e\h.back _ _ d hi];show a9 d
 |succ i=>
  let d:l[i]?*>l[i]'():=aU _;rw[inj _ _ _ e\h.ch i _ _ d hi];show a9 d
def Path.from(inj:∀a b c,R a c->R b c->a=b)(h:Path R m)(g:Cyc R l){x:Nat}(hx:x∈m)(j:x∈l){y:Nat}(n:m[0]?*>y):y∈l:=by
 let key:∀(i p:Nat),m[i]?*>p->p∈l->y∈l:=by
  intro i;induction i with
  |zero=>intro p d e;cases n.symm.trans d;show e
  |succ i o=>
   intro p d e;let#[hm,_]:=aN.mp d;let f:m[i]?*>m[i]'():=aU _;show o _ f\g.before inj e (h.ch i _ _ f d)
 let#[i,hi]:=eY.mp hx;show key i x hi j
structure Rims(R:Nat->Nat->Prop)(ls:List\List Nat):Prop where
 cyc:∀l∈ls,Cyc R l
 least:∀l∈ls,∀x,l[0]?*>x->∀p∈l,x<=p
 all:∀p,(∃q,R p q)->∃l∈ls,p∈l
 rise:ls.Pairwise λl m=>∀x y,l[0]?*>x->m[0]?*>y->x<y
def Path.begin(h:Path R l):∃x,l[0]?*>x/\x∈l:=by let a:0<↑l:=hU.mpr h.ne;erw[l[0],aU _,kq _]
end
abbrev Ne3(t:Tri):Prop:=t.1≠t.2.1/\t.2.1≠t.2.2/\t.2.2≠t.1
def bg(t:Tri):Tri:=if t.1<=t.2.1/\t.1<=t.2.2 then t else if t.2.1<=t.2.2/\t.2.1<=t.1 then (t.2.1,t.2.2,t.1) else (t.2.2,t.1,t.2.1)
def Cd(t:Tri):bg t=t\/bg t=(t.2.1,t.2.2,t.1)\/bg t=(t.2.2,t.1,t.2.1):=by
 unfold bg
 split
 .exact .inl rfl
 split
 .exact .inr\.inl rfl
 show .inr\.inr rfl
def Ob(t:Tri):(bg t).1<=(bg t).2.1/\(bg t).1<=(bg t).2.2:=by
 unfold bg
 split
 .assumption
 split
 .assumption
 erw[?_,?_]
 .change t.2.2<=t.1;lia
 change t.2.2<=t.2.1;lia
def rY{t:Tri}(h:t.1<=t.2.1/\t.1<=t.2.2):bg t=t:=Ry h
def Oc(t:Tri):bg (bg t)=bg t:=rY\Ob t
def rC{a b c:Nat}(h:Ne3 (a,b,c)):bg (b,c,a)=bg (a,b,c):=by
 let#[h1,h2,d]:a≠b/\b≠c/\c≠a:=h;unfold bg;dsimp only;by_cases c1:a<=b/\a<=c
 .rw[Ry c1,Rx (),Rx ()]
 rw[Rx c1];by_cases c2:b<=c/\b<=a
 .rw[Ry c2,Ry c2]
 rw[Rx c2,Rx c2,Ry ()]
def Ic(t:Tri):(ents [bg t]).Perm (ents [t]):=by
 let#[a,b,c]:=t;let e:ents [(a,b,c)]=[((a,b),c),((b,c),a),((c,a),b)]:=rfl;rcases Cd (a,b,c) with h|h|h<;>rw[h]
 .change ([((b,c),a),((c,a),b)]++[((a,b),c)]).Perm ([((a,b),c)]++[((b,c),a),((c,a),b)]);show jI
 change ([((c,a),b)]++[((a,b),c),((b,c),a)]).Perm ([((a,b),c),((b,c),a)]++[((c,a),b)]);show jI
def AM:∀ts:List Tri,(ents\ts.map bg).Perm (ents ts)
 | []=>.refl _
 |t::ts=>by rw[br,kU,kU t];show (Ic t).append\AM ts
def AL{as bs:List Tri}(h:as.Perm bs):(ents as).Perm (ents bs):=h.flatMap_right _
def Alike(us ts:List Tri):Prop:=us.Perm\ts.map bg
def Alike.ents{us:List Tri}(h:Alike us ts):(ents us).Perm (ents ts):=(AL h).trans\AM ts
def Alike.en{us:List Tri}(h:Alike us ts)(a b c:Nat):En us a b c↔En ts a b c:=h.ents.mem_iff
structure Skn(ts:List Tri):Prop where
 g:Good ts
 o:∀c,Co ts c->One (En ts) c
def Skn.pm{d:List Tri}(s:Skn ts)(h:(ents d).Perm\ents ts):Skn d:=by
 erw[#[λt f=>?_,(h.map _).nodup_iff.mpr s.g.nd],λc i=>?_]
 .let k:=s.g.sk;let#[a,b,c]:=t;let e:En ts a b c:=h.mem_iff.mp\cG.mpr (.inl f);erw[k.ne e,k.ne\k.rot e,k.ne\k.rot (k.rot e)]
 let#[p,q,e]:=i;show (yw (λa b c=>(h.mem_iff:((a,b),c)∈_↔_)) c).mpr\s.o c #[p,q,h.mem_iff.mp e]
def As{us:List Tri}(h:Alike us ts){t:Tri}(a:t∈us):bg t=t:=by let#[u,2]:=ax.mp\h.mem_iff.mp a;show Oc u
end K15
section
namespace L2
open PySem PySem.Spec PyProof.Rows
abbrev Key:=Sum Int Str
def l_:Key->pC->Bool
 |.inl k,v=>Value.isInt k v
 |.inr x,v=>Value.isStrOf x v
def keyH(w:sf):Key->Int
 |.inl k=>hashInt k
 |.inr x=>hashStr w x
def gD:∀{k:Key}{v:pC},l_ k v=oD->(∃i t,k=Sum.inl i/\v=Value.int i t)\/(∃x t,k=Sum.inr x/\v=Value.str x t)
 |.inl i,v,h=>by
  let#[t,e]:=Value.isInt_shape (k:=i) (v:=v) h;show .inl #[i,t,1,e]
 |.inr x,v,h=>by
  let#[t,e]:=Value.isStrOf_shape (x:=x) (v:=v) h;show .inr #[x,t,1,e]
def Fw(i:Int)(t:Tok):l_ (.inl i) (.int i t)=oD:=by simp[l_,Value.isInt]
def Fv(x:Str)(t:Tok):l_ (.inr x) (.str x t)=oD:=by simp[l_,Value.isStrOf]
def LW(a b:Int):decide ((Sum.inl a:Key)=Sum.inl b)=(a==b):=by
 by_cases e:a=b
 .subst e;simp
 let h:¬(Sum.inl a:Key)=Sum.inl b:=λq=>e\oY q;rw[RA h];show (beq_eq_false_iff_ne.mpr e).symm
def LS(a b:Str):decide ((Sum.inr a:Key)=Sum.inr b)=decide (a=b):=by
 by_cases e:a=b
 .subst e;simp
 let h:¬(Sum.inr a:Key)=Sum.inr b:=λq=>e\Sum.inr.inj q;rw[RA h,RA e]
def LV(a:Int)(b:Str):decide ((Sum.inl a:Key)=Sum.inr b)=p6:=RA (λq=>nomatch q)
def LU(a:Str)(b:Int):decide ((Sum.inr a:Key)=Sum.inl b)=p6:=RA (λq=>nomatch q)
def dw(prog:rp)(w:sf):PySem.KeyKind prog w Key where
 is:=l_
 hash:=keyH w
 inj:=λv a b ha f=>by
  rcases gD ha with ⟨i,t,rfl,rfl⟩|⟨x,t,rfl,rfl⟩
  .rcases gD f with ⟨j,u,rfl,e⟩|⟨y,u,rfl,e⟩
   .injection e with c _;rw[c]
   show nomatch e
  rcases gD f with ⟨j,u,rfl,e⟩|⟨y,u,rfl,e⟩
  .exact nomatch e
  injection e with c _;rw[c]
 byValue:=λk v h=>by
  rcases gD h with ⟨i,t,rfl,rfl⟩|⟨x,t,rfl,rfl⟩<;>rfl
 pyHash:=λd h=>by
  rcases gD d with ⟨i,t,rfl,rfl⟩|⟨x,t,rfl,rfl⟩
  .exact wpAny_pyHash_int h
  show wpAny_pyHash_str h
 eqBool:=λg d h=>by
  rcases gD g with ⟨i,t,rfl,rfl⟩|⟨x,t,rfl,rfl⟩
  .rcases gD d with ⟨j,u,rfl,rfl⟩|⟨y,u,rfl,rfl⟩
   .rw[LW] at h;show Do h
   rw[LV] at h;show PM i t y u _ _ _ _ h
  rcases gD d with ⟨j,u,rfl,rfl⟩|⟨y,u,rfl,rfl⟩
  .rw[LU] at h;show PN x t j u _ _ _ _ h
  rw[LS] at h;show wpAny_eqBool_str h
 «strs»:=λk x t v h=>by
  rcases gD h with ⟨i,u,rfl,e⟩|⟨y,u,rfl,e⟩
  .exact nomatch e
  injection e with c _;subst c;cases v<;>rfl
def D_(prog:rp)(w:sf)(i:Int)(t:Tok):(dw prog w).is (.inl i) (.int i t)=oD:=Fw i t
def D9(prog:rp)(w:sf)(x:Str)(t:Tok):(dw prog w).is (.inr x) (.str x t)=oD:=Fv x t
end L2
namespace L2
open PySem PySem.Spec PyProof.Rows
inductive V where
 |non|bl (b:Bool)|int (i:Int)|str (x:Str)|byt (b:Array UInt8)|flt (b:UInt64)|ref (a:pR)|ty (n:String)
 deriving DecidableEq
def aC:V->pC->Prop
 |.non,u=>u=Value.none
 |.bl b,u=>u=Value.bool b
 |.int i,u=>∃t,u=Value.int i t
 |.str x,u=>∃t,u=Value.str x t
 |.byt b,u=>∃t,u=Value.bytes b t
 |.flt b,u=>∃t,u=Value.float b t
 |.ref a,u=>u=Value.ref a
 |.ty n,u=>u=Value.type n
abbrev Vals:List V->List pC->Prop:=Paired aC
def Vals.length(r:Vals xs us):↑xs=↑us:=oS r
def Vals.get:∀{xs:List V}{us:List pC}{i:Nat}{x:V},Vals xs us->xs[i]?*>x->∃u,us[i]?*>u/\aC x u
 |_,_,_,_,.nil,e=>by simp at e
 |_,_,0,_,.cons r _,e=>by simp at e;subst e;erw[2,r]
 |_,_,i+1,x,.cons _ t,e=>by
  let#[u,h1,h2]:=Vals.get (i:=i) (x:=x) t ‹e›;erw[u,‹h1›,h2]
def Vals.set(r:aC x u):∀{xs:List V}{us:List pC}(i:Nat),Vals xs us->Vals (xs.set i x) (us.set i u)
 |_,_,_,.nil=>.nil
 |_,_,0,.cons _ t=>.cons r t
 |_,_,i+1,.cons q t=>.cons q\Vals.set r i t
def Vals.append{us:List pC}(h:Vals xs us)(s:Vals ys ws):Vals (xs++ys) (us++ws):=by
 induction h with
 |nil=>show s
 |cons r t a=>show .cons r a
def Vals.take:∀{xs:List V}{us:List pC}(n:Nat),Vals xs us->Vals (xs.take n) (us.take n)
 |_,_,0,_=>.nil
 |_,_,_+1,.nil=>.nil
 |_,_,n+1,.cons r t=>.cons r\Vals.take n t
def Vals.drop:∀{xs:List V}{us:List pC}(n:Nat),Vals xs us->Vals (xs.drop n) (us.drop n)
 |_,_,0,r=>r
 |_,_,_+1,.nil=>.nil
 |_,_,n+1,.cons _ t=>Vals.drop n t
def dN:Option V->Option pC->Prop
 |some v,oy u=>aC v u
 |none,n7=>True
 |_,_=>False
def KV{κ:Type}:List (κ×V)->List (κ×pC)->Prop:=Paired λ(p:κ×V)(q:κ×pC)=>p.1=q.1/\aC p.2 q.2
def kV:Key->V
 |.inl i=>.int i
 |.inr x=>.str x
inductive HO where
 |lst (xs:List V)
 |tup (xs:List V)
 |dK (kvs:List (Key×V))|dT (kvs:List (List Key×V))
 |set (S:Int->Bool) (n:Nat)
 |ins (C dx:pR) (fs:List (Str×V))
 |own (x:pR)
 |xd (fs:List (Str×V))
 |met (f x:pR)
 |rng (lo hi:Int)
 |frz (o:Obj) (u:HO)
 |tbl (ps:Array pC)
 |ext (φ:rq->Prop)
abbrev Hp:=pR->Option HO
def upd(H:Hp)(a:pR)(o:HO):Hp:=λb=>if b=a then oy o else H b
def aI:upd H a o a*>o:=by unfold upd;rw[Ry rfl]
def ar{a b:pR}(h:b≠a):upd H a o b=H b:=by unfold upd;rw[Rx h]
def uI:upd (upd H a o) a u=upd H a u:=by funext b;unfold upd;split<;>rfl
def bW{H:Hp}{o u:HO}(h:H a*>o)(h':H b*>u)(d:o≠u):a≠b:=by intro e;subst e;rw[h] at h';show d\eg h'
def ao{H:Hp}{o:HO}(h:H a*>o)(h':H b=n7):a≠b:=by intro e;subst e;rw[h] at h';cases h'
section
variable (P:Program)(w:World)
def bh(H:Hp)(h:rq)(a:pR):HO->Prop
 |.lst xs=>↑xs<=qs/\∃(b:List pC)(n:Nat),Vals xs b/\h.get? a*>{cls:=.type ↑28,data:=.seq b.toArray n}
 |.tup xs=>(↑xs<=qs/\∃o,h.get? a*>o/\o.dict=n7)/\∃b:List pC,Vals xs b/\IsTup h a b.toArray
 |.dK kvs=>↑kvs<=qs/\(a==tf)=p6/\∃vs,KV kvs vs/\h.DictOf (dw P w) a vs
 |.dT kvs=>↑kvs<=qs/\(a==tf)=p6/\∃xs:List (List Key×pR×pC),
   Paired (λ(p:List Key×V)(q:List Key×pR×pC)=>p.1=q.1/\H q.2.1*>.tup (p.1.map kV)/\aC p.2 q.2.2) kvs xs/\
   ∃o es ep,h.get? a*>o/\o.ExactDict/\o.data=.dict es ep/\es.toList=xs.map (entryOfKey\tupleKind (dw P w))/\(xs.map (·.1)).Nodup
 |.set S n=>h.SetOf (intKind P w) a S n
 |.ins C dx fs=>H dx*>.own a/\↑fs<=1000/\dx≠a/\h.get? a*>W.instObj C dx/\
   ∃mA,h.Ns1 dx mA/\(∀f,dN (fs.lookup f)\mA f)/\PySem.Within mA\fs.map (·.1)
 |.own _=>∃o,h.get? a*>o
 |.xd fs=>∃mA,h.Ns1 a mA/\∀f,dN (fs.lookup f)\mA f
 |.rng lo hi=>∃t u v,h.get? a*>{cls:=.type "range",data:=.fields\tA [.int lo t,.int hi u,.int 1 v]}
 |.frz o u=>h.get? a*>o/\bh H h a u
 |.tbl ps=>h.get? a*>{cls:=.none,data:=.fields ps}
 |.met f x=>h.get? a*>W.methodObj (.ref f)\.ref x
 |.ext φ=>φ h/\(∃o,h.get? a*>o)/\∀h1 h2:rq,φ h1->(∀o,h1.get? a*>o->h2.get? a*>o)->φ h2
def HOk(H:Hp)(h:rq):Prop:=∀a o,H a*>o->bh P w H h a o
end
section
variable {H H':Hp}{h h':Heap}{a:Addr}{o:HO}
def bh.lt(x:bh P w H h a o):a<h.objs.size:=by
 cases o with
 |lst xs=>let#[8,_,e]:=x;show aJ e
 |tup xs=>let#[8,p]:=x;show p.lt
 |dK kvs=>let#[8,_,o,0,e,_]:=x;show aJ e
 |dT kvs=>let#[8,_,o,0,e,_]:=x;show aJ e
 |set S n=>let#[o,8,e,_]:=x;show aJ e
 |ins C dx fs=>let#[8,e,_]:=x;show aJ e
 |own y=>let#[_,e]:=x;show aJ e
 |xd fs=>let#[_,#[8,e,_],_]:=x;show aJ e
 |rng lo hi=>let#[8,e]:=x;show aJ e
 |frz ob u=>let#[e,_]:=x;show aJ e
 |tbl ps=>show aJ (show h.get? a*>_ from x)
 |met f y=>show aJ (show h.get? a*>_ from x)
 |ext φ=>let#[_,#[_,e],_]:=x;show aJ e
def Paired.mapP{α β:Type}{F G:α->β->Prop}:∀{l₁:List α}{l₂:List β},Paired F l₁ l₂->(∀a b,F a b->G a b)->Paired G l₁ l₂
 |_,_,.nil,_=>.nil
 |_,_,.cons r t,f=>.cons (f>>r)\Paired.mapP t f
def Paired.imp'{α β:Type}{F G:α->β->Prop}(f:∀a b,F a b->G a b){l₁:List α}{l₂:List β}(r:Paired F l₁ l₂):Paired G l₁ l₂:=Paired.mapP r f
def bh.stay(x:bh P w H h a o)(k:∀b u,(b=a\/H b*>.own a)->h.get? b*>u->h'.get? b*>u)
  (i:∀b,H b*>.own a->H' b*>.own a) (j:∀b xs,H b*>.tup xs->H' b*>.tup xs):bh P w H' h' a o:=by
 induction o with
 |lst xs=>let#[z,g,n,r,e]:=x;erw[z,g,n,r,k _ _ (.inl rfl) e]
 |tup xs=>let#[#[z,o',l,d'],g,r,ob,e,c]:=x;erw[#[z,o',k _ _ (.inl rfl) l,d'],g,r,ob,k _ _ (.inl rfl) e,c]
 |dK kvs=>let#[z,y,vs,r,ob,es,ep,e,c]:=x;erw[z,y,vs,r,ob,es,ep,k _ _ (.inl rfl) e,c]
 |dT kvs=>
  let#[z,y,xs,r,ob,es,ep,e,c]:=x;erw[z,y,xs,Paired.mapP r λp q z=>#[z.1,j>>z.2.1,z.2.2],ob,es,ep,k _ _ (.inl rfl) e,c]
 |set S n=>let#[ob,es,ep,t,e,c]:=x;erw[ob,es,ep,t,k _ _ (.inl rfl) e,c]
 |ins C dx fs=>
  let#[d,z,ne,e,mA,#[od,es,ep,m,c],r]:=x;erw[i _ d,z,ne,k _ _ (.inl rfl) e,mA,#[od,es,ep,k _ _ (.inr d) m,c],r]
 |own y=>let#[ob,e]:=x;erw[ob,k _ _ (.inl rfl) e]
 |xd fs=>let#[mA,#[od,es,ep,e,c],r]:=x;erw[mA,#[od,es,ep,k _ _ (.inl rfl) e,c],r]
 |rng lo hi=>let#[t,u,v,e]:=x;erw[t,u,v,k _ _ (.inl rfl) e]
 |frz ob u s=>let#[e,q]:=x;erw[k _ _ (.inl rfl) e,s q]
 |tbl ps=>
  let e:h.get? a*>{cls:=.none,data:=.fields ps}:=x;change h'.get? a*>{cls:=.none,data:=.fields ps};show k a _ (.inl rfl) e
 |met f y=>
  let e:h.get? a*>W.methodObj (.ref f) (.ref y):=x;change h'.get? a*>W.methodObj (.ref f)\.ref y;show k a _ (.inl rfl) e
 |ext φ=>let#[p,#[o,e],st]:=x;erw[st _ _ p λo q=>k _ _ (.inl rfl) q,#[o,k _ _ (.inl rfl) e],st]
def HOk.lt(x:HOk P w H h)(e:H a*>o):a<h.objs.size:=(x a o e).lt
def HOk.fresh(x:HOk P w H h)(e:h.objs.size<=a):H a=n7:=by
 cases q:H a with
 |none=>rfl
 |some u=>show absurd (bU (x.lt q) e)\dD _
def HOk.kept(x:HOk P w H h)(k:∀b u,h.get? b*>u->h'.get? b*>u):HOk P w H h':=λa o e=>
 (x a o e).stay (λb u _ q=>k b u q) (λ_ q=>q) λ_ _ q=>q
def HOk.laid(x:HOk P w H h)(k:∀b u,h.get? b*>u->h'.get? b*>u)(g:h.objs.size<=a)(new:bh P w (upd H a o) h' a o):HOk P w (upd H a o) h':=λb u e=>by
 let d:=x.fresh g;by_cases f:b=a
 .subst f;rw[aI] at e;cases e;show new
 rw[ar f] at e;show (x b u e).stay (λc v _ q=>k c v q) (λc q=>by rw[ar\ao q d];show q) λc xs q=>by rw[ar\ao q d];show q
end
def Rd(H:Hp)(a:pR)(u:HO):Prop:=H a*>u\/∃o,H a*>.frz o u
def Rd.ok{h:rq}(r:Rd H a u)(x:HOk P w H h):bh P w H h a u:=by
 rcases r with r|⟨o,r⟩
 .exact x a u r
 let#[_,q]:=x a _ r;show q
def Mut:Option HO->Prop
 |some (.lst _)=>True
 |some (.dK _)=>True
 |some (.dT _)=>True
 |some (.set _ _)=>True
 |some (.ins _ _ _)=>True
 |some (.ext _)=>True
 |_=>False
section
variable {H:Hp}{h h':Heap}{x e:Addr}{o':HO}
def HOk.write(ok:HOk P w H h)(a:Mut\H x)(he:e=x\/H e*>.own x)(k:∀b u,b≠e->h.get? b*>u->h'.get? b*>u)(l:∃u,h'.get? e*>u)
  (new:bh P w (upd H x o') h' x o'):HOk P w (upd H x o') h':=λb u q=>by
 let i:∀c y,H c*>.own y->c≠x:=λc y r z=>by subst z;rw[r] at a;show a
 let m:∀c xs,H c*>.tup xs->c≠x:=λc xs r z=>by subst z;rw[r] at a;show a
 by_cases d:b=x
 .subst d;rw[aI] at q;cases q;show new
 rw[ar d] at q;by_cases f:b=e
 .let j:H b*>.own x:=by
   rcases he with z|z
   .exact absurd (f<*z) d
   rw[f];show z
  rw[q] at j;cases j;let#[v,n]:=l;erw[v,by rw[f];show n]
 show (ok b u q).stay (λc v g r=>k c v ?_ r) (λc r=>by rw[ar\i c b r];show r) λc xs r=>by rw[ar\m c xs r];show r
 rcases g with rfl|g
 .exact f
 rintro rfl;rcases he with z|z
 .exact i c b g z
 rw[g] at z;cases z;show d rfl
end
structure Un(fs ex:List pR)(H H':Hp)(h h':rq):Prop where
 keep:∀b o,h.get? b*>o->H b=n7->b∉fs->b∉ex->h'.get? b*>o
 slot:∀b o,h.get? b*>o->H b=n7->b∈fs->b∉ex->∃sl,h'.get? b*>{o with slots:=sl}
 free:∀b o,h.get? b*>o->H b=n7->b∉ex->H' b=n7
 there:∀b o,h.get? b*>o->b∉ex->∃o',h'.get? b*>o'
 tups:∀b xs,H b*>.tup xs->H' b*>.tup xs
 frzs:∀b o u,H b*>.frz o u->H' b*>.frz o u
 tbls:∀b ps,H b*>.tbl ps->∃more,H' b*>.tbl (ps++more)
section
variable {fs fs' ex ex':List Addr}{H H1 H2:Hp}{h h1 h2 h':Heap}{a x e:Addr}{o:HO}
def Un.any(u:Un fs ex H H1 h h1){b:pR}{ob:Obj}(q:h.get? b*>ob)(n:H b=n7)(hx:b∉ex):∃sl,h1.get? b*>{ob with slots:=sl}:=by
 by_cases a:b∈fs
 .exact u.slot b ob q n a hx
 erw[ob.slots,u.keep b ob q n a hx]
def Un.kept(k:∀b u,h.get? b*>u->h'.get? b*>u):Un fs ex H H h h':=
 #[λb ob q _ _ _=>k b ob q,λb ob q _ _ _=>#[ob.slots,k b ob q],λ_ _ _ n _=>n,λb ob q _=>#[ob,k b ob q],λ_ _ q=>q,λ_ _ _ q=>q,λ_ ps q=>#[(tA []),by rw[q];simp]]
def Un.refl:Un fs ex H H h h:=Un.kept λ_ _ q=>q
def Un.laid(k:∀b u,h.get? b*>u->h'.get? b*>u)(d:h.objs.size<=a)(c:H a=n7):Un fs ex H (upd H a o) h h' where
 keep:=λb u q _ _ _=>k b u q
 slot:=λb u q _ _ _=>#[u.slots,k b u q]
 free:=λb u q n _=>by rw[ar\bB (bU (aJ q) d)];show n
 there:=λb u q _=>#[u,k b u q]
 tups:=λb xs q=>by rw[ar\ao q c];show q
 frzs:=λb u xs q=>by rw[ar\ao q c];show q
 tbls:=λb ps q=>#[(tA []),by rw[ar\ao q c,q];simp]
def Un.write(a:Mut\H x)(he:e=x\/H e*>.own x)(k:∀b u,b≠e->h.get? b*>u->h'.get? b*>u)(f:∃u,h'.get? e*>u):Un fs ex H (upd H x o) h h':=by
 let hx:∀b,H b=n7->b≠x:=λb n z=>by subst z;rw[n] at a;show a
 let c:∀b,H b=n7->b≠e:=λb n z=>by
  subst z;rcases he with r|r
  .exact hx b n r
  rw[n] at r;cases r
 let hm:∀b u,H b*>u->¬Mut (oy u)->b≠x:=λb u q nm z=>by subst z;rw[q] at a;show nm a
 erw[λb u q n _ _=>k b u (c b n) q,λb u q n _ _=>#[u.slots,k b u (c b n) q],λb u q n _=>by rw[ar\hx b n];show n,λb u q _=>?_,
  λb xs q=>by rw[ar (hm b _ q λz=>z)];show q,λb u xs q=>by rw[ar (hm b _ q λz=>z)];show q,λb ps q=>#[(tA []),by rw[ar (hm b _ q λz=>z),q];simp]]
 by_cases d:b=e
 .subst d;show f
 erw[u,k b u d q]
end
def trk(h:rq)(H:Hp):List Addr:=(List.range h.objs.size).filter λa=>(H a).isSome
def iT(h:rq)(H:Hp):Heap:=W.hideAll h\trk h H
def Fy(h:rq)(H:Hp):(iT h H).objs.size=h.objs.size:=W.hideAll_size _ _
def HN{h:rq}{H:Hp}{b:pR}{o:Obj}(e:h.get? b*>o)(n:H b=n7):(iT h H).get? b*>o:=
 W.hideAll_get _ e λhm=>by
  let q:(H b).isSome=oD:=(ef.mp hm).2;rw[n] at q;simp at q
def JT{b:pR}{o:Obj}(e:(iT h H).get? b*>o):h.get? b*>o/\H b=n7:=by
 let a:h.get? b*>o:=W.of_hideAll (trk h H) e;erw[a,?_];cases q:H b with
 |none=>rfl
 |some x=>
  let hm:b∈trk h H:=ef.mpr #[iy.mpr\aJ a,by simp[q]];let z:(iT h H).get? b=n7:=W.hideAll_none (trk h H) hm;rw[z] at e;cases e
def qy(g h:rq)(L:pR):List (pR×Obj):=(List.range h.objs.size).filterMap λa=>if a=L\/(g.get? a).isSome=oD then n7 else (h.get? a).map λo=>(a,o)
def tP{g h:rq}{L a:pR}{o:Obj}(h1:a≠L)(h2:g.get? a=n7)(b:h.get? a*>o):(a,o)∈qy g h L:=
 wI.mpr #[a,iy.mpr\aJ b,by simp[h1,h2,b]]
def DH{g h:rq}{L:pR}{p:pR×Obj}(c:p∈qy g h L):p.1≠L/\g.get? p.1=n7/\h.get? p.1*>p.2:=by
 let#[b,_,e]:=wI.mp c
 split at e
 .cases e
 rename_i a;cases q:h.get? b with
 |none=>rw[q] at e;simp at e
 |some u=>
  rw[q] at e;simp only[oR,Qz] at e;subst e;erw[λz=>a\.inl z,?_,q];change g.get? b=n7;cases r:g.get? b with
  |none=>rfl
  |some v=>show (a\.inr (by simp[r])).elim
def ux{g h:rq}{L:pR}:News g L h (qy g h L):=λp d=>let ⟨a,b,c⟩:=DH d;#[c,a,b]
end L2
namespace L2
open PySem PySem.Spec PyProof.Rows
structure Mod(K:W.Frag)(mg:Str->Option pC)(base:rq):Prop where
 kin:K.In base
 glob:base.Ns r4 mg
 blt:∃mb,base.Ns builtinsNs mb/\∀x:Str,x≠"__name__"->mb x=yF x
 nolimit:base.NoLimit
structure Cx where
 prog:rp
 w:sf
 K:W.Frag
 mg:Str->Option pC
 base:rq
 A:z3
 N:List Str
 s₀:pS
 H₀:Hp
 env:Env
 outer:List Env
 stack:List Env
 ex:List pR
 fn:Str->Bool
 calm:Bool
 pn:List (pR×Obj)
 xe:pC->pS->Prop
def frs(l:List Env):List Addr:=l.filterMap (·.frame)
abbrev Cx.fs(X:Cx):List Addr:=frs X.outer
def Vis(sc:Scope)(x:Str):Prop:=sc.names.lookup x*>.local\/sc.names.lookup x*>.cell\/sc.names.lookup x*>.free
def Loc(sc:Scope)(x:Str):Prop:=sc.names.lookup x*>.local\/sc.names.lookup x*>.cell
def Look(env:Env)(h:rq)(m:Str->Option pC)(x:Str)(u:pC):Prop:=
 (env.kindOf x*>.local/\m x*>u)\/((env.kindOf x*>.cell\/env.kindOf x*>.free)/\∃c,env.cells.lookup x*>c/\h.IsCell c\oy u)
structure Cx.Ok(X:Cx):Prop where
 mod:Mod X.K X.mg X.base
 kind:X.env.scope.kind=.function
 glob:X.env.globals=r4
 blt:X.env.builtins=builtinsNs
 above:X.s₀.heap.objs.size<=X.env.locals
 inj:∀x y c,X.env.cells.lookup x*>c->X.env.cells.lookup y*>c->x=y
 has:∀x,(X.env.kindOf x*>.cell\/X.env.kindOf x*>.free)->∃c,X.env.cells.lookup x*>c
 cab:∀x c,X.fn x=oD->X.env.cells.lookup x*>c->X.s₀.heap.objs.size<=c
 hd:X.calm=oD->X.A.handled=n7
 frames:X.A.frames*>X.stack
 stk:X.stack=X.outer\/(X.stack=X.env::X.outer/\X.env.frame*>X.env.locals)
 exf:∀b∈X.ex,b≠X.env.locals/\∀x c,X.env.cells.lookup x*>c->c≠b
 bs:∀b o,X.base.get? b*>o->X.s₀.heap.get? b*>o/\X.H₀ b=n7
 bsz:X.base.objs.size<=X.s₀.heap.objs.size
 noex:∀b o,X.base.get? b*>o->b∉X.ex
 exfs:∀b∈X.ex,b∉X.fs
 funs:X.s₀.heap.FunFrames X.base X.outer
 frf:∀b∈X.fs,X.H₀ b=n7
structure Inv(X:Cx)(RC:List (pR×Obj))(Z:List\Option V)(H:Hp)(s:pS):Prop where
 ok:X.Ok
 os:s.os=X.s₀.os
 bare:AllBare s.gens
 base:Un X.fs X.ex X.H₀ H X.s₀.heap s.heap
 loc:∃m,s.heap.Ns X.env.locals m/\∀(i:Nat)(x:Str)(v:V),X.N[i]?*>x->Z[i]?*>oy v->Vis X.env.scope x->∃u,aC v u/\Look X.env s.heap m x u
 cell:∀x c,X.env.cells.lookup x*>c->∃v,s.heap.IsCell c v
 free:H X.env.locals=n7
 freeC:∀x c,X.env.cells.lookup x*>c->H c=n7
 pin:∀p∈X.pn++RC,s.heap.get? p.1*>p.2/\H p.1=n7/\p.1≠X.env.locals/\p.1∉X.fs/\∀v,p.2.data≠.cell v
 hok:HOk X.prog X.w H s.heap
 len:↑Z=X.N.length
section
variable {X:Cx}{Z:List (Option V)}{H H':Hp}{h':Heap}
def Cx.Ok.nofr(ok:X.Ok){b:pR}{o:Obj}(e:X.base.get? b*>o):b∉X.fs:=λa=>by
 have:=(ok.funs.mem a).1;rw[e] at this;cases this
def Inv.bs(I:Inv X RC Z H s):∀b o,X.base.get? b*>o->s.heap.get? b*>o/\H b=n7:=λb o e=>
 #[I.base.keep b o (I.ok.bs b o e).1 (I.ok.bs b o e).2 (I.ok.nofr e)\I.ok.noex b o e,I.base.free b o (I.ok.bs b o e).1 (I.ok.bs b o e).2\I.ok.noex b o e]
def Inv.bk(I:Inv X RC Z H s):∀b o,X.base.get? b*>o->s.heap.get? b*>o:=λb o e=>(I.bs b o e).1
def Inv.mod(I:Inv X RC Z H s):Mod X.K X.mg X.base:=I.ok.mod
def Inv.kIn(I:Inv X RC Z H s):X.K.In s.heap:=I.ok.mod.kin.keeps I.bk
def Inv.fr(I:Inv X RC Z H s):∃m,Fr X.base X.env.locals s.heap m:=
 let ⟨m,a,_⟩:=I.loc
 #[m,a,I.bk,cR I.ok.bsz I.ok.above]
def Inv.lt(I:Inv X RC Z H s):X.env.locals<↥s:=let ⟨_,a,_⟩:=I.loc;a.lt
def Inv.sz(I:Inv X RC Z H s):X.s₀.heap.objs.size<=↥s:=cR I.ok.above\oO I.lt
def Inv.nofs(I:Inv X RC Z H s){a:pR}(h:↥s<=a):a∉X.fs:=λb=>by
 let#[_,o,c,_]:=I.ok.funs.mem b;show absurd (bU (aJ c)\cR I.sz h)\dD _
def Inv.cne(I:Inv X RC Z H s):∀x c,X.env.cells.lookup x*>c->c≠X.env.locals:=λx c e z=>by
 let#[v,o,a,hd]:=I.cell x c e;let#[m,#[o',es,ep,b,d,_],_]:=I.loc;rw[z,b] at a;cases a;rw[d] at hd;cases hd
def Inv.funs(I:Inv X RC Z H s):s.heap.FunFrames X.base X.outer:=by
 let all:∀(l:List Env),(∀b∈frs l,b∈X.fs)->X.s₀.heap.FunFrames X.base l->s.heap.FunFrames X.base l:=by
  intro l;induction l with
  |nil=>intro _ _;trivial
  |cons env r f=>
   intro d g;let#[h,#[L,o,hf,i,j,hd],m]:=g;let a:L∈X.fs:=d L (by unfold frs;rw[Cz,hf];show gk);let#[sl,e]:=I.base.slot L o j (I.ok.frf L a) a λz=>I.ok.exfs L z a;erw[h,#[L,_,hf,i,e,hd],f (λb c=>d b (by unfold frs;rw[Cz,hf];show de _ c)) m]
 show all X.outer (λ_ c=>c) I.ok.funs
def Inv.stack(I:Inv X RC Z H s):s.heap.FunFrames X.base X.stack:=by
 rcases I.ok.stk with e|⟨e,hf⟩
 .rw[e];show I.funs
 rw[e];let#[m,a,_]:=I.loc;show .cons (by rw[I.ok.kind];decide) hf a ?_ I.funs;show jD\cR I.ok.bsz I.ok.above
def Inv.stkSub(I:Inv X RC Z H s):∀b∈frs X.stack,b∈X.env.locals::X.fs:=λb a=>by
 rcases I.ok.stk with e|⟨e,hf⟩
 .rw[e] at a;show de _ a
 rw[e] at a;unfold frs at a;rw[Cz,hf] at a;show a
def Inv.stkFree(I:Inv X RC Z H s):∀b∈frs X.stack,H b=n7:=λb a=>by
 rcases aT.mp (I.stkSub b a) with e|a
 .rw[e];show I.free
 let#[_,o,c,_]:=I.ok.funs.mem a;show I.base.free b o c (I.ok.frf b a) λz=>I.ok.exfs b z a
def Inv.step{g':Array GenState}{t':Nat}{d':Drawn}{ch:List pR}(I:Inv X RC Z H s)
  (h:∀b∈ch,(b∈X.ex\/X.s₀.heap.objs.size<=b)/\b≠X.env.locals/\(∀x c,X.env.cells.lookup x*>c->c≠b)/\∀p∈X.pn++RC,p.1≠b)
  (keep:∀b o,b≠X.env.locals->b∉X.fs->b∉ch->s.heap.get? b*>o->H b=n7->h'.get? b*>o)
  (slot:∀b o,b≠X.env.locals->b∈X.fs->b∉ch->s.heap.get? b*>o->H b=n7->∃sl,h'.get? b*>{o with slots:=sl}) (free:∀b o,b∉ch->s.heap.get? b*>o->H b=n7->H' b=n7)
  (there:∀b o,b∉ch->s.heap.get? b*>o->∃o',h'.get? b*>o')
  (tups:∀b xs,H b*>.tup xs->H' b*>.tup xs) (frzs:∀b o u,H b*>.frz o u->H' b*>.frz o u) (tbls:∀b ps,H b*>.tbl ps->∃more,H' b*>.tbl (ps++more))
  (ns:∀m,s.heap.Ns X.env.locals m->h'.Ns X.env.locals m) (hok:HOk X.prog X.w H' h') (K:AllBare g') :
  Inv X RC Z H' {s with heap:=h',gens:=g',drawn:=d',toks:=t'}:=by
 let B:∀b o,X.s₀.heap.get? b*>o->b≠X.env.locals:=λb o e=>bB\bU (aJ e) I.ok.above;let A:∀b o,X.s₀.heap.get? b*>o->b∉X.ex->b∉ch:=λb o e hx f=>by
  rcases (h b f).1 with z|z
  .exact hx z
  show absurd (bU (aJ e) z)\dD _
 let cellK:∀x c,X.env.cells.lookup x*>c->∀v,s.heap.IsCell c v->h'.IsCell c v:=λx c e v ⟨o,g,hd⟩=>by
  let j:c∉ch:=λz=>(h c z).2.2.1 x c e rfl;by_cases C:c∈X.fs
  .let#[sl,q]:=slot c o (I.cne x c e) C j g\I.freeC x c e;erw[_,q,hd]
  erw[o,keep c o (I.cne x c e) C j g\I.freeC x c e,hd]
 erw[I.ok,I.os,K,#[λb o e n f hx=>?_,λb o e n f hx=>?_,λb o e n hx=>?_,λb o e hx=>?_,λb xs e=>tups b xs\I.base.tups b xs e,λb o xs e=>frzs b o xs\I.base.frzs b o xs e,λb ps e=>?_],?_,λx c e=>?_,?_,λx c e=>?_,λp D=>?_,hok,I.len]
 .exact keep b o (B b o e) f (A b o e hx) (I.base.keep b o e n f hx)\I.base.free b o e n hx
 .let#[sl,a]:=I.base.slot b o e n f hx;let#[L,y]:=slot b _ (B b o e) f (A b o e hx) a\I.base.free b o e n hx;erw[L,y]
 .let#[o',a]:=I.base.there b o e hx;show free b o' (A b o e hx) a\I.base.free b o e n hx
 .let#[o',a]:=I.base.there b o e hx;show there b o' (A b o e hx) a
 .let#[m1,a]:=I.base.tbls b ps e;let#[m2,y]:=tbls b _ a;erw[m1++m2,by rw[y,Array.append_assoc]]
 .let#[m,M,N]:=I.loc;erw[m,ns m M,λi x v a y O=>?_];let#[u,r,l]:=N i x v a y O;erw[u,r,?_];rcases l with l|⟨k,c,e,z⟩
  .exact .inl l
  show .inr #[k,c,e,cellK x c e _ z]
 .let#[v,z]:=I.cell x c e;erw[v,cellK x c e v z]
 .let#[m,#[o,0,g,_],_]:=I.loc;show free _ o (λz=>(h _ z).2.1 rfl) g I.free
 .let#[v,o,g,hd]:=I.cell x c e;show free c o (λz=>(h c z).2.2.1 x c e rfl) g\I.freeC x c e
 let#[e,n,ne,E,d]:=I.pin p D;let j:p.1∉ch:=λz=>(h p.1 z).2.2.2 p D rfl;erw[keep p.1 p.2 ne E j e n,free p.1 p.2 j e n,ne,E,d]
def Inv.un{t':Nat}(I:Inv X RC Z H s)(u:Un X.fs [] H H' s.heap h')(hok:HOk X.prog X.w H' h'):Inv X RC Z H' {s with heap:=h',toks:=t'}:=by
 let#[m,#[o,es,ep,c,r],_]:=id I.loc;let#[sl,f]:=u.any c I.free ∅;show I.step (g':=s.gens) (d':=s.drawn) (ch:=[]) (λ_ z=>nomatch z) (λb o _ a _ e n=>u.keep b o e n a ∅) (λb o _ a _ e n=>u.slot b o e n a ∅) (λb o _ e n=>u.free b o e n ∅) (λb o _ e=>u.there b o e ∅) u.tups u.frzs u.tbls (λj hm=>by
  let#[o',g,h,d,i]:=hm;rw[c] at d;cases d;erw[_,g,h,f,i]) hok I.bare
def Inv.call{g':Array GenState}{t':Nat}{d':Drawn}(I:Inv X RC Z H s)(u:Un (frs X.stack) ch H H' s.heap h')(hok:HOk X.prog X.w H' h')(i:AllBare g')
  (f:∀b∈ch,(b∈X.ex\/X.s₀.heap.objs.size<=b)/\b≠X.env.locals/\(∀x c,X.env.cells.lookup x*>c->c≠b)/\∀p∈X.pn++RC,p.1≠b) :
  Inv X RC Z H' {s with heap:=h',gens:=g',drawn:=d',toks:=t'}:=by
 let#[m,#[o,es,ep,g,r],_]:=id I.loc;let#[sl,d]:=u.any g I.free λz=>(f _ z).2.1 rfl;show I.step (ch:=ch) f (λb o d j a e n=>u.keep b o e n (λz=>(aT.mp\I.stkSub b z).elim d j) a) (λb o _ _ a e n=>u.any e n a) (λb o a e n=>u.free b o e n a) (λb o a e=>u.there b o e a) u.tups u.frzs u.tbls (λy hm=>by
  let#[o',l,q,h,v]:=hm;rw[g] at h;cases h;erw[_,l,q,d,v]) hok i
def Inv.turned{t':Nat}{it:pR}(I:Inv X RC Z H s)(k:∀b o,b≠it->s.heap.get? b*>o->h'.get? b*>o)(g:H it=n7)(d:it≠X.env.locals)
  (h1:it∈X.ex\/X.s₀.heap.objs.size<=it) (h2:∀x c,X.env.cells.lookup x*>c->c≠it) (h:∀p∈X.pn++RC,p.1≠it):Inv X RC Z H {s with heap:=h',toks:=t'}:=by
 let f:∀b u,H b*>u->b≠it:=λb u e z=>by rw[z,g] at e;cases e
 show I.step (g':=s.gens) (d':=s.drawn) (ch:=[it]) (λb i=>?_) (λb o _ _ a e _=>k b o (λz=>a (by simp[z])) e) (λb o _ _ a e _=>#[o.slots,k b o (λz=>a (by simp[z])) e]) (λ_ _ _ _ n=>n)
  (λb o a e=>#[o,k b o (λz=>a (by simp[z])) e]) (λ_ _ e=>e) (λ_ _ _ e=>e) (λb ps e=>#[(tA []),by rw[e];simp]) (λm hm=>?_) (λb u e=>?_) I.bare
 .let e:b=it:=‹i›
  subst e;erw[h1,d,h2,h]
 .let#[o,es,ep,j,r]:=hm;erw[o,es,ep,k _ o (aA d) j,r]
 show (I.hok b u e).stay (λc v a q=>k c v ?_ q) (λ_ q=>q) λ_ _ q=>q;rcases a with z|z
 .rw[z];show f b u e
 show f c _ z
def Inv.tok(I:Inv X RC Z H s)(t:Nat):Inv X RC Z H {s with toks:=t}:=I.un (h':=s.heap) (t':=t) Un.refl I.hok
def Inv.kept{t':Nat}(I:Inv X RC Z H s)(k:∀b u,s.heap.get? b*>u->h'.get? b*>u):Inv X RC Z H {s with heap:=h',toks:=t'}:=I.un (Un.kept k)\I.hok.kept k
def Inv.laid{a:pR}{t':Nat}(I:Inv X RC Z H s)(k:∀b u,s.heap.get? b*>u->h'.get? b*>u)(c:↥s<=a)(new:bh X.prog X.w (upd H a o) h' a o):
  Inv X RC Z (upd H a o) {s with heap:=h',toks:=t'}:=I.un (Un.laid k c\I.hok.fresh c)\I.hok.laid k c new
def Inv.write{e:pR}{o:HO}{t':Nat}(I:Inv X RC Z H s)(a:Mut\H x)(he:e=x\/H e*>.own x)(k:∀b u,b≠e->s.heap.get? b*>u->h'.get? b*>u)(c:∃u,h'.get? e*>u)
  (new:bh X.prog X.w (upd H x o) h' x o):Inv X RC Z (upd H x o) {s with heap:=h',toks:=t'}:=I.un (Un.write a he k c)\I.hok.write a he k c new
def Inv.pins_of{pins':List (pR×Obj)}(I:Inv X RC Z H s)(h:∀p∈pins',s.heap.get? p.1*>p.2/\H p.1=n7/\p.1≠X.env.locals/\p.1∉X.fs/\∀v,p.2.data≠.cell v):Inv X pins' Z H s:=
 #[I.ok,I.os,I.bare,I.base,I.loc,I.cell,I.free,I.freeC,λp a=>(bo.mp a).elim (λz=>I.pin p\d_ _ z)\h p,I.hok,I.len]
def uw{N:List Str}(c:N.Nodup){i j:Nat}{x:Str}(a:N[i]?*>x)(b:N[j]?*>x):i=j:=by let#[h1,d]:=aN.mp a;let#[h2,e]:=aN.mp b;show (List.getElem_inj c).mp\d.trans e.symm
def yh{M:Model}{i:Nat}{x:Str}{Q:Unit->pS->Prop}(I:Inv X RC Z H s)(hN:X.N.Nodup)(hi:X.N[i]?*>x)(hx:Loc X.env.scope x)(r:aC v u)
  (h:∀s',Inv X RC (Z.set i\oy v) H s'->(∃a,Heap.SameBut a s.heap s'.heap/\(a=X.env.locals\/X.env.cells.lookup x*>a))->Q .unit s') (hf:X.fn x=oD\/X.env.scope.names.lookup x*>.local:=by first|exact .inl rfl|exact .inr rfl|assumption):q7 M A (storeName X.env x u) Q E s:=by
 let#[m,P,hl]:=id I.loc;let an:(X.env.scope.kind==.class||(X.env.scope.kind==.module&&X.env.locals != X.env.globals))=p6:=by rw[I.ok.kind];rfl
 have hiσ:i<↑Z:=by rw[I.len];show (aN.mp hi).1
 let cne:=I.cne;let tracked:∀{a:pR}{h':rq},(∃o,s.heap.get? a*>o/\H a=n7)->Heap.SameBut a s.heap h'->HOk X.prog X.w H h':=λ{a h'} ha f b ob e=>by
  let#[0,ad]:=ha;show (I.hok b ob e).stay (λc L l q=>(f.2 c ?_)<*q) (λ_ q=>q) λ_ _ q=>q;rintro rfl;rcases l with rfl|l
  .rw[ad] at e;cases e
  rw[ad] at l;cases l
 rcases hx with C|C
 .refine wpAny_storeName_local C P (λh' ap f=>?_) an;let#[oL,0,aM,_]:=id P;show h _ #[I.ok,I.os,I.bare,#[λb o e n D hx=>?_,λb o e n D hx=>?_,I.base.free,λb o e hx=>?_,I.base.tups,I.base.frzs,I.base.tbls],#[_,ap,λj y R g B S=>?_],λy c e=>?_,I.free,I.freeC,λp T=>?_,tracked #[oL,aM,I.free] f,‹I.len›] #[_,f,.inl rfl]
  .exact (f.2 b\bB (bU (aJ e) I.ok.above)).trans\I.base.keep b o e n D hx
  .let#[sl,g]:=I.base.slot b o e n D hx;erw[sl,(f.2 b\bB (bU (aJ e) I.ok.above))<*g]
  .let#[o',g]:=I.base.there b o e hx;erw[o',(f.2 b\bB (bU (aJ e) I.ok.above))<*g]
  .by_cases K:j=i
   .subst K;rw[hi] at g;cases g;rw[wF hiσ] at B;cases B;erw[u,r,.inl #[C,∅]]
   rw[wD\aA K] at B;let#[U,Y,q]:=hl j y R g B S;erw[U,Y,?_];rcases q with ⟨k,e⟩|⟨k,c,e,z⟩
   .refine .inl #[k,?_];have:y≠x:=λe=>K\uw hN g (e ▸ hi);simp[this,e]
   show .inr #[k,c,e,z.sameBut f\cne y c e]
  .let#[L,z]:=I.cell y c e;erw[L,z.sameBut f\cne y c e]
  let#[e,n,ne,nf,d]:=I.pin p T;erw[(f.2 p.1 ne)<*e,n,ne,nf,d]
 let ab:X.fn x=oD:=by
  rcases hf with z|z
  .exact z
  rw[z] at C;cases C
 let#[c,l]:=I.ok.has x\.inl C;let#[L,z]:=I.cell x c l;show wpAny_storeName_cell I.ok.kind C l z (λh' ag f=>?_);let#[oc,al,aS]:=id z;show h {s with heap:=h'} #[I.ok,I.os,I.bare,#[λb o e n D hx=>?_,λb o e n D hx=>?_,I.base.free,λb o e hx=>?_,I.base.tups,I.base.frzs,I.base.tbls],#[m,P.sameBut f\aA (cne x c l),λj y R g B S=>?_],λy O e=>?_,I.free,I.freeC,λp T=>?_,tracked #[oc,al,I.freeC x c l] f,‹I.len›] #[c,f,.inr l]
 .exact (f.2 b\bB (bU (aJ e)\I.ok.cab x c ab l)).trans\I.base.keep b o e n D hx
 .let#[sl,g]:=I.base.slot b o e n D hx;erw[sl,(f.2 b\bB (bU (aJ e)\I.ok.cab x c ab l))<*g]
 .let#[o',g]:=I.base.there b o e hx;erw[o',(f.2 b\bB (bU (aJ e)\I.ok.cab x c ab l))<*g]
 .by_cases K:j=i
  .subst K;rw[hi] at g;cases g;rw[wF hiσ] at B;cases B;erw[u,r,.inr #[.inl C,c,l,ag]]
  rw[wD\aA K] at B;let#[U,Y,q]:=hl j y R g B S;erw[U,Y,?_];rcases q with q|⟨k,O,e,z'⟩
  .exact .inl q
  show .inr #[k,O,e,z'.sameBut f ?_];rintro rfl;show K\uw hN g (I.ok.inj _ _ _ e l ▸ hi)
 .by_cases am:O=c
  .subst am;erw[_,ag]
  let#[w2,z2]:=I.cell y O e;erw[w2,z2.sameBut f am]
 let#[e,n,ne,nf,d]:=I.pin p T;erw[(f.2 p.1 ?_)<*e,n,ne,nf,d];intro q;rw[q,al] at e;let q':oc=p.2:=eg e;show d L (by rw[<-q'];show aS)
def jP{M:Model}{i:Nat}{x:Str}{Q:Unit->pS->Prop}(I:Inv X RC Z H s)(a:X.N.Nodup)(hi:X.N[i]?*>x)(hx:Loc X.env.scope x)(r:aC v u)
  (h:∀s',Inv X RC (Z.set i\oy v) H s'->Q .unit s') (hf:X.fn x=oD\/X.env.scope.names.lookup x*>.local:=by first|exact .inl rfl|exact .inr rfl|assumption):q7 M A (storeName X.env x u) Q E s:=
 yh I a hi hx r (λs' b _=>h s' b) hf
def Inv.call'{s':pS}(I:Inv X RC Z H s)(a:s'.os=s.os)(u:Un (frs X.stack) ch H H' s.heap s'.heap)(hok:HOk X.prog X.w H' s'.heap)(d:AllBare s'.gens)
  (f:∀b∈ch,(b∈X.ex\/X.s₀.heap.objs.size<=b)/\b≠X.env.locals/\(∀x c,X.env.cells.lookup x*>c->c≠b)/\∀p∈X.pn++RC,p.1≠b):Inv X RC Z H' s':=by
 let#[h',g',d',t',o']:=s';let e:o'=s.os:=a;subst e;show I.call (g':=g') (t':=t') (d':=d') u hok d f
end
abbrev XK:=pC->Option pR->Hp->Prop
abbrev St:=List\Option V
abbrev VK:=V->Hp->Prop
abbrev TE:=St->Hp->VK->Prop
abbrev TT:=St->Hp->(Bool->Hp->Prop)->Prop
abbrev TA:=St->Hp->(List V->Hp->Prop)->Prop
structure Ends where
 nx:St->Hp->Prop
 rt:VK
 bk:St->Hp->Prop:=λ_ _=>False
 ct:St->Hp->Prop:=λ_ _=>False
abbrev TS:=Ends->St->Hp->Prop
def EP(X:Cx)(RC:List (pR×Obj))(Z:St)(Q:VK)(u:pC)(s':pS):Prop:=∃v H',Inv X RC Z H' s'/\aC v u/\Q v H'
def TP(X:Cx)(RC:List (pR×Obj))(Z:St)(Q:Bool->Hp->Prop)(b:Bool)(s':pS):Prop:=∃H',Inv X RC Z H' s'/\Q b H'
def AP(X:Cx)(RC:List (pR×Obj))(Z:St)(Q:List V->Hp->Prop)(us:List pC)(s':pS):Prop:=∃vs H',Inv X RC Z H' s'/\Vals vs us/\Q vs H'
def SP(X:Cx)(RC:List (pR×Obj))(D:Ends)(f:Flow)(s':pS):Prop:=
 match f with
 |.next=>∃Z' H',Inv X RC Z' H' s'/\D.nx Z' H'
 |.brk=>∃Z' H',Inv X RC Z' H' s'/\D.bk Z' H'
 |.cont=>∃Z' H',Inv X RC Z' H' s'/\D.ct Z' H'
 |.ret u=>∃v Z' H',Inv X RC Z' H' s'/\aC v u/\D.rt v H'
def PE(X:Cx)(e:ry)(t:TE):Prop:=
 ∀(RC:List (pR×Obj))(s:pS)(Z:St)(H:Hp)(Q:VK),Inv X RC Z H s->t Z H Q->q7 ⇑X X.A (sZ e X.env) (EP X RC Z Q) X.xe s
def PT(X:Cx)(e:ry)(t:TT):Prop:=
 ∀(RC:List (pR×Obj))(s:pS)(Z:St)(H:Hp)(Q:Bool->Hp->Prop),Inv X RC Z H s->t Z H Q->q7 ⇑X X.A (isTrue e X.env\sZ e X.env) (TP X RC Z Q) X.xe s
def PW(X:Cx)(e:ry)(t:TT):Prop:=
 ∀(whole:Sem pC)(RC:List (pR×Obj))(s:pS)(Z:St)(H:Hp)(Q:Bool->Hp->Prop),Inv X RC Z H s->t Z H Q->q7 ⇑X X.A (isTrue e X.env whole) (TP X RC Z Q) X.xe s
def PW.pt(h:PW X e t):PT X e t:=h _
def PA(X:Cx)(es:List ry)(t:TA):Prop:=
 ∀(pos:Pos)(RC:List (pR×Obj))(s:pS)(Z:St)(H:Hp)(Q:List V->Hp->Prop),Inv X RC Z H s->t Z H Q->q7 ⇑X X.A (spliced\tD pos (r6 es X.env)) (AP X RC Z Q) X.xe s
def PS(X:Cx)(st:rz)(t:TS):Prop:=
 ∀(RC:List (pR×Obj))(s:pS)(Z:St)(H:Hp)(D:Ends),Inv X RC Z H s->t D Z H->q7 ⇑X X.A (exec st X.env) (SP X RC D) X.xe s
def PSs(X:Cx)(st:List rz)(t:TS):Prop:=
 ∀(RC:List (pR×Obj))(s:pS)(Z:St)(H:Hp)(D:Ends),Inv X RC Z H s->t D Z H->q7 ⇑X X.A (execs st X.env) (SP X RC D) X.xe s
def thn{α:Type}{t:Sem α}{Q b:α->pS->Prop}{M:Model}(h:q7 M A t Q E s)(c:∀a s,Q a s->b a s):q7 M A t b E s:=bZ h c λ_ _ x=>x
end L2
variable {H:L2.Hp}{Z:L2.St}{X:L2.Cx}{xs:List L2.V}{vs:List L2.V}{H':L2.Hp}
namespace L2
open PySem PySem.Spec PyProof.Rows
section
def Ex2{α β:Type}(P:α->β->Prop)(a:α):Prop:=Exists\P a
def Ex3{α β γ:Type}(P:α->β->γ->Prop)(a:α):Prop:=Exists\Ex2 (P a)
def Ex4{α β γ δ:Type}(P:α->β->γ->δ->Prop)(a:α):Prop:=Exists\Ex3 (P a)
def Ex5{α β γ δ ε:Type}(P:α->β->γ->δ->ε->Prop)(a:α):Prop:=Exists\Ex4 (P a)
def Ex6{α β γ δ ε ζ:Type}(P:α->β->γ->δ->ε->ζ->Prop)(a:α):Prop:=Exists\Ex5 (P a)
def Ex7{α β γ δ ε ζ η:Type}(P:α->β->γ->δ->ε->ζ->η->Prop)(a:α):Prop:=Exists\Ex6 (P a)
def Ex8{α β γ δ ε ζ η θ:Type}(P:α->β->γ->δ->ε->ζ->η->θ->Prop)(a:α):Prop:=Exists\Ex7 (P a)
def Same(H H':Hp):Prop:=∀b o,H b*>o->H' b*>o
def gX(H:Hp)(o:HO)(Q:VK):Prop:=∀p H',H p=n7->Same H H'->H' p*>o->Q (.ref p) H'
def gX.at(q:gX H o Q)(h:H p=n7):Q (.ref p) (upd H p o):=q p _ h (λb u e=>(ar (λz=>by rw[z,h] at e;cases e))<*e) aI
def WrO(H:Hp)(l:pR)(o:HO)(k:Hp->Prop):Prop:=∀H',(∀b,b≠l->H' b=H b)->H' l*>o->k H'
def WrO.at{k:Hp->Prop}(q:WrO H l o k):k (upd H l o):=q _ (λ_ h=>ar h) aI
def My(i:Nat)(Z:St)(H:Hp)(Q:VK)(v:V):Prop:=Z[i]?*>oy v/\Q v H
def aK(i:Nat):TE:=λZ H Q=>Exists\My i Z H Q
def tC(v:V):TE:=λ_ H Q=>Q v H
def Lz{i:Nat}{x:Str}{pos:Pos}(f:X.N[i]?*>x)(g:Vis X.env.scope x)(hd:(x==(↑18 : Str))=p6:=by decide)(j:(x==("__classdict__" : Str))=p6:=by decide):PE X (.Name x pos) (aK i):=by
 intro RC s Z H Q I h;let#[v,e,h]:=h;let#[m,n,o]:=I.loc;let#[u,r,l]:=o i x v f e g;let fin:EP X RC Z Q u s:=#[v,H,I,r,h];rcases l with ⟨a,hm⟩|⟨a,c,b,d⟩
 .exact Dk (wpAny_loadName_local I.ok.kind a n hm fin) hd
 rcases a with a|a
 .exact Dk (wpAny_loadName_cell I.ok.kind a b d fin) hd
 show Dk (wpAny_loadName_free I.ok.kind a b d fin j) hd
def ah{i j pos}:PE X (.Constant (.int i) j pos) (tC\.int i):=λ_ _ _ H _ I h=>wpAny_Constant_int #[.int i,H,I.tok _,#[2],h]
def il{b j pos}:PE X (.Constant (.bool b) j pos) (tC\.bl b):=λ_ _ _ H _ I h=>Constant_bool #[.bl b,H,I,1,h]
def Bt{j pos}:PE X (.Constant .none j pos) (tC .non):=λ_ _ _ H _ I h=>Constant_none #[.non,H,I,1,h]
def a7{x j pos}:PE X (.Constant (.str x) j pos) (tC\.str x):=λ_ _ _ H _ I h=>Calls.Constant_str #[.str x,H,I.tok _,#[2],h]
def Gl(X:Cx)(x:Str):Prop:=X.env.kindOf x*>.globalImplicit
def iH{u:pC}{pos:Pos}{Q:pC->pS->Prop}(I:Inv X RC Z H s)(a:Gl X x)(hm:X.mg x*>u)(h:Q u s)
  (hd:(x==(↑18 : Str))=p6:=by decide):q7 ⇑X X.A (sZ (.Name x pos) X.env) Q E s:=
 Ov I.ok.kind a (Calls.loadGlobal_global (by rw[I.ok.glob];show I.mod.glob.keeps I.bk) hm h) hd
def jt{u:pC}{pos:Pos}{Q:pC->pS->Prop}(I:Inv X RC Z H s)(a:Gl X x)(hm:X.mg x=n7)(b:yF x*>u)(h:Q u s)
  (c:x≠"__name__":=by decide) (hd:(x==(↑18 : Str))=p6:=by decide):q7 ⇑X X.A (sZ (.Name x pos) X.env) Q E s:=by
 let#[mb,h1,h2]:=I.mod.blt;show Ov I.ok.kind a (Calls.loadGlobal_builtin (by rw[I.ok.glob];show I.mod.glob.keeps I.bk) hm (by rw[I.ok.blt];show h1.keeps I.bk) ((h2 x c)<*b) h) hd
def dP{u:pC}{pos:Pos}(a:Gl X x)(hm:X.mg x*>u)(r:aC v u)(hd:(x==(↑18 : Str))=p6:=by decide):PE X (.Name x pos) (tC v):=
 λ_ _ _ H _ I h=>iH I a hm #[v,H,I,r,h] hd
def jU{u:pC}{pos:Pos}(a:Gl X x)(hm:X.mg x=n7)(b:yF x*>u)(r:aC v u)(c:x≠"__name__":=by decide)(hd:(x==(↑18 : Str))=p6:=by decide):PE X (.Name x pos) (tC v):=
 λ_ _ _ H _ I h=>jt I a hm b #[v,H,I,r,h] c hd
variable {a b:Expr}{ta tb:TE}{pos:Pos}
def PC(X:Cx)(op:CmpOp)(a b:ry)(t:TE):Prop:=
 ∀(RC:List (pR×Obj))(s:pS)(Z:St)(H:Hp)(Q:VK),Inv X RC Z H s->t Z H Q->
  q7 ⇑X X.A (sZ a X.env) (λv s₁=>q7 ⇑X X.A (sZ b X.env) (λu s₂=>q7 ⇑X X.A (sD op v u) (EP X RC Z Q) X.xe s₂) X.xe s₁) X.xe s
def nobehind(b:ry){op:CmpOp}(h:op≠.In)(h2:op≠.NotIn):z4 op b=p6:=by
 let a:(op==CmpOp.In)=p6:=by cases op<;>first|rfl|show absurd rfl h
 let c:(op==CmpOp.NotIn)=p6:=by cases op<;>first|rfl|show absurd rfl h2
 cases b<;>simp[z4,a,c]
def tIsN(ta:TE):TE:=λZ H Q=>ta Z H λx H1=>Q (.bl (decide (x=.non))) H1
def aC.none_iff(r:aC x v):(v==Value.none)=decide (x=.non):=by
 cases x with
 |non=>cases r;rfl
 |bl _=>cases r;rfl
 |int _=>let#[t,1]:=r;rfl
 |str _=>let#[t,1]:=r;rfl
 |byt _=>let#[t,1]:=r;rfl
 |flt _=>let#[t,1]:=r;rfl
 |ref _=>cases r;rfl
 |ty _=>cases r;rfl
def Bw{j pos'}(ha:PE X a ta):PC X .Is a (.Constant .none j pos') (tIsN ta):=by intro RC s Z H Q I h;show thn (ha RC s Z H _ I h) λv s1 b=>?_;let#[x,H1,c,d,e]:=b;show Constant_none\is_none_gen #[.bl _,H1,c,by rw[d.none_iff];rfl,e]
def tBB(Q:Bool->Hp->Prop)(x:V)(H1:Hp)(c:Bool):Prop:=x=.bl c/\Q c H1
def tBK(Q:Bool->Hp->Prop):VK:=λx H1=>Exists\tBB Q x H1
def tB(t:TE):TT:=λZ H Q=>t Z H\tBK Q
def Bv{op:CmpOp}(h:PC X op a b t)(h1:z4 op b=p6:=by first|exact nobehind _ ⋯ ⋯ | rfl):PE X (.Compare a [op] [b] pos) t:=λRC s Z H Q I hw=>Qc (h RC s Z H Q I hw) h1
def gL{op:CmpOp}(h:PC X op a b t)(h1:z4 op b=p6:=by first|exact nobehind _ ⋯ ⋯ | rfl):PT X (.Compare a [op] [b] pos) (tB t):=by intro RC s Z H Q I hw;refine Qk (thn (h RC s Z H _ I hw) λv s1 h1=>thn h1 λu s2 h2=>thn h2 λc j e=>?_) h1;let#[x,H1,f,g,i]:=e;let#[d,1,q]:=i;cases g;exact iB #[H1,f,q]
def dQ(h:PE X e t)(he:∀whole,isTrue e X.env whole=(do let v <-whole;standAt e.pos;holding [v]\truthy v):=by intro _;rfl):PT X e (tB t):=by intro RC s Z H Q I hw;show isTrue_plain (thn (h RC s Z H _ I hw) λv s1 ⟨x,H1,I1,r1,q1⟩=>?_)\he _;let#[d,1,q]:=q1;cases r1;show iB #[H1,I1,q]
variable {tA tB':TT}{rest:List Expr}
def vK(u:TT)(Z:St)(Q:Bool->Hp->Prop):Bool->Hp->Prop:=λc H1=>if c=oD then u Z H1 Q else Q p6 H1
def tAnd(t u:TT):TT:=λZ H Q=>t Z H\vK u Z Q
def r_(u:TT)(Z:St)(Q:Bool->Hp->Prop):Bool->Hp->Prop:=λc H1=>if c=oD then Q oD H1 else u Z H1 Q
def tOr(t u:TT):TT:=λZ H Q=>t Z H\r_ u Z Q
def rG(Q:Bool->Hp->Prop):Bool->Hp->Prop:=λc H1=>Q (!c) H1
def tNot(t:TT):TT:=λZ H Q=>t Z H\rG Q
def ft(ha:PT X a tA):PW X (.BoolOp .And [a] pos) tA:=by
 intro b RC s Z H Q I h;show isTrue_and (thn (ha RC s Z H Q I h) λc s1 e=>?_);cases c with
 |true=>show isTrue_and_nil e
 |false=>show e
def iK(ha:PT X a tA):PW X (.BoolOp .Or [a] pos) tA:=by
 intro b RC s Z H Q I h;show isTrue_or (thn (ha RC s Z H Q I h) λc s1 e=>?_);cases c with
 |false=>show isTrue_or_nil e
 |true=>show e
def ff(ha:PT X a tA)(f:PW X (.BoolOp .And (b::rest) pos) tB'):PW X (.BoolOp .And (a::b::rest) pos) (tAnd tA tB'):=by
 intro g RC s Z H Q I h;show isTrue_and (thn (ha RC s Z H _ I h) λc s1 ⟨H1,d,e⟩=>?_);cases c with
 |true=>show f g RC s1 Z H1 Q d e
 |false=>erw[H1,d,e]
def gQ(ha:PT X a tA)(f:PW X (.BoolOp .Or (b::rest) pos) tB'):PW X (.BoolOp .Or (a::b::rest) pos) (tOr tA tB'):=by
 intro g RC s Z H Q I h;show isTrue_or (thn (ha RC s Z H _ I h) λc s1 ⟨H1,d,e⟩=>?_);cases c with
 |true=>erw[H1,d,e]
 |false=>show f g RC s1 Z H1 Q d e
def fK(ha:PT X a tA):PT X (.UnaryOp .Not a pos) (tNot tA):=by intro RC s Z H Q I h;show isTrue_not\ha RC s Z H (λc H1=>Q (!c) H1) I h
def M9(ta tb:TE):TE:=λZ H Q=>ta Z H λx H1=>∃c,x=.bl c/\if c=oD then tb Z H1 Q else Q (.bl p6) H1
def ME(tb:TE)(Z:St)(Q:VK)(x:V)(H1:Hp)(c:Bool):Prop:=x=.bl c/\if c=oD then Q (.bl oD) H1 else tb Z H1 Q
def MD(tb:TE)(Z:St)(Q:VK):VK:=λx H1=>Exists\ME tb Z Q x H1
def vW(ta tb:TE):TE:=λZ H Q=>ta Z H\MD tb Z Q
def MG(ta:TE):TE:=λZ H Q=>ta Z H λx H1=>∃c,x=.bl c/\Q (.bl (!c)) H1
def jX{op}(h:PE X a t):PE X (.BoolOp op [a] pos) t:=λRC s Z H Q I hw=>BoolOp_one\h RC s Z H Q I hw
def jY(ha:PE X a ta)(f:PE X (.BoolOp .And (b::rest) pos) tb):PE X (.BoolOp .And (a::b::rest) pos) (M9 ta tb):=by
 intro RC s Z H Q I h;show BoolOp_and (thn (ha RC s Z H _ I h) λv s1 g=>?_);let#[x,H1,e,i,d]:=g;let#[c,1,d]:=d;cases i;show iB ?_;cases c with
 |true=>show f RC s1 Z H1 Q e d
 |false=>erw[.bl p6,H1,e,1,d]
def B4(ha:PE X a ta)(f:PE X (.BoolOp .Or (b::rest) pos) tb):PE X (.BoolOp .Or (a::b::rest) pos) (vW ta tb):=by
 intro RC s Z H Q I h;show BoolOp_or (thn (ha RC s Z H _ I h) λv s1 g=>?_);let#[x,H1,e,i,d]:=g;let#[c,1,d]:=d;cases i;show iB ?_;cases c with
 |false=>show f RC s1 Z H1 Q e d
 |true=>erw[.bl oD,H1,e,1,d]
def LA(ha:PE X a ta):PE X (.UnaryOp .Not a pos) (MG ta):=by intro RC s Z H Q I h;show UnaryOp_ (thn (ha RC s Z H _ I h) λv s1 d=>?_);let#[x,H1,e,f,b]:=d;let#[c,1,b]:=b;cases f;show not_of\iB #[.bl (!c),H1,e,1,b]
def tIf(t:TT)(ta tb:TE):TE:=λZ H Q=>t Z H λc H1=>if c=oD then ta Z H1 Q else tb Z H1 Q
def zE(g:PT X c tA)(ha:PE X a ta)(i:PE X b tb):PE X (.IfExp c a b pos) (tIf tA ta tb):=by
 intro RC s Z H Q I h;show wpAny_IfExp (thn (g RC s Z H _ I h) λd s1 ⟨H1,e,f⟩=>?_);cases d with
 |true=>show ha RC s1 Z H1 Q e f
 |false=>show i RC s1 Z H1 Q e f
end
end L2
namespace L2
open PySem PySem.Spec PyProof.Rows
def SqL(K:W.Frag)(H:Hp)(a:pR)(xs:List V):Prop:=
 Rd H a (.lst xs) \/
  ∃(o:Obj)(b:Array pC)(n:Nat),K.lookup a*>o/\o.cls=.type ↑28/\o.dict=n7/\o.data=.seq b n/\b.size<=qs/\Vals xs b.toList
def SqT(K:W.Frag)(H:Hp)(a:pR)(xs:List V):Prop:=
 Rd H a (.tup xs) \/
  ∃(o:Obj)(b:Array pC)(n:Nat),K.lookup a*>o/\o.cls=.type ↑20/\o.data=.seq b n/\b.size<=qs/\Vals xs b.toList
def absV:pC->Option V
 |.none=>oy .non
 |.bool b=>oy\.bl b
 |.int i _=>oy\.int i
 |.str x _=>oy\.str x
 |.bytes b _=>oy\.byt b
 |.float b _=>oy\.flt b
 |.ref a=>oy\.ref a
 |.type n=>oy\.ty n
 |_=>n7
def aC.abs(r:aC x u):absV u*>x:=by
 cases x with
 |non=>cases r;rfl
 |bl _=>cases r;rfl
 |int _=>let#[t,1]:=r;rfl
 |str _=>let#[t,1]:=r;rfl
 |byt _=>let#[t,1]:=r;rfl
 |flt _=>let#[t,1]:=r;rfl
 |ref _=>cases r;rfl
 |ty _=>cases r;rfl
def aC.inj(r:aC x u)(q:aC y u):x=y:=eg\r.abs.symm.trans q.abs
def Vals.inj{xs:List V}(h:Vals xs us)(h':Vals ys us):xs=ys:=by
 induction h generalizing ys with
 |nil=>cases h';rfl
 |cons r t a=>cases h' with
  |cons b t'=>rw[r.inj b,a t']
section
variable {a:Addr}{xs ys:List V}
def SqL.of(h:H a*>.lst xs):SqL K H a xs:=.inl\.inl h
def SqT.of(h:H a*>.tup xs):SqT K H a xs:=.inl\.inl h
def Inv.list(I:Inv X RC Z H s)(h:SqL [] H a xs):∃b:List pC,Vals xs b/\PlainL s.heap a b.toArray/\↑xs<=sizeLine:=by
 rcases h with h|⟨o,b,n,c,d,hd,f,hz,r⟩
 .let#[z,b,n,r,e]:=h.ok I.hok;erw[b,r,#[_,n,e,5,1],z]
 cases c
def Inv.tuple(I:Inv X RC Z H s)(h:SqT [] H a xs):∃b:List pC,Vals xs b/\IsTup s.heap a b.toArray/\↑xs<=sizeLine:=by
 rcases h with h|⟨o,b,n,c,d,e,hz,r⟩
 .let#[#[z,_],b,r,p]:=h.ok I.hok;erw[b,r,p,z]
 cases c
def Inv.list_inj(I:Inv X RC Z H s)(h:SqL [] H a xs)(h':SqL [] H a ys):xs=ys:=by
 let#[c,r,#[o,n,e,0,d],_]:=I.list h;let#[its',f,#[o',i,b,0,d'],_]:=I.list h';rw[e] at b;cases b;rw[d] at d';injection d' with g _;have:c=its':=‹congrArg Array.toList g›
 subst this;show r.inj f
def Inv.tuple_inj(I:Inv X RC Z H s)(h:SqT [] H a xs)(h':SqT [] H a ys):xs=ys:=by
 let#[c,r,#[o,e,_,n,d],_]:=I.tuple h;let#[its',f,#[o',b,_,i,d'],_]:=I.tuple h';rw[e] at b;cases b;rw[d] at d';injection d' with g _;have:c=its':=‹congrArg Array.toList g›
 subst this;show r.inj f
end
abbrev Cx.wish(X:Cx)(E:pC->pS->Prop):Cx:={X with xe:=E}
abbrev Cx.nox(X:Cx):Cx:=X.wish λ_ _=>False
def Cx.Ok.wish(ok:X.Ok)(E:pC->pS->Prop):(X.wish E).Ok:=
 #[ok.mod,ok.kind,ok.glob,ok.blt,ok.above,ok.inj,ok.has,ok.cab,ok.hd,ok.frames,ok.stk,ok.exf,ok.bs,ok.bsz,ok.noex,ok.exfs,ok.funs,ok.frf]
def Cx.Ok.unwish(ok:(X.wish E).Ok):X.Ok:=
 #[ok.mod,ok.kind,ok.glob,ok.blt,ok.above,ok.inj,ok.has,ok.cab,ok.hd,ok.frames,ok.stk,ok.exf,ok.bs,ok.bsz,ok.noex,ok.exfs,ok.funs,ok.frf]
section
def Inv.wish(I:Inv X RC Z H s)(E:pC->pS->Prop):Inv (X.wish E) RC Z H s:=#[I.ok.wish E,I.os,I.bare,I.base,I.loc,I.cell,I.free,I.freeC,I.pin,I.hok,I.len]
def Inv.unwish(I:Inv (X.wish E) RC Z H s):Inv X RC Z H s:=#[I.ok.unwish,I.os,I.bare,I.base,I.loc,I.cell,I.free,I.freeC,I.pin,I.hok,I.len]
def SP.unwish{f:Flow}(h:SP (X.wish E) RC D f s'):SP X RC D f s':=by
 cases f with
 |next=>let#[Z',H',I,q]:=h;erw[Z',H',I.unwish,q]
 |brk=>let#[Z',H',I,q]:=h;erw[Z',H',I.unwish,q]
 |cont=>let#[Z',H',I,q]:=h;erw[Z',H',I.unwish,q]
 |ret u=>let#[v,Z',H',I,r,q]:=h;erw[v,Z',H',I.unwish,r,q]
def PSs.nox{st:List rz}{t:TS}(h:PSs X.nox st t):PSs X st t:=λRC s Z H D I hw=>
 bZ (h RC s Z H D (I.wish _) hw) (λ_ _ q=>q.unwish) λ_ _ z=>False.elim z
end
section
variable {st:Stmt}{rest:List Stmt}{t u:TS}{e:Expr}{te:TE}{pos:Pos}
def MH:TS:=λD Z H=>D.nx Z H
def vV(t u:TS):TS:=λD Z H=>t {D with nx:=u D} Z H
def aY:PSs X [] MH:=λ_ _ Z H _ I h=>ph #[Z,H,I,h]
def af(h1:PS X st t)(h2:PSs X rest u):PSs X (st::rest) (vV t u):=by
 intro RC s Z H D I h;show Qh (thn (h1 RC s Z H {D with nx:=u D} I h) λf s1 q=>?_);cases f with
 |next=>
  let#[Z',H',a,q]:=q;show h2 RC s1 Z' H' D a q
 |ret v=>show q
 |brk=>show q
 |cont=>show q
def ak(h1:PS X st t):PSs X [st] t:=by
 intro RC s Z H D I h;show Qh (thn (h1 RC s Z H D I h) λf s1 q=>?_);cases f with
 |next=>show ph q
 |ret v=>show q
 |brk=>show q
 |cont=>show q
def M7:TS:=λD Z H=>D.ct Z H
def D6:PS X (.Continue pos) M7:=λ_ _ Z H _ I h=>wpAny_Continue #[Z,H,I,h]
def Inv.quiet(I:Inv X RC Z H s):interactive X.env=p6:=by simp[interactive,I.ok.kind]
def KH(D:Ends)(Z:St):VK:=λ_ H1=>D.nx Z H1
def MQ(te:TE):TS:=λD Z H=>te Z H\KH D Z
def dJ(he:PE X e te)(a:swapsWith e n7 pos.line X.env=pure p6:=by rfl):PS X (.Expr e pos) (MQ te):=by intro RC s Z H D I h;show wpAny_Expr_any (thn (he RC s Z H _ I h) λv s1 ⟨x,H1,b,d,c⟩=>#[Z,H1,b,c]) I.quiet a
def tRet(te:TE):TS:=λD Z H=>te Z H D.rt
def aF(he:PE X e te):PS X (.Return (oy e) pos) (tRet te):=by intro RC s Z H D I h;show wpAny_Return_some (thn (he RC s Z H _ I h) λv s1 ⟨x,H1,a,b,c⟩=>#[x,Z,H1,a,b,c])
def vY(t u:TS)(D:Ends)(Z:St):Bool->Hp->Prop:=λb H1=>if b=oD then t D Z H1 else u D Z H1
def vX(c:TT)(t u:TS):TS:=λD Z H=>c Z H\vY t u D Z
def a8(g:PT X c tc)(ha:PSs X a t)(i:PSs X b u):PS X (.If c a b pos) (vX tc t u):=by
 intro RC s Z H D I h;show wpAny_If (thn (g RC s Z H _ I h) λd s1 ⟨H1,e,f⟩=>?_);cases d with
 |true=>show ha RC s1 Z H1 D e f
 |false=>show i RC s1 Z H1 D e f
def KF:TS:=λ_ _ _=>False
def tX:PSs X a KF:=λ_ _ _ _ _ _ h=>h.elim
end
abbrev TG:=V->St->Hp->(St->Hp->Prop)->Prop
abbrev TGs:=List V->St->Hp->(St->Hp->Prop)->Prop
def PG(X:Cx)(target:ry)(t:TG):Prop:=
 ∀(RC:List (pR×Obj))(s:pS)(Z:St)(H:Hp)(v:V)(u:pC)(Q:St->Hp->Prop),Inv X RC Z H s->aC v u->t v Z H Q->
  q7 ⇑X X.A (assign target X.env u) (λ_ s'=>∃Z' H',Inv X RC Z' H' s'/\Q Z' H') X.xe s
def PGs(X:Cx)(ts:List ry)(t:TGs):Prop:=
 ∀(RC:List (pR×Obj))(s:pS)(Z:St)(H:Hp)(vs:List V)(us:List pC)(Q:St->Hp->Prop),Inv X RC Z H s->Vals vs us->t vs Z H Q->
  q7 ⇑X X.A (assignInOrder ((assignEach ts X.env).map (·.2)) us) (λ_ s'=>∃Z' H',Inv X RC Z' H' s'/\Q Z' H') X.xe s
abbrev TSet:=V->V->V->Hp->(Hp->Prop)->Prop
def PSet(X:Cx)(t:TSet):Prop:=
 ∀(RC:List (pR×Obj))(s:pS)(Z:St)(H:Hp)(o i v:V)(ov a u:pC)(Q:Hp->Prop),Inv X RC Z H s->aC o ov->aC i a->aC v u->t o i v H Q->
  q7 ⇑X X.A (setItem ov a u) (λ_ s'=>∃H',Inv X RC Z H' s'/\Q H') X.xe s
section
variable {pos:Pos}
def cZ(i:Nat):TG:=λv Z H Q=>Q (Z.set i\oy v) H
def Jw{i:Nat}{x:Str}(a:X.N.Nodup)(hi:X.N[i]?*>x)(hx:Loc X.env.scope x)(hf:X.fn x=oD\/X.env.scope.names.lookup x*>.local:=by first|exact .inl rfl|exact .inr rfl|assumption):PG X (.Name x pos) (cZ i):=by intro RC s Z H v u Q I r h;exact Qf\jP I a hi hx r (λs' b=>#[_,H,b,h]) hf
def gx(i:Nat){x:Str}(a:X.N.Nodup)(hi:X.N[i]?*>x:=by rfl)(hx:Loc X.env.scope x:=by first|exact .inl rfl|exact .inr rfl)(hf:X.fn x=oD\/X.env.scope.names.lookup x*>.local:=by first|exact .inl rfl|exact .inr rfl|assumption):PG X (.Name x pos) (cZ i):=Jw a hi hx hf
def ki:TGs:=λvs Z H Q=>vs=[]/\Q Z H
def Md(u:TGs)(r:List V)(Q:St->Hp->Prop):St->Hp->Prop:=λZ' H'=>u r Z' H' Q
def Me(t:TG)(u:TGs)(vs:List V)(Z:St)(H:Hp)(Q:St->Hp->Prop)(v:V)(r:List V):Prop:=vs=v::r/\t v Z H\Md u r Q
def fN(t:TG)(u:TGs):TGs:=λvs Z H Q=>Exists\Ex2 (Me t u vs Z H Q)
def dh:PGs X [] ki:=by intro RC s Z H vs us Q I r h;let#[e,h]:=h;subst e;cases r;show PR #[Z,H,I,h]
def aV(h1:PG X e t)(h2:PGs X es u)
  (a:(assignEach (e::es) X.env).map (·.2)=assign e X.env::(assignEach es X.env).map (·.2):=by rfl):PGs X (e::es) (fN t u):=by
 intro RC s Z H vs us Q I r h;let#[v,vr,b,h]:=h;subst b;cases r with
 |cons r c=>
  rw[a];show C9 (thn (h1 RC s Z H _ _ _ I r h) λ_ s1 ⟨d,H1,f,g⟩=>?_);show h2 RC s1 d H1 _ _ Q f c g
def N6(K:W.Frag)(n:Nat)(t:TGs)(v:V)(Z:St)(H:Hp)(Q:St->Hp->Prop)(a:pR)(xs:List V):Prop:=v=.ref a/\SqT K H a xs/\↑xs=n/\t xs Z H Q
def kh(K:W.Frag)(n:Nat)(t:TGs):TG:=λv Z H Q=>Exists\Ex2 (N6 K n t v Z H Q)
def dn{k:Nat}(d:X.calm=oD)(h:PGs X es t)
  (f:↑(assignEach es X.env)=↑es:=by rfl) (g:(assignEach es X.env).findIdx? (·.1)=n7:=by rfl):PG X (.Tuple es k pos) (kh [] ↑es t):=by
 intro RC s Z H v u Q I r hw;let#[a,xs,i,j,l,hw]:=hw;subst i;cases r;let#[p,c,m,hz]:=I.tuple j;show assign_Tuple_tuple (I.ok.hd d) m (by simp[f,<-l,(↑c)]) g λh' hx=>?_;let n:Inv X RC Z H {s with heap:=h'}:=I.kept (t':=s.toks) λb o e=>hx b o (bB\aJ e) e;show h RC _ Z H xs _ Q n ‹c› hw
def N7(t:TSet)(o v:V)(Z:St)(Q:St->Hp->Prop):VK:=λi H2=>t o i v H2\Q Z
def N8(a:TE)(t:TSet)(v:V)(Z:St)(Q:St->Hp->Prop):VK:=λo H1=>a Z H1\N7 t o v Z Q
def gSub(to a:TE)(t:TSet):TG:=λv Z H Q=>to Z H\N8 a t v Z Q
def vB{t:TSet}(ho:PE X o to)(hi:PE X i ti)(hs:PSet X t)
  (ha:∀v,assign (.Subscript o i pos) X.env v=(do
   let ov <-holding [v] (sZ o X.env)
   let iv <-holding [v,ov] (sZ i X.env)
   standAt pos
   holding [v,ov,iv] (setItem ov iv v)
   release [v,ov,iv] []):=by intro _;rfl):PG X (.Subscript o i pos) (gSub to ti t):=by
 intro RC s Z H v u Q I r h;rw[ha];show aa\cX (thn (ho RC s Z H _ I h) λov s1 hZQ=>?_);let#[x,H1,I1,r1,q1]:=hZQ;show aa\cX (thn (hi RC s1 Z H1 _ I1 q1) λiv s2 hZQ=>?_);let#[y,H2,I2,r2,q2]:=hZQ;show aa\kM (aa\cX (thn (hs RC s2 Z H2 x y v ov iv u _ I2 r1 r2 r q2) λ_ s3 ⟨H3,I3,q3⟩=>?_));show wpAny_release #[Z,H3,I3,q3]
def M8(g:TG)(D:Ends)(Z:St):VK:=λx H1=>g x Z H1 D.nx
def oB(te:TE)(g:TG):TS:=λD Z H=>te Z H\M8 g D Z
def fu(he:PE X e te)(a:PG X tg g)(b:swapsWithSole [tg] e pos.line X.env=pure p6:=by rfl)(hw:swappedStores [tg] e X.env=pure n7:=by rfl)
  (h1:(assignEach [tg] X.env).map (·.2)=[assign tg X.env]:=by rfl):PS X (.Assign [tg] e pos) (oB te g):=by
 intro RC s Z H D I h;show wpAny_Assign_stores (thn (he RC s Z H _ I h) λv s1 c=>?_) b hw;let#[x,H1,d,f,i]:=c;rw[h1];show thn (a RC s1 Z H1 x v _ d f i) λ_ s2 q=>q
def vy{i:Nat}{x:Str}{pos':Pos}(a:X.N.Nodup)(hi:X.N[i]?*>x)(hx:Loc X.env.scope x)(he:PE X e te)(b:swapsWith e (oy\.Name x pos') pos.line X.env=pure p6:=by rfl)(hf:X.fn x=oD\/X.env.scope.names.lookup x*>.local:=by first|exact .inl rfl|exact .inr rfl|assumption):
  PS X (.Assign [.Name x pos'] e pos) (oB te\cZ i):=by
 intro RC s Z H D I h;show wpAny_Assign_Name (thn (he RC s Z H _ I h) λv s1 c=>?_) b;let#[y,H1,d,f,g]:=c;show jP d a hi hx f (λs2 j=>#[_,H1,j,g]) hf
def sx(i:Nat){x:Str}{pos':Pos}(a:X.N.Nodup)(he:PE X e te)(hi:X.N[i]?*>x:=by rfl)(hx:Loc X.env.scope x:=by first|exact .inl rfl|exact .inr rfl)(b:swapsWith e (oy\.Name x pos') pos.line X.env=pure p6:=by rfl)(hf:X.fn x=oD\/X.env.scope.names.lookup x*>.local:=by first|exact .inl rfl|exact .inr rfl|assumption):PS X (.Assign [.Name x pos'] e pos) (oB te\cZ i):=vy a hi hx he b hf
def tPar(i j:Nat)(ta:TA):TS:=λD Z H=>ta Z H λvs H1=>∃v w,vs=[v,w]/\D.nx ((Z.set i\oy v).set j\oy w) H1
def Lw{i j:Nat}{x y:Str}{a b:ry}{ta:TA}{px py pt:Pos}{kt k2 pt2}(hc:X.calm=oD)(hN:X.N.Nodup)(hi:X.N[i]?*>x)(hj:X.N[j]?*>y)(hij:i≠j)
  (hx:X.env.scope.names.lookup x*>.local) (hy:X.env.scope.names.lookup y*>.local) (ha:PA X [a,b] ta)
  (hw:swappedStores [.Tuple [.Name x px,.Name y py] kt pt] (.Tuple [a,b] k2 pt2) X.env=pure\oy [x,y])
  (hs:swapsWithSole [.Tuple [.Name x px,.Name y py] kt pt] (.Tuple [a,b] k2 pt2) pos.line X.env=pure p6:=by rfl) :
  PS X (.Assign [.Tuple [.Name x px,.Name y py] kt pt] (.Tuple [a,b] k2 pt2) pos) (tPar i j ta):=by
 intro RC s Z H D I h;rw[exec_Assign_arm];show aa\kM ?_;rw[hs];show aa\ai ?_;rw[Rx ⋯];show aa\Tuple_ (thn (ha _ RC s Z H _ I h) λus s1 hZQ=>?_);let#[vs,H1,I1,r1,q1]:=hZQ;let#[v,w,e1,q1]:=q1;subst e1;let#[u1,u2,1,rv,rw']:∃u1 u2,us=[u1,u2]/\aC v u1/\aC w u2:=by
  cases r1 with
  |cons p q=>
   cases q with
   |cons p' q'=>
    cases q';erw[9,p,p']
 show eQ ?_ (by change 2<=qs;decide);let I2:Inv X RC Z H1 {s1 with heap:=s1.heap.push {cls:=.type ↑20,data:=.seq [u1,u2].toArray}}:=I1.kept (t':=s1.toks) λb o e=>aO _ e;rw[hw];show aa\ai ?_;change q7 ⇑X X.A (do rule "assign.swapped-stores";let items <-unpackItems (.ref ↥s1) 2 n7;assignInOrder [λv=>bindName X.env y v,λv=>bindName X.env x v] items.reverse;pure Flow.next) _ _ _;show aa\tK (aa (unpackItems_tuple (items:=(tA [u1,u2])) (I.ok.hd hc) (sS s1.heap _) λh' hx'=>?_));let I3:=I2.kept (h':=h') (t':=s1.toks) λb o e=>hx' b o (bB\aJ e) e;change q7 _ _ (assignInOrder [λv=>bindName X.env y v,λv=>bindName X.env x v] [u2,u1] >>= λ_=>pure Flow.next) _ _ _;show aa\C9 (Dl\jP I3 hN hj (.inl hy) rw' (λs2 I4=>?_) (.inr hy));show C9\Dl (jP I4 hN hi (.inl hx) rv (λs3 I5=>PR\ai ?_)\.inr hx);rw[List.set_comm>>(aA hij)] at I5;erw[_,H1,I5,q1]
end
section
variable {pos:Pos}
def tWhN(tb:TS)(D:Ends)(W:Nat->St->Hp->Prop)(m:Nat)(Z:St)(H1:Hp)(N:St->Hp->Prop):Prop:=(∀Z' H',N Z' H'->∃a,a<m/\W a Z' H')/\tb {D with nx:=N,ct:=N,bk:=D.nx} Z H1
def tWhK(tb:TS)(D:Ends)(W:Nat->St->Hp->Prop)(m:Nat)(Z:St):Bool->Hp->Prop:=λb H1=>if b=oD then Exists (tWhN tb D W m Z H1) else D.nx Z H1
def tWhB(c:TT)(tb:TS)(D:Ends)(Z:St)(H:Hp)(W:Nat->St->Hp->Prop):Prop:=(∃m,W m Z H)/\∀m Z H,W m Z H->c Z H\tWhK tb D W m Z
def u_(c:TT)(tb:TS):TS:=λD Z H=>Exists\tWhB c tb D Z H
def jQ(p:PassesOwn ⇑X X.A X.env X.xe)(u:PT X c tc)(x:PSs X body tb):PS X (.While c body [] pos) (u_ tc tb):=by
 intro RC s Z H D I h;let#[W,#[m0,y],turn]:=h;show wpAny_While\codeAny_whileLoop (λn s'=>∃Z' H',Inv X RC Z' H' s'/\W n Z' H') ?_ m0 #[Z,H,I,y];rintro n s1 ⟨e,H1,z,B⟩;show mQ p (thn (u RC s1 e H1 _ z\turn n e H1 B) λb s2 ⟨H2,q,g⟩=>?_);cases b with
 |true=>
  let#[N,r,g]:=g;rw[Ry rfl];show mQ p (thn (x RC s2 e H2 _ q g) λf C i=>?_);cases f with
  |next=>
   let#[a,d,j,l]:=i;let#[m,hm,o]:=r a d l;erw[m,hm,a,d,j,o]
  |cont=>
   let#[a,d,j,l]:=i;let#[m,hm,o]:=r a d l;erw[m,hm,a,d,j,o]
  |brk=>show i
  |ret v=>show i
 |false=>
  rw[Rx bG];show ph #[e,H2,q,g]
end
structure It where
 go:Nat->Hp->Prop
 yld:Nat->Hp->V->Hp->Prop
 stop:Nat->Hp->Prop
def bY(X:Cx)(RC:List (pR×Obj))(H:Hp)(b:pR):Prop:=
 H b=n7/\b≠X.env.locals/\b∉X.fs/\(b∈X.ex\/X.s₀.heap.objs.size<=b)/\(∀x c,X.env.cells.lookup x*>c->c≠b)/\∀p∈X.pn++RC,p.1≠b
def Inv.fpOk{b:pR}(I:Inv X RC Z H s)(a:↥s<=b)(d:H' b=n7):bY X RC H' b:=by
 erw[d,kD\bU I.lt a,I.nofs a,.inr\cR I.sz a,λx c e z=>?_,λp f z=>?_]
 .let#[v,q]:=I.cell x c e;show absurd (bU q.lt (by rw[z];show a))\dD _
 show absurd (bU (aJ (I.pin p f).1) (by rw[z];show a))\dD _
structure Turn(P:rp)(w:sf)(K:W.Frag)(tg:ry)(J:It)(fp:List pR)(it:pR)(tn:Nat->rq->Prop):Prop where
 mem:it∈fp
 obj:∀i h,tn i h->∀b∈fp,∃o,h.get? b*>o/\∀v,o.data≠.cell v
 keep:∀i h h',tn i h->(∀b∈fp,∀o,h.get? b*>o->h'.get? b*>o)->tn i h'
 item:∀(X:Cx),X.prog=P->X.w=w->X.K=K->X.calm=oD->∀(i:Nat)(RC:List (pR×Obj))(s:pS)(Z:St)(H:Hp)(E:pC->pS->Prop),Inv X RC Z H s->(∀b∈fp,bY X RC H b)->tn i s.heap->J.go i H->
  q7 (rb P w) X.A (wb\.ref it) (λr s1=>∃u,r*>u/\
   q7 (rb P w) X.A (letOwnedTupleGo tg (.ref it) u) (λ_ s2=>∃x H',Inv X RC Z H' s2/\aC x u/\J.yld i H x H'/\tn (i+1) s2.heap/\∀b∈fp,H' b=n7) E s1) E s
 done:∀(X:Cx),X.prog=P->X.w=w->X.K=K->X.calm=oD->∀(i:Nat)(RC:List (pR×Obj))(s:pS)(Z:St)(H:Hp)(E:pC->pS->Prop),Inv X RC Z H s->(∀b∈fp,bY X RC H b)->tn i s.heap->J.stop i H->
  q7 (rb P w) X.A (wb\.ref it) (λr s1=>r=n7/\Inv X RC Z H s1) E s
 self:∀(A:z3)(i:Nat)(s:pS)(Q:pC->pS->Prop)(E:pC->pS->Prop),tn i s.heap->Q (.ref it) s->q7 (rb P w) A (pyIter\.ref it) Q E s
abbrev TI:=St->Hp->(It->Hp->Prop)->Prop
def PIE(X:Cx)(RC:List (pR×Obj))(Z:St)(tg:ry)(R:It->Hp->Prop)(c:pC)(s2:pS):Prop:=
 ∃(it:pR)(fp:List pR)(a:Nat->rq->Prop)(J:It)(H':Hp),c=.ref it/\Inv X RC Z H' s2/\Turn X.prog X.w X.K tg J fp it a/\a 0 s2.heap/\(∀b∈fp,bY X RC H' b)/\R J H'
def PI(X:Cx)(tg iter:ry)(wi:TI):Prop:=
 ∀(RC:List (pR×Obj))(s:pS)(Z:St)(H:Hp)(R:It->Hp->Prop),Inv X RC Z H s->wi Z H R->
  q7 ⇑X X.A (sZ iter X.env) (λv s1=>q7 ⇑X X.A (pyIter v) (PIE X RC Z tg R) X.xe s1) X.xe s
def rT{M:Model}{tg:ry}{it:pR}{u:pC}{o:Obj}{n:String}{vs:Array pC}{Q:Unit->pS->Prop}(b:s.heap.get? it*>o)(c:o.cls=.type n)(hd:o.data=.fields vs)
  (d:[↑89,"zip",↑15,"dict_reverseitemiterator","odict_iterator","itertools.zip_longest","itertools.pairwise"].contains n=p6) (a:Q .unit s):q7 M A (letOwnedTupleGo tg (.ref it) u) Q E s:=by
 unfold letOwnedTupleGo;cases tg<;>first
  |show ai a
  |(cases u<;>first
    |show ai a
    |(show aa (wpAny_load b ?_)
      rw[c,hd];change q7 M A (if ([↑89,"zip",↑15,"dict_reverseitemiterator","odict_iterator","itertools.zip_longest","itertools.pairwise"].contains n&&vs[0]?==oy\vf _)=oD then _ else _) Q E s;rw[Rx (by intro h;rw[d,Bool.false_and] at h;cases h)];show ai a))
def Itl(K:W.Frag)(a:pR):It:=
 #[λi H=>∃xs x,SqL K H a xs/\xs[i]?*>x,λi H x H'=>H'=H/\∀xs,SqL K H a xs->xs[i]?*>x,λi H=>∃xs,SqL K H a xs/\↑xs<=i]
def Itt(K:W.Frag)(a:pR):It:=
 #[λi H=>∃xs x,SqT K H a xs/\xs[i]?*>x,λi H x H'=>H'=H/\∀xs,SqT K H a xs->xs[i]?*>x,λi H=>∃xs,SqT K H a xs/\↑xs<=i]
def Itr(lo:Int)(n:Nat):It:=#[λi _=>i<n,λi H x H'=>H'=H/\x=.int (lo+i),λi _=>n<=i]
def ER(a it:pR):Turn P w K tg (Itl [] a) [it] it (λi h=>h.IsListIter it a i) where
 mem:=∅
 obj:=λi h st b f=>by
  let e:b=it:=‹f›
  subst e;let#[o,e,c,d]:=st;erw[o,e,λv z=>by rw[d] at z;cases z]
 keep:=λi h h' st k=>st.at λo e=>k it ∅ o e
 item:=by intro X j hw l C i RC s Z H E I hf st m;subst j hw l;let#[xs,x,g,hx]:=m;let#[L,n,p,hz]:=I.list g;let#[u,M,N]:=n.get hx;let#[q,r,O,y,A,B]:=hf it ∅;show Qv st p.isList (x:=u) ‹M› λh' D sb=>?_;let Q:Inv X RC Z H {s with heap:=h'}:=I.turned (t':=s.toks) (λb o f e=>(sb.2 b f)<*e) q r y A B;let#[o,e,c,d]:=id D;erw[u,1,rT (s:={s with heap:=h'}) e c d ⋯ #[x,H,Q,N,#[1,λys R=>by rw[I.list_inj R g];show hx],D,λb f=>(hf b f).1]]
 done:=by intro X j hw l C i RC s Z H E I hf st m;subst j hw l;let#[xs,g,hx]:=m;let#[L,n,p,hz]:=I.list g;let#[q,r,O,y,A,B]:=hf it ∅;let T:=↑n;show Qu (I.ok.hd C) st p.isList (by simp;lia) λh' S=>#[1,I.turned (t':=s.toks) (λb o f e=>S b o f e) q r y A B]
 self:=λ_ _ _ _ _ st h=>wpAny_pyIter_listiter st h
def Eh(a it:pR):Turn P w K tg (Itt [] a) [it] it (λi h=>h.IsTupleIter it a i) where
 mem:=∅
 obj:=λi h st b f=>by
  let e:b=it:=‹f›
  subst e;let#[o,e,c,d]:=st;erw[o,e,λv z=>by rw[d] at z;cases z]
 keep:=λi h h' st k=>st.at λo e=>k it ∅ o e
 item:=by intro X j hw l D i RC s Z H E I hf st m;subst j hw l;let#[xs,x,g,hx]:=m;let#[n,q,p,hz]:=I.tuple g;let#[u,M,N]:=q.get hx;let#[r,y,O,A,B,C]:=hf it ∅;show wpAny_pyNext_tuple_item st (show s.heap.IsTuple a n.toArray from p) (x:=u) ‹M› λh' L sb=>?_;let Q:Inv X RC Z H {s with heap:=h'}:=I.turned (t':=s.toks) (λb o f e=>(sb.2 b f)<*e) r y A B C;let#[o,e,c,d]:=id L;erw[u,1,rT (s:={s with heap:=h'}) e c d ⋯ #[x,H,Q,N,#[1,λys R=>by rw[I.tuple_inj R g];show hx],L,λb f=>(hf b f).1]]
 done:=by intro X j hw l D i RC s Z H E I hf st m;subst j hw l;let#[xs,g,hx]:=m;let#[n,q,p,hz]:=I.tuple g;let#[r,y,O,A,B,C]:=hf it ∅;let T:=↑q;show wpAny_pyNext_tuple_end (I.ok.hd D) st (show s.heap.IsTuple a n.toArray from p) (by simp;lia) λh' S=>#[1,I.turned (t':=s.toks) (λb o f e=>S b o f e) r y A B C]
 self:=λ_ _ _ _ _ st h=>wpAny_pyIter_tupleiter st h
def Ei(it:pR)(lo:Int)(n:Nat):Turn P w K tg (Itr lo n) [it] it (λi h=>IsRangeIter h it (lo+(i:Nat)*1) ((n:Int)-(i:Nat)) 1) where
 mem:=∅
 obj:=λi h st b a=>by
  let e:b=it:=‹a›
  subst e;erw[_,st,λv z=>by
   let u:Data.fields _=Data.cell v:=z;cases u]
 keep:=λi h h' st k=>k it ∅ _ st
 item:=by intro X c hw d f i RC s Z H E I hf st g;subst c hw d;let#[j,l,x,m,p,q]:=hf it ∅;let W:=Walks.range (prog:=X.prog) (w:=X.w) (I.ok.hd f) it lo 1 n;show W.item i s _ _ g st λv h' tk y r kk=>?_;let#[t,1]:=y;let A:Inv X RC Z H {s with heap:=h',toks:=tk}:=I.turned (λb o a e=>kk b o ‹a› e) j l m p q;erw[2,rT (s:={s with heap:=h',toks:=tk}) (n:="range_iterator") r rfl rfl ⋯ #[.int (lo+i),H,A,#[t,?_],#[5],r,λb a=>(hf b a).1]];rw[Int.mul_one]
 done:=by intro X c hw d f i RC s Z H E I hf st g;subst c hw d;let#[j,l,x,m,p,q]:=hf it ∅;show wpAny_pyNext_range_end (I.ok.hd f) st (by have:n<=i:=g;lia) λh' B=>#[1,I.turned (t':=s.toks) (λb o a e=>B b o a e) j l m p q]
 self:=λ_ _ _ _ _ st h=>wpAny_pyIter_rangeiter st h
end L2
namespace L2
open PySem PySem.Spec PyProof.Rows
section
variable {tg:Expr}
def L9(K:W.Frag)(R:It->Hp->Prop)(x:V)(H1:Hp)(a:pR):Prop:=x=.ref a/\(∃xs,SqL K H1 a xs)/\R (Itl K a) H1
def L8(K:W.Frag)(R:It->Hp->Prop):VK:=λx H1=>Exists\L9 K R x H1
def NZ(K:W.Frag)(tl:TE):TI:=λZ H R=>tl Z H\L8 K R
def NW(K:W.Frag)(R:It->Hp->Prop)(x:V)(H1:Hp)(a:pR):Prop:=x=.ref a/\(∃xs,SqT K H1 a xs)/\R (Itt K a) H1
def NV(K:W.Frag)(R:It->Hp->Prop):VK:=λx H1=>Exists\NW K R x H1
def oE(K:W.Frag)(tl:TE):TI:=λZ H R=>tl Z H\NV K R
def bQ(d:PE X l tl):PI X tg l (NZ [] tl):=by
 intro RC s Z H R I h;show thn (d RC s Z H _ I h) λv s1 f=>?_;let#[x,H1,c,g,i]:=f;let#[a,e,#[xs,j],q]:=i;subst e;cases g;let#[n,r,p,hz]:=c.list j;show tJ p.isList ?_;erw[↥s1,[↥s1],0,H1,1,c.kept (t':=s1.toks) λb o e=>aO _ e,ER a _,#[_,bI _ rfl,5],λb m=>?_,q];let e:b=↥s1:=‹m›
 subst e;show c.fpOk (aq _)\c.hok.fresh (aq _)
def lQ(d:PE X l tl):PI X tg l (oE [] tl):=by
 intro RC s Z H R I h;show thn (d RC s Z H _ I h) λv s1 f=>?_;let#[x,H1,c,g,i]:=f;let#[a,e,#[xs,j],q]:=i;subst e;cases g;let#[m,r,p,hz]:=c.tuple j;show Qt (show s1.heap.IsTuple a m.toArray from p) ?_;erw[↥s1,[↥s1],0,H1,1,c.kept (t':=s1.toks) λb o e=>aO _ e,Eh a _,#[_,bI _ rfl,5],λb n=>?_,q];let e:b=↥s1:=‹n›
 subst e;show c.fpOk (aq _)\c.hok.fresh (aq _)
def Gu{R:It->Hp->Prop}{lo hi:Int}{t u v:Tok}{tk:Nat}(I:Inv X RC Z H s)(h1:-(2 ^ 62)<=lo)(h2:lo<2 ^ 62)(c:-(2 ^ 62)<=hi)(d:hi<2 ^ 62)
  (q:R (Itr lo (hi-lo).toNat) H):q7 ⇑X X.A (pyIter\.ref ↥s) (PIE X RC Z tg R) E {s with heap:=s.heap.push {cls:=.type "range",data:=.fields\tA [.int lo t,.int hi u,.int 1 v]},toks:=tk}:=by
 show wpAny_pyIter_range (IsRange.new ..) (small_one h1 h2 c d) ?_;let a:Inv X RC Z H {s with heap:=s.heap.push {cls:=.type "range",data:=.fields\tA [.int lo t,.int hi u,.int 1 v]},toks:=tk}:=I.kept λb o e=>aO _ e;erw[(s.heap.push {cls:=.type "range",data:=.fields\tA [.int lo t,.int hi u,.int 1 v]}).objs.size,[(s.heap.push {cls:=.type "range",data:=.fields\tA [.int lo t,.int hi u,.int 1 v]}).objs.size],0,H,1,
  a.kept (t':=tk) λb o e=>aO _ e,Ei _ lo (hi-lo).toNat,?_,λb f=>?_,q]
 .let g:lo+((0:Nat):Int)*1=lo:=∅;let h:(((hi-lo).toNat:Nat):Int)-((0:Nat):Int)=Builtin.Range.rangeSize lo hi 1:=by rw[rangeSize_one];split<;>lia
  change IsRangeIter _ _ (lo+((0:Nat):Int)*1) ((((hi-lo).toNat:Nat):Int)-((0:Nat):Int)) 1;rw[g,h];show bI _ rfl
 let e:b=(s.heap.push {cls:=.type "range",data:=.fields\tA [.int lo t,.int hi u,.int 1 v]}).objs.size:=‹f›
 subst e;show a.fpOk (aq _)\a.hok.fresh (aq _)
def L7(R:It->Hp->Prop)(vs:List V)(H1:Hp)(j:Int):Prop:=vs=[.int j]/\-(2 ^ 62)<=j/\j<2 ^ 62/\R (Itr 0 j.toNat) H1
def L6(R:It->Hp->Prop):List V->Hp->Prop:=λvs H1=>Exists\L7 R vs H1
def NY(ta:TA):TI:=λZ H R=>ta Z H\L6 R
def nr{a:ry}{p pos:Pos}(c:Gl X "range")(hm:X.mg "range" = n7)(ha:PA X [a] ta)(d:r6 [a] X.env=[(p6,sZ a X.env)]:=by rfl):PI X tg (.Call (.Name "range" p) [a] [] pos) (NY ta):=by
 intro RC s Z H R I h;show Call_\jt I c hm boot_range (oV (thn (ha pos RC s Z H _ I h) λus s1 ⟨vs,H1,f,g,b⟩=>?_) d rfl);let#[j,e,b,i,q]:=b;subst e;cases g with
 |cons r l=>
  cases l;let#[t,1]:=r;show call_range_1 (Gu f () () b i ‹q›)
def MN(J:It)(g:TG)(tb:TS)(D:Ends)(W:Nat->Nat->St->Hp->Prop)(i m:Nat)(Z:St)(H:Hp)(N:St->Hp->Prop):Prop:=(∀Z' H',N Z' H'->∃a,a<m/\W (i+1) a Z' H')/\∀x H',J.yld i H x H'->g x Z H'\tb {D with nx:=N,ct:=N,bk:=D.nx}
def MP(g:TG)(tb:TS)(D:Ends)(Z:St)(J:It)(H1:Hp)(W:Nat->Nat->St->Hp->Prop):Prop:=(∃m,W 0 m Z H1)/\∀i m Z H,W i m Z H->(J.stop i H/\D.nx Z H)\/(J.go i H/\Exists\MN J g tb D W i m Z H)
def MO(g:TG)(tb:TS)(D:Ends)(Z:St):It->Hp->Prop:=λJ H1=>Exists\MP g tb D Z J H1
def tFor(wi:TI)(g:TG)(tb:TS):TS:=λD Z H=>wi Z H\MO g tb D Z
def lP(fp:List pR)(h:rq):List (pR×Obj):=fp.filterMap λb=>(h.get? b).map λo=>(b,o)
def jM{fp:List pR}{h:rq}{b:pR}{o:Obj}(a:b∈fp)(e:h.get? b*>o):(b,o)∈lP fp h:=wI.mpr #[b,a,by rw[e];rfl]
def Fm{fp:List pR}{h:rq}{p:pR×Obj}(a:p∈lP fp h):p.1∈fp/\h.get? p.1*>p.2:=by
 let#[b,c,e]:=wI.mp a;cases q:h.get? b with
 |none=>rw[q] at e;cases e
 |some o=>
  rw[q] at e;let d:(b,o)=p:=eg e;subst d;erw[c,q]
def Inv.pinned{fp:List pR}(I:Inv X RC Z H s)(hf:∀b∈fp,bY X RC H b)(f:∀b∈fp,∃o,s.heap.get? b*>o/\∀v,o.data≠.cell v):Inv X (RC++lP fp s.heap) Z H s:=
 I.pins_of λp g=>(bo.mp g).elim (λz=>I.pin p\fj _ z) λz=>by
  let#[a,e]:=Fm z;let#[h,i,j,_]:=hf p.1 a;let#[o,c,d]:=f p.1 a;rw[e] at c;cases c;erw[e,h,i,j,d]
def Inv.unpinned{RC pl:List (pR×Obj)}(I:Inv X (RC++pl) Z H s):Inv X RC Z H s:=I.pins_of λp a=>I.pin p\fj _ (d_ _ a)
def dC{wi:TI}{pos:Pos}(q:PassesOwn ⇑X X.A X.env X.xe)(M:X.calm=oD)(hi:PI X tg iter wi)(hg:PG X tg g)(a:PSs X body tb)
  (hs:∀x,foldedSetIterable iter X.env x=pure x:=by intro _;rfl):PS X (.For tg iter body [] pos) (tFor wi g tb):=by
 intro RC s Z H D I h;show wpAny_For (thn (hi RC s Z H _ I h) λv s1 h1=>thn h1 λam s2 h2=>?_) hs;let#[it,fp,O,J,H2,e,I2,T,ab,P,W,#[m0,w0],turn]:=h2;subst e;let C:∀{H':Hp},(∀b∈fp,H' b=n7)->∀b∈fp,bY X RC H' b:=λhn b a=>#[hn b a,(P b a).2];show codeAny_forLoop_any (λn s'=>∃i Z' H',Inv X RC Z' H' s'/\O i s'.heap/\(∀b∈fp,H' b=n7)/\W i n Z' H') ?_ m0 #[(0),Z,H2,I2,ab,λb a=>(P b a).1,w0];rintro n Q ⟨i,y,B,R,S,U,w3⟩;rcases turn i n y B w3 with ⟨stop,qn⟩|⟨go,N,hN,step⟩
 .refine mQ q (thn (T.done X rfl rfl rfl M i RC Q y B X.xe R (C U) S stop) λr s4 ⟨E,I4⟩=>?_);subst E;show ph #[y,B,I4,qn]
 show mQ q (thn (T.item X rfl rfl rfl M i RC Q y B X.xe R (C U) S go) λr s4 ⟨u,E,h4⟩=>?_);subst E;show mQ q (thn h4 λ_ Y ad=>?_);let#[x,H5,I5,r5,y5,K,ag]:=ad;let al:=I5.pinned (C ag) (T.obj>>K);show mQ q (thn (hg _ Y y H5 x u _ al r5\step x H5 y5) λ_ s6 ⟨Z6,H6,I6,q6⟩=>?_);show mQ q (thn (a _ s6 Z6 H6 _ I6 q6) λf L p=>?_);let again:∀{c:St}{j:Hp},Inv X (RC++lP fp Y.heap) c j L->N c j->∃m,m<n/\∃i Z' H',Inv X RC Z' H' L/\O i L.heap/\(∀b∈fp,H' b=n7)/\W i m Z' H':=λ{c j} l z=>by
  let#[m',hm,w7]:=hN c j z;erw[m',hm,i+1,c,j,l.unpinned,T.keep _ _ _ K λb a o e=>(l.pin (b,o)\fj _ (fj _\jM a e)).1,λb a=>?_,w7];let#[o,e,d]:=T.obj _ _ K b a;show (l.pin (b,o)\fj _ (fj _\jM a e)).2.1
 cases f with
 |next=>let#[c,j,l,z]:=p;show again l z
 |cont=>let#[c,j,l,z]:=p;show again l z
 |brk=>let#[c,j,l,p]:=p;erw[c,j,l.unpinned,p]
 |ret v=>let#[x7,c,j,l,r7,p]:=p;erw[x7,c,j,l.unpinned,r7,p]
end
def fq{g:TG}{tb:TS}{D:Ends}(Pv:Nat->St->Hp->Prop)(d:Pv 0 Z H)(f:∀i Z H,i<=↑xs->Pv i Z H->SqL K H a xs)
  (h:∀i x Z H,xs[i]?*>x->Pv i Z H->g x Z H λσ2 H2=>tb {D with nx:=Pv (i+1),ct:=Pv (i+1),bk:=D.nx} σ2 H2) (hd:∀Z H,Pv ↑xs Z H->D.nx Z H) :
  ∃W:Nat->Nat->St->Hp->Prop,(∃m,W 0 m Z H)/\∀i m Z H,W i m Z H->
   ((Itl K a).stop i H/\D.nx Z H)\/((Itl K a).go i H/\∃N:St->Hp->Prop,(∀Z' H',N Z' H'->∃b,b<m/\W (i+1) b Z' H')/\∀x H',(Itl K a).yld i H x H'->g x Z H' λσ2 H2=>tb {D with nx:=N,ct:=N,bk:=D.nx} σ2 H2):=by
 erw[λi m Z H=>m=↑xs-i/\i<=↑xs/\Pv i Z H,#[↑xs,∅,a_ _,d],?_];rintro i m Z H ⟨rfl,hi,p⟩;let q:=f i Z H hi p;by_cases c:i<↑xs
 .refine .inr #[#[xs,xs[i],q,by simp[c]],Pv (i+1),λZ' H' j=>#[↑xs-(i+1),(),1,c,j],λx H' y=>?_];let#[e,y]:=y;subst e;show h i x Z _ (y xs q) p
 let e:i=↑xs:=();subst e;show .inl #[#[xs,q,aq _],hd Z H p]
def Kc{g:TG}{tb:TS}{D:Ends}(Pv:Nat->St->Hp->Prop)(d:Pv 0 Z H)(f:∀i Z H,i<=↑xs->Pv i Z H->SqT K H a xs)
  (h:∀i x Z H,xs[i]?*>x->Pv i Z H->g x Z H λσ2 H2=>tb {D with nx:=Pv (i+1),ct:=Pv (i+1),bk:=D.nx} σ2 H2) (hd:∀Z H,Pv ↑xs Z H->D.nx Z H) :
  ∃W:Nat->Nat->St->Hp->Prop,(∃m,W 0 m Z H)/\∀i m Z H,W i m Z H->
   ((Itt K a).stop i H/\D.nx Z H)\/((Itt K a).go i H/\∃N:St->Hp->Prop,(∀Z' H',N Z' H'->∃b,b<m/\W (i+1) b Z' H')/\∀x H',(Itt K a).yld i H x H'->g x Z H' λσ2 H2=>tb {D with nx:=N,ct:=N,bk:=D.nx} σ2 H2):=by
 erw[λi m Z H=>m=↑xs-i/\i<=↑xs/\Pv i Z H,#[↑xs,∅,a_ _,d],?_];rintro i m Z H ⟨rfl,hi,p⟩;let q:=f i Z H hi p;by_cases c:i<↑xs
 .refine .inr #[#[xs,xs[i],q,by simp[c]],Pv (i+1),λZ' H' j=>#[↑xs-(i+1),(),1,c,j],λx H' y=>?_];let#[e,y]:=y;subst e;show h i x Z _ (y xs q) p
 let e:i=↑xs:=();subst e;show .inl #[#[xs,q,aq _],hd Z H p]
def ny{lo:Int}{n:Nat}{g:TG}{tb:TS}{D:Ends}(Pv:Nat->St->Hp->Prop)(c:Pv 0 Z H)
  (d:∀i Z H,i<n->Pv i Z H->g (.int (lo+i)) Z H λσ2 H2=>tb {D with nx:=Pv (i+1),ct:=Pv (i+1),bk:=D.nx} σ2 H2) (hd:∀Z H,Pv n Z H->D.nx Z H) :
  ∃W:Nat->Nat->St->Hp->Prop,(∃m,W 0 m Z H)/\∀i m Z H,W i m Z H->
   ((Itr lo n).stop i H/\D.nx Z H)\/((Itr lo n).go i H/\∃N:St->Hp->Prop,(∀Z' H',N Z' H'->∃b,b<m/\W (i+1) b Z' H')/\∀x H',(Itr lo n).yld i H x H'->g x Z H' λσ2 H2=>tb {D with nx:=N,ct:=N,bk:=D.nx} σ2 H2):=by
 erw[λi m Z H=>m=n-i/\i<=n/\Pv i Z H,#[n,∅,a_ _,c],?_];rintro i m Z H ⟨rfl,hi,p⟩;by_cases a:i<n
 .refine .inr #[a,Pv (i+1),λZ' H' f=>#[n-(i+1),(),1,a,f],λx H' y=>?_];let#[e,y]:=y;subst e y;show d i Z _ a p
 let e:i=n:=();subst e;show .inl #[aq _,hd Z H p]
end L2
namespace L2
open PySem PySem.Spec PyProof.Rows
abbrev R2:=V->V->Hp->VK->Prop
def OpR(X:Cx)(f:pC->pC->Sem pC)(r:R2):Prop:=
 ∀(RC:List (pR×Obj))(s:pS)(Z:St)(H:Hp)(x y:V)(v u:pC)(Q:VK),Inv X RC Z H s->aC x v->aC y u->r x y H Q->
  q7 ⇑X X.A (f v u) (EP X RC Z Q) X.xe s
def UnR(X:Cx)(f:pC->Sem pC)(r:V->Hp->VK->Prop):Prop:=
 ∀(RC:List (pR×Obj))(s:pS)(Z:St)(H:Hp)(x:V)(v:pC)(Q:VK),Inv X RC Z H s->aC x v->r x H Q->
  q7 ⇑X X.A (f v) (EP X RC Z Q) X.xe s
def c7(X:Cx)(f:pC)(r:List V->Hp->VK->Prop):Prop:=
 ∀(RC:List (pR×Obj))(s:pS)(Z:St)(H:Hp)(xs:List V)(us:List pC)(Q:VK),Inv X RC Z H s->Vals xs us->r xs H Q->
  q7 ⇑X X.A (call f us) (EP X RC Z Q) X.xe s
def TruR(X:Cx)(r:V->Hp->(Bool->Hp->Prop)->Prop):Prop:=
 ∀(RC:List (pR×Obj))(s:pS)(Z:St)(H:Hp)(x:V)(v:pC)(Q:Bool->Hp->Prop),Inv X RC Z H s->aC x v->r x H Q->
  q7 ⇑X X.A (truthy v) (TP X RC Z Q) X.xe s
def tOp2(r:R2)(x:V)(Q:VK):VK:=λy H2=>r x y H2 Q
def tOp1(r:R2)(tb:TE)(Z:St)(Q:VK):VK:=λx H1=>tb Z H1\tOp2 r x Q
def tOp(r:R2)(ta tb:TE):TE:=λZ H Q=>ta Z H\tOp1 r tb Z Q
def tUnK(r:V->Hp->VK->Prop)(Q:VK):VK:=λx H1=>r x H1 Q
def tUn(r:V->Hp->VK->Prop)(ta:TE):TE:=λZ H Q=>ta Z H\tUnK r Q
def rIB(C:Int->Int->Prop)(g:Int->Int->V)(x y:V)(H:Hp)(Q:VK)(i j:Int):Prop:=x=.int i/\y=.int j/\C i j/\Q (g i j) H
def rI(C:Int->Int->Prop)(g:Int->Int->V):R2:=λx y H Q=>Exists\Ex2 (rIB C g x y H Q)
def rI0B(g:Int->Int->V)(x y:V)(H:Hp)(Q:VK)(i j:Int):Prop:=x=.int i/\y=.int j/\Q (g i j) H
def rI0(g:Int->Int->V):R2:=λx y H Q=>Exists\Ex2 (rI0B g x y H Q)
def rUB(g:Int->V)(x:V)(H:Hp)(Q:VK)(i:Int):Prop:=x=.int i/\Q (g i) H
def rU(g:Int->V):V->Hp->VK->Prop:=λx H Q=>Exists\rUB g x H Q
section
variable {a b c:Expr}{ta tb tc:TE}{pos:Pos}
def wa(ha:PE X a ta)(d:PE X b tb){R:V->V->Hp->Prop}(I:Inv X RC Z H s)
  (h:ta Z H λx H1=>tb Z H1 λy H2=>R x y H2) {Q:pC->pS->Prop} {f:pC->pC->Sem pC}
  (hf:∀v u s2 x y H2,Inv X RC Z H2 s2->aC x v->aC y u->R x y H2->q7 ⇑X X.A (f v u) Q X.xe s2) :
  q7 ⇑X X.A (sZ a X.env) (λv s₁=>q7 ⇑X X.A (sZ b X.env) (λu s₂=>q7 ⇑X X.A (f v u) Q X.xe s₂) X.xe s₁) X.xe s:=by
 show thn (ha RC s Z H _ I h) λv s1 c=>?_;let#[x,H1,e,g,i]:=c;show thn (d RC s1 Z H1 _ e i) λu s2 c=>?_;let#[y,H2,j,l,m]:=c;show hf v u s2 x y H2 j g l m
def aH{op:Operator}{r:R2}(c:OpR X (binaryOp op) r)(ha:PE X a ta)(d:PE X b tb):PE X (.BinOp a op b pos) (tOp r ta tb):=by intro RC s Z H Q I h;show wpAny_BinOp (wa ha d I h λv u s2 x y H2 e f g q=>c RC s2 Z H2 x y v u Q e f g q)
def iN{op:UnaryOp}{r:V->Hp->VK->Prop}(b:UnR X (unaryOp op) r)(ha:PE X a ta):PE X (.UnaryOp op a pos) (tUn r ta):=by intro RC s Z H Q I h;show UnaryOp_ (thn (ha RC s Z H _ I h) λv s1 ⟨x,H1,c,d,e⟩=>b RC s1 Z H1 x v Q c d e)
def opI{f:pC->pC->Sem pC}{C:Int->Int->Prop}{g:Int->Int->Int}
  (rule:∀(i j:Int)(t u:Tok)(s:pS)(Q:pC->pS->Prop)(E:pC->pS->Prop),C i j->Q (.int (g i j) s.toks) {s with toks:=s.toks+1}->q7 ⇑X X.A (f (.int i t)\.int j u) Q E s) :
  OpR X f (rI C λi j=>.int\g i j):=by
 intro RC s Z H x y v u Q I a b h;let#[i,j,5,c,q]:=h;let#[t,1]:=a;let#[t',1]:=b;show rule i j t t' s _ _ c #[.int\g i j,H,I.tok _,#[2],q]
def opI0{f:pC->pC->Sem pC}{g:Int->Int->Int}
  (rule:∀(i j:Int)(t u:Tok)(s:pS)(Q:pC->pS->Prop)(E:pC->pS->Prop),Q (.int (g i j) s.toks) {s with toks:=s.toks+1}->q7 ⇑X X.A (f (.int i t)\.int j u) Q E s) :
  OpR X f (rI0 λi j=>.int\g i j):=by
 intro RC s Z H x y v u Q I a b h;let#[i,j,5,q]:=h;let#[t,1]:=a;let#[t',1]:=b;show rule i j t t' s _ _ #[.int\g i j,H,I.tok _,#[2],q]
def v_{f:pC->pC->Sem pC}{g:Int->Int->Bool}
  (rule:∀(i j:Int)(t u:Tok)(s:pS)(Q:pC->pS->Prop)(E:pC->pS->Prop),Q (.bool\g i j) s->q7 ⇑X X.A (f (.int i t)\.int j u) Q E s) :
  OpR X f (rI0 λi j=>.bl\g i j):=by
 intro RC s Z H x y v u Q I a b h;let#[i,j,5,q]:=h;let#[t,1]:=a;let#[t',1]:=b;show rule i j t t' s _ _ #[.bl\g i j,H,I,1,q]
def CPow(i j:Int):Prop:=0<=j/\j<=1000000/\i.natAbs<2 ^ 64
def CMul(i j:Int):Prop:=(-(2 ^ 64)<i/\i<2 ^ 64)\/(-(2 ^ 64)<j/\j<2 ^ 64)
def CMul.ok(h:CMul i j):IntMulOk i j:=by
 rcases h with ⟨h1,h2⟩|⟨h1,h2⟩
 .exact .of_left\intBits_le_64 h1 h2
 show .of_right\intBits_le_64 h1 h2
def dM:OpR X (binaryOp .Add) (rI0 λi j=>.int (i+j)):=opI0 λ_ _ _ _ _ _ _ q=>add_int q
def j3:OpR X (binaryOp .Sub) (rI0 λi j=>.int (i-j)):=opI0 λ_ _ _ _ _ _ _ q=>sub_int q
def jq:OpR X (binaryOp .Mult) (rI CMul λi j=>.int (i*j)):=opI λ_ _ _ _ _ _ _ a q=>mul_int q a.ok
def fV:OpR X (binaryOp .Mod) (rI (λ_ j=>0<j) λi j=>.int (i%j)):=opI λi j _ _ _ _ _ a q=>by
 let h1:(0:Int)<j:=a;show mod_int' () (by rw[Int.fmod_eq_emod_of_nonneg i ()];show q)
def qY:OpR X (binaryOp .Pow) (rI CPow λi j=>.int (i ^ j.toNat)):=opI λ_ _ _ _ _ _ _ a q=>pow_int_small a.1 a.2.1 a.2.2 q
def unI{f:pC->Sem pC}{g:Int->Int}
  (rule:∀(i:Int)(t:Tok)(s:pS)(Q:pC->pS->Prop)(E:pC->pS->Prop),Q (.int (g i) s.toks) {s with toks:=s.toks+1}->q7 ⇑X X.A (f\.int i t) Q E s) :
  UnR X f (rU λi=>.int\g i):=by
 intro RC s Z H x v Q I a h;let#[i,1,q]:=h;let#[t,1]:=a;show rule i t s _ _ #[.int\g i,H,I.tok _,#[2],q]
def iJ:UnR X (unaryOp .USub) (rU λi=>.int (-i)):=unI λ_ _ _ _ _ q=>neg_int q
end
def scal:V->V->Bool
 |.non,.non=>oD | .non,.int _=>oD | .int _,.non=>oD | .non,.bl _=>oD | .bl _,.non=>oD | .non,.str _=>oD | .str _,.non=>oD
 |.int _,.int _=>oD | .bl _,.bl _=>oD | .str _,.str _=>oD | .byt _,.byt _=>oD
 |.int _,.str _=>oD | .str _,.int _=>oD | .bl _,.str _=>oD | .str _,.bl _=>oD
 |_,_=>p6
def rEq:R2:=λx y H Q=>scal x y=oD/\Q (.bl (decide (x=y))) H
def rNe:R2:=λx y H Q=>scal x y=oD/\Q (.bl (!decide (x=y))) H
def AS{i j:Int}:decide (V.int i=V.int j)=(i==j):=by rw[eW];simp
def BI{i j:Bool}:decide (V.bl i=V.bl j)=(i==j):=by rw[eW];simp
def AR{i j:Str}:decide (V.str i=V.str j)=(i==j):=by rw[eW];simp
def AU{i j:Array UInt8}:decide (V.byt i=V.byt j)=(i.toList==j.toList):=by rw[eW];cases i;cases j;simp
section
variable {a b c:Expr}{ta tb tc:TE}{pos:Pos}
def cm{Q:VK}{k a:Bool}(I:Inv X RC Z H s)(q:Q (.bl k) H)(e:k=a):EP X RC Z Q (.bool a) s:=by subst e;erw[.bl k,H,I,1,q]
def cq:OpR X (sD .Eq) rEq:=by
 intro RC s Z H x y v u Q I c a h;let#[b,q]:=h;cases x with
 |non=>
  cases c;cases y with
  |non=>cases a;show QV (cm I q ∅)
  |bl j=>cases a;show QT (cm I q ∅)
  |int j=>let#[t',1]:=a;show QU (cm I q ∅)
  |str j=>let#[t',1]:=a;show QW (cm I q ∅)
  |_=>show absurd (show p6=oD from b) bG
 |bl i=>
  cases c;cases y with
  |non=>cases a;show QR (cm I q ∅)
  |bl j=>cases a;show eq_bool\cm I q BI
  |str j=>let#[t',1]:=a;show QI (cm I q ∅)
  |_=>show absurd (show p6=oD from b) bG
 |int i=>
  let#[t,1]:=c;cases y with
  |non=>cases a;show QS (cm I q ∅)
  |int j=>let#[t',1]:=a;show eq_int\cm I q AS
  |str j=>let#[t',1]:=a;show QJ (cm I q ∅)
  |_=>show absurd (show p6=oD from b) bG
 |str i=>
  let#[t,1]:=c;cases y with
  |non=>cases a;show QX (cm I q ∅)
  |bl j=>cases a;show QK (cm I q ∅)
  |int j=>let#[t',1]:=a;show QL (cm I q ∅)
  |str j=>let#[t',1]:=a;show eq_str\cm I q AR
  |_=>show absurd (show p6=oD from b) bG
 |byt i=>
  let#[t,1]:=c;cases y with
  |byt j=>let#[t',1]:=a;show W.eq_bytes\cm I q AU
  |_=>show absurd (show p6=oD from b) bG
 |_=>cases y<;>show absurd (show p6=oD from b) bG
def j8:OpR X (sD .NotEq) rNe:=by
 intro RC s Z H x y v u Q I c a h;let#[b,q]:=h;cases x with
 |non=>
  cases c;cases y with
  |non=>cases a;show Q2 (cm I q ∅)
  |bl j=>cases a;show Q0 (cm I q ∅)
  |int j=>let#[t',1]:=a;show Q1 (cm I q ∅)
  |str j=>let#[t',1]:=a;show Q3 (cm I q ∅)
  |_=>show absurd (show p6=oD from b) bG
 |bl i=>
  cases c;cases y with
  |non=>cases a;show QY (cm I q ∅)
  |bl j=>cases a;show ne_bool\cm I q (congrArg not BI)
  |str j=>let#[t',1]:=a;show QM (cm I q ∅)
  |_=>show absurd (show p6=oD from b) bG
 |int i=>
  let#[t,1]:=c;cases y with
  |non=>cases a;show QZ (cm I q ∅)
  |int j=>let#[t',1]:=a;show ne_int\cm I q (congrArg not AS)
  |str j=>let#[t',1]:=a;show QN (cm I q ∅)
  |_=>show absurd (show p6=oD from b) bG
 |str i=>
  let#[t,1]:=c;cases y with
  |non=>cases a;show Q4 (cm I q ∅)
  |bl j=>cases a;show QO (cm I q ∅)
  |int j=>let#[t',1]:=a;show QP (cm I q ∅)
  |str j=>let#[t',1]:=a;show ne_str\cm I q (congrArg not AR)
  |_=>show absurd (show p6=oD from b) bG
 |byt i=>
  let#[t,1]:=c;cases y with
  |byt j=>let#[t',1]:=a;show W.ne_bytes\cm I q (congrArg not AU)
  |_=>show absurd (show p6=oD from b) bG
 |_=>cases y<;>show absurd (show p6=oD from b) bG
def oq:OpR X (sD .Lt) (rI0 λi j=>.bl (decide (i<j))):=v_ λ_ _ _ _ _ _ _ q=>lt_int q
def rS:OpR X (sD .Gt) (rI0 λi j=>.bl (decide (j<i))):=v_ λ_ _ _ _ _ _ _ q=>gt_int q
def NJ:OpR X (sD .GtE) (rI0 λi j=>.bl (decide (j<=i))):=v_ λ_ _ _ _ _ _ _ q=>ge_int q
def JA:OpR X (sD .IsNot) (λx y H Q=>y=.non/\Q (.bl (!decide (x=.non))) H):=by
 intro RC s Z H x y v u Q I a b h;let#[1,q]:=h;cases b;show isnot_none_gen\cm I q ?_;cases x<;>first
  |(cases a;rfl)
  |(let#[t,1]:=a;rfl)
def nomark(b:ry){op:CmpOp}(h:op≠.In:=by decide)(h2:op≠.NotIn:=by decide):z4 op b=p6:=by
 let a:(op==CmpOp.In)=p6:=by cases op<;>first|rfl|show absurd rfl h
 let c:(op==CmpOp.NotIn)=p6:=by cases op<;>first|rfl|show absurd rfl h2
 cases b<;>simp[z4,a,c]
def e_{op:CmpOp}{r:R2}(c:OpR X (sD op) r)(ha:PE X a ta)(d:PE X b tb)(hm:z4 op b=p6):PE X (.Compare a [op] [b] pos) (tOp r ta tb):=by intro RC s Z H Q I h;show Qc (wa ha d I h λv u s2 x y H2 e f g q=>c RC s2 Z H2 x y v u Q e f g q) hm
def fM(t:TE):TT:=λZ H Q=>t Z H\tBK Q
def aQ{op:CmpOp}{r:R2}(d:OpR X (sD op) r)(ha:PE X a ta)(f:PE X b tb)(hm:z4 op b=p6):PT X (.Compare a [op] [b] pos) (fM\tOp r ta tb):=by
 intro RC s Z H Q I h;show Qk (thn (ha RC s Z H _ I h) λv s1 ⟨x,H1,g,i,j⟩=>thn (f RC s1 Z H1 _ g j) λu s2 ⟨y,H2,l,m,n⟩=>
  thn (d RC s2 Z H2 x y v u _ l i m n) λc A ⟨z,o,p,q,k,e,w⟩=>?_) hm
 subst e;cases q;show iB #[o,p,w]
def TruV(K:W.Frag)(x:V)(H:Hp)(k:Bool):Prop:=
 match x with
 |.non=>k=p6
 |.bl b=>k=b
 |.int i=>k=(i != 0)
 |.str y=>↑y<=qs/\k=((↑y:Int) != 0)
 |.byt y=>y.size<=qs/\k=((y.size:Int) != 0)
 |.ref p=>(∃xs,SqL K H p xs/\k=!xs.isEmpty)\/(∃xs,SqT K H p xs/\k=!xs.isEmpty)\/∃kvs,H p*>.dK kvs/\k=!kvs.isEmpty
 |_=>False
def EE{κ:Type}{kvs:List (κ×V)}{vs:List (κ×pC)}(r:KV kvs vs):(!vs.isEmpty)=!kvs.isEmpty:=by cases r<;>rfl
def xQ{a:List pC}(r:Vals xs a):(!a.toArray.isEmpty)=!xs.isEmpty:=by cases r<;>simp
def line63:(qs:Nat)<2 ^ 63:=by rw[cY];decide
def Kz:TruR X (λx H Q=>∃k,TruV [] x H k/\Q k H):=by
 intro RC s Z H x v Q I c h;let#[k,e,q]:=h;let j:=line63;let l:qs=16777216:=cY;cases x with
 |non=>
  cases c;let a:k=p6:=e;subst a;show truthy_none #[H,I,q]
 |bl b=>
  cases c;let a:k=b:=e;subst a;show iB #[H,I,q]
 |int i=>
  let#[t,1]:=c;let a:k=(i != 0):=e;subst a;show PySem.P.truthy_int #[H,I,q]
 |str y=>
  let#[t,1]:=c;let#[d,a]:↑y<=qs/\k=((↑y:Int) != 0):=e;subst a;show PySem.P.truthy_str () #[H,I.tok _,q]
 |byt y=>
  let#[t,1]:=c;let#[d,a]:y.size<=qs/\k=((y.size:Int) != 0):=e;subst a;show W.truthy_bytes () #[H,I.tok _,q]
 |ref p=>
  cases c;let a:(∃xs,SqL [] H p xs/\k=!xs.isEmpty)\/(∃xs,SqT [] H p xs/\k=!xs.isEmpty)\/∃kvs,H p*>.dK kvs/\k=!kvs.isEmpty:=e;rcases a with ⟨xs,hx,a⟩|⟨xs,hx,a⟩|⟨kvs,hx,a⟩
  .subst a;let#[f,r,pl,hz]:=I.list hx;let hlen:=↑r;show wpAny_truthy_list pl.isList (by simp only[bJ];lia) #[H,I.tok _,by rw[xQ r];show q]
  .subst a;let#[f,r,pl,hz]:=I.tuple hx;let hlen:=↑r;show truthy_tuple pl (by simp only[bJ];lia) #[H,I.tok _,by rw[xQ r];show q]
  subst a;let#[hz,g,vs,r,m]:↑kvs<=qs/\(p==tf)=p6/\∃vs,KV kvs vs/\s.heap.DictOf (dw X.prog X.w) p vs:=I.hok p _ hx;let hlen:↑kvs=↑vs:=oS r;show wpAny_truthy_dict g m () #[H,I.tok _,by rw[EE r];show q]
 |_=>show (show False from e).elim
def GI(ha:PE X a ta)(he:∀whole,isTrue a X.env whole=(do let v <-whole;standAt a.pos;holding [v]\truthy v)):
  PT X a (λZ H Q=>ta Z H λx H'=>∃k,TruV [] x H' k/\Q k H'):=by
 intro RC s Z H Q I h;show isTrue_plain (thn (ha RC s Z H _ I h) λv s1 ⟨x,H1,I1,r1,q1⟩=>Kz RC s1 Z H1 x v Q I1 r1 q1)\he _
def vals1{x:V}(r:Vals [x] us):∃u,us=[u]/\aC x u:=by
 cases r with
 |cons a b=>cases b;erw[2,a]
def vals2{x y:V}(r:Vals [x,y] us):∃u a,us=[u,a]/\aC x u/\aC y a:=by
 cases r with
 |cons b c=>
  cases c with
  |cons d e=>cases e;erw[9,b,d]
def ib:c7 X (.type "int") (λxs H Q=>(∃i,xs=[.int i]/\Q (.int i) H)\/∃k,xs=[.bl k]/\Q (.int (if k then 1 else 0)) H):=by
 intro RC s Z H xs us Q I r h;rcases h with ⟨i,rfl,q⟩|⟨k,rfl,q⟩
 .let#[u,1,t,1]:=vals1 r;show call_int_int #[.int i,H,I,#[2],q]
 let#[u,1,a]:=vals1 r;cases a;show call_int_bool #[.int (if k then 1 else 0),H,I.tok _,#[2],q]
end
end L2
namespace L2
open PySem PySem.Spec PyProof.Rows
structure kj(h:rq)(x dx C:pR)(mA:Str->Option pC):Prop where
 obj:h.get? x*>W.instObj C dx
 ns:h.Ns1 dx mA
 ne:dx≠x
def t_{h:rq}{dx:pR}{mA:Str->Option pC}(n:h.Ns1 dx mA):∃od,h.get? dx*>od/\∀name,W.lookIn name od*>mA name:=by
 let#[o,es,ep,b,hd,c,_,hm]:=n;erw[o,b,λname=>?_];let e:=hm name;unfold nsFind findBy at e;rw[<-Array.find?_toList] at e;unfold W.lookIn;rw[hd];dsimp only
 split
 .rename_i y q;rw[q] at e;show congrArg oy e
 rename_i q;rw[q] at e;let a:es.toList.any (·.refKey)=p6:=by rw[OE];intro y d;let#[z,t,f]:=c y\Array.mem_toList_iff.mp d;simp[DictEntry.refKey,f]
 let g:¬es.toList.any (·.refKey)=oD:=by rw[a];show bG
 rw[Rx g];show congrArg oy e
def kj.look{mA:Str->Option pC}(I:kj h x dx C mA):∃od,W.InstAt h x (W.instObj C dx) C (oy od)/\∀name,W.lookIn name od*>mA name:=
 let ⟨od,a,b⟩:=t_ I.ns
 #[od,#[I.obj,5,a],b]
section
variable {prog:Program}{x dx C f:Addr}{mA:Str->Option Value}{name:Str}{v:Value}
def Kb{expr:Bool}{Q:pC->pS->Prop}(X:K.In s.heap)(I:kj s.heap x dx C mA)(a:W.plainGet K C name=oD)(b:W.hasDictIn K C=oD)
  (ha:W.findIn K (.ref C) name*>n7) (c:mA name*>v) (d:W.handedIn v=oD) (h:Q v {s with toks:=s.toks+1}) :
  q7 (rb prog w) A (getAttr (.ref x) name expr) Q E s:=by
 let#[od,J,e]:=I.look;show W.get_value X J (C6 a).1 (W.findObj_own b ha rfl (by rw[e,c])) d h
def HS{pl:Sem Bool}{Q:pC×List pC->pS->Prop}(X:K.In s.heap)(I:kj s.heap x dx C mA)(a:W.plainGet K C name=oD)
  (hf:W.findIn K (.ref C) name*>oy\.ref f) (b:W.isFn K (.ref f)=oD) (c:mA name=n7) (h:Q (.ref f,[.ref x]) s) :
  q7 (rb prog w) A (getMethod (.ref x) name pl) Q E s:=by
 let#[od,J,d]:=I.look;show W.method_fn X J (C6 a).1 (C6 a).2 hf (beq_iff_eq.mp b) (by change (W.lookIn name od).map (·.isSome)*>p6;rw[d,c];rfl) h
def IU{ns:List Str}{Q:Unit->pS->Prop}(X:K.In s.heap)(I:kj s.heap x dx C mA)
  (e:W.findIn K (.ref C) ↑65*>oy\.builtin ↑35) (f:W.plainOver K C=oD) (g:W.takerIn K C name*>n7) (i:W.hasDictIn K C=oD)
  (hw:PySem.Within mA ns) (hsz:↑ns<=qs)
  (h:∀h',kj h' x dx C (λy=>if y=name then oy v else mA y)->Heap.SameBut dx s.heap h'->Q .unit {s with heap:=h',toks:=s.toks+2}) :
  q7 (rb prog w) A (setAttr (.ref x) name v) Q E s:=by
 let#[od,J,p]:=I.look;show PH X J e (W.osa_open (s:={s with toks:=s.toks+1}) (r:=n7) X J f g λb=>?_);let#[cd,j,l]:=C0 i;let hx:s.heap.get? x*>#[.ref C,oy dx,.plain,(tA [])]:=I.obj;show aa\ai (aa\aa (Du hx\aa (Re (s:={s with toks:=s.toks+1}) (C4 X j) ?_)));rw[l];show ai (a:=oy dx)\aa (ai\aa ?_);show wpAny_nsSet1 (s:={s with toks:=s.toks+1}) I.ns λh' c d=>?_;let#[q,u,z,m,n,o]:=c.count\Rf name v hw;show aa\Ql m (by rw[n];show P4\cR o (by rw[cv];lia)) ?_;show ai\h _ #[(d.2 _\aA I.ne)<*I.obj,c,I.ne] d
def HG{R:Result->pS->Prop}{vs:List pC}{kw:List (Str×pC)}(X:K.In s.heap)(hm:W.makesIn K C=oD)
  (hi:W.findIn K (.ref C) ↑14*>oy\.ref f) (hf:W.typeIn K (.ref f)*>.type "function")
  (h:vc (rb prog w) (A.under\.builtin ↑26 #[.ref C::vs,kw]) (.call (.ref f) #[.ref (↥s+1)::vs,kw]) (W.InitBack (↥s+1) R)
   {s with heap:=(s.heap.push W.emptyDict).push\W.instObj C ↥s}) :
  vc (rb prog w) A (.call (.ref C) #[vs,kw]) R s:=by
 let#[a,g,d,t,os]:=s;show W.make_core (W.makes_of X hm) (C5 X hi) (λself=>Py X self hf) (.inl rfl) h
end
def eU(f:Str)(v:V):List (Str×V)->List (Str×V)
 | []=>[(f,v)]
 |(g,x)::r=>if g=f then (g,v)::r else (g,x)::eU f v r
def xD(f g:Str)(v:V):∀fs:List (Str×V),(eU f v fs).lookup g=if g=f then oy v else fs.lookup g
 | []=>by
  change List.lookup g [(f,v)]=_;by_cases h:g=f
  .let a:(g==f)=oD:=beq_iff_eq.mpr h;simp only[List.lookup,a,Ry h]
  let a:(g==f)=p6:=beq_eq_false_iff_ne.mpr h;simp only[List.lookup,a,Rx h]
 |(k,x)::r=>by
  let c:=xD f g v r;rw[show eU f v ((k,x)::r)=(if k=f then (k,v)::r else (k,x)::eU f v r) from rfl];by_cases b:k=f
  .rw[Ry b];by_cases h:g=k
   .let a:(g==k)=oD:=beq_iff_eq.mpr h;simp only[List.lookup,a,Ry\h.trans b]
   let a:(g==k)=p6:=beq_eq_false_iff_ne.mpr h;simp only[List.lookup,a,Rx λe:g=f=>h\e.trans b.symm]
  rw[Rx b];by_cases h:g=k
  .let a:(g==k)=oD:=beq_iff_eq.mpr h;simp only[List.lookup,a,Rx λe:g=f=>b\h.symm.trans e]
  let a:(g==k)=p6:=beq_eq_false_iff_ne.mpr h;simp only[List.lookup,a];show c
def ud(f:Str)(v:V):∀fs:List (Str×V),f∈(eU f v fs).map (·.1)/\∀g,g∈fs.map (·.1)->g∈(eU f v fs).map (·.1)
 | []=>#[by simp[eU],λg h=>by simp at h]
 |(k,x)::r=>by
  let#[i1,i2]:=ud f v r;rw[show eU f v ((k,x)::r)=(if k=f then (k,v)::r else (k,x)::eU f v r) from rfl];by_cases a:k=f
  .rw[Ry a];subst a;erw[∅,λg h=>‹h›]
  rw[Rx a];erw[?_,λg h=>?_]
  .rw[br];show de _ i1
  rw[br] at h |-;rcases aT.mp h with e|e
  .exact aT.mpr\.inl e
  show de _\i2 g e
def xE(f:Str)(v:V):∀fs:List (Str×V),↑(eU f v fs)<=↑fs+1
 | []=>by simp[eU]
 |(k,x)::r=>by
  let b:=xE f v r;rw[show eU f v ((k,x)::r)=(if k=f then (k,v)::r else (k,x)::eU f v r) from rfl];by_cases a:k=f
  .rw[Ry a,cv,cv];lia
  rw[Rx a,cv,cv];lia
def dN.some_of{v:V}{o:Option pC}(r:dN (oy v) o):∃u,o*>u/\aC v u:=by
 cases o with
 |none=>show (show False from r).elim
 |some u=>erw[u,1,r]
def dN.none_of{o:Option pC}(r:dN n7 o):o=n7:=by
 cases o with
 |none=>rfl
 |some u=>show (show False from r).elim
def yP(r:aC v u):W.handedIn u=oD:=by
 cases v with
 |non=>cases (show u=Value.none from r);rfl
 |bl b=>cases (show u=Value.bool b from r);rfl
 |int i=>let#[t,e]:=(show ∃t,u=Value.int i t from r);cases e;rfl
 |str x=>let#[t,e]:=(show ∃t,u=Value.str x t from r);cases e;rfl
 |byt b=>let#[t,e]:=(show ∃t,u=Value.bytes b t from r);cases e;rfl
 |flt b=>let#[t,e]:=(show ∃t,u=Value.float b t from r);cases e;rfl
 |ref a=>cases (show u=Value.ref a from r);rfl
 |ty n=>cases (show u=Value.type n from r);rfl
section
variable {h h':Heap}{a C dx:Addr}{fs fs':List (Str×V)}
def qw(hok:HOk P w H h)(e:H a*>.ins C dx fs):∃mA,kj h a dx C mA/\(∀f,dN (fs.lookup f)\mA f)/\PySem.Within mA (fs.map (·.1))/\↑fs<=1000/\H dx*>.own a:=by let#[d,z,ne,ob,mA,n,r,q]:=(show bh P w H h a (.ins C dx fs) from hok a _ e);erw[mA,#[ob,n,ne],r,q,z,d]
end
structure Cls(K:W.Frag)(C:pR):Prop where
 pg:W.plainGet K C Str.empty=oD
 hd:W.hasDictIn K C=oD
 po:W.plainOver K C=oD
 sa:W.findIn K (.ref C) ↑65*>oy\.builtin ↑35
def Cls.get(c:Cls K C)(f:Str):W.plainGet K C f=oD:=c.pg
def ig(K:W.Frag)(C:pR)(f:Str):Prop:=W.findIn K (.ref C) f*>n7
def ig.taker(n:ig K C f):W.takerIn K C f*>n7:=by unfold W.takerIn;rw[show W.findIn K (.ref C) f*>n7 from n];rfl
structure Meth(K:W.Frag)(C:pR)(m:Str)(f:pR):Prop where
 at_:W.findIn K (.ref C) m*>oy\.ref f
 fn:W.isFn K (.ref f)=oD
 kp:W.keepIn K (.ref f)=oD
section
variable {a C dx:Addr}{fs:List (Str×V)}{f:Str}{v:V}
def EG{b:Bool}{Q:pC->pS->Prop}(I:Inv X RC Z H s)(e:H a*>.ins C dx fs)(c:Cls X.K C)(n:ig X.K C f)(l:fs.lookup f*>v)
  (h:∀u s',Inv X RC Z H s'->aC v u->Q u s'):q7 ⇑X A (getAttr (.ref a) f b) Q E s:=by
 let#[mA,O,r,8]:=qw I.hok e;let#[u,g,d]:=dN.some_of (v:=v) (o:=mA f) (by rw[<-l];show r f);show Kb I.kIn O (c.get f) c.hd n g (yP d)\h u _ (I.tok _) d
def xR{pl:Sem Bool}{Q:pC×List pC->pS->Prop}(I:Inv X RC Z H s)(e:H a*>.ins C dx fs)(c:Cls X.K C)(k:Meth X.K C m g)(l:fs.lookup m=n7)
  (h:Q (.ref g,[.ref a]) s):q7 ⇑X A (getMethod (.ref a) m pl) Q E s:=by
 let#[mA,O,r,8]:=qw I.hok e;let b:mA m=n7:=dN.none_of (by rw[<-l];show r m);show HS I.kIn O (c.get m) k.at_ k.fn b h
def Ep{Q:Unit->pS->Prop}(I:Inv X RC Z H s)(e:H a*>.ins C dx fs)(c:Cls X.K C)(n:ig X.K C f)(v:↑fs<1000)(j:aC y u)
  (h:∀s',Inv X RC Z (upd H a\.ins C dx (eU f y fs)) s'->Q .unit s'):q7 ⇑X A (setAttr (.ref a) f u) Q E s:=by
 let#[mA,O,r,wi,_,i]:=qw I.hok e;let hz:↑(fs.map (·.1))<=sizeLine:=by rw[av,cY];lia
 show IU I.kIn O c.sa c.po n.taker c.hd wi hz λh' d sb=>h _ ?_;let hd:∃o,h'.get? dx*>o:=let ⟨o,_,_,l,_⟩:=d.ns;#[o,l];show I.write (x:=a) (e:=dx) (by rw[e];show True.intro) (.inr i) (λb q m z=>(sb.2 b m)<*z) hd ?_;erw[by rw[ar O.ne];show i,?_,O.ne,d.obj,_,d.ns,λg=>?_,λg p=>?_]
 .have:=xE f y fs;lia
 .change dN ((eU f y fs).lookup g) (if g=f then oy u else mA g);rw[xD];by_cases q:g=f
  .rw[Ry q,Ry q];show j
  rw[Rx q,Rx q];show r g
 by_cases q:g=f
 .rw[q];show (ud f y fs).1
 show (ud f y fs).2 g (wi g λz=>p ?_);change (if g=f then oy u else mA g)=n7;rw[Rx q];show z
def Inv.made(I:Inv X RC Z H s):Inv X RC Z (upd (upd H ↥s\.own (↥s+1)) (↥s+1)\.ins C ↥s [])
  {s with heap:=(s.heap.push W.emptyDict).push\W.instObj C ↥s}:=by
 let c:(s.heap.push W.emptyDict).get? ↥s*>W.emptyDict:=bI s.heap rfl;let d:((s.heap.push W.emptyDict).push\W.instObj C ↥s).get? (↥s+1)*>W.instObj C ↥s:=by
  have:=bI (s.heap.push W.emptyDict) (o:=W.instObj C ↥s) rfl
  rwa [km] at this
 let f:(s.heap.push W.emptyDict).Ns ↥s (λ_=>n7):=#[W.emptyDict,(tA []),_,c,1,(λe he=>absurd he ∅),λ_=>rfl];let g:=I.laid (a:=↥s) (o:=.own (↥s+1)) (h':=s.heap.push W.emptyDict) (t':=s.toks) (λb u q=>aO _ q) (aq _) #[_,c];show g.laid (a:=↥s+1) (o:=.ins C ↥s []) (t':=s.toks) (λb u q=>aO _ q) (wQ\km _ _) ?_;let ne:↥s≠↥s+1:=bB\hV _;erw[by rw[ar ne,aI],a_ _,ne,d,λ_=>n7,(Oz f).at λo q=>aO _ q,λ_=>True.intro,λy h=>absurd rfl h]
def AZ{prog:rp}{env:Env}{e:ry}{f:Str}{pos:Pos}{Q:pC->pS->Prop}(a:CM e f env (sZ e env)=sZ e env)
  (h:q7 (rb prog w) A (sZ e env) (λo s₁=>q7 (rb prog w) A (getAttr o f oD) Q E s₁) E s):q7 (rb prog w) A (sZ (.Attribute e f pos) env) Q E s:=
 Attribute_any_ h (by rw[arm_eval_Attribute,a])
end
def tFld(K:W.Frag)(ta:TE)(f:Str):TE:=λZ H Q=>ta Z H λx H1=>∃a C dx fs v,x=.ref a/\H1 a*>.ins C dx fs/\Cls K C/\ig K C f/\fs.lookup f*>v/\Q v H1
def sFld(K:W.Frag)(ta tv:TE)(f:Str):TS:=λD Z H=>tv Z H λy H1=>ta Z H1 λx H2=>∃a C dx fs,x=.ref a/\H2 a*>.ins C dx fs/\Cls K C/\ig K C f/\↑fs<1000/\
 D.nx Z (upd H2 a\.ins C dx (eU f y fs))
section
variable {o e value:Expr}{f:Str}{pos pos' tpos:Pos}{ta tv:TE}
def lR(he:PE X e ta)(b:CM e f X.env (sZ e X.env)=sZ e X.env):PE X (.Attribute e f pos) (tFld X.K ta f):=by intro RC s Z H Q I h;show AZ b (thn (he RC s Z H _ I h) λu s1 d=>?_);let#[x,H1,g,i,a,C,dx,fs,v,ex,j,c,n,l,q]:=d;subst ex;obtain rfl:u=Value.ref a:=i;show EG g j c n l λp s2 m o=>#[v,H1,m,o,q]
def qX(ha:PE X o ta)(d:PE X value tv)(e:swapsWith value (oy\.Attribute o f pos') pos.line X.env=pure p6):PS X (.Assign [.Attribute o f pos'] value pos) (sFld X.K ta tv f):=by intro RC s Z H D I h;show P5 (thn (d RC s Z H _ I h) λu s1 b=>?_) e;let#[y,H1,g,i,q]:=b;show thn (ha RC s1 Z H1 _ g q) λov s2 b=>?_;let#[x,H2,j,m,a,C,dx,fs,ex,p,c,n,l,r]:=b;subst ex;obtain rfl:ov=Value.ref a:=m;show Ep j p c n l i λw v=>#[Z,_,v,r]
end
section
variable {Q:Value->Shared->Prop}{c:Value}{b:Bool}
inductive fP (K:W.Frag) (H:Hp):V->pC->Prop where
 |non:fP K H .non\.type "NoneType"
 |bl (x:Bool):fP K H (.bl x)\.type "bool"
 |int (i:Int):fP K H (.int i)\.type "int"
 |str (x:Str):fP K H (.str x)\.type "str"
 |flt (x:UInt64):fP K H (.flt x)\.type "float"
 |lst {a:pR} {xs:List V} (e:H a*>.lst xs):fP K H (.ref a)\.type ↑28
 |frz {a:pR} {o:Obj} {xs:List V} (e:H a*>.frz o\.lst xs):fP K H (.ref a)\.type ↑28
 |tup {a:pR} {xs:List V} (e:H a*>.tup xs):fP K H (.ref a)\.type ↑20
 |dK {a:pR} {kvs:List (Key×V)} (e:H a*>.dK kvs):fP K H (.ref a)\.type ↑69
 |dT {a:pR} {kvs:List (List Key×V)} (e:H a*>.dT kvs):fP K H (.ref a)\.type ↑69
 |ins {a C dx:pR} {fs:List (Str×V)} (e:H a*>.ins C dx fs) (cl:Cls K C) (ha:W.findIn K (.ref C) ↑66*>oy\.builtin ↑13)
   (hn:W.specialIn K (.builtin ↑13) "__get__"*>oy\.builtin ↑27) (htk:W.takesIn K (.builtin ↑13)*>oD)
   (hm:W.mroIn K C (.type ↑87)*>oD):fP K H (.ref a)\.ref C
def Fx(I:Inv X RC Z H s)(d:aC x u)(ty:fP X.K H x t)(e:W.kitOne X.K t c*>b)(h:∀tk,Q (.bool b) {s with toks:=tk}):
  q7 ⇑X A (call (.builtin ↑97) [u,c]) Q E s:=by
 cases ty with
 |non=>cases (show u=Value.none from d);show hX W.kitx_none I.kIn True.intro e (λz=>nomatch z) h
 |bl y=>cases (show u=Value.bool y from d);show hX W.kitx_bool I.kIn True.intro e (λz=>nomatch z) h
 |int i=>let#[t,q]:=(show ∃t,u=Value.int i t from d);cases q;show hX W.kitx_int I.kIn True.intro e (λz=>nomatch z) h
 |str y=>let#[t,q]:=(show ∃t,u=Value.str y t from d);cases q;show hX W.kitx_str I.kIn True.intro e (λz=>nomatch z) h
 |flt y=>let#[t,q]:=(show ∃t,u=Value.float y t from d);cases q;show hX W.kitx_float I.kIn True.intro e (λz=>nomatch z) h
 | @lst a xs f=>
  cases (show u=Value.ref a from d);let#[0,n,_,h1]:=(show bh X.prog X.w H s.heap a (.lst xs) from I.hok a _ f);show hX PD I.kIn #[_,h1,1] e (λz=>nomatch z) h
 | @frz a ob xs f=>
  cases (show u=Value.ref a from d);let#[8,n,_,h1]:=(show bh X.prog X.w H s.heap a (.frz ob\.lst xs) from I.hok a _ f);show hX PD I.kIn #[_,h1,1] e (λz=>nomatch z) h
 | @tup a xs f=>
  cases (show u=Value.ref a from d);let#[8,p]:=(show bh X.prog X.w H s.heap a (.tup xs) from I.hok a _ f);let#[o,h1,h2,_]:=p;show hX W.kitx_tuple I.kIn #[o,h1,h2] e (λz=>nomatch z) h
 | @dK a kvs f=>
  cases (show u=Value.ref a from d);let#[0,vs,_,p]:=(show bh X.prog X.w H s.heap a (.dK kvs) from I.hok a _ f);let#[o,es,ep,h1,h2,_]:=p;show hX PB I.kIn #[o,h1,h2.1] e (λz=>nomatch z) h
 | @dT a kvs f=>
  cases (show u=Value.ref a from d);let#[0,xs,_,o,es,ep,h1,h2,_]:=(show bh X.prog X.w H s.heap a (.dT kvs) from I.hok a _ f);show hX PB I.kIn #[o,h1,h2.1] e (λz=>nomatch z) h
 | @ins a C dx fs f cl ha g j hm=>
  cases (show u=Value.ref a from d);let#[mA,O,_]:=qw I.hok f;let#[od,J,_]:=O.look;show hX (W.kitx_own (cl.get _) cl.hd ha g j hm) I.kIn J e (λz=>nomatch z) h
end
end L2
namespace L2
open PySem PySem.Spec PyProof.Rows
structure Room(k:Nat)(A:z3):Prop where
 hd:A.handled=n7
 dp:A.depth+3*k+5<recursionLimit
 un:A.units+16*k+200<vk
 gu:A.guards*>[]
def Room.mono{j:Nat}(r:Room k A)(h:j<=k):Room j A:=#[r.hd,by have:=r.dp;lia,by have:=r.un;lia,r.gu]
def Room.deeper{k:Nat}(r:Room (k+1) A)(env:Env):Room k (A.deeper env):=
 #[r.hd,by have:=r.dp;change A.depth+1+3*k+5<_;lia,by have:=r.un;change A.units+3+16*k+200<_;lia,r.gu]
def xO{C:pR}{kw:List (Str×pC)}:(A.under\.builtin ↑26 #[.ref C::us,kw]).depth=A.depth+1:=by first|rfl|simp[Around.under,Code.weight,Code.isCreation,Code.isGuard,Code.isCaller,Code.frames,Code.isFrame,guardIds]
def xN{C:pR}{kw:List (Str×pC)}:(A.under\.builtin ↑26 #[.ref C::us,kw]).units=A.units+1:=by first|rfl|simp[Around.under,Code.cUnits,Code.frames,Code.isFrame]
def xC{C:pR}{kw:List (Str×pC)}(h:A.guards*>[]):(A.under\.builtin ↑26 #[.ref C::us,kw]).guards*>[]:=by first|exact h|simp[Around.under,Code.isGuard,guardIds,h]
def Room.make{k:Nat}(r:Room (k+1) A)(C:pR)(us:List pC)(kw:List (Str×pC)):Room k (A.under\.builtin ↑26 #[.ref C::us,kw]):=
 #[r.hd,by have:=r.dp;rw[xO];lia,by have:=r.un;rw[xN];lia,xC r.gu]
def Room.depth(r:Room k A):A.depth<recursionLimit:=by have:=r.dp;lia
def Room.units(r:Room k A):A.units+64<cLine:=by have:=r.un;lia
def Room.units0(r:Room k A):A.units<cLine:=by have:=r.un;lia
def dH:TA:=λ_ H Q=>Q [] H
def KQ(x:V)(Q:List V->Hp->Prop):List V->Hp->Prop:=λxs H2=>Q (x::xs) H2
def KR(tr:TA)(Z:St)(Q:List V->Hp->Prop):VK:=λx H1=>tr Z H1\KQ x Q
def ck(ta:TE)(tr:TA):TA:=λZ H Q=>ta Z H\KR tr Z Q
section
variable {e:Expr}{es:List Expr}{te:TE}{t:TA}{pos:Pos}
def fB:PA X [] dH:=λ_ _ _ _ H Q I h=>sO #[[],H,I,.nil,h]
def ae(ha:PE X e te)(a:PA X es t)(b:r6 (e::es) X.env=(p6,sZ e X.env)::r6 es X.env:=by rfl):PA X (e::es) (ck te t):=by intro pos RC s Z H Q I h;rw[b];change q7 _ _ (spliced ((p6,sZ e X.env)::tD pos\r6 es X.env)) _ _ s;show oI (thn (ha RC s Z H _ I h) λu s1 c=>?_);let#[x,H1,d,f,g]:=c;show thn (a pos RC s1 Z H1 _ d g) λus s2 ⟨xs,H2,i,j,l⟩=>#[x::xs,H2,i,.cons f j,l]
def pa1{e:ry}{te:TE}(ha:PE X e te)(a:r6 [e] X.env=(p6,sZ e X.env)::r6 [] X.env:=by rfl):PA X [e] (ck te dH):=ae ha fB a
def Mz(Q:VK):List V->Hp->Prop:=λxs H1=>↑xs<=qs/\gX H1 (.tup xs) Q
def oz(t:TA):TE:=λZ H Q=>t Z H\Mz Q
def ML(Q:VK):List V->Hp->Prop:=λxs H1=>↑xs<=qs/\gX H1 (.lst xs) Q
def si(t:TA):TE:=λZ H Q=>t Z H\ML Q
def aD{x1}(h:PA X es t):PE X (.Tuple es x1 pos) (oz t):=by intro RC s Z H Q I c;show wpAny_Tuple_spliced (thn (h pos RC s Z H _ I c) λus s1 ⟨xs,H1,a,r,z,q⟩=>#[by rw[<-↑r];show z,?_]);let hf:H1 ↥s1=n7:=a.hok.fresh\aq _;erw[.ref ↥s1,upd H1 ↥s1\.tup xs,a.laid (t':=s1.toks) (λb u e=>aO _ e) (aq _) ?_,1,q.at hf];erw[#[z,_,bI _ rfl,1],us,r,#[_,bI _ rfl,7]]
def bO(h:PA X es t):PE X (.List es pos) (si t):=by intro RC s Z H Q I c;show wpAny_List_spliced (thn (h pos RC s Z H _ I c) λus s1 ⟨xs,H1,a,r,z,q⟩=>#[by rw[<-↑r];show z,?_]);let hf:H1 ↥s1=n7:=a.hok.fresh\aq _;erw[.ref ↥s1,upd H1 ↥s1\.lst xs,a.laid (t':=s1.toks) (λb u e=>aO _ e) (aq _) ?_,1,q.at hf];erw[z,us,(0),r,bI _ rfl]
end
abbrev Sp:=List V->Hp->VK->XK->Prop
abbrev CXT:=List Env->Hp->pS->XK->pC->pS->Prop
structure fZ(P:rp)(w:sf)(K:W.Frag)(mg:Str->Option pC)(base:rq)(A:z3)(outer:List Env)(s:pS)(H:Hp):Prop where
 frames:A.frames*>outer
 mod:Mod K mg base
 bs:∀b o,base.get? b*>o->s.heap.get? b*>o/\H b=n7
 bsz:base.objs.size<=↥s
 funs:s.heap.FunFrames base outer
 frf:∀b∈frs outer,H b=n7
 hok:HOk P w H s.heap
 bare:AllBare s.gens
def CE(outer:List Env)(P:rp)(w:sf)(H:Hp)(s:pS)(Q:VK)(u:pC)(s':pS):Prop:=
 ∃v H',s'.os=s.os/\AllBare s'.gens/\Un (frs outer) [] H H' s.heap s'.heap/\HOk P w H' s'.heap/\aC v u/\Q v H'
def CR(CX:CXT)(outer:List Env)(P:rp)(w:sf)(H:Hp)(s:pS)(Q:VK)(E:XK)(r:Result)(s':pS):Prop:=
 match r with
 |.ok (.ret u)=>CE outer P w H s Q u s'
 |.ok _=>False
 |.error e=>CX outer H s E e s'
structure aj(P:rp)(w:sf)(K:W.Frag)(mg:Str->Option pC)(base:rq)(CX:CXT)(k:Nat)(f:pR)(fd:ro)(ps:List Str)(sp:Sp):Prop where
 len:∀vs H Q E,sp vs H Q E->↑vs=↑ps
 run:∀(A:z3)(outer:List Env)(s:pS)(H:Hp)(args:Args)(us:List pC)(vs:List V)(Q:VK)(E:XK),Room k A->!fZ A outer s H->BindsTo s fd args (ps.zip us)->Vals vs us->sp vs H Q E->
  vc (rb P w) A (.call (.ref f) args) (CR CX outer P w H s Q E) s
def aj.mono{CX:CXT}{j k:Nat}{f:pR}{ps:List Str}{sp:Sp}(F:!aj CX j f fd ps sp)(h:j<=k):
  !aj CX k f fd ps sp:=#[F.len,λA outer s H args us vs Q E a=>F.run A outer s H args us vs Q E\a.mono h]
def fZ.make{outer:List Env}(e:!fZ A outer s H)(C:pR)(us:List pC)(kw:List (Str×pC)):
  !fZ (A.under\.builtin ↑26 #[.ref C::us,kw]) outer s H:=#[by first|show e.frames|(simpa [Around.under,Code.envs,Code.isFrame,pushEnvs] using e.frames),e.mod,e.bs,e.bsz,e.funs,e.frf,e.hok,e.bare]
section
variable {s s':Shared}
def Inv.env0(I:Inv X RC Z H s):fZ X.prog X.w X.K X.mg X.base X.A X.stack s H:=
 #[I.ok.frames,I.ok.mod,I.bs,cR I.ok.bsz I.sz,I.stack,I.stkFree,I.hok,I.bare]
def Inv.after(I:Inv X RC Z H s)(h:CE X.stack X.prog X.w H s Q u s'):EP X RC Z Q u s':=by let#[v,H',os,bare,un,hok,r,q]:=h;let#[a,g,d,t,c]:=s';obtain rfl:c=s.os:=os;erw[v,H',I.call (h':=a) (g':=g) (d':=d) (t':=t) (ch:=[]) un hok bare λb z=>absurd z ∅,r,q]
end
def KU(sp:Sp)(dvs:List V)(E:XK)(Q:VK):List V->Hp->Prop:=λvs H1=>sp (vs++dvs) H1 Q E
def rH(sp:Sp)(dvs:List V)(E:XK)(t:TA):TE:=λZ H Q=>t Z H\KU sp dvs E Q
def BU(C:pR)(m:Str)(sp:Sp)(dvs:List V)(E:XK)(ta:TE)(t:TA):TE:=λZ H Q=>ta Z H λx H1=>∃a dx fs,x=.ref a/\H1 a*>.ins C dx fs/\fs.lookup m=n7/\
 t Z H1 λvs H2=>sp (x::(vs++dvs)) H2 Q E
def MJ(C:pR)(sp:Sp)(dvs:List V)(E:XK)(t:TA):TE:=λZ H Q=>t Z H λvs H1=>∀x dx,H1 x=n7->H1 dx=n7->dx≠x->
 sp (.ref x::(vs++dvs)) (upd (upd H1 dx\.own x) x\.ins C dx []) (λv H2=>v=.non/\Q (.ref x) H2) E
def Binds(K:W.Frag)(fd:ro)(ps:List Str)(ds:List pC):Prop:=
 ∀(s:pS)(us:List pC),K.In s.heap->↑(us++ds)=↑ps->BindsTo s fd #[us,[]]\ps.zip (us++ds)
def Binds.all{ps:List Str}(h:∀us:List pC,↑us=↑ps->bindArgs fd #[us,[]]=pure\ps.zip us):Binds K fd ps []:=λs us _ a=>by
 rw[eX] at a |-;show .of_eq\h us a
def Passes(CX:CXT)(X:Cx)(E:XK):Prop:=∀(RC:List (pR×Obj))(Z:St)(H:Hp)(s:pS)(e:pC)(s':pS),Inv X RC Z H s->CX X.stack H s E e s'->X.xe e s'
section
variable {CX:CXT}{k:Nat}{f C:Addr}{ps:List Str}{sp:Sp}{dvs:List V}{ds:List Value}{E:XK}{x m:Str}{p pos apos:Pos}{e o:Expr}{es:List Expr}{ta:TE}{t:TA}
def vv{Q:VK}(F:aj X.prog X.w X.K X.mg X.base CX k f fd ps sp)(c:Room k X.A)(d:Binds X.K fd ps ds)(hd:Vals dvs ds)(hx:Passes CX X E)
  (I:Inv X RC Z H s) (r:Vals vs us) (h:sp (vs++dvs) H Q E):q7 ⇑X X.A (call (.ref f) us) (EP X RC Z Q) X.xe s:=by
 let b:Vals (vs++dvs) (us++ds):=r.append hd;let g:↑(us++ds)=↑ps:=by rw[<-↑b];show F.len _ _ _ _ h
 show kK (oZ (F.run X.A X.stack s H #[us,[]] (us++ds) (vs++dvs) Q E c I.env0 (d s us I.kIn g) b h) λr s' a=>?_);cases r with
 |error e=>show hx RC Z H s e s' I a
 |ok i=>
  cases i with
  |ret u=>show I.after a
  |next=>show False.elim a
  |brk=>show False.elim a
  |cont=>show False.elim a
def jk(F:aj X.prog X.w X.K X.mg X.base CX k f fd ps sp)(b:Room k X.A)(c:Gl X x)(hm:X.mg x*>.ref f)(d:W.keepIn X.K (.ref f)=oD)(g:Binds X.K fd ps ds)(hd:Vals dvs ds)(hx:Passes CX X E)
  (ha:PA X (e::es) t) (i:(x==(↑18 : Str))=p6:=by decide) (he:r6 (e::es) X.env=(p6,sZ e X.env)::r6 es X.env:=by rfl) (j:(tD pos\r6 es X.env).any (·.1)=p6:=by rfl) :
  PE X (.Call (.Name x p) (e::es) [] pos) (rH sp dvs E t):=by
 intro RC s Z H Q I h;show pb\iH I c hm ?_ i;show C1 (h₀:=X.base) I.ok.mod.kin d (thn (ha pos RC s Z H _ I h) λus s1 ⟨vs,H1,a,r,q⟩=>#[a.kIn,?_]) he j;show vv F b g hd hx a r q
def lE{pl:Sem Bool}(he:PE X o ta)(c:Cls X.K C)(hm:Meth X.K C m f)(F:aj X.prog X.w X.K X.mg X.base CX k f fd ps sp)(hr:Room k X.A)(hb:Binds X.K fd ps ds)(hd:Vals dvs ds)(hx:Passes CX X E)(ha:PA X (e::es) t)
  (hst:r6 (e::es) X.env=(p6,sZ e X.env)::r6 es X.env:=by rfl) (hpl:(tD pos\r6 es X.env).any (·.1)=p6:=by rfl)
  (ht:sZ (.Call (.Attribute o m apos) (e::es) [] pos) X.env=(do
   let ov <-sZ o X.env
   standAt apos.atName
   let (f,first) <-holding [ov] (getMethod ov m pl)
   callWith pos f first (tD pos\r6 (e::es) X.env) (backToKw pos\keywordEach [] X.env)):=by rfl) :
  PE X (.Call (.Attribute o m apos) (e::es) [] pos) (BU C m sp dvs E ta t):=by
 intro RC s Z H Q I h;show PF (pl:=pl) (thn (he RC s Z H _ I h) λu s1 hZQ=>?_) ht;let#[x,H1,I1,rx,a,dx,fs,ex,ea,l,q]:=hZQ;subst ex;obtain rfl:u=Value.ref a:=rx;show xR I1 ea c hm l ?_;show C1 (first:=[.ref a]) (h₀:=X.base) I.ok.mod.kin hm.kp (thn (ha pos RC s1 Z H1 _ I1 q) λus s2 ⟨vs,H2,I2,r,q2⟩=>#[I2.kIn,?_]) hst hpl;show vv (us:=.ref a::us) (vs:=.ref a::vs) F hr hb hd hx I2 (.cons rfl r) q2
def iF{pl:Sem Bool}(he:PE X o ta)(c:Cls X.K C)(hm:Meth X.K C m f)(F:aj X.prog X.w X.K X.mg X.base CX k f fd ps sp)(hr:Room k X.A)(hb:Binds X.K fd ps ds)(hd:Vals dvs ds)(hx:Passes CX X E)
  (ht:sZ (.Call (.Attribute o m apos) [] [] pos) X.env=(do
   let ov <-sZ o X.env
   standAt apos.atName
   let (f,first) <-holding [ov] (getMethod ov m pl)
   callWith pos f first (tD pos\r6 [] X.env) (backToKw pos\keywordEach [] X.env)):=by rfl) :
  PE X (.Call (.Attribute o m apos) [] [] pos) (BU C m sp dvs E ta dH):=by
 intro RC s Z H Q I h;show PF (pl:=pl) (thn (he RC s Z H _ I h) λu s1 hZQ=>?_) ht;let#[x,H1,I1,rx,a,dx,fs,ex,ea,l,q]:=hZQ;subst ex;obtain rfl:u=Value.ref a:=rx;show xR I1 ea c hm l ?_;show W.callWith_K0 (first:=[.ref a]) I1.kIn hm.kp\vv (us:=[.ref a]) (vs:=[.ref a]) F hr hb hd hx I1 (.cons rfl .nil) q
structure Mk(K:W.Frag)(C f:pR):Prop where
 makes:W.makesIn K C=oD
 init:W.findIn K (.ref C) ↑14*>oy\.ref f
 fn:W.isFn K (.ref f)=oD
 kp:W.keepIn K (.ref C)=oD
def Gn{Q:VK}(M:Mk X.K C f)(F:aj X.prog X.w X.K X.mg X.base CX k f fd ps sp)(g:Room (k+1) X.A)(i:Binds X.K fd ps ds)(hd:Vals dvs ds)
  (hx:Passes CX X E) (I:Inv X RC Z H s) (r:Vals vs us)
  (h:∀x dx,H x=n7->H dx=n7->dx≠x->sp (.ref x::(vs++dvs)) (upd (upd H dx\.own x) x\.ins C dx []) (λv H2=>v=.non/\Q (.ref x) H2) E) :
  q7 ⇑X X.A (call (.ref C) us) (EP X RC Z Q) X.xe s:=by
 let c:=h (↥s+1) ↥s (I.hok.fresh\mH _) (I.hok.fresh\aq _)\bB (hV _);let b:=Inv.made (C:=C) I;let d:Vals (V.ref (↥s+1)::(vs++dvs)) (Value.ref (↥s+1)::(us++ds)):=.cons rfl\r.append hd;let j:↑(Value.ref (↥s+1)::us++ds)=↑ps:=by let e:=↑d;rw[F.len _ _ _ _ c] at e;show e.symm
 show kK\HG (f:=f) I.kIn M.makes M.init (beq_iff_eq.mp M.fn) (oZ (F.run _ X.stack _ _ #[Value.ref (↥s+1)::us,[]] (Value.ref (↥s+1)::(us++ds)) _ _ E (g.make C us [])
  (b.env0.make C us []) (i _ (Value.ref (↥s+1)::us) b.kIn j) d c) λr s' a=>?_)
 cases r with
 |error e=>show hx RC Z _ _ e s' b a
 |ok l=>
  cases l with
  |ret u=>
   let#[v,H',m,n,ev,o]:=b.after a;subst ev;erw[n,#[V.ref (↥s+1),H',m,1,o]]
  |next=>show False.elim a
  |brk=>show False.elim a
  |cont=>show False.elim a
def AA(M:Mk X.K C f)(F:aj X.prog X.w X.K X.mg X.base CX k f fd ps sp)(b:Room (k+1) X.A)(c:Gl X x)(hm:X.mg x*>.ref C)(d:Binds X.K fd ps ds)(hd:Vals dvs ds)(hx:Passes CX X E)
  (ha:PA X (e::es) t) (g:(x==(↑18 : Str))=p6:=by decide) (he:r6 (e::es) X.env=(p6,sZ e X.env)::r6 es X.env:=by rfl) (i:(tD pos\r6 es X.env).any (·.1)=p6:=by rfl) :
  PE X (.Call (.Name x p) (e::es) [] pos) (MJ C sp dvs E t):=by
 intro RC s Z H Q I h;show pb\iH I c hm ?_ g;show C1 (h₀:=X.base) I.ok.mod.kin M.kp (thn (ha pos RC s Z H _ I h) λus s1 ⟨vs,H1,a,r,q⟩=>#[a.kIn,?_]) he i;show Gn M F b d hd hx a r q
end
section
variable {CX:CXT}{k:Nat}{f C:Addr}{ps ks:List Str}{sp:Sp}{E:XK}{x m:Str}{p pos apos kpos:Pos}{e o:Expr}{es:List Expr}{kws:List Keyword}{te ta:TE}{t tk:TA}{nm:Option Str}
variable {g:List Value->List Value->List Value}{gV:List V->List V->List V}
end
structure aR(N P:List Str)(sc:Scope):Prop where
 kind:sc.kind=.function
 co:sc.isCoroutine=p6
 gen:sc.isGenerator=p6
 nd:N.Nodup
 pre:N.take ↑P=P
 par:∀x∈P,sc.names.lookup x*>.local\/sc.names.lookup x*>.cell
 nofree:∀y∈sc.names,y.2≠.free
def yY{kindOf:Str->Option NameKind}{x:Str}:∀{binds:List (Str×pC)}{m:Str->Option pC},(∀v,(x,v)∉binds)->bindL kindOf binds m x=m x
 | [],_,_=>rfl
 |(n,v)::r,m,h=>by
  unfold bindL;rw[yY λw hw=>h w\de _ hw]
  split
  .have:x≠n:=by rintro rfl;show h v gk
   simp[this]
  rfl
def y_{kindOf:Str->Option NameKind}{x:Str}:∀{binds:List (Str×pC)}{m:Str->Option pC},(∀v,(x,v)∉binds)->bindC kindOf binds m x=m x
 | [],_,_=>rfl
 |(n,v)::r,m,h=>by
  unfold bindC;rw[y_ λw hw=>h w\de _ hw]
  split
  .rfl
  have:x≠n:=by rintro rfl;show h v gk
  simp[this]
def y0{kindOf:Str->Option NameKind}{x:Str}{v:pC}:∀{P:List Str}{vs:List pC}{i:Nat}{m:Str->Option pC},P.Nodup->P[i]?*>x->vs[i]?*>v->kindOf x*>.local->
  bindL kindOf (P.zip vs) m x*>v
 | [],_,_,_,_,h,_,_=>by simp at h
 |_::_,[],_,_,_,_,h,_=>by simp at h
 |p::P,w::vs,0,m,nd,h1,h2,a=>by
  simp at h1 h2;subst h1;subst h2;change bindL kindOf ((p,w)::P.zip vs) m p=_;unfold bindL;rw[yY λv b=>(eO.mp nd).1 (tm b).1,Ry a];simp
 |p::P,w::vs,i+1,m,nd,h1,h2,a=>by
  change bindL kindOf ((p,w)::P.zip vs) m x=_;unfold bindL;show y0 (i:=i) (eO.mp nd).2 ‹h1› ‹h2› a
def za{kindOf:Str->Option NameKind}{x:Str}{v:pC}:∀{P:List Str}{vs:List pC}{i:Nat}{m:Str->Option pC},P.Nodup->P[i]?*>x->vs[i]?*>v->kindOf x≠oy .local->
  bindC kindOf (P.zip vs) m x*>v
 | [],_,_,_,_,h,_,_=>by simp at h
 |_::_,[],_,_,_,_,h,_=>by simp at h
 |p::P,w::vs,0,m,nd,h1,h2,a=>by
  simp at h1 h2;subst h1;subst h2;change bindC kindOf ((p,w)::P.zip vs) m p=_;unfold bindC;rw[y_ λv b=>(eO.mp nd).1 (tm b).1,Rx a];simp
 |p::P,w::vs,i+1,m,nd,h1,h2,a=>by
  change bindC kindOf ((p,w)::P.zip vs) m x=_;unfold bindC;show za (i:=i) (eO.mp nd).2 ‹h1› ‹h2› a
def start(N:List Str)(vs:List V):St:=vs.map oy++List.replicate (↑N-↑vs) n7
def eV(CX:CXT)(P:rp)(w:sf)(K:W.Frag)(mg:Str->Option pC)(base:rq)(N:List Str)(qual:Str)(scope:Scope)(f:pR)(cd:pC)(A:z3)(outer:List Env)(s:pS)(H:Hp)(E:XK):Cx where
 prog:=P
 w:=w
 K:=K
 mg:=mg
 base:=base
 A:=A.deeper\envOfC qual scope ↥s f cd
 N:=N
 s₀:=s
 H₀:=H
 env:=envOfC qual scope ↥s f cd
 outer:=outer
 stack:=envOfC qual scope ↥s f cd::outer
 ex:=[]
 calm:=oD
 fn:=λ_=>oD
 pn:=[]
 xe:=λe s'=>q7 (rb P w) (A.deeper\envOfC qual scope ↥s f cd) (leaving (envOfC qual scope ↥s f cd) e) (λ_ a=>CX outer H s E e a) (λb a=>CX outer H s E b a) s'
def zU{sc:Scope}{n:Nat}{x:Str}(h:sc.names.lookup x*>.cell):∃c,(cellsFrom n sc.names []).lookup x*>c:=by let q:=C3 sc.names n []\.inl h;show oQ.mp q
def yO{CX:CXT}{N ps:List Str}{qual:Str}{f:pR}{cd:pC}{outer:List Env}{s s1:pS}{E:XK}
  (S:aR N ps scope) (hd:A.handled=n7) (d:!fZ A outer s H) (D:↑vs=↑ps) (r:Vals vs us)
  (x:InCallC s ↥s (bindL (envOfC qual scope ↥s f cd).kindOf (ps.zip us) λ_=>n7) (cellsFrom (↥s+1) scope.names []) (bindC (envOfC qual scope ↥s f cd).kindOf (ps.zip us) λ_=>n7) s1) :
  Inv (eV CX P w K mg base N qual scope f cd A outer s H E) [] (start N vs) H s1:=by
 let I:↑ps<=↑N:=by have:=congrArg List.length S.pre;rw[bz] at this;lia
 let#[h1,tk,1,m]:=x.done;let l:∀b:pR,b∉(eV CX P w K mg base N qual scope f cd A outer s H E).ex:=λb z=>absurd (show b∈([]:List pR) from z) ∅;erw[#[d.mod,S.kind,5,aq _,λy z c h1 h2=>?_,λy g=>?_,λy c _ h=>?_,λ_=>hd,Around.frames_deeper d.frames,.inr #[5],λb z=>absurd z\l b,d.bs,d.bsz,λb _ _=>l b,λb z=>absurd z\l b,d.funs,d.frf],
  1,d.bare,Un.kept m,#[_,x.toInCall.ns,λi y v h1 h2 L=>?_],λy c h=>#[_,x.cell y c h],d.hok.fresh\aq _,λy c h=>?_,λp j=>absurd (show p∈([]:List (pR×Obj)) from j) ∅,d.hok.kept m,?_]
 .exact name_of_addr x.apart (oX h1)\oX h2
 .let g:scope.names.lookup y*>.cell\/scope.names.lookup y*>.free:=g;rcases g with g|g
  .exact zU g
  show absurd rfl\S.nofree _ (oX g)
 .exact oO\x.above y c (oX h)
 .let hi:i<↑vs:=by
   unfold start at h2;by_cases hi:i<↑vs
   .exact hi
   rw[hJ ‹hi›] at h2;rw[CD] at h2
   split at h2<;>cases h2
  let ha:vs[i]?*>v:=by
   unfold start at h2;rw[dZ ‹hi›,bu] at h2;cases e:vs[i]? with
   |none=>rw[e] at h2;cases h2
   |some a=>rw[e] at h2;cases h2;rfl
  let#[u,o,C]:=r.get ha;let j:ps[i]?*>y:=by rw[<-S.pre,s_ ()];show h1
  let B:ps.Nodup:=by rw[<-S.pre];show S.nd.sublist\List.take_sublist _ _
  erw[u,C,?_];rcases S.par y (a9 j) with k|k
  .exact .inl #[k,y0 B j o k]
  let#[c,e]:=zU (n:=↥s+1) k;show .inr #[.inl k,c,e,?_];let q:=x.cell y c e;rw[za B j o (by change scope.names.lookup y≠_;rw[k];decide)] at q;show q
 .exact d.hok.fresh\oO (x.above y c\oX h)
 unfold start;change _=↑N;rw[bj,av,List.length_replicate];lia
def vO{CX:CXT}{k:Nat}{f:pR}{name qual:Str}{params:Arguments}{body:List rz}{i kV doc pm a ct m:pC}{an od:Option pR}
  {p:Array\Option pC} {N ps:List Str} {sp:Sp} (lk:K.lookup f*>#[m,od,.func\W.fnOf name qual params body scope i kV doc pm an a ct,p]) (z:W.codeIn K a qual=oD) (S:aR N ps scope)
  (len:∀vs H Q E,sp vs H Q E->↑vs=↑ps)
  (B:∀(A:z3)(outer:List Env)(s:pS)(H:Hp)(vs:List V)(Q:VK)(E:XK),Room k (A.deeper\envOfC qual scope ↥s f a)->sp vs H Q E->
   ∃t,PSs (eV CX P w K mg base N qual scope f a A outer s H E) body t/\t {nx:=λ_ H'=>Q .non H',rt:=Q} (start N vs) H) :
  !aj CX (k+1) f (W.fnOf name qual params body scope i kV doc pm an a ct) ps sp:=by
 erw[len,λA outer s H args us vs Q E g d C r j=>?_];let D:=len _ _ _ _ j;let l:K.In s.heap:=d.mod.kin.keeps λb o e=>(d.bs b o e).1;let lim:s.heap.NoLimit:=d.mod.nolimit.keeps λb o e=>(d.bs b o e).1;let L:∀y∈ps.zip us,scope.names.lookup y.1*>.local\/(scope.names.lookup y.1*>.cell/\((cellsFrom (↥s+1) scope.names []).lookup y.1).isSome=oD):=λ⟨n,v⟩ M=>by
  rcases S.par n (tm M).1 with q|q
  .exact .inl q
  show .inr #[q,C3 _ _ _\.inl q]
 show PX g.depth (l>>lk) rfl S.co S.gen rfl (Pz l z)\C _ _ _ _ ?_;show Qn S.kind L λenv he s1 x=>?_;subst he;erw[lim.keeps x.toInCall.keep,codeAny_func ?_];let#[t,O,R]:=B A outer s H vs Q E (g.deeper _) j;let I:Inv (eV CX P w K mg base N qual scope f a A outer s H E) [] (start N vs) H s1:=yO S g.hd d D r x;show bZ (O [] s1 (start N vs) H _ I R) (λT s' c=>?_) λe s' c=>c;let fin:∀{Z':St}{H':Hp}{v:V}{u:pC},Inv (eV CX P w K mg base N qual scope f a A outer s H E) [] Z' H' s'->aC v u->Q v H'->CE outer P w H s Q u s':=
  λ{Z' H' v u} J h q=>#[v,H',J.os,J.bare,J.base,J.hok,h,q]
 cases T with
 |ret u=>
  let#[v,Z',H',J,h,q]:=c;show fin J h q
 |next=>
  let#[Z',H',J,q]:=c;show fin (v:=V.non) (u:=Value.none) J rfl q
 |brk=>
  let#[8,q]:=c;show False.elim q
 |cont=>
  let#[8,q]:=c;show False.elim q
end L2
namespace L2
open PySem PySem.Spec PyProof.Rows
section
variable {x:Str}{p pos:Pos}{e:Expr}{es:List Expr}{t:TA}{id T:String}{r:List V->Hp->VK->Prop}
def tCBK(r:List V->Hp->VK->Prop)(Q:VK):List V->Hp->Prop:=λvs H1=>r vs H1 Q
def tCB(r:List V->Hp->VK->Prop)(t:TA):TE:=λZ H Q=>t Z H\tCBK r Q
def bP(a:c7 X (.builtin id) r)(b:Gl X x)(hm:X.mg x=n7)(c:yF x*>.builtin id)(ha:PA X (e::es) t)(d:x≠"__name__":=by decide)(f:(x==(↑18 : Str))=p6:=by decide)
  (he:r6 (e::es) X.env=(p6,sZ e X.env)::r6 es X.env:=by rfl) (g:(tD pos\r6 es X.env).any (·.1)=p6:=by rfl):PE X (.Call (.Name x p) (e::es) [] pos) (tCB r t):=by
 intro RC s Z H Q I h;show pb\jt I b hm c ?_ d f;show QD (thn (ha pos RC s Z H _ I h) λus s1 ⟨vs,H1,i,j,l⟩=>a RC s1 Z H1 vs us Q i j l) he g
def du(a:c7 X (.type T) r)(b:Gl X x)(hm:X.mg x=n7)(c:yF x*>.type T)(ha:PA X (e::es) t)(d:x≠"__name__":=by decide)(f:(x==(↑18 : Str))=p6:=by decide)
  (he:r6 (e::es) X.env=(p6,sZ e X.env)::r6 es X.env:=by rfl) (g:(tD pos\r6 es X.env).any (·.1)=p6:=by rfl):PE X (.Call (.Name x p) (e::es) [] pos) (tCB r t):=by
 intro RC s Z H Q I h;show pb\jt I b hm c ?_ d f;show oV (thn (ha pos RC s Z H _ I h) λus s1 ⟨vs,H1,i,j,l⟩=>a RC s1 Z H1 vs us Q i j l) he g
end
end L2
namespace HT
open PySem PyProof.Rows
def lexLt:List Int->List Int->Bool
 | [],[]=>p6
 | [],_::_=>oD
 |_::_,[]=>p6
 |x::xs,y::ys=>if x=y then lexLt xs ys else decide (x<y)
def lexLt_cons(x y:Int)(xs ys:List Int):lexLt (x::xs) (y::ys)=if x=y then lexLt xs ys else decide (x<y):=rfl
def DQ:lexLt [] []=p6:=rfl
def DI(y:Int)(ys:List Int):lexLt [] (y::ys)=oD:=rfl
def DJ(x:Int)(xs:List Int):lexLt (x::xs) []=p6:=rfl
def H_(A:z3)(s:pS)(a:Int)(t:Tok)(c:Int)(u:Tok):∃e,SeqAt.EqAt A s (.int a t) (.int c u) e/\(e=oD↔a=c):=
 #[(a==c),PL a t c u,∅]
def Gs(A:z3)(s:pS)(a:Int)(t:Tok)(c:Int)(u:Tok)(prog:rp)(w:sf)(E:pC->pS->Prop)(Q:pC->pS->Prop)(h:Q (.bool (decide (a<c))) s):
  q7 (rb prog w) A (richCompare .Lt (.int a t)\.int c u) Q E s:=
 (QF h:q7 (rb prog w) A (sD .Lt (.int a t)\.int c u) Q E s)
section
open PySem.SeqAt
open PySem.AutoSeq1 (wpAny_loadPart')
open PySem.MeetsSeq PySem.MeetsSeq2 PySem.MeetsSeq3
def DN(l b:pR)(items i:Array pC)(n D:Nat)(dd E:Option pR)(sl H:Array\Option pC)(ns ms:List Int)(hi:L3 items.toList ns)(z:L3 i.toList ms):
  Meets (Builtin.«tuple.__lt__» #[[.ref l,.ref b],[]])
   (λ_ R s=>s.heap.get? l*>{cls:=.type ↑20,dict:=dd,data:=.seq items n,slots:=sl}/\s.heap.get? b*>{cls:=.type ↑20,dict:=E,data:=.seq i D,slots:=H}/\
    R (.ok\.ret (.bool\lexLt ns ms)) s):=
 .of_wp λprog w A R s h=>by
  let#[o,g,d,tk,os]:=s;let#[I,K,h]:=h;let S:=AutoSeq1.sub_tuple_tuple;let T:items.size=↑ns:=by rw[<-↑hi];simp
  let U:i.size=↑ms:=by rw[<-↑z];simp
  wp_walk using Dv I,Dv K,Qi _ (λrest b s'=>b.1=n7/\s'=#[o,g,d,tk,os]/\∃(vs ws:List pC)(j m:List Int),rest=vs.zip ws/\
   L3 vs j/\L3 ws m/\↑j+i.size=↑m+items.size/\R (.ok\.ret (.bool\lexLt j m)) #[o,g,d,tk,os]) _
  case turn=>
   rintro⟨y,x⟩ rest b s' ⟨r,rfl,vs,ws,j,m,hz,v,p,hlen,f⟩;cases v with
   |nil=>rw[List.zip_nil_left] at hz;cases hz
   |cons a t L=>
    cases p with
    |nil=>rw[List.zip_nil_right] at hz;cases hz
    |cons c u M=>
     rw[OU] at hz;injection hz with N O;injection N with P hx;subst P hx;rw[lexLt_cons] at f;simp only[cv] at hlen;let#[e,he,B]:=H_ A.in1 #[o,g,d,tk,os] a t c u;show aa\he prog w _ _ ?_;cases e with
     |true=>
      rw[Ry\B.mp rfl] at f
      wp_walk
      erw[5,8,_,O,L,M,(),f]
     |false=>
      rw[Rx λq=>absurd (B.mpr q) bG] at f;let Q:=Gs A.in1 #[o,g,d,tk,os] a t c u prog w
      wp_walk using Q
      erw[2,‹f›]
  case fin=>
   rintro⟨X,Y⟩ s' ⟨r,rfl,vs,ws,j,m,hz,v,p,hlen,f⟩;simp only at r;subst r;let C:lexLt j m=decide (items.size<i.size):=by
    cases v with
    |nil=>
     cases p with
     |nil=>
      simp only[kr] at hlen;rw[DQ];show (RA ()).symm
     |cons c u hw=>
      simp only[kr,cv] at hlen;rw[DI];show (Rz ()).symm
    |cons a t C=>
     cases p with
     |nil=>
      simp only[kr,cv] at hlen;rw[DJ];show (RA ()).symm
     |cons c u hw=>
      rw[OU] at hz;cases hz
   rw[C] at f
   wp_walk
   erw[2,by simpa [Builtin.Tuple.tupleCompareSizes] using f]
  case h=>
   erw[5,items.toList,i.toList,ns,ms,1,hi,z,(),h]
end
section
variable {prog:Program}
def lt_tupInts{l b:pR}{items a:Array pC}{ns ms:List Int}{Q:pC->pS->Prop}(i:IsTup s.heap l items)(j:IsTup s.heap b a)(hi:L3 items.toList ns)(m:L3 a.toList ms)
  (o:A.units<vk) (h:Q (.bool\lexLt ns ms) s):q7 (rb prog w) A (sD .Lt (.ref l)\.ref b) Q E s:=by
 let#[#[cls,dd,data,sl],c,d,n,hd]:=id i;let#[#[u,p,data2,q],e,f,r,g]:=id j;simp only at d hd f g;subst d hd f g;show richCompare_meets_room (op:=.Lt) #[_,c,1] #[_,e,1] PySem.F.slot_tuple_lt PySem.F.entry_tuple_lt (PySem.F.args_tuple_lt_2 _ _) (DN l b items a n r dd p sl q ns ms hi m)
  #[c,e,show Value.bool (lexLt ns ms)≠Value.notImplemented/\Q (.bool\lexLt ns ms) s from #[(λx=>nomatch x),h]] o
def cat_tup{t b:pR}{vs ws:List pC}{Q:pC->pS->Prop}(m:IsTup s.heap t vs.toArray)(o:IsTup s.heap b ws.toArray)(d:vs≠[])
  (h1:ws=[]->Q (.ref t) s) (h2:ws≠[]->Q (.ref ↥s) {s with heap:=s.heap.push {cls:=.type ↑20,data:=.seq (vs++ws).toArray}})
  (hsz:↑vs+↑ws<=qs):q7 (rb prog w) A (binaryOp .Add (.ref t)\.ref b) Q E s:=by
 let#[#[cls,dd,data,sl],a,f,n,hd]:=id m;let#[#[p,g,data2,h],c,i,j,l]:=id o;simp only at f hd i l;subst f hd i l;let e:vs.toArray++ws.toArray=(vs++ws).toArray:=∅;by_cases hw:ws=[]
 .exact concat_meets #[_,a,1] #[_,c,1] P3 seq_tuple_add Pq Pg (Pd _ _)
   (tuple_addW1 t b vs.toArray ws.toArray n j dd g sl h ‹d› (by simp[hw])) #[a,c,h1 hw]
 show concat_meets #[_,a,1] #[_,c,1] P3 seq_tuple_add Pq Pg (Pd _ _)
  (tuple_addW2 t b vs.toArray ws.toArray n j dd g sl h ‹d› ‹hw› (by rw[bJ,bJ];show hsz)) #[a,c,?_]
 rw[e];show h2 hw
def sIx(n d:Nat):Option Int->Nat
 |none=>d
 |some v=>if v<0 then (v+(n:Int)).toNat else min v.toNat n
def sIx_none(n d:Nat):sIx n d n7=d:=rfl
def sIx_nat(n d k:Nat):sIx n d (oy (k:Int))=min k n:=by change (if (k:Int)<0 then ((k:Int)+(n:Int)).toNat else min (k:Int).toNat n)=min k n;rw[Rx (),my]
def La(n d:Nat)(hd:d<=n)(o:Option Int):sIx n d o<=n:=by
 cases o with
 |none=>show hd
 |some v=>
  change (if v<0 then (v+(n:Int)).toNat else min v.toNat n)<=n;by_cases a:v<0
  .rw[Ry a];lia
  rw[Rx a];show CP _ _
def AW(v:Int)(n d:Nat):(if v<0 then max (v+(n:Int)) 0 else min v (n:Int))=((sIx n d (oy v):Nat):Int):=by
 change (if v<0 then max (v+(n:Int)) 0 else min v (n:Int))=(((if v<0 then (v+(n:Int)).toNat else min v.toNat n):Nat):Int);by_cases a:v<0
 .simp only[Ry a];lia
 simp only[Rx a];lia
def EN(lo hi:Option Int)(n:Nat):Builtin.Slice.sliceAdjust lo hi 1 (n:Int)=(((sIx n 0 lo:Nat):Int),((sIx n n hi:Nat):Int)):=by
 let h1:¬((1:Int)<0):=();unfold Builtin.Slice.sliceAdjust;simp only[h1,if_false];show mI ?_ ?_
 .cases lo with
  |none=>rfl
  |some v=>show AW v n 0
 cases hi with
 |none=>rfl
 |some v=>show AW v n n
def Ex(i j:Nat):Builtin.Slice.slicePlaces (i:Int) (j:Int) 1=j-i:=by
 unfold Builtin.Slice.slicePlaces;let h1:(1:Int)>0:=();simp only[h1,if_true,Int.ediv_one]
 split<;>lia
def xK{v:pC}{o:Option Int}{Q:Option Int->pS->Prop}(p:IsPart v o)(h:Q o s):q7 (rb prog w) A (Builtin.Slice.slicePartIndex v) Q E s:=by
 cases p with
 |none=>show xh h
 |int i t=>show slicePart_int h
def xp{sl:pR}{a b:pC}{lo hi:Option Int}{n:Nat}{Q:Int×Int×Nat->pS->Prop}(e:s.heap.IsSliceOf sl a b .none)(pl:IsPart a lo)(pu:IsPart b hi)
  (h:Q (((sIx n 0 lo:Nat):Int),1,sIx n n hi-sIx n 0 lo) s):q7 (rb prog w) A (Builtin.Slice.sliceApplied (.ref sl)\pure (n:Int)) Q E s:=by
 let#[os,c,f,d]:=id e;unfold Builtin.Slice.sliceApplied Builtin.Slice.sliceFields;show aa\aa (cD c d (x:=a) rfl\aa (cD c d (x:=b) rfl\aa (cD c d (x:=.none) rfl\ai ?_)));show aa\xh ?_;change q7 _ _ (if ((1:Int)==0)=oD then _ else _) _ _ s;rw[Rx ⋯];show aa\xK pl (aa\xK pu (aa\ai ?_));change q7 _ _ (match Builtin.Slice.sliceAdjust lo hi 1 (n:Int) with|(lo,hi)=>pure (lo,(1:Int),Builtin.Slice.slicePlaces lo hi 1)) _ _ s;rw[EN lo hi n];change q7 _ _ (pure (((sIx n 0 lo:Nat):Int),(1:Int),Builtin.Slice.slicePlaces ((sIx n 0 lo:Nat):Int) ((sIx n n hi:Nat):Int) 1)) _ _ s;rw[Ex];show ai h
def GL(xs:Array pC)(i k:Nat):((List.range k).filterMap λ(m:Nat)=>xs[((i:Int)+(m:Int)*1).toNat]?).toArray=((xs.toList.drop i).take k).toArray:=by
 let e:(λ(m:Nat)=>xs[((i:Int)+(m:Int)*1).toNat]?)=λm=>xs[i+m]?:=by funext m;have:((i:Int)+(m:Int)*1).toNat=i+m:=();rw[this]
 rw[e];have:=pick_run xs i k;rw[List.filterMap_map] at this;let a:((λx=>xs[x]?) ∘ λx=>i+x)=λm=>xs[i+m]?:=rfl;rw[a] at this;rw[this]
def getItem_tuple_cut{t sl:pR}{items:Array pC}{c d:pC}{lo hi:Option Int}{Q:pC->pS->Prop}(a:IsTup s.heap t items)(e:s.heap.IsSliceOf sl c d .none)(pl:IsPart c lo)(pu:IsPart d hi)
  (hw:¬(sIx items.size 0 lo=0/\sIx items.size items.size hi=items.size))
  (h:Q (.ref ↥s) {s with heap:=s.heap.push {cls:=.type ↑20,data:=.seq ((items.toList.drop\sIx items.size 0 lo).take (sIx items.size items.size hi-sIx items.size 0 lo)).toArray}})
  (hsz:items.size<=qs):q7 (rb prog w) A (getItem (.ref t)\.ref sl) Q E s:=by
 let b:sizeOk (.seq ((items.toList.drop\sIx items.size 0 lo).take (sIx items.size items.size hi-sIx items.size 0 lo)).toArray):=by change ((items.toList.drop\sIx items.size 0 lo).take (sIx items.size items.size hi-sIx items.size 0 lo)).toArray.size<=qs;rw[bJ,bz,eF,gg];lia
 let l:sIx items.size items.size hi<=items.size:=La _ _ (aq _) hi;let#[os,f,g,n]:=id e;let i:s.TypeIs (.ref sl) "slice":=#[os,f,g];unfold getItem
 try with_reducible show cX ?_
 first|show aa (ai ?_)|skip
 show aa (Dz a.typeIs ⋯ ?_);show aa (jK (name:=Str.ofString "__getitem__") a.typeIs kI
  (gA kI a.typeIs Dc ?_\C8 _ _))
 change q7 _ _ (Builtin.Tuple.tupleItemsOf (.ref t) >>= _) _ _ s;show aa\Di a ?_;show aa\kN i ?_;rw[Ry ⋯];show aa\xp e pl pu ?_;let j:¬((((sIx items.size 0 lo:Nat):Int)==0&&(1:Int)==1&&(sIx items.size items.size hi-sIx items.size 0 lo)==items.size)=oD):=by intro q;rw[g_,g_] at q;let o:((sIx items.size 0 lo:Nat):Int)=0:=eq_of_beq q.1.1;let p:sIx items.size items.size hi-sIx items.size 0 lo=items.size:=eq_of_beq q.2;show hw #[(),()]
 change q7 _ _ (if (((sIx items.size 0 lo:Nat):Int)==0&&(1:Int)==1&&(sIx items.size items.size hi-sIx items.size 0 lo)==items.size)=oD then _ else _) _ _ s;rw[Rx j,GL]
 first
  |show aa (m:=Builtin.Tuple.tupleExact _)\eQ (ai #[2,ai h]) b
  |show aa (m:=Builtin.Tuple.tupleExact _)\eQ (aa\ai (ai #[2,ai h])) b
  |show aa\aa (m:=Builtin.Tuple.tupleExact _) (eQ (ai\ai #[2,ai h]) b)
  |show aa\aa (m:=Builtin.Tuple.tupleExact _) (eQ (ai #[2,ai h]) b)
end
end HT
namespace L2
open PySem PySem.Spec PyProof.Rows
abbrev TO:=St->Hp->(Option Int->Hp->Prop)->Prop
def PO(X:Cx)(e:Option ry)(t:TO):Prop:=
 ∀(RC:List (pR×Obj))(s:pS)(Z:St)(H:Hp)(Q:Option Int->Hp->Prop),Inv X RC Z H s->t Z H Q->
  q7 ⇑X X.A (evalPart e X.env) (λu s'=>∃o H',Inv X RC Z H' s'/\IsPart u o/\Q o H') X.xe s
def Iz:TO:=λ_ H Q=>Q n7 H
def KD(Q:Option Int->Hp->Prop)(x:V)(H1:Hp)(i:Int):Prop:=x=.int i/\Q (oy i) H1
def KC(Q:Option Int->Hp->Prop):VK:=λx H1=>Exists\KD Q x H1
def MB(t:TE):TO:=λZ H Q=>t Z H\KC Q
def nj{ns:List Int}:∀{us:List pC},Vals (ns.map V.int) us->L3 us ns:=by
 induction ns with
 |nil=>intro us r;rw[CJ] at r;cases r;show .nil
 |cons n ns a=>
  intro us r;rw[br] at r;cases r with
  |cons b c=>
   let#[t,e]:=b;subst e;show .cons n t\a c
section
variable {e:Expr}{te:TE}{lo hi:Option Expr}{tl th:TO}{pos p2:Pos}
def jj:PO X n7 Iz:=by intro RC s Z H Q I h;rw[Dd];show ai #[n7,H,I,.none,h]
def ji(h:PE X e te):PO X (oy e) (MB te):=by intro RC s Z H Q I hw;rw[evalPart_some];show thn (h RC s Z H _ I hw) λu s1 a=>?_;let#[x,H1,b,c,d]:=a;let#[i,1,q]:=d;let#[t,1]:=c;erw[oy i,H1,b,.int i t,q]
def SlR(X:Cx)(r:V->Option Int->Option Int->Hp->VK->Prop):Prop:=
 ∀(RC:List (pR×Obj))(s:pS)(Z:St)(H:Hp)(x:V)(v a b:pC)(lo hi:Option Int)(sl:pR)(Q:VK),Inv X RC Z H s->aC x v->s.heap.IsSliceOf sl a b .none->IsPart a lo->IsPart b hi->r x lo hi H Q->
  ∃T id,typeLookup (.type T) "__getitem__" = pure (oy\.builtin id)/\s.TypeIs v T/\q7 ⇑X X.A (getItem v\.ref sl) (EP X RC Z Q) X.xe s
def tSl3(r:V->Option Int->Option Int->Hp->VK->Prop)(x:V)(l:Option Int)(Q:VK):Option Int->Hp->Prop:=λu a=>r x l u a Q
def tSl2(r:V->Option Int->Option Int->Hp->VK->Prop)(th:TO)(Z:St)(x:V)(Q:VK):Option Int->Hp->Prop:=λl H2=>th Z H2\tSl3 r x l Q
def tSl1(r:V->Option Int->Option Int->Hp->VK->Prop)(tl th:TO)(Z:St)(Q:VK):VK:=λx H1=>tl Z H1\tSl2 r th Z x Q
def tSl(r:V->Option Int->Option Int->Hp->VK->Prop)(te:TE)(tl th:TO):TE:=λZ H Q=>te Z H\tSl1 r tl th Z Q
def jc{r:V->Option Int->Option Int->Hp->VK->Prop}(i:SlR X r)(he:PE X e te)(j:PO X lo tl)(m:PO X hi th):PE X (.Subscript e (.Slice lo hi n7 p2) pos) (tSl r te tl th):=by intro RC s Z H Q I h;show w8 (thn (he RC s Z H _ I h) λv s1 c=>?_);let#[x,H1,n,o,p]:=c;show wpAny_Slice (thn (j RC s1 Z H1 _ n p) λd s2 c=>?_);let#[l,H2,y,pl,z]:=c;show thn (m RC s2 Z H2 _ y z) λf a c=>?_;let#[u,g,B,pu,C]:=c;rw[Dd];show ai ?_;let D:Inv X RC Z g {a with heap:=a.heap.push {cls:=.type "slice",data:=.fields\tA [d,f,.none]}}:=B.kept (t':=a.toks) λb ob q=>aO _ q;let#[T,id,E,K,L]:=i RC {a with heap:=a.heap.push {cls:=.type "slice",data:=.fields\tA [d,f,.none]}} Z g x v d f l u ↥a Q D o (Oy ..) pl pu C;change q7 ⇑X X.A (subscriptTail e (.Slice lo hi n7 p2) v\.ref ↥a) (EP X RC Z Q) X.xe {a with heap:=a.heap.push {cls:=.type "slice",data:=.fields\tA [d,f,.none]}};show tail_any (ops:=[.ref ↥a,v]) K E L (by with_unfolding_all rfl)
def fG(xs:List V)(lo hi:Option Int):List V:=(xs.drop\HT.sIx ↑xs 0 lo).take (HT.sIx ↑xs ↑xs hi-HT.sIx ↑xs 0 lo)
def xF(xs:List V)(lo hi:Option Int):↑(fG xs lo hi)<=↑xs:=by unfold fG;rw[bz,eF];lia
def rSlT(K:W.Frag):V->Option Int->Option Int->Hp->VK->Prop:=λx lo hi H Q=>∃a xs,x=.ref a/\SqT K H a xs/\
 ¬(HT.sIx ↑xs 0 lo=0/\HT.sIx ↑xs ↑xs hi=↑xs)/\∀p,H p=n7->Q (.ref p)\upd H p (.tup\fG xs lo hi)
def K7:SlR X (rSlT []):=by
 intro RC s Z H x v g i lo hi sl Q I d e pl pu h;let#[a,xs,1,hx,hw,q]:=h;cases d;let#[f,r,c,hz]:=I.tuple hx;let hlen:f.toArray.size=↑xs:=by rw[bJ];show r.length.symm
 erw[↑20,_,kI.lookup,c.typeIs,?_];show HT.getItem_tuple_cut c e pl pu (by rw[hlen];show hw) ?_ (by rw[hlen];show hz);rw[hlen];erw[.ref ↥s,_,I.laid (t':=s.toks) (o:=.tup\fG xs lo hi) (λb ob q=>aO _ q) (aq _) ?_,1,q _\I.hok.fresh (aq _)];erw[#[cR (xF xs lo hi) hz,_,bI _ rfl,1],_,(r.drop\HT.sIx ↑xs 0 lo).take (HT.sIx ↑xs ↑xs hi-HT.sIx ↑xs 0 lo),sS _ _]
def NH(K:W.Frag):R2:=λx y H Q=>∃a b xs ys,x=.ref a/\y=.ref b/\SqT K H a xs/\SqT K H b ys/\xs≠[]/\↑xs+↑ys<=qs/\
 (ys=[]->Q (.ref a) H)/\(ys≠[]->∀p,H p=n7->Q (.ref p)\upd H p (.tup (xs++ys)))
def Vals.nil_iff(r:Vals xs us):us=[]↔xs=[]:=by
 cases r with
 |nil=>simp
 |cons _ _=>simp
def AD:OpR X (binaryOp .Add) (NH []):=by intro RC s Z H x y v u Q I e f h;let#[a,b,xs,ys,5,ha,g,hx,hz,i,j]:=h;cases e;cases f;let#[l,d,p1,_]:=I.tuple ha;let#[m,c,p2,_]:=I.tuple g;show HT.cat_tup p1 p2 (λz=>hx\d.nil_iff.mp z) (λz=>#[.ref a,H,I,1,i\c.nil_iff.mp z]) (λz=>?_) (by rw[<-↑d,<-↑c];show hz);erw[.ref ↥s,_,I.laid (t':=s.toks) (o:=.tup (xs++ys)) (λb ob q=>aO _ q) (aq _) ?_,1,j (λw=>z\c.nil_iff.mpr w) _\I.hok.fresh (aq _)];erw[#[by rw[bj];show hz,_,bI _ rfl,1],_,d.append c,sS _ _]
end
end L2
namespace L2
open PySem PySem.Spec PyProof.Rows
def ixN(n:Nat)(i:Int):Option Nat:=if 0<=i then (if i<n then oy i.toNat else n7) else if -(n:Int)<=i then oy (i+n).toNat else n7
def atI{α:Type}(xs:List α)(i:Int):Option α:=(ixN ↑xs i).bind λj=>xs[j]?
def uW{j:Nat}(h:ixN n i*>j):seqIndex? i n*>j/\j<n/\-(n:Int)<=i/\i<n:=by
 unfold ixN at h;by_cases a:0<=i
 .rw[Ry a] at h;by_cases h1:i<n
  .rw[Ry h1] at h;let e:i.toNat=j:=eg h;erw[by rw[Dh a h1,e],(),(),h1]
  rw[Rx h1] at h;cases h
 rw[Rx a] at h;by_cases h1:-(n:Int)<=i
 .rw[Ry h1] at h;let e:(i+n).toNat=j:=eg h;erw[by rw[Dg () h1,e],(),h1,()]
 rw[Rx h1] at h;cases h
def A1{α:Type}{xs:List α}{v:α}(h:atI xs i*>v):∃j,seqIndex? i ↑xs*>j/\xs[j]?*>v/\j<↑xs/\-(↑xs:Int)<=i/\i<↑xs:=by
 unfold atI at h;cases e:ixN ↑xs i with
 |none=>rw[e] at h;cases h
 |some j=>
  rw[e] at h;let#[h1,h2,a,b]:=uW e;erw[j,h1,h,h2,a,b]
def aZ{α:Type}{xs:List α}{j:Nat}{v:α}(h:xs[j]?*>v):atI xs (j:Int)*>v:=by
 let a:j<↑xs:=(aN.mp h).1;let e:ixN ↑xs (j:Int)*>j:=by unfold ixN;rw[Ry (),Ry ()];simp
 unfold atI;rw[e];show h
def A4(b:ry):Prop:=∀o i,subscripted b p6 o i=operate [o,i]\getItem o i
def IxR(X:Cx)(r:R2):Prop:=
 ∀(value slice:ry)(RC:List (pR×Obj))(s:pS)(Z:St)(H:Hp)(x y:V)(v u:pC)(Q:VK),Inv X RC Z H s->aC x v->aC y u->r x y H Q->
  subscripted slice p6 v u=operate [v,u] (getItem v u)->q7 ⇑X X.A (subscriptTail value slice v u) (EP X RC Z Q) X.xe s
def MtR(X:Cx)(id:String)(r:V->List V->Hp->VK->Prop):Prop:=
 ∀(RC:List (pR×Obj))(s:pS)(Z:St)(H:Hp)(x:V)(xs:List V)(v:pC)(us:List pC)(Q:VK),Inv X RC Z H s->aC x v->Vals xs us->r x xs H Q->
  q7 ⇑X X.A (call (.builtin id) (v::us)) (EP X RC Z Q) X.xe s
section
variable {a b:Expr}{ta tb:TE}{pos:Pos}
def B5{r:R2}(c:IxR X r)(ha:PE X a ta)(d:PE X b tb)(e:A4 b):PE X (.Subscript a b pos) (tOp r ta tb):=by intro RC s Z H Q I h;show w8 (wa ha d I h λv u s2 x y H2 f g i q=>c a b RC s2 Z H2 x y v u Q f g i q\e _ _)
def ixx{r:R2}(c:IxR X r)(ha:PE X a ta)(d:PE X b tb)(e:A4 b:=by (intro _ _;rfl)):PE X (.Subscript a b pos) (tOp r ta tb):=B5 c ha d e
def Nz(K:W.Frag)(x y:V)(H:Hp)(Q:VK)(p:pR)(xs:List V)(i:Int)(v:V):Prop:=x=.ref p/\y=.int i/\SqL K H p xs/\atI xs i*>v/\Q v H
def sF(K:W.Frag):R2:=λx y H Q=>Exists\Ex4 (Nz K x y H Q)
def Nw(K:W.Frag)(x y:V)(H:Hp)(Q:VK)(p:pR)(xs:List V)(i:Int)(v:V):Prop:=x=.ref p/\y=.int i/\SqT K H p xs/\atI xs i*>v/\Q v H
def ir(K:W.Frag):R2:=λx y H Q=>Exists\Ex4 (Nw K x y H Q)
def cJ:IxR X (sF []):=by
 intro value slice RC s Z H x y v u Q I e f h b;let#[p,xs,i,z,5,g,he,q]:=h;cases e;let#[t,1]:=f;let#[l,r,pl,hz]:=I.list g;let#[j,h1,h2,B,m,n]:=A1 he;let#[w,c,o]:=r.get h2;let A:=↑r;let C:=line63;let fin:EP X RC Z Q w s:=#[z,H,I,o,q];by_cases d:0<=i
 .let a:i.toNat=j:=by
   rw[Dh d n] at h1;show eg h1
  show item_listR pl.isList d () (by rw[a];simpa using c) fin b
 let a:(i+(l.toArray.size:Int)).toNat=j:=by rw[Dg () m] at h1;rw[bJ,<-A];show eg h1
 show P_ (x:=w) pl.isList.typeIs P7.lookup
  (wpAny_getItem_list_neg (Q:=λr s'=>r=w/\EP X RC Z Q r s') pl.isList () (by rw[bJ]<;>lia) () (by rw[a];simpa using c) #[1,fin]) b
def bf:IxR X (ir []):=by
 intro value slice RC s Z H x y v u Q I a b h c;let#[p,xs,i,z,5,d,he,q]:=h;cases a;let#[t,1]:=b;let#[l,r,pl,hz]:=I.tuple d;let#[j,h1,h2,m,n,o]:=A1 he;let#[w,e,f]:=r.get h2;let g:=↑r;let A:=line63;let fin:EP X RC Z Q w s:=#[z,H,I,f,q];show P_ (x:=w) pl.typeIs P9.lookup
  (getItem_tuple (j:=j) (Q:=λr s'=>r=w/\EP X RC Z Q r s') pl () () (by rw[bJ,<-g];show h1) ‹e› #[1,fin]) c
def ED(a:List pC)(n j:Nat)(u:pC):Obj.mapSeq (·.setIfInBounds j u) {cls:=.type ↑28,data:=.seq a.toArray n}={cls:=.type ↑28,data:=.seq (a.set j u).toArray n}:=by simp[Obj.mapSeq]
def Inv.lst{p:pR}(I:Inv X RC Z H s)(h:H p*>.lst xs) :
  ∃(a:List pC)(n:Nat),Vals xs a/\s.heap.get? p*>{cls:=.type ↑28,data:=.seq a.toArray n}/\↑xs<=sizeLine:=by
 let#[z,a,n,r,e]:=I.hok p _ h;erw[a,n,r,e,z]
def Inv.lstUpd{xs ys:List V}{c its':List pC}{n a:Nat}{f:Obj->Obj}(I:Inv X RC Z H s)(h:H p*>.lst xs)
  (d:s.heap.get? p*>{cls:=.type ↑28,data:=.seq c.toArray n}) (hf:f {cls:=.type ↑28,data:=.seq c.toArray n}={cls:=.type ↑28,data:=.seq its'.toArray a}) (r:Vals ys its') (hz:↑ys<=qs) (t:Nat) :
  Inv X RC Z (upd H p\.lst ys) {s with heap:=s.heap.update p f,toks:=t}:=by
 let e:(s.heap.update p f).get? p*>{cls:=.type ↑28,data:=.seq its'.toArray a}:=by rw[fh f d (by rw[hf]<;>rfl),hf]
 show I.write (x:=p) (e:=p) (by rw[h];trivial) (.inl rfl) (λb u g q=>(dY>>(aA g))<*q) #[_,e] ?_;erw[hz,its',a,r,e]
def Ln(o i v:V)(H:Hp)(Q:Hp->Prop)(p:pR)(xs:List V)(k:Int)(j:Nat):Prop:=o=.ref p/\i=.int k/\H p*>.lst xs/\ixN ↑xs k*>j/\WrO H p (.lst\xs.set j v) Q
def Nq:V->V->V->Hp->(Hp->Prop)->Prop:=λo i v H Q=>Exists\Ex4 (Ln o i v H Q)
def uj:PSet X Nq:=by
 intro RC s Z H o i v ov z u Q I w ri x h;let#[p,xs,k,j,5,d,y,q]:=h;replace q:=q.at;cases w;let#[t,1]:=ri;let#[e,n,r,a,hz]:=I.lst d;let#[h1,h2,f,g]:=uW y;let b:=↑r;let A:=line63;let l:Inv X RC Z (upd H p\.lst (xs.set j v)) {s with heap:=s.heap.update p\Obj.mapSeq (·.setIfInBounds j u)}:=
  I.lstUpd d a (ED e n j u) (r.set x j) (by rw[List.length_set];show hz) s.toks
 by_cases m:0<=k
 .let c:k.toNat=j:=by
   rw[Dh m g] at h1;show eg h1
  show W.ki_setAt a m () (by rw[bJ,<-b];show g) (by rw[c];erw[_,l,q])
 let c:(k+(e.toArray.size:Int)).toNat=j:=by rw[Dg () f] at h1;rw[bJ,<-b];show eg h1
 show W.ki_setBack a () (by rw[bJ,<-b];show f) () (by rw[c];erw[_,l,q])
def DV(lo hi:Option Int)(n:Nat):(sliceBounds lo hi n7 n).1=((HT.sIx n 0 lo:Nat):Int)/\(sliceBounds lo hi n7 n).2.1=((HT.sIx n n hi:Nat):Int)/\(sliceBounds lo hi n7 n).2.2=1:=by
 erw[?_,?_,1]
 .cases lo with
  |none=>simp[sliceBounds,HT.sIx]
  |some i=>
   simp only[sliceBounds,HT.sIx,O4,show (1:Int)>0 by decide,if_true];by_cases h:i<0
   .simp only[h,if_true]<;>lia
   simp only[h,if_false]<;>lia
 cases hi with
 |none=>simp[sliceBounds,HT.sIx]
 |some i=>
  simp only[sliceBounds,HT.sIx,O4,show (1:Int)>0 by decide,if_true];by_cases h:i<0
  .simp only[h,if_true]<;>lia
  simp only[h,if_false]<;>lia
def DO(a:List pC)(lo hi:Option Int):slicePick a.toArray lo hi n7=((a.drop\HT.sIx ↑a 0 lo).take (HT.sIx ↑a ↑a hi-HT.sIx ↑a 0 lo)).toArray:=by let#[h1,h2,b]:=DV lo hi a.toArray.size;unfold slicePick;rw[h1,h2,b];simp only[sliceRange_one,pick_run,bJ]<;>rfl
def Np(K:W.Frag)(x:V)(lo hi:Option Int)(H:Hp)(Q:VK)(a:pR)(xs:List V):Prop:=x=.ref a/\SqL K H a xs/\gX H (.lst\fG xs lo hi) Q
def rSlL(K:W.Frag):V->Option Int->Option Int->Hp->VK->Prop:=λx lo hi H Q=>Exists\Ex2 (Np K x lo hi H Q)
def lx:SlR X (rSlL []):=by intro RC s Z H x v f g lo hi sl Q I d e pl pu h;let#[a,xs,1,hx,q]:=h;cases d;let#[i,r,c,hz]:=I.list hx;let hlen:=↑r;erw[↑28,_,P7.lookup,c.isList.typeIs,?_];show wpAny_getItem_list_slice c.isList e pl pu .none ∅ ?_ (by rw[bJ]<;>lia);rw[DO,<-hlen];erw[.ref ↥s,_,I.laid (t':=s.toks) (o:=.lst\fG xs lo hi) (λb ob q=>aO _ q) (aq _) ?_,1,q.at\I.hok.fresh (aq _)];erw[cR (xF xs lo hi) hz,_,(0),(r.drop\HT.sIx ↑xs 0 lo).take (HT.sIx ↑xs ↑xs hi-HT.sIx ↑xs 0 lo),bI _ rfl]
def fY:V->Bool
 |.non=>oD
 |.bl _=>oD
 |.int _=>oD
 |.str _=>oD
 |_=>p6
def eqV:V->V->Bool
 |.non,.non=>oD
 |.bl a,.bl b=>a==b
 |.bl a,.int b=>(if a then 1 else 0)==b
 |.int a,.bl b=>a==(if b then 1 else 0)
 |.int a,.int b=>a==b
 |.str a,.str b=>a==b
 |_,_=>p6
def Mf(d:aC y u)(c:aC x v)(f:fY y=oD)(e:fY x=oD):SeqAt.EqAt A s u v (eqV y x):=by
 cases y with
 |non=>
  cases d;cases x with
  |non=>cases c;show Rr _
  |bl b=>cases c;show Ro b
  |int b=>let#[t,1]:=c;show Rp b t
  |str b=>let#[t,1]:=c;show Rq b t
  |_=>show absurd (show p6=oD from e) bG
 |bl a=>
  cases d;cases x with
  |non=>cases c;show Ri a
  |bl b=>cases c;show Rg a b
  |int b=>let#[t,1]:=c;show Rh a b t
  |str b=>let#[t,1]:=c;show Rj a b t
  |_=>show absurd (show p6=oD from e) bG
 |int a=>
  let#[t',1]:=d;cases x with
  |non=>cases c;show Rl a t'
  |bl b=>cases c;show Rk a t' b
  |int b=>let#[t,1]:=c;show PL a t' b t
  |str b=>let#[t,1]:=c;show PM a t' b t
  |_=>show absurd (show p6=oD from e) bG
 |str a=>
  let#[t',1]:=d;cases x with
  |non=>cases c;show Ru a t'
  |bl b=>cases c;show Rt a t' b
  |int b=>let#[t,1]:=c;show PN a t' b t
  |str b=>let#[t,1]:=c;show Rv a t' b t
  |_=>show absurd (show p6=oD from e) bG
 |_=>show absurd (show p6=oD from f) bG
def eqU(x:V)(u:pC):Bool:=match u with
 |.none=>eqV .non x
 |.bool b=>eqV (.bl b) x
 |.int i _=>eqV (.int i) x
 |.str z _=>eqV (.str z) x
 |_=>p6
def BF(r:aC y u)(f:fY y=oD):eqU x u=eqV y x:=by
 cases y with
 |non=>cases r;rfl
 |bl b=>cases r;rfl
 |int i=>let#[t,1]:=r;rfl
 |str z=>let#[t,1]:=r;rfl
 |_=>show absurd (show p6=oD from f) bG
def lI:∀{xs:List V}{us:List pC},Vals xs us->xs.all fY=oD->us.any (eqU x)=xs.any λy=>eqV y x
 |_,_,.nil,_=>rfl
 |y::xs,u::us,.cons r t,f=>by
  rw[Cr,g_] at f;rw[oJ,oJ,BF r f.1,lI t f.2]
def jR(b:aC x v)(c:fY x=oD):∀{xs:List V}{us:List pC},Vals xs us->xs.all fY=oD->∀u∈us,SeqAt.EqAt A s u v (eqU x u)
 |_,_,.nil,_=>λu a=>by cases a
 |y::xs,u::us,.cons r t,f=>λd a=>by
  rw[Cr,g_] at f;rcases aT.mp a with rfl|a
  .rw[BF r f.1];show Mf r b f.1 c
  show jR b c t f.2 d a
def inV(x:V)(xs:List V):Bool:=xs.any λy=>eqV y x
def rInB(K:W.Frag)(neg:Bool)(x y:V)(H:Hp)(Q:VK)(p:pR)(xs:List V):Prop:=y=.ref p/\(SqL K H p xs\/SqT K H p xs)/\fY x=oD/\xs.all fY=oD/\Q (.bl (if neg then !inV x xs else inV x xs)) H
def rIn(K:W.Frag)(neg:Bool):R2:=λx y H Q=>Exists\Ex2 (rInB K neg x y H Q)
def i8:OpR X (sD .In) (rIn [] p6):=by
 intro RC s Z H x y v u Q I c e h;let#[p,xs,1,a,d,fs,q]:=h;cases e;rcases a with a|a
 .let#[b,r,pl,hz]:=I.list a;show SeqAt.in_listAt (eqU x) pl.isList (λw hw=>jR c d r fs w ‹hw›) #[.bl _,H,I,1,?_];rw[show b.toArray.any (eqU x)=b.any (eqU x) by simp,lI r fs];show q
 let#[b,r,pl,hz]:=I.tuple a;show PP (eqU x) pl (λw hw=>jR c d r fs w ‹hw›) #[.bl _,H,I,1,?_];rw[show b.toArray.any (eqU x)=b.any (eqU x) by simp,lI r fs];show q
def i7:OpR X (sD .NotIn) (rIn [] oD):=by
 intro RC s Z H x y v u Q I c e h;let#[p,xs,1,a,d,fs,q]:=h;cases e;rcases a with a|a
 .let#[b,r,pl,hz]:=I.list a;show SeqAt.notIn_listAt (eqU x) pl.isList (λw hw=>jR c d r fs w ‹hw›) #[.bl _,H,I,1,?_];rw[show b.toArray.any (eqU x)=b.any (eqU x) by simp,lI r fs];show q
 let#[b,r,pl,hz]:=I.tuple a;show SeqAt.notIn_tupleAt (eqU x) pl (λw hw=>jR c d r fs w ‹hw›) #[.bl _,H,I,1,?_];rw[show b.toArray.any (eqU x)=b.any (eqU x) by simp,lI r fs];show q
def Lq(K:W.Frag)(xs:List V)(H:Hp)(Q:VK)(p:pR)(ys:List V):Prop:=xs=[.ref p]/\(SqL K H p ys\/SqT K H p ys)/\Q (.int ↑ys) H
def vN(K:W.Frag):List V->Hp->VK->Prop:=λxs H Q=>Exists\Ex2 (Lq K xs H Q)
def DY:c7 X (.builtin "len") (vN []):=by
 intro RC s Z H xs us Q I r h;let#[p,ys,1,a,q]:=h;let#[u,1,c]:=vals1 r;cases c;let e:=line63;rcases a with a|a
 .let#[d,b,pl,hz]:=I.list a;let hlen:=↑b;show Calls.call_len_list pl.isList (by simp only[bJ]<;>lia) #[.int ↑ys,H,I.tok _,#[s.toks+1,by rw[bJ,hlen]],q]
 let#[d,b,pl,hz]:=I.tuple a;let hlen:=↑b;show len_tuple pl (by simp only[bJ]<;>lia) #[.int ↑ys,H,I.tok _,#[s.toks+1,by rw[bJ,hlen]],q]
def pln{p pos:Pos}(hm:X.mg "len" = n7)(he:PE X e te)(b:Gl X "len":=by rfl)(a:r6 [e] X.env=(p6,sZ e X.env)::r6 [] X.env:=by rfl)(c:(tD pos\r6 ([]:List ry) X.env).any (·.1)=p6:=by rfl):PE X (.Call (.Name "len" p) [e] [] pos) (tCB (vN [])\ck te dH):=bP DY b hm PK (ae he fB a) ⋯ ⋯ a c
def Jn(K:W.Frag)(xs:List V)(H:Hp)(Q:VK)(p:pR)(ys:List V):Prop:=xs=[.ref p]/\(SqL K H p ys\/SqT K H p ys)/\gX H (.lst ys) Q
def Lp(K:W.Frag):List V->Hp->VK->Prop:=λxs H Q=>Exists\Ex2 (Jn K xs H Q)
def tO:c7 X (.type ↑28) (Lp []):=by
 intro RC s Z H xs us Q I r h;let#[p,ys,1,f,q]:=h;let#[u,1,j]:=vals1 r;cases j;let fin:∀(a:List pC),Vals ys a->↑ys<=qs->∀(h':rq)(c:Nat),(∀b o',s.heap.get? b*>o'->h'.get? b*>o')->
   h'.get? ↥s*>{cls:=.type ↑28,dict:=n7,data:=.seq a.toArray c,slots:=(tA [])}->EP X RC Z Q (.ref ↥s) {s with heap:=h'}:=λa d hz h' c kp e=>
  #[.ref ↥s,_,I.laid (t':=s.toks) kp (aq _) (show bh X.prog X.w _ h' _ (.lst ys) from #[hz,a,c,d,e]),1,q.at\I.hok.fresh (aq _)]
 rcases f with f|f
 .let#[a,d,pl,hz]:=I.list f;let hlen:=↑d;let#[o,g,i,n,hd]:=pl.isList;show call_list_seq p (.inl rfl) g i hd (λh' c kp e=>fin a d hz h' c kp e) (by simp only[bJ]<;>lia)
 let#[a,d,pl,hz]:=I.tuple f;let hlen:=↑d;let#[o,g,i,n,hd]:=pl;show call_list_seq p (.inr rfl) g i hd (λh' c kp e=>fin a d hz h' c kp e) (by simp only[bJ]<;>lia)
def kO:c7 X (.type ↑20) (λxs H Q=>∃p ys,xs=[.ref p]/\((SqL [] H p ys/\∀l,H l=n7->Q (.ref l)\upd H l (.tup ys))\/(SqT [] H p ys/\Q (.ref p) H))):=by
 intro RC s Z H xs us Q I r h;let#[p,ys,1,h]:=h;let#[u,1,g]:=vals1 r;cases g;rcases h with ⟨a,q⟩|⟨a,q⟩
 .let#[c,d,pl,hz]:=I.list a;let hlen:=↑d;show call_tuple_list pl.isList (λh' kp=>?_) (by simp only[bJ]<;>lia);let f:Inv X RC Z H {s with heap:=h'}:=I.kept (t':=s.toks) kp;let i:Inv X RC Z (upd H h'.objs.size\.tup ys) {s with heap:=h'.push {cls:=.type ↑20,data:=.seq c.toArray}}:=
   f.laid (t':=s.toks) (λb o e=>aO _ e) (aq _) (show bh X.prog X.w _ _ _ (.tup ys) from #[#[hz,_,bI _ rfl,1],c,d,sS _ _])
  erw[.ref h'.objs.size,_,i,1,q _\f.hok.fresh (aq _)]
 let#[c,d,pl,hz]:=I.tuple a;show call_tuple_same pl #[.ref p,H,I,1,q]
def tyV(K:W.Frag)(T:String)(x:V)(H:Hp):Prop:=match x with
 |.str _=>T = "str"
 |.int _=>T = "int"
 |.ref p=>(T = ↑28/\∃xs,SqL K H p xs)\/(T = ↑20/\∃o,K.lookup p*>o/\o.cls=.type ↑20/\o.dict=n7) \/
   (T = ↑69/\((∃kvs,H p*>.dK kvs)\/∃kvs,H p*>.dT kvs))\/(T = "set"/\∃S n,H p*>.set S n)
 |_=>False
def Kx{T:String}(I:Inv X RC Z H s)(r:aC x v)(ty:tyV [] T x H):
  s.TypeIs v T/\∀a,v=.ref a->∃ob,s.heap.get? a*>ob/\ob.dict=n7:=by
 cases x with
 |str z=>
  let#[t,1]:=r;cases (show T = "str" from ty);erw[typeIs_str s z t,λ_ e=>nomatch e]
 |int i=>
  let#[t,1]:=r;cases (show T = "int" from ty);erw[typeIs_int s i t,λ_ e=>nomatch e]
 |ref p=>
  cases r;rcases ty with ⟨rfl,xs,f⟩|⟨rfl,o,b,g,hd⟩|⟨rfl,b⟩|⟨rfl,S,n,b⟩
  .let#[h,_,pl,_]:=I.list f;erw[pl.isList.typeIs,λa e=>?_];cases e;let#[o,n,e,c,hd,_]:=pl;erw[o,e,hd]
  .cases b
  .let z:∃o,s.heap.get? p*>o/\o.ExactDict:=by
    rcases b with ⟨kvs,b⟩|⟨kvs,b⟩
    .let#[8,_,o,0,e,ex,_]:=I.hok p _ b;erw[o,e,ex]
    let#[8,_,o,0,e,ex,_]:=I.hok p _ b;erw[o,e,ex]
   let#[o,e,ex]:=z;erw[#[o,e,ex.1],λa d=>?_];cases d;erw[o,e,ex.2.1]
  let#[o,8,e,ex,_]:=I.hok p _ b;erw[#[o,e,ex.1],λa d=>?_];cases d;erw[o,e,ex.2.1]
 |_=>show False.elim ty
def tBM2(r:V->List V->Hp->VK->Prop)(x:V)(Q:VK):List V->Hp->Prop:=λxs H2=>r x xs H2 Q
def tBM1(K:W.Frag)(T:String)(r:V->List V->Hp->VK->Prop)(t:TA)(Z:St)(Q:VK):VK:=λx H1=>tyV K T x H1/\t Z H1\tBM2 r x Q
def tBM(K:W.Frag)(T:String)(r:V->List V->Hp->VK->Prop)(to:TE)(t:TA):TE:=λZ H Q=>to Z H\tBM1 K T r t Z Q
variable {o e:Expr}{es:List Expr}{to:TE}{t:TA}{name:Str}{apos cpos:Pos}{T id:String}{r:V->List V->Hp->VK->Prop}
def dR(d:PlainAttrs T)(slot:Slot T name id)(f:typeOf (.builtin id)=pure\.type "method_descriptor")(hm:MtR X id r)(g:PE X o to)(ha:PA X (e::es) t)
  (i:CM o name X.env (sZ o X.env)=sZ o X.env:=by rfl)
  (j:((tD cpos\r6 (e::es) X.env).all (λx=>!x.1)&&(backToKw cpos\keywordEach [] X.env).all (λx=>x.1.isSome)
   && decide (↑(e::es)+↑([]:List Keyword)+(if ([]:List Keyword).isEmpty then 0 else 1)<30))=oD:=by rfl)
  (l:(apos.endLine==cpos.line)=oD:=by rfl) (m:r6 (e::es) X.env=(p6,sZ e X.env)::r6 es X.env:=by rfl) (n:(tD cpos\r6 es X.env).any (·.1)=p6:=by rfl) :
  PE X (.Call (.Attribute o name apos) (e::es) [] cpos) (tBM [] T r to t):=by
 intro RC s Z H Q I h;show Qb i j l rfl (thn (g RC s Z H _ I h) λv s1 p=>?_);let#[x,H1,a,b,ty,q]:=p;let#[h1,h2]:=Kx a b ty;erw[T,id,d,slot,f,h1,h2,?_];let c:=ha cpos RC s1 Z H1 _ a q;rw[m] at c |-;show mv (by change (p6||(tD cpos\r6 es X.env).any (·.1))=p6;rw[n]<;>rfl)\mw ?_;show thn c λus s2 ⟨vs,H2,u,w,y⟩=>hm RC s2 Z H2 x vs v us Q u b w y
end
end L2
namespace L2
open PySem PySem.Spec PyProof.Rows
def MtM(X:Cx)(id:String)(r:V->List V->Hp->VK->Prop):Prop:=
 ∀(RC:List (pR×Obj))(s:pS)(Z:St)(H:Hp)(x:V)(xs:List V)(v:pC)(us:List pC)(Q:VK),Inv X RC Z H s->aC x v->Vals xs us->r x xs H Q->
  q7 ⇑X X.A (call (.builtin id) (v::us)) (EP X RC Z Q) X.xe s
def Vals.one{x:V}(h:Vals [x] us):∃u,us=[u]/\aC x u:=by
 cases h with
 |cons r t=>cases t;erw[2,r]
def Vals.two{x y:V}(h:Vals [x,y] us):∃u v,us=[u,v]/\aC x u/\aC y v:=by
 cases h with
 |cons r t=>
  let#[v,1,q]:=Vals.one t;erw[_,v,1,r,q]
def Vals.eraseIdx:∀{xs:List V}{us:List pC}(i:Nat),Vals xs us->Vals (xs.eraseIdx i) (us.eraseIdx i)
 |_,_,_,.nil=>.nil
 |_,_,0,.cons _ t=>t
 |_,_,i+1,.cons r t=>.cons r\Vals.eraseIdx i t
def yJ{α:Type}:∀(l:List α)(i:Nat),↑(l.eraseIdx i)<=↑l
 | [],_=>aq _
 |_::_,0=>mH _
 |_::r,i+1=>Nat.succ_le_succ\yJ r i
section
variable {l b:Addr}{xs ys zs:List V}
def Inv.lset{a its':List pC}{n:Nat}{f:Array pC->Array pC}{t':Nat}(I:Inv X RC Z H s)(b:H l*>.lst xs)
  (e:s.heap.get? l*>{cls:=.type ↑28,data:=.seq a.toArray n}) (hf:f a.toArray=its'.toArray) (c:Vals ys its') (hz:↑ys<=qs) :
  Inv X RC Z (upd H l\.lst ys) {s with heap:=s.heap.update l\Obj.mapSeq f,toks:=t'}:=by
 let q:=PySem.IsL.update e f;rw[hf] at q;show I.write (x:=l) (e:=l) (by rw[b];show trivial) (.inl rfl) (λh u d g=>(dY s.heap (Obj.mapSeq f)\aA d)<*g) #[_,q] ?_;erw[hz,its',_,c,q]
def Inv.lnew{t':Nat}(I:Inv X RC Z H s)(b:Vals ys a)(hz:↑ys<=qs):
  Inv X RC Z (upd H ↥s\.lst ys) {s with heap:=s.heap.push {cls:=.type ↑28,data:=.seq a.toArray},toks:=t'}:=
 I.laid (λ_ _ q=>aO _ q) (aq _) #[hz,a,(0),b,bI _ rfl]
def Inv.fresh(I:Inv X RC Z H s):H ↥s=n7:=I.hok.fresh\aq _
def Inv.lstM(I:Inv X RC Z H s)(b:H l*>.lst xs):↑xs<=qs/\∃(a:List pC)(n:Nat),Vals xs a/\↑xs=↑a/\s.heap.get? l*>{cls:=.type ↑28,data:=.seq a.toArray n}:=by let#[z,a,n,r,e]:=I.hok l _ b;erw[z,a,n,r,↑r,e]
end
section
def Gy(x:V)(vs:List V)(H:Hp)(Q:VK)(l:pR)(xs:List V)(y:V):Prop:=x=.ref l/\vs=[y]/\H l*>.lst xs/\↑xs<qs/\WrO H l (.lst (xs++[y]))\Q .non
def Js:V->List V->Hp->VK->Prop:=λx vs H Q=>Exists\Ex3 (Gy x vs H Q)
def fm:MtM X "list.append" Js:=by intro RC s Z H x vs v us Q I c d h;let#[l,xs,y,5,a,hz,q]:=h;cases c;let#[u,1,f]:=d.one;let#[z,b,n,r,g,e]:=I.lstM a;show C_ F.slot_list_append #[_,e,1] F.entry_list_append (F.args_list_append_2 _ _) (PySem.list_append l b.toArray n u (by rw[bJ];lia)) #[e,?_];erw[.non,_,I.lset (its':=b++[u]) a e ∅ (r.append\.cons f .nil) ?_,1,q.at];rw[bj,cw];lia
def Jm(x:V)(vs:List V)(H:Hp)(Q:VK)(l:pR)(xs:List V)(i:Int)(k:Nat)(y:V):Prop:=x=.ref l/\vs=[.int i]/\H l*>.lst xs/\-(2 ^ 63)<=i/\i<2 ^ 63/\seqIndex? i ↑xs*>k/\xs[k]?*>y/\WrO H l (.lst\xs.eraseIdx k)\Q y
def Br:V->List V->Hp->VK->Prop:=λx vs H Q=>Exists\Ex5 (Jm x vs H Q)
def zJ:MtM X "list.pop" Br:=by
 intro RC s Z H x vs v us Q I c d h;let#[l,xs,i,k,y,5,b,h1,h2,f,g,q]:=h;cases c;let#[u,1,j]:=d.one;let#[t,1]:=j;let#[z,a,n,r,m,e]:=I.lstM b;let#[w,hw,o]:=r.get g;show C_ F.slot_list_pop #[_,e,1] F.entry_list_pop (F.args_list_pop_2 _ _)
  (MeetsSeq.list_pop_at l a.toArray n i t k w (P2 h1 h2) (by rw[bJ,<-m];show f) (by rw[<-jB];show hw) (by rw[bJ];lia)) #[e,?_]
 erw[y,_,I.lset (its':=a.eraseIdx k) b e ?_ (r.eraseIdx k) ?_,o,q.at]
 .change a.toArray.eraseIdxIfInBounds k=(a.eraseIdx k).toArray;rw[List.eraseIdxIfInBounds_toArray]
 have:=yJ xs k;lia
def NI(x y:V)(H:Hp)(Q:VK)(l b:pR)(xs zs:List V):Prop:=x=.ref l/\y=.ref b/\H l*>.lst xs/\H b*>.lst zs/\↑xs+↑zs<=qs/\gX H (.lst (xs++zs)) Q
def rCat:R2:=λx y H Q=>Exists\Ex4 (NI x y H Q)
def eJ:OpR X (binaryOp .Add) rCat:=by intro RC s Z H x y v u Q I d f h;let#[l,b,xs,zs,5,g,i,hz,q]:=h;cases d;cases f;let#[z,a,n,r,p,e]:=I.lstM g;let#[w,c,A,j,B,m]:=I.lstM i;show PySem.P.add_list e m ?_ (by rw[bJ,bJ];lia);let o:a.toArray++c.toArray=(a++c).toArray:=∅;rw[o];erw[.ref _,_,I.lnew (t':=s.toks) (r.append j) (by rw[bj];lia),1,q.at I.fresh]
end
section
variable {prog:Program}
set_option maxRecDepth 100000 in
end
section
end
end L2
namespace L2
open PySem PySem.Spec PyProof.Rows
section
variable {κ:Type}[DecidableEq κ]
def bp(kvs:List (κ×V))(k:κ):Option V:=(kvs.find? λa=>decide (a.1=k)).map (·.2)
def cQ(kvs:List (κ×V))(k:κ)(v:V):List (κ×V):=
 if (kvs.any λa=>decide (a.1=k))=oD then kvs.map (λa=>if a.1=k then (a.1,v) else a) else kvs++[(k,v)]
def j9(kvs:List (κ×V))(k:κ):List (κ×V):=kvs.filter λa=>decide (a.1≠k)
def iE{p:κ×V}{r:List (κ×V)}{k:κ}(e:p.1=k):bp (p::r) k*>p.2:=by simp[bp,oK,e]
def gG{p:κ×V}{r:List (κ×V)}{k:κ}(e:¬p.1=k):bp (p::r) k=bp r k:=by simp[bp,oK,e]
def pU(k:κ):∀kvs:List (κ×V),(kvs.any λa=>decide (a.1=k))=(bp kvs k).isSome
 | []=>rfl
 |p::r=>by
  rw[oJ];by_cases e:p.1=k
  .simp only[iE e,Rz e,Bool.true_or,Option.isSome_some]
  rw[gG e,RA e,Bool.false_or];show pU k r
def ng(kvs:List (κ×V))(k:κ)(v:V):↑(cQ kvs k v)<=↑kvs+1:=by
 unfold cQ
 split
 .rw[av];lia
 rw[bj,cv,kr];lia
def nE{kvs:List (κ×V)}{k:κ}(v:V)(h:bp kvs k=n7):cQ kvs k v=kvs++[(k,v)]:=by unfold cQ;rw[pU,h];show Rx ⋯
def dN.isSome_eq{o:Option V}{u:Option pC}(r:dN o u):o.isSome=u.isSome:=by
 cases o with
 |none=>cases u with
  |none=>rfl
  |some _=>show (show False from r).elim
 |some _=>cases u with
  |none=>show (show False from r).elim
  |some _=>rfl
def dN.getD{o:Option V}{u:Option pC}(r:dN o u)(rd:aC d d'):aC (o.getD d) (u.getD d'):=by
 cases o with
 |none=>cases u with
  |none=>show rd
  |some _=>show (show False from r).elim
 |some _=>cases u with
  |none=>show (show False from r).elim
  |some _=>show r
def KV.val{kvs:List (κ×V)}{vs:List (κ×pC)}(r:KV kvs vs)(k:κ):dN (bp kvs k) (valueAt vs k):=by
 unfold KV at r;induction r with
 |nil=>show True.intro
 | @cons p q ps a h t d=>
  let#[h1,h2]:=h;by_cases e:p.1=k
  .let c:q.1=k:=h1.symm<*e;let b:valueAt (q::a) k*>q.2:=by simp[valueAt,oK,c]
   rw[iE e,b];show h2
  let c:¬q.1=k:=λz=>e\h1.trans z;let b:valueAt (q::a) k=valueAt a k:=by simp[valueAt,oK,c]
  rw[gG e,b];show d
def KV.any{kvs:List (κ×V)}{vs:List (κ×pC)}(r:KV kvs vs)(k:κ):(kvs.any λa=>decide (a.1=k))=vs.any λa=>decide (a.1=k):=by
 unfold KV at r;induction r with
 |nil=>rfl
 |cons h t b=>rw[oJ,oJ,b,h.1]
def KV.repl{kvs:List (κ×V)}{vs:List (κ×pC)}(r:KV kvs vs)(k:κ)(b:aC y u):
  KV (kvs.map λa=>if a.1=k then (a.1,y) else a) (vs.map λa=>if a.1=k then (a.1,u) else a):=by
 unfold KV at r |-;induction r with
 |nil=>show .nil
 | @cons p q ps d h t c=>
  rw[br,br];show .cons ?_ c;let#[h1,h2]:=h;by_cases e:p.1=k
  .rw[Ry e,Ry\h1.symm.trans e];erw[h1,b]
  rw[Rx e,Rx λz=>e\h1.trans z];erw[h1,h2]
def KV.put{kvs:List (κ×V)}{vs:List (κ×pC)}(r:KV kvs vs)(k:κ)(a:aC y u):KV (cQ kvs k y) (stored vs k u):=by
 unfold cQ stored;rw[r.any k];by_cases e:(vs.any λb=>decide (b.1=k))=oD
 .rw[Ry e,Ry e];show r.repl k a
 rw[Rx e,Rx e];show O5 r #[1,a]
def KV.drop{kvs:List (κ×V)}{vs:List (κ×pC)}(r:KV kvs vs)(k:κ):KV (j9 kvs k) (without vs k):=by
 unfold KV at r |-;unfold j9 without;induction r with
 |nil=>show .nil
 | @cons p q ps f h t c=>
  let#[h1,h2]:=h;rw[fi,fi];by_cases e:p.1=k
  .let a:¬decide (p.1≠k)=oD:=by simp[e]
   let b:¬decide (q.1≠k)=oD:=by simp[h1.symm<*e]
   rw[Rx a,Rx b];show c
  let d:¬q.1=k:=λz=>e\h1.trans z;let a:decide (p.1≠k)=oD:=by simp[e]
  let b:decide (q.1≠k)=oD:=by simp[d]
  rw[Ry a,Ry b];show .cons #[h1,h2] c
def KV.length{kvs:List (κ×V)}{vs:List (κ×pC)}(r:KV kvs vs):↑kvs=↑vs:=oS r
def Ih(kvs:List (κ×V))(k:κ):↑(j9 kvs k)<=↑kvs:=dI _ _
end
def ip{k:Key}(r:aC (kV k) u):(dw P w).is k u=oD:=by
 cases k with
 |inl i=>let#[t,e]:=(show ∃t,u=Value.int i t from r);subst e;show D_ P w i t
 |inr x=>let#[t,e]:=(show ∃t,u=Value.str x t from r);subst e;show D9 P w x t
def yN:∀{ks:List Key}{us:List pC},Vals (ks.map kV) us->ItemsAre (dw P w) ks us
 | [],_,r=>by rw[CJ] at r;cases r;show .nil
 |k::ks,_,r=>by
  rw[br] at r;cases r with
  |cons h t=>show .cons (ip h)\yN t
abbrev KT(H:Hp):List (List Key×V)->List (List Key×pR×pC)->Prop:=Paired λp q=>p.1=q.1/\H q.2.1*>.tup (p.1.map kV)/\aC p.2 q.2.2
def KT.val{kvs:List (List Key×V)}{xs:List (List Key×pR×pC)}(r:KT H kvs xs)(k:List Key):dN (bp kvs k) ((atKey xs k).map (·.2)):=by
 induction r with
 |nil=>show True.intro
 | @cons p q ps a h t d=>
  let#[h1,_,h2]:=h;by_cases e:p.1=k
  .let c:q.1=k:=h1.symm<*e;let b:atKey (q::a) k*>q.2:=by simp[atKey,oK,c]
   rw[iE e,b];show h2
  let c:¬q.1=k:=λz=>e\h1.trans z;let b:atKey (q::a) k=atKey a k:=by simp[atKey,oK,c]
  rw[gG e,b];show d
def KT.repl{kvs:List (List Key×V)}{xs:List (List Key×pR×pC)}(r:KT H kvs xs)(k:List Key)(b:aC y u):
  KT H (kvs.map λa=>if a.1=k then (a.1,y) else a) (xs.map\putAt k u):=by
 induction r with
 |nil=>show .nil
 | @cons p q ps f h t c=>
  rw[br,br];show .cons ?_ c;let#[h1,h2,d]:=h;unfold putAt;by_cases e:p.1=k
  .rw[Ry e,Ry\h1.symm.trans e];erw[h1,h2,b]
  rw[Rx e,Rx λz=>e\h1.trans z];erw[h1,h2,d]
def KT.put{kvs:List (List Key×V)}{xs:List (List Key×pR×pC)}(r:KT H kvs xs)(k:List Key)(c:H b*>.tup\k.map kV)(a:aC y u):
  KT H (cQ kvs k y) (storedH xs k b u):=by
 let e:(kvs.any λd=>decide (d.1=k))=(atKey xs k).isSome:=by rw[pU,(r.val k).isSome_eq,CU]
 unfold cQ storedH;rw[e];by_cases q:(atKey xs k).isSome=oD
 .rw[Ry q,Ry q];show r.repl k a
 rw[Rx q,Rx q];show O5 r #[1,c,a]
def KT.keeps{kvs:List (List Key×V)}{xs:List (List Key×pR×pC)}(r:KT H kvs xs)(a:∀b ys,H b*>.tup ys->H' b*>.tup ys):KT H' kvs xs:=
 Paired.mapP r λ_ _ z=>#[z.1,a>>z.2.1,z.2.2]
section
variable {h:Heap}{a:Addr}
def B2(ok:HOk P w H h)(e:Rd H a u):bh P w H h a u:=e.ok ok
def fg{kvs:List (Key×V)}(ok:HOk P w H h)(e:Rd H a\.dK kvs):↑kvs<=qs/\(a==tf)=p6/\∃vs,KV kvs vs/\h.DictOf (dw P w) a vs:=
 show bh P w H h a (.dK kvs) from B2 ok e
def ou{kvs:List (Key×V)}(ok:HOk P w H h)(e:H a*>.dK kvs):↑kvs<=qs/\(a==tf)=p6/\∃vs,KV kvs vs/\h.DictOf (dw P w) a vs:=fg ok\.inl e
def j4{ks:List Key}(ok:HOk P w H h)(e:H a*>.tup\ks.map kV):(tupleKind\dw P w).is h ks a:=by let#[_,b,r,o,h1,h2,n,c]:=(show bh P w H h a (.tup\ks.map kV) from ok a _ e);erw[o,b.toArray,n,h1,h2,c,‹yN r›]
def iO{kvs:List (List Key×V)}(ok:HOk P w H h)(e:Rd H a\.dT kvs):↑kvs<=qs/\(a==tf)=p6/\
  ∃xs,KT H kvs xs/\h.DictOfH (tupleKind\dw P w) a xs:=by
 let#[z,y,xs,r,o,es,ep,h1,h2,c,d,f]:=(show bh P w H h a (.dT kvs) from B2 ok e);erw[z,y,xs,r,o,es,ep,h1,h2,c,d,λx hx=>?_,f];let all:∀{l:List (List Key×V)}{m:List (List Key×pR×pC)},KT H l m->∀x∈m,(tupleKind\dw P w).is h x.1 x.2.1:=by
  intro l m q;induction q with
  |nil=>intro x hx;show nomatch hx
  | @cons p q ps i b t g=>
   intro x hx;rcases aT.mp hx with e|hx
   .subst e;show j4 ok (by rw[<-b.1];show b.2.1)
   show g x hx
 show all r x hx
def Ca{kvs:List (List Key×V)}(ok:HOk P w H h)(e:H a*>.dT kvs):↑kvs<=qs/\(a==tf)=p6/\
  ∃xs,KT H kvs xs/\h.DictOfH (tupleKind\dw P w) a xs:=iO ok\.inl e
end
def DGet(H:Hp)(a:pR)(y:V)(r:Option V):Prop:=
 (∃kvs k,Rd H a (.dK kvs)/\y=kV k/\r=bp kvs k)\/∃kvs k b,Rd H a (.dT kvs)/\y=.ref b/\H b*>.tup (k.map kV)/\r=bp kvs k
def DPut(H:Hp)(a:pR)(y v:V)(H':Hp):Prop:=
 (∃kvs k,H a*>.dK kvs/\y=kV k/\↑kvs<qs/\H'=upd H a\.dK (cQ kvs k v)) \/
 ∃kvs k b,H a*>.dT kvs/\y=.ref b/\H b*>.tup (k.map kV)/\↑kvs<qs/\H'=upd H a\.dT (cQ kvs k v)
def DGet.k{kvs:List (Key×V)}{k:Key}(e:H a*>.dK kvs):DGet H a (kV k) (bp kvs k):=.inl #[kvs,k,.inl e,5]
def DGet.t{kvs:List (List Key×V)}{k:List Key}(e:H a*>.dT kvs)(c:H b*>.tup\k.map kV):DGet H a (.ref b) (bp kvs k):=.inr #[kvs,k,b,.inl e,1,c,1]
def DPut.k{kvs:List (Key×V)}{k:Key}(e:H a*>.dK kvs)(b:↑kvs<qs):DPut H a (kV k) v (upd H a\.dK (cQ kvs k v)):=.inl #[kvs,k,e,1,b,1]
def DPut.t{kvs:List (List Key×V)}{k:List Key}{v:V}(e:H a*>.dT kvs)(c:H b*>.tup\k.map kV)(d:↑kvs<qs):
  DPut H a (.ref b) v (upd H a\.dT (cQ kvs k v)):=.inr #[kvs,k,b,e,1,c,d,1]
section
variable {a:Addr}{y v:V}{u r:Value}{o:Option V}
def Inv.big(I:Inv X RC Z H s):tf<↥s:=by let h:r4<↥s:=(I.mod.glob.keeps I.bk).lt;show oP ⋯ h
def FF{Q:pC->pS->Prop}(j:A.units+1<vk)(I:Inv X RC Z H s)(g:DGet H a y\oy v)(i:aC y u)(h:∀c s',Inv X RC Z H s'->aC v c->Q c s'):
  q7 ⇑X A (getItem (.ref a) u) Q E s:=by
 rcases g with ⟨kvs,k,e,d,l⟩|⟨kvs,k,b,e,d,m,l⟩
 .subst d;let#[z,hd,vs,rel,dd]:=fg I.hok e;let#[c,hw,f]:=dN.some_of (v:=v) (o:=valueAt vs k) (by rw[l];show rel.val k);show wpAny_getItem_of (ip i) dd.mapOf hw\h c _ (I.tok _) f
 subst d;cases (show u=Value.ref b from i);let#[z,hd,xs,rel,dd]:=iO I.hok e;let#[c,hw,f]:=dN.some_of (v:=v) (o:=(atKey xs k).map (·.2)) (by rw[l];show rel.val k);let#[p,n,q]:=cA.mp hw;show wpAny_getItem_heap (o_ j) (j4 I.hok m) dd n ?_;rw[q];show h c _ (I.tok _) f
def d_in{Q:pC->pS->Prop}(f:A.units+1<vk)(I:Inv X RC Z H s)(g:DGet H a y o)(d:aC y u)(h:∀s',Inv X RC Z H s'->Q (.bool o.isSome) s'):
  q7 ⇑X A (sD .In u\.ref a) Q E s:=by
 rcases g with ⟨kvs,k,e,c,l⟩|⟨kvs,k,b,e,c,i,l⟩
 .subst c;let#[z,hd,vs,rel,dd]:=fg I.hok e;show wpAny_in_of (ip d) hd dd.mapOf ?_;rw[<-(rel.val k).isSome_eq,<-l];show h _\I.tok _
 subst c;cases (show u=Value.ref b from d);let#[z,hd,xs,rel,dd]:=iO I.hok e;show wpAny_in_heap (o_ f) (j4 I.hok i) hd dd ?_;let q:=(rel.val k).isSome_eq;rw[CU] at q;rw[<-q,<-l];show h _\I.tok _
def Ki{Q:pC->pS->Prop}(f:A.units+1<vk)(I:Inv X RC Z H s)(g:DGet H a y o)(d:aC y u)(h:∀s',Inv X RC Z H s'->Q (.bool (!o.isSome)) s'):
  q7 ⇑X A (sD .NotIn u\.ref a) Q E s:=by
 rcases g with ⟨kvs,k,e,c,l⟩|⟨kvs,k,b,e,c,i,l⟩
 .subst c;let#[z,hd,vs,rel,dd]:=fg I.hok e;show wpAny_notIn_of (ip d) hd dd.mapOf ?_;rw[<-(rel.val k).isSome_eq,<-l];show h _\I.tok _
 subst c;cases (show u=Value.ref b from d);let#[z,hd,xs,rel,dd]:=iO I.hok e;show wpAny_notIn_heap (o_ f) (j4 I.hok i) hd dd ?_;let q:=(rel.val k).isSome_eq;rw[CU] at q;rw[<-q,<-l];show h _\I.tok _
def n6{h':rq}{t':Nat}(I:Inv X RC Z H s)(c:Mut\H a)(d:Heap.SameBut a s.heap h')(he:∃q,h'.get? a*>q)(new:bh X.prog X.w (upd H a ob) h' a ob):
  Inv X RC Z (upd H a ob) {s with heap:=h',toks:=t'}:=
 I.write (x:=a) (e:=a) c (.inl rfl) (λb q f z=>(d.2 b f)<*z) he new
def oo{H':Hp}{h':rq}{kvs:List (Key×V)}{vs:List (Key×pC)}(z:↑kvs<=qs)(hd:(a==tf)=p6)(rel:KV kvs vs)(dd:h'.DictOf (dw P w) a vs):
  bh P w H' h' a (.dK kvs):=#[z,hd,vs,rel,dd]
def FE{H':Hp}{Q:Unit->pS->Prop}(C:A.units+1<vk)(I:Inv X RC Z H s)(g:DPut H a y v H')(o:aC y u)(p:aC v r)(h:∀s',Inv X RC Z H' s'->Q .unit s'):
  q7 ⇑X A (setItem (.ref a) u r) Q E s:=by
 rcases g with ⟨kvs,k,e,i,l,j⟩|⟨kvs,k,b,e,i,x,l,j⟩
 .subst i j;let#[z,hd,vs,rel,dd]:=ou I.hok e;let hz:↑vs<=sizeLine:=by rw[<-↑rel];show z
  let m:↑(cQ kvs k v)<=sizeLine:=by have:=ng kvs k v;lia
  show wpAny_setItem_pairs (hsz:=hz) (ip o) dd λh' d n=>h _ ?_;let he:∃q,h'.get? a*>q:=let ⟨q,_,_,f,_⟩:=d;#[q,f];show n6 I (by rw[e];show True.intro) n he\oo m hd (rel.put k p) d
 subst i j;cases (show u=Value.ref b from o);let#[z,hd,xs,rel,dd]:=Ca I.hok e;let hz:↑xs<=sizeLine:=by rw[<-oS rel];show z
 let m:↑(cQ kvs k v)<=sizeLine:=by have:=ng kvs k v;lia
 show wpAny_setItem_heap (hsz:=hz) (o_ C) (j4 I.hok x) dd λh' d n=>h _ ?_;let#[q,es,ep,f,h2,D,K,_,L]:=d;show n6 I (by rw[e];show True.intro) n #[q,f] #[m,hd,_,(rel.put k x p).keeps λc ys B=>?_,q,es,ep,f,h2,D,K,L];rw[ar\bW B e λz=>nomatch z];show B
end
section
variable {a:Addr}{kvs:List (Key×V)}{k:Key}{u:Value}
def N_{v:V}{more:List pC}{Q:pC->pS->Prop}(I:Inv X RC Z H s)(e:H a*>.dK kvs)(c:aC (kV k) u)(l:bp kvs k*>v)(hm:more=[]\/∃x,more=[x])
  (h:∀b s',Inv X RC Z (upd H a\.dK (j9 kvs k)) s'->aC v b->Q b s'):q7 ⇑X A (call (.builtin "dict.pop") (.ref a::u::more)) Q E s:=by
 let#[z,hd,vs,rel,dd]:=ou I.hok e;let#[b,hw,f]:=dN.some_of (v:=v) (o:=valueAt vs k) (by rw[<-l];show rel.val k);let g:(keyPart u).isSome=oD:=by
  cases k with
  |inl i=>let#[t,q]:=(show ∃t,u=Value.int i t from c);subst q;rfl
  |inr x=>let#[t,q]:=(show ∃t,u=Value.str x t from c);subst q;rfl
 let ha:argsOk "dict.pop" #[.ref a::u::more,[]]:=by
  rcases hm with q|⟨x,q⟩
  .subst q;show PySem.F.args_dict_pop_2 _ _
  subst q;show PySem.F.args_dict_pop_3 _ _ _
 show mL Pl dd.typeIs PySem.F.entry_dict_pop ha (meets_dict_pop_there (dw X.prog X.w) a (ip c) more hm g)
  #[vs,b,dd,by rw[<-↑rel];show z,hw,λh' d j=>h b _ ?_ f]
 let he:∃q,h'.get? a*>q:=let ⟨q,_,_,m,_⟩:=d;#[q,m];show n6 I (by rw[e];show True.intro) j he\oo (cR (Ih kvs k) z) hd (rel.drop k) d
def Oa{Q:pC->pS->Prop}(I:Inv X RC Z H s)(e:Rd H a\.dK kvs)(h:∀t s',Inv X RC Z H s'->Q (.int ↑kvs t) s'):q7 ⇑X A (call (.builtin "len") [.ref a]) Q E s:=by let#[z,hd,vs,rel,dd]:=fg I.hok e;show call_len_dict hd dd (by rw[<-↑rel];rw[cY] at z;lia) ?_;rw[<-↑rel];show h _ _\I.tok _
end
def NoSl(i:ry):Prop:=∀ov a,subscripted i p6 ov a=operate [ov,a]\getItem ov a
def IC{prog:rp}{env:Env}{value slice:ry}{pos:Pos}{T id:String}{Q:pC->pS->Prop}
  (b:typeLookup (.type T) "__getitem__" = pure\oy (.builtin id)) (c:NoSl slice)
  (h:q7 (rb prog w) A (sZ value env) (λo s₁=>q7 (rb prog w) A (sZ slice env) (λi s₂=>s₂.TypeIs o T/\q7 (rb prog w) A (getItem o i) Q E s₂) E s₁) E s) :
  q7 (rb prog w) A (sZ (.Subscript value slice pos) env) Q E s:=by
 show w8 (bZ h (λo s₁ h₁=>bZ h₁ (λi s₂ h₂=>?_) λ_ _ x=>x) λ_ _ x=>x);let#[a,h₂]:=h₂;unfold subscriptTail;show aa ?_;rw[getitemInPython_of_ne a.not_modules];show aa\DA a b ?_;let fin:q7 (rb prog w) A (subscripted slice p6 o i) (λr s₃=>q7 (rb prog w) A (letTemporaryGo value o r >>= λ_=>pure r) Q E s₃) E s₂:=by rw[c o i];show wpAny_operating (bZ h₂ (λr s₃ h₃=>aa\wpAny_letTemporaryGo (ai h₃)) λ_ _ x=>x)
 first
  |show ai\aa fin
  |show aa\ai (aa fin)
  |show aa fin
def Ed{o:Option V}(I:Inv X RC Z H s)(g:DGet H a y o):s.TypeIs (.ref a) ↑69:=by
 rcases g with ⟨kvs,k,e,_,_⟩|⟨kvs,k,b,e,_,_,_⟩
 .let#[0,vs,_,dd]:=fg I.hok e;show dd.typeIs
 let#[0,xs,_,dd]:=iO I.hok e;show dd.typeIs
def KN(x y:V)(H2:Hp)(Q:VK)(a:pR)(v:V):Prop:=x=.ref a/\DGet H2 a y (oy v)/\Q v H2
def IB(x:V)(Q:VK):VK:=λy H2=>Exists\Ex2 (KN x y H2 Q)
def KM(ty:TE)(Z:St)(Q:VK):VK:=λx H1=>ty Z H1\IB x Q
def vJ(td ty:TE):TE:=λZ H Q=>td Z H\KM ty Z Q
def MW(x y:V)(H2:Hp)(Q:VK)(a:pR)(o:Option V):Prop:=x=.ref a/\DGet H2 a y o/\Q (.bl o.isSome) H2
def MY(y:V)(Q:VK):VK:=λx H2=>Exists\Ex2 (MW x y H2 Q)
def MZ(td:TE)(Z:St)(Q:VK):VK:=λy H1=>td Z H1\MY y Q
def tDIn(ty td:TE):TE:=λZ H Q=>ty Z H\MZ td Z Q
def FU(x y:V)(H2:Hp)(Q:VK)(a:pR)(o:Option V):Prop:=x=.ref a/\DGet H2 a y o/\Q (.bl (!o.isSome)) H2
def FV(y:V)(Q:VK):VK:=λx H2=>Exists\Ex2 (FU x y H2 Q)
def FW(td:TE)(Z:St)(Q:VK):VK:=λy H1=>td Z H1\FV y Q
def z5(ty td:TE):TE:=λZ H Q=>ty Z H\FW td Z Q
def Lb(D:Ends)(Z:St)(v x y:V)(c:Hp)(a:pR)(b:Hp):Prop:=x=.ref a/\DPut c a y v b/\D.nx Z b
def Ld(D:Ends)(Z:St)(v x:V):VK:=λy a=>Exists\Ex2 (Lb D Z v x y a)
def Le(ty:TE)(D:Ends)(Z:St)(v:V):VK:=λx H2=>ty Z H2\Ld D Z v x
def Lg(td ty:TE)(D:Ends)(Z:St):VK:=λv H1=>td Z H1\Le ty D Z v
def Nk(td ty tv:TE):TS:=λD Z H=>tv Z H\Lg td ty D Z
section
variable {o i e value:Expr}{pos pos' tpos:Pos}{td ty tv:TE}
def ie(d:X.A.units+1<vk)(e:PE X o td)(hi:PE X i ty)(f:NoSl i):PE X (.Subscript o i pos) (vJ td ty):=by intro RC s Z H Q I h;show IC PySem.F.slot_dict_getitem.lookup f (thn (e RC s Z H _ I h) λu s1 b=>?_);let#[x,H1,j,l,m]:=b;show thn (hi RC s1 Z H1 _ j m) λw s2 b=>?_;let#[y,H2,c,n,a,v,ex,g,p]:=b;subst ex;obtain rfl:u=Value.ref a:=l;erw[Ed c g,FF d c g n λz B q r=>#[v,H2,q,r,p]]
def lU(b:X.A.units+1<vk)(hi:PE X i ty)(c:PE X o td):PC X .In i o (tDIn ty td):=by intro RC s Z H Q I h;show thn (hi RC s Z H _ I h) λq s1 ⟨y,H1,d,e,f⟩=>thn (c RC s1 Z H1 _ d f) λu s2 j=>?_;let#[x,H2,l,m,a,ov,ex,g,n]:=j;subst ex;obtain rfl:u=Value.ref a:=m;show d_in b l g e λr p=>#[.bl ov.isSome,H2,p,1,n]
def nv(b:X.A.units+1<vk)(hi:PE X i ty)(c:PE X o td):PC X .NotIn i o (z5 ty td):=by intro RC s Z H Q I h;show thn (hi RC s Z H _ I h) λq s1 ⟨y,H1,d,e,f⟩=>thn (c RC s1 Z H1 _ d f) λu s2 j=>?_;let#[x,H2,l,m,a,ov,ex,g,n]:=j;subst ex;obtain rfl:u=Value.ref a:=m;show Ki b l g e λr p=>#[.bl (!ov.isSome),H2,p,1,n]
def jh(b:X.A.units+1<vk)(c:PE X o td)(hi:PE X i ty)(d:PE X value tv)(e:swapsWith value (oy\.Subscript o i pos') pos.line X.env=pure p6):
  PS X (.Assign [.Subscript o i pos'] value pos) (Nk td ty tv):=by
 intro RC s Z H D I h;show wpAny_Assign_Subscript (thn (d RC s Z H _ I h) λr s1 ⟨v,H1,f,j,l⟩=>thn (c RC s1 Z H1 _ f l) λu s2 ⟨x,H2,m,n,p⟩=>thn (hi RC s2 Z H2 _ m p) λK L q=>?_) e;let#[y,M,w,z,a,B,ex,g,C]:=q;subst ex;obtain rfl:u=Value.ref a:=n;show FE b w g z j λN E=>#[Z,B,E,C]
end
def uD(h:rq)(a:tf<h.objs.size):bh P w H (h.push {cls:=.type ↑69,data:=.dict\tA []}) h.objs.size (.dK []):=
 #[a_ _,beq_eq_false_iff_ne.mpr\aA (bB a),[],.nil,Qx h]
def Ie(h:rq)(a:tf<h.objs.size):bh P w H (h.push {cls:=.type ↑69,data:=.dict\tA []}) h.objs.size (.dT []):=
 #[a_ _,beq_eq_false_iff_ne.mpr\aA (bB a),[],.nil,_,(tA []),(0),bI _ rfl,#[5,1],5,ku]
def KL:TE:=λ_ H Q=>gX H (.dK []) Q
def KJ:TE:=λ_ H Q=>gX H (.dT []) Q
section
variable {pos:Pos}
def nF:PE X (.Dict [] [] pos) KL:=λRC s Z H Q I h=>
 Qd #[.ref ↥s,_,I.laid (a:=↥s) (o:=.dK []) (t':=s.toks) (λ_ _ q=>aO _ q) (aq _)\uD s.heap I.big,1,gX.at h\I.hok.fresh (aq _)]
def uu:PE X (.Dict [] [] pos) KJ:=λRC s Z H Q I h=>
 Qd #[.ref ↥s,_,I.laid (a:=↥s) (o:=.dT []) (t':=s.toks) (λ_ _ q=>aO _ q) (aq _)\Ie s.heap I.big,1,gX.at h\I.hok.fresh (aq _)]
end
structure M1(X:Cx)(o:ry)(m:Str)(apos:Pos)(e:ry)(cpos:Pos):Prop where
 base:CM o m X.env (sZ o X.env)=sZ o X.env
 few:((tD cpos\r6 [e] X.env).all (λx=>!x.1)&&(backToKw cpos\keywordEach [] X.env).all (λx=>x.1.isSome)
  && decide (↑([e]:List ry)+↑([]:List Keyword)+(if ([]:List Keyword).isEmpty then 0 else 1)<30))=oD
 line:(apos.endLine==cpos.line)=oD
 trees:tD cpos (r6 [e] X.env)=[(p6,sZ e X.env)]
structure M2(X:Cx)(o:ry)(m:Str)(apos:Pos)(e f:ry)(cpos:Pos):Prop where
 base:CM o m X.env (sZ o X.env)=sZ o X.env
 few:((tD cpos\r6 [e,f] X.env).all (λx=>!x.1)&&(backToKw cpos\keywordEach [] X.env).all (λx=>x.1.isSome)
  && decide (↑([e,f]:List ry)+↑([]:List Keyword)+(if ([]:List Keyword).isEmpty then 0 else 1)<30))=oD
 line:(apos.endLine==cpos.line)=oD
 trees:tD cpos (r6 [e,f] X.env)=[(p6,sZ e X.env),(p6,sZ f X.env)]
def IsD(H:Hp)(a:pR):Prop:=(∃kvs,Rd H a\.dK kvs)\/∃kvs,Rd H a\.dT kvs
def rf(I:Inv X RC Z H s)(d:IsD H a):
  s.TypeIs (.ref a) ↑69/\(∀b,Value.ref a=.ref b->∃ob,s.heap.get? b*>ob/\ob.dict=n7)/\(a==tf)=p6:=by
 rcases d with ⟨kvs,e⟩|⟨kvs,e⟩
 .let#[_,hd,vs,_,dd]:=fg I.hok e;erw[dd.typeIs,λb q=>?_,hd];cases q;let#[ob,0,h1,h2,_]:=dd;erw[ob,h1,h2.2.1]
 let#[_,hd,xs,_,dd]:=iO I.hok e;erw[dd.typeIs,λb q=>?_,hd];cases q;let#[ob,0,h1,h2,_]:=dd;erw[ob,h1,h2.2.1]
section
variable {a:Addr}{y d:V}{u r:Value}{o:Option V}
def Mn{Q:pC->pS->Prop}(i:A.units+1<vk)(I:Inv X RC Z H s)(g:DGet H a y o)(d:aC y u)(h:∀f s',Inv X RC Z H s'->aC (o.getD .non) f->Q f s'):
  q7 ⇑X A (call (.builtin "dict.get") [.ref a,u]) Q E s:=by
 rcases g with ⟨kvs,k,e,c,l⟩|⟨kvs,k,b,e,c,j,l⟩
 .subst c;let#[z,hd,vs,rel,dd]:=fg I.hok e;show mL oW dd.typeIs w4 (O_ _ _) (meets_dict_get (dw X.prog X.w) a (ip d) hd) #[_,dd.mapOf,h _ _ (I.tok _) ?_];rw[l];show (rel.val k).getD rfl
 subst c;cases (show u=Value.ref b from d);let#[z,hd,xs,rel,dd]:=iO I.hok e;show mL oW dd.typeIs w4 (O_ _ _) (meetsH_dict_get (tupleKind\dw X.prog X.w) a b hd) #[o_ i,k,xs,j4 I.hok j,dd,h _ _ (I.tok _) ?_];rw[l];show (rel.val k).getD rfl
def Mm{Q:pC->pS->Prop}(j:A.units+1<vk)(I:Inv X RC Z H s)(g:DGet H a y o)(f:aC y u)(rd:aC d r)(h:∀i s',Inv X RC Z H s'->aC (o.getD d) i->Q i s'):
  q7 ⇑X A (call (.builtin "dict.get") [.ref a,u,r]) Q E s:=by
 rcases g with ⟨kvs,k,e,c,l⟩|⟨kvs,k,b,e,c,m,l⟩
 .subst c;let#[z,hd,vs,rel,dd]:=fg I.hok e;show mL oW dd.typeIs w4 (Pa _ _ _) (meets_dict_get_default (dw X.prog X.w) a (ip f) hd r) #[_,dd.mapOf,h _ _ (I.tok _) ?_];rw[l];show (rel.val k).getD rd
 subst c;cases (show u=Value.ref b from f);let#[z,hd,xs,rel,dd]:=iO I.hok e;show mL oW dd.typeIs w4 (Pa _ _ _) (meetsH_dict_get_default (tupleKind\dw X.prog X.w) a b hd r) #[o_ j,k,xs,j4 I.hok m,dd,h _ _ (I.tok _) ?_];rw[l];show (rel.val k).getD rd
end
def M5(a:pR)(Q:VK)(y:V)(H2:Hp)(o:Option V):Prop:=DGet H2 a y o/\Q (o.getD .non) H2
def M0(a:pR)(Q:VK):VK:=λy H2=>Exists\M5 a Q y H2
def M6(ty:TE)(Z:St)(Q:VK)(x:V)(H1:Hp)(a:pR):Prop:=x=.ref a/\IsD H1 a/\ty Z H1\M0 a Q
def M4(ty:TE)(Z:St)(Q:VK):VK:=λx H1=>Exists\M6 ty Z Q x H1
def KP(td ty:TE):TE:=λZ H Q=>td Z H\M4 ty Z Q
def KO(td ty tx:TE):TE:=λZ H Q=>td Z H λx H1=>∃a,x=.ref a/\IsD H1 a/\ty Z H1 λy H2=>tx Z H2 λz b=>∃o,DGet b a y o/\Q (o.getD z) b
def MU(a:pR)(Q:VK)(y:V)(H2:Hp)(kvs:List (Key×V))(k:Key)(v:V):Prop:=H2 a*>.dK kvs/\y=kV k/\bp kvs k*>v/\WrO H2 a (.dK\j9 kvs k)\Q v
def MR(a:pR)(Q:VK):VK:=λy H2=>Exists\Ex3 (MU a Q y H2)
def MV(ty:TE)(Z:St)(Q:VK)(x:V)(H1:Hp)(a:pR):Prop:=x=.ref a/\IsD H1 a/\ty Z H1\MR a Q
def MS(ty:TE)(Z:St)(Q:VK):VK:=λx H1=>Exists\MV ty Z Q x H1
def KI(td ty:TE):TE:=λZ H Q=>td Z H\MS ty Z Q
section
variable {o e f:Expr}{apos cpos:Pos}{td ty tx:TE}
def uv(c:X.A.units+1<vk)(f:PE X o td)(he:PE X e ty)(m:M1 X o "get" apos e cpos):PE X (.Call (.Attribute o "get" apos) [e] [] cpos) (KP td ty):=by intro RC s Z H Q I h;show Dj m.base m.few m.line tF oW Pr (thn (f RC s Z H _ I h) λu s1 i=>?_);let#[x,H1,b,j,a,ex,d,l]:=i;subst ex;obtain rfl:u=Value.ref a:=j;let#[n,p,_]:=rf b d;erw[n,p,?_];rw[m.trees];show mv rfl\mw (oI (thn (he RC s1 Z H1 _ b l) λB s2 ⟨y,H2,q,r,ov,g,v⟩=>sO ?_));show Mn c q g r λC D w z=>#[_,H2,w,z,v]
def GQ(c:X.A.units+1<vk)(i:PE X o td)(he:PE X e ty)(hf:PE X f tx)(m:M2 X o "get" apos e f cpos):PE X (.Call (.Attribute o "get" apos) [e,f] [] cpos) (KO td ty tx):=by
 intro RC s Z H Q I h;show Dj m.base m.few m.line tF oW Pr (thn (i RC s Z H _ I h) λu s1 j=>?_);let#[x,H1,b,l,a,ex,d,n]:=j;subst ex;obtain rfl:u=Value.ref a:=l;let#[p,q,_]:=rf b d;erw[p,q,?_];rw[m.trees];show mv rfl\mw (oI (thn (he RC s1 Z H1 _ b n) λM s2 ⟨y,H2,r,v,w⟩=>
  oI (thn (hf RC s2 Z H2 _ r w) λN O ⟨z,B,C,D,ov,g,E⟩=>sO ?_)))
 show Mm c C g v D λP R K L=>#[_,B,K,L,E]
def zF(c:PE X o td)(he:PE X e ty)(m:M1 X o "pop" apos e cpos):PE X (.Call (.Attribute o "pop" apos) [e] [] cpos) (KI td ty):=by intro RC s Z H Q I h;show Dj m.base m.few m.line tF Pl PySem.F.type_dict_pop (thn (c RC s Z H _ I h) λu s1 f=>?_);let#[x,H1,b,g,a,ex,d,i]:=f;subst ex;obtain rfl:u=Value.ref a:=g;let#[j,n,_]:=rf b d;erw[j,n,?_];rw[m.trees];show mv rfl\mw (oI (thn (he RC s1 Z H1 _ b i) λC s2 ⟨y,H2,p,q,kvs,k,v,r,w,l,z⟩=>sO ?_));subst w;show N_ p r q l (.inl rfl) λD E A B=>#[v,_,A,B,WrO.at z]
end
section
variable {a:Addr}{kvs:List (Key×V)}
def Ii{Q:pC->pS->Prop}(I:Inv X RC Z H s)(e:Rd H a\.dK kvs)(h:∀p s',H p=n7->Inv X RC Z (upd H p\.dK kvs) s'->Q (.ref p) s'):q7 ⇑X A (call (.type ↑69) [.ref a]) Q E s:=by let#[z,hd,vs,rel,dd]:=fg I.hok e;show kt_call_dict hd dd (by rw[<-↑rel];show z) λh' d f=>?_;show h _ _ (I.hok.fresh\aq _)\I.laid (a:=↥s) (o:=.dK kvs) (t':=s.toks) (λb q c=>?_) (aq _) (oo z (beq_eq_false_iff_ne.mpr\aA (bB I.big)) rel d);show (f.2 b\bB (aJ c)).trans\aO _ c
end
section
variable {a:Addr}{y:V}{u:Value}
end
end L2
namespace Att
open PySem PySem.W PySem.Calls PyProof.Rows
def DD{P:Params}{h:rq}:∀(ns:List Int)(vs:List pC),WellAll P h vs (ns.map WData.int)->L3 vs ns:=by
 intro ns;induction ns with
 |nil=>
  intro vs w;rw[CJ] at w;cases w;show .nil
 |cons n ns c=>
  intro vs w;rw[br] at w;cases w with
  |cons a b=>
   cases a;show .cons _ _\c _ b
def E6{l:OpenLaw}{n:Nat}(g:l.most*>n){P:Params}{h:rq}{args:List WData}{vals:List pC}
  (e:l.row.toRowW.claim.pre args=oD) (i:WellAll P h vals args) :
  ∃a vs ns,vals=[Value.ref a]/\args=[WData.list\ns.map WData.int]/\h.get? a*>{cls:=.type ↑28,data:=.seq vs.toArray}/\L3 vs ns/\↑ns<=n:=by
 let j:WShape.hasAll [] args [.list .int]=oD:=(pre_splitW e).1;let f:l.pre.holds [] {args:=args}=oD:=(pre_splitW e).2;let#[d,r,1,h1,h2]:=hasAllW_cons j;obtain rfl:=hasAllW_nil h2;let#[xs,1,m]:=hasW_list h1;let#[ns,1]:=items_int m;let hlen:↑ns<=n:=by
  unfold OpenLaw.pre at f;let b:(WTm.not\.lt (.lit\.int (n:Int)) (.len\.arg 0)).holds [] {args:=[.list\ns.map .int]}=oD:=by let b:=(holds_andW f).1;rw[g] at b;show b
  let c:=condW_of b\w_not (w_lt w_lit\w_len_list (w_arg rfl));rw[av] at c;show CN λq=>?_;let o:(n:Int)<((↑ns:Nat):Int):=()
  first
   |(rw[Rz o] at c;show absurd c ⋯)
   |(simp at c;lia)
 cases i with
 |cons p s=>
  cases s;cases p with
  |list u v=>erw[0,ns,5,u,DD ns _ v,hlen]
def E_(l:OpenLaw)(args:List WData):l.row.toRowW.claim.post args (.bool oD) args=oD:=
 postW_of (r:=l.row.toRowW) (X:=(oD==oD))
  (show WShape.has [] (.bool oD) .bool=oD by first|rfl|decide|simp[WShape.has,WShape.arms,WShape.armsAll])
  (show (WTm.eq .res\.lit (.bool oD)).value [] {args:=args,res:=oy\.bool oD,after:=args}*>.bool (oD==oD) from w_eq_bool (w_res rfl) w_lit) rfl
def attach_call{l:OpenLaw}{n:Nat}{q:rp}{loose:List Str}{XP:(Str->Option pC)->rq->Prop}{YP:sf->rq->Prop}{d:DefRec}
  (c:l.most*>n) (e:d.params.defaults=[])
  (call:∀(w:sf)(s₀ s₁:pS)(mg mb:Str->Option pC)(fa:pR)(o:Obj)(pm cd doc:pC)(a:pR)(vs:List pC)(ns:List Int),
   Ground q loose [] XP w s₀ mg mb s₁.heap->YP w s₁.heap->
   s₁.heap.get? fa*>o->o.data=.func (docDef d.name d.params d.body d.scope pm cd doc)->s₁.heap.CodeRec cd d.name->mg d.name*>.ref fa->
   s₁.heap.get? a*>{cls:=.type ↑28,data:=.seq vs.toArray}->L3 vs ns->↑ns<=n->s₁.gens=(tA [])->
   vc (rb l.prog w) callerA (.call (.ref fa) #[[.ref a],[]]) (λr s'=>r=.ok (.ret\.bool oD)/\OldK s₁.heap s'.heap/\s'.os=s₁.os/\AllBare s'.gens) s₁) :
  WalkO q loose XP YP l.row.toRowW d [] (λf vs=>PySem.call f vs):=by
 intro w s₀ s₁ mg mb G Y fa o pm cd doc g kV h hd i b j m args vals as p A B u C;obtain rfl:g=.none:=Dflts.none b e;obtain rfl:kV=.none:=Dflts.noKw b;let#[a,vs,ns,5,v,hints,hlen]:=E6 c p u;show enter_call (oZ (call w s₀ s₁ mg mb fa o pm cd doc a vs ns G Y h (fd_plain hd) i j v hints hlen m) λr s' x=>?_);let#[1,h2,y,z]:=x;erw[.inl #[.bool oD,.bool oD,[],1,λ_=>rfl,.bool oD,E_ l _,λ_=>#[List.Pairwise.nil,λ_ hm=>(nomatch hm)]],h2,y,z]
section
variable {prog:Program}{K:Frag}
end
end Att
namespace L2
open PySem PySem.Spec PyProof.Rows
def xZ:∀{vs:List pC}{ns:List Int},L3 vs ns->Vals (ns.map V.int) vs
 |_,_,.nil=>.nil
 |_,_,.cons n t h=>.cons #[t,1]\xZ h
def Only(H:Hp):Prop:=∀b,H b=n7\/∃o xs,H b*>.frz o\.lst xs
def HK{P:rp}{w:sf}{mg mb:Str->Option pC}{CX:CXT}{k:Nat}{fa a:pR}{fd:ro}{x:Str}{sp:Sp}{s₁:pS}{vs:List pC}{ns:List Int}
  (l:K.In s₁.heap) (p:s₁.heap.Ns r4 mg) (c:s₁.heap.Ns builtinsNs mb) (E:∀x:Str,x≠"__name__"->mb x=yF x) (I:s₁.heap.NoLimit) (L:s₁.gens=(tA []))
  (ha:s₁.heap.get? a*>{cls:=.type ↑28,data:=.seq vs.toArray}) (hi:L3 vs ns) (M:↑ns<=qs) (N:Room k callerA)
  (F:∀base:rq,K.In base->base.Ns r4 mg->!aj CX k fa fd [x] sp) (O:∀(s:pS)(u:pC),BindsTo s fd #[[u],[]] [(x,u)])
  (Q:∀o,K.lookup a*>o->o.cls≠.type ↑28) (R:∀H:Hp,Only H->SqL [] H a (ns.map V.int)->sp [.ref a] H (λv _=>v=.bl oD) λ_ _ _=>False)
  (S:∀H e s',CX [] H s₁ (λ_ _ _=>False) e s'->False) :
  vc (rb P w) callerA (.call (.ref fa) #[[.ref a],[]]) (λr s'=>r=.ok (.ret\.bool oD)/\OldK s₁.heap s'.heap/\s'.os=s₁.os/\AllBare s'.gens) s₁:=by
 let T:=xZ hi;let ad:=↑hi;let core:∀H:Hp,Only H->SqL [] H a (ns.map V.int)->HOk P w H s₁.heap->(∀b,H b≠n7->b=a)->(H a≠n7->K.lookup a=n7)->
   vc (rb P w) callerA (.call (.ref fa) #[[.ref a],[]]) (λr s'=>r=.ok (.ret\.bool oD)/\OldK s₁.heap s'.heap/\s'.os=s₁.os/\AllBare s'.gens) s₁:=by
  intro H y U hok A X;let B:∀{b:pR}{o:Obj},s₁.heap.get? b*>o->H b=n7->(iT s₁.heap H).get? b*>o:=λe n=>HN e n;let Y:∀{b:pR}{o:Obj}{es:Array vT}{ep:Nat},s₁.heap.get? b*>o->o.data=.dict es ep->H b=n7:=λ{b o es ep} e d=>by
   cases q:H b with
   |none=>rfl
   |some u=>
    let g:b=a:=A b (by rw[q];simp);subst g;rw[ha] at e;cases e;let d':Data.seq vs.toArray _=Data.dict es ep:=d;cases d'
  let f:∀{b:pR}{m:Str->Option pC},s₁.heap.Ns b m->(iT s₁.heap H).Ns b m:=λ{b m} ⟨o,es,ep,e,d,r⟩=>#[o,es,ep,B e\Y e d,d,r];let C:K.In (iT s₁.heap H):=λb o e=>B (l b o e) (by
   cases q:H b with
   |none=>rfl
   |some u=>
    let g:b=a:=A b (by rw[q];simp);subst g;rw[X (by rw[q];simp)] at e;cases e)
  let Z:Mod K mg (iT s₁.heap H):=#[C,f p,#[mb,f c,E],let ⟨mc,h1,h2⟩:=I;#[mc,f h1,h2]];let e0:fZ P w K mg (iT s₁.heap H) callerA [] s₁ H:=#[1,Z,λb o e=>JT e,wQ\Fy _ _,trivial,λb c=>absurd (show b∈([]:List pR) from c) ∅,hok,.of_eq L];show oZ ((F _ C\f p).run callerA [] s₁ H #[[.ref a],[]] [.ref a] [.ref a] _ _ N e0 (O s₁\.ref a) (.cons rfl .nil)\R H y U) λr s' h=>?_;cases r with
  |error e=>show (S H e s' h).elim
  |ok fl=>
   cases fl with
   |next=>show False.elim h
   |brk=>show False.elim h
   |cont=>show False.elim h
   |ret u=>
    let#[v,H',os,bare,un,ab,r',q]:=h;let q':v=.bl oD:=q;subst q';obtain rfl:u=Value.bool oD:=r';erw[1,OldK.of_keep λb o e=>?_,os,bare];cases q:H b with
    |none=>show un.keep b o e q (by intro z;show absurd (show b∈([]:List pR) from z) ∅) ∅
    |some u=>
     rcases y b with z|⟨ob,xs,z⟩
     .rw[q] at z;cases z
     let z2:=un.frzs b ob _ z;let#[D,_]:=hok b _ z;let#[e2,_]:=ab b _ z2;rw[e] at D;cases D;show e2
 cases i:K.lookup a with
 |some o=>
  let e:=l a o i;rw[ha] at e;cases e;show absurd rfl\Q _ i
 |none=>
  show core (λb=>if b=a then oy (.frz {cls:=.type ↑28,data:=.seq vs.toArray}\.lst (ns.map V.int)) else n7) (λb=>?_) (.inl\.inr #[{cls:=.type ↑28,data:=.seq vs.toArray},Ry rfl]) (λb u z=>?_) (λb z=>?_) λ_=>i
  .by_cases c:b=a
   .exact .inr #[0,Ry c]
   show .inl\Rx c
  .by_cases c:b=a
   .let j:=(Ry c).symm.trans z;cases j;subst c;erw[ha,by rw[av];show M,vs,_,T,ha]
   let j:=(Rx c).symm.trans z;cases j
  by_cases c:b=a
  .exact c
  show absurd (Rx c) z
end L2
namespace L2
open PySem PySem.Spec PyProof.Rows
def walk_of{l:W.OpenLaw}{n k:Nat}{q:rp}{loose:List Str}{XP:(Str->Option pC)->rq->Prop}{YP:sf->rq->Prop}{d:DefRec}{K:Params->W.Frag}{CX:sf->CXT}{sp:sf->Sp}{x:Str}
  (i:l.most*>n) (j:n<=qs) (m:d.params.defaults=[]) (p:Room k callerA)
  (r:∀(w:sf)(h:rq),YP w h->(K w.params).In h)
  (F:∀(w:sf)(mg:Str->Option pC)(fa:pR)(h:rq),(K w.params).In h->h.Ns r4 mg->mg d.name*>.ref fa->
   ∃fd:ro,(∀(s:pS)(u:pC),BindsTo s fd #[[u],[]] [(x,u)])/\
    ∀base:rq,(K w.params).In base->base.Ns r4 mg->aj l.prog w (K w.params) mg base (CX w) k fa fd [x]\sp w)
  (y:∀(w:sf)(a:pR)(o:Obj),(K w.params).lookup a*>o->o.cls≠.type ↑28) (z:∀(w:sf)(H:Hp)(a:pR)(ns:List Int),↑ns<=n->Only H->SqL [] H a (ns.map V.int)->sp w [.ref a] H (λv _=>v=.bl oD) λ_ _ _=>False)
  (A:∀(w:sf)(H:Hp)(s:pS)(e:pC)(s':pS),CX w [] H s (λ_ _ _=>False) e s'->False) :
  W.WalkO q loose XP YP l.row.toRowW d [] (λf vs=>PySem.call f vs):=by
 show Att.attach_call i m λw s₀ s₁ mg mb fa o pm cd doc a vs ns G Y M hd N B C hints hlen D=>?_;let c:=r w _ Y;let#[fd,E,hF]:=F w mg fa _ c G.T.g B;show HK c G.T.g G.T.b G.T.builtins G.T.nolimit D C hints (cR hlen j) p hF E (y w a) (λH I L=>z w H a ns hlen I L) λH e s'=>A w H s₁ e s'
def nlV:pC->Bool
 |.type s=>!(s==↑28)
 |_=>oD
def B8{a:pR}{o:Obj}:∀{K:W.Frag},K.all (λx=>nlV x.2.cls)=oD->K.lookup a*>o->o.cls≠.type ↑28
 | [],_,h=>nomatch h
 |(b,u)::K,e,h=>by
  rw[Cr,g_] at e;rw[jH] at h
  split at h
  .cases h;intro z;have:=e.1;rw[z] at this;show absurd this ⋯
  show B8 e.2 h
end L2
namespace L2
open PySem PySem.Spec PyProof.Rows
abbrev CX0:CXT:=λ_ _ _ _ _ _=>False
abbrev E0:XK:=λ_ _ _=>False
def pass0:Passes CX0 X E0:=λ_ _ _ _ _ _ _ h=>h.elim
structure Use(P:rp)(w:sf)(K:W.Frag)(mg:Str->Option pC)(base:rq)(n:Nat)(x:Str)(ps:List Str)(sp:Sp)(f:pR)(fd:ro):Prop where
 g:!aj CX0 n f fd ps sp
 b:Binds K fd ps []
 m:mg x*>.ref f
 k:W.keepIn K (.ref f)=oD
def uc{sp:Sp}{e:ry}{es:List ry}{p pos:Pos}(G:Use X.prog X.w X.K X.mg X.base k x ps sp f fd)(a:Room k X.A)(ha:PA X (e::es) t)(c:Gl X x:=by rfl)(d:(x==(↑18 : Str))=p6:=by decide)(he:r6 (e::es) X.env=(p6,sZ e X.env)::r6 es X.env:=by rfl)(h:(tD pos\r6 es X.env).any (·.1)=p6:=by rfl):PE X (.Call (.Name x p) (e::es) [] pos) (rH sp [] E0 t):=jk G.g a c G.m G.k G.b .nil pass0 ha d he h
structure Fun(K:W.Frag)(x qual:Str)(st:rz)(f:pR)(fd:ro):Prop where
 ex:∃(oc:pC)(od:Option pR)(kV doc pm:pC)(an:Option pR)(RD ct:pC)(osl:Array\Option pC),
  fd=W.fnOf x qual (fe st) (dS st) (au st) .none kV doc pm an RD ct/\K.lookup f*>#[oc,od,.func fd,osl]/\W.codeIn K RD qual=oD
 kp:W.keepIn K (.ref f)=oD
section
def Fun.ok{x qual:Str}{st:rz}{f:pR}{N ps:List Str}{k:Nat}{sp:Sp}(F:Fun K x qual st f fd)(S:aR N ps\au st)(len:∀vs H Q E,sp vs H Q E->↑vs=↑ps)
  (b:∀(a:pC)(A:z3)(outer:List Env)(s:pS)(H:Hp)(vs:List V)(Q:VK)(E:XK),Room k (A.deeper\envOfC qual (au st) ↥s f a)->sp vs H Q E->
   ∃t,PSs (eV CX0 P w K mg base N qual (au st) f a A outer s H E).nox (dS st) t/\t {nx:=λ_ H'=>Q .non H',rt:=Q} (start N vs) H):!aj CX0 (k+1) f fd ps sp:=by
 let#[g,od,kV,doc,pm,an,a,ct,i,1,lk,c]:=F.ex;show vO lk c S len λA outer s H vs Q E d e=>?_;let#[t,h,q]:=b a A outer s H vs Q E d e;erw[t,h.nox,q]
def Fun.binds{x qual:Str}{st:rz}{f:pR}{ps:List Str}(F:Fun K x qual st f fd)
  (h:∀(kV doc pm:pC)(an:Option pR)(a ct:pC)(us:List pC),↑us=↑ps->bindArgs (W.fnOf x qual (fe st) (dS st) (au st) .none kV doc pm an a ct) #[us,[]]=pure\ps.zip us):Binds K fd ps []:=by
 let#[b,od,kV,doc,pm,an,a,ct,c,1,lk,d]:=F.ex;show .all\h kV doc pm an a ct
def BD{x qual:Str}{st:rz}{f:pR}{b:pC}{od an:Option pR}{d:Array\Option pC}{kV doc pm a ct:pC}(l:K.lookup f*>#[b,od,.func\W.fnOf x qual (fe st) (dS st) (au st) .none kV doc pm an a ct,d])
  (c:W.codeIn K a qual=oD) (k:W.keepIn K (.ref f)=oD):Fun K x qual st f (W.fnOf x qual (fe st) (dS st) (au st) .none kV doc pm an a ct):=#[#[b,od,kV,doc,pm,an,a,ct,d,1,l,c],k]
end
def dA(a:Room k A):A.units+1<cLine:=wR (tu (by decide:1<=64) _) a.units
section
def pv(i:Nat){x:Str}{pos:Pos}(a:X.N[i]?*>x:=by rfl)(b:Vis X.env.scope x:=by first|exact Or.inl rfl|exact Or.inr (.inl rfl)|exact Or.inr\.inr rfl)(hd:(x==(↑18 : Str))=p6:=by decide)
  (c:(x==("__classdict__" : Str))=p6:=by decide):PE X (.Name x pos) (aK i):=Lz a b hd c
def FL:c7 X (.builtin "len") (λxs H Q=>∃a kvs,xs=[V.ref a]/\H a*>.dK kvs/\Q (.int ↑kvs) H):=by intro RC s Z H xs us Q I r h;let#[a,kvs,1,ha,q]:=h;let#[u,1,b]:=vals1 r;cases b;show Oa I (.inl ha) λt s' c=>#[.int ↑kvs,H,c,#[t,1],q]
end
def az{A B:Prop}(h:B):if p6=oD then A else B:=by rw[Rx bG];show h
def aP{A B:Prop}(h:A):if oD=oD then A else B:=by rw[Ry rfl];show h
def ite2{c A B:Prop}[Decidable c](h1:c->A)(h2:¬c->B):if c then A else B:=by
 by_cases h:c
 .rw[Ry h];show h1 h
 rw[Rx h];show h2 h
def Same.refl(H:Hp):Same H H:=λ_ _ h=>h
def Same.trans{H:Hp}(a:Same H H1)(b:Same H1 H2):Same H H2:=λc o h=>b c o\a c o h
def Same.free(e:Same H H')(h:H' l=Option.none):H l=Option.none:=by
 cases q:H l with
 |none=>rfl
 |some o=>
  rw[e l o q] at h;cases h
def Same.seq(e:Same H H')(h:SqL K H a xs):SqL K H' a xs:=by
 rcases h with (h|⟨o,h⟩)|h
 .exact .inl\.inl (e>>h)
 .exact .inl\.inr #[o,e>>h]
 show .inr h
section
variable {κ:Type}[DecidableEq κ]
def Iw{kvs:List (κ×V)}{k:κ}{v:V}(h:bp kvs k*>v):k∈kvs.map (·.1):=by
 let q:(kvs.any λa=>decide (a.1=k))=oD:=by
  rw[pU,h]
  all_goals rfl
 let#[p,b,e]:=mz.mp q;show ax.mpr #[p,b,RB e]
end
end L2
end
variable {H:L2.Hp}{Z:L2.St}{X:L2.Cx}{xs:List L2.V}{vs:List L2.V}{H':L2.Hp}
namespace L2
open PySem PySem.Spec PyProof.Rows
def eA(env:Env):List (Str×NameKind)->List (Str×pR)->List (Str×pR)
 | [],cs=>cs
 |(n,k)::r,cs=>eA env r (if k==.free then (n,(env.cells.lookup n).getD 0)::cs else cs)
def xU(env:Env):∀(names:List (Str×NameKind))(cs:List (Str×pR)),(∀x∈names,x.2=.free->∃c,env.cells.lookup x.1*>c)->
  (forIn names cs λ(x:Str×NameKind)(r:List (Str×pR))=>(do
   if x.2==NameKind.free then
    let a <-cellOf env x.1
    pure (ForInStep.yield ((x.1,a)::r))
   else pure (ForInStep.yield r):Sem\ForInStep (List (Str×pR))))=pure\eA env names cs
 | [],cs,_=>rfl
 |(n,k)::r,cs,h=>by
  let ih:=λcs=>xU env r cs λx hx=>h x\de _ hx;rw[CC];by_cases hk:k=.free
  .subst hk;let#[c,hc]:=h (n,.free) gk rfl;let e:cellOf env n=pure c:=by
    let hc':env.cells.lookup n*>c:=hc;unfold cellOf;rw[hc']
    try rfl
   rw[Ry (show (((n,NameKind.free).2==NameKind.free)=oD) from rfl),e];show Eq.trans ?_\(ih ((n,c)::cs)).trans ?_
   .rfl
   let hc':env.cells.lookup n*>c:=hc;change pure (eA env r ((n,c)::cs))=pure\eA env r ((n,(env.cells.lookup n).getD 0)::cs);rw[hc'];rfl
  let hb:(k==NameKind.free)=p6:=‹hk›
  rw[Rx (show ¬(((n,k).2==NameKind.free)=oD) by rw[show ((n,k).2==NameKind.free)=p6 from hb];simp)];show Eq.trans ?_\(ih cs).trans ?_
  .rfl
  change pure (eA env r cs)=pure\eA env r (if (k==NameKind.free)=oD then _ else cs);rw[hb];rfl
def tW{env:Env}(h:∀x∈scope.names,x.2=.free->∃c,env.cells.lookup x.1*>c):closureFor scope env=pure (eA env scope.names []):=by
 let e:=xU env scope.names [] h;unfold closureFor;simp only[bind_pure_comp,map_pure] at e |-
 first
  |(rw[e];rfl)
  |show e
def AX{env:Env}:∀{names:List (Str×NameKind)}{cs:List (Str×pR)}{x:Str}{c:pR},(∀y∈names,y.2=.free->∃c,env.cells.lookup y.1*>c)->
  (eA env names cs).lookup x*>c->env.cells.lookup x*>c\/cs.lookup x*>c
 | [],cs,x,c,_,h=>.inr h
 |(n,k)::r,cs,x,c,hf,h=>by
  let d:∀y∈r,y.2=.free->∃c,env.cells.lookup y.1*>c:=λy f=>hf y\de _ f;rcases AX (names:=r) d h with q|q
  .exact .inl q
  by_cases a:(k==NameKind.free)=oD
  .rw[Ry a] at q;let g:k=.free:=‹a›
   let#[b,e]:=hf (n,k) gk g;let e:env.cells.lookup n*>b:=e;rw[jH] at q;cases hx:x==n with
   |true=>
    rw[hx] at q;let i:x=n:=‹hx›
    subst i;rw[e] at q;let j:b=c:=‹q›
    show .inl (j ▸ e)
   |false=>
    rw[hx] at q;show .inr q
  rw[Rx a] at q;show .inr q
def uG:∀{names:List (Str×NameKind)}{cs:List (Str×pR)}{x:Str},((x,NameKind.free)∈names\/(cs.lookup x).isSome=oD)->((eA env names cs).lookup x).isSome=oD
 | [],cs,x,h=>by
  rcases h with h|h
  .simp at h
  show h
 |(n,k)::r,cs,x,h=>by
  show uG (names:=r) ?_;rcases h with h|h
  .rcases aT.mp h with e|e
   .cases e;show .inr ?_;rw[Ry (by rfl),jH,beq_self_eq_true];rfl
   show .inl e
  show .inr ?_;by_cases a:(k==NameKind.free)=oD
  .rw[Ry a,jH];cases hx:x==n with
   |true=>rfl
   |false=>show h
  rw[Rx a];show h
def xr(env:Env):∀(names:List (Str×NameKind))(x:Str),
  (names.map λ(n,k)=>if (k==NameKind.free&&env.scope.kind==.function&&env.kindOf n==oy .cell) then (n,NameKind.cell) else (n,k)).lookup x=(names.lookup x).map λk=>if (k==NameKind.free&&env.scope.kind==.function&&env.kindOf x==oy .cell) then NameKind.cell else k
 | [],_=>rfl
 |(n,k)::r,x=>by
  let b:=xr env r x;rw[br];dsimp only at b |-;by_cases a:(k==NameKind.free&&env.scope.kind==.function&&env.kindOf n==oy .cell)=oD
  .rw[Ry a,jH,jH];cases hx:x==n with
   |true=>
    let c:x=n:=‹hx›
    subst c;simp only[oR,a,if_true]
   |false=>show b
  rw[Rx a,jH,jH];cases hx:x==n with
  |true=>
   let c:x=n:=‹hx›
   subst c;simp only[oR];rw[Rx a]
  |false=>show b
def fD(X:Cx)(N:List Str)(scope:Scope)(C:pR)(s:pS)(H:Hp)(fp:List pR)(RC:List (pR×Obj)):Cx:=
 {X with N:=N,s₀:=s,H₀:=H,env:=compEnvC scope (eA X.env scope.names []) C X.env,outer:=X.stack,ex:=fp,fn:=λ_=>p6,pn:=X.pn++RC,xe:=λ_ _=>False}
def iL(fr:List\Option Nat)(Z:St):St:=fr.map λo=>o.bind λi=>(Z[i]?).join
structure fJ(X:Cx)(N:List Str)(fr:List\Option Nat)(scope:Scope):Prop where
 nd:N.Nodup
 len:↑fr=↑N
 kind:scope.kind=.function
 nocell:∀y∈scope.names,y.2≠.cell
 names:∀y∈scope.names,y.2=.local->scope.names.lookup y.1*>.local
 frees:∀y∈scope.names,y.2=.free->X.env.kindOf y.1*>.cell\/X.env.kindOf y.1*>.free
 fr:∀(j i:Nat)(x:Str),fr[j]?*>oy i->N[j]?*>x->X.N[i]?*>x/\scope.names.lookup x*>.free
section
variable {N:List Str}{fr:List (Option Nat)}{fp:List Addr}
def fJ.cells(S:fJ X N fr scope)(ok:X.Ok):∀y∈scope.names,y.2=.free->∃c,X.env.cells.lookup y.1*>c:=λy a hf=>ok.has y.1\S.frees y a hf
def pD{names:List (Str×NameKind)}{x:Str}{k:NameKind}(h:names.lookup x*>k):(x,k)∈names:=oX h
def yW{C:pR}{x:Str}:(compEnvC scope (eA X.env scope.names []) C X.env).kindOf x=(scope.names.lookup x).map λk=>if (k==NameKind.free&&X.env.scope.kind==.function&&X.env.kindOf x==oy .cell) then NameKind.cell else k:=xr X.env scope.names x
def fJ.free_of(S:fJ X N fr scope){C:pR}{x:Str}(h:(compEnvC scope (eA X.env scope.names []) C X.env).kindOf x*>.cell\/(compEnvC scope (eA X.env scope.names []) C X.env).kindOf x*>.free):scope.names.lookup x*>.free:=by
 rw[yW] at h;cases e:scope.names.lookup x with
 |none=>rw[e] at h;simp at h
 |some k=>
  rw[e] at h;let a:=S.nocell _\pD e;cases k with
  |free=>rfl
  |cell=>show absurd rfl a
  |_=>
   exfalso;rcases h with h|h<;>simp at h
def FJ{C:pR}{x:Str}(h:scope.names.lookup x*>.free):(compEnvC scope (eA X.env scope.names []) C X.env).kindOf x*>.cell\/(compEnvC scope (eA X.env scope.names []) C X.env).kindOf x*>.free:=by
 rw[yW,h,oR];by_cases c:(NameKind.free==NameKind.free&&X.env.scope.kind==.function&&X.env.kindOf x==oy .cell)=oD
 .rw[Ry c];show .inl rfl
 rw[Rx c];show .inr rfl
end
section
variable {N:List Str}{fr:List (Option Nat)}{fp:List Addr}
def xS{C:pR}{h1:rq}{m:Str->Option pC}{t:Nat}(S:fJ X N fr scope)(I:Inv X RC Z H s)(hf:∀b∈fp,bY X RC H b)(w:↥s<=C)(K:∀b∈fp,b≠C)
  (L:h1.Ns C m) (g:∀b o,s.heap.get? b*>o->h1.get? b*>o):Inv (fD X N scope C s H fp RC) [] (iL fr Z) H {s with heap:=h1,toks:=t}:=by
 let M:=S.cells I.ok;let sub:∀x c,(eA X.env scope.names []).lookup x*>c->X.env.cells.lookup x*>c:=λx c e=>by
  rcases AX M e with q|q
  .exact q
  simp at q
 let ok:(fD X N scope C s H fp RC).Ok:=by
  erw[I.ok.mod,S.kind,I.ok.glob,I.ok.blt,w,λx y c h1 h2=>I.ok.inj x y c (sub x c h1)\sub y c h2,λx hx=>?_,λx c e=>absurd e (by change ¬(p6=oD);decide),I.ok.hd,I.ok.frames,.inl rfl,λb f=>?_,λb o e=>I.bs b o e,cR I.ok.bsz I.sz,λb o e f=>?_,λb f=>?_,I.stack,I.stkFree]
  .let e:=S.free_of hx;show oQ.mp\uG (.inl\pD e)
  .exact#[K b f,λx c e=>(hf b f).2.2.2.2.1 x c (sub x c e)]
  .rcases (hf b f).2.2.2.1 with z|z
   .exact I.ok.noex b o e z
   show absurd (bU (aJ e)\cR I.ok.bsz z)\dD _
  intro z;rcases aT.mp (I.stkSub b z) with q|q
  .exact (hf b f).2.1 q
  show (hf b f).2.2.1 q
 let O:H C=n7:=I.hok.fresh w;erw[ok,1,I.bare,Un.kept g,#[m,L,λj x v P a e3=>?_],λx c e=>?_,O,λx c e=>I.freeC x c\sub x c e,λp l=>?_,I.hok.kept g,?_]
 .let a:(iL fr Z)[j]?*>oy v:=a;unfold iL at a;rw[bu] at a;cases q:fr[j]? with
  |none=>rw[q] at a;cases a
  |some o=>
   rw[q] at a;cases o with
   |none=>cases a
   |some i=>
    let a:(Z[i]?).join*>v:=eg a;let#[hi,A]:=S.fr j i x q P;have hσ:Z[i]?*>oy v:=by
     cases z:Z[i]? with
     |none=>rw[z] at a;cases a
     |some y=>rw[z] at a;cases y with
      |none=>cases a
      |some Q=>let a:oy Q*>v:=a;rw[a]
    let#[m0,_,R]:=I.loc;let D:X.env.kindOf x*>.cell\/X.env.kindOf x*>.free:=S.frees (x,.free) (pD A) rfl;let T:Vis X.env.scope x:=D.elim (λz=>.inr\.inl z) λz=>.inr\.inr z;let#[u,r,lk]:=R i x v hi hσ T;rcases lk with ⟨z,_⟩|⟨_,c,U,Y⟩
    .rcases D with y|y<;>(rw[y] at z;cases z)
    erw[u,r,.inr #[FJ A,?_]];let#[c',E]:=oQ.mp\uG (env:=X.env) (names:=scope.names) (cs:=[]) (.inl\pD A);have:=sub x c' E;rw[U] at this;cases this;let#[o,B,hd]:=Y;erw[c,E,o,g c o B,hd]
 .let#[v,o,B,hd]:=I.cell x c\sub x c e;erw[v,o,g c o B,hd]
 .let l:p∈(X.pn++RC)++[]:=l;rw[eX] at l;let#[e,n,ne,nf,d]:=I.pin p l;erw[g>>e,n,λz=>?_,λz=>?_,d]
  .let z:p.1=C:=z;show absurd (bU (aJ e) w) (by rw[z];show dD _)
  rcases aT.mp (I.stkSub p.1 z) with q|q
  .exact ne q
  show nf q
 change ↑(iL fr Z)=↑N;unfold iL;rw[av];show S.len
def zR{C:pR}{Z':St}{c:List (pR×Obj)}(I:Inv X RC Z H s)(hf:∀b∈fp,bY X RC H b)(d:↥s<=C)(J:Inv (fD X N scope C s H fp RC) c Z' H2 s'):
  Inv X RC Z H2 s'/\bY X RC H2 C:=by
 let e:Inv X RC Z H2 s':=I.call' J.os J.base J.hok J.bare λb a=>#[(hf b a).2.2.2.1,(hf b a).2.1,(hf b a).2.2.2.2.1,(hf b a).2.2.2.2.2];erw[e,I.fpOk d J.free]
end
def PIf(X:Cx)(ifs:List ry)(t:TT):Prop:=
 ∀(RC:List (pR×Obj))(s:pS)(Z:St)(H:Hp)(Q:Bool->Hp->Prop),Inv X RC Z H s->t Z H Q->
  q7 ⇑X X.A (forIn ifs oD λc r=>if r=oD then do let ok <-isTrue c X.env\sZ c X.env;pure (ForInStep.yield ok) else pure (ForInStep.yield r)) (TP X RC Z Q) X.xe s
def eu:PIf X [] (λ_ H Q=>Q oD H):=λ_ _ _ H _ I h=>wpAny_tests_nil #[H,I,h]
def fU(h:PT X c t):PIf X [c] t:=λRC s Z H Q I q=>wpAny_tests_one\h RC s Z H Q I q
def tBlE(D:pR)(ys:List V)(N:St->List V->Hp->Prop)(σ2:St):VK:=λy a=>a D*>.lst ys/\↑ys<qs/\WrO a D (.lst (ys++[y]))\N σ2 (ys++[y])
def vZ(te:TE)(D:pR)(ys:List V)(N:St->List V->Hp->Prop)(σ2:St):Bool->Hp->Prop:=λb a=>if b=oD then te σ2 a (tBlE D ys N σ2) else N σ2 ys a
def oA(tt:TT)(te:TE)(D:pR)(ys:List V)(N:St->List V->Hp->Prop):St->Hp->Prop:=λσ2 H2=>tt σ2 H2\vZ te D ys N σ2
def tBlN(J:It)(g:TG)(tt:TT)(te:TE)(D:pR)(W:Nat->Nat->St->List V->Hp->Prop)(i m:Nat)(Z:St)(ys:List V)(H:Hp)(N:St->List V->Hp->Prop):Prop:=(∀Z' a H',N Z' a H'->∃b,b<m/\W (i+1) b Z' a H')/\∀x H',J.yld i H x H'->g x Z H'\oA tt te D ys N
def tBlB(J:It)(g:TG)(tt:TT)(te:TE)(D:pR)(Z':St)(H1:Hp)(Q:Hp->Prop)(W:Nat->Nat->St->List V->Hp->Prop):Prop:=(∃m,W 0 m Z' []\upd H1 D (.lst []))/\∀i m Z ys H,W i m Z ys H->(J.stop i H/\Q H)\/(J.go i H/\Exists\tBlN J g tt te D W i m Z ys H)
def jV(J:It)(g:TG)(tt:TT)(te:TE)(D:pR)(Z':St)(H1:Hp)(Q:Hp->Prop):Prop:=Exists\tBlB J g tt te D Z' H1 Q
def FI{elt target iter:ry}{ifs:List ry}{scope:Scope}{pos:Pos}{it acc:pC}{env:Env}{R:Result->pS->Prop}(I:Nat->pS->Prop)
  (turn:∀n s,I n s->q7 (rb P w) A (wb it) (λr s1=>match r with
   |none=>R (.ok .next) s1
   |some v=>q7 (rb P w) A (letOwnedTupleGo target it v) (λ_ s1'=>q7 (rb P w) A (assign target env v) (λ_ s2=>
     q7 (rb P w) A (forIn ifs oD λc r=>if r=oD then do let ok <-isTrue c env\sZ c env;pure (ForInStep.yield ok) else pure (ForInStep.yield r)) (λok s3=>
      if ok=oD then q7 (rb P w) A (sZ elt env) (λx s4=>
       q7 (rb P w) A (call (.builtin "list.append") [acc,x]) (λ_ s5=>∃m,m<n/\I m s5) (λ_ _=>False) s4) (λ_ _=>False) s3
      else ∃m,m<n/\I m s3) (λ_ _=>False) s2) (λ_ _=>False) s1') (λ_ _=>False) s1) (λ_ _=>False) s)
  (n:Nat) (h:I n s) :
  vc (rb P w) A (.compLoop (.ListComp elt [#[target,iter,ifs,(0)]] scope pos) 0 it acc env) R s:=by
 let no:∀(e:pC)(t:pS),False->notedBy (rb P w) A env (λe s'=>R (.error e) s') e t:=λ_ _ z=>z.elim;show codeAny_loop rfl I (λn s hI=>?_) n h;show wpAny_noted ?_;rw[compTurn_list];show aa\kM (aa\bZ (turn n s hI) (λr s1 h1=>?_) no);cases r with
 |none=>show ai h1
 |some v=>
  show aa\bZ h1 (λ_ s1' h1'=>?_) no;show aa\bZ h1' (λ_ s2 h2=>aa\bZ h2 (λok s3 h3=>?_) no) no;cases ok with
  |false=>show ai #[1,h3]
  |true=>
   show aa\aa (bZ h3 (λx s4 h4=>aa\bZ h4 (λ_ s5 h5=>ai\ai #[1,h5]) no) no)
section
variable {N:List Str}{fr:List (Option Nat)}{fp:List Addr}
def Il{elt target iter:ry}{ifs:List ry}{pos:Pos}{it D:pR}{z:Nat->rq->Prop}{J:It}{g:TG}{tt:TT}{te:TE}{R:Result->pS->Prop}{s1:pS}{M:St}{H1:Hp}{Q:Hp->Prop}
  {Y:Cx} (hY:Y.xe=λ_ _=>False) (U:Y.calm=oD) (I:Inv Y [] M (upd H1 D\.lst []) s1) (T:Turn Y.prog Y.w Y.K target J fp it z) (ht:z 0 s1.heap) (hf:∀b∈fp,bY Y [] (upd H1 D\.lst []) b)
  (hg:PG Y target g) (hi:PIf Y ifs tt) (he:PE Y elt te) (h:jV J g tt te D M H1 Q) (hR:∀s' Z' H',Inv Y [] Z' H' s'->Q H'->R (.ok .next) s') :
  vc (rb Y.prog Y.w) Y.A (.compLoop (.ListComp elt [#[target,iter,ifs,(0)]] scope pos) 0 (.ref it) (.ref D) Y.env) R s1:=by
 let#[W,#[m0,w0],turn]:=h;let N:∀{H':Hp},(∀b∈fp,H' b=n7)->∀b∈fp,bY Y [] H' b:=λhn b a=>#[hn b a,(hf b a).2];show FI (λn s'=>∃i Z' ys H',Inv Y [] Z' H' s'/\z i s'.heap/\(∀b∈fp,H' b=n7)/\W i n Z' ys H') ?_ m0 #[(0),M,[],_,I,ht,λb a=>(hf b a).1,w0];rintro n X ⟨i,l,ys,B,Z,ab,ad,w3⟩;let back:∀{α:Type}{t:Sem α}{Q:α->pS->Prop}{s:pS},q7 (rb Y.prog Y.w) Y.A t Q Y.xe s->q7 (rb Y.prog Y.w) Y.A t Q (λ_ _=>False) s:=λh=>by rw[hY] at h;show h
 rcases turn i n l ys B w3 with ⟨stop,qn⟩|⟨go,N',ag,step⟩
 .refine thn (T.done Y rfl rfl rfl U i [] X l B _ Z (N ad) ab stop) λr s4 ⟨O,I4⟩=>?_;subst O;show hR s4 l B I4 qn
 show thn (T.item Y rfl rfl rfl U i [] X l B _ Z (N ad) ab go) λr s4 ⟨u,O,h4⟩=>?_;subst O;show thn h4 λ_ s5 q=>?_;let#[x,H5,I5,r5,y5,P,am]:=q;let al:=I5.pinned (N am) (T.obj>>P);rw[OS] at al;show thn (back\hg _ s5 l H5 x u _ al r5 (step x H5 y5)) λ_ s6 ⟨C,H6,I6,q6⟩=>?_;show thn (back\hi _ s6 C H6 _ I6 q6) λb c ⟨f,j,E⟩=>?_;let again:∀{H:St}{f:Hp}{c:pS}{S:List V},Inv Y (lP fp s5.heap) H f c->(∃L,L<n/\W (i+1) L H S f)->∃m,m<n/\∃i Z' ys H',Inv Y [] Z' H' c/\z i c.heap/\(∀b∈fp,H' b=n7)/\W i m Z' ys H':=λ{H f c S} j ⟨L,hm,w7⟩=>by
  erw[L,hm,i+1,H,S,f,j.pins_of (λp hp=>by simp at hp),T.keep _ _ _ P λb a o e=>(j.pin (b,o)\fj _ (jM a e)).1,λb a=>?_,w7];let#[o,e,d]:=T.obj _ _ P b a;show (j.pin (b,o)\fj _ (jM a e)).2.1
 cases b with
 |false=>
  rw[vZ,Rx bG] at E;rw[Rx bG];show again j\ag _ _ _ E
 |true=>
  rw[vZ,Ry rfl] at E;rw[Ry rfl];show thn (back\he _ c C f _ j E) λv s8 q=>?_;let#[y,H8,I8,r8,hD,hl,q8]:=q;show thn (back\fm _ s8 C H8 (.ref D) [y] (.ref D) [v] (λ_ H'=>N' C (ys++[y]) H') I8 rfl (.cons r8 .nil) #[D,ys,y,5,hD,hl,q8]) λ_ s9 q=>?_;let#[_,H9,I9,_,q9]:=q;show again I9\ag _ _ _ q9
end
def tCoD(Q:VK)(D:pR):Hp->Prop:=λH2=>Q (.ref D) H2
def tCoA(g:TG)(tt:TT)(te:TE)(fr:List\Option Nat)(Z:St)(Q:VK)(J:It)(H1:Hp):Prop:=∀D,H1 D=n7->jV J g tt te D (iL fr Z) H1\tCoD Q D
def tCoK(g:TG)(tt:TT)(te:TE)(fr:List\Option Nat)(Z:St)(Q:VK):It->Hp->Prop:=λJ H1=>tCoA g tt te fr Z Q J H1
def lZ(wi:TI)(g:TG)(tt:TT)(te:TE)(fr:List\Option Nat):TE:=λZ H Q=>wi Z H\tCoK g tt te fr Z Q
section
variable {N:List Str}{fr:List (Option Nat)}{elt tg iter:Expr}{ifs:List Expr}{pos:Pos}{wi:TI}{g:TG}{tt:TT}{te:TE}
def PComp(X:Cx)(N:List Str)(scope:Scope)(tg:ry)(ifs:List ry)(elt:ry)(g:TG)(tt:TT)(te:TE):Prop:=
 ∀(C:pR)(s:pS)(H:Hp)(fp:List pR)(RC:List (pR×Obj)),PG (fD X N scope C s H fp RC) tg g/\PIf (fD X N scope C s H fp RC) ifs tt/\PE (fD X N scope C s H fp RC) elt te
def xT{i:pC}{Z_:pC->pR->Result->pS->Prop}{QQ:pR->Hp->Prop}(S:fJ X N fr scope)(I:X.calm=oD)
  (a:PComp X N scope tg ifs elt g tt te) (h2:PIE X RC Z tg (λJ H1=>∀D,H1 D=n7->jV J g tt te D (iL fr Z) H1\QQ D) i s)
  (K:∀D C s' H',Inv X RC Z H' s'->bY X RC H' C->(∃m,s'.heap.Ns C m)->QQ D H'->Z_ (.ref D) C (.ok .next) s') :
  q7 ⇑X X.A (newList []) (λacc L=>q7 ⇑X X.A (newFunctionEnv scope X.env.globals (eA X.env scope.names []) [] X.env.qual n7 .none\oy X.env) (λj M=>
   vc ⇑X X.A (.compStart (.ListComp elt [#[tg,iter,ifs,(0)]] scope pos) 0 i acc {j with scope:=relabel scope X.env}) (Z_ acc j.locals) M) E L) E s:=by
 let#[it,fp,O,J,H1,e,l,T,n,r,q]:=h2;subst e;let P:H1 ↥s=n7:=l.hok.fresh\aq _;let old:∀b∈fp,b<↥s:=λb a=>by
  let#[o,e,_]:=T.obj _ _ n b a;show aJ e
 show eQ\Qm S.nocell (by intro y Q;simp at Q) (λh1 v h=>?_) S.kind;dsimp only at v h |-;let x:Inv X RC Z (upd H1 ↥s\.lst []) {s with heap:=s.heap.push {cls:=.type ↑28,dict:=n7,data:=.seq ([]:List pC).toArray}}:=by show l.laid (t':=s.toks) (λb u e=>aO _ e) (aq _) ?_;erw[a_ _,[],_,.nil,bI _ rfl]
 let c:∀b∈fp,bY X RC (upd H1 ↥s\.lst []) b:=λb a=>#[by rw[ar\bB (old b a)];show (r b a).1,(r b a).2];let hsz:(s.heap.push {cls:=.type ↑28,dict:=n7,data:=.seq ([]:List pC).toArray}).objs.size=↥s+1:=km ..;let d:=xS (C:=(s.heap.push {cls:=.type ↑28,dict:=n7,data:=.seq ([]:List pC).toArray}).objs.size) (h1:=h1) (t:=s.toks+↑([]:List (Str×pC))) (fp:=fp) S x c (aq _)
  (λb a=>by rw[hsz];show bB\kB (old b a)) v λb o e=>h.extBut b o (bB\aJ e)\aO _ e
 let z:O 0 h1:=T.keep _ _ _ n λb a o e=>by
  let B:=aO {cls:=.type ↑28,dict:=n7,data:=.seq ([]:List pC).toArray} e;show h.extBut b o (bB\aJ B)\aO _ B
 let U:∀b∈fp,bY (fD X N scope (s.heap.push {cls:=.type ↑28,dict:=n7,data:=.seq ([]:List pC).toArray}).objs.size {s with heap:=s.heap.push {cls:=.type ↑28,dict:=n7,data:=.seq ([]:List pC).toArray}} (upd H1 ↥s\.lst []) fp RC) [] (upd H1 ↥s\.lst []) b:=λb a=>by
  erw[(c b a).1,(d.ok.exf b a).1,d.ok.exfs b a,.inl a,(d.ok.exf b a).2,λp f=>?_];let f:p∈(X.pn++RC)++[]:=f;rw[eX] at f;show (c b a).2.2.2.2.2 p f
 let#[b1,b2,b3]:=a (s.heap.push {cls:=.type ↑28,dict:=n7,data:=.seq ([]:List pC).toArray}).objs.size {s with heap:=s.heap.push {cls:=.type ↑28,dict:=n7,data:=.seq ([]:List pC).toArray}} (upd H1 ↥s\.lst []) fp RC;let run:=Il (Y:=fD X N scope (s.heap.push {cls:=.type ↑28,dict:=n7,data:=.seq ([]:List pC).toArray}).objs.size {s with heap:=s.heap.push {cls:=.type ↑28,dict:=n7,data:=.seq ([]:List pC).toArray}} (upd H1 ↥s\.lst []) fp RC) (elt:=elt) (iter:=iter) (pos:=pos) (scope:=scope) (R:=Z_ (.ref ↥s) (s.heap.push {cls:=.type ↑28,dict:=n7,data:=.seq ([]:List pC).toArray}).objs.size) rfl I d T z U b1 b2 b3 (q _ P) λs' Z' H' H q'=>by
  let#[J1,F1]:=zR x c (aq _) H;let#[m,hm,_]:=H.loc;show K _ _ s' H' J1 F1 #[m,hm] q'
 show codeAny_compStart_list run\T.self _ 0 _ _ _ z run
def dv(S:fJ X N fr scope)(c:X.calm=oD)(hi:PI X tg iter wi)(a:PComp X N scope tg ifs elt g tt te)
  (d:∀x,foldedSetIterable iter X.env x=pure x:=by intro _;rfl):PE X (.ListComp elt [#[tg,iter,ifs,(0)]] scope pos) (lZ wi g tt te fr):=by
 intro RC s Z H Q I h;rw[eval_ListComp];show Dm (use:=n7) rfl d (tW\S.cells I.ok) S.kind S.names (thn (hi RC s Z H _ I h) λv s1 h1=>thn h1 λi s2 h2=>?_);show xT (QQ:=λD H2=>Q (.ref D) H2) (Z_:=λacc C=>compPost ⇑X X.A X.xe n7 (EP X RC Z Q) acc C) S c a h2 λD C s' H' J F hm q=>?_;let#[m,hm]:=hm;erw[m,hm,λh' f=>#[.ref D,H',?_,1,q]];show J.turned (t':=s'.toks) (λb o a e=>f.extBut b o a e) F.1 F.2.1 F.2.2.2.1 F.2.2.2.2.1 F.2.2.2.2.2
def nY{i:Nat}{x:Str}{pos' spos:Pos}(S:fJ X N fr scope)(hc:X.calm=oD)(hi:PI X tg iter wi)(hb:PComp X N scope tg ifs elt g tt te)(hN:X.N.Nodup)(hx:X.N[i]?*>x)(hl:Loc X.env.scope x)
  (hsw:swapsWith (.ListComp elt [#[tg,iter,ifs,(0)]] scope pos) (oy\.Name x pos') spos.line X.env=pure oD:=by rfl)
  (hf:X.fn x=oD\/X.env.scope.names.lookup x*>.local:=by first|exact .inl rfl|exact .inr rfl|assumption)
  (hs:∀x,foldedSetIterable iter X.env x=pure x:=by intro _;rfl):PS X (.Assign [.Name x pos'] (.ListComp elt [#[tg,iter,ifs,(0)]] scope pos) spos) (oB (lZ wi g tt te fr)\cZ i):=by
 intro RC s Z H D I h;rw[exec_Assign_Name_used _ _ _ _ hsw];show aa\kM (aa ?_);change q7 _ _ (do let _ <-comprehension (.ListComp elt [#[tg,iter,ifs,(0)]] scope pos) scope X.env _ (newList []) p6 (sZ iter X.env)\oy (assign (.Name x pos') X.env)) _ _ s;show aa (thn (Dm (use:=oy\assign (.Name x pos') X.env) (Q:=λ_ s'=>SP X RC D .next s') rfl hs (tW\S.cells I.ok) S.kind S.names (thn (hi RC s Z H _ I h) λv s1 h1=>thn h1 λitv s2 h2=>?_)) λ_ s' hq=>ai\ai hq);show xT (QQ:=λd H2=>D.nx (Z.set i\oy (.ref d)) H2) (Z_:=λacc C=>compPost ⇑X X.A X.xe (oy\assign (.Name x pos') X.env) (λ_ s'=>SP X RC D .next s') acc C) S hc hb h2 λd C s' H' J F hm q=>?_;let#[m,hm]:=hm;change q7 _ _ (assign (.Name x pos') X.env\.ref d) _ _ s';show Qf\yh J hN hx hl (v:=.ref d) rfl (λs2 I2 ⟨a,sb,ha⟩=>?_) hf;let hCa:C≠a:=by
  rcases ha with e|e
  .rw[e];show F.2.1
  show λz=>F.2.2.2.2.1 x a e z.symm
 erw[m,hm.sameBut sb hCa,λh' hs'=>#[_,H',?_,q]];show I2.turned (t':=s2.toks) (λb o hb e=>hs'.extBut b o hb e) F.1 F.2.1 F.2.2.2.1 F.2.2.2.2.1 F.2.2.2.2.2
end
section
variable {a D:Addr}{g:TG}{tt:TT}{te:TE}{Z':St}{H1:Hp}{Q:Hp->Prop}
def dG(Pv:Nat->St->List V->Hp->Prop)(c:Pv 0 Z' []\upd H1 D (.lst []))(d:∀i Z ys H,i<=↑xs->Pv i Z ys H->SqL K H a xs)
  (f:∀i x Z ys H,xs[i]?*>x->Pv i Z ys H->g x Z H\oA tt te D ys (Pv (i+1)))
  (hd:∀Z ys H,Pv ↑xs Z ys H->Q H):jV (Itl K a) g tt te D Z' H1 Q:=by
 erw[λi m Z ys H=>m=↑xs-i/\i<=↑xs/\Pv i Z ys H,#[↑xs,∅,a_ _,c],?_];rintro i m Z ys H ⟨rfl,hi,p⟩;let q:=d i Z ys H hi p;by_cases b:i<↑xs
 .refine .inr #[#[xs,xs[i],q,by simp[b]],Pv (i+1),λZ' j H' h=>#[↑xs-(i+1),(),1,b,h],λx H' y=>?_];let#[e,y]:=y;subst e;show f i x Z ys _ (y xs q) p
 let e:i=↑xs:=();subst e;show .inl #[#[xs,q,aq _],hd Z ys H p]
def nG(Pv:Nat->St->List V->Hp->Prop)(c:Pv 0 Z' []\upd H1 D (.lst []))(d:∀i Z ys H,i<=↑xs->Pv i Z ys H->SqT K H a xs)
  (f:∀i x Z ys H,xs[i]?*>x->Pv i Z ys H->g x Z H\oA tt te D ys (Pv (i+1)))
  (hd:∀Z ys H,Pv ↑xs Z ys H->Q H):jV (Itt K a) g tt te D Z' H1 Q:=by
 erw[λi m Z ys H=>m=↑xs-i/\i<=↑xs/\Pv i Z ys H,#[↑xs,∅,a_ _,c],?_];rintro i m Z ys H ⟨rfl,hi,p⟩;let q:=d i Z ys H hi p;by_cases b:i<↑xs
 .refine .inr #[#[xs,xs[i],q,by simp[b]],Pv (i+1),λZ' j H' h=>#[↑xs-(i+1),(),1,b,h],λx H' y=>?_];let#[e,y]:=y;subst e;show f i x Z ys _ (y xs q) p
 let e:i=↑xs:=();subst e;show .inl #[#[xs,q,aq _],hd Z ys H p]
end
end L2
namespace TimS
open PySem PySem.W PyProof.Rows
def half{u w:Nat}(h:¬u ≥ w):u<=(u+w)/2/\(u+w)/2<w:=()
def half'{u w:Nat}(h:¬u ≥ w):u<=u+(w-u)/2/\u+(w-u)/2<w:=()
def fewer{u w k t m:Nat}(h:w-u<=k-t)(h1:m<w)(h2:u<=m):m-u<=k-(t+1):=()
def fewer'{u w k t m:Nat}(h:w-u<=k-t)(h1:m<w)(h2:u<=m):w-(m+1)<=k-(t+1):=()
abbrev SM:=StateT J2 Sem
def gal:Bool->I7->Array I7->Nat->Nat->Nat->SM (Option Nat):=sortPriv% PySem.Builtin.gallop
def mlo:Array I7->Array I7->SM (Array I7):=sortPriv% PySem.Builtin.mergeLo
def mhi:Array I7->Array I7->SM (Array I7):=sortPriv% PySem.Builtin.mergeHi
def smg:Nat->SM Unit:=sortPriv% PySem.Builtin.setMinGallop
def bey(l:Bool)(q:I7)(v:Array I7)(o i:Nat):SM (Option Bool):=do
 let x <-elem' v (o+i)
 if l then lt' x q else return (<-lt' q x).map (!·)
def Mc(l:Bool)(q:I7)(v:Array I7)(o n h:Nat):gal l q v o n h=(do
 let mut z:=0
 let mut c:=1
 let mut u:=0
 let mut w:=0
 let oy r <-bey l q v o h|return n7
 if r then
  let m:=n-h
  for _ in [0:n] do
   if c ≥ m then break
   let oy g <-bey l q v o (h+c)|return n7
   if !g then break
   z:=c
   c:=2*c+1
  u:=h+z+1
  w:=h+min c m
 else
  let m:=h+1
  for _ in [0:n] do
   if c ≥ m then break
   let oy g <-bey l q v o (h-c)|return n7
   if g then break
   z:=c
   c:=2*c+1
  u:=h+1-min c m
  w:=h-z
 for _ in [0:n] do
  if u ≥ w then break
  let m:=u+(w-u)/2
  let oy g <-bey l q v o m|return n7
  if g then u:=m+1 else w:=m
 return oy w):=rfl
def faL(x y v:Array I7)(i j:Nat):Array Keyed:=v++x.extract i x.size++y.extract j y.size
def fbL(x y v:Array I7)(i j:Nat):Array Keyed:=v++y.extract j y.size++x.extract i x.size
def LN(x y:Array I7):mlo x y=(do
 rule "list.sort.merge-lo"
 let T:=x.size+y.size
 let mut v:Array Keyed:=(tA [<-elem' y 0])
 let mut i:=0
 let mut j:=1
 if j==y.size then return faL x y v i j
 if i+1==x.size then return fbL x y v i j
 let mut g:=gallopOf (<-get)
 for _ in [0:T] do
  let mut c:=0
  let mut d:=0
  for _ in [0:T] do
   let oy b <-lt' (<-elem' y j) (<-elem' x i)|return faL x y v i j
   if b then
    v:=v.push (<-elem' y j);j:=j+1;d:=d+1;c:=0
    if j==y.size then return faL x y v i j
    if d ≥ g then break
   else
    v:=v.push (<-elem' x i);i:=i+1;c:=c+1;d:=0
    if i+1==x.size then return fbL x y v i j
    if c ≥ g then break
  rule "list.sort.gallop"
  g:=g+1
  for _ in [0:T] do
   if g>1 then g:=g-1
   smg g
   let oy k <-gal p6 (<-elem' y j) x i (x.size-i) 0|return faL x y v i j
   c:=k
   if k>0 then
    v:=v++x.extract i (i+k);i:=i+k
    if i+1==x.size then return fbL x y v i j
    if i==x.size then return faL x y v i j
   v:=v.push (<-elem' y j);j:=j+1
   if j==y.size then return faL x y v i j
   let oy k <-gal oD (<-elem' x i) y j (y.size-j) 0|return faL x y v i j
   d:=k
   if k>0 then
    v:=v++y.extract j (j+k);j:=j+k
    if j==y.size then return faL x y v i j
   v:=v.push (<-elem' x i);i:=i+1
   if i+1==x.size then return fbL x y v i j
   if c<7&&d<7 then break
  g:=g+1
  smg g
 unsupported "internal:list.sort.merge-bound"):=rfl
def G(a:Array I7)(i:Nat):Keyed:=a.getD i (Value.none,Value.none)
structure Cmp(M:Model)(A:z3)(E:pC->pS->Prop)(s:pS)(κ:LI)(N:I7->Prop)(lt:I7->I7->Bool):Prop where
 asym:∀x y,lt x y=oD->lt y x=p6
 tr:∀x y z,lt y x=p6->lt z y=p6->lt z x=p6
 ask:∀{x y:I7}{st:J2}{Q:Option Bool->J2->Prop},N x->N y->kindOf st=κ->Q (oy\lt x y) st->wpS M A E s (lt' x y) Q st
section
variable {M:Model}{κ:SortKind}{N:Keyed->Prop}{lt:Keyed->Keyed->Bool}
def rZ{a:Array I7}{i:Nat}(h:i<a.size):a[i]?*>G a i:=by simp[G,Array.getD,h]
def bF{α:Type}{c:Prop}[Decidable c]{t e:StateT J2 Sem α}{Q:α->J2->Prop}{st:J2}(h:c)(q:wpS M A E s t Q st):wpS M A E s (if c then t else e) Q st:=by rw[Ry h];show q
def bC{α:Type}{c:Prop}[Decidable c]{t e:StateT J2 Sem α}{Q:α->J2->Prop}{st:J2}(h:¬c)(q:wpS M A E s e Q st):wpS M A E s (if c then t else e) Q st:=by rw[Rx h];show q
def dB{a:Array I7}{i:Nat}{Q:I7->J2->Prop}{st:J2}(h:i<a.size)(q:Q (G a i) st):wpS M A E s (elem' a i) Q st:=by rw[elem'_eq,rZ h];show aL q
def Cmp.refl(C:Cmp M A E s κ N lt)(x:I7):lt x x=p6:=by
 cases h:lt x x with
 |false=>rfl
 |true=>let z:=C.asym x x h;rw[h] at z;cases z
def Cmp.ltle(C:Cmp M A E s κ N lt){x y z:I7}(h:lt x y=oD)(h2:lt z y=p6):lt x z=oD:=by
 cases q:lt x z with
 |true=>rfl
 |false=>have:=C.tr _ _ _ h2 q;rw[h] at this;cases this
def Cmp.lelt(C:Cmp M A E s κ N lt){x y z:I7}(h:lt y x=p6)(h2:lt y z=oD):lt x z=oD:=by
 cases q:lt x z with
 |true=>rfl
 |false=>have:=C.tr _ _ _ q h;rw[h2] at this;cases this
def lh{x:String}{Q:Unit->J2->Prop}{st:J2}(h:Q .unit st):wpS M A E s (liftM (rule x):SM Unit) Q st:=wpS_lift\tK #[1,h]
def bv(lt:I7->I7->Bool)(l:Bool)(q:I7)(v:Array I7)(o i:Nat):Bool:=if l then lt (G v (o+i)) q else !lt q (G v (o+i))
def lK(C:Cmp M A E s κ N lt){l:Bool}{q:I7}{v:Array I7}{o i:Nat}{st:J2}{Q:Option Bool->J2->Prop}(a:∀i,i<v.size->N\G v i)(b:N q)(hi:o+i<v.size)(c:kindOf st=κ)(h:Q (oy\bv lt l q v o i) st):wpS M A E s (bey l q v o i) Q st:=by
 unfold bey;show aB\dB hi ?_;cases l with
 |true=>show C.ask (a _ hi) b c h
 |false=>show aB\C.ask b (a _ hi) c (aL h)
def lJ{l:Bool}{q:I7}{n h:Nat}{st:J2}{Q:Option Nat->J2->Prop}(b:Nat->Bool)(hb:∀i,i<n->∀Q:Option Bool->J2->Prop,Q (oy\b i) st->wpS M A E s (bey l q v o i) Q st)
  (mo:∀i j,i<=j->j<n->b j=oD->b i=oD) (hh:h<n) (hQ:∀k,k<=n->(∀i,i<k->b i=oD)->(∀i,k<=i->i<n->b i=p6)->Q (oy k) st):wpS M A E s (gal l q v o n h) Q st:=by
 let mf:∀i j,i<=j->j<n->b i=p6->b j=p6:=λi j a c d=>by
  cases e:b j with
  |false=>rfl
  |true=>rw[mo i j a c e] at d;cases d
 let tail:∀(u w:Nat),u<=w->w<=n->(∀i,i<u->b i=oD)->(∀i,w<=i->i<n->b i=p6)->wpS M A E s (do
   let mut u:=u
   let mut w:=w
   for _ in [0:n] do
    if u ≥ w then break
    let m:=u+(w-u)/2
    let oy g <-bey l q v o m|return n7
    if g then u:=m+1 else w:=m
   return oy w) Q st:=by
  intro u w h1 h2 h3 h4;dsimp only;show aB (fH (fk (I:=λi x st'=>st'=st/\x.1=n7/\x.2.1<=x.2.2/\x.2.2<=n/\x.2.2-x.2.1<=n-i/\(∀i,i<x.2.1->b i=oD)/\(∀i,x.2.2<=i->i<n->b i=p6)) (Q:=λx st'=>st'=st/\x.1=n7/\x.2.1=x.2.2/\x.2.2<=n/\(∀i,i<x.2.1->b i=oD)/\(∀i,x.2.2<=i->i<n->b i=p6)) ?step ?fin #[5,h1,h2,by change w-u<=n-0;lia,h3,h4]) ?post)
  case fin=>
   rintro⟨r,u,w⟩ st' ⟨rfl,e,a1,a2,a3,a4,a5⟩;let a1:u<=w:=a1;let a3:w-u<=n-max 0 n:=a3;erw[1,e,by change u=w;lia,a2,a4,a5]
  case step=>
   rintro i ⟨r,u,w⟩ st' _ hi ⟨rfl,e,a1,a2,a3,a4,a5⟩;let a1:u<=w:=a1;let a2:w<=n:=a2;let a3:w-u<=n-i:=a3;let a4:∀i,i<u->b i=oD:=a4;let a5:∀i,w<=i->i<n->b i=p6:=a5;dsimp only;by_cases c:u ≥ w
   .refine bF c ?_;show aL #[5,by change u=w;lia,a2,a4,a5]
   show bC c ?_;let#[m1,m2]:=half' c;generalize u+(w-u)/2=m at m1 m2 |-;show aB\hb _ (bU m2 a2) _ ?_;dsimp only;cases hm:b m with
   |true=>
    show bF rfl ?_;show aL #[5,m2,a2,fewer' a3 m2 m1,λk hk=>mo k m (OY hk) (bU m2 a2) hm,a5]
   |false=>
    show bC ⋯ ?_;show aL #[5,m1,oO\bU m2 a2,fewer a3 m2 m1,a4,λk hk h'=>mf _ k hk h' hm]
  case post=>
   rintro⟨r,u,w⟩ st' ⟨rfl,e,a1,a2,a3,a4⟩;let e:r=n7:=e;cases e;cases (show u=w from a1);show aL\hQ u a2 a3 a4
 rw[Mc];dsimp only;show aB\hb h hh _ ?_;dsimp only;cases b0:b h with
 |true=>
  show bF rfl ?_;show aB (fH (fk (β:=Option (Option Nat)×Nat×Nat) (I:=λi x st'=>st'=st/\x.1=n7/\b (h+x.2.1)=oD/\h+x.2.1<n/\x.2.1<x.2.2/\i<x.2.2) (Q:=λx st'=>st'=st/\x.1=n7/\b (h+x.2.1)=oD/\h+x.2.1<n/\x.2.1<x.2.2/\(x.2.2 ≥ n-h\/b (h+x.2.2)=p6)) ?s1 ?f1 #[5,b0,hh,hV 0,hV 0]) ?p1)
  case f1=>
   rintro⟨r,z,c⟩ st' ⟨rfl,e,a1,a2,a3,a4⟩;let a4:max 0 n<c:=a4;erw[1,e,a1,a2,a3,.inl (by change c ≥ n-h;lia)]
  case s1=>
   rintro i ⟨r,z,c⟩ st' _ hi ⟨rfl,e,a1,a2,a3,a4⟩;let a1:b (h+z)=oD:=a1;let a2:h+z<n:=a2;let a3:z<c:=a3;let a4:i<c:=a4;dsimp only;by_cases c1:c ≥ n-h
   .exact bF c1\aL #[5,a1,a2,a3,.inl c1]
   show bC c1 ?_;show aB\hb _ () _ ?_;dsimp only;cases hm:b (h+c) with
   |true=>
    show bC ⋯ ?_;show aL #[5,hm,by change h+c<n;lia,by change c<2*c+1;lia,by change i+1<2*c+1;lia]
   |false=>
    show bF ⋯ ?_;show aL #[5,a1,a2,a3,.inr hm]
  case p1=>
   rintro⟨r,z,c⟩ st' ⟨rfl,e,a1,a2,a3,a4⟩;let e:r=n7:=e;subst e;let a1:b (h+z)=oD:=a1;let a2:h+z<n:=a2;let a3:z<c:=a3;let a4:c ≥ n-h\/b (h+c)=p6:=a4;dsimp only;show tail (h+z+1) (h+min c (n-h)) () () (λi hi=>mo i (h+z) () a2 a1) (λi hi hn=>?_);rcases a4 with a4|a4
   .lia
   by_cases c1:c ≥ n-h
   .lia
   show mf (h+c) i () hn a4
 |false=>
  show bC ⋯ ?_;show aB (fH (fk (β:=Option (Option Nat)×Nat×Nat) (I:=λi x st'=>st'=st/\x.1=n7/\b (h-x.2.1)=p6/\x.2.1<=h/\x.2.1<x.2.2/\i<x.2.2) (Q:=λx st'=>st'=st/\x.1=n7/\b (h-x.2.1)=p6/\x.2.1<=h/\x.2.1<x.2.2/\(x.2.2 ≥ h+1\/b (h-x.2.2)=oD)) ?s2 ?f2 #[5,b0,a_ _,hV 0,hV 0]) ?p2)
  case f2=>
   rintro⟨r,z,c⟩ st' ⟨rfl,e,a1,a2,a3,a4⟩;let a4:max 0 n<c:=a4;erw[1,e,a1,a2,a3,.inl (by change c ≥ h+1;lia)]
  case s2=>
   rintro i ⟨r,z,c⟩ st' _ hi ⟨rfl,e,a1,a2,a3,a4⟩;let a1:b (h-z)=p6:=a1;let a2:z<=h:=a2;let a3:z<c:=a3;let a4:i<c:=a4;dsimp only;by_cases c1:c ≥ h+1
   .exact bF c1\aL #[5,a1,a2,a3,.inl c1]
   show bC c1 ?_;show aB\hb _ () _ ?_;dsimp only;cases hm:b (h-c) with
   |true=>
    show bF rfl ?_;show aL #[5,a1,a2,a3,.inr hm]
   |false=>
    show bC ⋯ ?_;show aL #[5,hm,by change c<=h;lia,by change c<2*c+1;lia,by change i+1<2*c+1;lia]
  case p2=>
   rintro⟨r,z,c⟩ st' ⟨rfl,e,a1,a2,a3,a4⟩;let e:r=n7:=e;subst e;let a1:b (h-z)=p6:=a1;let a2:z<=h:=a2;let a3:z<c:=a3;let a4:c ≥ h+1\/b (h-c)=oD:=a4;dsimp only;show tail (h+1-min c (h+1)) (h-z) () () (λi hi=>?_) (λi hi hn=>mf (h-z) i () hn a1);rcases a4 with a4|a4
   .lia
   by_cases c1:c ≥ h+1
   .lia
   show mo i (h-c) () () a4
end
def faH(x y v:Array I7)(i j:Nat):Array Keyed:=x.extract 0 i++y.extract 0 j++v.reverse
def fbH(x y v:Array I7)(i j:Nat):Array Keyed:=y.extract 0 j++x.extract 0 i++v.reverse
def LO(x y:Array I7):mhi x y=(do
 rule "list.sort.merge-hi"
 let T:=x.size+y.size
 let mut i:=x.size-1
 let mut j:=y.size
 let mut v:Array Keyed:=(tA [<-elem' x i])
 if i==0 then return faH x y v i j
 if j==1 then return fbH x y v i j
 let mut g:=gallopOf (<-get)
 for _ in [0:T] do
  let mut c:=0
  let mut d:=0
  for _ in [0:T] do
   let oy b <-lt' (<-elem' y (j-1)) (<-elem' x (i-1))|return faH x y v i j
   if b then
    i:=i-1;v:=v.push (<-elem' x i);c:=c+1;d:=0
    if i==0 then return faH x y v i j
    if c ≥ g then break
   else
    j:=j-1;v:=v.push (<-elem' y j);d:=d+1;c:=0
    if j==1 then return fbH x y v i j
    if d ≥ g then break
  rule "list.sort.gallop"
  g:=g+1
  for _ in [0:T] do
   if g>1 then g:=g-1
   smg g
   let oy p <-gal p6 (<-elem' y (j-1)) x 0 i (i-1)|return faH x y v i j
   let k:=i-p
   c:=k
   if k>0 then
    v:=v++(x.extract p i).reverse;i:=p
    if i==0 then return faH x y v i j
   j:=j-1;v:=v.push (<-elem' y j)
   if j==1 then return fbH x y v i j
   let oy p <-gal oD (<-elem' x (i-1)) y 0 j (j-1)|return faH x y v i j
   let k:=j-p
   d:=k
   if k>0 then
    v:=v++(y.extract p j).reverse;j:=p
    if j==1 then return fbH x y v i j
    if j==0 then return faH x y v i j
   i:=i-1;v:=v.push (<-elem' x i)
   if i==0 then return faH x y v i j
   if c<7&&d<7 then break
  g:=g+1
  smg g
 unsupported "internal:list.sort.merge-bound"):=rfl
def K6(g:Nat):smg g=modify λs=>SortSt.mk' (kindOf s) (L4 s) (J0 s) g (Lf s):=rfl
def LP(i:Nat):mergeAt' i=(do
 let s <-get
 let (oy (p,m,e),oy (q,n,_)):=((J0 s)[i]?,(J0 s)[i+1]?)|unsupported "internal:list.sort.pending"
 set (setPending s\((J0 s).setIfInBounds i (p,m+n,e)).eraseIdxIfInBounds (i+1))
 let oy k <-gal p6 (<-elem' (L4 s) q) (L4 s) p m 0|return p6
 let (p,m):=(p+k,m-k)
 if m==0 then return oD
 let oy n <-gal oD (<-elem' (L4 s) (p+m-1)) (L4 s) q n (n-1)|return p6
 if n==0 then return oD
 let x:=(L4 s).extract p q
 let y:=(L4 s).extract q (q+n)
 let r <-if m<=n then mlo x y else mhi x y
 modify λs=>setArr s (r.toList.zipIdx.foldl (λa (z,j)=>a.setIfInBounds (p+j) z)\L4 s)
 return (Lf (<-get)).isNone):=rfl
section
variable {M:Model}{κ:SortKind}{N:Keyed->Prop}{lt:Keyed->Keyed->Bool}
def Asc(lt:I7->I7->Bool)(x:Array I7):Prop:=∀i j,i<=j->j<x.size->lt (G x j) (G x i)=p6
def Srt(lt:I7->I7->Bool)(l:List I7):Prop:=l.Pairwise λa b=>lt b a=p6
structure MI(lt:I7->I7->Bool)(x y v:Array I7)(i j:Nat):Prop where
 ix:i<=x.size
 jy:j<=y.size
 pm:v.toList.Perm (x.toList.take i++y.toList.take j)
 so:Srt lt v.toList
 bx:∀a∈v.toList,∀k,i<=k->k<x.size->lt (G x k) a=p6
 by_:∀a∈v.toList,∀k,j<=k->k<y.size->lt (G y k) a=p6
def Good(lt:I7->I7->Bool)(x y v:Array I7):Prop:=v.toList.Perm (x.toList++y.toList)/\Srt lt v.toList
def MI.sw(h:MI lt x y v i j):MI lt y x v j i:=#[h.jy,h.ix,h.pm<*jI,h.so,h.by_,h.bx]
def KA{x:Array I7}{i:Nat}(h:i<x.size):x.toList.take (i+1)=x.toList.take i++[G x i]:=by rw[bE,jB,rZ h];rfl
def MI.push(hx:Asc lt x)(h:MI lt x y v i j)(hi:i<x.size)(c:∀k,j<=k->k<y.size->lt (G y k) (G x i)=p6):MI lt x y (v.push\G x i) (i+1) j:=by
 erw[hi,h.jy,?_,?_,λa ha k h1 h2=>?_,λa ha k h1 h2=>?_]
 .rw[iw,KA hi,gi];show (h.pm.append_right _).trans ?_;rw[gi];show List.Perm.append_left _ jI
 .unfold Srt;rw[iw,wJ];erw[h.so,tq _ _,λa ha b d=>?_];rw[aG.mp d];show h.bx a ha i (aq _) hi
 .rw[iw] at ha;rcases bo.mp ha with ha|ha
  .exact h.bx a ha k () h2
  rw[aG.mp ha];show hx i k () h2
 rw[iw] at ha;rcases bo.mp ha with ha|ha
 .exact h.by_ a ha k h1 h2
 rw[aG.mp ha];show c k h1 h2
def B_{x v:Array I7}{i k:Nat}(h:i+k<x.size):v++x.extract i (i+(k+1))=(v++x.extract i (i+k)).push (G x (i+k)):=by
 apply oH.mp;rw[iw,Oo,Oo,wd,wd,wz,wz,gi]
 congr 1
 rw[show i+(k+1)-i=k+1 by lia,show i+k-i=k by lia,bE,wC,jB,rZ h];rfl
def MI.chunk(hx:Asc lt x)(h:MI lt x y v i j):∀(k:Nat),i+k<=x.size->(∀m,m<k->∀a,j<=a->a<y.size->lt (G y a) (G x (i+m))=p6)->MI lt x y (v++x.extract i (i+k)) (i+k) j
 |0,_,_=>by
  let e:v++x.extract i (i+0)=v:=by apply oH.mp;simp
  rw[e];show h
 |k+1,b,hm=>by
  rw[B_ ()];show (MI.chunk hx h k () λm c=>hm m ()).push hx ()\hm k (hV _)
def MI.fin(h:MI lt x y v x.size y.size):Good lt x y v:=by
 erw[?_,h.so];have:=h.pm
 rwa [iY ∅,iY ∅] at this
def MI.fa(hx:Asc lt x)(c:Asc lt y)(h:MI lt x y v i j)(d:∀m,i<=m->m<x.size->∀k,j<=k->k<y.size->lt (G y k) (G x m)=p6):Good lt x y (v++x.extract i x.size++y.extract j y.size):=by let hi:=h.ix;let e:=h.jy;let a:=MI.chunk hx h (x.size-i) () λm hm k h1 h2=>d _ () () k h1 h2;rw[show i+(x.size-i)=x.size by lia] at a;let b:=MI.chunk c a.sw (y.size-j) () λm hm k h1 h2=>absurd h1 ();rw[show j+(y.size-j)=y.size by lia] at b;show b.sw.fin
def Good.sw{x y v:Array I7}(h:Good lt y x v):Good lt x y v:=#[h.1<*jI,h.2]
def Fr(st a:J2):Prop:=kindOf a=kindOf st/\L4 a=L4 st/\J0 a=J0 st/\Lf a=Lf st
def qA{g:Nat}{st a:J2}{Q:Unit->J2->Prop}(f:Fr st a)(h:∀b,Fr st b->Q .unit b):wpS M A E s (smg g) Q a:=by rw[K6];show jL\h _ f
structure J(lt:I7->I7->Bool)(x y:Array I7)(st:J2)(lo:Nat)(r:Option\Array I7)(v:Array I7)(i j:Nat)(st':J2):Prop where
 f:Fr st st'
 yes:∀a,r*>a->Good lt x y a
 no:r=n7->MI lt x y v i j/\i+1<x.size/\j<y.size/\lo<=i+j
def J.on{x y:Array I7}{st a:J2}{lo i j:Nat}{v:Array I7}(f:Fr st a)(h:MI lt x y v i j)(hi:i+1<x.size)(b:j<y.size)(c:lo<=i+j):J lt x y st lo n7 v i j a:=#[f,λ_ z=>(nomatch z),λ_=>#[h,hi,b,c]]
def J.end_{x y:Array I7}{st b:J2}{lo i j:Nat}{v a:Array I7}(f:Fr st b)(h:Good lt x y a):J lt x y st lo (oy a) v i j b:=#[f,λ_ z=>eg z ▸ h,λz=>(nomatch z)]
def Ks(C:Cmp M A E s κ N lt){x y:Array I7}{st:J2}{Q:Array I7->J2->Prop}(hk:kindOf st=κ)(Nx:∀i,i<x.size->N\G x i)(Ny:∀i,i<y.size->N\G y i)(hx:Asc lt x)(H:Asc lt y)(h0:0<x.size)(h1:0<y.size)
  (hb:lt (G y 0) (G x 0)=oD) (hl:∀j,j<y.size->lt (G y j) (G x (x.size-1))=oD) (q:∀r l,Fr st l->Good lt x y r->Q r l):wpS M A E s (mlo x y) Q st:=by
 let m0:MI lt x y (tA [G y 0]) 0 1:=by let z:MI lt y x (tA []) 0 0:=#[a_ _,a_ _,∅,List.Pairwise.nil,∅,∅];show (z.push H h1 λk _ ab=>C.tr _ _ _ (C.asym>>hb)\hx 0 k (a_ _) ab).sw
 let fa:∀{v:Array I7}{i j:Nat},MI lt x y v i j->j=y.size\/i=x.size->Good lt x y (v++x.extract i x.size++y.extract j y.size):=λ{v i j} m e=>m.fa hx H λa h2 u b h4 h5=>absurd e ();let fb:∀{v:Array I7}{i j:Nat},MI lt x y v i j->i+1=x.size->Good lt x y (v++y.extract j y.size++x.extract i x.size):=λ{v i j} m e=>(m.sw.fa H hx λa h2 u b h4 h5=>by
  rw[show b=x.size-1 by lia];show C.asym _ _\hl a u).sw
 let K:∀{a b:Nat},(a==b)=oD->a=b:=λh=>‹h›
 let L:∀{a b:Nat},¬(a==b)=oD->a≠b:=λh=>‹h›
 rw[LN];dsimp only;show aB\lh (aB\dB h1 ?_);by_cases Y:(1==y.size)=oD
 .exact bF Y\aL (q _ _ #[5,5]\fa m0 (.inl\K Y))
 show bC Y ?_;by_cases Z:(0+1==x.size)=oD
 .exact bF Z\aL (q _ _ #[5,5]\fb m0 (K Z))
 show bC Z ?_;let Y:=L Y;let Z:=L Z;let j0:=J.on (lo:=0) (show Fr st st from #[5,5]) m0 () ()\a_ _;show aB\i6 (aB (fH (fk (β:=Option (Array I7)×Array I7×Nat×Nat×Nat) (I:=λt z l=>z.1=n7/\J lt x y st t n7 z.2.1 z.2.2.1 z.2.2.2.1 l) (Q:=λz l=>J lt x y st (x.size+y.size) z.1 z.2.1 z.2.2.1 z.2.2.2.1 l) ?step ?fin #[1,j0]) ?post))
 case fin=>
  rintro⟨r,v,i,j,g⟩ l ⟨e,h⟩;let e:r=n7:=e;subst e;erw[h.f,h.yes,λz=>by
   let#[a1,w,n,B]:=h.no z;erw[a1,w,n,by rw[wU\a_ _] at B;show B]]
 case post=>
  rintro⟨r,v,i,j,g⟩ l h;cases r with
  |some r=>show aL\q _ _ h.f (h.yes _ rfl)
  |none=>
   let#[_,w,n,B]:=h.no rfl;let w:i+1<x.size:=w;let n:j<y.size:=n;let B:x.size+y.size<=i+j:=B;lia
 case step=>
  rintro t ⟨r,v,i,j,g⟩ bb _ ht ⟨e,h⟩;let e:r=n7:=e;subst e;dsimp only at h |-;show aB (fH (fk (β:=Option (Array I7)×Array I7×Nat×Nat×Nat×Nat) (I:=λk z l=>z.1=n7/\J lt x y st (t+k) n7 z.2.1 z.2.2.1 z.2.2.2.1 l) (Q:=λz l=>J lt x y st (t+1) z.1 z.2.1 z.2.2.1 z.2.2.2.1 l) ?s1 ?f1 #[1,h]) ?p1)
  case f1=>
   rintro⟨r,v,i,j,c,d⟩ l ⟨e,h⟩;let e:r=n7:=e;subst e;erw[h.f,h.yes,λz=>by
    let#[a1,w,n,B]:=h.no z;erw[a1,w,n,by rw[wU\a_ _] at B;lia]]
  case s1=>
   rintro k ⟨r,v,i,j,c,d⟩ l _ ab ⟨e,h⟩;let#[m,w,n,B]:=h.no rfl;let f:=h.f;clear h e;dsimp only at m w n B |-;show aB\dB n (aB\dB () (aB\C.ask (Ny _ n) (Nx _ ()) (f.1<*hk) ?_));dsimp only;cases hc:lt (G y j) (G x i) with
   |true=>
    show bF rfl ?_;let P:=(m.sw.push H n λk h2 u=>C.tr _ _ _ (C.asym>>hc)\hx i k h2 u).sw;show aB\dB n ?_
    split
    .rename_i e;show aL\J.end_ f (fa P\.inl (K e))
    rename_i e;let e:=L e;let R:=J.on (lo:=t+1) f P w () ();let U:=J.on (lo:=t+(k+1)) f P w () ()
    split
    .exact aL R
    show aL #[1,U]
   |false=>
    show bC ⋯ ?_;let P:=m.push hx () λk h2 u=>C.tr _ _ _ hc\H j k h2 u;show aB\dB () ?_
    split
    .rename_i e;show aL\J.end_ f (fb P\K e)
    rename_i e;let e:=L e;let R:=J.on (lo:=t+1) f P () n ();let U:=J.on (lo:=t+(k+1)) f P () n ()
    split
    .exact aL R
    show aL #[1,U]
  case p1=>
   rintro⟨r,v,i,j,c,d⟩ l h;cases r with
   |some r=>show aL #[h.f,h.yes,λz=>nomatch z]
   |none=>
   dsimp only at h |-;show aB\lh (aB (fH (fk (β:=Option (Array I7)×Array I7×Nat×Nat×Nat×Nat×Nat) (I:=λk z l=>z.1=n7/\J lt x y st (t+1) n7 z.2.1 z.2.2.1 z.2.2.2.1 l) (Q:=λz l=>J lt x y st (t+1) z.1 z.2.1 z.2.2.1 z.2.2.2.1 l) ?s2 ?f2 #[1,h]) ?p2))
   case f2=>
    rintro⟨r,v,i,j,g,c,d⟩ l ⟨e,h⟩;let e:r=n7:=e;subst e;show h
   case p2=>
    rintro⟨r,v,i,j,g,c,d⟩ l h;cases r with
    |some r=>show aL #[h.f,h.yes,λz=>nomatch z]
    |none=>show aB (qA h.f λbc f'=>aL #[1,f',λ_ z=>(nomatch z),h.no])
   case s2=>
    rintro k ⟨r,v,i,j,g,c,d⟩ bd _ ab ⟨e,h⟩;let#[m,w,n,B]:=h.no rfl;let f:=h.f;clear h e;dsimp only at m w n B |-;let tl:∀{o:Nat},bv lt p6 (G y j) x i o=oD->lt (G y j) (G x (i+o))=p6:=λh=>by simpa [bv] using h
    let fl:∀{o:Nat},bv lt p6 (G y j) x i o=p6->lt (G y j) (G x (i+o))=oD:=λh=>by simpa [bv] using h
    by_cases hg:g>1;show bF hg ?_
    rotate_left
    show bC hg ?_
    all_goals
     show aB (qA f λbe O=>aB\dB n (aB (lJ (bv lt p6 (G y j) x i) (λo S Q' q'=>lK C Nx (Ny _ n) () (O.1<*hk) q') (λo p S hp ad=>?_) () λk bi aS a0=>?_)))
     .cases hc:lt (G y j) (G x (i+o)) with
      |false=>change (!lt _ _)=oD;rw[hc];rfl
      |true=>have:=C.ltle hc\hx (i+o) (i+p) () ();rw[tl ad] at this;cases this
     dsimp only;let m1:=m.chunk hx k () λo S D h2 u=>C.tr _ _ _ (tl\aS o S)\H j D h2 u;let ag:i+k<x.size->lt (G y j) (G x (i+k))=oD:=λz=>fl\a0 k (aq _) ();let i0:t+1<=i+k+j:=();by_cases am:k>0;show bF am ?_;by_cases c1:(i+k+1==x.size)=oD
     .exact bF c1\aL (J.end_ O\fb m1 (K c1))
     show bC c1 ?_;by_cases c2:(i+k==x.size)=oD
     .exact bF c2\aL (J.end_ O\fa m1 (.inr\K c2))
     show bC c2 ?_;let c1:=L c1;let c2:=L c2;let b2:i+k+1<x.size:=();let n1:=ag ();generalize i+k=i1 at m1 b2 n1 i0 |-;generalize v++x.extract i i1=v1 at m1 |-
     rotate_left
     show bC am ?_;let b2:=w;let n1:=ag ();let m1:=m;let i0:=B;rw[show i+k=i by lia] at n1;clear ag;generalize i=i1 at m1 b2 n1 i0 |-;generalize v=v1 at m1 |-
     all_goals
      let m2:=(m1.sw.push H n λk h2 u=>C.tr _ _ _ (C.asym>>n1)\hx i1 k h2 u).sw;show aB\dB n ?_;by_cases X:(j+1==y.size)=oD
      .exact bF X\aL (J.end_ O\fa m2 (.inl\K X))
      show bC X ?_;let X:=L X;show aB\dB () (aB (lJ (bv lt oD (G x i1) y (j+1)) (λo S Q' q'=>lK C Ny (Nx _ ()) () (O.1<*hk) q') (λo p S hp ad=>C.lelt (H _ _ () ()) ad) () λD a5 an ap=>?_));dsimp only;let T:=(m2.sw.chunk H D () λo S a6 h2 u=>C.tr _ _ _ (C.asym>>(an o S))\hx i1 a6 h2 u).sw;let al:j+1+D<y.size->lt (G y (j+1+D)) (G x i1)=p6:=λz=>ap D (aq _) ();let j0:j<=j+1+D:=();by_cases aM:D>0;show bF aM ?_;by_cases c4:(j+1+D==y.size)=oD
      .exact bF c4\aL (J.end_ O\fa T (.inl\K c4))
      show bC c4 ?_;let c4:=L c4;let b3:j+1+D<y.size:=();let n2:=al b3;generalize j+1+D=R at T b3 n2 j0 |-;generalize v1.push (G y j)++y.extract (j+1) R=v3 at T |-
      rotate_left
      show bC aM ?_;let b3:j+1<y.size:=();let n2:=al ();let T:=m2;let j0:j<=j+1:=mH _;rw[show j+1+D=j+1 by lia] at n2;clear al a5 an ap X;generalize j+1=R at T b3 n2 j0 |-;generalize v1.push (G y j)=v3 at T |-
      all_goals
       let m4:=T.push hx () λk h2 u=>C.tr _ _ _ n2\H R k h2 u;show aB\dB () ?_;by_cases c5:(i1+1+1==x.size)=oD
       .exact bF c5\aL (J.end_ O\fb m4 (K c5))
       show bC c5 ?_;let c5:=L c5;let U:=J.on (lo:=t+1) O m4 () b3 ()
       split
       .exact aL U
       show aL #[1,U]
end
section
variable {M:Model}{κ:SortKind}{N:Keyed->Prop}{lt:Keyed->Keyed->Bool}
structure HI(lt:I7->I7->Bool)(x y v:Array I7)(i j:Nat):Prop where
 ix:i<=x.size
 jy:j<=y.size
 pm:v.toList.Perm (x.toList.drop i++y.toList.drop j)
 so:v.toList.Pairwise λa b=>lt a b=p6
 bx:∀a∈v.toList,∀k,k<i->lt a (G x k)=p6
 by_:∀a∈v.toList,∀k,k<j->lt a (G y k)=p6
def HI.sw(h:HI lt x y v i j):HI lt y x v j i:=#[h.jy,h.ix,h.pm<*jI,h.so,h.by_,h.bx]
def Mi{x:Array I7}{i:Nat}(h:i<x.size):x.toList.drop i=G x i::x.toList.drop (i+1):=by rw[iW ‹h›];simp[G,h]
def HI.push{i:Nat}(hx:Asc lt x)(h:HI lt x y v (i+1) j)(c:∀k,k<j->lt (G x i) (G y k)=p6):HI lt x y (v.push\G x i) i j:=by
 let hi:=h.ix;erw[(),h.jy,?_,?_,λa ha k h1=>?_,λa ha k h1=>?_]
 .rw[iw,Mi (show i<x.size by lia)];show (jI.trans\List.Perm.cons _ h.pm)
 .rw[iw,wJ];erw[h.so,tq _ _,λa ha b d=>?_];rw[aG.mp d];show h.bx a ha i\hV _
 .rw[iw] at ha;rcases bo.mp ha with ha|ha
  .exact h.bx a ha k ()
  rw[aG.mp ha];show hx k i () ()
 rw[iw] at ha;rcases bo.mp ha with ha|ha
 .exact h.by_ a ha k h1
 rw[aG.mp ha];show c k h1
def Nn{x v:Array I7}{p k:Nat}(h:p+k<x.size):v++(x.extract p (p+(k+1))).reverse=v.push (G x (p+k))++(x.extract p (p+k)).reverse:=by let e:=B_ (v:=(tA [])) h;simp only[Array.empty_append] at e;rw[e];apply oH.mp;simp
def HI.chunk{p:Nat}(hx:Asc lt x):∀(k:Nat){v:Array I7},HI lt x y v (p+k) j->(∀m,m<k->∀a,a<j->lt (G x (p+m)) (G y a)=p6)->HI lt x y (v++(x.extract p (p+k)).reverse) p j
 |0,v,h,_=>by
  let e:v++(x.extract p (p+0)).reverse=v:=by apply oH.mp;simp
  rw[e];show h
 |k+1,v,h,hm=>by
  let hi:=h.ix;rw[Nn ()];show HI.chunk hx k (h.push hx\hm k (hV _)) λm b=>hm m ()
def HI.fa(hx:Asc lt x)(c:Asc lt y)(h:HI lt x y v i j)(d:∀m,m<j->∀k,k<i->lt (G y m) (G x k)=p6):Good lt x y (x.extract 0 i++y.extract 0 j++v.reverse):=by
 let f:=HI.chunk (p:=0) c j (by rw[kE];show h.sw) λm hm k a=>by rw[kE];show d m hm k a
 let b:=HI.chunk (p:=0) hx i (by rw[kE];show f.sw) λm hm k a=>absurd a\O1 _;rw[kE,kE] at b;let e:(x.extract 0 i++y.extract 0 j++v.reverse)=(v++(y.extract 0 j).reverse++(x.extract 0 i).reverse).reverse:=by apply oH.mp;simp
 rw[e];erw[?_,?_]
 .rw[Oq];have:=b.pm;simp only[Cv] at this;show (List.reverse_perm _)<*this
 unfold Srt;rw[Oq,List.pairwise_reverse];show b.so
structure JH(lt:I7->I7->Bool)(x y:Array I7)(st:J2)(lo:Nat)(r:Option\Array I7)(v:Array I7)(i j:Nat)(st':J2):Prop where
 f:Fr st st'
 yes:∀a,r*>a->Good lt x y a
 no:r=n7->HI lt x y v i j/\0<i/\1<j/\lo+(i+j)<=x.size+y.size
def JH.on{x y:Array I7}{st a:J2}{lo i j:Nat}{v:Array I7}(f:Fr st a)(h:HI lt x y v i j)(hi:0<i)(b:1<j)(c:lo+(i+j)<=x.size+y.size):JH lt x y st lo n7 v i j a:=#[f,λ_ z=>(nomatch z),λ_=>#[h,hi,b,c]]
def JH.end_{x y:Array I7}{st b:J2}{lo i j:Nat}{v a:Array I7}(f:Fr st b)(h:Good lt x y a):JH lt x y st lo (oy a) v i j b:=#[f,λ_ z=>eg z ▸ h,λz=>(nomatch z)]
def Kt(C:Cmp M A E s κ N lt){x y:Array I7}{st:J2}{Q:Array I7->J2->Prop}(hk:kindOf st=κ)(Nx:∀i,i<x.size->N\G x i)(Ny:∀i,i<y.size->N\G y i)(hx:Asc lt x)(K:Asc lt y)(h0:0<x.size)(h1:0<y.size)
  (hb:lt (G y 0) (G x 0)=oD) (hl:∀j,j<y.size->lt (G y j) (G x (x.size-1))=oD) (q:∀r n,Fr st n->Good lt x y r->Q r n):wpS M A E s (mhi x y) Q st:=by
 let m0:HI lt x y (tA [G x (x.size-1)]) (x.size-1) y.size:=by let z:HI lt x y (tA []) (x.size-1+1) y.size:=#[(),aq _,by rw[show x.size-1+1=x.size by lia];simp,List.Pairwise.nil,∅,∅];show z.push hx λk ad=>C.asym>>(hl k ad)
 let fa:∀{v:Array I7}{i j:Nat},HI lt x y v i j->i=0\/j=0->Good lt x y (x.extract 0 i++y.extract 0 j++v.reverse):=λ{v i j} m e=>m.fa hx K λa h2 b h4=>absurd e ();let fb:∀{v:Array I7}{i j:Nat},HI lt x y v i j->j=1->Good lt x y (y.extract 0 j++x.extract 0 i++v.reverse):=λ{v i j} m e=>(m.sw.fa K hx λa h2 b h4=>by
  have:=m.ix;rw[show b=0 by lia];show C.asym _ _\C.ltle hb (hx 0 a (a_ _) ())).sw
 let B:∀{a b:Nat},(a==b)=oD->a=b:=λh=>‹h›
 let D:∀{a b:Nat},¬(a==b)=oD->a≠b:=λh=>‹h›
 rw[LO];dsimp only;show aB\lh (aB\dB () ?_);by_cases T:(x.size-1==0)=oD
 .exact bF T\aL (q _ _ #[5,5]\fa m0 (.inl\B T))
 show bC T ?_;by_cases U:(y.size==1)=oD
 .exact bF U\aL (q _ _ #[5,5]\fb m0 (B U))
 show bC U ?_;let T:=D T;let U:=D U;let j0:=JH.on (lo:=0) (show Fr st st from #[5,5]) m0 () () ();show aB\i6 (aB (fH (fk (β:=Option (Array I7)×Nat×Nat×Array I7×Nat) (I:=λt z n=>z.1=n7/\JH lt x y st t n7 z.2.2.2.1 z.2.1 z.2.2.1 n) (Q:=λz n=>JH lt x y st (x.size+y.size) z.1 z.2.2.2.1 z.2.1 z.2.2.1 n) ?step ?fin #[1,j0]) ?post))
 case fin=>
  rintro⟨r,i,j,v,g⟩ n ⟨e,h⟩;let e:r=n7:=e;subst e;erw[h.f,h.yes,λz=>by
   let#[a1,w,L,u]:=h.no z;erw[a1,w,L,by rw[wU\a_ _] at u;show u]]
 case post=>
  rintro⟨r,i,j,v,g⟩ n h;cases r with
  |some r=>show aL\q _ _ h.f (h.yes _ rfl)
  |none=>
   let#[_,w,L,u]:=h.no rfl;let w:0<i:=w;let u:x.size+y.size+(i+j)<=x.size+y.size:=u;lia
 case step=>
  rintro t ⟨r,i,j,v,g⟩ bd _ ht ⟨e,h⟩;let e:r=n7:=e;subst e;dsimp only at h |-;show aB (fH (fk (β:=Option (Array I7)×Nat×Nat×Array I7×Nat×Nat) (I:=λk z n=>z.1=n7/\JH lt x y st (t+k) n7 z.2.2.2.1 z.2.1 z.2.2.1 n) (Q:=λz n=>JH lt x y st (t+1) z.1 z.2.2.2.1 z.2.1 z.2.2.1 n) ?s1 ?f1 #[1,h]) ?p1)
  case f1=>
   rintro⟨r,i,j,v,c,d⟩ n ⟨e,h⟩;let e:r=n7:=e;subst e;erw[h.f,h.yes,λz=>by
    let#[a1,w,L,u]:=h.no z;erw[a1,w,L,by rw[wU\a_ _] at u;lia]]
  case s1=>
   rintro k ⟨r,i,j,v,c,d⟩ n _ ad ⟨e,h⟩;let#[m,w,L,u]:=h.no rfl;let f:=h.f;clear h e;dsimp only at m w L u |-;let mi:=m.ix;let mj:=m.jy;let#[i,1]:∃i',i=i' + 1:=#[i-1,()];let#[j,1]:∃j',j=j' + 1:=#[j-1,()];simp only[wN];show aB\dB () (aB\dB () (aB\C.ask (Ny _ ()) (Nx _ ()) (f.1<*hk) ?_));dsimp only;cases X:lt (G y j) (G x i) with
   |true=>
    show bF rfl ?_;let R:=m.push hx λk h2=>C.tr _ _ _ (K k j () ()) (C.asym>>X);show aB\dB () ?_;by_cases c1:(i==0)=oD
    .exact bF c1\aL (JH.end_ f\fa R (.inl\B c1))
    show bC c1 ?_;let c1:=D c1;let j1:=JH.on (lo:=t+1) f R () () ();let S:=JH.on (lo:=t+(k+1)) f R () () ()
    split
    .exact aL j1
    show aL #[1,S]
   |false=>
    show bC ⋯ ?_;let R:=(m.sw.push K λk h2=>C.tr _ _ _ (hx k i () ()) X).sw;show aB\dB () ?_;by_cases c1:(j==1)=oD
    .exact bF c1\aL (JH.end_ f\fb R (B c1))
    show bC c1 ?_;let c1:=D c1;let j1:=JH.on (lo:=t+1) f R () () ();let S:=JH.on (lo:=t+(k+1)) f R () () ()
    split
    .exact aL j1
    show aL #[1,S]
  case p1=>
   rintro⟨r,i,j,v,c,d⟩ n h;cases r with
   |some r=>show aL #[h.f,h.yes,λz=>nomatch z]
   |none=>
   dsimp only at h |-;show aB\lh (aB (fH (fk (β:=Option (Array I7)×Nat×Nat×Array I7×Nat×Nat×Nat) (I:=λk z n=>z.1=n7/\JH lt x y st (t+1) n7 z.2.2.2.1 z.2.1 z.2.2.1 n) (Q:=λz n=>JH lt x y st (t+1) z.1 z.2.2.2.1 z.2.1 z.2.2.1 n) ?s2 ?f2 #[1,h]) ?p2))
   case f2=>
    rintro⟨r,i,j,v,g,c,d⟩ n ⟨e,h⟩;let e:r=n7:=e;subst e;show h
   case p2=>
    rintro⟨r,i,j,v,g,c,d⟩ n h;cases r with
    |some r=>show aL #[h.f,h.yes,λz=>nomatch z]
    |none=>show aB (qA h.f λbe f'=>aL #[1,f',λ_ z=>(nomatch z),h.no])
   case s2=>
    rintro k ⟨r,i,j,v,g,c,d⟩ bi _ ad ⟨e,h⟩;let#[m,w,L,u]:=h.no rfl;let f:=h.f;clear h e;dsimp only at m w L u |-;let mi:=m.ix;let mj:=m.jy;let#[j,1]:∃j',j=j' + 1:=#[j-1,()];simp only[wN];let tl:∀{o:Nat},bv lt p6 (G y j) x 0 o=oD->lt (G y j) (G x o)=p6:=λh=>by simpa [bv] using h
    let fl:∀{o:Nat},bv lt p6 (G y j) x 0 o=p6->lt (G y j) (G x o)=oD:=λh=>by simpa [bv] using h
    by_cases hg:g>1;show bF hg ?_
    rotate_left
    show bC hg ?_
    all_goals
     show aB (qA f λbl O=>aB\dB () (aB (lJ (bv lt p6 (G y j) x 0) (λo H Q' q'=>lK C Nx (Ny _ ()) () (O.1<*hk) q') (λo p H hp ag=>?_) () λp aM al am=>?_)))
     .cases X:lt (G y j) (G x o) with
      |false=>change (!lt _ (G x (0+o)))=oD;rw[kE,X];rfl
      |true=>have:=C.ltle X\hx o p () ();rw[tl ag] at this;cases this
     dsimp only;let m1:=HI.chunk (p:=p) (v:=v) (j:=j+1) hx (i-p) (by rw[show p+(i-p)=i by lia];show m) λo H k' h2=>C.tr _ _ _ (K k' j () ()) (C.asym>>(fl\am (p+o) () ()));rw[show p+(i-p)=i by lia] at m1;let n1:∀o,o<p->lt (G y j) (G x o)=p6:=λo H=>tl\al o H;let i0:t+1+(p+(j+1))<=x.size+y.size:=();let bm:p<=x.size:=();by_cases ab:i-p>0;show bF ab ?_;by_cases c1:(p==0)=oD
     .exact bF c1\aL (JH.end_ O\fa m1 (.inl\B c1))
     show bC c1 ?_;let b2:0<p:=by have:=D c1;lia
     generalize v++(x.extract p i).reverse=v1 at m1 |-;generalize an:i-p=kk;clear aM al am ab an
     rotate_left
     show bC ab ?_;let aS:i=p:=();let b2:0<p:=();let m1:=m;rw[aS] at m1 |-;generalize v=v1 at m1 |-;generalize an:p-p=kk;clear aM al am ab an aS
     all_goals
      let#[p,1]:∃l,p=l + 1:=#[p-1,()];let m2:=(m1.sw.push K n1).sw;show aB\dB () ?_;by_cases Y:(j==1)=oD
      .exact bF Y\aL (JH.end_ O\fb m2 (B Y))
      show bC Y ?_;let Y:=D Y;simp only[wN];show aB\dB () (aB (lJ (bv lt oD (G x p) y 0) (λo H Q' q'=>lK C Ny (Nx _ ()) () (O.1<*hk) q') (λo p H hp ag=>C.lelt (K _ _ () ()) ag) () λl bn a5 a6=>?_));let a0:∀{o:Nat},bv lt oD (G x p) y 0 o=lt (G y o) (G x p):=λ{o}=>by simp[bv]
      dsimp only;let P:=(HI.chunk (p:=l) (v:=v1.push\G y j) K (j-l) (by rw[show l + (j-l)=j by lia];show m2.sw) λo H k' h2=>C.tr _ _ _ (hx k' p () ()) (a0 ▸ a6 (l + o) () ())).sw;rw[show l + (j-l)=j by lia] at P;let n2:∀o,o<l->lt (G x p) (G y o)=p6:=λo H=>C.asym>>(a0 ▸ a5 o H);let j0:t+1+(p+1+l)<=x.size+y.size:=();by_cases ap:j-l>0;show bF ap ?_;by_cases c4:(l==1)=oD
      .exact bF c4\aL (JH.end_ O\fb P (B c4))
      show bC c4 ?_;by_cases c5:(l==0)=oD
      .exact bF c5\aL (JH.end_ O\fa P (.inr\B c5))
      show bC c5 ?_;let b3:1<l:=by have:=D c4;have:=D c5;lia
      generalize v1.push (G y j)++(y.extract l j).reverse=v3 at P |-;generalize bb:j-l=bc;clear bb ap
      rotate_left
      show bC ap ?_;let b3:1<l:=();let P:=m2;rw[show j=l by lia] at P |-;generalize v1.push (G y l)=v3 at P |-;generalize l-l=bc
      all_goals
       let m4:=P.push hx n2;show aB\dB () ?_;by_cases Z:(p==0)=oD
       .exact bF Z\aL (JH.end_ O\fa m4 (.inl\B Z))
       show bC Z ?_;let Z:=D Z;let S:=JH.on (lo:=t+1) O m4 () b3 ()
       split
       .exact aL S
       show aL #[1,S]
end
def Seg(lt:I7->I7->Bool)(a:Array I7)(lo hi:Nat):Prop:=∀i j,lo<=i->i<=j->j<hi->lt (G a j) (G a i)=p6
def Dn(lt:I7->I7->Bool)(a:Array I7)(lo hi:Nat):Prop:=∀i j,lo<=i->i<=j->j<hi->lt (G a i) (G a j)=p6
def Tl(lt:I7->I7->Bool)(a:Array I7)(hi q:Nat):Prop:=∀i j,hi<=i+(q+1)->i<hi->hi<=j+(q+1)->j<hi->lt (G a i) (G a j)=p6
structure Cg(lo hi:Nat)(a a':Array I7):Prop where
 pm:a'.Perm a
 at_:∀k,k<lo\/hi<=k->G a' k=G a k
def Cg.size{lo hi:Nat}{a b:Array I7}(h:Cg lo hi a b):b.size=a.size:=h.pm.size_eq
def Cg.refl(lo hi:Nat)(a:Array I7):Cg lo hi a a:=#[Og _,λ_ _=>rfl]
def Cg.trans{lo hi:Nat}{a b c:Array I7}(h:Cg lo hi a b)(h2:Cg lo hi b c):Cg lo hi a c:=#[h2.pm<*h.pm,λk d=>(h2.at_ k d).trans\h.at_ k d]
def Cg.mono{lo hi c d:Nat}{a b:Array I7}(h:Cg lo hi a b)(h1:c<=lo)(h2:hi<=d):Cg c d a b:=#[h.pm,λk e=>h.at_ k ()]
def kl{p q:Array I7}{i j:Nat}(h:p[i]?=q[j]?):G p i=G q j:=by
 let e:∀(a:Array I7)(k:Nat),G a k=(a[k]?).getD (Value.none,Value.none):=λa k=>by simp[G]
 rw[e,e,h]
def gO{p:Array I7}{i j:Nat}(a:j<=p.size)(k:Nat):G (mirror p i j ((j-i)/2)) k=if i<=k/\k<j then G p (i+j-1-k) else G p k:=by
 let h:=getElem?_mirror_all (xs:=p) (i:=i) a k
 split
 .rename_i c;rw[Ry c] at h;show kl h
 rename_i c;rw[Rx c] at h;show kl h
def q5{p:Array I7}{j:Nat}(a:j<=p.size):Cg i j p (mirror p i j ((j-i)/2)):=#[mirror_perm _ _ _ _,λk b=>by rw[gO a,Rx ()]]
abbrev sa(st:J2)(a:Array I7):SortSt:=setArr st a
section
variable {M:Model}{κ:SortKind}{N:Keyed->Prop}{lt:Keyed->Keyed->Bool}
def Nm(N:I7->Prop)(a:Array I7):Prop:=∀x,x∈a->N x
def Nm.at(h:Nm N a){i:Nat}(hi:i<a.size):N (G a i):=h _\Array.mem_of_getElem? (rZ hi)
def Nm.perm{b:Array I7}(h:Nm N a)(e:b.Perm a):Nm N b:=λx hx=>h x\e.mem_iff.mp hx
def nJ(C:Cmp M A E s κ N lt){st:J2}{i j:Nat}{Q:Option Bool->J2->Prop}(hk:kindOf st=κ)(hN:Nm N a)(hi:i<a.size)(hj:j<a.size)(h:Q (oy\lt (G a i) (G a j))\sa st a):wpS M A E s (ltAt' i j) Q (sa st a):=by rw[ltAt'_eq];show aB\i6 ?_;change wpS _ _ _ _ (do let x <-elem' a i;let y <-elem' a j;lt' x y) Q _;show aB\dB hi (aB\dB hj (C.ask (hN.at hi) (hN.at hj) hk h))
def IV(C:Cmp M A E s κ N lt):Seg lt a l (l+1):=λi j h1 h2 b=>by
 have:i=j:=();subst this;show C.refl _
def Gi(C:Cmp M A E s κ N lt){n:Nat}(h:Seg lt a l (l+n))(h1:1<=n)(b:lt (G a (l+n)) (G a (l+n-1))=p6):Seg lt a l (l+(n+1)):=λi j hi c f=>by
 by_cases e:j=l+n
 .subst e;by_cases d:i=l+n
  .subst d;show C.refl _
  show C.tr _ (G a (l+n-1)) _ (h i (l+n-1) hi () ()) b
 show h i j hi c ()
def nZ(C:Cmp M A E s κ N lt){n:Nat}(h:Dn lt a l (l+n))(h1:1<=n)(b:lt (G a (l+n-1)) (G a (l+n))=p6):Dn lt a l (l+(n+1)):=λi j hi c f=>by
 by_cases e:j=l+n
 .subst e;by_cases d:i=l+n
  .subst d;show C.refl _
  show C.tr _ (G a (l+n-1)) _ b\h i (l+n-1) hi () ()
 show h i j hi c ()
def FR(C:Cmp M A E s κ N lt){st:J2}{a:Array I7}{l m:Nat}{Q:Option Nat->J2->Prop}(hk:kindOf st=κ)(hN:Nm N a)(h1:1<=m)(hs:l+m<=a.size)
  (q:∀n a',Cg l (l+m) a a'->1<=n->n<=m->Seg lt a' l (l+n)->Q (oy n)\sa st a'):wpS M A E s (countRun' l m) Q (sa st a):=by
 let asc:∀(n:Nat)(a':Array I7)(Q':Option (Option Nat)×Nat->J2->Prop),Cg l (l+m) a a'->1<=n->n<=m->Seg lt a' l (l+n)->(∀n',n<=n'->n'<=m->Seg lt a' l (l+n')->(n'<m->lt (G a' (l+n')) (G a' (l+n'-1))=oD)->Q' (n7,n')\sa st a')->
   wpS M A E s (forIn [n:m] ((n7,n):Option (Option Nat)×Nat) λ_ x=>do
    let z <-ltAt' (l+x.2) (l+x.2-1)
    match z with
    |some z=>if z=oD then pure (ForInStep.done (n7,x.2)) else pure (ForInStep.yield (n7,x.2+1))
    |_=>pure\ForInStep.done (oy n7,x.2)) Q' (sa st a'):=by
  intro n a' Q' cg n1 nm sg q';show fk (β:=Option (Option Nat)×Nat) (I:=λt x st'=>st'=sa st a'/\x.1=n7/\x.2=t/\n<=t/\t<=m/\Seg lt a' l (l+t)) (Q:=Q') ?_ ?_ #[5,1,aq _,nm,sg]
  .rintro t ⟨r,n'⟩ st' _ ht ⟨rfl,e1,e2,e3,e4,e5⟩;let e2:n'=t:=e2;subst e2;let hz:=cg.size;show aB\nJ C hk (hN.perm cg.pm) () () ?_;cases hc:lt (G a' (l+n')) (G a' (l+n'-1)) with
   |true=>show aL (q' n' e3 () e5 λ_=>hc)
   |false=>show aL #[5,1,(),(),Gi C e5 () hc]
  rintro⟨r,n'⟩ st' ⟨rfl,e1,e2,e3,e4,e5⟩;let e1:r=n7:=e1;let e2:n'=max n m:=e2;subst e1;have:n'=m:=();subst this;rw[show max n n'=n' by lia] at e5;show q' n' nm (aq _) e5 λz=>absurd z ()
 let rv:∀{a':Array I7}{n:Nat},Cg l (l+m) a a'->n<=m->Dn lt a' l (l+n)->Seg lt (mirror a' l (l+n) ((l+n-l)/2)) l (l+n):=λ{a' n} cg nm d i j hi hij hj=>by
  let hz:=cg.size;rw[gO (),gO (),Ry (),Ry ()];show d _ _ () () ()
 let rt:∀{a':Array I7}{n q:Nat},Cg l (l+m) a a'->n<=m->q<n->Dn lt a' l (l+n)->Tl lt a' (l+n) q->Dn lt (mirror a' (l+n-(q+1)) (l+n) ((l+n-(l+n-(q+1)))/2)) l (l+n):=λ{a' n q} cg nm hq d tl i j hi hij hj=>by
  let hz:=cg.size;rw[gO (),gO ()]
  split
  .split
   .exact tl _ _ () () () ()
   lia
  split
  .exact d _ _ hi () ()
  show d _ _ hi hij hj
 let t0:∀{a':Array I7}{h:Nat},Tl lt a' h 0:=λ{a' h} i j h1 h2 h3 h4=>by
  have:i=j:=();subst this;show C.refl _
 let dl:∀(n:Nat)(a':Array I7),Cg l (l+m) a a'->1<=n->n<=m->Dn lt a' l (l+n)->wpS M A E s (do
   rule "list.sort.descending-run"
   let mut n:=n
   let mut q:=0
   for _ in [n:m] do
    let oy z <-ltAt' (l+n) (l+n-1)|return n7
    if z then
     if q>0 then reverseSlice' (l+n-(q+1)) (l+n)
     q:=0
    else
     let oy z <-ltAt' (l+n-1) (l+n)|return n7
     if z then break
     q:=q+1
    n:=n+1
   if q>0 then reverseSlice' (l+n-(q+1)) (l+n)
   reverseSlice' l (l+n)
   for _ in [n:m] do
    let oy z <-ltAt' (l+n) (l+n-1)|return n7
    if z then break
    n:=n+1
   return oy n) Q (sa st a'):=by
  intro n a1 cg n1 nm d;dsimp only;show aB\lh (aB\fH (fk (β:=Option (Option Nat)×Nat×Nat) (I:=λt x st'=>x.1=n7/\x.2.1=t/\n<=t/\t<=m/\x.2.2<t/\∃a',st'=sa st a'/\Cg l (l+m) a a'/\Dn lt a' l (l+t)/\Tl lt a' (l+t) x.2.2)
   (Q:=λx st'=>x.1=n7/\n<=x.2.1/\x.2.1<=m/\x.2.2<x.2.1/\∃a',st'=sa st a'/\Cg l (l+m) a a'/\Dn lt a' l (l+x.2.1)/\Tl lt a' (l+x.2.1) x.2.2) ?_ ?_ #[5,aq _,nm,n1,a1,1,cg,d,t0]) ?_)
  .rintro t ⟨r,n',q'⟩ st' _ ht ⟨e1,e2,e3,e4,e5,a',rfl,cg',d',tl⟩;let e2:n'=t:=e2;subst e2;let e5:q'<n':=e5;let hz:=cg'.size;dsimp only at tl |-;show aB\nJ C hk (hN.perm cg'.pm) () () ?_;dsimp only;cases hc:lt (G a' (l+n')) (G a' (l+n'-1)) with
   |true=>
    show bF rfl ?_;by_cases hq:q'>0
    .rw[Ry hq,xg];show aB\jL (aL #[5,(),(),by change 0<n' + 1;lia,2,cg'.trans\(q5 ()).mono () (),?_,t0]);show nZ C (rt cg' () e5 d' tl) () ?_;rw[gO (by change l+n'<=a'.size;lia),gO (by change l+n'<=a'.size;lia),Ry (),Rx ()];show C.tr _ (G a' (l+n'-1)) _ (C.asym>>hc)\d' _ _ () () ()
    show bC hq ?_;show aL #[5,(),(),by change 0<n' + 1;lia,a',1,cg',nZ C d' () (C.asym>>hc),t0]
   |false=>
    show bC ⋯ ?_;show aB\nJ C hk (hN.perm cg'.pm) () () ?_;dsimp only;cases hc2:lt (G a' (l+n'-1)) (G a' (l+n')) with
    |true=>
     show bF rfl ?_;show aL #[1,e3,e4,e5,a',1,cg',d',tl]
    |false=>
     show bC ⋯ ?_;show aL #[5,(),(),by change q' + 1<n' + 1;lia,a',1,cg',nZ C d' () hc2,λi j b1 b2 b3 b4=>?_];let b1:l+(n' + 1)<=i+(q' + 1+1):=b1;let b3:l+(n' + 1)<=j+(q' + 1+1):=b3;by_cases ei:i=l+n'
     .by_cases ej:j=l+n'
      .subst ei;subst ej;show C.refl _
      subst ei;show C.tr _ (G a' (l+n'-1)) _ (tl _ _ () () () ()) hc
     by_cases ej:j=l+n'
     .subst ej;show C.tr _ (G a' (l+n'-1)) _ hc2\tl _ _ () () () ()
     show tl _ _ () () () ()
  .rintro⟨r,n',q'⟩ st' ⟨e1,e2,e3,e4,e5,a',rfl,cg',d',tl⟩;let e2:n'=max n m:=e2;have:n'=m:=();subst this;rw[show max n n'=n' by lia] at d' tl e5 e3;erw[e1,e3,aq _,e5,a',1,cg',d',tl]
  rintro⟨r,n',q'⟩ st' ⟨e1,e3,e4,e5,a',rfl,cg',d',tl⟩;cases e1;dsimp only at e3 e4 e5 d' tl |-;let hz:=cg'.size;by_cases hq:q'>0;rw[Ry hq,xg];show aB\jL ?_;let cg2:=cg'.trans\(q5 (i:=l+n'-(q' + 1)) (j:=l+n') (p:=a') ()).mono (show l<=_ by lia) (show _<=l+m by lia);let d2:=rt cg' e4 e5 d' tl;change wpS _ _ _ _ _ _\sa st (mirror a' (l+n'-(q' + 1)) (l+n') ((l+n'-(l+n'-(q' + 1)))/2));generalize mirror a' (l+n'-(q' + 1)) (l+n') ((l+n'-(l+n'-(q' + 1)))/2)=a2 at cg2 d2 |-
  rotate_left
  show bC hq ?_;let cg2:=cg';let d2:=d';generalize a'=a2 at cg2 d2 |-
  all_goals
   let hz2:=cg2.size;rw[xg];show aB\jL ?_;let cg3:=cg2.trans\(q5 (i:=l) (j:=l+n') (p:=a2) ()).mono (aq _) (show _<=l+m by lia);show aB (asc n' _ _ cg3 () e4 (rv cg2 e4 d2) λn'' b1 b2 b3 b4=>?_);show aL\q n'' _ cg3 () b2 b3
 rw[countRun'_eq];dsimp only;show aB (asc 1 a _ (Cg.refl _ _ _) (aq _) h1 (IV C) λn b1 b2 b3 b4=>?_);dsimp only;by_cases c1:(n==m)=oD
 .exact bF c1\aL (q n a (Cg.refl _ _ _) b1 b2 b3)
 show bC c1 ?_;let c1:n≠m:=‹c1›
 let hl:=b4 ();by_cases c2:n>1
 .refine bF c2 ?_;show aB\nJ C hk hN () () ?_;dsimp only;cases hc:lt (G a l) (G a (l+n-1)) with
  |true=>rw[Ry rfl];show aL\q n a (Cg.refl _ _ _) b1 b2 b3
  |false=>
   rw[Rx ⋯,xg];show aB\jL ?_;let cg:=(q5 (i:=l) (j:=l+n) (p:=a) ()).mono (aq _) (show l+n<=l+m by lia);change wpS _ _ _ _ _ _\sa st (mirror a l (l+n) ((l+n-l)/2));show dl (n+1) _ cg () ()\nZ C (λi j hi hij hj=>?_) () ?_
   .rw[gO (),gO (),Ry (),Ry ()];show b3 _ _ () () ()
   rw[gO (),gO (),Ry (),Rx (),show l+(l+n)-1-(l+n-1)=l by lia];show C.tr _ (G a (l+n-1)) _ (C.asym>>hl) hc
 show bC c2 ?_;have:n=1:=();subst this;show dl 2 a (Cg.refl _ _ _) () ()\nZ C (λi j hi hij hj=>?_) (aq _) (C.asym>>hl);have:i=j:=();subst this;show C.refl _
end
section
variable {M:Model}{κ:SortKind}{N:Keyed->Prop}{lt:Keyed->Keyed->Bool}
def vI{p:Array I7}{k z:Nat}(a:k<p.size)(b:z<=k)(i:Nat):G (bubble p k (k-z)) i=if i=z then G p k else if z<i/\i<=k then G p (i-1) else G p i:=by
 let h:=getElem?_bubble (xs:=p) (src:=k) a (k-z) () i;let e:k-(k-z)=z:=();rw[e] at h
 repeat' split at h
 .rename_i c;rw[Ry c];show kl h
 .rename_i c c2;rw[Rx c,Ry c2];show kl h
 rename_i c c2;rw[Rx c,Rx c2];show kl h
def Kv(C:Cmp M A E s κ N lt){st:J2}{a:Array I7}{l n o:Nat}{Q:Bool->J2->Prop}(H:kindOf st=κ)(K:Nm N a)(h1:1<=o)(h2:o<=n)(S:l+n<=a.size)(sg:Seg lt a l (l+o))
  (q:∀b,Cg l (l+n) a b->Seg lt b l (l+n)->Q oD\sa st b):wpS M A E s (binarySort' l n o) Q (sa st a):=by
 rw[binarySort'_eq];dsimp only;show aB (fH (fk (I:=λk x c=>x.1=n7/\1<=k/\k<=n/\∃b,c=sa st b/\Cg l (l+n) a b/\Seg lt b l (l+k)) (Q:=λx c=>x.1=n7/\∃b,c=sa st b/\Cg l (l+n) a b/\Seg lt b l (l+n)) ?step ?fin #[1,(),(),a,1,Cg.refl _ _ _,by rw[show max o 1=o by lia];show sg]) ?post)
 case fin=>
  rintro⟨r,u⟩ c ⟨e,L,O,b,rfl,p,f⟩;rw[show max (max o 1) n=n by lia] at f;erw[e,b,1,p,f]
 case post=>
  rintro⟨r,u⟩ c ⟨e,b,rfl,p,f⟩;cases e;show aL\q b p f
 case step=>
  rintro k ⟨r,u⟩ c _ T ⟨e,L,O,b,rfl,p,f⟩;let hz:=p.size;show aB (fH (fk (β:=Option Bool×Nat×Nat) (I:=λt x c=>c=sa st b/\x.1=n7/\x.2.1<=x.2.2/\x.2.2<=k/\x.2.2-x.2.1<=k-t/\(∀i,i<x.2.1->lt (G b (l+k)) (G b (l+i))=p6)/\(∀i,x.2.2<=i->i<k->lt (G b (l+i)) (G b (l+k))=p6))
   (Q:=λx c=>c=sa st b/\x.1=n7/\x.2.1<=k/\(∀i,i<x.2.1->lt (G b (l+k)) (G b (l+i))=p6)/\(∀i,x.2.1<=i->i<k->lt (G b (l+i)) (G b (l+k))=p6)) ?s8 ?f8 #[5,a_ _,aq _,aq _,λi hi=>absurd hi\O1 _,λi hi B=>absurd hi\Nat.not_le_of_lt B]) ?p8)
  case f8=>
   rintro⟨r,u,w⟩ c ⟨rfl,e,y,d,v,g,h⟩;let y:u<=w:=y;let v:w-u<=k-max 0 k:=v;have:u=w:=();subst this;erw[1,e,d,g,h]
  case s8=>
   rintro t ⟨r,u,w⟩ c _ U ⟨rfl,e,y,d,v,g,h⟩;let y:u<=w:=y;let d:w<=k:=d;let v:w-u<=k-t:=v;dsimp only at g h |-;by_cases c1:u ≥ w
   .refine bF c1 ?_;have:u=w:=();subst this;show aL #[5,d,g,h]
   show bC c1 ?_;let#[m1,m2]:=half c1;generalize (u+w)/2=m at m1 m2 |-;show aB\nJ C H (K.perm p.pm) () () ?_;dsimp only;cases D:lt (G b (l+k)) (G b (l+m)) with
   |true=>
    show bF rfl ?_;show aL #[5,m1,oO\bU m2 d,fewer v m2 m1,g,λi hi P=>?_];show C.asym _ _\C.ltle D (f _ _ (oN _ _) (tu hi l)\OX P l)
   |false=>
    show bC ⋯ ?_;show aL #[5,m2,d,fewer' v m2 m1,λi hi=>?_,h];show C.tr _ _ _ (f _ _ (oN _ _) (tu (OY hi) l)\OX (bU m2 d) l) D
  case p8=>
   rintro⟨r,u,w⟩ c ⟨rfl,e,d,g,h⟩;cases e;let d:u<=k:=d;dsimp only at g h |-;rw[moveDown'_eq];show aB\jL (aL #[1,(),(),bubble b (l+k) (l+k-(l+u)),1,p.trans #[bubble_perm _ _ _,λi hi=>?_],λi j hi X B=>?_])
   .rw[vI () (),Rx (),Rx ()]
   rw[vI () (),vI () ()]
   repeat' split
   .exact C.refl _
   all_goals first
    |lia
    |show f _ _ () () ()
    |(let z:=h (j-1-l) () ();rw[show l+(j-1-l)=j-1 by lia] at z;show (by
      rename_i h1 h2 Y;cases R:lt (G b (j-1)) (G b (l+k)) with
      |false=>rfl
      |true=>rw[R] at z;cases z))
    |(let z:=g (i-l) ();rw[show l+(i-l)=i by lia] at z;show z)
end
def BS(p:Nat):∀(l:List I7)(n:Nat)(a:Array I7),p+n+↑l<=a.size->
  ((l.zipIdx n).foldl (λa (z:I7×Nat)=>a.setIfInBounds (p+z.2) z.1) a).size=a.size/\∀m:Nat,((l.zipIdx n).foldl (λa (z:I7×Nat)=>a.setIfInBounds (p+z.2) z.1) a)[m]?=if p+n<=m/\m<p+n+↑l then l[m-(p+n)]? else a[m]?
 | [],n,a,h=>#[1,λm=>by rw[Rx (by simp only[kr];lia)];rfl]
 |x::l,n,a,h=>by
  rw[cv] at h;let#[h1,h2]:=BS p l (n+1) (a.setIfInBounds (p+n) x) (by rw[On];lia);rw[List.zipIdx_cons,CB];erw[h1<*On,λm=>?_];rw[h2 m,cv,Array.getElem?_setIfInBounds];by_cases c:m=p+n
  .subst c;rw[Rx (),Ry rfl,Ry (),Ry (),CS];rfl
  by_cases c2:p+(n+1)<=m/\m<p+(n+1)+↑l
  .rw[Ry c2,Ry (),show m-(p+n)=m-(p+(n+1))+1 by lia];rfl
  rw[Rx c2,Rx λz=>c z.symm,Rx ()]
def sM{a:Array I7}{k:Nat}{x:I7}(h:a[k]?*>x):G a k=x:=by
 let e:G a k=(a[k]?).getD (Value.none,Value.none):=by simp[G]
 rw[e,h];rfl
def rh{a:Array I7}{p q k:Nat}(h:p+k<q)(b:q<=a.size):G (a.extract p q) k=G a (p+k):=by apply kl;rw[Array.getElem?_extract,Ry ()]
def HF{a:Array I7}{p q r:Nat}(h1:p<=q)(h2:q<=r)(d:r<=a.size):a.toList=a.toList.take p++((a.extract p q).toList++(a.extract q r).toList)++a.toList.drop r:=by
 rw[wd,wd,wz,wz];let b:(a.toList.drop p).take (q-p)++(a.toList.drop q).take (r-q)=(a.toList.drop p).take (r-p):=by rw[show r-p=(q-p)+(r-q) by lia,List.take_add,OF,show p+(q-p)=q by lia]
 rw[b,gi];let c:(a.toList.drop p).take (r-p)++a.toList.drop r=a.toList.drop p:=by
  conv=>rhs;rw[<-gr (r-p)\a.toList.drop p]
  rw[OF,show p+(r-p)=r by lia]
 rw[c,gr]
section
variable {M:Model}{κ:SortKind}{N:Keyed->Prop}{lt:Keyed->Keyed->Bool}
def yo{α:Type}(u v w:α)(l2:List α):∀l1:List α,((l1++u::w::l2).set ↑l1 v).eraseIdx (↑l1+1)=l1++v::l2
 | []=>rfl
 |x::l1=>by
  change x::((l1++u::w::l2).set ↑l1 v).eraseIdx (↑l1+1)=_;rw[yo u v w l2 l1];rfl
def k_{a:Array I7}{i j:Nat}(h:j<=a.size):(a.extract i j).size=j-i:=by rw[Array.size_extract,wV h]
def B9{a:Array I7}{x:I7}(h:x∈a.toList):∃k,k<a.size/\G a k=x:=by let#[k,b]:=eY.mp h;rw[jB] at b;erw[k,(f_.mp b).1,sM b]
def Gz(C:Cmp M A E s κ N lt){a r:Array I7}{p p1 q b z:Nat}(h1:p<=p1)(h2:p1<=q)(K:q+b<=z)(L:z<=a.size)(g:Good lt (a.extract p1 q) (a.extract q (q+b)) r)
  (s1:Seg lt a p q) (s2:Seg lt a q z) (lo:∀k,p<=k->k<p1->∀j,q<=j->j<z->lt (G a j) (G a k)=p6) (hi:∀j,q+b<=j->j<z->∀k,p<=k->k<q->lt (G a j) (G a k)=p6) :
  Cg p z a (r.toList.zipIdx.foldl (λa (z:I7×Nat)=>a.setIfInBounds (p1+z.2) z.1) a)/\Seg lt (r.toList.zipIdx.foldl (λa (z:I7×Nat)=>a.setIfInBounds (p1+z.2) z.1) a) p z:=by
 let u:q+b<=a.size:=cR K L;let v:q<=a.size:=cR (oN q b) u;let f:↑(a.toList.take p1)=p1:=by rw[bz,gg,wV\cR h2 v]
 let len:r.toList.length=q-p1+b:=by rw[g.1.length_eq,bj,gg,gg,k_ v,k_ u,CL]
 let#[O,d]:=BS p1 r.toList 0 a ();generalize (r.toList.zipIdx.foldl (λa (z:I7×Nat)=>a.setIfInBounds (p1+z.2) z.1) a)=l at O d |-;rw[len] at d;simp only[wO] at d;let out:∀k,k<p1\/q+b<=k->G l k=G a k:=λk P=>kl (by rw[d k,Rx ()]);let inn:∀k,p1<=k->k<q+b->∃c,p1<=c/\c<q+b/\G l k=G a c:=λk U X=>by
  let e:=d k;rw[Ry ()] at e;let Q:k-p1<r.toList.length:=();rw[aU Q] at e;let e:=sM e;let mem:r.toList[k-p1]∈r.toList:=kq _;rcases bo.mp (g.1.mem_iff.mp mem) with h|h
  .let#[c,c1,c2]:=B9 h;rw[k_ v] at c1;erw[p1+c,(),(),by rw[e,<-c2,rh () ()]]
  let#[c,c1,c2]:=B9 h;rw[k_ u,CL] at c1;erw[q+c,(),(),by rw[e,<-c2,rh () ()]]
 let R:∀i j,p1<=i->i<=j->j<q+b->lt (G l j) (G l i)=p6:=λi j i1 Y Z=>by
  let w:=d i;let x:=d j;rw[Ry ()] at w x;let li:i-p1<r.toList.length:=();let H:j-p1<r.toList.length:=();rw[aU li] at w;rw[aU H] at x;rw[sM w,sM x];by_cases e:i=j
  .subst e;show C.refl _
  show wL.mp g.2 (i-p1) (j-p1) li H ()
 erw[#[?_,λk P=>out k ()],λi j o I y=>?_]
 .rw[Ol];let e:l.toList=a.toList.take p1++r.toList++a.toList.drop (q+b):=by
   apply wx;intro m;rw[jB,d m];by_cases c1:m<p1
   .rw[Rx (),gi,dZ (by rw[f];show c1),s_ c1,jB]
   by_cases c2:m<q+b
   .rw[Ry (),gi,hJ (by rw[f];lia),dZ (by rw[f];lia),f]
   rw[Rx (),hJ (by rw[bj,f];lia),wC,jB,bj,f]
   congr 1
   lia
  rw[e];show ((g.1.append_left _).append_right _).trans\wq (HF (a:=a) h2 (oN q b) ()).symm
 by_cases ci:i<p1
 .rw[out i\.inl ci];by_cases B:j<p1
  .rw[out j\.inl B];show s1 i j o I ()
  let n:∀c,p1<=c->c<z->lt (G a c) (G a i)=p6:=λc c1 c2=>by
   by_cases D:c<q
   .exact s1 i c o () D
   show lo i o ci c () c2
  by_cases S:j<q+b
  .let#[c,c1,c2,e]:=inn j () S;rw[e];show n c c1 ()
  rw[out j\.inr ()];show n j () y
 by_cases B:j<q+b
 .exact R i j () I B
 rw[out j\.inr ()];let n:∀c,p<=c->c<j->lt (G a j) (G a c)=p6:=λc c1 c2=>by
  by_cases D:c<q
  .exact hi j () y c c1 D
  show s2 c j () () y
 by_cases T:i<q+b
 .let#[c,c1,c2,e]:=inn i () T;rw[e];show n c () ()
 rw[out i\.inr ()];by_cases e:i=j
 .subst e;show C.refl _
 show n i o ()
def Kr{st a:J2}{Q:PUnit->J2->Prop}(h:Q #[] a):wpS M A E s (set a:SM PUnit) Q st:=by unfold wpS;rw[StateT.run_set];show ai #[1,h]
def Ku(C:Cmp M A E s κ N lt){st:J2}{i p m e q n e':Nat}{l1 l2:List (Nat×Nat×Nat)}{Q:Bool->J2->Prop}(hk:kindOf st=κ)(hf:Lf st=n7)(hN:Nm N a)(hp:(J0 st).toList=l1++(p,m,e)::(q,n,e')::l2)(hi:↑l1=i)
  (hq:q=p+m) (hm:1<=m) (hn:1<=n) (hs:q+n<=a.size) (s1:Seg lt a p q) (s2:Seg lt a q (q+n))
  (h:∀(a':Array I7)(st':J2),PyProof.Rows.kindOf st'=κ->Lf st'=n7->L4 st'=a'->(J0 st').toList=l1++(p,m+n,e)::l2->Cg p (q+n) a a'->Seg lt a' p (q+n)->Q oD st'):wpS M A E s (mergeAt' i) Q (sa st a):=by
 let e1:(J0 st)[i]?*>(p,m,e):=by rw[<-jB,hp,<-hi];simp
 let e2:(J0 st)[i+1]?*>(q,n,e'):=by rw[<-jB,hp,<-hi];simp
 let e3:(((J0 st).setIfInBounds i (p,m+n,e)).eraseIdxIfInBounds (i+1)).toList=l1++(p,m+n,e)::l2:=by rw[Array.toList_eraseIdxIfInBounds,Array.toList_setIfInBounds,hp,<-hi];show yo _ _ _ _ _
 let eqt:∀{a b:Nat},(a==b)=oD->a=b:=λh=>‹h›
 let eqf:∀{a b:Nat},¬(a==b)=oD->a≠b:=λh=>‹h›
 rw[LP];show aB\i6 ?_;change wpS _ _ _ _ (match ((J0 st)[i]?,(J0 st)[i+1]?) with|(oy (p,m,e),oy (q,n,_))=>_|_=>_) _ _;rw[e1,e2];dsimp only;show aB\Kr ?_;let tl:∀{o:Nat},bv lt p6 (G a q) a p o=oD->lt (G a q) (G a (p+o))=p6:=λh=>by simpa [bv] using h
 let fl:∀{o:Nat},bv lt p6 (G a q) a p o=p6->lt (G a q) (G a (p+o))=oD:=λh=>by simpa [bv] using h
 show aB\dB (show q<a.size by lia) (aB (lJ (bv lt p6 (G a q) a p) (λo ho Q' q'=>lK C (λ_ z=>hN.at z) (hN.at ()) (show p+o<a.size by lia) hk q') (λo o' ho hp' hb'=>?_) () λk hk1 hk2 hk3=>?_))
 .cases hc:lt (G a q) (G a (p+o)) with
  |false=>change (!lt _ _)=oD;rw[hc];rfl
  |true=>have:=C.ltle hc\s1 (p+o) (p+o') () () ();rw[tl hb'] at this;cases this
 dsimp only;let seg:(∀i,p<=i->i<q->∀j,q<=j->j<q+n->lt (G a j) (G a i)=p6)->Seg lt a p (q+n):=λhh i j h1 h2 h3=>by
  by_cases c:j<q
  .exact s1 i j h1 h2 c
  by_cases c2:i<q
  .exact hh i h1 c2 j () h3
  show s2 i j () h2 h3
 let low:∀i,p<=i->i<p+k->∀j,q<=j->j<q+n->lt (G a j) (G a i)=p6:=λi h1 h2 j h3 h4=>by
  let z:=tl\hk2 (i-p) ();rw[show p+(i-p)=i by lia] at z;show C.tr _ _ _ z\s2 q j (aq _) h3 h4
 by_cases c1:(m-k==0)=oD
 .refine bF c1 ?_;let c1:=eqt c1;show aL\h a _ hk hf rfl e3 (Cg.refl _ _ _) (seg λi h1 h2=>low i h1 ())
 show bC c1 ?_;let c1:=eqf c1;rw[show p+k+(m-k)-1=q-1 by lia];show aB\dB (show q-1<a.size by lia) (aB (lJ (bv lt oD (G a (q-1)) a q) (λo ho Q' q'=>lK C (λ_ z=>hN.at z) (hN.at ()) (show q+o<a.size by lia) hk q') (λo o' ho hp' hb'=>C.lelt (s2 _ _ () () ()) hb') () λn1 hn1 hn2 hn3=>?_));dsimp only;let hig:∀j,q+n1<=j->j<q+n->∀i,p<=i->i<q->lt (G a j) (G a i)=p6:=λj h1 h2 i h3 h4=>by
  let z:=hn3 (j-q) () ();let z:lt (G a (q+(j-q))) (G a (q-1))=p6:=z;rw[show q+(j-q)=j by lia] at z;show C.tr _ _ _ (s1 i (q-1) h3 () ()) z
 by_cases c2:(n1==0)=oD
 .refine bF c2 ?_;let c2:=eqt c2;show aL\h a _ hk hf rfl e3 (Cg.refl _ _ _) (seg λi h1 h2 j h3 h4=>hig j () h4 i h1 h2)
 show bC c2 ?_;let c2:=eqf c2;let zx:(a.extract (p+k) q).size=q-(p+k):=k_ ();let zy:(a.extract q (q+n1)).size=n1:=by rw[k_ (),CL]
 let gx:∀i,i<(a.extract (p+k) q).size->G (a.extract (p+k) q) i=G a (p+k+i):=λi hi=>rh () ();let gy:∀i,i<(a.extract q (q+n1)).size->G (a.extract q (q+n1)) i=G a (q+i):=λi hi=>rh () ();let hx:Asc lt (a.extract (p+k) q):=λi j hij hj=>by rw[gx i (),gx j hj];show s1 _ _ () () ()
 let hy:Asc lt (a.extract q (q+n1)):=λi j hij hj=>by rw[gy i (),gy j hj];show s2 _ _ () () ()
 let Nx:∀i,i<(a.extract (p+k) q).size->N (G (a.extract (p+k) q) i):=λi hi=>by rw[gx i hi];show hN.at ()
 let Ny:∀i,i<(a.extract q (q+n1)).size->N (G (a.extract q (q+n1)) i):=λi hi=>by rw[gy i hi];show hN.at ()
 let hb:lt (G (a.extract q (q+n1)) 0) (G (a.extract (p+k) q) 0)=oD:=by rw[gx 0 (),gy 0 ()];show fl\hk3 k (aq _) ()
 let hl:∀j,j<(a.extract q (q+n1)).size->lt (G (a.extract q (q+n1)) j) (G (a.extract (p+k) q) ((a.extract (p+k) q).size-1))=oD:=λj hj=>by
  rw[gx _ (),gy j hj,zx,show p+k+(q-(p+k)-1)=q-1 by lia];show hn2 j ()
 let fin:∀(r:Array I7)(st2:J2),Fr (SortSt.mk' (kindOf st) a (((J0 st).setIfInBounds i (p,m+n,e)).eraseIdxIfInBounds (i+1)) (gallopOf st)\Lf st) st2->Good lt (a.extract (p+k) q) (a.extract q (q+n1)) r->
   wpS M A E s (do
    modify λs=>setArr s (r.toList.zipIdx.foldl (λa (z,j)=>a.setIfInBounds (p+k+j) z)\L4 s)
    return (Lf (<-get)).isNone) Q st2:=λr st2 f g=>by
  let#[f1,f2,f3,f4]:=f;let f2:L4 st2=a:=f2;show aB\jL (aB\i6 ?_);let#[b1,b2]:=Gz C (p:=p) (z:=q+n) () () () hs g s1 s2 low hig;let fn:Lf st2=n7:=f4<*hf;let e9:(Lf\setArr st2 (r.toList.zipIdx.foldl (λa (z:I7×Nat)=>a.setIfInBounds (p+k+z.2) z.1)\L4 st2)).isNone=oD:=by change (Lf st2).isNone=oD;rw[fn];rfl
  change wpS _ _ _ _ (pure (Lf\setArr st2 (r.toList.zipIdx.foldl (λa (z:I7×Nat)=>a.setIfInBounds (p+k+z.2) z.1)\L4 st2)).isNone) _\setArr st2 (r.toList.zipIdx.foldl (λa (z:I7×Nat)=>a.setIfInBounds (p+k+z.2) z.1)\L4 st2);rw[e9];show aL\h _ _ (f1<*hk) fn rfl ?_ ?_ ?_
  .exact (congrArg Array.toList f3).trans e3
  .rw[f2];show b1
  rw[f2];show b2
 by_cases c3:m-k<=n1
 .refine bF c3 ?_;show aB (Ks C hk Nx Ny hx hy (show 0<(a.extract (p+k) q).size by lia) (show 0<(a.extract q (q+n1)).size by lia) hb hl λr st2 f g=>fin r st2 f g)
 show bC c3 ?_;show aB (Kt C hk Nx Ny hx hy (show 0<(a.extract (p+k) q).size by lia) (show 0<(a.extract q (q+n1)).size by lia) hb hl λr st2 f g=>fin r st2 f g)
end
def Runs(lt:I7->I7->Bool)(a:Array I7):List (Nat×Nat×Nat)->Nat->Nat->Prop
 | [],b,e=>b=e
 |x::l,b,e=>x.1=b/\1<=x.2.1/\Seg lt a b (b+x.2.1)/\Runs lt a l (b+x.2.1) e
section
variable {M:Model}{κ:SortKind}{N:Keyed->Prop}{lt:Keyed->Keyed->Bool}
def Runs.len:∀{l:List (Nat×Nat×Nat)}{b e:Nat},Runs lt a l b e->b+↑l<=e
 | [],_,_,h=>wQ h
 |x::l,b,e,h=>by
  have:=Runs.len h.2.2.2;have:=h.2.1;rw[cv];lia
def Seg.congr{b e:Nat}(h:∀k,b<=k->k<e->G c k=G a k)(r:Seg lt a b e):Seg lt c b e:=λi j h1 h2 d=>by
 rw[h i h1 (),h j () d];show r i j h1 h2 d
def Runs.congr:∀{l:List (Nat×Nat×Nat)}{b e:Nat},(∀k,b<=k->k<e->G c k=G a k)->Runs lt a l b e->Runs lt c l b e
 | [],_,_,_,r=>r
 |x::l,b,e,h,r=>by
  have:=Runs.len r.2.2.2;erw[r.1,r.2.1,r.2.2.1.congr λk h1 h2=>h k h1 (),Runs.congr (λk h1 h2=>h k () h2) r.2.2.2]
def Runs.app{l2:List (Nat×Nat×Nat)}:∀{l1:List (Nat×Nat×Nat)}{b e:Nat},Runs lt a (l1++l2) b e↔∃m,Runs lt a l1 b m/\Runs lt a l2 m e
 | [],b,e=>#[λh=>#[b,1,h],λ⟨m,h1,h2⟩=>by cases h1;show h2]
 |x::l1,b,e=>by
  constructor
  .rintro⟨h1,h2,c,d⟩;let#[m,f,g]:=Runs.app.mp d;erw[m,#[h1,h2,c,f],g]
  rintro⟨m,⟨h1,h2,c,d⟩,f⟩;erw[h1,h2,c,Runs.app.mpr #[m,d,f]]
structure RS(κ:LI)(N:I7->Prop)(lt:I7->I7->Bool)(a0:Array I7)(lo:Nat)(st:J2):Prop where
 k:PyProof.Rows.kindOf st=κ
 f:Lf st=n7
 pm:(L4 st).Perm a0
 r:Runs lt (L4 st) (J0 st).toList 0 lo
def A5(C:Cmp M A E s κ N lt){d:Array I7}{lo i:Nat}{st:J2}{Q:Bool->J2->Prop}(D:Nm N d)(R:RS κ N lt d lo st)(P:lo<=d.size)(hi:i+1<(J0 st).size)
  (q:∀a,RS κ N lt d lo a->(J0 a).size+1=(J0 st).size->(∀k,lo<=k->G (L4 a) k=G (L4 st) k)->Q oD a):wpS M A E s (mergeAt' i) Q st:=by
 let hz:=R.pm.size_eq;let H:Nm N (L4 st):=D.perm R.pm;let#[l1,x,y,l2,e,I]:∃l1 x y l2,(J0 st).toList=l1++x::y::l2/\↑l1=i:=by
  let h1:i<(J0 st).toList.length:=by rw[gg];lia
  let h2:i+1<(J0 st).toList.length:=by rw[gg];lia
  erw[(J0 st).toList.take i,(J0 st).toList[i],(J0 st).toList[i+1],(J0 st).toList.drop (i+1+1),?_,by rw[bz];lia];rw[<-iW h2,<-iW h1,gr]
 let#[p,m,w]:=x;let#[K,n,S]:=y;let r:=R.r;rw[e] at r;let#[b,h,h1,h2,j,c,l,o,g]:=Runs.app.mp r;let h1:p=b:=h1;subst h1;let c:K=p+m:=c;dsimp only at h2 j l o g;let le:=g.len;change wpS M A E s (mergeAt' i) Q\sa st (L4 st);show Ku C R.k R.f H e I c h2 l () (by rw[c];show j) (by rw[c];show o) λu a k1 k2 k3 v k5 z=>q a #[k1,k2,by rw[k3];show k5.pm<*R.pm,?_] ?_ λk B=>by rw[k3];show k5.at_ k ()
 .rw[k3,v];let T:=h.len;show Runs.app.mpr #[p,h.congr λk _ B=>k5.at_ k (),1,by change 1<=m+n;lia,?_,?_]
  .change Seg lt u p (p+(m+n));rw[c,OV] at z;show z
  change Runs lt u l2 (p+(m+n)) lo;rw[<-OV];show g.congr λk B _=>k5.at_ k ()
 let L:=congrArg List.length e;let O:=congrArg List.length v;simp only[gg,bj,cv] at L O;lia
def zK{w:Nat}:∀{l:List (Nat×Nat×Nat)}{i b e:Nat},Runs lt a l b e->Runs lt a (l.modify i λx=>(x.1,x.2.1,w)) b e
 | [],i,_,_,h=>by
  simpa using h
 |x::l,0,_,_,h=>h
 |x::l,i+1,_,_,h=>#[h.1,h.2.1,h.2.2.1,zK h.2.2.2]
def wp_runs(C:Cmp M A E s κ N lt){a0:Array I7}{st:J2}{Q:Unit->J2->Prop}(hN:Nm N a0)(hk:PyProof.Rows.kindOf st=κ)(hf:Lf st=n7)(ha:L4 st=a0)(hp:J0 st=(tA []))(h2:2<=a0.size)
  (q:∀st',Lf st'=n7->(L4 st').Perm a0->Seg lt (L4 st') 0 a0.size->Q .unit st'):wpS M A E s sortRuns' Q st:=by
 rw[sortRuns'_eq];show aB\i6 ?_;dsimp only;rw[ha];generalize minRun' a0.size a0.size 0=mr;let R0:RS κ N lt a0 0 st:=#[hk,hf,ha ▸ Og _,by rw[hp];show rfl];show aB (fH (fk (I:=λt x st'=>x.1=n7/\t<=x.2/\x.2<=a0.size/\RS κ N lt a0 x.2 st') (Q:=λx st'=>x.1=n7/\x.2=a0.size/\RS κ N lt a0 x.2 st') ?step ?fin #[1,aq _,a_ _,R0]) ?post)
 case fin=>
  rintro⟨r,lo⟩ st' ⟨e1,e2,e3,e4⟩;let e2:max 0 a0.size<=lo:=e2;let e3:lo<=a0.size:=e3;erw[e1,by change lo=_;lia,e4]
 case post=>
  rintro⟨r,lo⟩ st' ⟨e1,e2,R⟩;cases e1;let e2:lo=a0.size:=e2;subst e2;dsimp only at R |-;let l0:=R.r.len;rw[gg] at l0;show aB (fH (fk (I:=λt x st'=>x.1=n7/\RS κ N lt a0 a0.size st'/\((J0 st').size+t<=a0.size\/(J0 st').size<=1)) (Q:=λx st'=>x.1=n7/\RS κ N lt a0 a0.size st'/\(J0 st').size<=1) ?s2 ?f2 #[1,R,.inl ()]) ?p2)
  case f2=>
   rintro⟨r,u⟩ st' ⟨e1,R,e2⟩;erw[e1,R,()]
  case p2=>
   rintro⟨r,u⟩ st' ⟨e1,R,e2⟩;cases e1;show aL\q st' R.f R.pm ?_;let r:=R.r;let z:(J0 st').toList.length<=1:=by rw[gg];show e2
   match hh:(J0 st').toList,r,z with
   | [],r,_=>have:0=a0.size:=r;lia
   | [x],r,_=>
    let r3:=r.2.2.1;let e:0+x.2.1=a0.size:=r.2.2.2;rw[e] at r3;show r3
   |x::y::l,r,z=>simp only[cv] at z;lia
  case s2=>
   rintro t ⟨r,u⟩ st' _ ht ⟨e1,R,e2⟩;show aB\i6 ?_;by_cases c:(J0 st').size<=1
   .exact bF c\aL #[1,R,c]
   show bC c ?_;show aB (A5 C hN R (aq _) ?_ λst'' R' hz _=>aL #[1,R',()])
   repeat' split
   all_goals lia
 case step=>
  rintro t ⟨r,lo⟩ st' _ ht ⟨e1,e2,e3,R⟩;cases e1;dsimp only at e2 e3 R |-;by_cases c:lo ≥ a0.size
  .exact bF c\aL #[1,by change lo=_;lia,R]
  show bC c ?_;let hz:=R.pm.size_eq;change wpS M A E s _ _\sa st' (L4 st');show aB (FR C R.k (hN.perm R.pm) () () λn a1 cg n1 n2 sg=>?_);dsimp only;let R1:RS κ N lt a0 lo (sa st' a1):=#[R.k,R.f,cg.pm<*R.pm,R.r.congr λk _ hk'=>cg.at_ k\.inl hk'];let z1:=cg.size;by_cases c2:n<mr;show bF c2 ?_;show aB\lh (aB (Kv C R.k (hN.perm R1.pm) (o:=n) n1 () () sg λa2 cg2 sg2=>?_));show bC ⋯ ?_;let R2:RS κ N lt a0 lo (sa st' a2):=#[R.k,R.f,cg2.pm<*R1.pm,R1.r.congr λk _ hk'=>cg2.at_ k\.inl hk'];let n3:1<=min (a0.size-lo) mr:=();let n4:lo+min (a0.size-lo) mr<=a0.size:=();generalize min (a0.size-lo) mr=nn at sg2 n3 n4 |-
  rotate_left
  show bC c2 ?_;let sg2:=sg;let R2:=R1;let n3:=n1;let n4:lo+n<=a0.size:=();clear n1 n2 sg c2;generalize n=nn at sg2 n3 n4 |-;generalize a1=a2 at sg2 R2 |-
  all_goals
   show aB\i6 ?_;let last:∀st3,RS κ N lt a0 lo st3->Seg lt (L4 st3) lo (lo+nn)->wpS M A E s (do
     modify λs=>setPending s ((J0 s).push (lo,nn,0))
     pure (ForInStep.yield ((n7:Option Unit),lo+nn))) (λ(r:ForInStep (Option Unit×Nat)) st'=>match r with | .done x=>x.1=n7/\x.2=a0.size/\RS κ N lt a0 x.2 st' | .yield x=>x.1=n7/\t+1<=x.2/\x.2<=a0.size/\RS κ N lt a0 x.2 st') st3:=λst3 R3 sg3=>by
    show aB\jL (aL #[1,by change t+1<=lo+nn;lia,n4,R3.k,R3.f,R3.pm,?_]);change Runs lt (L4 st3) ((J0 st3).push (lo,nn,0)).toList 0 (lo+nn);rw[iw];show Runs.app.mpr #[lo,R3.r,1,n3,sg3,1]
   cases hb:(J0\sa st' a2).back? with
   |none=>show last _ R2 sg2
   |some y=>
    let#[s1,n5,w]:=y;dsimp only;generalize power' _ _ _ _=pw;show aB\fH (fk (I:=λ_ x st3=>x.1=n7/\RS κ N lt a0 lo st3/\Seg lt (L4 st3) lo (lo+nn)) (Q:=λx st3=>x.1=n7/\RS κ N lt a0 lo st3/\Seg lt (L4 st3) lo (lo+nn)) ?_ (λ_ _ z=>z) #[1,R2,sg2]) ?_
    .rintro t3 ⟨r,u⟩ st3 _ ht3 ⟨e1,R3,sg3⟩;show aB\i6 ?_;by_cases c3:(J0 st3).size>1
     .rw[Ry c3,Ck (show (J0 st3).size-2<(J0 st3).size by lia)];dsimp only
      split
      .exact aL #[1,R3,sg3]
      show aB (A5 C hN R3 e3 () λst4 R4 _ k4=>aL #[1,R4,sg3.congr λk hk1 _=>k4 k hk1])
     rw[Rx c3];show aL #[1,R3,sg3]
    rintro⟨r,u⟩ st3 ⟨e1,R3,sg3⟩;cases e1;show aB\jL (last _ #[R3.k,R3.f,R3.pm,?_] sg3);change Runs lt (L4 st3) ((J0 st3).modify _ _).toList 0 lo;rw[Array.toList_modify];show zK R3.r
end
end TimS
namespace L2
open PySem PySem.Spec PyProof.Rows PySem.W
open HT (lexLt)
def zM:∀a b:List Int,lexLt a b=oD->lexLt b a=p6
 | [],[],h=>rfl
 | [],_::_,_=>rfl
 |_::_,[],h=>by cases h
 |x::xs,y::ys,h=>by
  rw[HT.lexLt_cons] at h |-;by_cases e:x=y
  .rw[Ry e] at h;rw[Ry e.symm];show zM xs ys h
  rw[Rx e] at h;rw[Rx λz=>e z.symm];have:x<y:=RB h;show RA ()
def BA:∀a b c:List Int,lexLt b a=p6->lexLt c b=p6->lexLt c a=p6
 | [],b,[],_,_=>rfl
 | [],[],_::_,_,h=>rfl
 | [],_::_,_::_,_,_=>rfl
 |_::_,[],_,h,_=>by cases h
 |_::_,_::_,[],_,h=>by cases h
 |x::xs,y::ys,z::zs,h1,h2=>by
  rw[HT.lexLt_cons] at h1 h2 |-;by_cases e:y=x
  .subst e;rw[Ry rfl] at h1;by_cases d:z=y
   .rw[Ry d] at h2 |-;show BA xs ys zs h1 h2
   rw[Rx d] at h2 |-;show h2
  rw[Rx e] at h1;let l1:¬y<x:=of_decide_eq_false h1;by_cases d:z=y
  .subst d;rw[Rx e];show h1
  rw[Rx d] at h2;let l2:¬z<y:=of_decide_eq_false h2;rw[Rx ()];show RA ()
def Tups(K:Frag)(H:Hp)(ys:List V)(ks:List\List Int):Prop:=Paired (λy k=>∃b,y=V.ref b/\SqT K H b (k.map V.int)/\k≠[]) ys ks
def LL{h h':rq}{a:pR}{m b:Str->Option pC}(h1:h.Ns a m)(h2:h.Ns a b):m=b:=by let#[o,es,ep,e,f,_,g]:=h1;let#[o',j,l,c,d,_,i]:=h2;rw[e] at c;cases c;rw[f] at d;cases d;funext x;rw[<-g,<-i]
section
def Inv.newsKept{h':rq}{m:Str->Option pC}{t':Nat}{more:List (pR×Obj)}(I:Inv X RC Z H s)(F:Fr X.base X.env.locals s.heap m)(a:Fr X.base X.env.locals h' m)(N:News X.base X.env.locals h' (more++qy X.base s.heap X.env.locals)):
  (∀b o,b≠X.env.locals->s.heap.get? b*>o->h'.get? b*>o)/\(∀m,s.heap.Ns X.env.locals m->h'.Ns X.env.locals m):=by
 erw[λb o d e=>?_,λf hm=>by rw[<-LL (h':=h') F.ns hm];show a.ns];cases q:X.base.get? b with
 |some u=>
  let c:=I.bk b u q;rw[e] at c;cases c;show a.keep b _ q
 |none=>show (N (b,o)\fj _ (tP d q e)).1
def bh.there{h:rq}{a:pR}{o:HO}(x:bh P w H h a o):∃ob,h.get? a*>ob:=by
 cases o with
 |lst xs=>let#[8,_,e]:=x;erw[_,e]
 |tup xs=>let#[8,ob,e,_]:=x;erw[_,e]
 |dK kvs=>let#[8,_,o,0,e,_]:=x;erw[_,e]
 |dT kvs=>let#[8,_,o,0,e,_]:=x;erw[_,e]
 |set S n=>let#[o,8,e,_]:=x;erw[_,e]
 |ins C dx fs=>let#[8,e,_]:=x;erw[_,e]
 |own y=>show x
 |xd fs=>let#[_,#[8,e,_],_]:=x;erw[_,e]
 |rng lo hi=>let#[8,e]:=x;erw[_,e]
 |frz ob u=>let#[e,_]:=x;erw[_,e]
 |tbl ps=>erw[_,(show h.get? a*>_ from x)]
 |met f y=>erw[_,(show h.get? a*>_ from x)]
 |ext φ=>let#[_,e,_]:=x;show e
def HOk.none_of{h:rq}{a:pR}(x:HOk P w H h)(e:h.get? a=n7):H a=n7:=by
 cases q:H a with
 |none=>rfl
 |some u=>
  let#[o,z]:=(x a u q).there;rw[e] at z;cases z
def Inv.laidN{h':rq}{t':Nat}{a:pR}{o:HO}(I:Inv X RC Z H s)(k:∀b o,b≠X.env.locals->s.heap.get? b*>o->h'.get? b*>o)(g:∀m,s.heap.Ns X.env.locals m->h'.Ns X.env.locals m)
  (ha:s.heap.get? a=n7) (new:∀H',bh X.prog X.w H' h' a o) (hx:∀y fs,o≠.ins y fs []):Inv X RC Z (upd H a o) {s with heap:=h',toks:=t'}:=by
 let f:H a=n7:=I.hok.none_of ha;let h:∀b u,H b*>u->b≠X.env.locals:=λb u e z=>by rw[z,I.free] at e;cases e
 show I.step (g':=s.gens) (d':=s.drawn) (ch:=[]) (λ_ z=>nomatch z) (λb o d _ _ e _=>k b o d e) (λb o d _ _ e _=>#[o.slots,k b o d e]) (λb o _ e n=>?_) (λb o _ e=>?_) (λb xs e=>?_) (λb o u e=>?_) (λb ps e=>#[(tA []),?_]) g (λb u e=>?_) I.bare
 .rw[ar (λz=>by rw[z,ha] at e;cases e)];show n
 .by_cases d:b=X.env.locals
  .subst d;let#[m,hm,_]:=I.loc;let#[o',0,i,_]:=g m hm;erw[o',i]
  erw[o,k b o d e]
 .rw[ar\ao e f];show e
 .rw[ar\ao e f];show e
 .rw[ar\ao e f,e];simp
 by_cases d:b=a
 .subst d;rw[aI] at e;cases e;show new _
 rw[ar d] at e;show (I.hok b u e).stay (λc v j q=>k c v ?_ q) (λc q=>by rw[ar\ao q f];show q) λc xs q=>by rw[ar\ao q f];show q
 rcases j with z|z
 .rw[z];show h b u e
 show h c _ z
def Inv.keptN{h':rq}{t':Nat}(I:Inv X RC Z H s)(k:∀b o,b≠X.env.locals->s.heap.get? b*>o->h'.get? b*>o)(d:∀m,s.heap.Ns X.env.locals m->h'.Ns X.env.locals m):Inv X RC Z H {s with heap:=h',toks:=t'}:=by
 let f:∀b u,H b*>u->b≠X.env.locals:=λb u e z=>by rw[z,I.free] at e;cases e
 show I.step (g':=s.gens) (d':=s.drawn) (ch:=[]) (λ_ z=>nomatch z) (λb o a _ _ e _=>k b o a e) (λb o a _ _ e _=>#[o.slots,k b o a e]) (λb o _ e n=>n) (λb o _ e=>?_) (λb xs e=>e) (λb o u e=>e) (λb ps e=>#[(tA []),by rw[e];simp]) d (λb u e=>?_) I.bare
 .by_cases a:b=X.env.locals
  .subst a;let#[m,hm,_]:=I.loc;let#[o',0,g,_]:=d m hm;erw[o',g]
  erw[o,k b o a e]
 show (I.hok b u e).stay (λc v h q=>k c v ?_ q) (λc q=>q) λc xs q=>q;rcases h with z|z
 .rw[z];show f b u e
 show f c _ z
end
def gK(h:rq)(a:pR)(vs:List pC):Heap:=((h.update a (Obj.mapSeq λ_=>(tA []))).push\seqObj ↑20 vs.toArray 0).push\seqObj ↑28 (tA []) 0
section
variable {prog:Program}{κ:SortKind}{rk:Value->List Int}
def yH{a:pR}{vs:List pC}{n:Nat}{P:PySem.Fin->pS->Prop}(ho:s.heap.get? a*>seqObj ↑28 vs.toArray n)(hz:↑vs<=qs)
  (hk:2<=↑vs->∀Q:LI->pS->Prop,Q κ {s with heap:=gK s.heap a vs}->q7 (rb prog w) A (keyKind' vs.toArray) Q E {s with heap:=gK s.heap a vs})
  (hc:2<=↑vs->∀x∈vs,∀y∈vs,∀C:Bool->pS->Prop,C (HT.lexLt (rk x)\rk y) {s with heap:=gK s.heap a vs}->q7 (rb prog w) A (keyLt' κ x y) C (λ_ _=>False) {s with heap:=gK s.heap a vs})
  (h:∀out:List pC,out.Perm vs->out.Pairwise (λu v=>HT.lexLt (rk v) (rk u)=p6)->P (.done\.ret .none) {s with heap:=sortedHeap s.heap a vs out.toArray}):q7 (rb prog w) A (Builtin.«list.sort» #[[.ref a],[]]) P E s:=by
 let lt:a<↥s:=aJ ho;let#[e1,h1]:∃e1,(s.heap.update a (Obj.mapSeq λ_=>((tA []):Array pC))).get? a*>seqObj ↑28 (tA []) e1:=#[_,get?_update_seq ho λ_=>(tA [])];let h3:(gK s.heap a vs).get? a*>seqObj ↑28 (tA []) e1:=aO _\aO _ h1;let zs:(vs.toArray.zip vs.toArray).map (·.2)=vs.toArray:=by apply oH.mp;simp only[we,List.zip_toArray];show List.map_snd_zip\aq _
 rw[list_sort_plain];show aa\listItems_at ho rfl (aa\listUpdate_at ho rfl (aa\seqEpoch_at h1 rfl (aa\Dw (aa\wpAny_newList (cX ?_) (a_ _)) hz)) (by rw[bJ];lia) (a_ _));change q7 _ _ _ _ _ {s with heap:=gK s.heap a vs};let fin:∀st:J2,Lf st=n7->((L4 st).map (·.2)).toList.Perm vs->((L4 st).map (·.2)).toList.Pairwise (λu v=>HT.lexLt (rk v) (rk u)=p6)->∀s':pS,s'={s with heap:=gK s.heap a vs}->q7 (rb prog w) A (do
   let touched:=(<-seqEpoch a) != e1
   Builtin.List.listUpdate (.ref a) λ_=>(L4 st).map (·.2)
   if let oy e:=Lf st then rule "list.sort.comparison-raised";throw e
   if touched then rule "list.sort.modified";raiseError ↑21 "list modified during sort"
   ret .none) P E s':=by
  rintro st hf hp hs _ rfl;show aa\seqEpoch_at h3 rfl (aa\listUpdate_at h3 rfl ?_ (a_ _) (by have:=hp.length_eq;rw[gg] at this;lia));rw[hf];simp only[bne_self_eq_false,jC,if_false];show ai (by
   let z:=h _ hp hs
   rwa [Array.toArray_toList] at z)
 dsimp only;by_cases h2:↑vs<2
 .let hs2:vs.toArray.size<2:=by rw[bJ];show h2
  rw[Ry hs2,Ry hs2];show aa\ai ?_;rw[StateT.run_pure];show aa\ai ?_;show fin (SortSt.mk' general' (vs.toArray.zip vs.toArray) (tA []) 7 n7) rfl ?_ ?_ _ rfl
  .change (((vs.toArray.zip vs.toArray).map (·.2)).toList).Perm vs;rw[zs]
  change (((vs.toArray.zip vs.toArray).map (·.2)).toList).Pairwise _;rw[zs];cases vs with
  |nil=>show .nil
  |cons x l=>rw[List.eq_nil_of_length_eq_zero (show ↑l=0 by rw[cv] at h2;lia)];show tq _ _
 let nt:¬vs.toArray.size<2:=by rw[bJ];lia
 rw[Rx nt,Rx nt];show aa\hk () _ ?_;let mem:∀x∈(vs.toArray.zip vs.toArray),x.1∈vs/\x.1=x.2:=λx hx=>by
  let hx:x∈vs.zip vs:=‹hx›
  let#[i,hi]:=eY.mp hx;rw[mE] at hi;erw[a9 hi.1,eg\hi.1.symm.trans hi.2]
 let C:TimS.Cmp (rb prog w) A E {s with heap:=gK s.heap a vs} κ (λx=>x∈(vs.toArray.zip vs.toArray)) (λx y=>HT.lexLt (rk x.1)\rk y.1):=by erw[λ_ _=>zM _ _,λ_ _ _=>BA _ _ _,λ{x y st Q} hx hy hk' q=>?_];rw[lt'_eq];show aB\i6 ?_;rw[hk'];show aB\wpS_lift (i5 (bZ (hc () _ (mem x hx).1 _ (mem y hy).1 (λb s'=>b=HT.lexLt (rk x.1) (rk y.1)/\s'={s with heap:=gK s.heap a vs}) #[5]) (λb s' ⟨e,e'⟩=>?_) λ_ _ z=>z.elim));subst e e';erw[1,aL q]
 let hzz:(vs.toArray.zip vs.toArray).size=↑vs:=∅;show aa (bZ (TimS.wp_runs C (st:=SortSt.mk' κ (vs.toArray.zip vs.toArray) (tA []) 7 n7) (λx hx=>hx) rfl rfl rfl rfl (by rw[hzz];lia) (Q:=λ_ st=>Lf st=n7/\(L4 st).Perm (vs.toArray.zip vs.toArray)/\TimS.Seg (λx y=>HT.lexLt (rk x.1)\rk y.1) (L4 st) 0 ↑vs) λst' f p g=>#[f,p,by rw[hzz] at g;show g]) ?_ λ_ _ e=>e);rintro⟨⟨⟩,st'⟩ s' ⟨e,hf,hp,hg⟩;show fin st' hf ?_ ?_ s' e
 .have:=(Ol.mp hp).map (·.2);rw[<-we,<-we,zs] at this;show this
 rw[we,gq];show wL.mpr λi j hi hj hij=>?_;let hz2:(L4 st').size=↑vs:=hp.size_eq<*hzz;let hi':i<(L4 st').size:=‹hi›
 let hj':j<(L4 st').size:=‹hj›
 let g:=hg i j (a_ _) () ();let e2:∀k (hk:k<(L4 st').size),TimS.G (L4 st') k=(L4 st')[k]:=λk hk=>by simp[TimS.G,hk]
 let e3:∀k (hk:k<(L4 st').size),((L4 st')[k]).1=((L4 st')[k]).2:=λk hk=>(mem _\hp.mem_iff.mp (Array.getElem_mem hk)).2;let g:HT.lexLt (rk (TimS.G (L4 st') j).1) (rk (TimS.G (L4 st') i).1)=p6:=g;rw[e2 i hi',e2 j hj',e3 i hi',e3 j hj'] at g;simpa using g
def xJ{l:pR}{vs:List pC}{Q:pC->pS->Prop}(e:s.heap.IsList l vs.toArray)(hz:↑vs+1<=qs)
  (f:∀h':rq,(∀b o,s.heap.get? b*>o->h'.get? b*>o)->2<=↑vs->∀Q:LI->pS->Prop,Q κ {s with heap:=h'}->q7 (rb prog w) A.in1.in1 (keyKind' vs.toArray) Q E {s with heap:=h'})
  (i:∀h':rq,(∀b o,s.heap.get? b*>o->h'.get? b*>o)->2<=↑vs->∀x∈vs,∀y∈vs,∀C:Bool->pS->Prop,C (HT.lexLt (rk x)\rk y) {s with heap:=h'}->q7 (rb prog w) A.in1.in1 (keyLt' κ x y) C (λ_ _=>False) {s with heap:=h'})
  (h:∀out:List pC,out.Perm vs->out.Pairwise (λu v=>HT.lexLt (rk v) (rk u)=p6)->Q (.ref (↥s+1)) {s with heap:=sortedAll s.heap vs out.toArray}):q7 (rb prog w) A (call (.builtin ↑55) [.ref l]) Q E s:=by
 show Calls.call_function_entry kind_sorted plain_sorted entry_sorted (args_sorted1 _) ?_;unfold Builtin.«sorted»;show aa (m:=checkCount ↑55 1 1 _)\ai (aa\collect_list e (aa\wpAny_newList ?_ ()) ());generalize a:(s.heap.push\seqObj ↑28 (tA []) 0).update ↥s (Obj.mapSeq (·++vs.toArray))=G;let c:G.objs.size=↥s+1:=by rw[<-a,Heap.size_update,size_push']
 let d:(G.push\seqObj ↑28 vs.toArray 0).get? (↥s+1)*>seqObj ↑28 vs.toArray 0:=by rw[<-c];show bI _ rfl
 let j:∀out:List pC,sortedAll s.heap vs out.toArray=sortedHeap (G.push\seqObj ↑28 vs.toArray 0) (↥s+1) vs out.toArray:=λout=>by rw[<-a];rfl
 let old:∀b o,s.heap.get? b*>o->(gK (G.push\seqObj ↑28 vs.toArray 0) (↥s+1) vs).get? b*>o:=λb o q=>by
  let lt:=aJ q;let g:G.get? b*>o:=by rw[<-a,sP _ _ _ _\bB lt];show aO _ q
  show aO _\aO _ ?_;rw[sP _ _ _ _\bB (kB lt)];show aO _ g
 change q7 _ _ _ _ _ {s with heap:=G.push\seqObj ↑28 vs.toArray 0};rw[c];show aa\cX (gA P8 #[_,d,1] P0 ?body\PQ _)
 case body=>
  show yH (rk:=rk) (κ:=κ) (s:={s with heap:=G.push\seqObj ↑28 vs.toArray 0}) d () (f _ old) (i _ old) λout p1 p2=>?_;erw[2,ai #[2,(j out) ▸ h out p1 p2]]
end
section
def Et(ys:List V):((List.range ↑ys).map λi=>ys.getD i V.non)=ys:=by show sV ∅ λi h1 h2=>?_;simp[h2]
def Paired.getE{α β:Type}{F:α->β->Prop}:∀{l1:List α}{l2:List β}{i:Nat}{x:α},Paired F l1 l2->l1[i]?*>x->∃y,l2[i]?*>y/\F x y
 |_,_,_,_,.nil,e=>by simp at e
 |_,_,0,_,.cons r _,e=>by simp at e;subst e;erw[2,r]
 |_,_,i+1,x,.cons _ t,e=>by
  let#[u,h1,h2]:=Paired.getE (i:=i) (x:=x) t ‹e›;erw[u,‹h1›,h2]
def xY(r:Vals ys a):∀(ix:List Nat),(∀i∈ix,i<↑ys)->Vals (ix.map λi=>ys.getD i .non) (ix.map λi=>a.getD i Value.none)
 | [],_=>.nil
 |i::ix,h=>by
  show .cons ?_ (xY r ix λj b=>h j\de _ b);let hi:=h i gk;let#[u,c,d]:=r.get (i:=i) (x:=ys[i]) (by simp[hi]);let e:ys.getD i .non=ys[i]:=by simp[List.getD,hi]
  let f:a.getD i Value.none=u:=by rw[List.getD,c];rfl
  change aC (ys.getD i .non)\a.getD i Value.none;rw[e,f];show d
def Kq{prog:rp}(us ws:List pC)(ns ms:List Int)(i:Nat)(s:pS){fin:Bool}{Q:Bool->pS->Prop}(h1:L3 us ns)(h2:L3 ws ms)(e:fin=decide (↑ns<↑ms))(q:Q (HT.lexLt ns ms) s):KatLex prog w A oD fin Q (us.zip ws) i s:=by
 induction h1 generalizing ws ms i with
 |nil=>
  subst e;cases h2 with
  |nil=>show q
  |cons _ _ _=>show kat_nil (by simpa [HT.lexLt] using q)
 |cons a t f c=>cases h2 with
  |nil=>subst e;show kat_nil (by simpa [HT.lexLt] using q)
  |cons b u d=>
  rw[HT.lexLt_cons] at q;show kat_cons\Do ?_;by_cases h:a=b
  .rw[Ry h] at q;rw[show (a==b)=oD by simpa using h];show kat_yes\c _ _ (i+1) d ?_ q;rw[e];simp
  rw[Rx h] at q;rw[show (a==b)=p6 by simpa using h];show kat_no ?_;cases g:(oD&&i==0) with
  |true=>show oneLt_int q
  |false=>show kat_one _ _\lt_int q
def Fb{α β:Type}{f:α->β}:∀{l b:List β},b.Perm l->∀ix:List α,l=ix.map f->∃a:List α,a.Perm ix/\b=a.map f:=by
 intro l b h;induction h with
 |nil=>show λix e=>#[ix,.refl _,e]
 |cons x _ c=>
  intro ix e;cases ix with
  |nil=>cases e
  |cons i ix=>
   rw[br] at e;injection e with d g;let#[a,p,q]:=c ix g;erw[i::a,p.cons i,by rw[br,d,q]]
 |swap x y l=>
  intro ix e
  match ix,e with
  |i::j::ix,e=>
   simp only[br,List.cons.injEq] at e;erw[j::i::ix,.swap _ _ _,by rw[br,br,e.1,e.2.1,e.2.2]]
 |trans _ _ m n=>
  intro ix e;let#[o,p2,r]:=n ix e;let#[s,p1,u]:=m o r;erw[s,p1<*p2,u]
def Ky(K:Frag)(H:Hp)(ys:List V)(ks:List\List Int):Prop:=Paired (λy k=>∃n,y=V.int n/\k=[n]) ys ks\/Tups K H ys ks
def rkV(h:rq):pC->List Int
 |.int n _=>[n]
 |.ref b=>match h.get? b with
  |some o=>match o.data with
   |.seq xs _=>xs.toList.map λv=>match v with | .int n _=>n|_=>0
   |_=>[]
  |none=>[]
 |_=>[]
def uS:∀{us:List pC}{ns:List Int},L3 us ns->(us.map λv=>match v with | .int n _=>n|_=>0)=ns
 |_,_,.nil=>rfl
 |_,_,.cons n t r=>by rw[br,uS r]
def BB(I:Inv X RC Z H s){ks:List\List Int}(h:Ky [] H ys ks)(f:Vals ys c):∃κ:LI,(∀i,i<↑c->rkV s.heap (c.getD i Value.none)=ks.getD i [])/\
  ∀{A:z3}{E:pC->pS->Prop}(h':rq),(∀b o,s.heap.get? b*>o->o.cls=.type ↑20->h'.get? b*>o)->2<=↑c->
   (∀Q:LI->pS->Prop,Q κ {s with heap:=h'}->q7 ⇑X A (keyKind' c.toArray) Q E {s with heap:=h'})/\
   ∀x∈c,∀y∈c,∀C:Bool->pS->Prop,C (HT.lexLt (rkV s.heap x)\rkV s.heap y) {s with heap:=h'}->q7 ⇑X A (keyLt' κ x y) C (λ_ _=>False) {s with heap:=h'}:=by
 rcases h with h|h
 .let#[ns,5]:∃ns:List Int,ys=ns.map V.int/\ks=ns.map λn=>[n]:=by
   clear f;induction h with
   |nil=>erw[[],5]
   |cons r _ g=>
    let#[n,5]:=r;let#[ns,5]:=g;erw[n::ns,5]
  let l:=nj f;let d:∀{c:List pC}{ns:List Int},L3 c ns->∀x∈c,∃n t,x=Value.int n t:=λ{c ns} l x hx=>by
   induction l with
   |nil=>cases hx
   |cons n t _ g=>
    rcases aT.mp hx with rfl|hx
    .exact#[n,t,1]
    show g hx
  erw[oneType',λi hi=>?_,λ{A E} h' _ h2=>#[λQ q=>?_,λx hx y D C q=>?_]]
  .let#[u,K,B]:=f.get (i:=i) (x:=(ns.map V.int)[i]'(by rw[↑f];show hi)) ∅;let S:i<↑ns:=by have:=↑f;rw[av] at this;lia
   rw[List.getElem_map] at B;let#[t,1]:=B;rw[List.getD,K,List.getD,bu,aU S];rfl
  .match c,h2,l with
   |v1::v2::rest,_,l=>rw[keyKind_ints l];show ai q
  let#[n,t,1]:=d l x hx;let#[m,u,1]:=d l y D;show kat_lt_int ?_;let e:HT.lexLt (rkV s.heap\Value.int n t) (rkV s.heap\Value.int m u)=decide (n<m):=by
   change HT.lexLt [n] [m]=_;rw[HT.lexLt_cons];by_cases z:n=m
   .rw[Ry z,RA ()];rfl
   rw[Rx z]
  rw[<-e];show q
 let at_:∀(ks:List\List Int)(ys:List V)(c:List pC),Tups [] H ys ks->Vals ys c->Paired (λv k=>k≠[]/\∃b us o n,v=Value.ref b/\L3 us k/\s.heap.get? b*>o/\o.cls=.type ↑20/\o.data=.seq us.toArray n) c ks:=by
  intro ks;induction ks with
  |nil=>intro ys c a b;cases a;cases b;show .nil
  |cons k ks g=>
   intro ys c a b;cases a with
   |cons U tt=>
    let#[Y,e0,hq,L]:=U;subst e0;cases b with
    |cons r rr=>
     cases r;let#[us,r5,#[o,p1,p2,n,p3],_]:=I.tuple hq;show .cons #[L,Y,us,o,n,1,nj r5,p1,p2,p3]\g _ _ tt rr
 let P:=at_ ks ys c h f;let M:∀{b:pR}{us:List pC}{o:Obj}{n:Nat}{k:List Int},L3 us k->s.heap.get? b*>o->o.data=.seq us.toArray n->rkV s.heap (Value.ref b)=k:=λ{b us o n k} i1 i2 p=>by
  change (match s.heap.get? b with|some o=>_|none=>_)=_;rw[i2];change (match o.data with | .seq xs _=>_|_=>_)=_;rw[p];show uS i1
 erw[tuples' (Value.type "int" != Value.type ↑20),λi hi=>?_,λ{A E} h' old h2=>#[λQ q=>?_,λx hx y D C q=>?_]]
 .let#[k,K,_,b,us,o,n,B,i1,i2,_,p]:=Paired.getE (i:=i) (x:=c[i]) P (by simp[hi]);rw[show c.getD i Value.none=c[i] by simp[List.getD,hi],B,M i1 i2 p,List.getD,K];rfl
 .let#[fs,hk,al,ab]:∃fs,KatTups h' c fs/\↑fs=↑c/\∀v∈fs,∃n t,v=Value.int n t:=by
   clear f h2 h at_;induction P with
   |nil=>erw[[],.nil,1,λ_ h=>nomatch h]
   |cons r _ g=>
    let#[L,b,us,o,n,1,i1,i2,N,p]:=r;let#[fs,k1,ad,ag]:=g;cases i1 with
    |nil=>show absurd rfl L
    |cons z tk r2=>
     erw[Value.int z tk::fs,.cons (old _ _ i2 N) N p ∅ k1,by simp[ad],λv d=>?_];rcases aT.mp d with rfl|d
     .exact#[9]
     show ag v d
  show kat_kind (T:=.type "int") hk () (λv d=>?_) ⋯ q;let#[n,t,1]:=ab v d;show Looks.of_pure rfl
 let#[i,hi]:=eY.mp hx;let#[j,hj]:=eY.mp D;let#[k1,0,b1,u1,o1,n1,1,i1,x1,c1,O]:=Paired.getE P hi;let#[k2,0,b2,u2,o2,n2,1,i2,x2,c2,R]:=Paired.getE P hj;rw[M i1 x1 O,M i2 x2 R] at q;rw[show (Value.type "int" != Value.type ↑20)=oD by decide];show kat_lt (old _ _ x1 c1) O (old _ _ x2 c2) R\Kq u1 u2 _ _ 0 _ i1 i2 ?_ q;rw[<-↑i1,<-↑i2];simp
def vE{ks:List\List Int}{out:List pC}(d:Vals ys c)(g:∀i,i<↑c->rkV s.heap (c.getD i Value.none)=ks.getD i [])(p:out.Perm c)(j:out.Pairwise λu v=>HT.lexLt (rkV s.heap v) (rkV s.heap u)=p6):
  ∃ix:List Nat,ix.Perm (List.range ↑ys)/\(ix.map λi=>ks.getD i []).Pairwise (λa b=>HT.lexLt b a=p6)/\Vals (ix.map λi=>ys.getD i .non) out:=by
 let e:c=(List.range ↑c).map λi=>c.getD i Value.none:=by show sV ∅ λi h1 h2=>?_;simp[h1]
 let#[ix,p2,1]:=Fb p _ e;let f:∀i∈ix,i<↑c:=λi hi=>iy.mp\p2.mem_iff.mp hi;erw[ix,by rw[↑d];show p2,?_,xY d ix λi hi=>by rw[↑d];show f i hi];rw[gq] at j |-;show wm (λ{a b} ha l h=>?_) j;rw[g _\f a ha,g _\f b l] at h;show h
def Ll(K:Frag):List V->Hp->VK->Prop:=λxs H Q=>∃(a:pR)(ys:List V)(ks:List\List Int),xs=[.ref a]/\SqL K H a ys/\Ky K H ys ks/\↑ys<5000/\
 ∀p (ix:List Nat),H p=n7->ix.Perm (List.range ↑ys)->(ix.map λi=>ks.getD i []).Pairwise (λa b=>HT.lexLt b a=p6)->Q (.ref p)\upd H p (.lst (ix.map λi=>ys.getD i .non))
def DE:c7 X (.builtin ↑55) (Ll []):=by intro RC s Z H xs us Q I r h;let#[a,ys,ks,1,f,g,hz,q]:=h;let#[u,1,j]:=Vals.one r;cases j;let#[l,c,p,_]:=I.list f;let v:=↑c;let#[κ,m,ask]:=BB I g c;show xJ (κ:=κ) (rk:=rkV s.heap) p.isList (by rw[cY];lia) (λh' old h2=>(ask h' (λb o e _=>old b o e) h2).1) (λh' old h2=>(ask (E:=λ_ _=>False) h' (λb o e _=>old b o e) h2).2) λout p1 p2=>?_;let#[ix,x1,x2,n]:=vE c m p1 p2;let#[e,he]:=sortedAll_at s.heap l out.toArray;let d:↥s<=↥s+1:=mH _;erw[.ref (↥s+1),upd H (↥s+1)\.lst (ix.map λi=>ys.getD i .non),I.laid (t':=s.toks) (λb o e=>sortedAll_old e) d #[by rw[av,x1.length_eq,mF,cY];lia,out,e,n,by rw[he]],1,q _ ix (I.hok.fresh d) x1 x2]
def LR{K:Frag}(ns:List Int):Ky K H (ns.map V.int) (ns.map λn=>[n]):=.inl (by
 induction ns with
 |nil=>show .nil
 |cons n ns a=>show .cons #[n,5] a)
def LZ{ns:List Int}{ix:List Nat}(p:ix.Perm\List.range ↑(ns.map V.int))(w:(ix.map λi=>(ns.map λn=>[n]).getD i []).Pairwise λa b=>HT.lexLt b a=p6):
  ∃ms:List Int,ms.Perm ns/\ms.Pairwise (·<=·)/\(ix.map λi=>(ns.map V.int).getD i .non)=ms.map V.int:=by
 rw[av] at p;let c:∀i∈ix,i<↑ns:=λi hi=>iy.mp\p.mem_iff.mp hi;erw[ix.map λi=>ns.getD i 0,?_,?_,?_]
 .have:=p.map λi=>ns.getD i 0;show this.trans\wq (sV ∅ λi h1 h2=>?_);simp[h2]
 .rw[gq] at w |-;show wm (λ{a b} ha d h=>?_) w;let h1:=c a ha;let h2:=c b d;simp only[List.getD,bu,aU h1,aU h2,oR,wX] at h |-;rw[HT.lexLt_cons] at h;by_cases z:ns[b]=ns[a]
  .lia
  rw[Rx z] at h;have:=of_decide_eq_false h;lia
 rw[cz];show tj λi hi=>?_;have:=c i hi;simp[List.getD,this]
def Lj(K:Frag):List V->Hp->VK->Prop:=λxs H Q=>∃(a:pR)(ys:List V)(ks:List\List Int),xs=[.ref a]/\SqL K H a ys/\Tups K H ys ks/\↑ys<5000/\
 ∀p (ix:List Nat),H p=n7->ix.Perm (List.range ↑ys)->(ix.map λi=>ks.getD i []).Pairwise (λa b=>HT.lexLt b a=p6)->Q (.ref p)\upd H p (.lst (ix.map λi=>ys.getD i .non))
def xq:c7 X (.builtin ↑55) (Lj []):=by intro RC s Z H xs us Q I r h;let#[a,ys,ks,1,b,c,hz,q]:=h;show DE RC s Z H _ us Q I r #[a,9,b,.inr c,hz,q]
end
def DAt(h:rq)(d:pR)(es:Array vT)(ep:Nat):Prop:=∃o,h.get? d*>o/\o.ExactDict/\o.data=.dict es ep
def DAt.lt{es:Array vT}(x:DAt h d es ep):d<h.objs.size:=let ⟨_,e,_⟩:=x;aJ e
def DAt.at{h':rq}{es:Array vT}(x:DAt h d es ep)(k:∀o,h.get? d*>o->h'.get? d*>o):DAt h' d es ep:=let ⟨o,e,r⟩:=x;#[o,k o e,r]
def DAt.ty{es:Array vT}(x:DAt s.heap d es ep):s.TypeIs (.ref d) ↑69:=let ⟨o,e,c,_⟩:=x;#[o,e,c.1]
section
variable {prog:Program}{d it:Addr}{es:Array DictEntry}{ep i:Nat}
def vP{Q:pC->pS->Prop}(lo:(d==tf)=p6)(m:DAt s.heap d es ep)
  (q:Q (.ref ↥s) {s with heap:=s.heap.push {cls:=.type ↑84,data:=.fields\tA [.ref d,.int 0 0,.int es.size 0,.int ep 0]}}):q7 (rb prog w) A (pyIter\.ref d) Q E s:=by
 let#[o,a,_,b]:=id m;show Qs m.ty Pk (gA Pk m.ty PySem.F.entry_dict_iter ?tree\PySem.F.args_dict_iter_1 _);unfold Builtin.«dict.__iter__» Builtin.Dict.dictSlotNone;show aa\aa (Dx m.ty ?_);show ai (show q7 _ _ (Builtin.Dict.showsAll d >>= _) _ _ s from ?_);unfold Builtin.Dict.showsAll;rw[Rx (show ¬(d==tf)=oD by rw[lo];simp)];show aa\ai (aa\pd a b (aa\pf a b ?_));show aa\eQ (ai #[2,↑84,_,#[_,bI _ rfl,1],tH.lookup,?_]);simpa [vf] using q
def Cc{Q:Option pC->pS->Prop}(hit:s.heap.IsKeyIter it d i es.size ep)(m:DAt s.heap d es ep)(hi:i<es.size)
  (q:∀h',h'.IsKeyIter it d (i+1) es.size ep->Heap.SameBut it s.heap h'->Q (oy es[i].key) {s with heap:=h'}):q7 (rb prog w) A (wb\.ref it) Q E s:=by
 let#[o,a,e,hd]:=id hit;let#[od,b,_,c]:=id m;unfold wb;show aa\i5 (jK (name:=Str.ofString "__next__") hit.typeIs tH (gA tH hit.typeIs Pf ?tree\Pc _));show aa\ai (aa\aa ?_)
 first|show aa (xm hit.typeIs\ai (aa\kL a hd ?_))|show aa\xo hit.typeIs (ai\aa (kL a hd ?_))
 simp only[show Builtin.Dict_items.ownsTuple ↑84 = p6 by decide,jC,if_false];show (show q7 _ _ (if (Value.ref d==Value.none)=oD then _ else _) _ _ s from ?_);rw[Rx (show ¬(Value.ref d==Value.none)=oD from bG)];show aa\ai (aa\pd b c ?_);rw[Rx ∅];show aa\ai (aa\pf b c ?_);rw[Rx ∅];show ai ?_;simp only[show ¬((i:Int)<0) by lia,if_false,my,Ck hi];show aa ?_
 first|show aa (xm hit.typeIs\ai (aa\Ds hit.typeIs ?_))|show aa\xo hit.typeIs (ai\aa (Ds hit.typeIs ?_))
 change q7 _ _ (setField (.ref it) 1 (vf ((i:Int)+1)) >>= _) _ _ s;show aa (gC a hd ∅ ?_);let t':(s.heap.update it\Obj.mapFields (·.setIfInBounds 1 (vf ((i:Int)+1)))).IsKeyIter it d (i+1) es.size ep:=
  #[_,fh _ a\kG (kF hd _),(wW ..)<*e,by rw[kF hd];simp[vf]]
 show aa\cX (aa\Ds (s:={s with heap:=s.heap.update it\Obj.mapFields (·.setIfInBounds 1 (vf ((i:Int)+1)))}) t'.typeIs ?_);change q7 _ _ (pure es[i].key) _ _ _;show ai\ai #[2,ai\q _ t' (Cm ..)]
def dEnd{Q:Option pC->pS->Prop}(g:A.handled=n7)(hit:s.heap.IsKeyIter it d i es.size ep)(m:DAt s.heap d es ep)(hi:es.size<=i)
  (q:∀h',Heap.ExtBut it s.heap h'->Q n7 {s with heap:=h'}):q7 (rb prog w) A (wb\.ref it) Q E s:=by
 let#[o,c,h,hd]:=id hit;let#[od,e,_,f]:=id m;unfold wb;show aa\i5 (jK (name:=Str.ofString "__next__") hit.typeIs tH (gA tH hit.typeIs Pf ?tree\Pc _));show aa\ai (aa\aa ?_)
 first|show aa (xm hit.typeIs\ai (aa\kL c hd ?_))|show aa\xo hit.typeIs (ai\aa (kL c hd ?_))
 simp only[show Builtin.Dict_items.ownsTuple ↑84 = p6 by decide,jC,if_false];show (show q7 _ _ (if (Value.ref d==Value.none)=oD then _ else _) _ _ s from ?_);rw[Rx (show ¬(Value.ref d==Value.none)=oD from bG)];show aa\ai (aa\pd e f ?_);rw[Rx ∅];show aa\ai (aa\pf e f ?_);rw[Rx ∅];show ai ?_;simp only[show ¬((i:Int)<0) by lia,if_false,my,Oi hi];show aa ?_
 first|show aa (xm hit.typeIs\ai ?_)|show aa\xo hit.typeIs (ai ?_)
 show (show q7 _ _ (setField (.ref it) 0 .none >>= _) _ _ s from aa (gC c hd ∅ ?_));change q7 _ _ (newExc (.type ↑82) [] >>= _) _ _ _;show aa ?_;simp only[newExc,newTuple];show aa\eQ (aa (m:=firstArgMember _ _)\mP (a:=Value.none) (by first|rfl|(simp only[firstArgMember];rfl)) (eQ ?_ (by size_fits))) (by size_fits);simp only[raiseNew];show aa\Dq ?_;rw[show A.in1.handled=n7 from g];show aa\ai (xj ?_);show aa\Dr (b:=oD) (T:=↑82) #[_,bI _ rfl,1] De ?_;show ai\q _ (((Cm ..).extBut.push _).push _)
def BK(g:A.handled=n7)(I:pR)(j:d≠I):Walks prog w A I [I,d] [I] es.size (λi v=>∃(h:i<es.size),v=es[i].key) (λi h=>h.IsKeyIter I d i es.size ep/\DAt h d es ep) where
 sub:=λb a=>by simp at a;simp[a]
 frame:=λ_ _ _ st f=>#[st.1.at λo e=>f I ∅ o e,st.2.at λo e=>f d ∅ o e]
 item:=λi s Q E hi st c=>Cc st.1 st.2 hi λh' t' sb=>c _ h' s.toks #[hi,1] #[t',st.2.at λo e=>(sb.2 d j)<*e] λb o a e=>sb.extBut b o (λh=>a (by simp[h])) e
 done:=λs Q E st c=>dEnd g st.1 st.2 (aq _) λh' x=>c h' s.toks λb o a e=>x b o (λh=>a (by simp[h])) e
 self:=λ_ _ _ _ st c=>Qr st.1 c
def dSrc(lo:(d==tf)=p6):KdlSrc prog w ↑69 d d es.size (λi v=>∃(h:i<es.size),v=es[i].key) (λh=>DAt h d es ep) where
 type:=λ_ m=>m.ty
 there:=λ_ m=>#[m.lt,m.lt]
 keep:=λ_ _ m b=>m.at λo e=>b d (.inl rfl) o e
 notList:=⋯
 notTuple:=⋯
 hint:=λ_ _ _ _ m a=>kdl_hint_dict m.ty a
 iter:=λ_ _ c m=>#[0,(λ_ _ a=>vP lo m a),BK c _\bB m.lt,#[#[_,bI _ rfl,5],m.at λo e=>aO _ e]]
end
def DKeys(H:Hp)(d:pR)(ks vs:List V):Prop:=
 (∃kvs,H d*>.dK kvs/\ks=kvs.map (λp=>kV p.1)/\vs=kvs.map (·.2)) \/
 ∃kvs as,H d*>.dT kvs/\Paired (λ(p:List Key×V) a=>H a*>.tup\p.1.map kV) kvs as/\ks=as.map V.ref/\vs=kvs.map (·.2)
def DIs(H:Hp)(d:pR):Prop:=(∃kvs,H d*>.dK kvs)\/∃kvs,H d*>.dT kvs
def dview(I:Inv X RC Z H s)(hd:DIs H d):
  (d==tf)=p6/\∃ks vs es ep,DKeys H d ks vs/\↑ks<=qs/\DAt s.heap d es ep/\Vals ks (es.toList.map (·.key))/\Vals vs (es.toList.map (·.val)):=by
 rcases hd with ⟨kvs,e⟩|⟨kvs,e⟩
 .let#[z,lo,us,rel,o,es,ep,h1,h2,f,_,n,_]:=ou I.hok e;erw[lo,0,es,ep,.inl #[kvs,e,5],by rw[av];show z,#[o,h1,h2,f],?_];generalize es.toList=l at n;let go:∀{kvs:List (Key×V)}{us:List (Key×pC)}{l:List vT},KV kvs us->Pairs (dw X.prog X.w) l us->Vals (kvs.map λp=>kV p.1) (l.map (·.key))/\Vals (kvs.map (·.2)) (l.map (·.val)):=by
   intro kvs us l r;induction r generalizing l with
   |nil=>intro p;cases p;erw[.nil,.nil]
   | @cons a b l1 l2 h1 h2 c=>
    intro p;cases p with
    |cons p1 p2 v=>
     let#[i1,i2]:=c v;erw[.cons ?_ i1,.cons ?_ i2]
     .dsimp only;rw[h1.1];rcases gD p1 with ⟨i,t,g,h⟩|⟨x,t,g,h⟩
      .rw[g,h];erw[t,1]
      rw[g,h];erw[t,1]
     dsimp only;rw[p2];show h1.2
  show go rel n
 let#[z,lo,xs,rel,o,es,ep,h1,h2,f,j,hz]:=Ca I.hok e;clear hz;let go:∀{kvs:List (List Key×V)}{xs:List (List Key×pR×pC)},KT H kvs xs->Paired (λ(p:List Key×V) a=>H a*>.tup\p.1.map kV) kvs (xs.map (·.2.1))/\Vals (kvs.map (·.2)) (xs.map (·.2.2)):=by
  intro kvs xs r;induction r with
  |nil=>erw[.nil,.nil]
  |cons h1 h2 c=>erw[.cons h1.2.1 c.1,.cons h1.2.2 c.2]
 let#[m,q]:=go rel;let u:=oS m;erw[lo,0,es,ep,.inr #[kvs,_,e,m,5],by rw[av,<-u];show z,#[o,h1,h2,f],?_,?_]
 .rw[j,cz,cz];clear j rel m q u;induction xs with
  |nil=>show .nil
  |cons x r c=>show .cons rfl c
 rw[j,cz];show q
abbrev rW(X:Cx):Cx:={X with A:=X.A.in1}
section
def Inv.toIn1(I:Inv X RC Z H s):Inv (rW X) RC Z H s:=
 #[#[I.ok.mod,I.ok.kind,I.ok.glob,I.ok.blt,I.ok.above,I.ok.inj,I.ok.has,I.ok.cab,I.ok.hd,I.ok.frames,I.ok.stk,I.ok.exf,I.ok.bs,I.ok.bsz,I.ok.noex,I.ok.exfs,I.ok.funs,I.ok.frf],I.os,I.bare,I.base,I.loc,I.cell,I.free,I.freeC,I.pin,I.hok,I.len]
def Inv.ofIn1(I:Inv (rW X) RC Z H s):Inv X RC Z H s:=
 #[#[I.ok.mod,I.ok.kind,I.ok.glob,I.ok.blt,I.ok.above,I.ok.inj,I.ok.has,I.ok.cab,I.ok.hd,I.ok.frames,I.ok.stk,I.ok.exf,I.ok.bs,I.ok.bsz,I.ok.noex,I.ok.exfs,I.ok.funs,I.ok.frf],I.os,I.bare,I.base,I.loc,I.cell,I.free,I.freeC,I.pin,I.hok,I.len]
end
section
def Av(K:Frag):V->List V->Hp->VK->Prop:=λx vs H Q=>∃(l:pR)(ys:List V)(ks:List\List Int),x=.ref l/\vs=[]/\H l*>.lst ys/\Ky K H ys ks/\↑ys<5000/\
 ∀(ix:List Nat),ix.Perm (List.range ↑ys)->(ix.map λi=>ks.getD i []).Pairwise (λa b=>HT.lexLt b a=p6)->Q .non\upd H l (.lst (ix.map λi=>ys.getD i .non))
def xB:MtM X "list.sort" (Av []):=by
 intro RC s Z H x vs v us Q I d f h;let#[l,ys,ks,5,c,g,hz,q]:=h;cases d;cases f;let#[z,j,n,r,hlen,e]:=I.lstM c;let B:=↑r;let#[κ,m,ask]:=BB I g r;let old:∀b o,s.heap.get? b*>o->o.cls=.type ↑20->(gK s.heap l j).get? b*>o:=λb o a p=>by
  show aO _\aO _ ?_;rw[sP _ _ _ _ (λy=>by rw[y,e] at a;cases a;show absurd (show Value.type ↑28 = Value.type ↑20 from p) ⋯)];show a
 show gA P8 #[_,e,1] P0 (yH (κ:=κ) (rk:=rkV s.heap) e (by rw[cY];lia) (λh2=>(ask _ old h2).1) (λh2=>(ask (E:=λ_ _=>False) _ old h2).2) λout p1 p2=>#[2,?_])\PQ _;let#[ix,x1,x2,w]:=vE r m p1 p2;let#[A,he]:=sortedHeap_at (out:=out.toArray) e;erw[.non,_,I.write (x:=l) (e:=l) (o:=.lst (ix.map λi=>ys.getD i .non)) (t':=s.toks) (by rw[c];show True.intro) (.inl rfl) (λb u a q=>(sortedHeap_old a\aJ q)<*q) #[_,he] #[by rw[av,x1.length_eq,mF,cY];lia,out,A,w,by rw[he]],1,q ix x1 x2]
end
def Tups.mono{K:Frag}{ks:List\List Int}(h:Tups K H ys ks)(k:∀a xs,H a*>.tup xs->H' a*>.tup xs)(kf:∀a o xs,H a*>.frz o (.tup xs)->H' a*>.frz o\.tup xs):Tups K H' ys ks:=by
 show Paired.mapP h λy z ⟨b,e,q,n⟩=>#[b,e,?_,n];rcases q with (q|⟨o,q⟩)|q
 .exact .inl\.inl (k>>q)
 .exact .inl\.inr #[o,kf _ _ _ q]
 show .inr q
def zm{K:Frag}{ks:List V}{Q:V->Hp->Prop}(c:H D=n7)
  (k:(∃ns:List Int,ks=ns.map V.int/\↑ns<5000/\∀(p:pR)(ms:List Int),H p=n7->ms.Perm ns->ms.Pairwise (·<=·)->Q (.ref p)\upd H p (.lst\ms.map V.int)) \/
   ∃d:List\List Int,Tups K H ks d/\↑ks<5000/\∀(p:pR)(ix:List Nat),H p=n7->ix.Perm (List.range ↑ks)->(ix.map λi=>d.getD i []).Pairwise (λa b=>HT.lexLt b a=p6)->Q (.ref p)\upd H p (.lst (ix.map λi=>ks.getD i .non))) :
  Av K (.ref D) [] (upd H D\.lst ks) λ_ H'=>Q (.ref D) H':=by
 rcases k with ⟨ns,g,f,q⟩|⟨d,h,f,q⟩
 .subst g;erw[D,6,aI,LR ns,by rw[av];show f,λix h1 h2=>?_];let#[ms,m1,m2,j]:=LZ h1 h2;rw[uI,j];show q D ms c m1 m2
 erw[D,ks,d,5,aI,.inr (h.mono (λb xs e=>by rw[ar\ao e c];show e) λb o xs e=>by rw[ar\ao e c];show e),f,λix h1 h2=>?_];rw[uI];show q D ix c h1 h2
section
def Lm(K:Frag):List V->Hp->VK->Prop:=λxs H Q=>∃a:pR,xs=[.ref a]/\DIs H a/\∀ks vs,DKeys H a ks vs->
 (∃ns:List Int,ks=ns.map V.int/\↑ns<5000/\∀(p:pR)(ms:List Int),H p=n7->ms.Perm ns->ms.Pairwise (·<=·)->Q (.ref p)\upd H p (.lst\ms.map V.int)) \/
 ∃c:List\List Int,Tups K H ks c/\↑ks<5000/\∀(p:pR)(ix:List Nat),H p=n7->ix.Perm (List.range ↑ks)->(ix.map λi=>c.getD i []).Pairwise (λa b=>HT.lexLt b a=p6)->Q (.ref p)\upd H p (.lst (ix.map λi=>ks.getD i .non))
def xP{α:Type}{l m:List α}(a:↑l=↑m)(h:∀(j:Nat)(v:α),l[j]?*>v->m[j]?*>v):l=m:=by
 show wx λi=>?_;cases e:l[i]? with
 |some v=>rw[h i v e]
 |none=>
  have:↑l<=i:=OO.mp e;show (OO.mpr ()).symm
def mW(l:X.calm=oD):c7 X (.builtin ↑55) (Lm []):=by
 intro RC s Z H xs us Q I r h;let#[a,1,hd,k]:=h;let#[u,1,n]:=Vals.one r;cases n;let#[lo,ks,vs,es,ep,p,hz,q,d,M]:=dview I hd;let#[m,F]:=I.fr;let w:↑ks=es.size:=by have:=↑d;simpa using this
 show kdu_sorted (dSrc (es:=es) (ep:=ep) lo) (I.ok.hd l) F (ux (g:=X.base) (L:=X.env.locals)) q (by rw[<-w];show hz) λD h' tk b x f y A B=>?_;let#[k1,k2]:=I.newsKept (t':=s.toks) (more:=[(D,listOf b.toArray 0)]) F x f;let c:=f (D,listOf b.toArray 0)\.head _;let i:s.heap.get? D=n7:=by
  cases e:s.heap.get? D with
  |none=>rfl
  |some o=>show absurd (y (D,o)\tP c.2.1 c.2.2 e)\dD _
 let ev:b=es.toList.map (·.key):=by show xP (by rw[A];simp) λj v e=>?_;let#[C,1]:=B j v e;rw[bu];simp[C]
 let E:Inv X RC Z (upd H D\.lst ks) {s with heap:=h',toks:=tk}:=I.laidN (t':=tk) k1 k2 i (λH'=>#[hz,b,(0),by rw[ev];show d,c.1]) (λ_ _ z=>by cases z);let z:=xB (X:=rW X) RC _ Z _ (.ref D) [] (.ref D) [] (λ_ H'=>Q (.ref D) H') E.toIn1 rfl .nil\zm (I.hok.none_of i) (k ks vs p);show thn z λ_ s' ⟨_,H',J,_,K⟩=>#[.ref D,H',J.ofIn1,1,K]
end
section
def Gw(x:V)(vs:List V)(H:Hp)(Q:VK)(l:pR)(xs:List V)(i:Nat)(y:V):Prop:=x=.ref l/\vs=[.int i,y]/\H l*>.lst xs/\i<=↑xs/\↑xs<qs/\WrO H l (.lst (xs.take i++y::xs.drop i))\Q .non
def Jo:V->List V->Hp->VK->Prop:=λx vs H Q=>Exists\Ex4 (Gw x vs H Q)
def Ke{i n:Nat}(hi:i<=n)(hz:n<qs):¬(!Builtin.List.listFitsIndex (i:Int))=oD:=by rw[cY] at hz;let f:=P2 (k:=(i:Int)) () ();intro y;rw[f] at y;cases y
def HM{prog:rp}{w:sf}{A:z3}{E:pC->pS->Prop}{Q:pC->pS->Prop}{l:pR}{a:Array pC}{n:Nat}{i:Int}{t:Tok}{b:pC}(c:s.TypeIs (Value.ref l) ↑28)(d:¬(!Builtin.List.listFitsIndex i)=oD)(hsz:a.size<=qs)
  (e:s.heap.get? l*>{cls:=.type ↑28,data:=.seq a n})
  (h:Q .none {s with heap:=s.heap.update l (Obj.mapSeq λxs=>(xs.extract 0 (if i<0 then (i+(xs.size:Int)).toNat else min i.toNat xs.size)).push b++xs.extract (if i<0 then (i+(xs.size:Int)).toNat else min i.toNat xs.size))}) :
  q7 (rb prog w) A (call (Value.builtin "list.insert") [Value.ref l,Value.int i t,b]) Q E s:=
 tI CY c PySem.F.entry_list_insert (PySem.F.args_list_insert_3 _ _ _) (QG l a n i t b d hsz) #[e,h]
def yy:MtM X "list.insert" Jo:=by
 intro RC s Z H x vs v us Q I d f h;let#[l,xs,i,y,5,b,hi,hz,q]:=h;cases d;let#[u,c,1,g,j]:=f.two;let#[t,1]:=g;let#[z,a,n,r,m,e]:=I.lstM b;let o:=Ke hi hz;let hsz:a.toArray.size<=sizeLine:=by rw[bJ,<-m];show z
 show HM (s:=s) #[_,e,1] o hsz e ?_;erw[.non,_,I.lset (its':=a.take i++c::a.drop i) b e ?_ (Vals.append (r.take i)\.cons j (r.drop i)) ?_,1,q.at]
 .let p:(if (i:Int)<0 then ((i:Int)+(a.toArray.size:Int)).toNat else min (i:Int).toNat a.toArray.size)=i:=by
   rw[Rx (),my,bJ];lia
  change ((a.toArray.extract 0 _).push c++a.toArray.extract _)=_;rw[p];let hd:(a.drop i).take (↑a-i)=a.drop i:=iY (by rw[eF];show aq _);simp[List.extract_eq_drop_take,hd]
 rw[bj,cv,bz,eF];lia
def Nv(K:Frag):List V->Hp->VK->Prop:=λxs H Q=>∃(a:pR)(ns:List Int),xs=[.ref a]/\SqL K H a (ns.map V.int)/\ns≠[]/\∀m,m∈ns->(∀n∈ns,n<=m)->Q (.int m) H
def nK(r:Vals xs us){i:Nat}{v:pC}(e:us[i]?*>v):∃x,xs[i]?*>x/\aC x v:=by
 let c:=↑r;let hi:i<↑xs:=by have:=(aN.mp e).1;lia
 let#[u,a,b]:=r.get (i:=i) (x:=xs[i]) (by simp[hi]);rw[e] at a;cases a;erw[_,by simp[hi],b]
def rg{ns:List Int}(r:Vals (ns.map V.int) us)(i:Nat)(v:pC)(e:us.toArray[i]?*>v):∃t,v=.int (ns.getD i 0) t:=by let#[x,a,b]:=nK r (i:=i) (v:=v) ‹e›;rw[bu] at a;let#[n,c,1]:=cA.mp a;let#[t,1]:=b;erw[t,by rw[List.getD,c];rfl]
def pF(b:X.calm=oD):c7 X (.builtin "max") (Nv []):=by intro RC s Z H xs us Q I r h;let#[a,ns,1,c,d,q]:=h;let#[u,1,e]:=Vals.one r;cases e;let#[l,f,p,hz]:=I.list c;let#[m,F]:=I.fr;show max_list_N (I.ok.hd b) F (ux (g:=X.base) (L:=X.env.locals)) p.isList (nj f) (hU.mpr d) λh' M t tk i j h1 h2=>?_;let#[k1,k2]:=I.newsKept (t':=tk) (more:=[]) F i j;erw[.int M,H,I.keptN (t':=tk) k1 k2,#[t,1],q M h1 h2]
def Nt(K:Frag):List V->Hp->VK->Prop:=λxs H Q=>∃(a:pR)(ns:List Int),xs=[.ref a]/\SqT K H a (ns.map V.int)/\ns≠[]/\∀m,m∈ns->(∀n∈ns,m<=n)->Q (.int m) H
def zV(ns:List Int)(b:ns≠[]):(ns.getD (yT (λi j=>decide (ns.getD i 0<ns.getD j 0)) (↑ns-1)) 0)∈ns/\∀n∈ns,ns.getD (yT (λi j=>decide (ns.getD i 0<ns.getD j 0)) (↑ns-1)) 0<=n:=by
 let#[h1,h2]:=argBest_lt (λi=>ns.getD i 0) (↑ns-1);let f:=hU.mpr b;erw[?_,λn c=>?_]
 .let a:yT (λi j=>decide (ns.getD i 0<ns.getD j 0)) (↑ns-1)<↑ns:=();rw[List.getD,aU a];show kq a
 let#[j,d,1]:=List.getElem_of_mem c;have:=h2 j ();let e:ns.getD j 0=ns[j]:=by simp[List.getD,d]
 rw[e] at this;show this
def DX(n:X.calm=oD):c7 X (.builtin "min") (Nt []):=by
 intro RC s Z H xs us Q I r h;let#[a,ns,1,w,j,q]:=h;let#[u,1,x]:=Vals.one r;cases x;let#[c,d,p,hz]:=I.tuple w;let l:s.heap.IsTuple a c.toArray:=p;let f:=↑d;rw[av] at f;let m:a<↥s:=by let#[_,e,_]:=p;show aJ e
 show call_min_walk\Qt l ?_;erw[↥s,8,8,1,Walks.tuple (A:=X.A.in1) (I.ok.hd n) _ a (bB m) c.toArray,#[#[_,bI _ rfl,5],?_],λb g=>?_,?_,Ow (λi=>ns.getD i 0) λi v e=>rg d i v e,λv h' tk y B=>?_]
 .let#[o,e,r]:=l;erw[o,aO _ e,r]
 .change b<(s.heap.push _).objs.size;rw[km];rcases aT.mp g with rfl|g
  .exact hV _
  rw[aG.mp g];show kB m
 .rw[bJ,<-f];show hU.mpr j
 let#[t,1]:=rg d _ v y;let#[C,D]:=zV ns j;let e:c.toArray.size-1=↑ns-1:=by rw[bJ,f]
 rw[e];erw[.int _,H,I.kept (t':=tk) λb o e=>B b o (λz=>by rw[aG.mp z] at e;show absurd (aJ e)\dD _)\aO _ e,#[t,1],q _ C D]
end
section
def Jl:List V->Hp->VK->Prop:=λxs H Q=>∃j:Int,xs=[.int j]/\∀r,H r=n7->Q (.ref r)\upd H r (.rng 0 j)
def DK:c7 X (.type "range") Jl:=by intro RC s Z H xs us Q I r h;let#[j,1,q]:=h;let#[u,1,t,1]:=Vals.one r;show call_range_1 #[.ref ↥s,upd H ↥s\.rng 0 j,I.laid (t':=s.toks+1+1) (λb o e=>aO _ e) (aq _) #[8,bI _ rfl],1,q _\I.hok.fresh (aq _)]
def Gv:List V->Hp->VK->Prop:=λxs H Q=>∃(a:pR)(n:Nat),xs=[.ref a]/\H a*>.rng 0 (n:Int)/\n<=1000/\∀l,H l=n7->Q (.ref l)\upd H l (.lst ((List.range n).map λ(i:Nat)=>V.int (i:Int)))
def xG(a:↑us=↑xs)(h:∀(j:Nat)(v:pC),us[j]?*>v->∃x,xs[j]?*>x/\aC x v):Vals xs us:=by
 induction xs generalizing us with
 |nil=>cases us with
  |nil=>show .nil
  |cons _ _=>simp at a
 |cons x xs b=>cases us with
  |nil=>simp at a
  |cons u us=>
   let#[y,e,r]:=h 0 u rfl;cases e;show .cons r (b ‹a› λj v e=>‹h (j+1) v ‹e››)
def DS(f:X.calm=oD):c7 X (.type ↑28) Gv:=by
 intro RC s Z H xs us Q I r h;let#[a,n,1,ha,A,q]:=h;let#[u,1,g]:=Vals.one r;cases g;let#[l,m,o,e]:=(show bh X.prog X.w H s.heap a (.rng 0 (n:Int)) from I.hok a _ ha);let p:IsRange s.heap a 0 (n:Int) 1 l m o:=e;let hsz:Builtin.Range.rangeSize 0 (n:Int) 1=(n:Nat):=by rw[rangeSize_one];split<;>lia
 show call_list_range (I.ok.hd f) p (small_one () () () ()) hsz () λh' tk acc c kp x it=>?_;let b:↥s<=↥s:=aq _;erw[.ref ↥s,upd H ↥s\.lst ((List.range n).map λ(i:Nat)=>V.int (i:Int)),I.laid (t':=tk) kp b #[by simp;rw[cY];lia,acc.toList,c,xG (by simp[it.1]) λj v d=>?_,by rw[x]],1,q _\I.hok.fresh b];let#[tv,y]:=it.2 j v ‹d›;let z:j<n:=by have:=(aN.mp d).1;rw[gg,it.1] at this;show this
 erw[.int (j:Int),by simp[z],tv,?_];rw[y];simp
def rAll(K:W.Frag):List V->Hp->VK->Prop:=λxs H Q=>∃(a:pR)(bs:List Bool),xs=[.ref a]/\SqL K H a (bs.map V.bl)/\Q (.bl\bs.all id) H
def DU(n:X.calm=oD):c7 X (.builtin "all") (rAll []):=by
 intro RC s Z H xs us Q I r h;let#[a,bs,1,w,q]:=h;let#[u,1,y]:=Vals.one r;cases y;let#[g,j,p,hz]:=I.list w;let l:=↑j;rw[av] at l;let c:=p.isList;let B:a<↥s:=by let#[_,e,_]:=c;show aJ e
 show call_all_walk\tJ c ?_;erw[↥s,0,8,(λi=>bs.getD i p6),1,C7 (A:=X.A.in1) (I.ok.hd n) _ a (bB B) g.toArray,#[#[_,bI _ rfl,5],c.push _],λi v s' K L C d=>?_,λh' tk D=>?_]
 .let#[x,m,f]:=nK j (i:=i) (v:=v) ‹C›;rw[bu] at m;let#[b,E,1]:=cA.mp m;cases f;have:bs.getD i p6=b:=by rw[List.getD,E];rfl
  dsimp only at d;rw[this] at d;show iB d
 let e:(List.range g.toArray.size).all (λi=>bs.getD i p6)=bs.all id:=by
  rw[bJ,<-l];let f:bs=(List.range ↑bs).map λi=>bs.getD i p6:=by show sV ∅ λi h1 h2=>?_;simp[h1]
  conv=>rhs;rw[f,OD]
  rfl
 rw[e];erw[.bl _,H,I.kept (t':=tk) λb o e=>D b o (λz=>by rw[aG.mp z] at e;show absurd (aJ e)\dD _)\aO _ e,1,q]
def E9:List V->Hp->VK->Prop:=λxs H Q=>∃(a:pR)(kvs:List (Key×V)),xs=[.ref a]/\Rd H a (.dK kvs)/\∀p,H p=n7->Q (.ref p)\upd H p (.dK kvs)
def DM:c7 X (.type ↑69) E9:=by intro RC s Z H xs us Q I r h;let#[a,kvs,1,ha,q]:=h;let#[u,1,b]:=Vals.one r;cases b;show Ii I ha λp s' c d=>#[.ref p,_,d,1,q p c]
end
mutual
inductive Dt (K:W.Frag) (H:Hp):V->vu->Prop
 |non:Dt K H .non .none
 |bl (b:Bool):Dt K H (.bl b)\.bool b
 |int (i:Int):Dt K H (.int i)\.int i
 |str (x:Str) (h:(PyData.str x).canLay0=oD):Dt K H (.str x)\.str x
 |lst {a:pR} {xs:List V} {ds:List vu} (h:SqL K H a xs) (r:Dts K H xs ds):Dt K H (.ref a)\.list ds
 |tup {a:pR} {xs:List V} {ds:List vu} (h:SqT K H a xs) (r:Dts K H xs ds):Dt K H (.ref a)\.tuple ds
inductive Dts (K:W.Frag) (H:Hp):List V->List vu->Prop
 |nil:Dts K H [] []
 |cons {x:V} {d:vu} {xs:List V} {ds:List vu} (h:Dt K H x d) (r:Dts K H xs ds):Dts K H (x::xs) (d::ds)
end
section
def Dts.reads(I:Inv X RC Z H s)(ds:List vu)(xs:List V)(us:List pC)(h:Dts [] H xs ds)(r:Vals xs us):∃as,ReadsAll s.heap us ds as:=
 Dts.rec (motive_1:=λv d _=>∀u,aC v u->∃as,Reads s.heap u d as) (motive_2:=λxs ds _=>∀us,Vals xs us->∃as,ReadsAll s.heap us ds as)
  (λu r=>by cases r;erw[_,.none]) (λb u r=>by cases r;erw[_,.bool b]) (λi u r=>by let#[t,1]:=r;erw[_,.int i t]) (λx _ u r=>by let#[t,1]:=r;erw[_,.str x t])
  (λh _ a u r=>by
   cases r;let#[g,f,#[o,n,e,c,_,dd],_]:=I.list h;let#[as,q]:=a _ f;erw[_,.list e c dd ‹q›])
  (λh _ a u r=>by
   cases r;let#[g,f,#[o,e,c,n,dd],_]:=I.tuple h;let#[as,q]:=a _ f;erw[_,.tuple e c dd ‹q›])
  (λu r=>by cases r;erw[_,.nil])
  (λ_ _ a j us r=>by
   cases r with
   |cons r rs=>
    let#[as,q]:=a _ r;let#[bs,p]:=j _ rs;erw[_,.cons q p]) h us r
def Dt.reads(I:Inv X RC Z H s)(d:vu)(v:V)(u:pC)(h:Dt [] H v d)(r:aC v u):∃as,Reads s.heap u d as:=by
 let#[as,q]:=Dts.reads I _ _ _ (.cons h .nil)\.cons r .nil;cases q with
 |cons q _=>erw[_,q]
def Dts.can(ds:List vu)(xs:List V)(h:Dts K H xs ds):PyData.canLayAll0 ds=oD:=
 Dts.rec (motive_1:=λv d _=>d.canLay0=oD) (motive_2:=λxs ds _=>PyData.canLayAll0 ds=oD) rfl (λ_=>rfl) (λ_=>rfl) (λ_ h=>h) (λ_ _ a=>a) (λ_ _ a=>a) rfl
  (λ_ _ a b=>by rw[PyData.canLayAll0,a,b];rfl) h
def Dt.can(d:vu)(v:V)(h:Dt K H v d):d.canLay0=oD:=by
 have:=Dts.can>>(.cons h .nil)
 rwa [PyData.canLayAll0,PyData.canLayAll0,Bool.and_true] at this
def NG(K:W.Frag)(neg:Bool)(x y:V)(H:Hp)(Q:VK)(d e:vu):Prop:=Dt K H x d/\Dt K H y e/\d.depth<=60/\Q (.bl (if neg then !PyData.eqv d e else PyData.eqv d e)) H
def ml(K:W.Frag)(neg:Bool):R2:=λx y H Q=>Exists\Ex2 (NG K neg x y H Q)
def min60{u a b:Nat}(h:u+64<vk)(h':a<=60):u+min a b<cLine:=by have:min a b<=a:=Nat.min_le_left _ _;lia
def vC(a:X.A.units+64<vk):OpR X (sD .Eq) (ml [] p6):=by intro RC s Z H x y v u Q I b c h;let#[d,e,hd,he,hz,q]:=h;let#[as,f]:=Dt.reads I d x v hd b;let#[bs,g]:=Dt.reads I e y u he c;show Q6 f g (Dt.can d x hd) (Dt.can e y he) (min60 a hz) #[.bl _,H,I,1,q]
def oi(a:X.A.units+64<vk):OpR X (sD .NotEq) (ml [] oD):=by intro RC s Z H x y v u Q I b c h;let#[d,e,hd,he,hz,q]:=h;let#[as,f]:=Dt.reads I d x v hd b;let#[bs,g]:=Dt.reads I e y u he c;show Q7 f g (Dt.can d x hd) (Dt.can e y he) (min60 a hz) #[.bl _,H,I,1,q]
def NC(K:W.Frag)(neg:Bool)(x y:V)(H:Hp)(Q:VK)(d:vu)(a:pR)(xs:List V)(ds:List vu):Prop:=Dt K H x d/\y=.ref a/\(SqL K H a xs\/SqT K H a xs)/\Dts K H xs ds/\d.depth<=60/\
 Q (.bl (if neg then !(ds.any λz=>PyData.eqv z d) else ds.any λz=>PyData.eqv z d)) H
def j_(K:W.Frag)(neg:Bool):R2:=λx y H Q=>Exists\Ex4 (NC K neg x y H Q)
def min61{u a b:Nat}(h:u+64<vk)(h':b<=60):u+1+min a b<cLine:=by have:min a b<=b:=CP _ _;lia
def By(f:X.A.units+64<vk):OpR X (sD .In) (j_ [] p6):=by
 intro RC s Z H x y v u Q I i j h;let#[d,a,xs,ds,hd,1,b,c,hz,q]:=h;cases j;let#[as,g]:=Dt.reads I d x v hd i;rcases b with b|b
 .let#[bs,e]:=Dt.reads I (.list ds) (.ref a) _ (.lst b c) rfl;show Q9 e g (Dts.can ds _ c) (Dt.can d x hd) (min61 f hz) #[.bl _,H,I,1,q]
 let#[bs,e]:=Dt.reads I (.tuple ds) (.ref a) _ (.tup b c) rfl;show Q_ e g (Dts.can ds _ c) (Dt.can d x hd) (min61 f hz) #[.bl _,H,I,1,q]
def tZ(f:X.A.units+64<vk):OpR X (sD .NotIn) (j_ [] oD):=by
 intro RC s Z H x y v u Q I i j h;let#[d,a,xs,ds,hd,1,b,c,hz,q]:=h;cases j;let#[as,g]:=Dt.reads I d x v hd i;rcases b with b|b
 .let#[bs,e]:=Dt.reads I (.list ds) (.ref a) _ (.lst b c) rfl;show Ra e g (Dts.can ds _ c) (Dt.can d x hd) (min61 f hz) #[.bl _,H,I,1,q]
 let#[bs,e]:=Dt.reads I (.tuple ds) (.ref a) _ (.tup b c) rfl;show Rb e g (Dts.can ds _ c) (Dt.can d x hd) (min61 f hz) #[.bl _,H,I,1,q]
end
section
def Inv.turnLaid{h':rq}{t':Nat}{a:pR}{o:HO}{ch:List pR}(I:Inv X RC Z H s)(h:∀b∈ch,bY X RC H b)(k:∀b o,b∉ch->s.heap.get? b*>o->h'.get? b*>o)
  (ha:s.heap.get? a=n7) (new:∀H',bh X.prog X.w H' h' a o):Inv X RC Z (upd H a o) {s with heap:=h',toks:=t'}:=by
 let f:H a=n7:=I.hok.none_of ha;let i:∀b u,H b*>u->b∉ch:=λb u e z=>by
  have:=(h b z).1;rw[this] at e;cases e
 show I.step (g':=s.gens) (d':=s.drawn) (ch:=ch) (λb g=>?_) (λb o _ _ d e _=>k b o d e) (λb o _ _ d e _=>#[o.slots,k b o d e]) (λb o _ e n=>?_) (λb o d e=>#[o,k b o d e]) (λb xs e=>?_) (λb o u e=>?_) (λb ps e=>#[(tA []),?_]) (λm hm=>?_) (λb u e=>?_) I.bare
 .let#[_,j,_,l,p,x]:=h b g;erw[l,j,p,x]
 .rw[ar (λz=>by rw[z,ha] at e;cases e)];show n
 .rw[ar\ao e f];show e
 .rw[ar\ao e f];show e
 .rw[ar\ao e f,e];simp
 .let#[o,es,ep,y,r]:=hm;erw[o,es,ep,k _ o (λz=>(h _ z).2.1 rfl) y,r]
 by_cases g:b=a
 .subst g;rw[aI] at e;cases e;show new _
 rw[ar g] at e;show (I.hok b u e).stay (λc v d q=>k c v ?_ q) (λc q=>by rw[ar\ao q f];show q) λc xs q=>by rw[ar\ao q f];show q
 rcases d with z|z
 .rw[z];show i b u e
 show i c _ z
end
def Ite(K:W.Frag)(a:pR):It:=
 #[λi H=>∃xs x,SqL K H a xs/\xs[i]?*>x,
  λi H v H'=>∃p x,H p=n7/\v=.ref p/\H'=upd H p (.tup [.int (i:Int),x])/\∀xs,SqL K H a xs->xs[i]?*>x,
  λi H=>∃xs,SqL K H a xs/\↑xs<=i]
def ET{elts:List ry}{x1}{pos:Pos}(a it e:pR)(B:e≠it):
  Turn P w K (.Tuple elts x1 pos) (Ite [] a) [e,it] e (λi h=>(∃old,IsEnum h e it (i:Int) old)/\h.IsListIter it a i) where
 mem:=∅
 obj:=λi h st b g=>by
  let#[#[old,f],o,N,c,d]:=st;rcases aT.mp g with z|z
  .subst z;erw[_,f,λv z=>by
    let O:Data.fields _=Data.cell v:=z;cases O]
  let z:b=it:=‹z›
  subst z;erw[o,N,λv z=>by rw[d] at z;cases z]
 keep:=λi h h' st k=>by
  let#[#[old,f],j]:=st;erw[#[old,k e ∅ _ f],j.at λo q=>k it ∅ o q]
 item:=by
  intro X n hw r C i RC s Z H E I hf st y;subst n hw r;let#[xs,x,m,hx]:=y;let#[#[old,f],j]:=st;let#[Q,A,p,hz]:=I.list m;let#[u,R,S]:=A.get hx;show wpAny_pyNext_enum_item f j p.isList (x:=u) ‹R› B λh1 T U Y an ab=>?_;erw[2,?_];show wpAny_letOwnedTupleGo_enum T λh2 ad l=>?_;replace l:Heap.SameBut e h1 h2:=l;let ag:s.heap.get? ↥s=n7:=jD\aq _;let D:e<↥s:=aJ f;let al:it<↥s:=by let#[_,q,_]:=j;show aJ q
  let hn:H ↥s=n7:=I.hok.fresh\aq _;let L:h2.get? ↥s*>{cls:=.type ↑20,data:=.seq\tA [.int i s.toks,u]}:=(l.2 _\kD D)<*Y;let I2:Inv X RC Z (upd H ↥s\.tup [.int (i:Int),x]) {s with heap:=h2,toks:=s.toks+1}:=by
   show I.turnLaid (ch:=[e,it]) hf (λb o g q=>?_) ag λH'=>?_
   .let M:b≠e:=λz=>g (by simp[z]);let am:b≠it:=λz=>g (by simp[z]);show (l.2 b M).trans\ab b o M am q
   erw[#[by simp;rw[cY];lia,_,L,1],[.int i s.toks,u],.cons #[2]\.cons S .nil,#[_,L,7]]
  erw[.ref ↥s,_,I2,1,#[↥s,x,hn,5,λys hy=>by rw[I.list_inj hy m];show hx],#[#[_,ad],?_],λb g=>?_]
  .let#[o,q1,q2]:=U;erw[o,(l.2 it\aA B)<*q1,q2]
  have:b≠↥s:=by
   rcases aT.mp g with z|z
   .rw[z];show bB D
   rw[(by simpa using z:b=it)];show bB al
  rw[ar this];show (hf b g).1
 done:=by intro X n hw r C i RC s Z H E I hf st y;subst n hw r;let#[xs,m,hx]:=y;let#[#[old,f],j]:=st;let#[Q,A,p,hz]:=I.list m;let#[f0,f1,f2,f3,f4,f5]:=hf it ∅;let hl:=↑A;show wpAny_pyNext_enum_end (I.ok.hd C) f j p.isList (by simp;lia) λh' eb=>#[1,I.turned (t':=s.toks) (λb o g q=>eb b o g q) f0 f1 f3 f4 f5]
 self:=λ_ _ _ _ _ st h=>by
  let#[#[old,f],_]:=st;show Qp f h
section
def Mb(K:W.Frag)(R:It->Hp->Prop)(vs:List V)(H1:Hp)(a:pR)(xs:List V):Prop:=vs=[.ref a]/\SqL K H1 a xs/\R (Ite K a) H1
def Ma(K:W.Frag)(R:It->Hp->Prop):List V->Hp->Prop:=λvs H1=>Exists\Ex2 (Mb K R vs H1)
def N0(K:W.Frag)(ta:TA):TI:=λZ H R=>ta Z H\Ma K R
def uT{elts:List ry}{x1}{tpos:Pos}{a:ry}{p pos:Pos}(f:Gl X ↑89)(hm:X.mg ↑89 = n7)(ha:PA X [a] ta)(g:r6 [a] X.env=[(p6,sZ a X.env)]:=by rfl):
  PI X (.Tuple elts x1 tpos) (.Call (.Name ↑89 p) [a] [] pos) (N0 [] ta):=by
 intro RC s Z H R I h;show Call_\jt I f hm boot_enumerate (oV (thn (ha pos RC s Z H _ I h) λus s1 ⟨vs,H1,c,i,j⟩=>?_) g rfl);let#[a,xs,e,l,q]:=j;subst e;let#[u,1,m]:=Vals.one i;cases m;let#[v,w,pl,hz]:=c.list l;show call_enumerate_list pl.isList λh' he hi hsz n=>?_;show Qp he ?_;let o:Inv X RC Z H1 {s1 with heap:=h'}:=c.kept (t':=s1.toks) n;erw[_,[↥s1+1,↥s1],0,H1,1,o,ET a _ _\Nat.succ_ne_self _,#[#[.none,he],hi],λb r=>?_,q];let d:↥s1<=b:=by
  rcases aT.mp r with z|z
  .rw[z];show mH _
  have:b=↥s1:=‹z›
  show wQ this.symm
 show c.fpOk d\c.hok.fresh d
end
section
variable {prog:Program}{d it v:Addr}{es:Array DictEntry}{ep i:Nat}
def Ml{Q:pC->pS->Prop}(a:s.heap.IsItemsView v d)(m:DAt s.heap d es ep)
  (q:Q (.ref ↥s) {s with heap:=s.heap.push {cls:=.type ↑15,data:=.fields\tA [.none,.bool p6,.ref d,.int 0 0,.int es.size 0,.int ep 0,.none,.none]}}):q7 (rb prog w) A (pyIter\.ref v) Q E s:=by
 let#[g,e,_,f]:=id a;let#[o,b,_,c]:=id m;show Qs a.typeIs Pj\gA Pj a.typeIs PySem.F.entry_dict_items_iter ?_ (PySem.F.args_dict_items_iter_1 _);unfold Builtin.«dict_items.__iter__» Builtin.Dict_items.dictOf Builtin.Dict_items.newIterator;show aa\ai (aa\aa (cD e f (x:=.ref d) rfl\ai (aa\aa (pd b c\aa (pf b c ?_)))));simp only[show Builtin.Dict_items.ownsTuple ↑15 = oD by decide,if_true];show eQ (ai #[2,↑15,_,#[_,bI _ rfl,1],tG.lookup,by simpa [vf,Builtin.Dict_items.ownedTupleFields] using q])
  (by simp only[sizeOk,Builtin.Dict_items.ownedTupleFields,bJ,bj,cv,kr];rw[cY];lia)
def Mj{x y:pC}{Q:Option pC->pS->Prop}(hit:IsItemIter s.heap it d i es.size ep x y)(m:DAt s.heap d es ep)(hi:i<es.size)
  (q:∀h',IsItemIterOut h' it d (i+1) es.size ep es[i].key es[i].val ↥s->h'.get? ↥s*>{cls:=.type ↑20,data:=.seq\tA [es[i].key,es[i].val]}->
   (∀b o,b≠it->s.heap.get? b*>o->h'.get? b*>o)->Q (oy\.ref ↥s) {s with heap:=h'}):q7 (rb prog w) A (wb\.ref it) Q E s:=by
 let#[a,g,f,tk,os]:=s;let#[od,L,_,M]:=id m;let ty:Shared.TypeIs #[a,g,f,tk,os] (.ref it) ↑15:=#[_,hit,1];unfold wb;show aa\i5 (jK (name:=Str.ofString "__next__") ty tG (gA tG ty Pe ?tree\Pb _));show aa\ai (aa\aa ?_)
 first|show aa (xl ty\ai (aa\kL hit rfl ?_))|show aa\xn ty (ai\aa (kL hit rfl ?_))
 simp only[show Builtin.Dict_items.ownsTuple ↑15 = oD by decide,if_true];show (show q7 _ _ (if (Value.ref d==Value.none)=oD then _ else _) _ _ _ from ?_);rw[Rx (show ¬(Value.ref d==Value.none)=oD from bG)];show aa\ai (aa\pd L M ?_);rw[Rx ∅];show aa\ai (aa\pf L M ?_);rw[Rx ∅];show ai ?_;simp only[show ¬((i:Int)<0) by lia,if_false,my,Ck hi];show aa ?_
 first|show aa (xl ty\ai (aa\xi ty ?_))|show aa\xn ty (ai\aa (xi ty ?_))
 show (show q7 _ _ (setField (.ref it) 3 (vf ((i:Int)+1)) >>= _) _ _ #[a,g,f,tk,os] from aa (pA hit ∅ λh1 h j=>?_));replace j:Heap.SameBut it a h1:=j;replace h:IsItemIter h1 it d (i+1) es.size ep x y:=by unfold IsItemIter;rw[show ((i+1:Nat):Int)=(i:Int)+1 by lia];simpa [vf] using h
 let N:Shared.TypeIs #[h1,g,f,tk,os] (.ref it) ↑15:=#[_,h,1];show aa\cX (aa\xi N (aa\xi N ?_));show (show q7 _ _ (Builtin.Dict_items.pairFromOwner (.ref it) 6 es[i].key es[i].val) _ _ #[h1,g,f,tk,os] from ?_);unfold Builtin.Dict_items.pairFromOwner;show aa\Dw ?_;let O:h1.objs.size=a.objs.size:=j.1;let lt:it<a.objs.size:=aJ hit;let ne:a.objs.size≠it:=kD lt;let#[h2,l,P,k2,R]:∃h2:rq,IsItemIter h2 it d (i+1) es.size ep x y/\h2.get? a.objs.size*>{cls:=.type ↑20,data:=.seq\tA [es[i].key,es[i].val]}/\(∀b o,b≠it->a.get? b*>o->h2.get? b*>o)/\
   h1.push {cls:=.type ↑20,data:=.seq\tA [es[i].key,es[i].val]}=h2:=
  #[_,aO _ h,by rw[<-O];show bI _ rfl,λb o c e=>aO _\j.extBut b o c e,1]
 show (show q7 _ _ (Builtin.Dict_items.ownedTupleIsFree (.ref it) >>= _) _ _ #[h1.push {cls:=.type ↑20,data:=.seq\tA [es[i].key,es[i].val]},g,f,tk,os] from ?_);rw[O,R];unfold Builtin.Dict_items.ownedTupleIsFree;show aa\aa (cD l rfl (x:=.none) rfl\ai ?_);simp only[if_true];show aa\cD l rfl (x:=x) rfl (aa\cD l rfl (x:=y) rfl (aa (pA l ∅ λp r u=>?_)));replace u:Heap.SameBut it h2 p:=u;replace r:IsItemIter p it d (i+1) es.size ep es[i].key y:=r;show aa (pA r ∅ λv z B=>?_);replace B:Heap.SameBut it p v:=B;replace z:IsItemIter v it d (i+1) es.size ep es[i].key es[i].val:=z;show aa (pA z ∅ λC D H=>?_);replace H:Heap.SameBut it v C:=H;replace D:IsItemIterOut C it d (i+1) es.size ep es[i].key es[i].val a.objs.size:=D;show aa (pA D ∅ λn I K=>?_);replace K:Heap.SameBut it C n:=K;replace I:IsItemIterOut n it d (i+1) es.size ep es[i].key es[i].val a.objs.size:=I;let up:∀b o,b≠it->h2.get? b*>o->n.get? b*>o:=λb o c e=>K.extBut b o c\H.extBut b o c (B.extBut b o c\u.extBut b o c e);show aa\pj (ai\ai #[2,ai (q n I (up _ _ ne P) λb o c e=>up b o c\k2 b o c e)])
def N9{x y:pC}{Q:Option pC->pS->Prop}(f:A.handled=n7)(hit:IsItemIter s.heap it d i es.size ep x y)(m:DAt s.heap d es ep)(hi:es.size<=i)
  (q:∀h',Heap.ExtBut it s.heap h'->Q n7 {s with heap:=h'}):q7 (rb prog w) A (wb\.ref it) Q E s:=by
 let#[od,c,_,e]:=id m;let ty:s.TypeIs (.ref it) ↑15:=#[_,hit,1];unfold wb;show aa\i5 (jK (name:=Str.ofString "__next__") ty tG (gA tG ty Pe ?tree\Pb _));show aa\ai (aa\aa ?_)
 first|show aa (xl ty\ai (aa\kL hit rfl ?_))|show aa\xn ty (ai\aa (kL hit rfl ?_))
 simp only[show Builtin.Dict_items.ownsTuple ↑15 = oD by decide,if_true];show (show q7 _ _ (if (Value.ref d==Value.none)=oD then _ else _) _ _ s from ?_);rw[Rx (show ¬(Value.ref d==Value.none)=oD from bG)];show aa\ai (aa\pd c e ?_);rw[Rx ∅];show aa\ai (aa\pf c e ?_);rw[Rx ∅];show ai ?_;simp only[show ¬((i:Int)<0) by lia,if_false,my,Oi hi];show aa ?_
 first|show aa (xl ty\ai ?_)|show aa\xn ty (ai ?_)
 show (show q7 _ _ (setField (.ref it) 2 .none >>= _) _ _ s from aa (gC hit rfl ∅ ?_));show (show q7 _ _ (newExc (.type ↑82) [] >>= _) _ _ _ from aa ?_);simp only[newExc,newTuple];show aa\eQ (aa (m:=firstArgMember _ _)\mP (a:=Value.none) (by first|rfl|(simp only[firstArgMember];rfl)) (eQ ?_ (by size_fits))) (by size_fits);simp only[raiseNew];show aa\Dq ?_;rw[show A.in1.handled=n7 from f];show aa\ai (xj ?_);show aa\Dr (b:=oD) (T:=↑82) #[_,bI _ rfl,1] De ?_;show ai\q _ (((Cm ..).extBut.push _).push _)
end
section
variable {d:Addr}{u:HO}
def eK:HO->Prop
 |.dK _=>True
 |.dT _=>True
 |_=>False
def eK.notT{u:HO}(h:eK u):(∀xs,u≠.tup xs)/\(∀o v,u≠.frz o v)/\(∀ps,u≠.tbl ps)/\∀y,u≠.own y:=by cases u<;>first|show False.elim h|erw[λ_ z=>(nomatch z),λ_ _ z=>(nomatch z),λ_ z=>(nomatch z),λ_ z=>(nomatch z)]
def Inv.freeze(I:Inv X RC Z H s)(hd:H d*>u)(g:eK u){o:Obj}(h:s.heap.get? d*>o):Inv X RC Z (upd H d\.frz o u) s:=by
 let#[a,i,j,l]:=g.notT;let ne:∀{b v},H b*>v->v≠u->b≠d:=λe z y=>z (by rw[y,hd] at e;show (eg e).symm);show I.step (h':=s.heap) (g':=s.gens) (d':=s.drawn) (t':=s.toks) (ch:=[]) (λ_ z=>nomatch z) (λb o _ _ _ e _=>e) (λb o _ _ _ e _=>#[o.slots,e]) (λb o _ _ n=>?_) (λb o _ e=>#[o,e]) (λb xs e=>?_) (λb o v e=>?_) (λb ps e=>#[(tA []),?_]) (λ_ m=>m) (λb v e=>?_) I.bare
 .rw[ar (λz=>by rw[z,hd] at n;cases n)];show n
 .rw[ar (ne e λz=>a xs z.symm)];show e
 .rw[ar (ne e λz=>i o v z.symm)];show e
 .rw[ar (ne e λz=>j ps z.symm),e];simp
 let st:∀{b v},bh X.prog X.w H s.heap b v->bh X.prog X.w (upd H d\.frz o u) s.heap b v:=λx=>
  x.stay (λ_ _ _ q=>q) (λc q=>by rw[ar (ne q λz=>l _ z.symm)];show q) λc xs q=>by rw[ar (ne q λz=>a xs z.symm)];show q
 by_cases f:b=d
 .subst f;rw[aI] at e;cases e;erw[h,st (I.hok>>hd)]
 rw[ar f] at e;show st\I.hok b v e
def Fz(H H2:Hp)(d:pR)(o:Obj)(u:HO):Prop:=(H d*>u\/H d*>.frz o u)/\eK u/\H2=upd H d\.frz o u
def Fz.at(f:Fz H H2 d o u):H2 d*>.frz o u:=by rw[f.2.2,aI]
def Fz.ne{b:pR}(f:Fz H H2 d o u)(h:b≠d):H2 b=H b:=by rw[f.2.2,ar h]
def Inv.fz(I:Inv X RC Z H s)(hd:Rd H d u)(a:eK u):∃o,s.heap.get? d*>o/\Fz H (upd H d\.frz o u) d o u/\Inv X RC Z (upd H d\.frz o u) s:=by
 rcases hd with hd|⟨o,hd⟩
 .let#[o,c]:=(I.hok d u hd).there;erw[o,c,#[.inl hd,a,1],I.freeze hd a c]
 let e:upd H d (.frz o u)=H:=by
  funext b;unfold upd;split
  .rename_i z;rw[z,hd]
  rfl
 erw[o,(I.hok d _ hd).1,#[.inr hd,a,1],by rw[e];show I]
def DKV(H:Hp)(u:HO)(ks vs:List V):Prop:=
 (∃kvs,u=.dK kvs/\ks=kvs.map (λp=>kV p.1)/\vs=kvs.map (·.2)) \/
 ∃kvs as,u=.dT kvs/\Paired (λ(p:List Key×V) a=>H a*>.tup\p.1.map kV) kvs as/\ks=as.map V.ref/\vs=kvs.map (·.2)
def om(I:Inv X RC Z H s)(hd:Rd H d u)(v:eK u):
  (d==tf)=p6/\∃ks vs es ep,DKV H u ks vs/\↑ks<=qs/\DAt s.heap d es ep/\Vals ks (es.toList.map (·.key))/\Vals vs (es.toList.map (·.val)):=by
 cases u<;>first|show False.elim v|skip
 case dK kvs=>
  let#[z,lo,us,rel,o,es,ep,h1,h2,e,_,m,_]:=fg I.hok hd;erw[lo,0,es,ep,.inl #[kvs,5,1],by rw[av];show z,#[o,h1,h2,e],?_];generalize es.toList=l at m;let go:∀{kvs:List (Key×V)}{us:List (Key×pC)}{l:List vT},KV kvs us->Pairs (dw X.prog X.w) l us->Vals (kvs.map λp=>kV p.1) (l.map (·.key))/\Vals (kvs.map (·.2)) (l.map (·.val)):=by
   intro kvs us l r;induction r generalizing l with
   |nil=>intro p;cases p;erw[.nil,.nil]
   | @cons a b l1 l2 h1 h2 c=>
    intro p;cases p with
    |cons p1 p2 y=>
     let#[i1,i2]:=c y;erw[.cons ?_ i1,.cons ?_ i2]
     .dsimp only;rw[h1.1];rcases gD p1 with ⟨i,t,f,g⟩|⟨x,t,f,g⟩
      .rw[f,g];erw[t,1]
      rw[f,g];erw[t,1]
     dsimp only;rw[p2];show h1.2
  show go rel m
 case dT kvs=>
  let#[z,lo,xs,rel,o,es,ep,h1,h2,e,h,hz]:=iO I.hok hd;clear hz;let go:∀{kvs:List (List Key×V)}{xs:List (List Key×pR×pC)},KT H kvs xs->Paired (λ(p:List Key×V) a=>H a*>.tup\p.1.map kV) kvs (xs.map (·.2.1))/\Vals (kvs.map (·.2)) (xs.map (·.2.2)):=by
   intro kvs xs r;induction r with
   |nil=>erw[.nil,.nil]
   |cons h1 h2 c=>erw[.cons h1.2.1 c.1,.cons h1.2.2 c.2]
  let#[j,n]:=go rel;let q:=oS j;erw[lo,0,es,ep,.inr #[kvs,2,j,5],by rw[av,<-q];show z,#[o,h1,h2,e],?_,?_]
  .rw[h,cz,cz];clear h rel j n q;induction xs with
   |nil=>show .nil
   |cons x r c=>show .cons rfl c
  rw[h,cz];show n
end
def Itk(d:pR)(o:Obj)(ks:List V):It:=
 #[λi H=>i<↑ks/\∃u,H d*>.frz o u,λi H x H'=>H'=H/\ks[i]?*>x,λi H=>↑ks<=i/\∃u,H d*>.frz o u]
def qx{o:Obj}{u:HO}{es:Array vT}{ep:Nat}(I:Inv X RC Z H s)(h:H d*>.frz o u)(x:o.ExactDict)(e:o.data=.dict es ep):DAt s.heap d es ep:=
 #[o,(I.hok d _ h).1,x,e]
def ES{tg:ry}{d it:pR}{o:Obj}{es:Array vT}{ep:Nat}(x:o.ExactDict)(e:o.data=.dict es ep)(r:Vals ks\es.toList.map (·.key)):
  Turn P w K tg (Itk d o ks) [it] it (λi h=>h.IsKeyIter it d i es.size ep) where
 mem:=∅
 obj:=λi h st b a=>by
  let e:b=it:=‹a›
  subst e;let#[o,e,c,d]:=st;erw[o,e,λv z=>by rw[d] at z;cases z]
 keep:=λi h h' st k=>st.at λo e=>k it ∅ o e
 item:=by
  intro X f hw g B i RC s Z H E I hf st j;subst f hw g;let#[hi,u,l]:=j;let M:↑ks=es.size:=by have:=↑r;simpa using this
  let#[y,C]:∃y,ks[i]?*>y:=#[ks[i],by simp[hi]];let#[z,hz,N]:=r.get C;let D:i<es.size:=();let O:z=es[i].key:=by rw[bu] at hz;simp[D] at hz;show hz.symm
  let#[m,n,Q,p,q,A]:=hf it ∅;show Cc st (qx I l x e) D λh' L sb=>?_;let R:Inv X RC Z H {s with heap:=h'}:=I.turned (t':=s.toks) (λb o a e=>(sb.2 b a)<*e) m n p q A;let#[o',S,T,d']:=id L;erw[2,rT (s:={s with heap:=h'}) S T d' ⋯ #[y,H,R,by rw[<-O];show N,#[1,C],L,λb a=>(hf b a).1]]
 done:=by
  intro X f hw g B i RC s Z H E I hf st j;subst f hw g;let#[hi,u,l]:=j;let M:↑ks=es.size:=by have:=↑r;simpa using this
  let#[m,n,Q,p,q,A]:=hf it ∅;show dEnd (I.ok.hd B) st (qx I l x e) () λh' U=>#[1,I.turned (t':=s.toks) (λb o a e=>U b o a e) m n p q A]
 self:=λ_ _ _ _ _ st h=>Qr st h
section
variable {tg:Expr}
def N4(td:TE):TI:=λZ H R=>td Z H λx H1=>∃(d:pR)(u:HO),x=.ref d/\Rd H1 d u/\eK u/\∀ks vs o H2,DKV H1 u ks vs->Fz H1 H2 d o u->R (Itk d o ks) H2
def BJ{es:Array vT}{o:Obj}(m:DAt h d es ep)(e:h.get? d*>o):o.ExactDict/\o.data=.dict es ep:=by let#[o',a,x]:=m;rw[e] at a;cases a;show x
def Ay(i:PE X l td):PI X tg l (N4 td):=by
 intro RC s Z H R I h;show thn (i RC s Z H _ I h) λv s1 j=>?_;let#[x,H1,c,m,n]:=j;let#[d,u,e,hd,f,q]:=n;subst e;cases m;let#[lo,ks,vs,es,ep,p,hz,g,rk,z]:=om c hd f;let#[o,r,fz,a]:=c.fz hd f;let#[ex,w]:=BJ g r;show vP lo g ?_;erw[↥s1,[↥s1],8,1,a.kept (t':=s1.toks) λb o e=>aO _ e,ES (d:=d) (o:=o) ex w rk,#[_,bI _ rfl,5],λb y=>?_,q ks vs o _ p fz];let e:b=↥s1:=‹y›
 subst e;show a.fpOk (aq _)\a.hok.fresh (aq _)
end
def q_(v d:pR):HO:=.ext λh=>h.IsItemsView v d
def Iti(d:pR)(o:Obj)(ks vs:List V):It:=
 #[λi H=>i<↑ks/\∃u,H d*>.frz o u,
  λi H v H'=>∃p x y,H p=n7/\v=.ref p/\H'=upd H p (.tup [x,y])/\ks[i]?*>x/\vs[i]?*>y,λi H=>↑ks<=i/\∃u,H d*>.frz o u]
def Ej{elts:List ry}{x1}{pos:Pos}{d it:pR}{o:Obj}{es:Array vT}{ep:Nat}{vs:List V}(x:o.ExactDict)(e:o.data=.dict es ep)(r:Vals ks\es.toList.map (·.key))(B:Vals vs\es.toList.map (·.val)):
  Turn P w K (.Tuple elts x1 pos) (Iti d o ks vs) [it] it (λi h=>∃a b,IsItemIter h it d i es.size ep a b) where
 mem:=∅
 obj:=λi h st b c=>by
  let e:b=it:=‹c›
  subst e;let#[0,st]:=st;erw[_,st,λv z=>by
   let f:Data.fields _=Data.cell v:=z;cases f]
 keep:=λi h h' st k=>let ⟨a,b,st⟩:=st;#[a,b,k it ∅ _ st]
 item:=by
  intro X g hw j C i RC s Z H E I hf st l;subst g hw j;let#[hi,u,m]:=l;let#[0,st]:=st;let Q:↑ks=es.size:=by have:=↑r;simpa using this
  let al:↑vs=es.size:=by have:=↑B;simpa using this
  let#[y,D]:∃y,ks[i]?*>y:=#[ks[i],by simp[hi]];let#[L,M]:∃y,vs[i]?*>y:=#[vs[i]'(),∅];let#[z,hz,R]:=r.get D;let#[f,n,S]:=B.get M;let p:i<es.size:=();let T:z=es[i].key:=by rw[bu] at hz;simp[p] at hz;show hz.symm
  let U:f=es[i].val:=by rw[bu] at n;simp[p] at n;show n.symm
  show Mj st (qx I m x e) p λh1 Y N k1=>?_;erw[2,wpAny_letOwnedTupleGo_items Y λh2 ab sb=>?_];replace sb:Heap.SameBut it h1 h2:=sb;let A:it<↥s:=aJ st;let ad:s.heap.get? ↥s=n7:=jD\aq _;let hn:H ↥s=n7:=I.hok.fresh\aq _;let I2:Inv X RC Z (upd H ↥s\.tup [y,L]) {s with heap:=h2}:=by
   show I.turnLaid (t':=s.toks) (ch:=[it]) hf (λb o c q=>?_) ad λH'=>?_
   .let O:b≠it:=λz=>c (by simp[z]);show (sb.2 b O).trans\k1 b o O q
   erw[#[by simp;rw[cY];lia,_,(sb.2 _\kD A)<*N,1],[es[i].key,es[i].val],.cons (by rw[<-T];show R)\.cons (by rw[<-U];show S) .nil,#[_,(sb.2 _\kD A)<*N,7]]
  erw[.ref ↥s,_,I2,1,#[↥s,y,L,hn,5,D,M],#[0,ab],λb c=>?_];let ag:b=it:=‹c›
  rw[ag,ar\bB A];show (hf it ∅).1
 done:=by
  intro X g hw j C i RC s Z H E I hf st l;subst g hw j;let#[hi,u,m]:=l;let#[0,st]:=st;let Q:↑ks=es.size:=by have:=↑r;simpa using this
  let#[f0,f1,f2,f3,f4,f5]:=hf it ∅;show N9 (I.ok.hd C) st (qx I m x e) () λh' eb=>#[1,I.turned (t':=s.toks) (λb o c e=>eb b o c e) f0 f1 f3 f4 f5]
 self:=λ_ _ _ _ _ st h=>by
  let#[0,st]:=st;show kcp_self st h
section
def Lr:V->List V->Hp->VK->Prop:=λx xs H Q=>∃(d:pR)(u:HO),x=.ref d/\xs=[]/\Rd H d u/\eK u/\∀v,H v=n7->Q (.ref v)\upd H v (q_ v d)
def HC:MtM X "dict.items" Lr:=by
 intro RC s Z H x xs v us Q I g rs h;let#[d,u,5,hd,i,q]:=h;cases g;cases rs;let#[lo,ks,vs,es,ep,j,hz,f,rk,l]:=om I hd i;show tI Pi f.ty PySem.F.entry_dict_items (PySem.F.args_dict_items_1 _) (S:=λA R s=>(∃es ep,DAt s.heap d es ep)/\R (.ok\.ret (.ref ↥s)) {s with heap:=s.heap.push {cls:=.type "dict_items",data:=.fields\tA [.ref d]}}) (.of_wp λprog w A R s h=>?_) #[#[es,ep,f],?_]
 .let#[#[es,ep,f],h]:=h;unfold Builtin.«dict.items» Builtin.Dict.noArgs;show aa\aa (Dx f.ty ?_);show (show q7 _ _ (pure d) _ _ s from ai ?_);show (show q7 _ _ (Builtin.Dict.showsAll d >>= _) _ _ s from ?_);unfold Builtin.Dict.showsAll;rw[Rx (show ¬(d==tf)=oD by rw[lo];simp)];show aa\ai (aa\eQ (ai #[2,h]))
 erw[.ref ↥s,_,I.laid (a:=↥s) (o:=q_ ↥s d) (t':=s.toks) (λb o e=>aO _ e) (aq _) #[#[_,bI _ rfl,5],#[_,bI _ rfl],λh1 h2 p k=>?_],1,q _\I.hok.fresh (aq _)];let#[o,e,c]:=p;erw[o,k o e,c]
def L_(td:TE):TI:=λZ H R=>td Z H λx H1=>∃(v d:pR)(u:HO),x=.ref v/\H1 v*>q_ v d/\Rd H1 d u/\eK u/\∀ks vs o H2,DKV H1 u ks vs->Fz H1 H2 d o u->R (Iti d o ks vs) H2
def GM{elts:List ry}{x1}{pos:Pos}(i:PE X l td):PI X (.Tuple elts x1 pos) l (L_ td):=by
 intro RC s Z H R I h;show thn (i RC s Z H _ I h) λv s1 j=>?_;let#[x,H1,a,m,n]:=j;let#[v,d,u,e,p,hd,f,q]:=n;subst e;cases m;let r:s1.heap.IsItemsView v d:=(show bh X.prog X.w H1 s1.heap v (q_ v d) from a.hok v _ p).1;let#[lo,ks,vs,es,ep,y,hz,g,rk,z]:=om a hd f;let#[o,A,fz,c]:=a.fz hd f;let#[ex,B]:=BJ g A;show Ml r g ?_;erw[↥s1,[↥s1],8,1,c.kept (t':=s1.toks) λb o e=>aO _ e,Ej (d:=d) (o:=o) ex B rk z,#[0,bI _ rfl],λb C=>?_,q ks vs o _ y fz];let e:b=↥s1:=‹C›
 subst e;show c.fpOk (aq _)\c.hok.fresh (aq _)
end
section
def p_(v d:pR):HO:=.ext λh=>h.IsValuesView v d
def Ji:V->List V->Hp->VK->Prop:=λx xs H Q=>∃(d:pR)(kvs:List (Key×V)),x=.ref d/\xs=[]/\Rd H d (.dK kvs)/\∀v,H v=n7->Q (.ref v)\upd H v (p_ v d)
def Fo:MtM X "dict.values" Ji:=by intro RC s Z H x xs v us Q I f rs h;let#[d,kvs,5,hd,q]:=h;cases f;cases rs;let#[z,lo,vs,rel,dd]:=fg I.hok hd;show mL Pn dd.typeIs PySem.F.entry_dict_values (PySem.F.args_dict_values_1 _) (meets_dict_values (dw X.prog X.w) d lo) #[#[_,dd],?_];erw[.ref ↥s,_,I.laid (a:=↥s) (o:=p_ ↥s d) (t':=s.toks) (λb o e=>aO _ e) (aq _) #[#[_,bI _ rfl,5],#[_,bI _ rfl],λh1 h2 p k=>?_],1,q _\I.hok.fresh (aq _)];let#[o,e,c]:=p;erw[o,k o e,c]
def E8:List V->Hp->VK->Prop:=λxs H Q=>∃(v d:pR)(kvs:List (Key×V)),xs=[.ref v]/\H v*>p_ v d/\Rd H d (.dK kvs)/\∀l,H l=n7->Q (.ref l)\upd H l (.lst\kvs.map (·.2))
def DL(n:X.calm=oD):c7 X (.type ↑28) E8:=by
 intro RC s Z H xs us Q I r h;let#[v,d,kvs,1,x,hd,q]:=h;let#[u,1,A]:=Vals.one r;cases A;let B:s.heap.IsValuesView v d:=(show bh X.prog X.w H s.heap v (p_ v d) from I.hok v _ x).1;let#[z,lo,vs,rel,dd]:=fg I.hok hd;let C:↑kvs=↑vs:=↑rel;let#[ep,D]:=dd.dictAt;show kdl_call (kdl_values (knd:=dw X.prog X.w) (r:=v) (d:=d) (kvs:=vs) (ep:=ep)) (I.ok.hd n) #[B,D] () λh' tk acc c kp e it=>?_;let f:↥s<=↥s:=aq _;erw[.ref ↥s,_,I.laid (t':=tk) (o:=.lst\kvs.map (·.2)) kp f #[by rw[av];show z,acc.toList,c,xG (by rw[av,C];simp[it.1]) λj y E=>?_,by rw[e]],1,q _\I.hok.fresh f];let#[k,g]:=it.2 j y ‹E›;let i:j<↑kvs:=by have:=(aN.mp g).1;lia
 erw[kvs[j].2,by simp[i],?_];let at_:∀{l:List (Key×V)}{m:List (Key×pC)}{j:Nat}{p:Key×V}{q:Key×pC},KV l m->l[j]?*>p->m[j]?*>q->aC p.2 q.2:=by
  intro l m j p q r;induction r generalizing j with
  |nil=>intro e;simp at e
  |cons h1 h2 K=>
   intro a b;cases j with
   |zero=>simp at a b;subst a b;show h1.2
   |succ j=>show K ‹a› ‹b›
 show at_ rel (by simp[i]:kvs[j]?*>kvs[j]) g
def Jk:V->List V->Hp->VK->Prop:=λx xs H Q=>∃(d:pR)(kvs:List (Key×V))(k:Key)(z:V),x=.ref d/\xs=[kV k,z]/\H d*>.dK kvs/\↑kvs<qs/\
 (∀v,bp kvs k*>v->Q v H)/\(bp kvs k=n7->Q z\upd H d (.dK\cQ kvs k z))
def DP:MtM X "dict.setdefault" Jk:=by
 intro RC s Z H x xs v us Q I f rs h;let#[d,kvs,k,z,5,hd,hz,g,i]:=h;cases f;let#[u,j,1,l,b]:=rs.two;let#[A,lo,vs,rel,dd]:=ou I.hok hd;let B:↑kvs=↑vs:=↑rel;let a:=rel.val k;show mL Pm dd.typeIs PySem.F.entry_dict_setdefault (PySem.F.args_dict_setdefault_3 _ _ _) (kt_meets_setdefault (dw X.prog X.w) d (ip l) lo j) #[vs,dd,(),λv m=>?_,λn h' c o=>?_]
 .rw[m] at a;cases e:bp kvs k with
  |none=>rw[e] at a;show False.elim a
  |some y=>
   rw[e] at a;erw[y,H,I.tok _,a,g y e]
 rw[n] at a;cases e:bp kvs k with
 |some y=>rw[e] at a;show False.elim a
 |none=>
  let p:↑(cQ kvs k z)<=sizeLine:=by have:=ng kvs k z;lia
  let he:∃q,h'.get? d*>q:=let ⟨q,_,_,r,_⟩:=c;#[q,r];erw[z,_,n6 I (by rw[hd];show True.intro) o he\oo p lo (rel.put k b) c,b,i e]
end
section
def Nu:List V->Hp->VK->Prop:=λxs H Q=>∃(d:pR)(kvs:List (Key×V))(ns:List Int),xs=[.ref d]/\Rd H d (.dK kvs)/\kvs.map (λp=>kV p.1)=ns.map V.int/\ns≠[]/\∀m,m∈ns->(∀n∈ns,m<=n)->Q (.int m) H
def LX(es:Array vT){i:Nat}(hi:i<es.size):(es.toList.map (·.key)).toArray[i]?*>es[i].key:=by simp[hi]
def xu(j:X.calm=oD):c7 X (.builtin "min") Nu:=by
 intro RC s Z H xs us Q I r h;let#[d,kvs,ns,1,hd,l,f,q]:=h;let#[u,1,m]:=Vals.one r;cases m;let#[lo,ks,vs,es,ep,n,hz,a,rk,E]:=om I hd (u:=.dK kvs) trivial;let p:ks=ns.map V.int:=by
  rcases n with ⟨K,e,w,_⟩|⟨_,_,e,_⟩
  .cases e;rw[w,l]
  cases e
 subst p;let g:↑ns=es.size:=by have:=↑rk;simpa using this
 show call_min_walk\vP lo a ?_;erw[↥s,8,8,1,BK (A:=X.A.in1) (es:=es) (ep:=ep) (d:=d) (I.ok.hd j) _\bB a.lt,#[#[_,bI _ rfl,5],a.at λo e=>aO _ e],λb c=>?_,?_,Ow (λi=>ns.getD i 0) λi v e=>?_,λv h' tk x y=>?_]
 .change b<(s.heap.push _).objs.size;rw[km];rcases aT.mp c with rfl|c
  .exact hV _
  rw[aG.mp c];show kB a.lt
 .rw[<-g];show hU.mpr f
 .let#[hi,1]:=e;show rg rk i _ (by simp[hi])
 let#[hi,1]:=x;let#[t,B]:=rg rk _ _\LX es hi;let#[C,D]:=zV ns f;let e:es.size-1=↑ns-1:=by rw[g]
 erw[.int _,H,I.kept (t':=tk) λb o e=>y b o (λz=>by rw[aG.mp z] at e;show absurd (aJ e)\dD _)\aO _ e,#[t,B],?_];rw[e];show q _ C D
end
open PySem.SeqAt in
def DG(l:pR)(items:Array pC)(n:Nat)(dd:Option pR)(sl:Array\Option pC)(x:pC)(e:Nat->Bool)(j:Nat)(v:j<items.size)(hit:e j=oD)(f:∀m,m<j->e m=p6):
  Meets (Builtin.«tuple.index» #[[.ref l,x],[]])
   (λA R s=>s.heap.get? l*>{cls:=.type ↑20,dict:=dd,data:=.seq items n,slots:=sl}/\(∀m (h:m<items.size),EqAt A.in1 s items[m] x\e m)/\R (.ok\.ret (.int j s.toks)) {s with toks:=s.toks+1}):=
 .of_wp λprog w A R s h=>by
  let#[o,g,d,tk,os]:=s;let#[p,he,h]:=h;unfold Builtin.«tuple.index»;simp only[Rw]
  wp_walk using QH p,Qi _ (λrest b s'=>b.1=n7/\s'=#[o,g,d,tk,os]/\∃i,i<=j/\rest=List.range' i (items.size-i)) _
  case turn=>
   rintro y rest b s' ⟨B,rfl,i,q,a⟩;let r:items.size-i=(items.size-(i+1))+1:=();rw[r,List.range'_succ] at a;injection a with h1 h2;subst h1;let c:y<items.size:=();let u:items[y]?*>items[y]:=by simp[c]
   rw[u];show aa\he y c prog w _ _ ?_;by_cases z:y=j
   .subst z;rw[hit]
    wp_walk
    erw[2,h]
   rw[f y ()]
   wp_walk
   erw[5,y+1,(),h2]
  case fin=>
   rintro b s' ⟨_,_,i,q,a⟩;have:=congrArg List.length a;simp at this;lia
  case h=>
   erw[5,(0),a_ _,by simp[Std.Legacy.Range.size]]
section
def Jp(K:Frag):V->List V->Hp->VK->Prop:=λx vs H Q=>∃(a:pR)(xs:List V)(ds:List vu)(y:V)(d:vu)(j:Nat),x=.ref a/\vs=[y]/\SqT K H a xs/\Dts K H xs ds/\Dt K H y d/\d.depth<=60/\
 j<↑ds/\PyData.eqv (ds.getD j .none) d=oD/\(∀m,m<j->PyData.eqv (ds.getD m .none) d=p6)/\Q (.int (j:Int)) H
def yz(z:X.A.units+64<vk):MtM X "tuple.index" (Jp []):=by
 intro RC s Z H x vs v us Q I B C h;let#[a,xs,ds,y,d,j,5,D,f,hd,hz,T,E,K,q]:=h;cases B;let#[u,1,L]:=C.one;let#[b,rs,p,hsz]:=I.tuple D;let#[as,g]:=Dts.reads I ds xs b f rs;let#[bs,M]:=Dt.reads I d y u hd L;let U:↑b=↑ds:=Q5 _ _ _ g;let#[#[cls,dd,data,sl],i,l,n,o]:=id p;simp only at l o;subst l o;show tI CZ #[_,i,1] PySem.F.entry_tuple_index (PySem.F.args_tuple_index_2 _ _) (DG a b.toArray n dd sl u (λm=>PyData.eqv (ds.getD m .none) d) j (by simp;lia) E K) #[i,λm hm=>?_,?_]
 .let Y:m<↑ds:=by rw[bJ] at hm;lia
  let#[e,cs,N,O,hle]:∃e cs,PySem.Reads s.heap b.toArray[m] e cs/\e.canLay0=oD/\e=ds.getD m .none:=by
   let go:∀(ds:List vu)(b:List pC)(as:List pR)(m:Nat)(h:m<↑b),ReadsAll s.heap b ds as->PyData.canLayAll0 ds=oD->∃cs,PySem.Reads s.heap b[m] (ds.getD m .none) cs/\(ds.getD m .none).canLay0=oD:=by
    intro ds;induction ds with
    |nil=>intro b as m h r _;cases r;simp at h
    |cons d ds P=>
     intro b as m h r c;let w:d.canLay0=oD/\PyData.canLayAll0 ds=oD:=by simpa [PyData.canLayAll0] using c
     cases r with
     |cons R S=>
      cases m with
      |zero=>erw[_,R,w.1]
      |succ m=>show P _ _ m ‹h› S w.2
   let#[cs,h1,h2]:=go ds b as m ‹hm› g (Dts.can ds _ f);erw[_,cs,‹h1›,h2,1]
  rw[<-hle];show Q8 e d X.A.in1 s _ _ _ _ N M O (Dt.can d y hd) ?_;change X.A.units+1+min _ _<vk;show min61 z hz
 erw[.int (j:Int),H,I.tok _,#[2],q]
end
section
variable {prog:Program}{R:Result->Shared->Prop}{I:Addr}{fp wr:List Addr}{n:Nat}{P:Nat->Value->Prop}{St:Nat->Heap->Prop}{OK:Heap->Prop}
def vU(prog:rp)(w:sf)(A:z3)(OK:rq->Prop)(P:Nat->pC->Prop)(c:Nat->Nat->Bool):Prop:=
 ∀i j a b (s:pS) (Q:pC->pS->Prop) (E:pC->pS->Prop),OK s.heap->P i a->P j b->Q (.bool\c i j) s->q7 (rb prog w) A (richCompare .Lt a b) Q E s
def EC(W:Walks prog w A.in1 I fp wr n P St)(i:Nat->Nat->Bool)(N:vU prog w A.in1 OK P i)(S:pR)(E:S∉fp)
  (ok:∀h h':rq,OK h->(∀b o,b∉wr->b≠S->h.get? b*>o->h'.get? b*>o)->OK h') :
  ∀(k j:Nat)(s:pS)(d:pC)(c:Nat),n-(j+1)=k->j+1<=n->OK s.heap->St (j+1) s.heap->P (yT i j) d->
  s.heap.get? S*>{cls:=.type ↑28,dict:=n7,data:=.seq (tA [d,d]) c,slots:=(tA [])}->
  (∀v h' tk,P (yT i (n-1)) v->(∀b o,b∉wr->b≠S->s.heap.get? b*>o->h'.get? b*>o)->R (.ok\.ret v) {s with heap:=h',toks:=tk})->
  vc (rb prog w) A (.builtin "min.loop" #[[.ref I,.none,.ref S],[]]) R s:=by
 let nw:S∉wr:=λh=>E\W.sub _ h;let nm:(toString "min"++toString ".loop" : String) = "min.loop":=⋯;intro k;induction k with
 |zero=>
  intro j s d c O Q H r m l p;let z:j+1=n:=();show iA CV ?_;rw[iU mJ _];show (show q7 _ A.in1 (seqItems? (.ref S) >>= _) _ _ s from aa\pk l rfl ?_);show (show q7 _ A.in1 (tryCatch (wb\.ref I) _ >>= _) _ _ s from aa\tL (W.done s _ _ (z ▸ r) λh' tk f=>?_));show (show q7 _ A.in1 (updateSeq S (λ_=>(tA [])) >>= _) _ _ _ from aa\mT (f S _ nw l) rfl (aa\pj (ai ?_)));show p d _ tk (by rw[<-z];show m) λb o g a e=>(dY>>(aA a)).trans\f b o g e
 |succ k K=>
  intro j s d c O Q H r m l p;let lt:j+1<n:=();show iA CV ?_;rw[iU mJ _];show (show q7 _ A.in1 (seqItems? (.ref S) >>= _) _ _ s from aa\pk l rfl ?_);show (show q7 _ A.in1 (tryCatch (wb\.ref I) _ >>= _) _ _ s from aa\tL (W.item (j+1) s _ _ lt r λv h' tk L M f=>?_));let u:=f S _ nw l;let h1:OK h':=ok _ _ H λb o q _ e=>f b o q e;show (show q7 _ A.in1 (tryCatch (holding [v,v] (richCompare .Lt v d >>= _)) _ >>= _) _ _ _ from aa\tL (cX\aa (N (j+1) (yT i j) v d _ _ _ h1 L m ?_)));show aa\cX (iB\aa (pj\ai ?_));cases q:i (j+1) (yT i j) with
  |true=>
   simp only[if_true];show aa\mT u rfl (aa\pj ?_);rw[nm];let up:∀b o,b≠S->h'.get? b*>o->(h'.update S (Obj.mapSeq λ_=>(tA [v,v]))).get? b*>o:=λb o a e=>(dY>>(aA a))<*e;show ai #[iZ mJ _,K (j+1) _ v _ () lt (ok _ _ h1 λb o _ a e=>up b o a e) (W.frame _ _ _ M λb T o e=>up b o (λh=>E (by rw[<-h];show T)) e) (by simp only[yT,q,if_true];show L) (fh _ u rfl)
    λx y B C D=>p x y B C λb o g a e=>D b o g a\up b o a (f b o g e)]
  |false=>
   simp only[jC,if_false];show aa\pj ?_;rw[nm];show ai #[iZ mJ _,K (j+1) _ d c () lt h1 M (by simp only[yT,q,jC,if_false];show m) u λx y B C D=>p x y B C λb o g a e=>D b o g a\f b o g e]
def Ea(W:Walks prog w A.in1 I fp wr n P St)(d:Nat->Nat->Bool)(p:vU prog w A.in1 OK P d)(S:pR)(f:S∉fp)(ok:∀h h':rq,OK h->(∀b o,b∉wr->b≠S->h.get? b*>o->h'.get? b*>o)->OK h')(i:0<n){c:Nat}(q:OK s.heap)(r:St 0 s.heap)
  (j:s.heap.get? S*>{cls:=.type ↑28,dict:=n7,data:=.seq (tA []) c,slots:=(tA [])})
  (u:∀v h' tk,P (yT d (n-1)) v->(∀b o,b∉wr->b≠S->s.heap.get? b*>o->h'.get? b*>o)->R (.ok\.ret v) {s with heap:=h',toks:=tk}) :
  vc (rb prog w) A (.builtin "min.loop" #[[.ref I,.none,.ref S],[]]) R s:=by
 let nw:S∉wr:=λh=>f\W.sub _ h;let nm:(toString "min"++toString ".loop" : String) = "min.loop":=⋯;show iA CV ?_;rw[iU mJ _];show (show q7 _ A.in1 (seqItems? (.ref S) >>= _) _ _ s from aa\pk j rfl ?_);show (show q7 _ A.in1 (tryCatch (wb\.ref I) _ >>= _) _ _ s from aa\tL (W.item 0 s _ _ i r λv h' tk x y g=>?_));let l:=g S _ nw j;let h1:OK h':=ok _ _ q λb o z _ e=>g b o z e;show (show q7 _ A.in1 (updateSeq S (λ_=>(tA [v,v])) >>= _) _ _ _ from aa\mT l rfl ?_);rw[nm];let up:∀b o,b≠S->h'.get? b*>o->(h'.update S (Obj.mapSeq λ_=>(tA [v,v]))).get? b*>o:=λb o a e=>(dY>>(aA a))<*e;show ai #[iZ mJ _,EC W d p S f ok _ 0 _ v _ rfl i (ok _ _ h1 λb o _ a e=>up b o a e) (W.frame _ _ _ y λb B o e=>up b o (λh=>f (by rw[<-h];show B)) e) x (fh _ l rfl)
  λC D E H K=>u C D E H λb o m a e=>K b o m a\up b o a (g b o m e)]
end
section
variable {prog:Program}
def EK{x:pC}{Q:pC->pS->Prop}{OK:rq->Prop}
  (h:q7 (rb prog w) A.in1 (pyIter x) (λit s₂=>∃I fp wr n P St a,it=.ref I/\Walks prog w A.in1 I fp wr n P St/\St 0 s₂.heap/\OK s₂.heap/\(∀S,↥s₂<=S->∀h h':rq,OK h->(∀b o,b∉wr->b≠S->h.get? b*>o->h'.get? b*>o)->OK h')/\(∀b∈fp,b<↥s₂)/\0<n/\vU prog w A.in1 OK P a/\
   ∀v h' tk,P (yT a (n-1)) v->(∀b o,b∉wr->s₂.heap.get? b*>o->h'.get? b*>o)->Q v {s₂ with heap:=h',toks:=tk}) E s) :
  q7 (rb prog w) A (call (.builtin "min") [x]) Q E s:=by
 let nm:(toString "min"++toString ".loop" : String) = "min.loop":=⋯;show call_function_tree PySem.F.kind_min PySem.F.plain_min PySem.F.entry_min (PySem.F.args_min1 _) ?_;show (show q7 _ A.in1 (Builtin.Builtins.bindParams "min" ["key","default"] 0 #[[],[]] >>= _) _ _ s from aa\mP (show Builtin.Builtins.bindParams "min" ["key","default"] 0 #[[],[]]=pure [n7,n7] from rfl) (aa\ai ?_));show aa (bZ h (λit s2 h2=>?_) λ_ _ e=>e);let#[I,fp,wr,n,P,St,a,1,W,c,d,ok,f,g,i,j]:=h2;let l:↥s2∉fp:=λhm=>dD _\f _ hm;show aa\eQ ?_;rw[nm];let pu:∀b o,s2.heap.get? b*>o->(s2.heap.push {cls:=.type ↑28,data:=.seq\tA []}).get? b*>o:=λb o e=>aO _ e;show ai #[iZ mJ _,Ea W a i ↥s2 l (ok _\aq _) g (ok _ (aq _) _ _ d λb o _ _ e=>pu b o e) (W.frame _ _ _ c λb _ o e=>pu b o e) (bI _ rfl) λv h' tk m p=>?_];show j v h' tk m λb o q e=>p b o q (bB\aJ e)\pu b o e
end
def yI:∀a:List Int,HT.lexLt a a=p6
 | []=>rfl
 |x::r=>by
  unfold HT.lexLt;simp[yI r]
def zN:∀a b c:List Int,HT.lexLt a b=oD->HT.lexLt b c=oD->HT.lexLt a c=oD
 | [],[],_,h,_=>nomatch h
 | [],_::_,[],_,h=>nomatch h
 | [],_::_,_::_,_,_=>rfl
 |_::_,[],_,h,_=>nomatch h
 |_::_,_::_,[],_,h=>nomatch h
 |x::r,y::t,z::u,h1,h2=>by
  unfold HT.lexLt at h1 h2 |-;let d:=zN r t u;by_cases e:x=y<;>by_cases f:y=z<;>by_cases g:x=z<;>simp_all<;>lia
def AY(a:Nat->Nat->Bool)(c:∀i,a i i=p6)(tr:∀i j k,a i j=oD->a j k=oD->a i k=oD):∀m,yT a m<=m/\∀j,j<=m->a j (yT a m)=p6
 |0=>#[aq _,λj d=>by
  have:j=0:=();subst this;show c 0]
 |m+1=>by
  let#[h1,h2]:=AY a c tr m;cases b:a (m+1) (yT a m) with
  |true=>
   let e:yT a (m+1)=m+1:=by simp only[yT,b,if_true]
   rw[e];erw[aq _,λj d=>?_];by_cases z:j=m+1
   .rw[z];show c _
   cases q:a j (m+1) with
   |false=>rfl
   |true=>
    have:=tr _ _ _ q b;rw[h2 j ()] at this;cases this
  |false=>
   let e:yT a (m+1)=yT a m:=by simp only[yT,b,jC,if_false]
   rw[e];erw[(),λj d=>?_];by_cases z:j=m+1
   .rw[z];show b
   show h2 j ()
section
def Lo(K:Frag):List V->Hp->VK->Prop:=λxs H Q=>∃(a:pR)(ys:List V)(b:List\List Int),xs=[.ref a]/\SqL K H a ys/\Tups K H ys b/\ys≠[]/\
 ∀i y,ys[i]?*>y->(∀j,j<↑ys->HT.lexLt (b.getD j []) (b.getD i [])=p6)->Q y H
def DR(M:X.calm=oD)(hu:X.A.units+64<vk):c7 X (.builtin "min") (Lo []):=by
 intro RC s Z H xs us Q I r h;let#[a,ys,d,1,N,O,P,q]:=h;let#[u,1,R]:=Vals.one r;cases R;let#[m,n,p,hz]:=I.list N;let T:=↑n;let w:=p.isList;let K:a<↥s:=by let#[_,e,_]:=w;show aJ e
 let get:∀(i:Nat)(v:pC),m[i]?*>v->∃(b:pR)(c:List pC),v=.ref b/\b<↥s/\IsTup s.heap b c.toArray/\L3 c (d.getD i []):=by
  intro i v e;let#[y,x,B]:=nK n e;let go:∀{ys:List V}{d:List\List Int}{i:Nat}{y:V},Tups [] H ys d->ys[i]?*>y->∃b,y=V.ref b/\SqT [] H b ((d.getD i []).map V.int):=by
   intro ys d i y t;induction t generalizing i with
   |nil=>intro e;simp at e
   |cons h1 h2 U=>
    intro e;cases i with
    |zero=>simp at e;subst e;let#[b,l,f,_]:=h1;erw[b,l,f]
    |succ i=>show U ‹e›
  let#[b,1,g]:=go O x;cases B;let#[c,Y,p1,_]:=I.tuple g;erw[b,c,1,p1.lt,p1,nj Y]
 show EK (OK:=λh=>∀(i:Nat)(v:pC),m.toArray[i]?*>v->∃(b:pR)(c:List pC),v=.ref b/\b<↥s/\IsTup h b c.toArray/\L3 c\d.getD i [])\tJ w ?_;erw[↥s,0,8,(λi j=>HT.lexLt (d.getD i [])\d.getD j []),1,C7 (A:=X.A.in1) (I.ok.hd M) _ a (bB K) m.toArray,#[#[_,bI _ rfl,5],w.push _],λi v e=>?_,λS hS h h' ok k i v e=>?_,λb g=>?_,?_,λi j vi vj s' Q' E' ok hi L hQ=>?_,λv h' tk hP hk=>?_]
 .let#[b,c,l,f,#[o,C,D],E]:=get i v ‹e›;erw[b,c,l,f,#[o,aO _ C,D],E]
 .let#[b,c,l,f,#[o,C,D],E]:=ok i v e;let ab:↥s+1<=S:=by rw[<-km];show hS
  erw[b,c,l,f,#[o,k b o (λz=>by rw[aG.mp z] at f;show dD _ f) (λz=>by rw[z] at f;show absurd (oP f ab)\dD _) C,D],E]
 .change b<(s.heap.push _).objs.size;rw[km];rcases aT.mp g with rfl|g
  .exact hV _
  rw[aG.mp g];show kB K
 .rw[bJ,<-T];show hU.mpr P
 .let#[b,c,1,_,p1,i1]:=ok i vi hi;let#[b',ad,1,_,p2,i2]:=ok j vj L;show HT.lt_tupInts (A:=X.A.in1) p1 p2 ‹i1› ‹i2› (by change X.A.units+1<vk;lia) hQ
 let#[y,x,B]:=nK n ‹hP›;let g:=AY (λi j=>HT.lexLt (d.getD i [])\d.getD j []) (λi=>yI _) (λi j k=>zN _ _ _) (m.toArray.size-1);erw[y,H,I.kept (t':=tk) λb o e=>hk b o (λz=>by rw[aG.mp z] at e;show absurd (aJ e)\dD _)\aO _ e,B,q _ y x λj L=>g.2 j ?_];rw[bJ];lia
end
def eL(p:pC->Prop)(h:rq)(e:pR)(cls:pC)(d:Option pR):Prop:=
 ∃(a:Obj)(vs:Array pC),h.get? e*>a/\a.cls=cls/\a.dict=d/\a.data=.fields vs/\(∃c,vs[2]?*>c/\p c)/\
  (vs[1]?*>.none\/∃(T:pR)(oT:Obj)(ts:Array pC),vs[1]?*>.ref T/\T≠e/\h.get? T*>oT/\oT.data=.fields ts/\ts[3]?*>.none)
abbrev Exc:=eL (· = .none)
def eL.mono{p q:pC->Prop}(k:∀c,p c->q c){d:Option pR}(x:eL p h e cls d):eL q h e cls d:=by let#[a,vs,he,b,f,hd,#[c,h2,g],tb]:=x;erw[a,vs,he,b,f,hd,#[c,h2,k c g],tb]
def p7{h:rq}{a:pR}{o:Obj}{f:Obj->Obj}(e:h.get? a*>o)(hf:f o=o)(b:pR):(h.update a f).get? b=h.get? b:=by
 by_cases c:b=a
 .subst c;let d:(f o).isFreed=p6:=by rw[hf];show (Heap.get?_some_iff.mp e).2
  rw[fh f e d,hf,e]
 show dY h f\aA c
def pI{o:Obj}{ts:Array pC}{i:Nat}{v:pC}(hd:o.data=.fields ts)(hi:ts[i]?*>v):Obj.mapFields (·.setIfInBounds i v) o=o:=by
 let#[c,dt,d,sl]:=o;let hd:d=.fields ts:=hd;subst hd;let e:ts.setIfInBounds i v=ts:=by
  show Array.ext ∅ λj h1 h2=>?_;by_cases a:i=j
  .subst a;let#[b,z]:=f_.mp hi;rw[Oj]
   .simp[z]
   show b
  rw[Oj]
  .simp[a]
  show h2
 change ({cls:=c,dict:=dt,data:=.fields\ts.setIfInBounds i v,slots:=sl}:Obj)=_;rw[e]
section
variable {M:Model}{env:Env}{outer:List Env}{L e:Addr}{cls:Value}{d:Option Addr}{p:Value->Prop}
structure mh(fs:List pR)(e:pR)(h h':rq):Prop where
 keep:∀b o,b≠e->b∉fs->h.get? b*>o->h'.get? b*>o
 slot:∀b o,b≠e->h.get? b*>o->∃sl,h'.get? b*>{o with slots:=sl}
def zP{oe:Obj}{vs:Array pC}{head:pC}{had:Bool}{Q:Unit->pS->Prop}(hfr:A.frames*>(env::outer))(hl:s.heap.FunFrames base (env::outer))(hf:env.frame*>L)
  (he:s.heap.get? e*>oe) (hc:oe.cls=cls) (hdd:oe.dict=d) (hd:oe.data=.fields vs) (hc2:∃c,vs[2]?*>c/\p c) (hsz:1<vs.size)
  (h:∀h',eL p h' e cls d->mh (frs (env::outer)) e s.heap h'->Q .unit {s with heap:=h'}) :
  q7 M A (do let a <-frameOf env;let pl <-entryPlaceOf L had;let b <-EntryCells.newEntry head a .none (vf L) .none pl;setField (.ref e) 1 b) (λ_ s'=>q7 M A (D0 (.ref e) n7) Q E s') E s:=by
 let hene:e∉frs (env::outer):=λhm=>by
  let#[_,o,ho,hnf]:=hl.mem hm;rw[he] at ho;cases ho;show hnf vs hd
 show aa (Qj hfr hl hf λh1 hs1=>aa (Qg λpl hpl=>?_));unfold EntryCells.newEntry newFields;show aa\eQ ?_ (hpl.sizeOk5 _ _ _ _ _);generalize hO:({cls:=.type "traceback",dict:=n7,data:=.fields ([head,.ref L,.none,vf L,.none]++(if pl.isEmpty then List.replicate 6 Value.none else pl)).toArray}:Obj)=oT;let hOd:oT.data=.fields ([head,.ref L,.none,vf L,.none]++(if pl.isEmpty then List.replicate 6 Value.none else pl)).toArray:=by rw[<-hO]
 let e1:h1.get? e*>oe:=(hs1.2.1 e hene)<*he;let e2:(h1.push oT).get? e*>oe:=aO _ e1;let hTe:h1.objs.size≠e:=kD\aJ e1;let eT:(h1.push oT).get? h1.objs.size*>oT:=bI _\kG hOd;show gC e2 hd hsz ?_;let hd3:=kF hd (·.setIfInBounds 1 (Value.ref h1.objs.size));let e3:=fh (Obj.mapFields (·.setIfInBounds 1 (Value.ref h1.objs.size))) e2\kG hd3;let T3:=(dY (h1.push oT) (Obj.mapFields (·.setIfInBounds 1 (Value.ref h1.objs.size)))\aA hTe)<*eT;unfold D0;show aa\cD e3 hd3 (x:=.ref h1.objs.size) (by simp[hsz]) ?_;rw[Ry (show (Value.ref h1.objs.size != Value.none)=oD by simp)];let h3z:3<([head,.ref L,.none,vf L,.none]++(if pl.isEmpty then List.replicate 6 Value.none else pl)).toArray.size:=by simp only[bJ,bj,cv,kr];lia
 show gC T3 hOd h3z\h _ ?_ ?_
 .refine#[0,(dY>>hTe)<*e3,(wW _ _)<*hc,?_,hd3,by rw[sN ⋯];show hc2,.inr #[h1.objs.size,0,by simp[hsz],hTe,fh _ T3\kG (kF hOd _),kF hOd _,∅]];let#[c0,d0,dt0,sl0]:=oe;cases dt0<;>show hdd
 let keep:∀b o,b≠e->h1.get? b*>o->(((h1.push oT).update e\Obj.mapFields (·.setIfInBounds 1 (Value.ref h1.objs.size))).update h1.objs.size\Obj.mapFields (·.setIfInBounds 3 ((n7:Option pR).elim Value.none λf=>vf f))).get? b*>o:=λb o hb q=>by
  rw[dY>>(kD\aJ q),dY>>(aA hb)];show aO _ q
 erw[λb o hb hn q=>keep b o hb\(hs1.2.1 b hn).trans q,λb o hb q=>by
  let#[sl,z]:=hs1.2.2 b o q;erw[sl,keep b _ hb z]]
def uU{Q:Unit->pS->Prop}(i:A.frames*>(env::outer))(j:s.heap.FunFrames base (env::outer))(hf:env.frame*>L)(x:eL p s.heap e cls d)
  (h:∀h',eL p h' e cls d->mh (frs (env::outer)) e s.heap h'->Q .unit {s with heap:=h'}):q7 M A (noteFrame (.ref e) env) (λ_ s'=>q7 M A (D0 (.ref e) n7) Q E s') E s:=by
 let#[v,vs,he,l,m,hd,n,tb]:=x;unfold noteFrame;simp only[hf];rcases tb with h1|⟨T,oT,ts,h1,w,c,f,g⟩
 .refine aa\cD he hd h1 ?_;rw[Rx ⋯];show zP i j hf he l m hd n (f_.mp h1).1 h
 show aa\cD he hd h1 ?_;rw[Ry (show (Value.ref T != Value.none)=oD by simp)];show aa\cD c f g ?_;rw[Rx (show ¬((Value.none==vf L)=oD) by simp[vf])];show aa\gC c f (f_.mp g).1 ?_;let same:=p7 c\pI f g;let r:(s.heap.update T\Obj.mapFields (·.setIfInBounds 3 Value.none)).FunFrames base (env::outer):=j.of_keeps λb o a _=>#[o,(same b)<*a,1];show zP (s:={s with heap:=s.heap.update T\Obj.mapFields (·.setIfInBounds 3 Value.none)}) i r hf ((same e)<*he) l m hd n (f_.mp h1).1 λh' x1 x2=>h h' x1 #[λb o a u q=>x2.keep b o a u\(same b).trans q,λb o a q=>x2.slot b o a\(same b).trans q]
def HJ{Q:Unit->pS->Prop}(a:A.frames*>(env::outer))(b:s.heap.FunFrames base (env::outer))(hf:env.frame*>L)(x:eL p s.heap e cls d)
  (h:∀h',eL p h' e cls d->mh (frs (env::outer)) e s.heap h'->Q .unit {s with heap:=h'}):q7 M A (leaving env\.ref e) Q E s:=by
 unfold leaving;show aa\uU a b hf x h
def yQ{Q:Unit->pS->Prop}(x:eL p s.heap e cls d)(h:∀h',eL p h' e cls d->(∀b,h'.get? b=s.heap.get? b)->Q .unit {s with heap:=h'}):q7 M A (D0 (.ref e) n7) Q E s:=by
 let#[g,vs,he,i,j,hd,l,tb]:=id x;unfold D0;rcases tb with h1|⟨T,oT,ts,h1,m,a,c,f⟩
 .refine aa\cD he hd h1 ?_;rw[Rx ⋯];show ai (h s.heap x λ_=>rfl)
 show aa\cD he hd h1 ?_;rw[Ry (show (Value.ref T != Value.none)=oD by simp)];show gC a c (f_.mp f).1 ?_;let same:=p7 a\pI c f;show h _ #[g,vs,(same e)<*he,i,j,hd,l,.inr #[T,oT,ts,h1,m,(same T)<*a,c,f]] same
end
def bh.isThere{h:rq}{a:pR}{o:HO}(x:bh P w H h a o):∃ob,h.get? a*>ob:=by
 cases o with
 |lst xs=>let#[8,_,e]:=x;erw[_,e]
 |tup xs=>let#[8,ob,e,_]:=x;erw[_,e]
 |dK kvs=>let#[8,_,o,0,e,_]:=x;erw[_,e]
 |dT kvs=>let#[8,_,o,0,e,_]:=x;erw[_,e]
 |set S n=>let#[o,8,e,_]:=x;erw[_,e]
 |ins C dx fs=>let#[8,e,_]:=x;erw[_,e]
 |own y=>show x
 |xd fs=>let#[_,#[8,e,_],_]:=x;erw[_,e]
 |rng lo hi=>let#[8,e]:=x;erw[_,e]
 |frz ob u=>let#[e,_]:=x;erw[_,e]
 |tbl ps=>erw[_,(show h.get? a*>_ from x)]
 |met f y=>erw[_,(show h.get? a*>_ from x)]
 |ext φ=>let#[_,e,_]:=x;show e
def HOk.none_of'{h:rq}{a:pR}(x:HOk P w H h)(e:h.get? a=n7):H a=n7:=by
 cases q:H a with
 |none=>rfl
 |some u=>
  let#[o,z]:=(x a u q).isThere;rw[e] at z;cases z
def CXg(p:pC->Prop)(P:rp)(w:sf):CXT:=λouter H s E e s'=>∃(x:pR)(cls:pC)(d:Option pR)(H':Hp),e=.ref x/\eL p s'.heap x cls d/\s.heap.get? x=n7/\H' x=n7/\
 s'.os=s.os/\AllBare s'.gens/\Un (frs outer) [] H H' s.heap s'.heap/\HOk P w H' s'.heap/\E cls d H'
abbrev CX1:=CXg (· = .none)
abbrev CX2:=CXg λ_=>True
def aj.weak{k:Nat}{f:pR}{ps:List Str}{sp:Sp}(F:!aj (CX1 P w) k f fd ps sp):!aj (CX2 P w) k f fd ps sp:=
 #[F.len,λA outer s H args us vs Q E a b c g i=>oZ (F.run A outer s H args us vs Q E a b c g i) λr s' h=>by
  cases r with
  |ok j=>cases j<;>show h
  |error e=>
   let#[x,cls,d,H',l,m,r]:=h;erw[x,cls,d,H',l,m.mono λ_ _=>trivial,r]]
section
def Inv.oldNone{x:pR}(I:Inv X RC Z H s)(h:s.heap.get? x=n7)(hx:x∉X.ex):X.s₀.heap.get? x=n7:=by
 cases e:X.s₀.heap.get? x with
 |none=>rfl
 |some o=>
  let#[o',z]:=I.base.there x o e hx;rw[h] at z;cases z
def AF{N:List Str}{qual:Str}{f:pR}{cd:pC}{outer:List Env}{s0:pS}{i:Hp}{E:XK}{x:pR}{cls:pC}{d:Option pR}{p:pC->Prop}
  (I:Inv (eV (CXg p P w) P w K mg base N qual scope f cd A outer s0 i E) RC Z H s) (hx:eL p s.heap x cls d) (j:s0.heap.get? x=n7) (l:H x=n7) (q:E cls d H) :
  (eV (CXg p P w) P w K mg base N qual scope f cd A outer s0 i E).xe (.ref x) s:=by
 change q7 _ _ (leaving _\.ref x) _ _ s;let B:=I.stkFree;show HJ (outer:=outer) I.ok.frames I.stack rfl hx λh' x1 x2=>?_;let nx:∀b o,s0.heap.get? b*>o->b≠x:=λb o e z=>by rw[z,j] at e;cases e
 let C:∀b o,s0.heap.get? b*>o->b∉frs outer->b∉frs (envOfC qual scope ↥s0 f cd::outer):=λb o e g hm=>by
  rcases aT.mp (I.stkSub b hm) with z|z
  .exact absurd (aJ e) (by rw[z];show Nat.not_lt.mpr I.ok.above)
  show g z
 erw[x,cls,d,H,1,x1,j,l,I.os,I.bare,#[λb o e n g a=>?_,λb o e n g a=>?_,λb o e n a=>I.base.free b o e n a,λb o e a=>?_,I.base.tups,I.base.frzs,I.base.tbls],λb u e=>?_,q]
 .exact x2.keep b o (nx b o e) (C b o e g)\I.base.keep b o e n g a
 .let#[sl,z]:=I.base.slot b o e n g a;let#[D,h]:=x2.slot b _ (nx b o e) z;erw[D,h]
 .let#[o',z]:=I.base.there b o e a;let#[sl,h]:=x2.slot b _ (nx b o e) z;erw[_,h]
 let m:∀c v,H c*>v->c∉frs (envOfC qual scope ↥s0 f cd::outer):=λc v z hm=>by
  have:=B c hm;rw[z] at this;cases this
 let ne:∀c v,H c*>v->c≠x:=λc v z y=>by rw[y,l] at z;cases z
 show (I.hok b u e).stay (λc v L r=>?_) (λ_ r=>r) λ_ _ r=>r;rcases L with z|z
 .rw[z] at r |-;show x2.keep b v (ne b u e) (m b u e) r
 show x2.keep c v (ne c _ z) (m c _ z) r
def pass1{N:List Str}{qual:Str}{f:pR}{cd:pC}{outer:List Env}{s0:pS}{a:Hp}{E:XK}{p:pC->Prop}:
  Passes (CXg p P w) (eV (CXg p P w) P w K mg base N qual scope f cd A outer s0 a E) E:=by
 rintro RC Z H s e s' I ⟨x,cls,d,H',rfl,hx,c,g,os,bare,un,hok,q⟩;show AF (I.call' (ch:=[]) os un hok bare λb z=>absurd z ∅) hx ?_ g q;show I.oldNone c (λz=>by cases z)
end
abbrev bmV:List Value:=[.type ↑21,.type "Exception",.type ↑4,.type ↑87]
def Kg{C:pR}{newId:String}{h:rq}{bmB:List pC}(X:K.In h)(q:W.excIn K C bmB newId=oD):
  ∃bm N nm q bs hdct sn sub ab col dd k0 k1 k2 k3 k5 mN,h.get? C*>vb nm q C N bs bm hdct sn sub ab col dd k0 k1 k2 k3 k5 newId/\h.Ns N mN/\mN ↑14 = n7/\OwnTail h bmB bm:=by
 unfold W.excIn at q
 split at q
 .rename_i dd cd sl d
  split at q
  .rename_i i bm k0 k1 k2 k3 n k5 hm a;simp only[g_,beq_iff_eq,Ot] at q;let#[#[#[#[#[5],b],e],hok],c]:=q;let#[nm,bs,mro,ns,f,hd,sn,sub,ab,col,del]:=cd;dsimp only at hm b hok c;subst hm b;let g:sl=(tA [k0,k1,k2,k3,oy\.builtin n,k5]):=by
    cases sl;simp only at a;rw[a]
   subst g;erw[bm,ns,nm,f,bs,hd,sn,sub,ab,col,dd,k0,k1,k2,k3,k5,_,X>>d,.of_isNs\W.isNs_of_in X hok,W.nsMap_none_of_in X hok c,W.tail_of_in X e]
  cases q
 cases q
def Ci(p:pC->Prop)(X:Cx)(E:XK):Prop:=∀(RC:List (pR×Obj))(Z:St)(H:Hp)(s:pS)(x:pR)(cls:pC)(d:Option pR),Inv X RC Z H s->eL p s.heap x cls d->X.s₀.heap.get? x=n7->(∀p∈X.pn++RC,p.1≠x)->H x=n7->E cls d H->X.xe (.ref x) s
abbrev Lets:=Ci (· = .none)
def lets1{N:List Str}{qual:Str}{f:pR}{cd:pC}{outer:List Env}{s0:pS}{a:Hp}{E:XK}{p:pC->Prop}:
  Ci p (eV (CXg p P w) P w K mg base N qual scope f cd A outer s0 a E) E:=λ_ _ _ _ _ _ _ I hx b _ c q=>AF I hx b c q
section
variable {E:XK}{x:Str}{C:Addr}{np cpos pos:Pos}{e:Expr}{es:List Expr}{t:TA}
def KB(E:XK)(C:pR)(t:TA):TS:=λ_ Z H=>t Z H λvs H1=>↑vs<=qs/\E (.ref C) n7 H1
def ur(d:Lets X E)(f:X.calm=oD)(g:X.ex=[])(i:Gl X x)(hm:X.mg x*>.ref C)(j:W.excIn X.K C bmV ↑11 = oD)(ha:PA X (e::es) t)
  (he:r6 (e::es) X.env=(p6,sZ e X.env)::r6 es X.env:=by rfl) (l:(tD cpos\r6 es X.env).any (·.1)=p6:=by rfl) (hd:(x==(↑18 : Str))=p6:=by decide) :
  PS X (.Raise (oy\.Call (.Name x np) (e::es) [] cpos) n7 pos) (KB E C t):=by
 intro RC s Z H D I h;let#[tl,N,nm,q,bs,hdct,sn,sub,ab,col,dd,k0,k1,k2,k3,k5,mN,m,n,o,T]:=Kg I.mod.kin j;show wpAny_Raise_call_subT (C:=C) (nm:=nm) (q:=q) (N:=N) (bs:=bs) (bm:=tl) (hdct:=hdct) (sn:=sn) (sub:=sub) (ab:=ab) (col:=col) (dd:=dd) (k0:=k0) (k1:=k1) (k2:=k2) (k3:=k3) (k5:=k5)
  tE (mN:=mN) (T.hasType tE.hasBase) (I.ok.hd f) (by rw[he];change (p6||(tD cpos\r6 es X.env).any (·.1))=p6;rw[l];rfl) o (iH I i hm #[1,?_] hd)
 let c:=ha cpos RC s Z H _ I h;rw[he] at c |-;show mw (thn c λus s1 ⟨vs,H1,a,r,hz,u⟩=>#[1,by rw[<-↑r];show hz,a.bk>>m,n.keeps a.bk,T.keeps a.bk,λh' v b=>?_]);let#[tt,w,0]:=b.there;let y:Inv X RC Z H1 {s1 with heap:=h'}:=a.kept (t':=s1.toks) b.keeps;show d RC Z H1 _ v (.ref C) n7 y #[0,w,5,1,#[2,1],.inl rfl] (a.oldNone b.new (by rw[g];simp)) (λp A z=>by
  let e:=(a.pin p A).1;rw[z,b.new] at e;cases e) (a.hok.none_of' b.new) u
end
def clsIn(K:W.Frag)(C:pR):Option (List pC):=match K.lookup C with
 |some ⟨.type "type",_,.cls cd,sl⟩=>(match cd.mro,sl.toList with
  |.ref a::bm,[_,_,_,_,oy\.builtin n,_]=>if a==C&&n==↑11&&!cd.hasDel then oy bm else n7
  |_,_=>n7)
 |_=>n7
def lH{h:rq}{bm:List pC}(X:K.In h)(q:clsIn K C*>bm):
  ∃N nm q bs hdct sn sub ab col dd k0 k1 k2 k3 k5,h.get? C*>vb nm q C N bs bm hdct sn sub ab col dd k0 k1 k2 k3 k5 ↑11:=by
 unfold clsIn at q
 split at q
 .rename_i dd cd sl d
  split at q
  .rename_i g i k0 k1 k2 k3 n k5 hm a
   split at q
   .rename_i b;simp only[g_,beq_iff_eq,Ot] at b;let#[#[5],c]:=b;cases q;let#[nm,bs,mro,ns,e,hd,sn,sub,ab,col,del]:=cd;dsimp only at hm c;subst hm c;let f:sl=(tA [k0,k1,k2,k3,oy\.builtin ↑11,k5]):=by
     cases sl;simp only at a;rw[a]
    subst f;erw[ns,nm,e,bs,hd,sn,sub,ab,col,dd,k0,k1,k2,k3,k5,X>>d]
   cases q
  cases q
 cases q
def yS{M:Model}{Q:Bool->pS->Prop}{e C Ch:pR}{b:Obj}{nm q:Str}{N:pR}{bs bm:List pC}{hdct:Bool}{sn:List Str}{sub:List pC}{ab:Bool}{col:Option Bool}{dd:Option pR}{k0 k1 k2 k3 k5:Option pC}{newId:String}
  {j l:Str} {m:pR} {n a:List pC} {o:Bool} {p:List Str} {r:List pC} {u:Bool} {v:Option Bool} {w:Option pR} {x l1 l2 y z:Option pC} {B:String}
  (c:s.heap.get? C*>vb nm q C N bs bm hdct sn sub ab col dd k0 k1 k2 k3 k5 newId) (i:s.heap.get? Ch*>vb j l Ch m n a o p r u v w x l1 l2 y z B)
  (he:s.heap.get? e*>b) (D:b.cls=.ref C) (H:a.contains (.type ↑4)=oD) (hm:(Value.ref C::bm).contains (.ref Ch)=oD) (I:Q oD s) :
  q7 M A (excMatches (.ref e)\.ref Ch) Q E s:=by
 let#[h,g,d,t,os]:=s;let K:(Value.ref Ch::a).contains (.type ↑4)=oD:=by rw[sU,H,wj]
 let f:=tc_notTuple;unfold excMatches
 repeat (first|(with_reducible show gB he ?_;rw[D])|with_reducible show gB i ?_|with_reducible show gB c ?_|(with_reducible show mO i ?_;rw[K])|(with_reducible show mO c ?_;rw[hm])|wp_step)
 show I
def dU(pc:pC->Prop)(x:pR)(cls:pC)(d:Option pR):HO:=.ext λh=>∃(a:Obj)(vs:Array pC),h.get? x*>a/\a.cls=cls/\a.dict=d/\a.data=.fields vs/\∃c,vs[2]?*>c/\pc c
abbrev gY:=dU (· = .none)
def AI{d:Option pR}{pc:pC->Prop}(e:eL pc h x cls d):bh P w H h x (dU pc x cls d):=by let#[c,vs,h1,h2,f,g,i,_]:=e;erw[#[c,vs,h1,h2,f,g,i],#[c,h1],λa b p k=>?_];let#[c,vs,h1,h2,f,g,i]:=p;erw[c,vs,k c h1,h2,f,g,i]
abbrev lG(X:Cx)(x:pR):Cx:={X with A:=X.A.mark\oy (.ref x),calm:=p6,xe:=λ_ _=>False}
section
def Inv.suite(I:Inv X RC Z H s)(x:pR):Inv (lG X x) RC Z H s:=
 #[#[I.ok.mod,I.ok.kind,I.ok.glob,I.ok.blt,I.ok.above,I.ok.inj,I.ok.has,I.ok.cab,(λz=>absurd z (by change ¬(p6=oD);decide)),I.ok.frames,I.ok.stk,I.ok.exf,I.ok.bs,I.ok.bsz,I.ok.noex,I.ok.exfs,I.ok.funs,I.ok.frf],I.os,I.bare,I.base,I.loc,I.cell,I.free,I.freeC,I.pin,I.hok,I.len]
def Inv.unsuite(J:Inv (lG X x) RC Z H s)(ok:X.Ok):Inv X RC Z H s:=#[ok,J.os,J.bare,J.base,J.loc,J.cell,J.free,J.freeC,J.pin,J.hok,J.len]
def Inv.forget(I:Inv X RC Z H s):Inv X RC (List.replicate X.N.length n7) H s:=by
 erw[I.ok,I.os,I.bare,I.base,?_,I.cell,I.free,I.freeC,I.pin,I.hok,∅];let#[m,b,_]:=I.loc;erw[m,b,λi y v c a d=>?_];rw[CD] at a
 split at a<;>cases a
def Inv.unname{i:Nat}{n:Str}{pos:Pos}{M:Model}{Q:Unit->pS->Prop}(I:Inv X RC Z H s)(hN:X.N.Nodup)(hi:X.N[i]?*>n)(hl:X.env.scope.names.lookup n*>.local)
  (h:∀s',Inv X RC (Z.set i n7) H s'->Q .unit s'):q7 M A (do bindName X.env n .none;unbindBehindTheSuite X.env n pos) Q E s:=by
 show aa\Dl (jP I hN hi (.inl hl) (v:=.non) rfl (λs1 I1=>?_)\.inr hl);unfold unbindBehindTheSuite;show wpAny_onRaise ?_;let hcls:(X.env.scope.kind==.class||(X.env.scope.kind==.module&&X.env.locals != X.env.globals))=p6:=by rw[I.ok.kind];rfl
 let#[m,hn,hl1]:=id I1.loc;have hiσ:i<↑Z:=by rw[I.len];show (aN.mp hi).1
 let#[u,ru,lk]:=hl1 i n .non hi (by rw[wF hiσ])\.inl hl;let hmn:m n*>u:=by
  rcases lk with ⟨_,z⟩|⟨z,_⟩
  .exact z
  let z:X.env.scope.names.lookup n*>.cell\/X.env.scope.names.lookup n*>.free:=z;rcases z with z|z<;>(rw[hl] at z;cases z)
 show wpAny_unbindName_local hl hn hmn hcls λh' w' hn' hs=>h _ ?_;let#[oL,0,hoL,_]:=id hn;let keepB:∀b o,b≠X.env.locals->s1.heap.get? b*>o->h'.get? b*>o:=λb o hb e=>(hs.2 b hb)<*e;let hok:HOk X.prog X.w H h':=λb ob e=>by
  show (I1.hok b ob e).stay (λc w' hc q=>keepB c w' ?_ q) (λ_ q=>q) λ_ _ q=>q;rintro rfl;rcases hc with z|z
  .rw[<-z,I1.free] at e;cases e
  rw[I1.free] at z;cases z
 erw[I1.ok,I1.os,I1.bare,#[λb o e n hb hx=>?_,λb o e n hb hx=>?_,I1.base.free,λb o e hx=>?_,I1.base.tups,I1.base.frzs,I1.base.tbls],#[_,hn',λj y v e1 e2 e3=>?_],λy c e=>?_,I1.free,I1.freeC,λp hp=>?_,hok,?_]
 .exact keepB b o (bB\bU (aJ e) I1.ok.above)\I1.base.keep b o e n hb hx
 .let#[sl,z]:=I1.base.slot b o e n hb hx;erw[sl,keepB b _ (bB\bU (aJ e) I1.ok.above) z]
 .let#[o',z]:=I1.base.there b o e hx;erw[o',keepB b _ (bB\bU (aJ e) I1.ok.above) z]
 .let hj:j≠i:=λz=>by
   subst z;rw[wF hiσ] at e2;cases e2
  rw[wD\aA hj] at e2;let#[u',r',q]:=hl1 j y v e1 (by rw[wD\aA hj];show e2) e3;erw[u',r',?_];rcases q with ⟨k,e⟩|⟨k,c,e,z⟩
  .refine .inl #[k,?_];have:y≠n:=λz=>hj\uw hN e1 (z ▸ hi);simp[this,e]
  show .inr #[k,c,e,z.sameBut hs\I1.cne y c e]
 .let#[w',z]:=I1.cell y c e;erw[w',z.sameBut hs\I1.cne y c e]
 .let#[e,n',ne,nf,d]:=I1.pin p hp;erw[(hs.2 p.1 ne)<*e,n',ne,nf,d]
 have:=I.len;simpa using this
end
section
variable {body suite:List Stmt}{b0:Stmt}{cx n:Str}{np hpos pos:Pos}{Ch:Addr}{bmh:List Value}{i:Nat}{tb:XK->TS}{ts:Addr->TS}
def v8(i:Nat)(D:Ends):Ends:={nx:=λZ H=>D.nx (Z.set i n7) H,rt:=D.rt,bk:=λZ H=>D.bk (Z.set i n7) H,ct:=λZ H=>D.ct (Z.set i n7) H}
def tTry(pc:pC->Prop)(K:W.Frag)(len:Nat)(Ch:pR)(i:Nat)(tb:XK->TS)(ts:pR->TS):TS:=λD Z H=>∃E:XK,tb E D Z H/\∀cls d H',E cls d H'->
 ∃a bm,cls=.ref a/\clsIn K a*>bm/\(Value.ref a::bm).contains (.ref Ch)=oD/\∀x,H' x=n7->ts x (v8 i D) ((List.replicate len n7).set i\oy (.ref x))\upd H' x (dU pc x cls d)
def land{pc:pC->Prop}{D:Ends}{x:pR}{cls:pC}{d:Option pR}(hst:X.stack=X.env::X.outer/\X.env.frame*>X.env.locals)(hnx:X.ex=[])
  (hN:X.N.Nodup) (hi:X.N[i]?*>n) (hl:X.env.scope.names.lookup n*>.local) (hg:Gl X cx) (hm:X.mg cx*>.ref Ch) (hcl:clsIn X.K Ch*>bmh) (hbm:bmh.contains (.type ↑4)=oD)
  (hs:∀x,PSs (lG X x) (b0::suite)\ts x) (hdb:(cx==(↑18 : Str))=p6) (I:Inv X RC Z H s) (hx:eL pc s.heap x cls d) (hn:X.s₀.heap.get? x=n7) (hpx:∀p∈X.pn++RC,p.1≠x) (hH:H x=n7)
  (hq:∃Ce bm,cls=.ref Ce/\clsIn X.K Ce*>bm/\(Value.ref Ce::bm).contains (.ref Ch)=oD/\∀x,H x=n7->ts x (v8 i D) ((List.replicate X.N.length n7).set i\oy (.ref x))\upd H x (dU pc x cls d)) :
  q7 ⇑X X.A (noteFrame (.ref x) X.env) (λ_ s2=>q7 ⇑X X.A (D0 (.ref x) n7) (λ_ s3=>q7 ⇑X X.A (handleBy (.ref x) X.env [.ExceptHandler (oy\.Name cx np) (oy n) (b0::suite) hpos]) (SP X RC D) X.xe s3) X.xe s2) X.xe s:=by
 let#[Ce,bm,1,hce,hmt,ts0]:=hq;let hfr:X.A.frames*>(X.env::X.outer):=by rw[<-hst.1];show I.ok.frames
 let hfl:s.heap.FunFrames X.base (X.env::X.outer):=by rw[<-hst.1];show I.stack
 show uU hfr hfl hst.2 hx λh1 x1 L1=>?_;let nx0:∀b o,X.s₀.heap.get? b*>o->b≠x:=λb o e z=>by rw[z,hn] at e;cases e
 let hxl:x≠X.env.locals:=λz=>by
  let#[m,#[o,es,ep,ho,hd,_],_]:=I.loc;let#[oe,vs,he,0,hd',_]:=hx;rw[z,ho] at he;cases he;rw[hd] at hd';cases hd'
 let hxc:∀y c,X.env.cells.lookup y*>c->c≠x:=λy c e z=>by
  let#[v,o,ho,hd]:=I.cell y c e;let#[oe,vs,he,0,hd',_]:=hx;rw[z,he] at ho;cases ho;rw[hd'] at hd;cases hd
 let nfs:∀b,b∈frs (X.env::X.outer)->b∈X.env.locals::X.fs:=λb hb=>I.stkSub b (by rw[hst.1];show hb);let I1:Inv X RC (List.replicate X.N.length n7) (upd H x\dU pc x (.ref Ce) d) {s with heap:=h1}:=by
  let J:=I.forget;let kp:∀b o,b≠x->b∉frs (X.env::X.outer)->s.heap.get? b*>o->h1.get? b*>o:=L1.keep;let nfr:∀b u,H b*>u->b∉frs (X.env::X.outer):=λb u e hb=>by
   have:=I.stkFree b (by rw[hst.1];show hb);rw[e] at this;cases this
  let nex:∀b u,H b*>u->b≠x:=λb u e z=>by rw[z,hH] at e;cases e
  let hok:HOk X.prog X.w (upd H x\dU pc x (.ref Ce) d) h1:=λb u e=>by
   by_cases hb:b=x
   .subst hb;rw[aI] at e;cases e;show AI x1
   rw[ar hb] at e;show (I.hok b u e).stay (λc v hc q=>?_) (λc q=>by rw[ar\nex c _ q];show q) λc xs q=>by rw[ar\nex c _ q];show q
   rcases hc with z|z
   .rw[z] at q |-;show kp b v hb (nfr b u e) q
   show kp c v (nex c _ z) (nfr c _ z) q
  erw[J.ok,J.os,J.bare,#[λb o e n' hb hx'=>?_,λb o e n' hb hx'=>?_,λb o e n' hx'=>?_,λb o e hx'=>?_,λb xs e=>?_,λb o u e=>?_,λb ps e=>?_],?_,λy c e=>?_,?_,λy c e=>?_,λp hp=>?_,hok,J.len]
  .refine kp b o (nx0 b o e) (λhm'=>?_)\I.base.keep b o e n' hb hx';rcases aT.mp (nfs b hm') with z|z
   .exact absurd (bU (aJ e) I.ok.above) (by rw[z];show dD _)
   show hb z
  .let#[sl,z]:=I.base.slot b o e n' hb hx';let#[sl',z']:=L1.slot b _ (nx0 b o e) z;erw[sl',z']
  .rw[ar\nx0 b o e];show I.base.free b o e n' hx'
  .let#[o',z]:=I.base.there b o e hx';let#[sl,z']:=L1.slot b _ (nx0 b o e) z;erw[_,z']
  .let q:=I.base.tups b xs e;rw[ar\nex b _ q];show q
  .let q:=I.base.frzs b o u e;rw[ar\nex b _ q];show q
  .let#[more,q]:=I.base.tbls b ps e;erw[more,by rw[ar\nex b _ q];show q]
  .let#[m,#[o,es,ep,ho,r],hl']:=J.loc;let#[sl,z]:=L1.slot _ o (aA hxl) ho;erw[m,#[_,es,ep,z,r],λj y v e1 e2 e3=>?_];rw[CD] at e2
   split at e2<;>cases e2
  .let#[v,o,ho,hd]:=I.cell y c e;let#[sl,z]:=L1.slot c o (hxc y c e) ho;erw[v,_,z,hd]
  .rw[ar\aA hxl];show I.free
  .rw[ar\hxc y c e];show I.freeC y c e
  let#[e,n',ne,nf,dd]:=I.pin p hp;erw[kp p.1 p.2 (hpx p hp) (λhm'=>?_) e,by rw[ar\hpx p hp];show n',ne,nf,dd];rcases aT.mp (nfs p.1 hm') with z|z
  .exact ne z
  show nf z
 let#[N1,nm1,q1,bs1,hd1,sn1,sub1,ab1,col1,dd1,a0,a1,a2,a3,a5,hC]:=lH I1.kIn hce;let#[N2,nm2,q2,bs2,hd2,sn2,sub2,ab2,col2,dd2,b0',b1,b2,b3,b5,hHc]:=lH I1.kIn hcl;let#[oe,vs,he,hcl',_]:=id x1;show Dp (Da\iH (I1.suite x) hg hm (yS hC hHc he hcl' hbm hmt ?_) hdb) (λz=>nomatch z);change vc _ _ (.handlers (.ref x) [.ExceptHandler n7 (oy n) (b0::suite) hpos] X.env) _ _;show PY (yQ x1 λh2 x2 same=>?_);let I2:Inv X RC (List.replicate X.N.length n7) (upd H x\dU pc x (.ref Ce) d) {s with heap:=h2}:=I1.kept (t':=s.toks) λb o e=>(same b)<*e;show jP I2 hN hi (.inl hl) (v:=.ref x) rfl (λs3 I3=>?_)\.inr hl;let run:=hs x RC s3 _ _ (v8 i D) (I3.suite x)\ts0 x hH;show bZ run (λf s4 q4=>?_) λ_ _ z=>z.elim;let fin:∀{Z':St}{H':Hp},Inv (lG X x) RC Z' H' s4->(∀s',Inv X RC (Z'.set i n7) H' s'->SP X RC D f s')->q7 ⇑X X.A (do bindName X.env n .none;unbindBehindTheSuite X.env n hpos) (λ_ s'=>SP X RC D f s') X.xe s4:=
  λJ k=>(J.unsuite I.ok).unname hN hi hl k
 cases f with
 |next=>let#[Z',H',J,q]:=q4;show fin J λs' J'=>#[_,H',J',q]
 |brk=>let#[Z',H',J,q]:=q4;show fin J λs' J'=>#[_,H',J',q]
 |cont=>let#[Z',H',J,q]:=q4;show fin J λs' J'=>#[_,H',J',q]
 |ret v=>let#[w',Z',H',J,r,q]:=q4;show fin J λs' J'=>#[w',_,H',J',r,q]
abbrev j5(X:Cx)(RC:List (pR×Obj))(xe:pC->pS->Prop):Cx:={X with pn:=X.pn++RC,xe:=xe}
def Inv.toBody{xe:pC->pS->Prop}(I:Inv X RC Z H s):Inv (j5 X RC xe) [] Z H s:=
 #[#[I.ok.mod,I.ok.kind,I.ok.glob,I.ok.blt,I.ok.above,I.ok.inj,I.ok.has,I.ok.cab,I.ok.hd,I.ok.frames,I.ok.stk,I.ok.exf,I.ok.bs,I.ok.bsz,I.ok.noex,I.ok.exfs,I.ok.funs,I.ok.frf],I.os,I.bare,I.base,I.loc,I.cell,I.free,I.freeC,λp a=>I.pin p (by rw[eX] at a;show a),I.hok,I.len]
def Inv.ofBody{RC pins':List (pR×Obj)}{xe:pC->pS->Prop}(J:Inv (j5 X RC xe) pins' Z H s):Inv X RC Z H s:=
 #[#[J.ok.mod,J.ok.kind,J.ok.glob,J.ok.blt,J.ok.above,J.ok.inj,J.ok.has,J.ok.cab,J.ok.hd,J.ok.frames,J.ok.stk,J.ok.exf,J.ok.bs,J.ok.bsz,J.ok.noex,J.ok.exfs,J.ok.funs,J.ok.frf],J.os,J.bare,J.base,J.loc,J.cell,J.free,J.freeC,λp a=>J.pin p\d_ _ a,J.hok,J.len]
def Lv{pc:pC->Prop}(h:X.stack=X.env::X.outer/\X.env.frame*>X.env.locals)(c:X.ex=[])(j:X.N.Nodup)(hi:X.N[i]?*>n)(l:X.env.scope.names.lookup n*>.local)(m:Gl X cx)(hm:X.mg cx*>.ref Ch)
  (o:clsIn X.K Ch*>bmh) (u:bmh.contains (.type ↑4)=oD)
  (y:∀(RC:List (pR×Obj))(xe:pC->pS->Prop)(E:XK),Passes (CXg pc X.prog X.w) (j5 X RC xe) E->PSs (j5 X RC xe) body\tb E)
  (B:∀x,PSs (lG X x) (b0::suite)\ts x) (C:(cx==(↑18 : Str))=p6:=by decide) :
  PS X (.Try body [.ExceptHandler (oy\.Name cx np) (oy n) (b0::suite) hpos] [] [] pos) (tTry pc X.K X.N.length Ch i tb ts):=by
 rintro RC s Z H D I ⟨E,L,M⟩;show Qe ?_;let O:Passes (CXg pc X.prog X.w) (j5 X RC λe s1=>q7 ⇑X X.A (noteFrame e X.env) (λ_ s2=>q7 ⇑X X.A (D0 e n7) (λ_ P=>q7 ⇑X X.A (handleBy e X.env [.ExceptHandler (oy\.Name cx np) (oy n) (b0::suite) hpos]) (SP X RC D) X.xe P) X.xe s2) X.xe s1) E:=by rintro pins' Z' H' s' e U J ⟨x,cls,d,H2,rfl,hx,g,Q,os,bare,un,hok,q⟩;let R:=J.call' (ch:=[]) os un hok bare (λb z=>absurd z ∅);show land h c j hi l m hm o u B C R.ofBody hx (J.ofBody.oldNone g (by rw[c];simp)) (λp S z=>?_) Q\M _ _ _ q;let e:=(J.pin p\d_ _ S).1;rw[z,g] at e;cases e
 let run:=y RC _ E O [] s Z H D I.toBody L;show bZ run (λf s1 a=>?_) λ_ _ z=>z;cases f with
 |next=>
  let#[Z',H',J,q]:=a;show ph #[Z',H',J.ofBody,q]
 |brk=>let#[Z',H',J,q]:=a;erw[Z',H',J.ofBody,q]
 |cont=>let#[Z',H',J,q]:=a;erw[Z',H',J.ofBody,q]
 |ret v=>let#[T,Z',H',J,r,q]:=a;erw[T,Z',H',J.ofBody,r,q]
end
section
def txt(l:List Nat):Str:=#[l.toArray]
def uJ(l:List Nat):↑(txt l)=↑l:=by simp[txt,Str.length]
def Iy(z:Str):txt z.cps.toList=z:=by cases z;simp[txt]
def mm{α:Type}(xs:List α)(lo hi:Option Int):List α:=(xs.drop\HT.sIx ↑xs 0 lo).take (HT.sIx ↑xs ↑xs hi-HT.sIx ↑xs 0 lo)
end
section
abbrev TJ:=St->Hp->Str->(Str->Hp->Prop)->Prop
def PJ(X:Cx)(es:List ry)(t:TJ):Prop:=
 ∀(RC:List (pR×Obj))(s:pS)(Z:St)(H:Hp)(acc:Str)(Q:Str->Hp->Prop),Inv X RC Z H s->t Z H acc Q->
  Joins ⇑X X.A X.xe (evalEach es X.env) acc (λout s'=>∃H',Inv X RC Z H' s'/\Q out H') s
def MM:TJ:=λ_ H acc Q=>Q acc H
def KG(te:TE)(t:TJ):TJ:=λZ H acc Q=>te Z H λx H1=>∃z,x=.str z/\(acc++z).length<=qs/\t Z H1 (acc++z) Q
def Bs:PJ X [] MM:=λ_ _ _ H _ _ I h=>#[H,I,h]
def qu{t:TJ}(he:PE X e te)(a:PJ X es t)(b:evalEach (e::es) X.env=sZ e X.env::evalEach es X.env:=by rfl):PJ X (e::es) (KG te t):=by intro RC s Z H acc Q I h;rw[b];change q7 _ _ (sZ e X.env) _ _ s;show thn (he RC s Z H _ I h) λv s1 c=>?_;let#[x,H1,d,f,z,hx,hz,q]:=c;subst hx;let#[t,1]:=f;erw[z,t,1,hz,a RC s1 Z H1 (acc++z) Q d q]
def IA(t:TJ):TE:=λZ H Q=>t Z H Str.empty λout H'=>↑out<=qs/\Q (.str out) H'
def AB{c d:ry}{rest:List ry}{t:TJ}{pos:Pos}(h:PJ X (c::d::rest) t):PE X (.JoinedStr (c::d::rest) pos) (IA t):=by
 intro RC s Z H Q I f;show wpAny_JoinedStr ?_;let j:=h RC s Z H Str.empty _ I f;let mono:∀(parts:List\Sem pC)(acc:Str)(Q a:Str->pS->Prop)(s:pS),(∀o s',Q o s'->a o s')->Joins ⇑X X.A X.xe parts acc Q s->Joins ⇑X X.A X.xe parts acc a s:=by
  intro parts;induction parts with
  |nil=>intro acc Q a s k z;show k _ _ z
  |cons p r g=>
   intro acc Q a s k z;show bZ z (by rintro v s1 ⟨y,t,e,b,q⟩;erw[y,t,e,b,g _ _ _ _ k q]) λ_ _ x=>x
 show mono _ _ _ _ _ (by rintro out s' ⟨H',i,b,q⟩;erw[b,.str out,H',i.tok _,#[2],q]) j
end
section
variable {prog:Program}
def Eg{x a:pR}{c:Obj}{vs:Array pC}{Q:pC->pS->Prop}(he:s.heap.get? x*>c)(hd:c.data=.fields vs)(h2:vs[2]?*>.none)(h:Q .none s):
  q7 (rb prog w) A (runValue\.builtin "proto.unchain" #[[.ref a,.ref x,.ref x,.bool p6],[]]) Q E s:=by
 show wpAny_runValue\iA (b:=Builtin.«proto.unchain») (PZ (by kernel_rfl)) ?_;unfold Builtin.«proto.unchain»;show aa\cD he hd h2 ?_;show ai h
end
section
variable {tg:Expr}
end
section
variable {D:Addr}{g:TG}{tt:TT}{te:TE}{Z':St}{H1:Hp}{Q:Hp->Prop}
end
structure gR(k:Nat)(A:z3)(x:pR):Prop where
 hd:A.handled*>.ref x
 dp:A.depth+3*k+5<recursionLimit
 un:A.units+16*k+200<vk
 gu:A.guards*>[]
def gR.deeper{k:Nat}(r:gR (k+1) A x)(env:Env):gR k (A.deeper env) x:=
 #[r.hd,by have:=r.dp;change A.depth+1+3*k+5<_;lia,by have:=r.un;change A.units+3+16*k+200<_;lia,r.gu]
def gR.make{k:Nat}(r:gR (k+1) A x)(C:pR)(us:List pC)(kw:List (Str×pC)):gR k (A.under\.builtin ↑26 #[.ref C::us,kw]) x:=
 #[r.hd,by have:=r.dp;rw[xO];lia,by have:=r.un;rw[xN];lia,xC r.gu]
def gR.units(r:gR k A x):A.units+64<cLine:=by have:=r.un;lia
def Room.suite(r:Room k A)(x:pR):gR k (A.mark\oy (.ref x)) x:=#[1,r.dp,r.un,r.gu]
structure vS(P:rp)(w:sf)(K:W.Frag)(mg:Str->Option pC)(base:rq)(k:Nat)(f:pR)(fd:ro)(ps:List Str)(x:pR)(sp:Sp):Prop where
 len:∀vs H Q E,sp vs H Q E->↑vs=↑ps
 run:∀(A:z3)(outer:List Env)(s:pS)(H:Hp)(args:Args)(us:List pC)(vs:List V)(Q:VK)(E:XK),gR k A x->!fZ A outer s H->BindsTo s fd args (ps.zip us)->Vals vs us->sp vs H Q E->
  vc (rb P w) A (.call (.ref f) args) (CR CX0 outer P w H s Q E) s
def rV(P:rp)(w:sf)(K:W.Frag)(mg:Str->Option pC)(base:rq)(N:List Str)(qual:Str)(scope:Scope)(f:pR)(cd:pC)(A:z3)(outer:List Env)(s:pS)(H:Hp)(E:XK):Cx:=
 {eV CX0 P w K mg base N qual scope f cd A outer s H E with calm:=p6,xe:=λ_ _=>False}
def EF{N ps:List Str}{qual:Str}{f:pR}{cd:pC}{outer:List Env}{s s1:pS}{E:XK}
  (S:aR N ps scope) (a:!fZ A outer s H) (b:↑vs=↑ps) (r:Vals vs us)
  (x:InCallC s ↥s (bindL (envOfC qual scope ↥s f cd).kindOf (ps.zip us) λ_=>n7) (cellsFrom (↥s+1) scope.names []) (bindC (envOfC qual scope ↥s f cd).kindOf (ps.zip us) λ_=>n7) s1) :
  Inv (!rV N qual scope f cd A outer s H E) [] (start N vs) H s1:=by
 let c:!fZ {A with handled:=n7} outer s H:=#[a.frames,a.mod,a.bs,a.bsz,a.funs,a.frf,a.hok,a.bare];let I:=yO (CX:=CX0) (E:=E) (A:={A with handled:=n7}) S rfl c b r x;erw[#[I.ok.mod,I.ok.kind,I.ok.glob,I.ok.blt,I.ok.above,I.ok.inj,I.ok.has,I.ok.cab,(λz=>absurd z (by change ¬(p6=oD);decide)),I.ok.frames,I.ok.stk,I.ok.exf,I.ok.bs,I.ok.bsz,I.ok.noex,I.ok.exfs,I.ok.funs,I.ok.frf],I.os,I.bare,I.base,I.loc,I.cell,I.free,I.freeC,I.pin,I.hok,I.len]
def Fun.okH{x qual:Str}{st:rz}{f ex:pR}{N ps:List Str}{k:Nat}{sp:Sp}(F:Fun K x qual st f fd)(S:aR N ps\au st)(len:∀vs H Q E,sp vs H Q E->↑vs=↑ps)
  (l:∀(a:pC)(A:z3)(outer:List Env)(s:pS)(H:Hp)(vs:List V)(Q:VK)(E:XK),gR k (A.deeper\envOfC qual (au st) ↥s f a) ex->sp vs H Q E->
   ∃t,PSs (!rV N qual (au st) f a A outer s H E) (dS st) t/\t {nx:=λ_ H'=>Q .non H',rt:=Q} (start N vs) H):!vS (k+1) f fd ps ex sp:=by
 let#[R,od,kV,doc,pm,an,a,ct,T,1,lk,m]:=F.ex;erw[len,λA outer s H args us vs Q E h d p r i=>?_];let B:=len _ _ _ _ i;let j:K.In s.heap:=d.mod.kin.keeps λb o e=>(d.bs b o e).1;let lim:s.heap.NoLimit:=d.mod.nolimit.keeps λb o e=>(d.bs b o e).1;let C:∀y∈ps.zip us,(au st).names.lookup y.1*>.local\/((au st).names.lookup y.1*>.cell/\((cellsFrom (↥s+1) (au st).names []).lookup y.1).isSome=oD):=λ⟨n,v⟩ D=>by
  rcases S.par n (tm D).1 with q|q
  .exact .inl q
  show .inr #[q,C3 _ _ _\.inl q]
 show PX (by have:=h.dp;lia) (j>>lk) rfl S.co S.gen rfl (Pz j m)\p _ _ _ _ ?_;show Qn S.kind C λenv he s1 z=>?_;subst he;erw[lim.keeps z.toInCall.keep,codeAny_func ?_];let#[t,L,M]:=l a A outer s H vs Q E (h.deeper _) i;let I:Inv (!rV N qual (au st) f a A outer s H E) [] (start N vs) H s1:=EF S d B r z;show bZ (L [] s1 (start N vs) H _ I M) (λO s' c=>?_) λe s' c=>c.elim;let fin:∀{Z':St}{H':Hp}{v:V}{u:pC},Inv (!rV N qual (au st) f a A outer s H E) [] Z' H' s'->aC v u->Q v H'->CE outer P w H s Q u s':=
  λ{Z' H' v u} J g q=>#[v,H',J.os,J.bare,J.base,J.hok,g,q]
 cases O with
 |ret u=>
  let#[v,Z',H',J,g,q]:=c;show fin J g q
 |next=>
  let#[Z',H',J,q]:=c;show fin (v:=V.non) (u:=Value.none) J rfl q
 |brk=>
  let#[8,q]:=c;show False.elim q
 |cont=>
  let#[8,q]:=c;show False.elim q
section
variable {k:Nat}{f ex:Addr}{ps:List Str}{sp:Sp}{dvs:List V}{ds:List Value}{x:Str}{p pos:Pos}{e:Expr}{es:List Expr}{t:TA}
end
def Fun.ok1{x qual:Str}{st:rz}{f:pR}{N ps:List Str}{k:Nat}{sp:Sp}(F:Fun K x qual st f fd)(S:aR N ps\au st)(len:∀vs H Q E,sp vs H Q E->↑vs=↑ps)
  (b:∀(a:pC)(A:z3)(outer:List Env)(s:pS)(H:Hp)(vs:List V)(Q:VK)(E:XK),Room k (A.deeper\envOfC qual (au st) ↥s f a)->sp vs H Q E->
   ∃t,PSs (eV (CX1 P w) P w K mg base N qual (au st) f a A outer s H E) (dS st) t/\t {nx:=λ_ H'=>Q .non H',rt:=Q} (start N vs) H):!aj (CX1 P w) (k+1) f fd ps sp:=by
 let#[g,od,kV,doc,pm,an,a,ct,h,1,lk,c]:=F.ex;show vO lk c S len λA outer s H vs Q E d e=>b a A outer s H vs Q E d e
end L2
namespace K51
open PySem L2
def digits(n:Nat):List Nat:=(Nat.toDigits 10 n).map Char.toNat
def tN{n:Nat}(h:n<10):digits n=[48+n]:=by unfold digits;rw[Nat.toDigits_of_lt_base h];have:∀d:Nat,d<10->(Nat.digitChar d).toNat=48+d:=⋯;simp[this n h]
def Ec{n:Nat}(h:10<=n):digits n=digits (n/10)++[48+n%10]:=by let hm:n%10<10:=tw n ⋯;let t:Nat.toDigits 10 (n/10)++Nat.toDigits 10 (n%10)=Nat.toDigits 10 (10*(n/10)+n%10):=Nat.toDigits_append_toDigits ⋯ () hm;rw[Nat.div_add_mod] at t;rw[<-tN hm];unfold digits;rw[<-t,aW]
def pM:∀(m n:Nat),n<10 ^ (m+1)->↑(digits n)<=m+1
 |0,n,h=>by
  rw[tN ‹h›];simp
 |m+1,n,h=>by
  by_cases a:n<10
  .rw[tN a];simp
  rw[Ec (),bj,cw];have:=pM m (n/10) (by rw[Nat.pow_succ] at h;lia);lia
def uM(n:Nat):((toString ((n:Nat):Int):String):Str)=txt (digits n):=by rw[<-Iy\Str.ofString (toString ((n:Nat):Int)),Rc];rfl
end K51
namespace L2
open PySem PySem.Spec PyProof.Rows HT
def DW{prog:rp}{t sl:pR}{u v:pC}{k:Tok}{Q:pC->pS->Prop}(a:IsTup s.heap t\tA [u,v])(d:s.heap.IsSliceOf sl .none .none\.int (-1) k)
  (h:Q (.ref ↥s) {s with heap:=s.heap.push {cls:=.type ↑20,data:=.seq\tA [v,u]}}):q7 (rb prog w) A (getItem (.ref t)\.ref sl) Q E s:=by
 let e:sizeOk (.seq\tA [v,u]):=by change 2<=qs;rw[cY];decide
 let#[os,b,f,c]:=id d;let g:s.TypeIs (.ref sl) "slice":=#[os,b,f];unfold getItem
 try with_reducible show cX ?_
 first|show aa (ai ?_)|skip
 show aa (Dz a.typeIs ⋯ ?_);show aa (jK (name:=Str.ofString "__getitem__") a.typeIs kI
  (gA kI a.typeIs Dc ?_\C8 _ _))
 change q7 _ _ (Builtin.Tuple.tupleItemsOf (.ref t) >>= _) _ _ s;show aa\Di a ?_;show aa\kN g ?_;rw[Ry ⋯];show aa ?_;unfold Builtin.Slice.sliceApplied Builtin.Slice.sliceFields;show aa\aa (cD b c (x:=.none) rfl\aa (cD b c (x:=.none) rfl\aa (cD b c (x:=.int (-1) k) rfl\ai ?_)));show aa\slicePart_int ?_;change q7 _ _ (if ((-1:Int)==0)=oD then _ else _) _ _ s;rw[Rx ⋯];show aa\xh (aa\xh (aa\ai ?_));let i:Builtin.Slice.sliceAdjust n7 n7 ((oy (-1:Int)).getD 1) (((tA [u,v]).size:Nat):Int)=(1,-1):=rfl;let j:Builtin.Slice.slicePlaces 1 (-1) ((oy (-1:Int)).getD 1)=2:=⋯;rw[i];change q7 _ _ (pure ((1:Int),(oy (-1:Int)).getD 1,Builtin.Slice.slicePlaces 1 (-1)\(oy (-1:Int)).getD 1)) _ _ s;rw[j];show ai ?_;change q7 _ _ (if ((1:Int)==0&&(-1:Int)==1&&(2:Nat)==2)=oD then _ else (Builtin.Tuple.tupleExact (tA [v,u]) >>= λx=>ret x)) _ _ s;rw[Rx ⋯];show aa (m:=Builtin.Tuple.tupleExact _)\eQ (ai #[2,ai h]) e
section
variable {e st:Expr}{te ts:TE}{pos p2:Pos}
def Bb(te ts:TE):TE:=λZ H Q=>te Z H λx H1=>ts Z H1 λz H2=>z=.int (-1)/\∃(a:pR)(y v:V),x=.ref a/\SqT [] H2 a [y,v]/\∀p,H2 p=n7->Q (.ref p)\upd H2 p (.tup [v,y])
def Jx(he:PE X e te)(g:PE X st ts):PE X (.Subscript e (.Slice n7 n7 (oy st) p2) pos) (Bb te ts):=by intro RC s Z H Q I h;show w8 (thn (he RC s Z H _ I h) λv s1 c=>?_);let#[x,H1,i,j,l]:=c;show wpAny_Slice ?_;rw[Dd];show ai\ai ?_;rw[evalPart_some];show thn (g RC s1 Z H1 _ i l) λE s2 c=>?_;let#[z,H2,m,n,p]:=c;let#[1,a,y,B,1,hx,q]:=p;cases j;let#[t,1]:=n;let d:Inv X RC Z H2 {s2 with heap:=s2.heap.push {cls:=.type "slice",data:=.fields\tA [.none,.none,.int (-1) t]}}:=m.kept (t':=s2.toks) λb ob q=>aO _ q;let#[K,r,f,hz]:=d.tuple hx;let#[u,L,1,C,D]:=r.two;change q7 ⇑X X.A (subscriptTail e (.Slice n7 n7 (oy st) p2) (.ref a)\.ref ↥s2) (EP X RC Z Q) X.xe {s2 with heap:=s2.heap.push {cls:=.type "slice",data:=.fields\tA [.none,.none,.int (-1) t]}};show tail_any (ops:=[.ref a,.ref ↥s2]) f.typeIs P9.lookup ?_ (by with_unfolding_all rfl);show DW f (Oy ..) ?_;erw[.ref _,_,d.laid (t':=s2.toks) (o:=.tup [B,y]) (λb ob q=>aO _ q) (aq _) ?_,1,q _\d.hok.fresh (aq _)];erw[#[by change 2<=qs;rw[cY];decide,_,bI _ rfl,1],_,.cons D\.cons C .nil,sS _ _]
end
open PySem.W
structure iM(K:W.Frag)(D:pR):Prop where
 ga:W.findIn K (.ref D) ↑33*>oy\.builtin ↑2
 ha:W.findIn K (.ref D) "__getattr__"*>n7
 cl:W.findIn K (.ref D) ↑66*>oy\.builtin ↑13
 gt:W.specialIn K (.builtin ↑13) "__get__"*>oy\.builtin ↑27
 tk:W.takesIn K (.builtin ↑13)*>oD
 mo:W.mroIn K D (.type ↑87)*>oD
 mb:W.mroIn K D (.type ↑4)*>oD
 cd:(W.clsIn K D).isSome=oD
section
variable {prog:Program}{x D:Addr}{ox:Obj}
end
section
def kW{c:String}:c7 X (.builtin ↑97) (λxs H Q=>∃(x:V)(ty:pC)(b:Bool),xs=[x,.ty c]/\fP X.K H x ty/\W.kitOne X.K ty (.type c)*>b/\Q (.bl b) H):=by intro RC s Z H xs us Q I r h;let#[x,ty,b,1,a,e,q]:=h;let#[u,d,1,f,g]:=vals2 r;cases (show d=Value.type c from g);show Fx I f a e λtk=>#[.bl b,H,I.tok _,1,q]
end
end L2
namespace K51
open PySem L2
structure cu(mg:Str->Option pC):Prop where
 len:mg "len" = n7
 int:mg "int" = n7
 str:mg "str" = n7
 isi:mg ↑97 = n7
 range:mg "range" = n7
 list:mg ↑28 = n7
 tuple:mg ↑20 = n7
 bool:mg "bool" = n7
 all:mg "all" = n7
 ve:mg ↑21 = n7
 rev:mg "reversed" = n7
 enum:mg ↑89 = n7
def AV{α:Type}(l:List α)(a b:Nat):mm l (oy (a:Int)) (oy (b:Int))=(l.drop a).take (b-a):=by
 unfold mm;rw[HT.sIx_nat,HT.sIx_nat];by_cases h:a<=↑l
 .rw[wV h];by_cases c:b<=↑l
  .rw[wV c]
  rw[Nat.min_eq_right (),iY (by rw[eF];lia),iY (by rw[eF];lia)]
 rw[OG (show ↑l<=a by lia),OG (show ↑l<=min a ↑l by lia)];simp
def BM{α:Type}(l:List α)(b:Nat):mm l n7 (oy (b:Int))=l.take b:=by let h:=AV l 0 b;unfold mm at h |-;rw[HT.sIx_none];simpa [HT.sIx] using h
def uE{α:Type}(l:List α)(a:Nat):mm l (oy (a:Int)) n7=l.drop a:=by let h:=AV l a ↑l;rw[iY (by rw[eF];lia)] at h;rw[<-h];unfold mm;rw[HT.sIx_none,HT.sIx_nat,HT.sIx_nat,Nat.min_self]
def line5000:5010<=sizeLine:=by rw[cY];decide
def bL(h:H t=n7):Same H (upd H t o):=λb u e=>by rw[ar\ao e h];show e
def nq{n:Nat}(h:n<10 ^ 160):((n:Nat):Int).natAbs.log2<1920:=by
 change n.log2<1920;by_cases a:n=0
 .subst a;decide
 show (CO a).mpr\bU (oP h (⋯:10 ^ 160<2 ^ 600)) (CQ ⋯ ⋯)
def tV{N:List Str}(nd:N.Nodup)(kind:scope.kind=.function)(b:scope.names.all (λy=>y.2 != .cell&&y.2 != .free)=oD)
  (nm:scope.names.all (λy=>y.2 != .local||scope.names.lookup y.1==oy .local)=oD):fJ X N (N.map λ_=>n7) scope:=by
 let h1:∀y∈scope.names,y.2≠.cell/\y.2≠.free:=λy a=>by
  have:=jF.mp b y a;simpa using this
 erw[nd,∅,kind,λy a=>(h1 y a).1,λy a e=>?_,λy a e=>absurd e (h1 y a).2,λj i x e _=>?_]
 .have:=jF.mp nm y a;rw[e] at this;simpa using this
 rw[bu] at e;cases q:N[j]? with
 |none=>rw[q] at e;cases e
 |some z=>rw[q] at e;cases e
def gU(a b:Int):decide (V.int a=V.int b)=decide (a=b):=by rw[eW];simp
end K51
namespace K31
open K51
abbrev Side:=Nat×Nat
abbrev Lps:=List\List Nat
end K31
namespace L2
open PySem PySem.Spec PyProof.Rows
section
end
def uB{g:TG}{tb:TS}{D:Ends}(Pv:Nat->St->Hp->Prop)(f:Pv 0 Z H)(h:∀i Z H,i<=↑xs->Pv i Z H->SqL K H a xs)
  (j:∀i x p Z H,xs[i]?*>x->Pv i Z H->H p=n7->g (.ref p) Z (upd H p\.tup [.int (i:Int),x]) λσ2 H2=>tb {D with nx:=Pv (i+1),ct:=Pv (i+1),bk:=D.nx} σ2 H2) (hd:∀Z H,Pv ↑xs Z H->D.nx Z H) :
  ∃W:Nat->Nat->St->Hp->Prop,(∃m,W 0 m Z H)/\∀i m Z H,W i m Z H->
   ((Ite K a).stop i H/\D.nx Z H)\/((Ite K a).go i H/\∃N:St->Hp->Prop,(∀Z' H',N Z' H'->∃c,c<m/\W (i+1) c Z' H')/\∀x H',(Ite K a).yld i H x H'->g x Z H' λσ2 H2=>tb {D with nx:=N,ct:=N,bk:=D.nx} σ2 H2):=by
 erw[λi m Z H=>m=↑xs-i/\i<=↑xs/\Pv i Z H,#[↑xs,∅,a_ _,f],?_];rintro i m Z H ⟨rfl,hi,p⟩;let q:=h i Z H hi p;by_cases d:i<↑xs
 .refine .inr #[#[xs,xs[i],q,aU d],Pv (i+1),λZ' H' l=>#[↑xs-(i+1),(),1,d,l],λx H' y=>?_];let#[b,v,n,5,y]:=y;show j i v b Z H (y xs q) p n
 let e:i=↑xs:=();subst e;show .inl #[#[xs,q,aq _],hd Z H p]
section
variable {prog:Program}
end
section
variable {pos:Pos}
def rAny(K:W.Frag):List V->Hp->VK->Prop:=λxs H Q=>∃(a:pR)(bs:List Bool),xs=[.ref a]/\SqL K H a (bs.map V.bl)/\Q (.bl\bs.any id) H
def xw(n:X.calm=oD):c7 X (.builtin "any") (rAny []):=by
 intro RC s Z H xs us Q I r h;let#[a,bs,1,w,q]:=h;let#[u,1,y]:=Vals.one r;cases y;let#[g,j,p,hz]:=I.list w;let l:=↑j;rw[av] at l;let c:=p.isList;let B:a<↥s:=by let#[_,e,_]:=c;show aJ e
 show call_any_walk\tJ c ?_;erw[↥s,0,8,(λi=>bs.getD i p6),1,C7 (A:=X.A.in1) (I.ok.hd n) _ a (bB B) g.toArray,#[#[_,bI _ rfl,5],c.push _],λi v s' K L C d=>?_,λh' tk D=>?_]
 .let#[x,m,f]:=nK j (i:=i) (v:=v) ‹C›;rw[bu] at m;let#[b,E,1]:=cA.mp m;cases f;have:bs.getD i p6=b:=by rw[List.getD,E];rfl
  dsimp only at d;rw[this] at d;show iB d
 let e:(List.range g.toArray.size).any (λi=>bs.getD i p6)=bs.any id:=by
  rw[bJ,<-l];let f:bs=(List.range ↑bs).map λi=>bs.getD i p6:=by show sV ∅ λi h1 h2=>?_;simp[h1]
  conv=>rhs;rw[f,wt]
  rfl
 rw[e];erw[.bl _,H,I.kept (t':=tk) λb o e=>D b o (λz=>by rw[aG.mp z] at e;show absurd (aJ e)\dD _)\aO _ e,1,q]
end
end L2
namespace K31
open PySem L2 K51
def same_of{H H1:Hp}(g:H p=n7)(e:upd H p o=H1):Same H H1:=by rw[<-e];show bL g
def at_of{H H1:Hp}(e:upd H p o=H1):H1 p*>o:=by rw[<-e];show aI
def nV(l:List Nat):List V:=l.map λn:Nat=>V.int (n:Int)
def oF(H:Hp)(v:V)(l:List Nat):Prop:=∃a,v=.ref a/\H a*>.lst\nV l
abbrev iQ(H:Hp):List V->Lps->Prop:=Paired\oF H
def sJ(H:Hp)(v:V)(t:Nat×Nat×Nat):Prop:=∃a,v=.ref a/\H a*>.tup [.int (t.1:Int),.int (t.2.1:Int),.int (t.2.2:Int)]
abbrev ay(H:Hp):List V->List (Nat×Nat×Nat)->Prop:=Paired\sJ H
def oF.same(s:Same H H')(h:oF H v l):oF H' v l:=by let#[a,e,h]:=h;erw[a,e,s a _ h]
def iQ.same{ls:Lps}(s:Same H H')(h:iQ H vs ls):iQ H' vs ls:=Paired.imp' (λ_ _ q=>q.same s) h
def sJ.same{t:Nat×Nat×Nat}(s:Same H H')(h:sJ H v t):sJ H' v t:=by let#[a,e,h]:=h;erw[a,e,s a _ h]
def ay.same{ls:List (Nat×Nat×Nat)}(s:Same H H')(h:ay H vs ls):ay H' vs ls:=Paired.imp' (λ_ _ q=>q.same s) h
section
variable {α β:Type}{F:α->β->Prop}
def aE:∀{xs:List α}{ys:List β},Paired F xs ys->↑xs=↑ys
 |_,_,.nil=>rfl
 |_,_,.cons _ t=>by rw[cv,cv,aE t]
def bR:∀{xs:List α}{ys:List β}{b:List α}{c:List β},Paired F xs ys->Paired F b c->Paired F (xs++b) (ys++c)
 |_,_,_,_,.nil,h=>h
 |_,_,_,_,.cons a t,h=>.cons a\bR t h
def vA:∀{xs:List α}{ys:List β}{i:Nat}{y:β},Paired F xs ys->ys[i]?*>y->∃x,xs[i]?*>x/\F x y
 |_,_,_,_,.nil,h=>by simp at h
 |_,_,0,_,.cons a t,h=>by
  simp at h;subst h;erw[2,a]
 |_,_,i+1,_,.cons a t,h=>‹vA (i:=i) t ‹h››
def bV:∀{xs:List α}{ys:List β}{i:Nat}{x:α},Paired F xs ys->xs[i]?*>x->∃y,ys[i]?*>y/\F x y
 |_,_,_,_,.nil,h=>by simp at h
 |_,_,0,_,.cons a t,h=>by
  simp at h;subst h;erw[2,a]
 |_,_,i+1,_,.cons a t,h=>‹bV (i:=i) t ‹h››
end
def bH(l:List Nat):↑(nV l)=↑l:=av ..
def fC(l r:List Nat):nV l++nV r=nV (l++r):=(aW ..).symm
def oj(n:Nat):[V.int (n:Int)]=nV [n]:=rfl
def vD{l:List Nat}{i n:Nat}(h:l[i]?*>n):(nV l)[i]?*>.int (n:Int):=by unfold nV;rw[bu,h];rfl
def wr_of{H H1:Hp}(e:upd H p o=H1):∀b,b≠p->H1 b=H b:=λb a=>by rw[<-e,ar a]
def ky(p q:Nat):List Key:=[Sum.inl (p:Int),Sum.inl (q:Int)]
def lV:ky p q=ky a b↔(p,q)=(a,b):=by
 unfold ky;constructor
 .intro h;injection h with h1 h2;injection h2 with h2 _;injection h1 with h1;injection h2 with h2;have:p=a:=();have:q=b:=();simp[*]
 intro h;injection h with h1 h2;rw[h1,h2]
def SdAt(H:Hp)(v:V)(s:Side):Prop:=∃a,v=.ref a/\H a*>.tup\(ky s.1 s.2).map kV
abbrev SdsAt(H:Hp):List V->List Side->Prop:=Paired\SdAt H
def lit1:1<=sizeLine:=by change 1<=qs;decide
def lit2:2<=sizeLine:=by change 2<=qs;decide
def lit3:3<=sizeLine:=by change 3<=qs;decide
def cU{N:List Str}{fr:List\Option Nat}(nd:N.Nodup)(len:↑fr=↑N)(kind:scope.kind=.function)(b:scope.names.all (λy=>y.2 != .cell)=oD)
  (nm:scope.names.all (λy=>y.2 != .local||scope.names.lookup y.1==oy .local)=oD)
  (c:∀y∈scope.names,y.2=.free->X.env.kindOf y.1*>.cell\/X.env.kindOf y.1*>.free)
  (d:∀(j i:Nat)(x:Str),fr[j]?*>oy i->N[j]?*>x->X.N[i]?*>x/\scope.names.lookup x*>.free):fJ X N fr scope:=by
 erw[nd,len,kind,λy a=>?_,λy a e=>?_,c,d]
 .have:=jF.mp b y a;simpa using this
 have:=jF.mp nm y a;rw[e] at this;simpa using this
def cpK{N:List Str}{fr:List\Option Nat}(nd:N.Nodup:=by decide +kernel)(len:↑fr=↑N:=by rfl)(kind:scope.kind=.function:=by rfl)(a:scope.names.all (λy=>y.2 != .cell)=oD:=by decide +kernel)(nm:scope.names.all (λy=>y.2 != .local||scope.names.lookup y.1==oy .local)=oD:=by decide +kernel)(b:scope.names.all (λy=>y.2 != .free||(X.env.kindOf y.1==oy .cell||X.env.kindOf y.1==oy .free))=oD:=by kernel_rfl)(fn:(fr.zip N).all (λp=>p.1.all λi=>X.N[i]?==oy p.2&&scope.names.lookup p.2==oy .free)=oD:=by kernel_rfl):fJ X N fr scope:=
 cU nd len kind a nm (λy c e=>by
  have:=jF.mp b y c;rw[e] at this;simpa using this) λj i x d f=>by
  have:=jF.mp fn (oy i,x)\a9 (mE.mpr #[d,f]);simpa using this
end K31
local macro_rules | `(tactic| walk_at $s:str) => let i := fun (x : String) => Lean.mkIdent (Lean.Name.mkSimple x); match s.getString.splitOn " " with | [h, p, g, h1, t, y] => `(tactic| (generalize hq : L2.upd $(i h) $(i p) _ = $(i h1); have $(i t) := K31.same_of $(i g) hq; have $(i y) := K31.at_of hq; clear hq)) | [h, p, h1, k, y] => `(tactic| (generalize hq : L2.upd $(i h) $(i p) _ = $(i h1); have $(i k) := K31.wr_of hq; have $(i y) := K31.at_of hq; clear hq)) | _ => Lean.Macro.throwUnsupported
namespace K51
open PySem L2
def mixed(ns:List Int)(k:Int):Int:=(ns.take 40).foldl (λs c=>(s*48271+c)%2147483647) (7+1009*k)
def lX(ns:List Int)(k:Int):Int:=if k<(↑ns:Int) then ns.getD k.toNat 0 else 0
def potOf(ns:List Int)(k:Int):Int×Int:=(if lX ns k<1000000000000000000 then 0 else lX ns k,mixed ns k)
def refill(p:Int×Int):Int×Int:=if p.1=0 then (((p.2*16807+11)%2147483647)*((p.2*16807+11)%2147483647)%2147483629,(p.2*16807+11)%2147483647) else p
def digO(p:Int×Int)(b:Int):Int:=(refill p).1%b
def nxt(p:Int×Int)(b:Int):Int×Int:=((refill p).1/b,(refill p).2)
def bT(p:Int×Int):List V:=[.int p.1,.int p.2]
def cP(p:Int×Int):Prop:=-(2 ^ 60)<p.2/\p.2<2 ^ 60
def E7{p:Int×Int}(h:cP p):cP (refill p):=by
 unfold refill
 split
 .have:=sQ (p.2*16807+11) (⋯:(0:Int)<2147483647);have:=sR (p.2*16807+11) (⋯:(2147483647:Int)≠0);unfold cP;constructor<;>(change _<_;lia)
 show h
def dz{p:Int×Int}(h:cP p):cP (nxt p b):=E7 h
def uy(ns:List Int){k:Int}(b:0<=k)(h1:k<1000):-(2 ^ 60)<mixed ns k/\mixed ns k<2 ^ 60:=by
 unfold mixed;have:∀(l:List Int)(s:Int),(-(2 ^ 60)<s/\s<2 ^ 60)->(-(2 ^ 60)<l.foldl (λs c=>(s*48271+c)%2147483647) s/\l.foldl (λs c=>(s*48271+c)%2147483647) s<2 ^ 60):=by
  intro l;induction l with
  |nil=>intro s h;show h
  |cons c r a=>
   intro s h;rw[CB];show a _ ?_;have:=sQ (s*48271+c) (⋯:(0:Int)<2147483647);have:=sR (s*48271+c) (⋯:(2147483647:Int)≠0);constructor<;>lia
 show this _ _ (by constructor<;>lia)
def kY:OpR X (binaryOp .FloorDiv) (rI (λ_ j=>0<j/\j.natAbs.log2<9000) λi j=>.int (i/j)):=opI λi j _ _ _ _ _ a q=>by
 let e:i.fdiv j=i/j:=by rw[Int.fdiv_eq_ediv_of_nonneg _\Int.le_of_lt a.1]
 rw[<-e] at q;show QE () q\.inl (PyProof.noPylong_of_log2 a.2)
def Nf(K:W.Frag)(vs:List V)(H:Hp)(Q:VK)(a:pR)(ns:List Int)(k:Int):Prop:=vs=[.ref a,.int k]/\SqL [] H a (ns.map V.int)/\0<=k/\Q (.int\lX ns k) H
def spAt(K:W.Frag):Sp:=λvs H Q _=>Exists\Ex3 (Nf K vs H Q)
def K1(K:W.Frag)(vs:List V)(H:Hp)(Q:VK)(a:pR)(ns:List Int)(k:Int):Prop:=vs=[.ref a,.int k]/\SqL [] H a (ns.map V.int)/\0<=k/\k<1000/\
 ∀(p:pR)(H':Hp),H p=n7->Same H H'->H' p*>.lst (bT\potOf ns k)->Q (.ref p) H'
def BW(K:W.Frag):Sp:=λvs H Q _=>Exists\Ex3 (K1 K vs H Q)
def Ge(vs:List V)(H:Hp)(Q:VK)(p:pR)(q:Int×Int)(b:Int):Prop:=vs=[.ref p,.int b]/\H p*>.lst (bT q)/\cP q/\0<b/\b.natAbs.log2<9000/\WrO H p (.lst\bT (nxt q b))\Q (.int\digO q b)
def jd:Sp:=λvs H Q _=>Exists\Ex3 (Ge vs H Q)
section
def scAt:aR [↑12,↑75] [↑12,↑75] (au sAt):=.f
def NO{f:pR}(U:Fun K "_law_at" "_law_at" sAt f fd)(T:cu mg):!aj CX0 1 f fd [↑12,↑75] (spAt K):=by
 show U.ok scAt (!3) λi A outer s H vs Q E j h=>?_
 let#[a,ns,k,1,b,l,q]:=h;erw[_,af (a8 (aQ oq (pv 1) (pln T.len\pv 0)\nomark _) (ak\aF (ixx cJ (pv 0)\pv 1)) aY)\ak (aF ah),?_];erw[3,a,2,.inl b,6,2,?_];unfold lX at q;rw[av];show ite2 (λc=>?_) (λc=>?_)
 .let c:k<(↑ns:Int):=RB c;rw[Ry c] at q;let d:k.toNat<↑ns:=();erw[3,a,_,k,.int\ns.getD k.toNat 0,5,b,?_,q];let e:((k.toNat:Nat):Int)=k:=();rw[<-e];show aZ ?_;let g:ns[k.toNat]?*>ns.getD k.toNat 0:=by simp[List.getD,d]
  rw[bu,g];rfl
 let c:¬k<(↑ns:Int):=λz=>c\Rz z;rw[Rx c] at q;show q
def Aq:aR [↑1,↑48,"_law_digit_here"] [↑1,↑48] (au qV):=.f
def Hy{f:pR}(U:Fun K ↑31 ↑31 qV f fd):!aj CX0 1 f fd [↑1,↑48] jd:=by
 show U.ok Aq (!3) λC A outer s H vs Q E D h=>?_
 let#[p,#[n,z],b,1,a,hok,g,r,q]:=h;erw[_,af (a8 (aQ cq (ixx cJ (pv 0) ah) ah\nomark _)
   (af (fu (aH fV (aH dM (aH jq (ixx cJ (pv 0) ah) ah) ah) ah)\vB (pv 0) ah uj)
    (ak\fu (aH fV (aH jq (ixx cJ (pv 0) ah)\ixx cJ (pv 0) ah) ah) (vB (pv 0) ah uj))) aY)
  (af (sx 2 Aq.nd\aH fV (ixx cJ (pv 0) ah) (pv 1))
  (af (fu (aH kY (ixx cJ (pv 0) ah)\pv 1)\vB (pv 0) ah uj)
  (ak\aF (pv 2)))),?_]
 let d:∀(x y:Int),atI [V.int x,V.int y] 0*>V.int x:=λ_ _=>rfl;let i:∀(x y:Int),atI [V.int x,V.int y] 1*>V.int y:=λ_ _=>rfl;let b0:∀(x y:V),ixN [x,y].length 0*>0:=λ_ _=>rfl;let B:∀(x y:V),ixN [x,y].length 1*>1:=λ_ _=>rfl;let u:=hok.1;let v:=hok.2;erw[2,p,_,(0),2,1,SqL.of a,d _ _,7,?_];let u:-(2 ^ 60)<z:=u;let v:z<2 ^ 60:=v;show ite2 (λc=>?_) (λc=>?_)
 .let c:n=0:=by
   have:=RB c;injection this
  let m1:=sQ (z*16807+11) (⋯:(0:Int)<2147483647);let m2:=sR (z*16807+11) (⋯:(2147483647:Int)≠0);erw[2,p,_,(1),2,1,SqL.of a,i _ _,6,.inl #[(),()],6,6,(⋯:(0:Int)<2147483647),2,p,4,a,B _ _,λH1 k1 j=>?_];erw[2,p,_,(1),2,1,SqL.of j,i _ _,2,p,_,(1),2,1,SqL.of j,i _ _,6,.inl #[(),()],6,(⋯:(0:Int)<2147483629),2,p,4,j,b0 _ _,λH2 k2 l=>?_];erw[2,p,_,(0),2,1,SqL.of l,d _ _,2,6,g,?_];erw[2,p,_,(0),2,1,SqL.of l,d _ _,2,6,#[g,r],2,p,4,l,b0 _ _,λm k3 o=>?_];erw[2,?_];let e:refill (n,z)=((z*16807+11)%2147483647*((z*16807+11)%2147483647)%2147483629,(z*16807+11)%2147483647):=by unfold refill;rw[Ry c]
  unfold digO nxt bT at q;rw[e] at q;show q m (λb h=>(k3 b h).trans\(k2 b h).trans (k1 b h)) o
 let c:¬n=0:=λy=>c (by rw[y];show Rz rfl);erw[2,p,_,(0),2,1,SqL.of a,d _ _,2,6,g,?_];erw[2,p,_,(0),2,1,SqL.of a,d _ _,2,6,#[g,r],2,p,4,a,b0 _ _,λm k3 o=>?_];erw[2,?_];let e:refill (n,z)=(n,z):=by unfold refill;rw[Rx c]
 unfold digO nxt bT at q;rw[e] at q;show q m k3 o
def l9:aR [↑12,↑75,"_law_seed","_law_cell","_law_number"] [↑12,↑75] (au sy):=.f
def FT(ns:List Int):fG (ns.map V.int) n7 (oy 40)=(ns.take 40).map V.int:=by
 unfold fG;let a:HT.sIx ↑(ns.map V.int) 0 n7=0:=rfl;let b:HT.sIx ↑(ns.map V.int) ↑(ns.map V.int) (oy 40)=min 40 ↑ns:=by rw[av];have:=HT.sIx_nat ↑ns ↑ns 40;simpa using this
 rw[a,b,Cv,<-oM,O2]
 congr 1
 rw[List.take_eq_take_iff];lia
def LG{f d:pR}{fd g:ro}(U:Fun K "_law_pot" "_law_pot" sy f fd)(n:Fun K "_law_at" "_law_at" sAt d g)(o:Binds K g [↑12,↑75] [])(mA:mg "_law_at"*>.ref d)(p:W.keepIn K (.ref d)=oD)(T:cu mg) :
  !aj CX0 2 f fd [↑12,↑75] (BW K):=by
 let u:!aj CX0 1 d g [↑12,↑75] (spAt K):=NO n T;show U.ok l9 (!3) λI A outer s H vs Q E x h=>?_
 let#[a,ns,k,1,m,z,h1,q]:=h;erw[_,af (sx 2 l9.nd\aH dM ah (aH jq ah\pv 1))
  (af (dC dq rfl (bQ\jc lx (pv 0) jj (ji ah)) (gx 3 l9.nd)
   (ak\sx 2 l9.nd (aH fV (aH dM (aH jq (pv 2) ah)\pv 3) ah)))
  (af (sx 4 l9.nd\jk u x rfl mA p o .nil pass0 (ae (pv 0)\pa1 (pv 1)))
  (af (a8 (aQ oq (pv 4) (aH qY ah ah)\nomark _) (ak\sx 4 l9.nd ah) aY)
  (ak\aF (bO\ae (pv 4) (pa1\pv 2)))))),?_]
 erw[2,6,.inl #[(),()],6,?_];erw[2,(40),1,a,2,m,λl H1 L sm j=>?_];rw[FT] at j;erw[l,1,#[_,SqL.of j],fq (K:=[]) (a:=l) (xs:=(ns.take 40).map V.int) (λi Z H2=>∃v,Z=[oy\.ref a,oy\.int k,oy\.int (((ns.take 40).take i).foldl (λs c=>(s*48271+c)%2147483647) (7+1009*k)),v,n7]/\H2=H1/\
  (-(2 ^ 60)<(((ns.take 40).take i).foldl (λs c=>(s*48271+c)%2147483647) (7+1009*k))/\(((ns.take 40).take i).foldl (λs c=>(s*48271+c)%2147483647) (7+1009*k))<2 ^ 60))
  #[n7,5,by simp only[wM,OL];constructor<;>lia] (λi Z H2 _ ⟨_,_,e,_⟩=>by rw[e];show SqL.of j) ?_ ?_]
 .rintro i y Z H2 hi ⟨v,rfl,rfl,M,N⟩;let#[c,B,1]:∃c,(ns.take 40)[i]?*>c/\V.int c=y:=by
   rw[bu] at hi;show cA.mp hi
  let e:(ns.take 40).take (i+1)=(ns.take 40).take i++[c]:=by rw[bE,B];rfl
  erw[2,6,.inl #[(),()],2,6,6,(⋯:(0:Int)<2147483647),?_];erw[oy\.int c,?_,1,?_]
  .rw[e,OJ];rfl
  rw[e,OJ];let m1:=sQ ((((ns.take 40).take i).foldl (λs c=>(s*48271+c)%2147483647) (7+1009*k))*48271+c) (⋯:(0:Int)<2147483647);let m2:=sR ((((ns.take 40).take i).foldl (λs c=>(s*48271+c)%2147483647) (7+1009*k))*48271+c) (⋯:(2147483647:Int)≠0);simp only[CB,OL];constructor<;>lia
 rintro Z H2 ⟨v,rfl,rfl,_,_⟩;rw[av,cn];erw[3,a,ns,k,1,sm.seq m,z,?_];erw[2,6,#[⋯,⋯,⋯],6,2,?_];let fin:∀(r:pR)(b:Hp),H2 r=n7->Same H2 b->b r*>.lst (bT\potOf ns k)->Q (.ref r) b:=λr b C s2 D=>q r b (sm.free C) (sm<*s2) D;unfold potOf at fin;show ite2 (λc=>?_) (λc=>?_)
 .let c:lX ns k<1000000000000000000:=RB c;rw[Ry c] at fin;erw[3,(⋯:2<=qs),fin]
 let c:¬lX ns k<1000000000000000000:=λy=>c\Rz y;rw[Rx c] at fin;erw[3,(⋯:2<=qs),fin]
end
def eR{q:Int×Int}{b:Int}(a:0<b):0<=digO q b/\digO q b<b:=#[sR _ (),sQ _ a]
def i9{b:Int}(a:0<b)(h:b<=10 ^ 60):b.natAbs.log2<9000:=by let h1:b.natAbs≠0:=();show (CO h1).mpr ?_;let h2:b.natAbs<=10 ^ 60:=();show wR h2\bU (⋯:10 ^ 60<2 ^ 200) (CQ ⋯ ⋯)
end K51
namespace K15
open PySem L2 K51 K31
def bD(e:Ent):List Key×V:=(ky e.1.1 e.1.2,V.int (e.2:Int))
def gF{l:List Ent}:bp (l.map bD) (ky p q)=n7↔(p,q)∉l.map (·.1):=by
 induction l with
 |nil=>simp[bp]
 |cons e l a=>
  rw[br,br,aT];by_cases h:(bD e).1=ky p q
  .rw[iE h];have:e.1=(p,q):=lV.mp h;simp[this]
  rw[gG h,a];have:(p,q)≠e.1:=λz=>h\lV.mpr (by rw[z]);simp[this]
def zd{l:List Ent}(nd:(l.map (·.1)).Nodup){c:Nat}:bp (l.map bD) (ky p q)*>V.int (c:Int)↔((p,q),c)∈l:=by
 induction l with
 |nil=>simp[bp]
 |cons e l b=>
  rw[br,eO] at nd;rw[br,aT];by_cases h:(bD e).1=ky p q
  .rw[iE h];let a:e.1=(p,q):=lV.mp h;constructor
   .intro z;injection z with z;injection z with z;left;have:e.2=c:=();rw[<-a,<-this]
   rintro (z|z)
   .rw[<-z];rfl
   show (nd.1\ax.mpr #[_,z,a.symm]).elim
  rw[gG h,b nd.2];constructor
  .exact .inr
  rintro (z|z)
  .exact (h\lV.mpr (by rw[<-z])).elim
  show z
def Iv{l:List Ent}{v:V}(h:bp (l.map bD) (ky p q)*>v):∃c:Nat,v=V.int (c:Int):=by
 induction l with
 |nil=>cases h
 |cons e l a=>
  rw[br] at h;by_cases h1:(bD e).1=ky p q
  .rw[iE h1] at h;injection h with h;erw[e.2,h.symm]
  rw[gG h1] at h;show a h
def qc{ts:List Tri}(g:Good ts)(p q:Nat):(∃c,En ts p q c/\bp ((ents ts).map bD) (ky p q)*>V.int (c:Int))\/((∀c,¬En ts p q c)/\bp ((ents ts).map bD) (ky p q)=n7):=by
 cases h:bp ((ents ts).map bD) (ky p q) with
 |none=>
  show .inr #[λc a=>?_,1];show gF.mp h\ax.mpr #[_,a,1]
 |some v=>
  let#[c,1]:=Iv h;show .inl #[c,(zd g.nd).mp h,1]
def jS(a b:List Tri):ents (a++b)=ents a++ents b:=by simp[ents]
def el(ts:List Tri):↑(ents ts)=3*↑ts:=by
 induction ts with
 |nil=>rfl
 |cons t ts a=>
  rw[show t::ts=[t]++ts from rfl,jS,bj,a,bj];change 3+_=3*(1+_);lia
def qf{l:List Ent}{a b c:Nat}(h:((l++[((a,b),c)]).map (·.1)).Nodup):(l.map (·.1)).Nodup/\(a,b)∉l.map (·.1):=by rw[aW,cW] at h;erw[h.1,λz=>?_];show h.2.2 _ z (a,b) ∅ rfl
def qp{l:List Ent}{a b c:Nat}(h:(a,b)∉l.map (·.1)):cQ (l.map bD) (ky a b) (V.int (c:Int))=(l++[((a,b),c)]).map bD:=by rw[nE _\gF.mpr h,aW];rfl
def b_(t:Tri):List (Nat×Nat):=[(t.1,t.2.1),(t.2.1,t.2.2),(t.2.2,t.1)]
def F3(vs:List V)(H:Hp)(Q:VK)(t:pR)(x:Tri):Prop:=vs=[.ref t]/\H t*>.tup [.int (x.1:Int),.int (x.2.1:Int),.int (x.2.2:Int)]/\
 ∀r zs H',H r=n7->Same H H'->H' r*>.lst zs->SdsAt H' zs (b_ x)->Q (.ref r) H'
def lq:Sp:=λvs H Q _=>Exists\Ex2 (F3 vs H Q)
def EV(vs:List V)(H:Hp)(Q:VK)(T:pR)(a:List V)(ts:List Tri):Prop:=vs=[.ref T]/\H T*>.lst a/\ay H a ts/\↑ts<=400/\((ents ts).map (·.1)).Nodup/\
 ∀D H',H D=n7->Same H H'->H' D*>.dT ((ents ts).map bD)->Q (.ref D) H'
def i_:Sp:=λvs H Q _=>Exists\Ex3 (EV vs H Q)
def jv(ts:List Tri)(x:Tri):Bool:=(b_ x).all λs=>decide (s∉(ents ts).map (·.1))
def IR(vs:List V)(H:Hp)(Q:VK)(D t:pR)(ts:List Tri)(x:Tri):Prop:=vs=[.ref D,.ref t]/\H D*>.dT ((ents ts).map bD)/\H t*>.tup [.int (x.1:Int),.int (x.2.1:Int),.int (x.2.2:Int)]/\
 ∀H',Same H H'->Q (.bl\jv ts x) H'
def vn:Sp:=λvs H Q _=>Exists\Ex4 (IR vs H Q)
section
def qg:aR [↑6,↑49,↑70,"_law_c"] [↑6] (au qK):=.f
def Hj{f:pR}(U:Fun K ↑44 ↑44 qK f fd):!aj CX0 1 f fd [↑6] lq:=by
 show U.ok qg (!2) λp A outer s H vs Q E u h=>?_
 let#[t,x,1,c,q]:=h;erw[_,af (fu (pv 0)\dn rfl (aV (gx 1 qg.nd)\aV (gx 2 qg.nd) (aV (gx 3 qg.nd) dh)))
  (ak\aF (bO\ae (aD\ae (pv 1) (pa1\pv 2)) (ae (aD\ae (pv 2) (pa1\pv 3))\pa1 (aD\ae (pv 3) (pa1\pv 1))))),?_]
 erw[2,t,2,SqT.of c,1,9,9,6,?_];erw[3,lit2,λd H1 h1 s1 e=>?_];erw[3,lit2,λg H2 h2 s2 i=>?_];erw[3,lit2,λj v y a l=>?_];erw[lit3,λr m n b o=>?_];show q r _ m ((s1<*s2<*a).free n) (s1<*s2<*a<*b) o\.cons #[d,1,(s2<*a<*b) _ _ e] (.cons #[g,1,(a<*b) _ _ i]\.cons #[j,1,b>>l] .nil)
def nB:aR [↑0,↑5,↑49,↑70,"_law_c"] [↑0] (au qk):=.f
def Fe{f:pR}(U:Fun K ↑25 ↑25 qk f fd):!aj CX0 1 f fd [↑0] i_:=by
 show U.ok nB (!3) λRD A outer s H vs Q E M h=>?_
 let#[T,N,ts,1,r,u,hl,v,q]:=h;let g:=dA M;erw[_,af (sx 1 nB.nd uu)
  (af (dC dq rfl (bQ\pv 0) (dn rfl\aV (gx 2 nB.nd) (aV (gx 3 nB.nd)\aV (gx 4 nB.nd) dh))
   (af (jh g (pv 1) (aD\ae (pv 2) (pa1\pv 3)) (pv 4) rfl)
   (af (jh g (pv 1) (aD\ae (pv 3) (pa1\pv 4)) (pv 2) rfl)
   (ak\jh g (pv 1) (aD\ae (pv 4) (pa1\pv 2)) (pv 3) rfl))))
  (ak\aF (pv 1))),?_]
 let ab:=line5000;let hlen:=aE u;show λD H1 h1 s1 O=>?_;erw[2,T,1,#[_,SqL.of (s1>>r)],fq (K:=[]) (a:=T) (xs:=N) (λi Z H2=>∃j l m,Z=[oy\.ref T,oy\.ref D,j,l,m]/\Same H H2/\H2 D*>.dT\(ents\ts.take i).map bD)
  #[n7,n7,n7,1,s1,O] (by rintro i Z H2 _ ⟨_,_,_,_,e,_⟩;show SqL.of (e>>r)) ?_ ?_]
 .rintro i x Z H2 hi ⟨j,l,m,rfl,sm,d⟩;let#[#[a,b,c],y,t,1,n]:=bV u hi;let n:H t*>.tup [.int (a:Int),.int (b:Int),.int (c:Int)]:=n;let ad:i<↑ts:=(aN.mp y).1;let R:ts.take (i+1)=ts.take i++[(a,b,c)]:=by rw[bE,y];rfl
  let z:((ents\ts.take (i+1)).map (·.1)).Nodup:=by rw[<-gr (i+1) ts,jS,aW,cW] at v;show v.1
  let B:ents (ts.take (i+1))=((ents (ts.take i)++[((a,b),c)])++[((b,c),a)])++[((c,a),b)]:=by rw[R,jS];simp[ents]
  rw[B] at z;let#[S,X]:=qf z;let#[Y,n2]:=qf S;let#[_,n1]:=qf Y;let l0:=el\ts.take i;rw[bz] at l0;erw[t,2,SqT.of (sm>>n),1,9,9,6,?_];erw[3,3,lit2,λt1 H3 g1 C y3=>?_];erw[D,2,DPut.t (k:=ky a b) (C>>d) y3 (by rw[av];lia),?_];rw[qp n1];walk_at"H3 D H4 k4 y4";erw[3,3,lit2,λt2 H5 g2 I y5=>?_];erw[D,2,DPut.t (k:=ky b c) (I>>y4) y5 (by rw[av,bj,cw];lia),?_];rw[qp n2];walk_at"H5 D H6 k6 y6";erw[3,3,lit2,λt3 H7 g3 L y7=>?_];erw[D,2,DPut.t (k:=ky c a) (L>>y6) y7 (by rw[av,bj,bj,cw,cw];lia),?_];rw[qp X];walk_at"H7 D H8 k8 y8";erw[8,1,λp o e=>?_,by rw[y8,B]];let nb:=ao e h1;show (k8 p nb)<*(L>>((k6 p nb)<*(I>>((k4 p nb)<*(C>>sm>>e)))))
 rintro Z H2 ⟨j,l,m,rfl,sm,d⟩;rw[hlen,cn] at d;erw[2,q D H2 h1 sm d]
end
def Io:yF "all"*>.builtin "all":=⋯
def iC:yF ↑55*>.builtin ↑55:=⋯
def flat(ts:List Tri):List Nat:=ts.flatMap λt=>[t.1,t.2.1,t.2.2]
def kb(c:Nat):Key×V:=(Sum.inl (c:Int),V.bl oD)
def LY{d:Nat}:(kb c).1=(Sum.inl (d:Int):Key)↔c=d:=by
 unfold kb;constructor
 .intro h;injection h with h;lia
 rintro rfl;rfl
def Lu(dd:List Nat)(c:Nat):cQ (dd.map kb) (Sum.inl (c:Int)) (V.bl oD)=(if c∈dd then dd else dd++[c]).map kb:=by
 by_cases h:c∈dd
 .rw[Ry h];let ha:((dd.map kb).any λa=>decide (a.1=(Sum.inl (c:Int):Key)))=oD:=mz.mpr #[kb c,ax.mpr #[c,h,1],Rz rfl];unfold cQ;rw[Ry ha,cz];show tj λx _=>?_;change (if (kb x).1=(Sum.inl (c:Int):Key) then ((kb x).1,V.bl oD) else kb x)=kb x
  split<;>rfl
 rw[Rx h,nE,aW]
 .rfl
 cases e:bp (dd.map kb) (Sum.inl (c:Int)) with
 |none=>rfl
 |some v=>
  have:=Iw e;rw[cz] at this;let#[x,hx,ex]:=ax.mp this;show (h (LY.mp ex ▸ hx)).elim
def Cs(ts:List Tri)(cs:List Nat):Prop:=cs.Pairwise (· < ·)/\∀c,c∈cs↔c∈flat ts
def tQ{dd:List Nat}{ms:List Int}(nd:dd.Nodup)(f:ms.Perm (dd.map λc:Nat=>(c:Int)))(d:ms.Pairwise (·<=·)):∃cs:List Nat,ms=cs.map (λc:Nat=>(c:Int))/\cs.Pairwise (· < ·)/\cs.Perm dd:=by
 let e:ms=(ms.map Int.toNat).map (λc:Nat=>(c:Int)):=by
  rw[cz];have:∀x∈ms,((λc:Nat=>(c:Int)) ∘ Int.toNat) x=id x:=by intro x hx;let#[c,2]:=ax.mp\f.mem_iff.mp hx;simp
  rw[tj this,CI]
 let pm:(ms.map Int.toNat).Perm dd:=by
  have:=f.map Int.toNat;rw[cz] at this;let g:dd.map (Int.toNat ∘ λc:Nat=>(c:Int))=dd:=by have:∀x∈dd,(Int.toNat ∘ λc:Nat=>(c:Int)) x=id x:=λx _=>∅;rw[tj this,CI]
  rw[g] at this;show this
 erw[ms.map Int.toNat,e,?_,pm];let i:(ms.map Int.toNat).Nodup:=pm.nodup_iff.mpr nd;rw[e] at d;rw[gq] at d;have:=d.and i;show this.imp λ{a b} h=>?_;let h1:=h.1;let h2:=h.2;lia
def Eo(vs:List V)(H:Hp)(Q:VK)(T:pR)(a:List V)(ts:List Tri):Prop:=vs=[.ref T]/\H T*>.lst a/\ay H a ts/\↑ts<=200/\
 ∀r cs H',H r=n7->Same H H'->H' r*>.lst (nV cs)->Cs ts cs->↑cs<=3*↑ts->Q (.ref r) H'
def h_:Sp:=λvs H Q _=>Exists\Ex3 (Eo vs H Q)
section
def K_:aR [↑5,↑6] [↑5,↑6] (au rP):=.f
def JQ{f B:pR}{fd C:ro}(U:Fun K ↑77 ↑77 rP f fd)(T:cu mg)(G:!Use 1 ↑44 [↑6] lq B C) :
  !aj CX0 2 f fd [↑5,↑6] vn:=by
 show U.ok K_ (!4) λX A outer s H vs Q E l h=>?_
 let#[D,t,ts,x,1,I,L,q]:=h;let M:=dA l;erw[_,ak\aF (bP (DU rfl) (by rfl) T.all Io\pa1 (dv (N:=[↑38,↑5]) (fr:=[n7,oy 0]) cpK rfl (bQ\uc G l (pa1\pv 1))
    (λY s' H' fp RC=>#[gx 0 (⋯:([↑38,↑5]:List Str).Nodup),eu,Bv\nv M (pv 0) (pv 1)]))),?_]
 let ab:=line5000;erw[2,t,x,1,L,λr zs H1 ad s1 m n=>?_];let O:=aE n;erw[r,1,#[_,SqL.of m],λZ_ p=>dG (K:=[]) (a:=r) (xs:=zs) (λi Z ys H'=>∃o,Z=[o,oy\.ref D]/\ys=(((b_ x).take i).map λs=>decide (s∉(ents ts).map (·.1))).map V.bl/\Same H1 H'/\H' Z_*>.lst ys) #[n7,5,bL p,aI] (by rintro i Z ys H' _ ⟨_,_,_,e,_⟩;show SqL.of (e>>m)) ?_ ?_]
 .rintro i y Z ys H' hi ⟨o,rfl,rfl,d,g⟩;let#[#[a,b],u,c,1,R]:=bV n hi;let ag:=(aN.mp u).1;erw[3,D,2,DGet.t (k:=ky a b) (d>>s1>>I) (d>>R),g,?_,λH3 k3 S=>#[2,?_,λb o e=>(k3 b\ao e p)<*(d>>e),S]]
  .rw[av,av,bz];have:↑(b_ x)=3:=rfl;lia
  rw[bE,u];change _=((((b_ x).take i)++[(a,b)]).map _).map _;rw[aW,aW]
  congr 1
  change [V.bl _]=[V.bl _]
  congr 2
  cases j:bp ((ents ts).map bD) (ky a b) with
  |none=>show (Rz\gF.mp j).symm
  |some v=>show (RA λz=>by rw[gF.mpr z] at j;cases j).symm
 rintro Z ys H' ⟨o,rfl,rfl,d,g⟩;erw[Z_,(b_ x).map λs=>decide (s∉(ents ts).map (·.1)),1,SqL.of ?_,?_]
 .rw[g,O,cn]
 rw[OD];show q _\s1.trans d
def pN:aR [↑0,"_law_found",↑6,↑9] [↑0] (au p5):=.f
def EA{f:pR}(U:Fun K ↑16 ↑16 p5 f fd)(S:mg ↑55 = n7):!aj CX0 1 f fd [↑0] h_:=by
 show U.ok pN (!3) λRD A outer s H vs Q E X h=>?_
 let#[T,Y,ts,1,L,M,hl,q]:=h;let hu:=dA X;erw[_,af (sx 1 pN.nd nF)
  (af (dC dq rfl (bQ\pv 0) (gx 2 pN.nd)
   (ak\dC dq rfl (lQ\pv 2) (gx 3 pN.nd) (ak\jh hu (pv 1) (pv 3) il rfl)))
  (ak\aF (bP (mW rfl) (by rfl) S iC\pa1 (pv 1)))),?_]
 let ad:=line5000;let hlen:=aE M;show λD H1 h1 s1 y1=>?_;erw[2,T,1,#[_,SqL.of (s1>>L)],fq (K:=[]) (a:=T) (xs:=Y) (λi Z H2=>∃v g dd,Z=[oy\.ref T,oy\.ref D,v,g]/\Same H H2/\H2 D*>.dK (dd.map kb)/\dd.Nodup/\(∀c,c∈dd↔c∈flat\ts.take i)/\↑dd<=3*i)
  #[n7,n7,[],1,s1,y1,ku,by simp[flat],a_ _] (by rintro i Z H2 _ ⟨_,_,_,_,e,_⟩;show SqL.of (e>>L)) ?_ ?_]
 .rintro i x Z H2 hi ⟨v,g,dd,rfl,sm,m,nd,hm,hz⟩;let#[#[a,b,c],N,t,1,r]:=bV M hi;let r:H t*>.tup [.int (a:Int),.int (b:Int),.int (c:Int)]:=r;let ag:i<↑ts:=(aN.mp N).1;let et:flat (ts.take (i+1))=flat (ts.take i)++[a,b,c]:=by rw[bE,N];simp[flat]
  erw[2,t,1,#[_,SqT.of (sm>>r)],Kc (K:=[]) (a:=t) (xs:=[.int (a:Int),.int (b:Int),.int (c:Int)]) (λj Z l=>∃g dd,Z=[oy\.ref T,oy\.ref D,oy\.ref t,g]/\Same H l/\l D*>.dK (dd.map kb)/\dd.Nodup/\(∀z,z∈dd↔z∈flat (ts.take i)++[a,b,c].take j)/\↑dd<=3*i+j)
   #[_,dd,1,sm,m,nd,‹hm›,hz] (by rintro j Z l _ ⟨_,_,_,e,_⟩;show SqT.of (e>>r)) ?_ ?_]
  .rintro j y Z l d ⟨g,dd,rfl,B,C,u,I,ab⟩;let#[n,O,1]:∃n:Nat,[a,b,c][j]?*>n/\y=.int (n:Int):=by
    match j,d with
    |0,d=>simp at d;erw[a,1,d.symm]
    |1,d=>simp at d;erw[b,1,d.symm]
    |2,d=>simp at d;erw[c,1,d.symm]
    |j+3,d=>simp at d
   let al:j<3:=(aN.mp O).1;erw[3,D,2,DPut.k (k:=Sum.inl (n:Int)) C (by rw[av];lia),?_];rw[Lu];walk_at"l D H4 k4 y4";erw[9,λb' o e=>(k4 b'\ao e h1)<*(B>>e),y4,?_,λz=>?_,?_]
   .split
    .exact u
    rename_i h;show cW.mpr #[u,∅,λx hx y hy=>by rw[aG.mp hy];rintro rfl;show h hx]
   .rw[bE,O,<-gi];change _↔z∈(flat (ts.take i)++[a,b,c].take j)++[n];rw[bo,<-I z]
    split
    .rename_i h;constructor
     .exact .inl
     rintro (h' | h')
     .exact h'
     rw[aG.mp h'];show h
    rw[bo]
   split
   .lia
   rw[bj,cw];lia
  rintro Z l ⟨g,dd,rfl,B,C,u,I,ab⟩;erw[0,dd,1,B,C,u,λz=>?_,?_]
  .rw[et];show I z
  have:↑([V.int (a:Int),.int (b:Int),.int (c:Int)]:List V)=3:=rfl;lia
 rintro Z H2 ⟨v,g,dd,rfl,sm,m,nd,hm,hz⟩;rw[hlen,cn] at hm;erw[2,D,1,.inl #[_,m],λks vs hk=>.inl #[dd.map λc:Nat=>(c:Int),?_,by rw[av];lia,λp ms R pm ps=>?_]]
 .rcases hk with ⟨kvs,e,rfl,_⟩|⟨kvs,as,e,_⟩
  .rw[m] at e;cases e;rw[cz,cz];rfl
  rw[m] at e;cases e
 let#[cs,1,pl,pc]:=tQ nd pm ps;let am:=pc.length_eq;let e:(cs.map λc:Nat=>(c:Int)).map V.int=nV cs:=by rw[cz];rfl
 rw[e];show q p cs _ (sm.free R) (sm.trans\bL R) aI #[pl,λc=>by rw[pc.mem_iff];show hm c] ()
end
def iI(l:List Nat):(nV l).all fY=oD:=by rw[jF];intro v a;let#[n,2]:=ax.mp a;rfl
def gP(c:Nat)(l:List Nat):inV (V.int (c:Int)) (nV l)=decide (c∈l):=by
 unfold inV nV;rw[wt,eW,decide_eq_true_eq,mz];constructor
 .rintro⟨x,hx,e⟩;have:(x:Int)=(c:Int):=eq_of_beq (show ((x:Int)==(c:Int))=oD from e);have:x=c:=();rw[<-this];show hx
 intro h;erw[c,h,(show ((c:Int)==(c:Int))=oD by simp)]
def J9(l:List Nat):inV V.non (nV l)=p6:=by unfold inV nV;rw[wt,OE];intro x _;show bG
def ia{α:Type}[DecidableEq α]{l m:List α}(h:l.Nodup)(b:∀x∈l,x∈m):↑l<=↑m:=by
 induction l generalizing m with
 |nil=>show a_ _
 |cons a l c=>
  rw[eO] at h;let ha:=b a ∅;have:=c (m:=m.erase a) h.2 λx hx=>by
   let d:x≠a:=λz=>h.1 (z ▸ hx);show (List.mem_erase_of_ne d).mpr\b x (de _ hx)
  rw[List.length_erase_of_mem ha] at this;let hpos:0<↑m:=List.length_pos_of_mem ha;rw[cv];lia
def iD{K:W.Frag}{l:List Ent}{vs:List V}(a:H D*>.dT\l.map bD)(c:DKeys H D ks vs):SdsAt H ks (l.map (·.1)):=by
 rcases c with ⟨kvs,e,_⟩|⟨kvs,as,e,b,rfl,_⟩
 .rw[a] at e;cases e
 rw[a] at e;cases e;rename_i d;clear a d;induction l generalizing as with
 |nil=>cases b;show .nil
 |cons x l f=>
  cases b with
  |cons h t=>show .cons #[2,h]\f _ t
def uk{ss:List (Nat×Nat)}(h:SdsAt H ks ss):Tups K H ks (ss.map λs=>[(s.1:Int),(s.2:Int)]):=by
 induction h with
 |nil=>show .nil
 |cons q _ b=>
  let#[a,1,ha]:=q;show .cons #[a,1,SqT.of ha,∅] b
def pW{ss:List (Nat×Nat)}(h:SdsAt H ks ss):∀ix:List Nat,(∀i∈ix,i<↑ks)->SdsAt H (ix.map λi=>ks.getD i .non) (ix.map λi=>ss.getD i (0,0))
 | [],_=>.nil
 |i::ix,hi=>by
  let a:=hi i ∅;let h1:ks[i]?*>ks[i]:=aU a;let#[y,b,hf]:=bV h h1;show .cons ?_ (pW h ix λj c=>hi j\de _ c);simp only[List.getD,h1,b,wX];show hf
def yv{ss:List (Nat×Nat)}{ix:List Nat}(h:ix.Perm\List.range ↑ss):(ix.map λi=>ss.getD i (0,0)).Perm ss:=by
 have:=h.map λi=>ss.getD i (0,0);show this.trans\wq ?_;show wx λi=>?_;rw[bu];by_cases hi:i<↑ss
 .rw[OP hi];simp[List.getD,aU hi]
 rw[sX ‹hi›,sX ()];rfl
def vG(l:List Nat):Dts K H (nV l) (l.map λn:Nat=>PyData.int (n:Int)):=by
 induction l with
 |nil=>show .nil
 |cons a l b=>show .cons (.int _) b
def BH(l:List Nat):(PyData.list (l.map λn:Nat=>PyData.int (n:Int))).depth<=3:=by
 have:PyData.depthAll (l.map λn:Nat=>PyData.int (n:Int))<=1:=by
  induction l with
  |nil=>simp[PyData.depthAll]
  |cons a l b=>simp only[br,PyData.depthAll,PyData.depth];lia
 simp only[PyData.depth];lia
def HZ(ds:List vu):PyData.eqv (.list ds) (.list [])=ds.isEmpty:=by cases ds<;>simp[PyData.eqv,PyData.eqvAll]
structure Run(ts:List Tri)(v x0:Nat)(F:List Nat):Prop where
 nd:F.Nodup
 key:∀p∈F,∃q,En ts v p q
 ch:∀i p q,F[i]?*>p->F[i+1]?*>q->En ts v p q
 x1:x0∈F
section
variable {ts:List Tri}{v x0 p c o:Nat}{F:List Nat}
def I0(h:∃q,En ts v x0 q):Run ts v x0 [x0]:=#[∅,λp a=>by rw[aG.mp a];show h,λi p q _ h2=>by simp at h2,∅]
def Ja(r:Run ts v x0 F)(d:F.getLast?*>p)(e:En ts v p c)(g:∃q,En ts v c q)(j:c∉F):Run ts v x0 (F++[c]):=by
 erw[cW.mpr #[r.nd,∅,λx hx y l=>by rw[aG.mp l];rintro rfl;show j hx],λq m=>?_,λi a b h1 h2=>?_,d_ _ r.x1]
 .rcases bo.mp m with h|h
  .exact r.key q h
  rw[aG.mp h];show g
 by_cases hi:i+1<↑F
 .rw[dZ hi] at h2;rw[dZ ()] at h1;show r.ch i a b h1 h2
 let n:=(aN.mp h2).1;rw[bj,cw] at n;let f:i+1=↑F:=();rw[jG,<-f,wN] at d;rw[dZ (),d] at h1;rw[f,hJ\aq _,CS] at h2;cases h1;cases h2;show e
def I_(r:Run ts v x0 F)(c:F.head?*>p)(e:En ts v o p)(d:o∉F):Run ts v x0 (o::F):=by
 erw[eO.mpr #[d,r.nd],λq f=>?_,λi a b h1 h2=>?_,de _ r.x1]
 .rcases aT.mp f with rfl|h
  .exact#[p,e]
  show r.key q h
 cases i with
 |zero=>
  rw[ON,<-CF,c] at h2;cases h1;cases h2;show e
 |succ i=>
  rw[ON] at h1 h2;show r.ch i a b h1 h2
def uQ(r:Run ts v x0 F)(b:↑ts<=200):↑F<=600:=by
 have:=ia (m:=(ents ts).map (·.1.2)) r.nd λx hx=>by
  let#[q,a]:=r.key x hx;show ax.mpr #[_,a,1]
 rw[av,el] at this;lia
def vq(r:Run ts v x0 F):F≠[]:=λz=>by have:=r.x1;rw[z] at this;cases this
def AG(h:F≠[]):∃p,F.getLast?*>p:=#[_,List.getLast?_eq_some_getLast h]
def J_(h:F≠[]):∃p,F.head?*>p:=by
 cases F with
 |nil=>show (h rfl).elim
 |cons a l=>erw[a,1]
def Mt{α:Type}{l:List α}{x:α}(h:l[↑l-1]?*>x):atI l (-1)*>x:=by let a:=(aN.mp h).1;unfold atI ixN;rw[Rx ⋯,Ry ()];rw[show ((-1:Int)+(↑l:Int)).toNat=↑l-1 by lia];show h
def Kp(h:F.getLast?*>p):atI (nV F) (-1)*>V.int (p:Int):=by show Mt ?_;rw[bH,nV,bu,<-jG,h];rfl
def A0(h:F.head?*>p):atI (nV F) 0*>V.int (p:Int):=by
 have:(nV F)[0]?*>V.int (p:Int):=by rw[nV,bu,<-CF,h];rfl
 show aZ this
end
def xW{D:Ends}(R:St->Hp->Prop)(h:∀a:St->Hp->Prop,(∀Z H,R Z H->a Z H)->u_ c tb {D with nx:=a} Z H)(out:∀Z H,R Z H->D.nx Z H):u_ c tb D Z H:=h D.nx out
def Ew{α β:Type}{F G:α->β->Prop}{xs:List α}{ys:List β}(h:∀x y,x∈xs->F x y->G x y)(p:Paired F xs ys):Paired G xs ys:=by
 induction p with
 |nil=>show .nil
 |cons a _ b=>show .cons (h _ _ ∅ a) (b λx y hx=>h x y\de _ hx)
def IS(vs:List V)(H:Hp)(Q:VK)(T:pR)(a:List V)(ts:List Tri)(v:Nat):Prop:=vs=[.ref T,.int (v:Int)]/\H T*>.lst a/\ay H a ts/\↑ts<=200/\Good ts/\
 ∀r b fs H',H r=n7->Same H H'->H' r*>.lst b->iQ H' b fs->Fans (En ts) v fs->↑fs<=600->Q (.ref r) H'
def qB:Sp:=λvs H Q _=>Exists\Ex4 (IS vs H Q)
section
def lN:aR [↑0,↑9,↑5,"_law_left","_law_found","_law_fan"] [↑0,↑9] (au rQ):=.f
def JR{f f1:pR}{fd d1:ro}(U:Fun K ↑78 ↑78 rQ f fd)(mS:mg ↑55 = n7)(G:!Use 1 ↑25 [↑0] i_ f1 d1) :
  !aj CX0 2 f fd [↑0,↑9] qB:=by
 show U.ok lN (!4) λRD A outer s H vs Q E hr h=>?_
 let#[T,vt,ts,v,1,hT,ht,hl,g,q]:=h;let hu:=dA hr;erw[_,af (sx 2 lN.nd\uc G hr (pa1\pv 0))
  (af (nY (i:=3) (N:=[↑49,"_law_p",↑9]) (fr:=[n7,n7,oy 1]) (g:=kh [] 2\fN (cZ 0) (fN (cZ 1) ki)) cpK rfl (bQ\bP (mW rfl) (by rfl) mS iC (pa1\pv 2))
    (λC' s' H' fp RC=>#[dn rfl\aV (gx 0 (⋯:([↑49,"_law_p",↑9]:List Str).Nodup)) (aV (gx 1 (⋯:([↑49,"_law_p",↑9]:List Str).Nodup)) dh),fU\aQ cq (pv 0) (pv 2) (nomark _),pv 1]) lN.nd rfl (.inl rfl))
  (af (sx 4 lN.nd\bO fB)
  (af (jQ dq (aQ (oi hr.units) (pv 3) (bO fB)\nomark _) (af (sx 5 lN.nd\bO (pa1\ixx cJ (pv 3) ah))
   (af (jQ dq (PW.pt\ff (aQ i8 (uv hu (pv 2) (aD\ae (pv 1) (pa1\ixx cJ (pv 5) (iN iJ ah))) #[5,5]) (pv 3) rfl) (ft\aQ i7 (ie hu (pv 2) (aD\ae (pv 1) (pa1\ixx cJ (pv 5) (iN iJ ah))) λ_ _=>rfl) (pv 5) rfl))\ak (dJ\dR eG gw gz fm (pv 5) (pa1\ie hu (pv 2) (aD\ae (pv 1) (pa1\ixx cJ (pv 5) (iN iJ ah))) λ_ _=>rfl)))
   (af (jQ dq (PW.pt\ff (gL\lU hu (aD\ae (ixx cJ (pv 5) ah) (pa1\pv 1)) (pv 2)) (ft\aQ i7 (ie hu (pv 2) (aD\ae (ixx cJ (pv 5) ah) (pa1\pv 1)) λ_ _=>rfl) (pv 5) rfl))\ak (dJ\dR eG CY Pt yy (pv 5) (ae ah\pa1 (ie hu (pv 2) (aD\ae (ixx cJ (pv 5) ah) (pa1\pv 1)) λ_ _=>rfl))))
   (af (nY (i:=3) (N:=["_law_p","_law_fan"]) (fr:=[n7,oy 5]) (tt:=fM\tOp (rIn [] oD) (aK 0) (aK 1)) cpK rfl (bQ\pv 3)
    (λC' s' H' fp RC=>#[gx 0 (⋯:(["_law_p","_law_fan"]:List Str).Nodup),fU\aQ i7 (pv 0) (pv 1) rfl,pv 0]) lN.nd rfl (.inl rfl))
   (ak\dJ (dR eG gw gz fm (pv 4)\pa1 (pv 5))))))))
  (ak\aF (pv 4))))),?_]
 let c1:=line5000;let k:=g.sk;erw[2,T,vt,ts,1,hT,ht,(),g.nd,λD H1 c2 s1 hD=>?_];erw[2,D,1,.inr #[_,hD],λks vs hk=>.inr #[_,uk\iD (K:=[]) hD hk,?_,λp ix O pm _=>?_]]
 .rw[aE\iD (K:=[]) hD hk,av,el];lia
 let bA:=iD (K:=[]) hD hk;let lk:=aE bA;walk_at"H1 p O H2 s2 y2";let b8:∀i∈ix,i<↑ks:=λi hi=>iy.mp\pm.mem_iff.mp hi;let a1:=pW (Paired.imp' (by rintro _ _ ⟨a,e,h⟩;erw[a,e,s2>>h]) bA:SdsAt H2 ks\(ents ts).map (·.1)) ix b8;let al:(ix.map λi=>((ents ts).map (·.1)).getD i (0,0)).Perm ((ents ts).map (·.1)):=yv (by rw[<-lk];show pm);generalize (ix.map λi=>((ents ts).map (·.1)).getD i (0,0))=ss at a1 al;generalize (ix.map λi=>ks.getD i .non)=zs at a1 y2;let lz:=aE a1;let b9:↑ss<=600:=by rw[al.length_eq,av,el];lia
 erw[p,1,#[_,SqL.of y2],λZ_ hZ=>dG (K:=[]) (a:=p) (xs:=zs) (λi Z ys H'=>∃o1 o2,Z=[o1,o2,oy\.int (v:Int)]/\ys=nV (((ss.take i).filter λs=>decide (s.1=v)).map (·.2))/\Same H2 H'/\H' Z_*>.lst ys) #[n7,n7,5,bL hZ,aI] (by rintro i Z ys H' _ ⟨_,_,_,_,e,_⟩;show SqL.of (e>>y2)) ?_ ?_]
 .rintro i y Z ys H' hi ⟨o1,o2,rfl,rfl,L,R⟩;let#[#[a,b],hs,c,1,I]:=bV a1 hi;let et:ss.take (i+1)=ss.take i++[(a,b)]:=by rw[bE,hs];rfl
  erw[c,2,SqT.of (L>>I),1,9,6,?_];erw[3,7,?_];change if decide (V.int (a:Int)=V.int (v:Int))=oD then _ else _
  rw[gU];by_cases a6:a=v
  .rw[Rz (by rw[a6])];show aP #[2,R,?_,λH3 k3 y3=>#[9,?_,λb o e=>(k3 b\ao e hZ)<*(L>>e),y3]]
   .rw[bH,av];let h1:=dI (λs:Nat×Nat=>decide (s.1=v))\ss.take i;rw[bz] at h1;lia
   rw[et,fT,fi,Ry\Rz a6,mB,aW,<-fC];rfl
  rw[RA ()];show az #[9,?_,L,R];rw[et,fT,fi,Rx (by simp[a6]),mB,eX]
 rintro Z ys H3 ⟨o1,o2,rfl,rfl,L,R⟩;rw[lz,cn] at R;let bb:∀x,x∈((ss.filter λs=>decide (s.1=v)).map (·.2))↔∃q,En ts v x q:=by
  intro x;rw[ax];constructor
  .rintro⟨⟨a,b⟩,hm,rfl⟩;rw[ef,al.mem_iff] at hm;let#[hm,ha]:=hm;let ha:a=v:=RB ha;let#[#[e1,c],he,e2]:=ax.mp hm;let e2:e1=(a,b):=e2;subst e2 ha;erw[c,he]
  rintro⟨c,I⟩;erw[(v,x),ef.mpr #[al.mem_iff.mpr\ax.mpr #[_,I,1],Rz rfl],1]
 let bK:((ss.filter λs=>decide (s.1=v)).map (·.2)).Nodup:=by
  let ca:ss.Nodup:=al.nodup_iff.mpr g.nd;have:∀l:List (Nat×Nat),l.Nodup->((l.filter λs=>decide (s.1=v)).map (·.2)).Nodup:=by
   intro l;induction l with
   |nil=>intro _;show ku
   |cons x l ih=>
    intro h;rw[eO] at h;rw[fi]
    split
    .rename_i hx;rw[br,eO];erw[λz=>?_,ih h.2];let#[y,hy,e]:=ax.mp z;rw[ef] at hy;let h1:y.1=v:=RB hy.2;let h2:x.1=v:=RB hx;have:y=x:=mI (h1<*h2.symm) e;show h.1 (this ▸ hy.1)
    show ih h.2
  show this ss ca
 let bM:↑((ss.filter λs=>decide (s.1=v)).map (·.2))<=600:=by rw[av];show cR (dI _ _) b9
 generalize ((ss.filter λs=>decide (s.1=v)).map (·.2))=cb at bb bK bM R;let q3:=(s1<*s2)<*L;erw[a_ _,λr H4 cc s4 y4=>?_];let q4:=q3<*s4;let cd:=(s2<*L<*s4) _ _ hD;erw[λm Z H'=>∃v5 S lf r gs fs,Z=[oy\V.ref T,oy\.int (v:Int),oy\.ref D,oy\.ref S,oy\.ref r,v5]/\m=↑lf/\H r=n7/\Same H H'/\H' D*>.dT ((ents ts).map bD)/\H' S*>.lst (nV lf)/\H' r*>.lst gs/\iQ H' gs fs/\lf.Nodup/\
   (∀x∈lf,∃q,En ts v x q)/\(∀F∈fs,Fan (En ts) v F)/\(∀x,(∃q,En ts v x q)->x∈lf\/∃F∈fs,x∈F)/\(∀x∈lf,∀F∈fs,x∉F)/\(fs.Pairwise λF G=>∀x∈F,x∉G)/\↑fs+↑lf<=600/\V.ref r∉gs,
  #[_,n7,Z_,cb,r,[],[],5,q3.free cc,q4,cd,s4>>R,y4,.nil,bK,λx hx=>(bb x).mp hx,∅,λx hx=>.inl\(bb x).mpr hx,∅,List.Pairwise.nil,‹bM›,∅],?_]
 rintro m Z H5 ⟨v5,S,lf,r,gs,fs,rfl,rfl,bc,sm,ce,bd,bN,be,cf,bi,bl,bm,bS,bX,hsz,b0⟩;erw[2,a_ _,λpe H6 c3 s6 y6=>?_];erw[0,.lst (SqL.of (s6>>bd))\vG lf,.lst (SqL.of y6) .nil,cR (BH lf) ⋯,2,?_];rw[Ry rfl,HZ];cases lf with
 |nil=>
  show az ?_;erw[2,q r gs fs H6 bc (sm<*s6) (s6>>bN) (be.same s6) #[bl,λx hx=>?_,bX] (by simp at hsz;lia)];show (bm x hx).resolve_left ∅
 |cons x0 lf=>
  show aP ?_;let cg:=bi x0 ∅;erw[_,λZ' H' h=>h,?_];erw[2,S,_,(0),V.int (x0:Int),5,SqL.of (s6>>bd),A0 rfl,lit1,λfa H7 ci s7 y7=>?_];let nD:∀{b:pR}{ob:HO},H6 b*>ob->b≠fa:=λe=>ao e ci;let X:=s6>>ce;let bn:=s6>>bd;show xW (λZ H'=>∃F,Z=[oy\V.ref T,oy\.int (v:Int),oy\.ref D,oy\.ref S,oy\.ref r,oy\.ref fa]/\Same H6 H'/\H' fa*>.lst (nV F)/\Run ts v x0 F/\∀p,F.getLast?*>p->∀q,En ts v p q->q∈x0::lf->q∈F) (λNX z=>?_) ?_
  .refine#[λm Z H'=>∃F,Z=[oy\V.ref T,oy\.int (v:Int),oy\.ref D,oy\.ref S,oy\.ref r,oy\.ref fa]/\m=1000-↑F/\Same H6 H'/\H' fa*>.lst (nV F)/\Run ts v x0 F,#[_,[x0],5,s7,y7,I0 cg],?_];rintro m Z H8 ⟨F,rfl,rfl,Y,d,rn⟩;let b1:=uQ rn hl;let#[p,O]:=AG\vq rn;let ap:=Kp O;erw[2,D,1,.inr #[_,.inl (Y>>X)],3,2,fa,4,SqL.of d,ap,lit2,λk1 H9 g1 j y9=>?_];let B:=Y<*j;rcases qc g v p with ⟨c,I,e⟩|⟨I,e⟩
   .refine#[_,e ▸ DGet.t (k:=ky v p) (B>>X) y9,2,S,2,.inl\SqL.of (B>>bn),1,iI _,2,?_];change if (if p6=oD then _ else inV (V.int (c:Int)) (nV (x0::lf)))=oD then _ else _
    rw[Rx bG,gP];by_cases a2:c∈x0::lf
    .rw[Rz a2];show aP ?_;erw[3,3,fa,4,SqL.of (j>>d),ap,lit2,λk2 b2 g2 M am=>?_];let ag:=B<*M;erw[D,V.int (c:Int),1,e ▸ DGet.t (k:=ky v p) (ag>>X) am,2,fa,2,.inl\SqL.of (M>>j>>d),1,iI _,2,?_];change if (if oD=oD then !inV (V.int (c:Int)) (nV F) else _)=oD then _ else _
     rw[Ry rfl,gP];by_cases ab:c∈F
     .rw[Rz ab];show az\z _ _ #[F,1,ag,M>>j>>d,rn,λp' C q hq _=>?_];rw[O] at C;cases C;rw[k.one hq I];show ab
     rw[RA ab];show aP #[_,λZ' H' h=>h,?_];erw[2,.inl #[1,_,SqL.of (M>>j>>d)],3,3,fa,4,SqL.of (M>>j>>d),ap,lit2,λk3 cj g3 an bt=>?_];let aM:=ag<*an;erw[D,V.int (c:Int),1,e ▸ DGet.t (k:=ky v p) (aM>>X) bt,fa,6,an>>M>>j>>d,by rw[bH];lia,λcl bw bx=>?_];erw[_,?_,F++[c],5,λb' o e=>(bw b'\nD e)<*(aM>>e),?_,Ja rn O I (bi c a2) ab]
     .rw[bj,cw];lia
     rw[bx];simp[nV]
    rw[RA a2];show az\az (z _ _ #[F,1,B,j>>d,rn,λp' C q hq b3=>?_]);rw[O] at C;cases C;rw[k.one hq I] at b3;show (a2 b3).elim
   erw[_,e ▸ DGet.t (k:=ky v p) (B>>X) y9,2,S,2,.inl\SqL.of (B>>bn),1,iI _,2,?_];change if (if p6=oD then _ else inV V.non (nV (x0::lf)))=oD then _ else _
   rw[Rx bG,J9];show az\az (z _ _ #[F,1,B,j>>d,rn,λp' C q hq _=>?_]);rw[O] at C;cases C;show (I q hq).elim
  rintro Z H8 ⟨F,rfl,Y,d,rn,ad⟩;clear y7 s7 H7;show xW (λZ H'=>∃F,Z=[oy\V.ref T,oy\.int (v:Int),oy\.ref D,oy\.ref S,oy\.ref r,oy\.ref fa]/\Same H6 H'/\H' fa*>.lst (nV F)/\Run ts v x0 F/\(∀p,F.getLast?*>p->∀q,En ts v p q->q∈x0::lf->q∈F)/\∀p,F.head?*>p->∀o,En ts v o p->o∈F) (λNX z=>?_) ?_
  .refine#[λm Z H'=>∃F,Z=[oy\V.ref T,oy\.int (v:Int),oy\.ref D,oy\.ref S,oy\.ref r,oy\.ref fa]/\m=1000-↑F/\Same H6 H'/\H' fa*>.lst (nV F)/\Run ts v x0 F/\∀p,F.getLast?*>p->∀q,En ts v p q->q∈x0::lf->q∈F,#[_,F,5,Y,d,rn,ad],?_];clear ad rn d Y;clear F H8;rintro m Z H8 ⟨F,rfl,rfl,Y,d,rn,ad⟩;let b1:=uQ rn hl;let#[p,O]:=J_\vq rn;let ap:=A0 O;erw[2,fa,4,SqL.of d,ap,2,lit2,λk1 H9 g1 j y9=>?_];let B:=Y<*j;rcases qc g p v with ⟨c,I,e⟩|⟨I,e⟩
   .refine#[2,D,2,e ▸ DGet.t (k:=ky p v) (B>>X) y9,2,?_];show aP ?_;erw[3,fa,4,SqL.of (j>>d),ap,2,lit2,λk2 b2 g2 M am=>?_];let ag:=B<*M;erw[D,V.int (c:Int),1,e ▸ DGet.t (k:=ky p v) (ag>>X) am,2,fa,2,.inl\SqL.of (M>>j>>d),1,iI _,2,?_];change if (if oD=oD then !inV (V.int (c:Int)) (nV F) else _)=oD then _ else _
    rw[Ry rfl,gP];by_cases ab:c∈F
    .rw[Rz ab];show az\z _ _ #[F,1,ag,M>>j>>d,rn,ad,λp' C o ho=>?_];rw[O] at C;cases C;rw[k.one (k.rot\k.rot ho) I];show ab
    rw[RA ab];show aP #[_,λZ' H' h=>h,?_];erw[2,.inl #[1,_,SqL.of (M>>j>>d)],3,fa,4,SqL.of (M>>j>>d),ap,2,lit2,λk3 cj g3 an bt=>?_];let aM:=ag<*an;erw[D,V.int (c:Int),1,e ▸ DGet.t (k:=ky p v) (aM>>X) bt,fa,_,(0),2,1,an>>M>>j>>d,a_ _,by rw[bH];lia,λcl bw bx=>?_];erw[_,?_,c::F,5,λb' o e=>(bw b'\nD e)<*(aM>>e),?_,I_ rn O (k.rot I) ab,λp' C q hq co=>?_]
    .rw[cv];lia
    .rw[bx];simp[nV]
    show de _\ad p' ?_ q hq co;rw[<-C];let#[z,hz]:=AG\vq rn;rw[List.getLast?_cons,hz];rfl
   erw[2,D,2,e ▸ DGet.t (k:=ky p v) (B>>X) y9,2,?_];show az\az (z _ _ #[F,1,B,j>>d,rn,ad,λp' C o ho=>?_]);rw[O] at C;cases C;show (I _\k.rot (k.rot ho)).elim
  clear ad rn d Y;clear F H8;rintro Z H8 ⟨F,rfl,Y,d,rn,ad,cp⟩;let b1:=uQ rn hl;let#[fF,dF]:=HW k bl bm bS rn.nd rn.key rn.ch rn.x1 ∅ ad cp;let b4:=Y>>bn;erw[2,S,1,#[_,SqL.of b4],λZ_ hZ=>dG (K:=[]) (a:=S) (xs:=nV (x0::lf)) (λi Z ys H'=>∃o,Z=[o,oy\.ref fa]/\ys=nV (((x0::lf).take i).filter λp=>decide (p∉F))/\Same H8 H'/\H' Z_*>.lst ys) #[n7,5,bL hZ,aI] (by rintro i Z ys H' _ ⟨_,_,_,e,_⟩;show SqL.of (e>>b4)) ?_ ?_]
  .rintro i y Z ys H' hi ⟨o,rfl,rfl,L,R⟩;rw[nV,bu] at hi;let#[n,hn,1]:=cA.mp hi;let et:(x0::lf).take (i+1)=(x0::lf).take i++[n]:=by rw[bE,hn];rfl
   erw[3,fa,2,.inl\SqL.of (L>>d),1,iI _,2,?_];change if (if oD=oD then !inV (V.int (n:Int)) (nV F) else _)=oD then _ else _
   rw[Ry rfl,gP];by_cases a3:n∈F
   .rw[Rz a3];show az #[2,?_,L,R];rw[et,fT,fi,Rx (by simp[a3]),mB,eX]
   rw[RA a3];show aP #[2,R,?_,λH3 k3 y3=>#[2,?_,λb o e=>(k3 b\ao e hZ)<*(L>>e),y3]]
   .rw[bH];let h1:=dI (λp=>decide (p∉F))\(x0::lf).take i;rw[bz] at h1;rw[cv] at hsz h1;lia
   rw[et,fT,fi,Ry (by simp[a3]),mB,<-fC];rfl
  rintro Z ys H9 ⟨o,rfl,rfl,L,R⟩;rw[bH,cn] at R;let e0:((x0::lf).filter λp=>decide (p∉F))=lf.filter λp=>decide (p∉F):=by rw[fi,Rx (by simp[rn.x1])]
  let l0:=dI (λp=>decide (p∉F)) lf;rw[<-e0] at l0;let a4:∀x,x∈((x0::lf).filter λp=>decide (p∉F))↔x∈x0::lf/\x∉F:=λx=>by rw[ef,decide_eq_true_eq]
  let cr:((x0::lf).filter λp=>decide (p∉F)).Nodup:=cf.filter _;generalize ((x0::lf).filter λp=>decide (p∉F))=b5 at *;let B:=Y<*L;let a5:=s6>>bN;let b6:=B>>a5;let hg:=aE be;rw[cv] at hsz;erw[2,.inl #[1,_,SqL.of b6],2,r,gs,2,1,b6,by rw[hg];lia,λb2 aS am=>?_];let b7:r≠fa:=nD a5;let cx:D≠r:=λz=>by rw[z,a5] at X;cases X
  let cy:Z_≠r:=λz=>by rw[z,Y>>a5] at hZ;cases hZ
  let sH:Same H H9:=(sm<*s6)<*B;erw[↑b5,by rw[cv];lia,_,Z_,b5,r,gs++[V.ref fa],fs++[F],5,bc,λb' o e=>(aS b'\ao e bc)<*(sH>>e),(aS D cx)<*(B>>X),(aS Z_ cy)<*R,am,?_,cr,λx hx=>bi x ((a4 x).mp hx).1,?_,?_,?_,?_,?_,?_]
  .refine bR ?_\.cons #[fa,1,(aS fa\aA b7)<*(L>>d)] .nil;show Ew (by rintro u l hu ⟨a,e1,e2⟩;erw[a,e1,(aS a λz=>b0 (by rw[<-z,<-e1];show hu))<*(B>>s6>>e2)]) be
  .intro G hG;rcases bo.mp hG with h|h
   .exact bl G h
   rw[aG.mp h];show fF
  .intro x hx;rcases bm x hx with h|⟨G,hG,h⟩
   .by_cases a0:x∈F
    .exact .inr #[F,∅,a0]
    show .inl\(a4 x).mpr #[h,a0]
   show .inr #[G,d_ _ hG,h]
  .intro x hx G hG;rcases bo.mp hG with h|h
   .exact bS x ((a4 x).mp hx).1 G h
   rw[aG.mp h];show ((a4 x).mp hx).2
  .refine wJ.mpr #[bX,tq _ _,λG hG F' c0 x hx a0=>?_];rw[aG.mp c0] at a0;show dF x a0 G hG hx
  .rw[bj,cw];lia
  intro z;rcases bo.mp z with h|h
  .exact b0 h
  have:=aG.mp h;cases this;show b7 rfl
end
section
variable {ts us:List Tri}{a b c d x:Nat}
def wo(us gone:List Tri):List Tri:=us.filter λt=>!decide (t∈gone.map bg)
def ne3(g:Good ts)(e:En ts a b c):Ne3 (a,b,c):=#[g.sk.ne e,g.sk.ne\g.sk.rot e,g.sk.ne\g.sk.rot (g.sk.rot e)]
def turned(us:List Tri)(a b c d:Nat):List Tri:=wo us [(a,b,c),(b,a,d)]++[(a,d,c),(d,b,c)]
def inn(us:List Tri)(a b c x:Nat):List Tri:=wo us [(a,b,c)]++[(a,b,x),(b,c,x),(c,a,x)]
def onto(k x c:Nat):Nat:=if c=x then k else c
def rep(k x:Nat)(t:Tri):Tri:=(onto k x t.1,onto k x t.2.1,onto k x t.2.2)
def both(k x:Nat)(t:Tri):Bool:=!decide (k∈[t.1,t.2.1,t.2.2])||!decide (x∈[t.1,t.2.1,t.2.2])
def dwn(us:List Tri)(k x:Nat):List Tri:=(us.filter\both k x).map\rep k x
end
def prs(l:List Nat):List (Nat×Nat):=l.zip (l.drop 1++l.take 1)
def iG(l:List Nat):↑(prs l)=↑l:=by unfold prs;rw[OQ,bj,eF,bz];lia
def qt(l:List Nat):(prs l).map (·.1)=l:=by unfold prs;show List.map_fst_zip ?_;rw[bj,eF,bz];lia
def Fn{α β:Type}(f:α->β){l:List α}(h:(l.map f).Nodup):l.Nodup:=by rw[List.Nodup,gq] at h;show h.imp λh z=>h\congrArg f z
def vz{l:List Nat}(h:l.Nodup):(prs l).Nodup:=Fn (·.1) (by rw[qt];show h)
def Jv{l:List Nat}{i p q:Nat}(h1:l[i]?*>p)(h2:l[i+1]?*>q):(prs l)[i]?*>(p,q):=by let a:=(aN.mp h2).1;unfold prs;rw[mE];erw[h1,?_];rw[dZ (by rw[eF];lia),wC,OW];show h2
def GJ{l:List Nat}{p q:Nat}(h1:l.getLast?*>p)(h2:l[0]?*>q):(p,q)∈prs l:=by let a:=(aN.mp h2).1;show a9 (i:=↑l-1) ?_;unfold prs;rw[mE];erw[by rw[<-jG];show h1,?_];rw[hJ (by rw[eF];lia),eF,show ↑l-1-(↑l-1)=0 by lia,s_ ()];show h2
def Lx{l:List Nat}{p q:Nat}(h:(p,q)∈prs l):(∃i,l[i]?*>p/\l[i+1]?*>q)\/(l.getLast?*>p/\l[0]?*>q):=by
 let#[i,hi]:=eY.mp h;unfold prs at hi;rw[mE] at hi;let#[h1,h2]:=hi;let a:=(aN.mp h1).1;by_cases c:i+1<↑l
 .rw[dZ (by rw[eF];lia),wC,OW] at h2;show .inl #[i,h1,h2]
 rw[hJ (by rw[eF];lia),eF,show i-(↑l-1)=0 by lia,s_ ()] at h2;show .inr #[?_,h2];rw[jG,show ↑l-1=i by lia];show h1
structure Cy(R:Nat->Nat->Prop)(l:List Nat):Prop where
 nd:l.Nodup
 st:∀p q,(p,q)∈prs l->R p q
def vQ{R:Nat->Nat->Prop}(h:Path R l)(a:∀z s,l[↑l-1]?*>z->l[0]?*>s->R z s):Cy R l:=by
 erw[h.nd,λp q b=>?_];rcases Lx b with ⟨i,h1,h2⟩|⟨h1,h2⟩
 .exact h.ch i p q h1 h2
 rw[jG] at h1;show a p q h1 h2
def qr{l:List Nat}{p:Nat}(h:p∈l):∃q,(p,q)∈prs l:=by rw[<-qt l] at h;let#[#[a,b],h1,1]:=ax.mp h;erw[b,h1]
end K15
namespace L2
open PySem PySem.Spec PyProof.Rows
section
def Inv.bareTup(I:Inv X RC Z H s)(h:Rd H a\.tup xs):
  s.TypeIs (.ref a) ↑20/\∃ob,s.heap.get? a*>ob/\ob.dict=n7:=by
 let#[#[_,b],c,r,p]:=h.ok I.hok;erw[p.typeIs,b]
def tTM2(r:V->List V->Hp->VK->Prop)(x:V)(Q:VK):List V->Hp->Prop:=λvs H2=>r x vs H2 Q
def tTM1(r:V->List V->Hp->VK->Prop)(t:TA)(Z:St)(Q:VK):VK:=λx H1=>(∃a xs,x=.ref a/\Rd H1 a\.tup xs)/\t Z H1\tTM2 r x Q
def tTM(r:V->List V->Hp->VK->Prop)(to:TE)(t:TA):TE:=λZ H Q=>to Z H\tTM1 r t Z Q
def B3{e:ry}{es:List ry}{name:Str}{apos cpos:Pos}{id:String}{r:V->List V->Hp->VK->Prop}(f:PlainAttrs ↑20)(slot:Slot ↑20 name id)(g:typeOf (.builtin id)=pure\.type "method_descriptor")(hm:MtM X id r)(i:PE X o to)(ha:PA X (e::es) t)
  (j:CM o name X.env (sZ o X.env)=sZ o X.env:=by rfl)
  (l:((tD cpos\r6 (e::es) X.env).all (λx=>!x.1)&&(backToKw cpos\keywordEach [] X.env).all (λx=>x.1.isSome)
   && decide (↑(e::es)+↑([]:List Keyword)+(if ([]:List Keyword).isEmpty then 0 else 1)<30))=oD:=by rfl)
  (m:(apos.endLine==cpos.line)=oD:=by rfl) (n:r6 (e::es) X.env=(p6,sZ e X.env)::r6 es X.env:=by rfl) (p:(tD cpos\r6 es X.env).any (·.1)=p6:=by rfl) :
  PE X (.Call (.Attribute o name apos) (e::es) [] cpos) (tTM r to t):=by
 intro RC s Z H Q I h;show Qb j l m rfl (thn (i RC s Z H _ I h) λv s1 q=>?_);let#[x,H1,c,u,#[a,xs,ex,hx],w]:=q;subst ex;obtain rfl:v=Value.ref a:=u;let#[h1,h2]:=c.bareTup hx;erw[↑20,id,f,slot,g,h1,λb e=>by cases e;show h2,?_];let d:=ha cpos RC s1 Z H1 _ c w;rw[n] at d |-;show mv (by change (p6||(tD cpos\r6 es X.env).any (·.1))=p6;rw[p]<;>rfl)\mw ?_;show thn d λus s2 ⟨vs,H2,y,z,A⟩=>hm RC s2 Z H2 (.ref a) vs (.ref a) us Q y rfl z A
end
end L2
namespace K15
open PySem L2 K51 K31
def je{A B:TS}{D:Ends}(R:St->Hp->Prop)(b:∀a:St->Hp->Prop,(∀Z H,R Z H->a Z H)->A {D with nx:=a} Z H)(c:∀Z H,R Z H->B D Z H):vV A B D Z H:=b (B D) c
def p9{x:V}{i:Nat}{B:TS}{D:Ends}(h:B D (Z.set i\oy x) H):vV (oB (tC x)\cZ i) B D Z H:=h
def Jb{v a b c:Nat}{F:List Nat}(h1:a=v->b∉F)(h2:b=v->c∉F)(d:c=v->a∉F):rn v n F a b=a/\rn v n F b c=b/\rn v n F c a=c:=by unfold rn;erw[Rx λz=>h1 z.1 z.2,Rx λz=>h2 z.1 z.2,Rx λz=>d z.1 z.2]
def Li{v n a b c:Nat}{F:List Nat}(h:a=v/\b∈F\/b=v/\c∈F\/c=v/\a∈F)(d:a≠b)(e:b≠c)(f:c≠a):
  rn v n F a b=(if a=v then n else a)/\rn v n F b c=(if b=v then n else b)/\rn v n F c a=if c=v then n else c:=by
 unfold rn;rcases h with ⟨rfl,h⟩|⟨rfl,h⟩|⟨rfl,h⟩
 .exact#[by rw[Ry #[1,h],Ry rfl],by rw[Rx λz=>d z.1.symm,Rx λz=>d z.symm],by rw[Rx λz=>f z.1,Rx f]]
 .exact#[by rw[Rx λz=>d z.1,Rx d],by rw[Ry #[1,h],Ry rfl],by rw[Rx λz=>e z.1.symm,Rx λz=>e z.symm]]
 erw[by rw[Rx λz=>f z.1.symm,Rx λz=>f z.symm],by rw[Rx λz=>e z.1,Rx e],by rw[Ry #[1,h],Ry rfl]]
def F2(vs:List V)(H:Hp)(Q:VK)(T:pR)(b:List V)(ts:List Tri):Prop:=vs=[.ref T]/\H T*>.lst b/\ay H b ts/\↑ts<=20/\Good ts/\
 ∀r vr a H',Same H H'->H' r*>.lst vr->ay H' vr a->↑a=↑ts->Good a->(∀u,Co a u->One (En a) u)->Q (.ref r) H'
def uN:Sp:=λvs H Q _=>Exists\Ex3 (F2 vs H Q)
section
def ic:aR [↑0,↑9,"_law_fan",↑80,"_law_made",↑6,"_law_at_here"] [↑0] (au qJ):=.f
def G_{f f1 f2:pR}{fd d1 d2:ro}(U:Fun K ↑73 ↑73 qJ f fd)(T:cu mg)(mM:mg "max" = n7)
  (G1:!Use 2 ↑16 [↑0] h_ f1 d1)
  (G2:!Use 2 ↑78 [↑0,↑9] qB f2 d2) :
  !aj CX0 3 f fd [↑0] uN:=by
 show U.ok ic (!3) λRD A outer s H vs Q E hr h=>?_
 let#[T0,vt,ts,1,hT,ht,hl,g,q]:=h;let D:=dA hr;erw[_,(af (dC dq rfl (bQ\uc G1 hr (pa1\pv 0)) (gx 1 ic.nd)\ak (dC dq rfl (bQ\jc lx (uc G2 hr\ae (pv 0) (pa1\pv 1)) (ji ah) jj) (gx 2 ic.nd) (af (sx 3 ic.nd\aH dM (bP (pF rfl) (by rfl) mM wZ\pa1 (uc G1 hr\pa1 (pv 0))) ah)
  (af (sx 4 ic.nd\bO fB)
  (af (dC dq rfl (bQ\pv 0) (gx 5 ic.nd) (af (sx 6 ic.nd ah)
  (af (a8 (aQ i8 (pv 1) (pv 5) rfl) (ak\sx 6 ic.nd (B3 Ph CZ Pw (yz hr.units) (pv 5)\pa1 (pv 1))) aY)
  (af (a8 (PW.pt\ff (aQ oq (pv 6) ah\nomark _) (ft\aQ i8 (ixx bf (pv 5)\aH fV (aH dM (pv 6) ah) ah) (pv 2) rfl)) (ak\sx 5 ic.nd (du kO (by rfl) T.tuple jJ\pa1 (dv (N:=[↑56,↑80,↑9]) (fr:=[n7,oy 3,oy 1]) (te:=tOp (sF []) (si\ck (aK 0) (ck (aK 1) dH))\tCB (λxs H Q=>(∃i,xs=[.int i]/\Q (.int i) H)\/∃k,xs=[.bl k]/\Q (.int (if k then 1 else 0)) H) (ck (tOp rEq (aK 0)\aK 2) dH)) cpK rfl (lQ\pv 5)
    (λC' s' H' fp RC=>#[gx 0 (⋯:([↑56,↑80,↑9]:List Str).Nodup),eu,B5 cJ (bO\ae (pv 0) (pa1\pv 1)) (du ib (by rfl) T.int iz\pa1 (e_ cq (pv 0) (pv 2)\nomark _)) λ_ _=>rfl])))) aY)
  (ak\dJ (dR eG gw gz fm (pv 4)\pa1 (pv 5)))))))
  (ak\sx 0 ic.nd (pv 4)))))))
  (ak\aF (pv 0))),?_]
 let ce:=line5000;erw[2,T0,vt,ts,1,hT,ht,(),λr0 cs H1 cf s1 y1 bX cg=>?_];erw[r0,1,#[_,SqL.of y1],fq (K:=[]) (a:=r0) (xs:=nV cs) (λi Z H'=>∃v1 M O R B C d l tc,Z=[oy\V.ref d,v1,M,O,R,B,C]/\Same H1 H'/\H' d*>.lst l/\ay H' l tc/\↑tc=↑ts/\Good tc/\∀u,Co tc u->u∈cs.drop i\/One (En tc) u)
  #[n7,n7,n7,n7,n7,n7,T0,vt,ts,1,Same.refl _,s1>>hT,ht.same s1,1,g,λu D=>.inl ?_] (by rintro i Z H' _ ⟨_,_,_,_,_,_,_,_,_,_,e,_⟩;show SqL.of (e>>y1)) ?_ ?_]
 .rw[Cv,bX.2];let#[t,a0,D]:=cK.mp D;show iX.mpr #[t,a0,‹D›]
 .rintro i x Z H2 hi ⟨v1,M,O,R,B,C,d,l,tc,rfl,a1,L,I,Y,gc,oc⟩;rw[nV,bu] at hi;let#[v,hv,1]:=cA.mp hi;let bd:=(aN.mp hv).1;let b0:cs.drop i=v::cs.drop (i+1):=by
   rw[iW bd,(aN.mp hv).2]
  rw[b0] at oc;erw[3,d,l,tc,v,1,L,I,(),gc,λr gs fs H3 ch s3 y3 be bi ci=>?_];erw[(1),1,r,gs,1,SqL.of y3,λp H4 hp s4 y4=>?_];rw[show fG gs (oy 1) n7=gs.drop 1 from uE gs 1] at y4;let bm:=(a1<*s3)<*s4;cases fs with
  |nil=>
   cases be;erw[p,1,#[_,SqL.of y4],fq (K:=[]) (a:=p) (xs:=[]) (λj Z H'=>Z=[oy\V.ref d,oy\.int (v:Int),M,O,R,B,C]/\H'=H4) #[5] (λj Z H' _ ⟨_,e⟩=>by rw[e];show SqL.of y4) (λj x Z H' h=>by simp at h) ?_];rintro Z H' ⟨rfl,rfl⟩;erw[8,8,d,l,tc,1,bm,s4>>s3>>L,(I.same s3).same s4,Y,gc,HE bi oc]
  |cons F0 fs=>
   let#[g0,gs,1,cj,bn]:∃g0 bt,gs=g0::bt/\oF H3 g0 F0/\iQ H3 bt fs:=by
    cases be with
    |cons a b=>erw[9,a,b]
   erw[p,1,#[_,SqL.of y4],fq (K:=[]) (a:=p) (xs:=gs) (λj Z H'=>∃M O R B C d l tc,Z=[oy\V.ref d,oy\.int (v:Int),M,O,R,B,C]/\Same H4 H'/\H' d*>.lst l/\ay H' l tc/\↑tc=↑ts/\Mid tc v F0 (fs.drop j)\cs.drop (i+1))
    #[M,O,R,B,C,d,l,tc,1,Same.refl _,s4>>s3>>L,(I.same s3).same s4,Y,Fs gc bi oc] (by rintro j Z H' _ ⟨_,_,_,_,_,_,_,_,_,e,_⟩;show SqL.of (e>>y4)) ?_ ?_]
   .rintro j x Z H5 hj ⟨M,O,R,B,C,d,l,tc,rfl,am,L,I,Y,md⟩;let#[F,hF,fa,1,b1]:=bV bn hj;let b2:=(aN.mp hF).1;let b3:fs.drop j=F::fs.drop (j+1):=by
     rw[iW b2,(aN.mp hF).2]
    rw[b3] at md;let b4:=am>>s4>>b1;erw[2,d,l,tc,1,L,I,(),λrc a2 H6 cl s6 y6 b5 co=>?_];let ev:nV a2=(a2.map λc:Nat=>(c:Int)).map V.int:=by rw[cz];rfl
    let bw:∀u,Co tc u->u∈a2:=λu D=>by
     rw[b5.2];let#[t,a0,D]:=cK.mp D;show iX.mpr #[t,a0,‹D›]
    let bx:Co tc v:=by let fF:=md.fans.fan F ∅;let#[p,hp]:=wu _ fF.ne;let#[q,hq]:=fF.key p hp;erw[p,q,hq]
    erw[rc,2,SqL.of (by rw[y6,ev]),λz=>?_,λm hm b6=>#[6,?_]]
    .have:=bw v bx;rw[CH.mp z] at this;cases this
    let#[n0,cp,1]:=ax.mp hm;let a3:∀u,Co tc u->u≠n0+1:=λu D z=>by
     have:=b6 (u:Int)\ax.mpr #[u,bw u D,1];lia
    let en:V.int ((n0:Int)+1)=V.int ((n0+1:Nat):Int):=rfl;let bA:=HD md a3;let b7:=a3 v bx;generalize n0+1=n at a3 en bA b7;erw[a_ _,λmo H7 b8 s7 y7=>?_];let b9:=s7>>s6>>L;let cr:=(I.same s6).same s7;erw[2,d,1,#[_,SqL.of b9],fq (K:=[]) (a:=d) (xs:=l) (λk Z H'=>∃B C vm,Z=[oy\V.ref d,oy\.int (v:Int),oy\.ref fa,oy\.int (n:Int),oy\.ref mo,B,C]/\Same H6 H'/\H' mo*>.lst vm/\ay H' vm\(tc.take k).map (ren v n F))
     #[B,C,[],by rw[<-en];rfl,s7,y7,.nil] (by rintro k Z H' _ ⟨_,_,_,_,e,_⟩;show SqL.of (e>>s6>>L)) ?_ ?_]
    .rintro k x Z H8 hk ⟨B,C,vm,rfl,ad,a4,ag⟩;let#[#[a,b,c],hs,t,1,hb]:=bV I hk;let hb:H5 t*>.tup [.int (a:Int),.int (b:Int),.int (c:Int)]:=hb;let S:=ad>>s6>>hb;let ca:=ad>>s6>>b4;let#[n1,n2,n3]:a≠b/\b≠c/\c≠a:=md.good.ne (a,b,c)\a9 hs;let et:(tc.take (k+1)).map (ren v n F)=(tc.take k).map (ren v n F)++[(rn v n F a b,rn v n F b c,rn v n F c a)]:=by rw[bE,hs,aW];rfl
     let cx:↑vm<=20:=by rw[aE ag,av,bz];lia
     show p9 ?_;show je (λZ H'=>∃j:Nat,Z=[oy\V.ref d,oy\.int (v:Int),oy\.ref fa,oy\.int (n:Int),oy\.ref mo,oy\.ref t,oy\.int (j:Int)]/\H'=H8/\(j=3/\a≠v/\b≠v/\c≠v\/j=0/\a=v\/j=1/\b=v\/j=2/\c=v)) (λNX z=>?_) ?_
     .refine#[3,t,2,.inr\SqT.of S,5,2,?_];change if (if p6=oD then _ else inV (V.int (v:Int)) (nV [a,b,c]))=oD then _ else _
      rw[Rx bG,gP];by_cases ab:v∈[a,b,c]
      .rw[Rz ab];show aP #[2,#[t,2,.inl S],2,?_];let dts:Dts [] H8 [V.int (a:Int),.int (b:Int),.int (c:Int)] [.int (a:Int),.int (b:Int),.int (c:Int)]:=.cons (.int _)\.cons (.int _) (.cons (.int _) .nil);let al:∀x y:Nat,PyData.eqv (.int (x:Int)) (.int (y:Int))=decide (x=y):=λx y=>by
        rw[eW];simp[PyData.eqv];lia
       let dd:(PyData.int (v:Int)).depth<=60:=by simp[PyData.depth]
       by_cases ha:a=v
       .exact#[t,8,_,(0),5,SqT.of S,dts,.int _,dd,∅,by change PyData.eqv (.int (a:Int)) _=oD;rw[al];show Rz ha,λm hm=>(),z _ _ #[(0),5,.inr\.inl #[1,ha]]]
       let f0:PyData.eqv (.int (a:Int)) (.int (v:Int))=p6:=by rw[al];show RA ha
       by_cases an:b=v
       .refine#[t,8,_,(1),5,SqT.of S,dts,.int _,dd,∅,by change PyData.eqv (.int (b:Int)) _=oD;rw[al];show Rz an,λm hm=>?_,z _ _ #[(1),5,.inr\.inr (.inl #[1,an])]];obtain rfl:m=0:=();show f0
       let f1:PyData.eqv (.int (b:Int)) (.int (v:Int))=p6:=by rw[al];show RA an
       let bK:c=v:=by
        simp only[aT,eZ,or_false] at ab;rcases ab with h|h|h
        .exact (ha h.symm).elim
        .exact (an h.symm).elim
        show h.symm
       erw[t,8,_,(2),5,SqT.of S,dts,.int _,dd,∅,by change PyData.eqv (.int (c:Int)) _=oD;rw[al];show Rz bK,λm hm=>?_,z _ _ #[(2),5,.inr\.inr (.inr #[1,bK])]];obtain rfl|rfl:m=0\/m=1:=()
       .exact f0
       show f1
      rw[RA ab];simp only[aT,eZ,or_false,not_or] at ab;show az\z _ _ #[(3),5,.inl #[1,aA ab.1,aA ab.2.1,aA ab.2.2]]
     rintro Z H9 ⟨j,rfl,rfl,bM⟩;show je (λZ H'=>∃t' w6,Z=[oy\V.ref d,oy\.int (v:Int),oy\.ref fa,oy\.int (n:Int),oy\.ref mo,oy\.ref t',w6]/\Same H9 H'/\H' t'*>.tup [.int (rn v n F a b:Int),.int (rn v n F b c:Int),.int (rn v n F c a:Int)]) (λNX z=>?_) ?_
     .let#[y,hy,bN]:∃y:Nat,(j<3->atI [V.int (a:Int),.int (b:Int),.int (c:Int)] (((j:Int)+1)%3)*>V.int (y:Int))/\(j<3->(y∈F->a=v/\b∈F\/b=v/\c∈F\/c=v/\a∈F)/\(y∉F->(a=v->b∉F)/\(b=v->c∉F)/\(c=v->a∉F))):=by
       rcases bM with ⟨rfl,_⟩|⟨rfl,h⟩|⟨rfl,h⟩|⟨rfl,h⟩
       .exact#[(0),λz=>(),λz=>()]
       .exact#[b,λ_=>aZ (j:=1) rfl,λ_=>#[λz=>.inl #[h,z],λz=>#[λ_=>z,λe=>(n1\h.trans e.symm).elim,λe=>(n3\e.trans h.symm).elim]]]
       .exact#[c,λ_=>aZ (j:=2) rfl,λ_=>#[λz=>.inr\.inl #[h,z],λz=>#[λe=>(n1\e.trans h.symm).elim,λ_=>z,λe=>(n2\h.trans e.symm).elim]]]
       erw[a,λ_=>aZ (j:=0) rfl,λ_=>#[λz=>.inr\.inr #[h,z],λz=>#[λe=>(n3\h.trans e.symm).elim,λe=>(n2\e.trans h.symm).elim,λ_=>z]]]
      let same:(a=v->b∉F)/\(b=v->c∉F)/\(c=v->a∉F)->NX [oy\V.ref d,oy\.int (v:Int),oy\.ref fa,oy\.int (n:Int),oy\.ref mo,oy\.ref t,oy\.int (j:Int)] H9:=λh=>by
       let#[e1,e2,e3]:=Jb (n:=n) h.1 h.2.1 h.2.2;show z _ _ #[t,2,Same.refl _,by rw[e1,e2,e3];show S]
      erw[2,6,2,?_];change if decide ((j:Int)<3)=oD then _ else _
      by_cases hj:j<3
      .rw[Rz (show (j:Int)<3 by lia)];show aP ?_;erw[3,6,6,(),t,4,SqT.of S,hy hj,2,fa,2,.inl\SqL.of ca,1,iI _,2,?_];change if (if p6=oD then _ else inV (V.int (y:Int)) (nV F))=oD then _ else _
       rw[Rx bG,gP];by_cases ap:y∈F
       .rw[Rz ap];show aP ?_;let#[e1,e2,e3]:=Li (n:=n) ((bN hj).1 ap) n1 n2 n3;let fv:∀z:Nat,atI [V.int (z:Int),V.int (n:Int)] (if decide ((z:Int)=(v:Int))=oD then 1 else 0)*>V.int ((if z=v then n else z:Nat):Int):=λz=>by
         by_cases h:z=v
         .rw[Ry\Rz (),Ry h];show aZ (j:=1) rfl
         rw[Rx (by simp;lia),Rx h];show aZ (j:=0) rfl
        erw[2,t,1,#[_,SqT.of S],λZ_ hZ=>nG (K:=[]) (a:=t) (xs:=nV [a,b,c]) (λi Z ys H'=>∃o,Z=[o,oy\.int (n:Int),oy\.int (v:Int)]/\ys=nV (([a,b,c].take i).map λz=>if z=v then n else z)/\Same H9 H'/\H' Z_*>.lst ys) #[n7,5,bL hZ,aI] (by rintro i Z ys H' _ ⟨_,_,_,e,_⟩;show SqT.of (e>>S)) ?_ ?_]
        .rintro i x Z ys H' hi ⟨o,rfl,rfl,a5,a6⟩;rw[nV,bu] at hi;let#[z,hz,1]:=cA.mp hi;let bd:i<3:=(aN.mp hz).1;erw[3,lit2,λl2 cy c0 bS cb=>?_];erw[3,1,.inr #[2,l2,0,V.int ((if z=v then n else z:Nat):Int),5,SqL.of cb,?_,bS>>a6,?_,λH3 k3 y3=>#[2,?_,λX o e=>(k3 X (λq=>by rw[q] at e;rw[e] at hZ;cases hZ))<*(bS>>a5>>e),y3]]]
         .rw[gU];show fv z
         .rw[bH,av,bz];simp;lia
         rw[bE,hz,aW,<-fC];rfl
        rintro Z ys H' ⟨o,rfl,rfl,a5,a6⟩;erw[Z_,2,.inl #[SqL.of a6,λt' aM=>?_]];show z _ _ #[t',2,a5.trans\bL aM,by rw[aI,e1,e2,e3];rfl]
       rw[RA ap];show az\same ((bN hj).2 ap)
      rw[RA (show ¬(j:Int)<3 by lia)];show az\az (same ?_);rcases bM with ⟨_,h1,h2,h3⟩|⟨h,_⟩|⟨h,_⟩|⟨h,_⟩
      .exact#[λz=>(h1 z).elim,λz=>(h2 z).elim,λz=>(h3 z).elim]
      all_goals lia
     rintro Z cc ⟨t',w6,rfl,aS,aM⟩;let bb:=aS>>a4;erw[2,.inl #[1,_,SqL.of bb],2,mo,vm,2,1,bb,(),λc1 bc cd=>?_];erw[8,1,λX o e=>(bc X\ao e b8).trans\(ad<*aS) _ _ e,cd,?_];rw[et];let tn:∀{X:pR}{xs:List V},cc X*>.tup xs->X≠mo:=λe=>bW e bb ∅;show bR (Paired.imp' (by rintro _ _ ⟨X,e1,e2⟩;erw[X,e1,(bc X\tn (aS>>e2))<*(aS>>e2)]) ag)\.cons #[t',1,(bc t'\tn aM)<*aM] .nil
    rintro Z H8 ⟨B,C,vm,rfl,ad,a4,ag⟩;rw[aE I,cn] at ag;erw[2,0,8,mo,vm,2,am<*s6<*ad,a4,ag,by rw[av];show Y,bA]
   rintro Z H5 ⟨M,O,R,B,C,d,l,tc,rfl,am,L,I,Y,md⟩;rw[aE bn,Cu] at md;erw[8,8,d,l,tc,1,bm<*am,L,I,Y,md.good,JX md]
 rintro Z H2 ⟨v1,M,O,R,B,C,d,l,tc,rfl,a1,L,I,Y,gc,oc⟩;rw[bH,Cu] at oc;erw[2,q d l tc H2 (s1<*a1) L I Y gc λu D=>(oc u D).resolve_left ∅]
end
def But(p:pR)(H H':Hp):Prop:=∀b o,b≠p->H b*>o->H' b*>o
def But.refl:But p H H:=λ_ _ _ e=>e
def But.same{H H':Hp}(h:But p H H')(s:Same H' a):But p H a:=λb o n e=>s>>(h b o n e)
def FA{ts d:List Tri}(g:Good ts)(h:(ents d).Perm\ents ts):Good d:=by erw[λt f=>?_,(h.map _).nodup_iff.mpr g.nd];let k:=g.sk;let#[a,b,c]:=t;let e:En ts a b c:=h.mem_iff.mp\cG.mpr (.inl f);erw[k.ne e,k.ne\k.rot e,k.ne\k.rot (k.rot e)]
def lg20{n:Nat}(h:n<=1000):((n:Int)+1).natAbs.log2<9000:=by let e:((n:Int)+1).natAbs=n+1:=();rw[e];have:=CO (n:=n+1) (k:=9000) ();rw[this];show bU (show n+1<2 ^ 10 by lia) (CQ ⋯ ⋯)
def pT{ts:List Tri}{x:Tri}(g:Good ts)(e:x.1≠x.2.1/\x.2.1≠x.2.2/\x.2.2≠x.1)(hf:jv ts x=oD):Good (ts++[x]):=by
 erw[λt l=>?_,?_]
 .rcases bo.mp l with h|h
  .exact g.ne t h
  rw[aG.mp h];show e
 rw[jS,aW,cW];let#[a,b,c]:=x;let#[f,i,j]:a≠b/\b≠c/\c≠a:=e;let m:∀s∈b_ (a,b,c),s∉(ents ts).map (·.1):=by intro s d;unfold jv at hf;show RB\jF.mp hf s d
 let n:(ents [(a,b,c)]).map (·.1)=[(a,b),(b,c),(c,a)]:=rfl;rw[n];erw[g.nd,?_,λs d s' o z=>m s' o (z ▸ d)];simp[f,i,j,aA f,aA i,aA j]
def xA{l:List Nat}(nd:l.Nodup){i a:Nat}(h:l[i]?*>a):a∉l.eraseIdx i/\(l.eraseIdx i).Nodup/\(∀x∈l.eraseIdx i,x∈l)/\(l.eraseIdx i).length=↑l-1:=by
 let hi:=(aN.mp h).1;erw[λz=>?_,nd.sublist\ko l i,λx hx=>(ko l i).subset hx,wH hi];let#[j,b]:=gj z;rw[List.getElem?_eraseIdx] at b
 split at b
 .have:=jO nd h b;lia
 have:=jO nd h b;lia
def pops3{n s0 s1 s2:Nat}(h:s0<n)(h1:s1<n-1)(h2:s2<n-2):∃a b c,(List.range n)[s0]?*>a/\((List.range n).eraseIdx s0)[s1]?*>b/\(((List.range n).eraseIdx s0).eraseIdx s1)[s2]?*>c/\a≠b/\b≠c/\c≠a:=by
 let f:s0<↑(List.range n):=by rw[mF];show h
 let#[g,i,o,j]:=xA (OT (n:=n))\aU f;rw[mF] at j;let d:s1<↑((List.range n).eraseIdx s0):=();let#[l,p,m,q]:=xA i\aU d;let e:s2<↑(((List.range n).eraseIdx s0).eraseIdx s1):=();erw[8,aU f,aU d,aU e,λz=>g ?_,λz=>l ?_,λz=>g ?_]
 .rw[z];show kq d
 .rw[z];show kq e
 rw[<-z];show m _\kq e
def HY(l:List Nat)(k:Nat):(nV l).eraseIdx k=nV (l.eraseIdx k):=by
 induction l generalizing k with
 |nil=>rfl
 |cons a l b=>
  cases k with
  |zero=>rfl
  |succ k=>
   change _::(nV l).eraseIdx k=_;rw[b];rfl
def Am{n k:Nat}(h:k<n):seqIndex? (k:Int) n*>k:=by show (uW ?_).1;unfold ixN;rw[Ry (),Ry ()];simp
def Ko{n:Nat}(h:3<=n):(n:Int)*((n:Int)-1)*((n:Int)-2)=((n*(n-1)*(n-2):Nat):Int):=by let a:(n:Int)-1=((n-1:Nat):Int):=();let b:(n:Int)-2=((n-2:Nat):Int):=();rw[a,b,OB,OB]
def Ip{n:Nat}(h:3<=n):0<n*(n-1)*(n-2):=O0 (O0 () ()) ()
def Kn{n:Nat}(h:n<=9):n*(n-1)*(n-2)<=504:=OZ (OZ h (show n-1<=8 by lia)) (show n-2<=7 by lia)
def zf{n m:Nat}(h:3<=n)(hm:m<n*(n-1)*(n-2)):m/n/(n-1)<n-2:=by rw[Nat.div_div_eq_div_mul];show Nat.div_lt_of_lt_mul hm
def Gd(vs:List V)(H:Hp)(Q:VK)(p:pR)(q:Int×Int)(m:Nat):Prop:=vs=[.ref p,.int (m:Int)]/\H p*>.lst (bT q)/\cP q/\m<=16/\
 ∀r vr ts a H',H r=n7->But p H H'->H' p*>.lst (bT a)->cP a->H' r*>.lst vr->ay H' vr ts->↑ts<=m->Good ts->Q (.ref r) H'
def Ah:Sp:=λvs H Q _=>Exists\Ex3 (Gd vs H Q)
section
def jT:aR [↑1,↑30,"_law_n",↑0,↑75,"_law_number","_law_left",↑6] [↑1,↑30] (au qU):=.f
def Hw{f f1 f2 f3:pR}{fd d1 d2 d3:ro}(U:Fun K ↑79 ↑79 qU f fd)(T:cu mg)
  (GD:!Use 2 ↑31 [↑1,↑48] jd f1 d1)
  (GT:!Use 2 ↑25 [↑0] i_ f2 d2)
  (GF:!Use 2 ↑77 [↑5,↑6] vn f3 d3) :
  !aj CX0 3 f fd [↑1,↑30] Ah:=by
 show U.ok jT (!3) λRD A outer s H vs Q E v h=>?_
 let#[p,q,m,1,hp,ag,hm,Qq]:=h;let hu:=dA v;erw[_,(af (sx 2 jT.nd\aH dM ah (uc GD v\ae (pv 0) (pa1 ah)))
  (af (sx 3 jT.nd\bO fB)
  (af (dC dq rfl (nr rfl T.range\pa1 (uc GD v\ae (pv 0) (pa1\aH dM (pv 1) ah))) (gx 4 jT.nd) (af (sx 5 jT.nd\uc GD v (ae (pv 0)\pa1 (aH jq (aH jq (pv 2)\aH j3 (pv 2) ah)\aH j3 (pv 2) ah)))
  (af (sx 6 jT.nd\du (DS rfl) (by rfl) T.list oU (pa1\du DK (by rfl) T.range QB (pa1\pv 2)))
  (af (sx 7 jT.nd\du kO (by rfl) T.tuple jJ (pa1 (dv (N:=["_law_spot","_law_left"]) (fr:=[n7,oy 6]) (te:=tBM [] ↑28 Br (aK 1)\ck (aK 0) dH) cpK rfl (bQ\bO (ae (aH fV (pv 5)\pv 2)\ae (aH fV (aH kY (pv 5)\pv 2)\aH j3 (pv 2) ah) (pa1\aH kY (aH kY (pv 5)\pv 2) (aH j3 (pv 2) ah))))
    (λC' s' H' fp RC=>#[gx 0 (⋯:(["_law_spot","_law_left"]:List Str).Nodup),eu,dR eG Pp Pu zJ (pv 1)\pa1 (pv 0)]))))
  (ak\a8 (dQ\uc GF v (ae (uc GT v\pa1 (pv 3))\pa1 (pv 7))) (ak\dJ (dR eG gw gz fm (pv 3)\pa1 (pv 7))) aY)))))
  (ak\aF (pv 3))))),?_]
 let b6:=line5000;let#[d1,d2]:=eR (q:=q) (b:=7) ⋯;erw[2,p,q,(7),1,hp,ag,⋯,⋯,λH1 k1 y1=>#[6,?_]];let#[n,en,R,bn]:∃n:Nat,3+digO q 7=(n:Int)/\3<=n/\n<=9:=#[(3+digO q 7).toNat,(),(),()];change cZ 2 (V.int (3+digO q 7)) _ _ _;rw[en];erw[a_ _,λg H2 a2 s2 y2=>?_];let S:p≠g:=ao y1 a2;let a3:H g=n7:=(k1 g\aA S).symm.trans a2;let#[d3,d4]:=eR (q:=nxt q 7) (b:=(m:Int)+1) ();erw[3,6,p,nxt q 7,2,s2>>y1,dz ag,(),lg20 (),λH3 k3 y3=>#[2,(),(),?_]];let hN:(digO (nxt q 7) ((m:Int)+1)).toNat<=m:=();generalize (digO (nxt q 7) ((m:Int)+1)).toNat=N at hN;show ny (lo:=0) (n:=N) (λi Z H'=>∃o4 o5 o6 o7 r j q',Z=[oy\V.ref p,oy\.int (m:Int),oy\.int (n:Int),oy\.ref g,o4,o5,o6,o7]/\But p H H'/\H' p*>.lst (bT q')/\cP q'/\H' g*>.lst r/\ay H' r j/\↑j<=i/\Good j)
  #[n7,n7,n7,n7,[],[],2,λd o nb e=>(k3 d nb)<*(s2>>((k1 d nb)<*e)),y3,dz\dz ag,(k3 g\aA S)<*y2,.nil,aq _,#[∅,by simp[ents]]] ?_ ?_
 .rintro i Z H4 hi ⟨o4,o5,o6,o7,r,j,z,rfl,sm,X,B,al,Y,bw,C⟩;let I:=Ko R;let b7:=Ip R;let b8:=Kn bn;erw[3,2,6,6,.inl #[(),()],2,6,6,.inr #[(),()],p,z,2,X,B,by rw[I];lia,i9 (by rw[I];lia) (by rw[I];show wk (show ((n*(n-1)*(n-2):Nat):Int)<=504 by lia) ⋯),λH5 k5 y5=>?_];let#[d5,d6]:=eR (q:=z) (b:=(n:Int)*((n:Int)-1)*((n:Int)-2)) (by rw[I];lia);let#[num,enum]:∃num:Nat,digO z ((n:Int)*((n:Int)-1)*((n:Int)-2))=(num:Int):=#[_,(jE d5).symm];rw[enum] at d6 |-;rw[I] at d6;let a4:num<n*(n-1)*(n-2):=();clear d6 d5;erw[3,λra bx=>?_];walk_at"H5 ra bx L s6 y6";erw[ra,n,1,y6,(),λu a5=>?_];walk_at"L u a5 H7 s7 y7";let y7:H7 u*>.lst (nV\List.range n):=y7;let a6:(n:Int).natAbs.log2<9000:=i9 () (wk (show (n:Int)<=9 by lia) ⋯);let bA:((n:Int)-1).natAbs.log2<9000:=i9 () (wk (show (n:Int)-1<=9 by lia) ⋯);erw[3,6,(),3,6,#[(),a6],2,6,6,(),3,6,#[(),a6],2,6,6,#[(),bA],lit3,λdl H8 bK s8 y8=>?_];let ed:([V.int ((num:Int)%(n:Int)),V.int ((num:Int)/(n:Int)%((n:Int)-1)),V.int ((num:Int)/(n:Int)/((n:Int)-1))]:List V)=nV [num%n,num/n%(n-1),num/n/(n-1)]:=by
   let M:(n:Int)-1=((n-1:Nat):Int):=();rw[M];rfl
  rw[ed] at y8;let#[a,b,c,ha,hb,hc,n1,n2,n3]:=pops3 (n:=n) (s0:=num%n) (s1:=num/n%(n-1)) (s2:=num/n/(n-1)) (tw _ ()) (tw _ ())\zf R a4;let yL:=s8>>y7;let bM:dl≠u:=aA\ao y7 bK;erw[dl,1,#[_,SqL.of y8],λZ_ hZ=>?_];let bb:u≠Z_:=ao yL hZ;let bN:num%n<100:=bU (tw _ ()) ();let bS:num/n%(n-1)<100:=bU (tw _ ()) ();let bX:num/n/(n-1)<100:=bU (zf R a4) ();let bc:But p H L:=λd o nb e=>s6>>((k5 d nb).trans\sm _ _ nb e);let am:L g*>.lst r:=s6>>((k5 g\aA S)<*al);let bd:=s6>>y5;let an:ay L r j:=Paired.imp' (by rintro _ _ ⟨d,M,O⟩;erw[d,M,s6>>((k5 d (bW O X ∅))<*O)]) Y;generalize num%n=s0 at *;generalize num/n%(n-1)=s1 at *;generalize num/n/(n-1)=be at *;show dG (K:=[]) (a:=dl) (xs:=nV [s0,s1,be]) (λi Z ys H'=>∃o l,Z=[o,oy\V.ref u]/\(i=0/\l=List.range n/\ys=[]\/i=1/\l=(List.range n).eraseIdx s0/\ys=nV [a]\/i=2/\l=((List.range n).eraseIdx s0).eraseIdx s1/\ys=nV [a,b]\/i=3/\ys=nV [a,b,c])/\But u H8 H'/\H' u*>.lst (nV l)/\H' Z_*>.lst ys)
   #[n7,2,.inl #[5,1],But.refl.same\bL hZ,bL hZ _ _ yL,aI] (by rintro i Z ys H' _ ⟨_,_,_,_,e,_⟩;show SqL.of\e _ _ bM y8) ?_ ?_
  .rintro i x Z ys H' hi ⟨o,l,rfl,ab,bt,ap,aM⟩;rw[nV,bu] at hi;let#[s,hs,1]:=cA.mp hi;let#[y,hy,b9,ca,b0]:∃y:Nat,l[s]?*>y/\s<100/\↑ys<=3/\(i+1=0/\l.eraseIdx s=List.range n/\ys++[V.int (y:Int)]=[]\/i+1=1/\l.eraseIdx s=(List.range n).eraseIdx s0/\ys++[V.int (y:Int)]=nV [a]\/i+1=2/\l.eraseIdx s=((List.range n).eraseIdx s0).eraseIdx s1/\ys++[V.int (y:Int)]=nV [a,b]\/i+1=3/\ys++[V.int (y:Int)]=nV [a,b,c]):=by
    rcases ab with ⟨rfl,rfl,rfl⟩|⟨rfl,rfl,rfl⟩|⟨rfl,rfl,rfl⟩|⟨rfl,rfl⟩
    .cases hs;erw[a,ha,bN,∅,.inr\.inl #[5,1]]
    .cases hs;erw[b,hb,bS,by simp[nV],.inr\.inr (.inl #[5,1])]
    .cases hs;erw[c,hc,bX,by simp[nV],.inr\.inr (.inr #[5])]
    cases hs
   let b1:=(aN.mp hy).1;erw[2,.inl #[1,_,SqL.of ap],2,u,nV l,(s:Int),s,V.int (y:Int),5,ap,(),(),Am (by rw[bH];show b1),by rw[nV,bu,hy];rfl,λcb bi b2=>?_];erw[(bi Z_\aA bb)<*aM,(),λH3 k3 y3=>#[9,b0,λd o nb e=>(k3 d\ao e hZ).trans\(bi d nb).trans (bt _ _ nb e),(k3 u bb)<*(by rw[b2,HY]),y3]]
  rintro Z ys H' ⟨o,l,rfl,ab,bt,ap,aM⟩;obtain rfl:ys=nV [a,b,c]:=by
   let e3:↑(nV [s0,s1,be])=3:=rfl;rw[e3] at ab;rcases ab with ⟨h,_⟩|⟨h,_⟩|⟨h,_⟩|⟨_,h⟩
   .cases h
   .cases h
   .cases h
   show h
  erw[Z_,2,.inl #[SqL.of aM,λt ht=>?_]];walk_at"H' t ht H9 s9 y9";let aS:Same L H9:=λd o e=>s9>>(bt _ _ (ao e a5) (s8>>s7>>e));erw[2,g,r,j,1,aS>>am,an.same aS,(),C.nd,λD cc cd a0 hD=>?_];erw[2,D,t,j,(a,b,c),1,hD,a0>>y9,λb3 bl=>?_];let st:=(aS<*a0)<*bl;let bm:=bl>>a0>>y9;erw[2,?_];cases b4:jv j (a,b,c) with
  |false=>
   show az #[8,_,r,j,2,λd o nb e=>st>>(bc _ _ nb e),st>>bd,dz B,st>>am,an.same st,(),C]
  |true=>
   let a1:=st>>am;show aP #[2,.inl #[1,_,SqL.of a1],2,g,r,2,1,a1,by rw[aE Y];lia,λce ad b5=>?_];let tn:∀{d:pR}{xs:List V},b3 d*>.tup xs->d≠g:=λe=>bW e a1 ∅;erw[0,8,j++[(a,b,c)],2,λd o nb e=>(ad d\ao e a3)<*(st>>(bc _ _ nb e)),(ad p S)<*(st>>bd),dz B,b5,?_,by rw[bj,cw];lia,pT C #[n1,n2,n3] b4];show bR (Paired.imp' (by rintro _ _ ⟨d,M,O⟩;erw[d,M,(ad d\tn (st>>O))<*(st>>O)]) an)\.cons #[t,1,(ad t\tn bm)<*bm] .nil
 rintro Z H4 ⟨o4,o5,o6,o7,r,j,z,rfl,sm,X,B,al,Y,bw,C⟩;erw[2,Qq g r j z H4 a3 sm X B al Y () C]
end
def L5(cl:List Nat)(d v:Nat):(nV cl).take d++V.int (v:Int)::(nV cl).drop d=nV (cl.take d++v::cl.drop d):=by unfold nV;rw[aW,br,oM,CG]
def nmV(x:Nat×Nat):Key×V:=(Sum.inl (x.1:Int),V.int (x.2:Int))
def u7{nm:List (Nat×Nat)}{c:Nat}(h:c∉nm.map (·.1)):bp (nm.map nmV) (Sum.inl (c:Int):Key)=n7:=by
 induction nm with
 |nil=>simp[bp]
 |cons x nm a=>
  rw[br,aT,not_or] at h;rw[br,gG λz=>h.1 ?_]
  .exact a h.2
  have:(x.1:Int)=(c:Int):=oY z;lia
def oh{nm:List (Nat×Nat)}{c x:Nat}(h:c∉nm.map (·.1)):cQ (nm.map nmV) (Sum.inl (c:Int):Key) (V.int (x:Int))=(nm++[(c,x)]).map nmV:=by rw[nE _\u7 h,aW];rfl
def nmF(nm:List (Nat×Nat))(c:Nat):Nat:=(nm.lookup c).getD 0
def jr{nm:List (Nat×Nat)}{c:Nat}(h:c∈nm.map (·.1)):∃k x:Nat,nm[k]?*>(c,x)/\bp (nm.map nmV) (Sum.inl (c:Int):Key)*>V.int (x:Int)/\nmF nm c=x:=by
 induction nm with
 |nil=>cases h
 |cons y nm d=>
  let#[a,x]:=y;by_cases e:a=c
  .subst e;erw[(0),x,1,iE (p:=nmV (a,x)) (r:=nm.map nmV) rfl,by simp[nmF]]
  rw[br] at h;let#[k,f,h1,h2,b]:=d ((aT.mp h).resolve_left λz=>e z.symm);erw[k+1,f,h1,?_,?_]
  .rw[br,gG λz=>e ?_]
   .exact h2
   have:(a:Int)=(c:Int):=oY z;lia
  have:(c==a)=p6:=‹λz:c=a=>e z.symm›
  unfold nmF at b |-;rw[jH,this];show b
def F5(vs:List V)(H:Hp)(Q:VK)(p T:pR)(q:Int×Int)(b:List V)(ts:List Tri):Prop:=vs=[.ref p,.ref T]/\H p*>.lst (bT q)/\cP q/\H T*>.lst b/\T≠p/\ay H b ts/\↑ts<=200/\Good ts/\
 ∀r vr a d H',H r=n7->But p H H'->H' p*>.lst (bT d)->cP d->H' r*>.lst vr->ay H' vr a->↑a=↑ts->Good a->(∀u,Co a u->u<10 ^ 60)->((∀c,Co ts c->One (En ts) c)->∀c,Co a c->One (En a) c)->Q (.ref r) H'
def z9:Sp:=λvs H Q _=>Exists\Ex5 (F5 vs H Q)
section
def jf:aR [↑1,↑0,"_law_way","_law_corners_here",↑9,"_law_names","_law_i","_law_far"] [↑1,↑0] (au qL):=.f
def Hl{f f1 f2:pR}{fd d1 d2:ro}(U:Fun K ↑74 ↑74 qL f fd)(T:cu mg)
  (GD:!Use 1 ↑31 [↑1,↑48] jd f1 d1)
  (GC:!Use 1 ↑16 [↑0] h_ f2 d2) :
  !aj CX0 2 f fd [↑1,↑0] z9:=by
 show U.ok jf (!5) λRD A outer s H vs Q E X h=>?_
 let#[p,T0,q,vt,ts,1,hp,bw,hT,bx,ht,hl,g,Qq]:=h;let hu:=dA X;erw[_,(af (sx 2 jf.nd\uc GD X (ae (pv 0)\pa1 ah))
  (af (sx 3 jf.nd\bO fB)
  (af (dC dq rfl (bQ\uc GC X (pa1\pv 1)) (gx 4 jf.nd)\ak (dJ\dR eG CY Pt yy (pv 3) (ae (uc GD X\ae (pv 0) (pa1\aH dM (pln T.len\pv 3) ah))\pa1 (pv 4))))
  (af (sx 5 jf.nd nF)
  (af (dC dq rfl (uT rfl T.enum\pa1 (pv 3)) (dn rfl\aV (gx 6 jf.nd) (aV (gx 4 jf.nd) dh)) (af (sx 7 jf.nd\aH j3 (aH j3 (aH j3 (aH qY ah ah) ah)\aH jq (aH dM (pv 6) ah) (aH qY ah ah)) (uc GD X\ae (pv 0) (pa1\aH qY ah ah)))
  (ak\jh hu (pv 5) (pv 4) (ixx cJ (bO\ae (pv 6) (ae (aH dM (aH jq ah\pv 6)\uc GD X (ae (pv 0)\pa1 ah))\pa1 (pv 7)))\pv 2) rfl)))
  (ak\aF (dv (N:=[↑6,"_law_names"]) (fr:=[n7,oy 5]) (te:=tCB (λxs H Q=>∃p ys,xs=[.ref p]/\((SqL [] H p ys/\∀l,H l=n7->Q (.ref l)\upd H l (.tup ys))\/(SqT [] H p ys/\Q (.ref p) H)))\ck (lZ (oE []\aK 0) (cZ 0) (λ_ H Q=>Q oD H) (vJ (aK 1)\aK 0) [n7,oy 1]) dH) cpK rfl (bQ\pv 1)
    (λC' s' H' fp RC=>#[gx 0 (⋯:([↑6,"_law_names"]:List Str).Nodup),eu,du kO (by rfl) T.tuple jJ\pa1 (dv (N:=[↑9,"_law_names"]) (fr:=[n7,oy 1]) (te:=vJ (aK 1)\aK 0) cpK rfl (lQ\pv 0)
    (λC2 s2 H2 c6 c8=>#[gx 0 (⋯:([↑9,"_law_names"]:List Str).Nodup),eu,ie hu (pv 1) (pv 0) λ_ _=>rfl]))])))))))),?_]
 let da:=line5000;let#[d1,d2]:=eR (q:=q) (b:=3) ⋯;let#[r,ew]:∃r:Nat,digO q 3=(r:Int):=#[_,(jE d1).symm];erw[2,p,q,(3),1,hp,bw,⋯,⋯,λH1 k1 y1=>?_];rw[ew] at d2 |-;let db:r<3:=();erw[a_ _,λch H2 bA s2 y2=>?_];let aM:p≠ch:=ao y1 bA;let b5:H ch=n7:=(k1 ch\aA aM).symm.trans bA;let b6:=s2>>((k1 T0 bx)<*hT);let b7:ay H2 vt ts:=Paired.imp' (by rintro _ _ ⟨m,D,I⟩;erw[m,D,s2>>((k1 m (bW I hp ∅))<*I)]) ht;erw[2,T0,vt,ts,1,b6,b7,hl,λr0 cs H3 bK s3 y3 bM dc=>?_];let b8:r0≠p:=aA\ao (s2>>y1) bK;let b9:r0≠ch:=aA\ao y2 bK;erw[r0,1,#[_,SqL.of y3],fq (K:=[]) (a:=r0) (xs:=nV cs) (λi Z H'=>∃L cl q',Z=[oy\V.ref p,oy\.ref T0,oy\.int (r:Int),oy\.ref ch,L,n7,n7,n7]/\(∀b o,b≠p->b≠ch->H3 b*>o->H' b*>o)/\H' p*>.lst (bT q')/\cP q'/\H' ch*>.lst (nV cl)/\cl.Perm\cs.take i)
  #[n7,[],2,λ_ _ _ _ e=>e,s3>>s2>>y1,dz bw,s3>>y2,List.Perm.refl _] (by rintro i Z H' _ ⟨_,_,_,_,e,_⟩;show SqL.of\e _ _ b8 b9 y3) ?_ ?_]
 .rintro i x Z H4 hi ⟨L,cl,q4,rfl,sm,aS,a0,ab,M⟩;rw[nV,bu] at hi;let#[v,hv,1]:=cA.mp hi;let ca:=(aN.mp hv).1;let bN:↑(nV cl)=i:=by
   rw[bH,M.length_eq,bz];lia
  erw[2,.inl #[1,_,SqL.of ab],3,ch,nV cl,1,.inl\SqL.of ab,6,p,q4,2,aS,a0,(),by rw[bN];show lg20 (),λH5 k5 y5=>?_];let#[cb,cc]:=eR (q:=q4) (b:=(↑(nV cl):Int)+1) ();let#[d,hd]:∃d:Nat,digO q4 ((↑(nV cl):Int)+1)=(d:Int):=#[_,(jE cb).symm];rw[hd] at cc |-;let a1:=(k5 ch\aA aM)<*ab;erw[2,ch,nV cl,d,2,1,a1,(),(),λO k6 y6=>?_];erw[_,cl.take d++v::cl.drop d,2,λm o n1 n2 e=>(k6 m n2).trans\(k5 m n1).trans (sm _ _ n1 n2 e),(k6 p aM)<*y5,dz a0,by rw[y6,L5],?_];let D:cs.take (i+1)=cs.take i++[v]:=by rw[bE,hv];rfl
  rw[D];show List.Perm.trans List.perm_middle ?_;rw[gr];show (List.Perm.cons v M).trans\jI (l₁:=[v]) (l₂:=cs.take i)
 rintro Z H4 ⟨L,cl,q4,rfl,sm,aS,a0,ab,M⟩;rw[bH,cn] at M;show λn H5 a5 s5 y5=>?_;let bN:↑cl<=600:=by rw[M.length_eq];lia
 let cd:cl.Nodup:=M.nodup_iff.mpr (bM.1.imp λh=>bB h);let a6:p≠n:=ao aS a5;let a1:=s5>>ab;let ce:ch≠n:=ao ab a5;erw[2,ch,nV cl,1,SqL.of a1,uB (K:=[]) (a:=ch) (xs:=nV cl) (λj Z H'=>∃L o6 o7 nm q',Z=[oy\V.ref p,oy\.ref T0,oy\.int (r:Int),oy\.ref ch,L,oy\.ref n,o6,o7]/\(∀b o,b≠p->b≠n->H5 b*>o->H' b*>o)/\H' p*>.lst (bT q')/\cP q'/\H' n*>.dK (nm.map nmV)/\nm.map (·.1)=cl.take j/\∀k c x,nm[k]?*>(c,x)->Win r k x)
  #[_,n7,n7,[],2,λ_ _ _ _ e=>e,s5>>aS,a0,y5,1,λk c x h=>by simp at h] (by rintro j Z H' _ ⟨_,_,_,_,_,_,e,_⟩;show SqL.of\e _ _ (aA aM) ce a1) ?_ ?_]
 .rintro j x pt Z O hj ⟨L,o6,o7,nm,y,rfl,bb,a2,al,bc,R,am⟩ cf;rw[nV,bu] at hj;let#[c,S,1]:=cA.mp hj;let dd:=(aN.mp S).1;walk_at"O pt cf H7 s7 y7";erw[pt,2,SqT.of y7,1,9,6,?_];let cp:∀k:Int,0<=k->k<=100->CPow 10 k:=λk h1 h2=>#[h1,(),⋯];let cg:=s7>>a2;erw[6,cp _ ⋯ ⋯,6,2,6,6,cp _ ⋯ ⋯,6,.inl #[(),()],6,2,6,cp _ ⋯ ⋯,p,y,(10:Int) ^ 9,1,cg,al,⋯,⋯,λH8 k8 y8=>#[6,?_]];let#[f1,f2]:=eR (q:=y) (b:=(10:Int) ^ 9) ⋯;let#[C,e9]:∃C:Nat,digO y ((10:Int) ^ 9)=(C:Int):=#[_,(jE f1).symm];rw[e9] at f2;let df:C<10 ^ 9:=();change cZ 7 (V.int (10 ^ 60-1-((j:Int)+1)*10 ^ 9-digO y ((10:Int) ^ 9))) _ _ _;rw[e9];let ci:(10:Int) ^ 60-1-((j:Int)+1)*10 ^ 9-(C:Int)=((10 ^ 60-1-(j+1)*10 ^ 9-C:Nat):Int):=();rw[ci];erw[3,6,.inl #[⋯,⋯],2,p,_,(7),1,y8,dz al,⋯,⋯,λH9 k9 y9=>#[6,?_]];let#[f3,f4]:=eR (q:=nxt y ((10:Int) ^ 9)) (b:=7) ⋯;let#[d7,e7]:∃d7:Nat,digO (nxt y ((10:Int) ^ 9)) 7=(d7:Int):=#[_,(jE f3).symm];rw[e7] at f4;erw[2,lit3,λl bd di be a3=>?_];rw[show ([V.int (j:Int),(λi j=>V.int (i+j)) (7*(j:Int))\digO (nxt y ((10:Int) ^ 9)) 7,V.int ((10 ^ 60-1-(j+1)*10 ^ 9-C:Nat):Int)]:List V)=nV [j,7*j+d7,10 ^ 60-1-(j+1)*10 ^ 9-C] by rw[e7];rfl] at a3;let#[x,hx,hw]:∃x:Nat,[j,7*j+d7,10 ^ 60-1-(j+1)*10 ^ 9-C][r]?*>x/\Win r j x:=by
   obtain rfl|rfl|rfl:r=0\/r=1\/r=2:=()
   .exact#[2,.inl #[5]]
   .exact#[2,.inr\.inl #[1,(),()]]
   erw[2,.inr\.inr #[1,(),()]]
  let cj:bd n*>.dK (nm.map nmV):=be>>((k9 n\aA a6).trans\(k8 n\aA a6).trans (s7>>bc));let bS:↑nm=j:=by have:=congrArg List.length R;rw[av,bz] at this;lia
  let co:c∉nm.map (·.1):=by rw[R];intro z;let#[k,B]:=gj z;let bX:=(aN.mp B).1;rw[bz] at bX;rw[s_ ()] at B;have:=jO cd B S;lia
  erw[2,l,0,V.int (x:Int),5,SqL.of a3,aZ (by rw[nV,bu,hx];rfl),3,n,2,DPut.k (k:=Sum.inl (c:Int)) cj (by rw[av];lia),?_];rw[oh co];walk_at"bd n dj b0 cr";erw[8,nm++[(c,x)],2,λm o n1 n2 e=>?_,(b0 p a6)<*(be>>y9),dz\dz al,cr,?_,λk c' x' h=>?_]
  .exact (b0 m n2).trans (be>>((k9 m n1).trans\(k8 m n1).trans (s7>>(bb _ _ n1 n2 e))))
  .rw[aW,R,bE,S];rfl
  by_cases B:k<↑nm
  .rw[dZ B] at h;show am k c' x' h
  let cx:=(aN.mp h).1;rw[bj,cw] at cx;let ek:k=↑nm:=();rw[ek,hJ\aq _,CS] at h;cases h;rw[ek,bS];show hw
 rintro Z O ⟨L,o6,o7,nm,y,rfl,bb,a2,al,bc,R,am⟩;rw[bH,cn] at R;let st:But p H O:=λm o nb e=>by
  let e3:H3 m*>o:=s3>>(s2>>((k1 m nb)<*e));let e4:H4 m*>o:=sm _ _ nb (ao e b5) e3;show bb _ _ nb (ao e4 a5) (s5>>e4)
 let b1:=st _ _ bx hT;let b2:ay O vt ts:=Paired.imp' (by rintro _ _ ⟨m,D,I⟩;erw[m,D,st _ _ (bW I hp ∅) I]) ht;let a4:∀c,Co ts c->c∈nm.map (·.1):=λc S=>by
  rw[R,M.mem_iff,bM.2];let#[t,bi,hu]:=cK.mp S;show iX.mpr #[t,bi,‹hu›]
 let bS:↑nm<=600:=by have:=congrArg List.length R;rw[av] at this;lia
 let inj:∀a b,Co ts a->Co ts b->nmF nm a=nmF nm b->a=b:=λa b ha hb e=>by
  let#[k,x,h1,_,h3]:=jr\a4 a ha;let#[k',x',bl,_,cy]:=jr\a4 b hb;let ex:x=x':=by rw[<-h3,<-cy,e]
  subst ex;let ek:=Iu (am _ _ _ h1)\am _ _ _ bl;subst ek;rw[h1] at bl;show (kH\eg bl).1
 let c0:∀a,Co ts a->nmF nm a<10 ^ 60:=λa ha=>by
  let#[k,x,h1,_,h3]:=jr\a4 a ha;let B:=(aN.mp h1).1;rw[h3];show Kw ()\am _ _ _ h1
 erw[2,T0,1,#[_,SqL.of b1],λZ_ hZ=>dG (K:=[]) (a:=T0) (xs:=vt) (λi Z ys H'=>∃o,Z=[o,oy\V.ref n]/\ay H' ys ((ts.take i).map\nam (nmF nm))/\Same O H'/\H' Z_*>.lst ys) #[n7,1,.nil,bL hZ,aI] (by rintro i Z ys H' _ ⟨_,_,_,e,_⟩;show SqL.of (e>>b1)) ?_ ?_]
 .rintro i x Z ys H' hi ⟨o,rfl,an,ad,bm⟩;let#[#[a,b,c],hs,t,1,hb]:=bV b2 hi;let hb:O t*>.tup (nV [a,b,c]):=hb;let b3:=ad>>hb;let bi:=a9 hs;let ca:=(aN.mp hs).1;let dk:↑ys<=200:=by rw[aE an,av,bz];lia
  let c1:∀z∈[a,b,c],Co ts z:=λz hz=>by
   show cK.mpr #[_,bi,?_];simpa using hz
  erw[2,t,1,#[_,SqT.of b3],λY hY=>nG (K:=[]) (a:=t) (xs:=nV [a,b,c]) (λk Z ap ag=>∃o,Z=[o,oy\V.ref n]/\ap=nV (([a,b,c].take k).map\nmF nm)/\Same H' ag/\ag Y*>.lst ap) #[n7,5,bL hY,aI] (by rintro k Z ap ag _ ⟨_,_,_,e,_⟩;show SqT.of (e>>b3)) ?_ ?_]
  .rintro k x Z ap ag B ⟨o,rfl,rfl,sY,bn⟩;rw[nV,bu] at B;let#[z,hz,1]:=cA.mp B;let bX:k<3:=(aN.mp hz).1;let#[_,x',_,h2,h3]:=jr\a4 z (c1 z\a9 hz);subst h3;erw[3,n,V.int (nmF nm z:Int),1,h2 ▸ DGet.k (k:=Sum.inl (z:Int)) (sY>>ad>>bc),bn,?_,λHn kn yn=>#[2,?_,λm o e=>(kn m\ao e hY)<*(sY>>e),yn]]
   .rw[bH,av,bz];have:↑([a,b,c]:List Nat)=3:=rfl;lia
   rw[bE,hz,aW,<-fC];rfl
  rintro Z ap ag ⟨o,rfl,rfl,sY,bn⟩;erw[Y,2,.inl #[SqL.of bn,λt' c2=>?_]];walk_at"ag t' c2 H9 s9 y9";let b4:=s9>>sY>>bm;let tn:∀{m:pR}{xs:List V},H9 m*>.tup xs->m≠Z_:=λe=>bW e b4 ∅;let et:(ts.take (i+1)).map (nam\nmF nm)=(ts.take i).map (nam\nmF nm)++[nam (nmF nm) (a,b,c)]:=by rw[bE,hs,aW];rfl
  erw[b4,(),λbd bt a3=>#[2,?_,λm o e=>?_,a3]]
  .rw[et];show bR (Paired.imp' (by rintro _ _ ⟨m,D,I⟩;erw[m,D,by let e3:=s9>>sY>>I;show (bt _\tn e3)<*e3]) an)\.cons #[t',1,(bt _\tn y9)<*y9] .nil
  show (bt _\ao e hZ)<*(s9>>sY>>ad>>e)
 rintro Z ys H' ⟨o,rfl,an,ad,bm⟩;rw[aE b2,cn] at an;let c3:H Z_=n7:=by
  cases e:H Z_ with
  |none=>rfl
  |some o=>
   let c4:Z_≠p:=λz=>by rw[z,a2] at hZ;cases hZ
   rw[st _ _ c4 e] at hZ;cases hZ
 show Qq Z_ ys _ y H' c3 (st.same ad) (ad>>a2) al bm an (av ..) (zO g inj) (λu hu=>by
  let#[a,ha,1]:=BN hu;show c0 a ha) λc5 c S=>by
  let#[a,ha,1]:=BN S;show JB g inj ha\c5 a ha
end
structure gW(P:rp)(w:sf)(K:W.Frag)(mg:Str->Option pC)(base:rq)(C:pR)(n:Nat)(x:Str)(ps:List Str)(sp:Sp)(f:pR)(fd:ro):Prop where
 g:!aj CX0 n f fd ps sp
 b:Binds K fd ps []
 m:Meth K C x f
def iu{u:TT}{Q:Bool->Hp->Prop}(h:u Z H Q):rG (r_ u Z Q) oD H:=az (A:=Q oD H) h
def ke{u:TS}{D:Ends}(h:u D Z H):rG (vY t u D Z) oD H:=az (A:=t D Z H) h
def BR{t:TS}{D:Ends}(h:t D Z H):rG (vY t u D Z) p6 H:=aP (B:=u D Z H) h
structure oG(K:W.Frag):Prop where
 t:W.kitOne K (.type ↑20) (.type ↑20)*>oD
 i:W.kitOne K (.type "int") (.type "int")*>oD
 b:W.kitOne K (.type "int") (.type "bool")*>p6
def FX(vs:List V)(H:Hp)(Q:VK)(n:Int):Prop:=vs=[.int n]/\Q (.bl oD) H
def z6:Sp:=λvs H Q _=>Exists\FX vs H Q
def D3(vs:List V)(H:Hp)(Q:VK)(n:Nat):Prop:=vs=[.int (n:Int)]/\Q (.bl oD) H
def pJ:Sp:=λvs H Q _=>Exists\D3 vs H Q
section
def IW:aR [↑43] [↑43] (au qH):=.f
def G7{f:pR}(U:Fun K "is_whole" "is_whole" qH f fd)(T:cu mg)(F:oG K):!aj CX0 1 f fd [↑43] z6:=by
 show U.ok IW (!1) λa A outer s H vs Q E d h=>?_
 let#[n,1,q]:=h;erw[_,ak\aF (jY (bP (kW (c:="int")) (by rfl) T.isi gv\ae (pv 0) (pa1\jU (v:=.ty "int") rfl T.int iz rfl))
  (jX\LA (bP (kW (c:="bool")) (by rfl) T.isi gv\ae (pv 0) (pa1\jU (v:=.ty "bool") rfl T.bool QA rfl)))),?_]
 erw[2,0,oD,1,.int n,F.i,oD,1,aP #[2,0,p6,1,.int n,F.b,p6,1,q]]
def Es:aR [↑43] [↑43] (au pQ):=.f
def D8{f a:pR}{fd b:ro}(U:Fun K ↑60 ↑60 pQ f fd)(G:!Use 1 "is_whole" [↑43] z6 a b) :
  !aj CX0 2 f fd [↑43] pJ:=by
 show U.ok Es (!1) λd A outer s H vs Q E c h=>?_
 let#[n,1,q]:=h;erw[_,ak\aF (jY (uc G c\pa1 (pv 0))\jX (e_ NJ (pv 0) ah\nomark _)),?_];erw[2,(n:Int),1,oD,1,aP #[2,6,?_]];change Q (.bl (decide ((n:Int) ≥ 0))) H;rw[Rz ()];show q
end
section
def pK:aR [↑43,"a","b","c"] [↑43] (au pP):=.f
end
def uf:yF "min"*>.builtin "min":=⋯
def Bg(t u:Tri):Prop:=(u=t\/u=(t.2.1,t.2.2,t.1)\/u=(t.2.2,t.1,t.2.1))/\u.1<=u.2.1/\u.1<=u.2.2
def kyT(u:Tri):List Int:=[(u.1:Int),(u.2.1:Int),(u.2.2:Int)]
def ug{us:List Tri}(h:ay H vs us):Tups K H vs (us.map kyT):=by
 induction h with
 |nil=>show .nil
 |cons q _ b=>
  let#[a,1,ha]:=q;show .cons #[a,1,SqT.of ha,by simp[kyT]] b
def uh{ks:List V}{ss:List Tri}(h:ay H ks ss):∀ix:List Nat,(∀i∈ix,i<↑ks)->ay H (ix.map λi=>ks.getD i .non) (ix.map λi=>ss.getD i (0,0,0))
 | [],_=>.nil
 |i::ix,hi=>by
  let a:=hi i ∅;let h1:ks[i]?*>ks[i]:=aU a;let#[y,b,hf]:=bV h h1;show .cons ?_ (uh h ix λj c=>hi j\de _ c);simp only[List.getD,h1,b,wX];show hf
def xM{ss:List Tri}{ix:List Nat}(h:ix.Perm\List.range ↑ss):(ix.map λi=>ss.getD i (0,0,0)).Perm ss:=by
 have:=h.map λi=>ss.getD i (0,0,0);show this.trans\wq ?_;show wx λi=>?_;rw[bu];by_cases hi:i<↑ss
 .rw[OP hi];simp[List.getD,aU hi]
 rw[sX ‹hi›,sX ()];rfl
def Gh(vs:List V)(H:Hp)(Q:VK)(t:pR)(x:Tri):Prop:=vs=[.ref t]/\H t*>.tup [.int (x.1:Int),.int (x.2.1:Int),.int (x.2.2:Int)]/\
 ∀r u H',Same H H'->H' r*>.tup [.int (u.1:Int),.int (u.2.1:Int),.int (u.2.2:Int)]->Bg x u->Q (.ref r) H'
def uO:Sp:=λvs H Q _=>Exists\Ex2 (Gh vs H Q)
def kZ{a b:Int}{xs ys:List Int}(h:HT.lexLt (b::ys) (a::xs)=p6):a<=b:=by
 unfold HT.lexLt at h
 split at h
 .lia
 have:=of_decide_eq_false h;lia
section
def qi:aR [↑54,"a","b","c"] [↑54] (au qW):=.f
def HB{f:pR}(U:Fun K ↑51 ↑51 qW f fd)(mN:mg "min" = n7):!aj CX0 1 f fd [↑54] uO:=by
 show U.ok qi (!2) λM A outer s H vs Q E B h=>?_
 let#[t,#[a,b,c],1,j,q]:=h;let j:H t*>.tup [.int (a:Int),.int (b:Int),.int (c:Int)]:=j;erw[_,af (fu (pv 0)\dn rfl (aV (gx 1 qi.nd)\aV (gx 2 qi.nd) (aV (gx 3 qi.nd) dh)))
  (ak\aF (bP (DR rfl B.units) (by rfl) mN uf\pa1 (bO\ae (aD\ae (pv 1) (ae (pv 2)\pa1 (pv 3))) (ae (aD\ae (pv 2) (ae (pv 3)\pa1 (pv 1)))\pa1 (aD\ae (pv 3) (ae (pv 1)\pa1 (pv 2))))))),?_]
 erw[2,t,2,SqT.of j,1,9,9,6,?_];erw[3,2,lit3,λm H1 N s1 C=>?_];erw[3,2,lit3,λn H2 O s2 D=>?_];erw[3,2,lit3,λo R S p I=>?_];erw[lit3,λl e T g L=>?_];let v:=(s2<*p<*g) _ _ C;let x:=(p<*g) _ _ D;let z:=g>>I;let r:=(s1<*s2<*p)<*g;let tr:ay e [V.ref m,.ref n,.ref o] [(a,b,c),(b,c,a),(c,a,b)]:=.cons #[m,1,v]\.cons #[n,1,x] (.cons #[o,1,z] .nil);erw[l,9,SqL.of L,ug tr,∅,λi y d u=>?_];let m0:=u 0 ∅;let m1:=u 1 ∅;let m2:=u 2 ∅
 match i,d with
 |0,d=>
  cases d;let h1:(a:Int)<=b:=kZ m1;let h2:(a:Int)<=c:=kZ m2;show q m (a,b,c) e r v #[.inl rfl,by change a<=b;lia,by change a<=c;lia]
 |1,d=>
  cases d;let h1:(b:Int)<=a:=kZ m0;let h2:(b:Int)<=c:=kZ m2;show q n (b,c,a) e r x #[.inr\.inl rfl,by change b<=c;lia,by change b<=a;lia]
 |2,d=>
  cases d;let h1:(c:Int)<=a:=kZ m0;let h2:(c:Int)<=b:=kZ m1;show q o (c,a,b) e r z #[.inr\.inr rfl,by change c<=a;lia,by change c<=b;lia]
 |i+3,d=>simp at d
end
end K15
namespace L2
open PySem PySem.Spec PyProof.Rows
section
def tDM0(r:V->List V->Hp->VK->Prop)(to:TE):TE:=λZ H Q=>to Z H λx H1=>(∃a,x=.ref a/\IsD H1 a)/\r x [] H1 Q
def Bu{name:Str}{apos cpos:Pos}{id:String}{r:V->List V->Hp->VK->Prop}(slot:Slot ↑69 name id)(c:typeOf (.builtin id)=pure\.type "method_descriptor")(hm:MtM X id r)(d:PE X o to)
  (e:CM o name X.env (sZ o X.env)=sZ o X.env:=by rfl) (f:(apos.endLine==cpos.line)=oD:=by rfl):PE X (.Call (.Attribute o name apos) [] [] cpos) (tDM0 r to):=by
 intro RC s Z H Q I h;show wpAny_Call_method0_late e f (thn (d RC s Z H _ I h) λv s1 g=>?_);let#[x,H1,b,i,#[a,ex,hd],j]:=g;subst ex;obtain rfl:v=Value.ref a:=i;let#[l,m,_]:=rf b hd;erw[↑69,id,tF,slot,c,l,m,mv rfl\PySem.evalArgs_none (hm RC s1 Z H1 (.ref a) [] (.ref a) [] Q b rfl .nil j)]
end
section
open PySem.W in
def Jj(K:W.Frag):List V->Hp->VK->Prop:=λxs H Q=>∃(a:pR)(u:HO),xs=[.ref a]/\Rd H a u/\eK u/\∀ks vs,DKV H u ks vs->
 (∃ns:List Int,ks=ns.map V.int/\↑ns<5000/\∀(p:pR)(ms:List Int),H p=n7->ms.Perm ns->ms.Pairwise (·<=·)->Q (.ref p)\upd H p (.lst\ms.map V.int)) \/
 ∃c:List\List Int,Tups K H ks c/\↑ks<5000/\∀(p:pR)(ix:List Nat),H p=n7->ix.Perm (List.range ↑ks)->(ix.map λi=>c.getD i []).Pairwise (λa b=>HT.lexLt b a=p6)->Q (.ref p)\upd H p (.lst (ix.map λi=>ks.getD i .non))
open PySem.W in
def DC(l:X.calm=oD):c7 X (.builtin ↑55) (Jj []):=by
 intro RC s Z H xs us Q I r h;let#[a,N,1,hd,n,k]:=h;let#[u,1,p]:=Vals.one r;cases p;let#[lo,ks,vs,es,ep,q,hz,w,d,O]:=om I hd n;let#[m,F]:=I.fr;let x:↑ks=es.size:=by have:=↑d;simpa using this
 show kdu_sorted (dSrc (es:=es) (ep:=ep) lo) (I.ok.hd l) F (ux (g:=X.base) (L:=X.env.locals)) w (by rw[<-x];show hz) λD h' tk b y f A B C=>?_;let#[k1,k2]:=I.newsKept (t':=s.toks) (more:=[(D,listOf b.toArray 0)]) F y f;let c:=f (D,listOf b.toArray 0)\.head _;let i:s.heap.get? D=n7:=by
  cases e:s.heap.get? D with
  |none=>rfl
  |some o=>show absurd (A (D,o)\tP c.2.1 c.2.2 e)\dD _
 let ev:b=es.toList.map (·.key):=by show xP (by rw[B];simp) λj v e=>?_;let#[E,1]:=C j v e;rw[bu];simp[E]
 let K:Inv X RC Z (upd H D\.lst ks) {s with heap:=h',toks:=tk}:=I.laidN (t':=tk) k1 k2 i (λH'=>#[hz,b,(0),by rw[ev];show d,c.1]) (λ_ _ z=>by cases z);let z:=xB (X:=rW X) RC _ Z _ (.ref D) [] (.ref D) [] (λ_ H'=>Q (.ref D) H') K.toIn1 rfl .nil\zm (I.hok.none_of i) (k ks vs q);show thn z λ_ s' ⟨_,H',J,_,M⟩=>#[.ref D,H',J.ofIn1,1,M]
end
def Sm(H H':Hp):Prop:=∀b o,H b*>o->H' b*>o\/(eK o/\∃ob,H' b*>.frz ob o)
def Sm.refl(H:Hp):Sm H H:=λ_ _ e=>.inl e
def Sm.of(s:Same H H'):Sm H H':=λb o e=>.inl\s b o e
def Sm.trans{H:Hp}(a:Sm H H1)(b:Sm H1 H2):Sm H H2:=λc o e=>by
 rcases a c o e with d|⟨hd,ob,d⟩
 .exact b c o d
 rcases b c _ d with f|⟨g,_⟩
 .exact .inr #[hd,ob,f]
 show False.elim g
def Sm.free(s:Sm H H')(h:H' l=n7):H l=n7:=by
 cases q:H l with
 |none=>rfl
 |some o=>rcases s l o q with e|⟨_,_,e⟩<;>(rw[h] at e;cases e)
def Sm.keep(s:Sm H H'){o:HO}(e:H b*>o)(a:¬eK o):H' b*>o:=(s b o e).elim id λz=>(a z.1).elim
def Sm.rd(s:Sm H H')(e:Rd H b o):Rd H' b o:=by
 rcases e with e|⟨ob,e⟩
 .rcases s b o e with z|⟨_,ob,z⟩
  .exact .inl z
  show .inr #[ob,z]
 show .inr #[ob,s.keep e λz=>z]
def Fz.sm{H:Hp}(f:Fz H H2 d o u):Sm H H2:=λb w e=>by
 by_cases a:b=d
 .subst a;rcases f.1 with z|z
  .rw[z] at e;cases e;show .inr #[f.2.1,o,f.at]
  rw[z] at e;cases e;show .inl f.at
 show .inl\(f.ne a).trans e
section
variable {d D:Addr}{o:Obj}{u:HO}{ks vs:List V}{g:TG}{tt:TT}{te:TE}{Z':St}{H1:Hp}{Q:Hp->Prop}
def FK(Pv:Nat->St->List V->Hp->Prop)(b:Pv 0 Z' []\upd H1 D (.lst []))(c:∀i Z ys H,i<=↑ks->Pv i Z ys H->H d*>.frz o u)
  (f:∀i x Z ys H,ks[i]?*>x->Pv i Z ys H->g x Z H\oA tt te D ys (Pv (i+1)))
  (hd:∀Z ys H,Pv ↑ks Z ys H->Q H):jV (Itk d o ks) g tt te D Z' H1 Q:=by
 erw[λi m Z ys H=>m=↑ks-i/\i<=↑ks/\Pv i Z ys H,#[↑ks,∅,a_ _,b],?_];rintro i m Z ys H ⟨rfl,hi,p⟩;let q:=c i Z ys H hi p;by_cases a:i<↑ks
 .refine .inr #[#[a,u,q],Pv (i+1),λZ' j H' h=>#[↑ks-(i+1),(),1,a,h],λx H' y=>?_];let#[e,y]:=y;subst e;show f i x Z ys _ y p
 let e:i=↑ks:=();subst e;show .inl #[#[aq _,u,q],hd Z ys H p]
def FC{tb:TS}{D:Ends}(Pv:Nat->St->Hp->Prop)(f:Pv 0 Z H)(h:∀i Z H,i<=↑ks->Pv i Z H->H d*>.frz o u)
  (j:∀i x y p Z H,ks[i]?*>x->vs[i]?*>y->Pv i Z H->H p=n7->g (.ref p) Z (upd H p\.tup [x,y]) λσ2 H2=>tb {D with nx:=Pv (i+1),ct:=Pv (i+1),bk:=D.nx} σ2 H2) (hd:∀Z H,Pv ↑ks Z H->D.nx Z H) :
  ∃W:Nat->Nat->St->Hp->Prop,(∃m,W 0 m Z H)/\∀i m Z H,W i m Z H->
   ((Iti d o ks vs).stop i H/\D.nx Z H)\/((Iti d o ks vs).go i H/\∃N:St->Hp->Prop,(∀Z' H',N Z' H'->∃a,a<m/\W (i+1) a Z' H')/\∀x H',(Iti d o ks vs).yld i H x H'->g x Z H' λσ2 H2=>tb {D with nx:=N,ct:=N,bk:=D.nx} σ2 H2):=by
 erw[λi m Z H=>m=↑ks-i/\i<=↑ks/\Pv i Z H,#[↑ks,∅,a_ _,f],?_];rintro i m Z H ⟨rfl,hi,p⟩;let q:=h i Z H hi p;by_cases c:i<↑ks
 .refine .inr #[#[c,u,q],Pv (i+1),λZ' H' l=>#[↑ks-(i+1),(),1,c,l],λx H' y=>?_];let#[b,k,v,n,5,r,s]:=y;show j i k v b Z H r s p n
 let e:i=↑ks:=();subst e;show .inl #[#[aq _,u,q],hd Z H p]
end
end L2
namespace K15
open PySem L2 K51 K31
def Gc(vs:List V)(H:Hp)(Q:VK)(d:pR)(l:List (Nat×Nat)):Prop:=vs=[.ref d]/\Rd H d (.dK\l.map nmV)/\l≠[]/\↑l<=1000/\
 ∀(s:Nat) H',Sm H H'->s∈l.map (·.1)->((∀o,(o,s)∉l)\/∀p,p∈l.map (·.1)->∃o,(o,p)∈l)->Q (.int (s:Int)) H'
def Ag:Sp:=λvs H Q _=>Exists\Ex2 (Gc vs H Q)
def uV(l:List (Nat×Nat)):(l.map nmV).map (λp=>kV p.1)=nV (l.map (·.1)):=by rw[cz];unfold nV;rw[cz];rfl
def JV(l:List (Nat×Nat)):(l.map nmV).map (·.2)=nV (l.map (·.2)):=by rw[cz];unfold nV;rw[cz];rfl
section
def uP:aR ["onward","reached","begins"] ["onward"] (au qT):=.f
def Hv{f:pR}(U:Fun K "first_of" "first_of" qT f fd)(T:cu mg)(mN:mg "min" = n7):!aj CX0 1 f fd ["onward"] Ag:=by
 show U.ok uP (!2) λRD A outer s H vs Q E hr h=>?_
 let#[d,l,1,hd,ad,hl,q]:=h;erw[_,af (sx 1 uP.nd\du (DL rfl) (by rfl) T.list oU (pa1\Bu Pn PySem.F.type_dict_values Fo (pv 0)))
  (af (nY (i:=2) (N:=["p","reached"]) (fr:=[n7,oy 1]) (tt:=fM\tOp (rIn [] oD) (aK 0) (aK 1)) cpK rfl (Ay\pv 0)
    (λC' s' H' fp RC=>#[gx 0 (⋯:(["p","reached"]:List Str).Nodup),fU\aQ i7 (pv 0) (pv 1) rfl,pv 0]) uP.nd rfl (.inl rfl))
  (ak\aF (zE (GI (pv 2) λ_=>rfl) (ixx cJ (pv 2) ah)\bP (xu rfl) (by rfl) mN uf (pa1\pv 0)))),?_]
 let an:=line5000;erw[2,#[d,1,.inl #[_,hd]],d,2,1,hd,λv hv=>?_];walk_at"H v hv H1 s1 y1";let M:=(Sm.of s1).rd hd;erw[v,d,2,y1,M,λr ag=>?_];walk_at"H1 r ag H2 s2 O";let al:=(Sm.of s2).rd M;rw[JV] at O;erw[2,d,2,al,True.intro,λks vs o R hk hz=>?_];let ek:ks=nV (l.map (·.1)):=by
  rcases hk with ⟨kvs,e,e1,_⟩|⟨kvs,as,e,_⟩
  .cases e;rw[e1,uV]
  cases e
 subst ek;let y3:R r*>.lst (nV\l.map (·.2)):=hz.sm.keep O (λz=>z);show λZ_ S=>FK (d:=d) (o:=o) (u:=.dK\l.map nmV) (ks:=nV\l.map (·.1)) (λi Z ys H'=>∃o,Z=[o,oy\.ref r]/\ys=nV (((l.map (·.1)).take i).filter λp=>decide (p∉l.map (·.2)))/\Same R H'/\H' Z_*>.lst ys) #[n7,5,bL S,aI] (by rintro i Z ys H' _ ⟨_,_,_,e,_⟩;show e _ _ hz.at) ?_ ?_
 .rintro i y Z ys H' hi ⟨o,rfl,rfl,c,X⟩;rw[nV,bu] at hi;let#[n,C,1]:=cA.mp hi;let Y:(l.map (·.1)).take (i+1)=(l.map (·.1)).take i++[n]:=by rw[bE,C];rfl
  erw[3,r,2,.inl\SqL.of (c>>y3),1,iI _,2,?_];change if (if oD=oD then !inV (V.int (n:Int)) (nV\l.map (·.2)) else _)=oD then _ else _
  rw[Ry rfl,gP];by_cases g:n∈l.map (·.2)
  .rw[Rz g];show az #[2,?_,c,X];rw[Y,fT,fi,Rx ‹g›,mB,eX]
  rw[RA g];show aP #[2,X,?_,λHn kn yn=>#[2,?_,λb o e=>(kn b\ao e S)<*(c>>e),yn]]
  .rw[bH];let h1:=dI (λp=>decide (p∉l.map (·.2)))\(l.map (·.1)).take i;rw[bz,av] at h1;lia
  rw[Y,fT,fi,Ry ‹g›,mB,<-fC];rfl
 rintro Z ys D ⟨o',rfl,rfl,c,B⟩;rw[bH,cn] at B;let ab:Sm H D:=((Sm.of\s1.trans s2)<*hz.sm).trans\Sm.of c;let I:∀x,x∈((l.map (·.1)).filter λp=>decide (p∉l.map (·.2)))↔x∈l.map (·.1)/\x∉l.map (·.2):=λx=>by rw[ef,decide_eq_true_eq]
 let am:∀x,x∉l.map (·.2)->∀o,(o,x)∉l:=λx hx o L=>hx\ax.mpr #[_,L,1];generalize ((l.map (·.1)).filter λp=>decide (p∉l.map (·.2)))=bs at I B;erw[2,_,.inl #[_,SqL.of B,1],?_];cases bs with
 |cons b bs=>
  show aP #[2,Z_,4,SqL.of B,aZ (j:=0) rfl,?_];let#[h1,h2]:=(I b).mp ∅;show q b D ab h1\.inl (am b h2)
 |nil=>
  show az #[2,d,_,(l.map (·.1)).map λn:Nat=>(n:Int),1,(Sm.of c).rd\.inr #[_,hz.at],by rw[uV,cz];rfl,?_,λm hm ap=>?_]
  .cases l with
   |nil=>show absurd rfl ad
   |cons a l=>simp
  let#[n,C,1]:=ax.mp hm;show q n D ab C (.inr λp hp=>?_);have:p∈l.map (·.2):=iV λz=>by
   have:=(I p).mpr #[hp,z];cases this
  let#[#[o,p'],L,1]:=ax.mp this;erw[o,L]
end
structure Abt(E:Nat->Nat->Nat->Prop)(v:Nat)(l:List (Nat×Nat)):Prop where
 nd:(l.map (·.1)).Nodup
 mem:∀p q,(p,q)∈l↔E v p q
def IQ(vs:List V)(H:Hp)(Q:VK)(d:pR)(l:List (Nat×Nat))(E:Nat->Nat->Nat->Prop)(v:Nat):Prop:=vs=[.ref d]/\Rd H d (.dK\l.map nmV)/\l≠[]/\↑l<=1000/\Sk E/\Abt E v l/\
 ∀(b:Bool) H',Sm H H'->(b=oD↔One E v)->Q (.bl b) H'
def Bn:Sp:=λvs H Q _=>Exists\Ex4 (IQ vs H Q)
def AQ(l:List (Nat×Nat))(c:Nat):j9 (l.map nmV) (Sum.inl (c:Int):Key)=(l.filter λx=>decide (x.1≠c)).map nmV:=by
 unfold j9;rw[List.filter_map]
 congr 1
 apply sW;intro x _;change decide ((Sum.inl (x.1:Int):Key)≠Sum.inl (c:Int))=decide (x.1≠c);by_cases h:x.1=c
 .simp[h]
 let z:¬(Sum.inl (x.1:Int):Key)=Sum.inl (c:Int):=λz=>h (by have:(x.1:Int)=(c:Int):=oY z;lia);simp only[ne_eq,h,z,not_false_eq_true]
def ue{α:Type}(l:List α)(f:α->Bool){x:α}(hx:x∈l)(hf:f x=p6):↑(l.filter f)<↑l:=by
 induction l with
 |nil=>cases hx
 |cons a l b=>
  rw[fi];have:=dI f l;rcases aT.mp hx with e|h
  .subst e;rw[Rx (by rw[hf];decide),cv];lia
  have:=b h
  split<;>simp only[cv]<;>lia
section
def qG:aR ["about","at","left"] ["about"] (au rO):=.f
def JP{f f1:pR}{fd d1:ro}(U:Fun K ↑47 ↑47 rO f fd)(T:cu mg)(mD:mg ↑69 = n7)(G:!Use 1 "first_of" ["onward"] Ag f1 d1) :
  !aj CX0 2 f fd ["about"] Bn:=by
 show U.ok qG (!4) λRD A outer s H vs Q E S h=>?_
 let#[d,l,E,v,1,hd,ag,X,k,ab,q]:=h;let hu:=dA S;erw[_,af (sx 1 qG.nd\uc G S (pa1\pv 0))
  (af (sx 2 qG.nd\du DM (by rfl) mD O9 (pa1\pv 0))
  (af (jQ dq (gL\lU hu (pv 1) (pv 2))\ak (sx 1 qG.nd\zF (pv 2) (pv 1) #[5,5]))
  (ak\aF (e_ cq (bP FL (by rfl) T.len PK\pa1 (pv 2)) ah\nomark _)))),?_]
 erw[2,d,l,1,hd,ag,X,λs1 H1 I al am=>?_];erw[2,d,2,I.rd hd,λp g=>?_];walk_at"H1 p g H2 s2 y2";let an:(∀o,¬E v o s1)\/∀p,(∃q,E v p q)->∃o,E v o p:=by
  rcases am with h|h
  .exact .inl λo M=>h o\(ab.mem _ _).mpr M
  show .inr λp ⟨q,j⟩=>?_;let#[o,M]:=h p\ax.mpr #[_,(ab.mem _ _).mpr j,1];erw[o,(ab.mem _ _).mp M]
 erw[λm Z H'=>∃(L:List Nat)(at_:Nat)(lf:List (Nat×Nat)),Z=[oy\.ref d,oy\.int (at_:Int),oy\.ref p]/\m=↑lf/\Sm H H'/\H' p*>.dK (lf.map nmV)/\↑lf<=1000/\(lf.map (·.1)).Nodup/\(∀x,x∈lf↔x∈l/\x.1∉L)/\
  L.Nodup/\(∀p∈L,∃q,E v p q)/\(∀i p q,L[i]?*>p->L[i+1]?*>q->E v p q)/\(L=[]/\at_=s1\/L.head?*>s1/\∀p,L.getLast?*>p->E v p at_),
  #[_,[],s1,l,5,I.trans\Sm.of s2,y2,X,ab.nd,∅,ku,∅,∅,.inl #[5]],?_]
 rintro m Z H' ⟨L,at_,lf,rfl,rfl,sm,B,a5,nd,mem,Y,key,ch,C⟩;erw[3,p,2,DGet.k (k:=Sum.inl (at_:Int)) B,?_];by_cases D:at_∈lf.map (·.1)
 .let#[i,x,h1,h2,_]:=jr D;let hx:(at_,x)∈lf:=a9 h1;let#[ap,aM]:=(mem _).mp hx;let hE:E v at_ x:=(ab.mem _ _).mp ap;erw[oD,by rw[h2];rfl,?_];show aP #[λZ' N=>∃(L:List Nat)(u:Nat)(n:List (Nat×Nat)),Z'=[oy\.ref d,oy\.int (u:Int),oy\.ref p]/\↑n<↑lf/\Sm H N/\N p*>.dK (n.map nmV)/\↑n<=1000/\(n.map (·.1)).Nodup/\(∀x,x∈n↔x∈l/\x.1∉L)/\
   L.Nodup/\(∀p∈L,∃q,E v p q)/\(∀i p q,L[i]?*>p->L[i+1]?*>q->E v p q)/\(L=[]/\u=s1\/L.head?*>s1/\∀p,L.getLast?*>p->E v p u),
   λZ' N ⟨L,u,n,e,O,r⟩=>#[_,O,L,u,n,e,1,r],?_]
  erw[2,p,1,.inl #[_,.inl B],2,_,Sum.inl (at_:Int),_,B,1,h2,?_];rw[AQ];let aS:H p=n7:=(I.free g);let O:=ue lf (λy=>decide (y.1≠at_)) hx ∅;show λH3 k3 y3=>#[L++[at_],x,lf.filter λy=>decide (y.1≠at_),1,O,λb o e=>?_,y3,(),?_,λy=>?_,?_,λy hy=>?_,λi p q g j=>?_,.inr #[?_,λp g=>?_]]
  .rw[k3 _\ao e aS];show sm b o e
  .exact nd.sublist\Cq _ OH
  .rw[ef,mem y,bo,aG,decide_eq_true_eq];constructor
   .rintro⟨⟨a,b⟩,c⟩;erw[a,λz=>z.elim b c]
   rintro⟨a,b⟩;erw[#[a,λz=>b\.inl z],λz=>b\.inr z]
  .rw[cW];erw[Y,∅,λa ha b hb=>by rw[aG] at hb;rintro rfl;rw[hb] at ha;show aM ha]
  .rcases bo.mp hy with h|h
   .exact key y h
   rw[aG.mp h];erw[x,hE]
  .by_cases hi:i+1<↑L
   .rw[dZ ()] at g;rw[dZ hi] at j;show ch i p q g j
   by_cases a0:i+1=↑L
   .rw[dZ ()] at g;rw[hJ ()] at j;have:i+1-↑L=0:=();rw[this] at j;simp at j;subst j;rcases C with ⟨rfl,_⟩|⟨_,h⟩
    .simp at a0
    show h p (by rw[jG,show ↑L-1=i by lia];show g)
   rw[hJ ()] at j;have:=(aN.mp j).1;rw[cw] at this;lia
  .rcases C with ⟨rfl,rfl⟩|⟨h,_⟩
   .rfl
   cases L with
   |nil=>cases h
   |cons a L=>show h
  rw[List.getLast?_append] at g;simp at g;subst g;show hE
 erw[p6,by rw[u7 D];rfl,az ?_];let ad:L≠[]:=by
  rintro rfl;rcases C with ⟨_,rfl⟩|⟨h,_⟩
  .let#[#[a,b],h1,1]:=ax.mp al;show D\ax.mpr #[_,(mem _).mpr #[h1,∅],1]
  cases h
 let#[hh,a1]:L.head?*>s1/\∀p,L.getLast?*>p->E v p at_:=C.resolve_left λz=>ad z.1;let a2:=HP k ad Y key ch a1 (λ⟨r,R⟩=>iV λz=>D\ax.mpr #[_,(mem (at_,r)).mpr #[(ab.mem _ _).mpr R,z],1]) hh an;erw[2,p,2,B,1,?_];rw[av];show q _ H' sm ?_;rw[gU,decide_eq_true_eq,<-a2];constructor
 .intro h0 p ⟨r,R⟩;let a3:lf=[]:=wG.mp ();show iV λz=>?_;have:=(mem (p,r)).mpr #[(ab.mem _ _).mpr R,z];rw[a3] at this;cases this
 intro a4;have:lf=[]:=by
  cases lf with
  |nil=>rfl
  |cons y lf=>
   let#[h1,h2]:=(mem y).mp ∅;let#[a,b]:=y;show absurd (a4 a #[b,(ab.mem _ _).mp h1]) h2
 rw[this];rfl
end
def EnAt(H:Hp)(v:V)(e:Ent):Prop:=∃u s,v=.ref u/\H u*>.tup [.ref s,.int (e.2:Int)]/\H s*>.tup\(ky e.1.1 e.1.2).map kV
section
def jN:aR ["things",↑50,"k",↑43,"a","b","c"] ["things"] (au nC):=.f
def ja:aR [↑50,"thirds","k","a","b","c","side","third"] [↑50] (au qo):=.f
end
def stV(x:Nat×pR):Key×V:=(Sum.inl (x.1:Int),V.ref x.2)
def A6{L:List (Nat×pR)}{c:Nat}(h:c∉L.map (·.1)):bp (L.map stV) (Sum.inl (c:Int):Key)=n7:=by
 induction L with
 |nil=>simp[bp]
 |cons x L a=>
  rw[br,aT,not_or] at h;rw[br,gG λz=>h.1 ?_]
  .exact a h.2
  have:(x.1:Int)=(c:Int):=oY z;lia
def va{L:List (Nat×pR)}{c:Nat}(h:c∈L.map (·.1)):∃a,(c,a)∈L/\bp (L.map stV) (Sum.inl (c:Int):Key)*>V.ref a:=by
 induction L with
 |nil=>cases h
 |cons y L d=>
  let#[b,x]:=y;by_cases e:b=c
  .subst e;erw[x,∅,iE (p:=stV (b,x)) (r:=L.map stV) rfl]
  rw[br] at h;let#[a,h1,h2]:=d ((aT.mp h).resolve_left λz=>e z.symm);erw[a,de _ h1,?_];rw[br,gG λz=>e ?_]
  .exact h2
  have:(b:Int)=(c:Int):=oY z;lia
def abt(es:List Ent)(c:Nat):List (Nat×Nat):=(es.filter λe=>decide (e.1.1=c)).map λe=>(e.1.2,e.2)
def qz{es:List Ent}{c p q:Nat}:(p,q)∈abt es c↔((c,p),q)∈es:=by
 unfold abt;rw[ax];constructor
 .rintro⟨⟨⟨a,b⟩,d⟩,h1,h2⟩;rw[ef,decide_eq_true_eq] at h1;let#[h1,1]:=h1;cases h2;show h1
 intro h;erw[_,ef.mpr #[h,Rz rfl],1]
def A3(es:List Ent)(c:Nat):↑(abt es c)<=↑es:=by unfold abt;rw[av];show dI _ _
def zX{es:List Ent}{p:Nat}(h:p∈(abt es c).map (·.1)):(c,p)∈es.map (·.1):=by let#[#[a,q],h1,1]:=ax.mp h;show ax.mpr #[_,qz.mp h1,1]
def Mw{es:List Ent}(h:(es.map (·.1)).Nodup)(c:Nat):((abt es c).map (·.1)).Nodup:=by
 induction es with
 |nil=>simp[abt]
 |cons e es b=>
  rw[br,eO] at h;by_cases he:e.1.1=c
  .let a:abt (e::es) c=(e.1.2,e.2)::abt es c:=by unfold abt;rw[fi,Ry\Rz he];rfl
   rw[a,br,eO];erw[λz=>h.1 ?_,b h.2];have:=zX z;rw[<-he] at this;show this
  let a:abt (e::es) c=abt es c:=by unfold abt;rw[fi,Rx ‹he›]
  rw[a];show b h.2
def uH(es:List Ent)(c p q a:Nat):abt (es++[((c,p),q)]) a=if c=a then abt es a++[(p,q)] else abt es a:=by
 unfold abt;rw[fT,aW,fi];by_cases h:c=a
 .rw[Ry h,Ry\Rz h];rfl
 rw[Rx h,Rx ‹h›];simp
structure StAt(H0 H:Hp)(S:pR)(es:List Ent)(L:List (Nat×pR)):Prop where
 at_:H S*>.dK\L.map stV
 len:↑L<=↑es
 nk:(L.map (·.1)).Nodup
 na:(L.map (·.2)).Nodup
 fr:∀x∈L,H0 x.2=n7/\x.2≠S
 ab:∀x∈L,H x.2*>.dK\(abt es x.1).map nmV
 key:∀c,c∈L.map (·.1)↔∃p q,((c,p),q)∈es
def FZ(vs:List V)(H:Hp)(Q:VK)(D:pR)(es:List Ent):Prop:=vs=[.ref D]/\H D*>.dT (es.map bD)/\(es.map (·.1)).Nodup/\↑es<=1200/\
 ∀S L H',H S=n7->Sm H H'->StAt H H' S es L->Q (.ref S) H'
def z7:Sp:=λvs H Q _=>Exists\Ex2 (FZ vs H Q)
def JY{L:List (Nat×pR)}(nk:(L.map (·.1)).Nodup)(na:(L.map (·.2)).Nodup){c d:Nat}{a:pR}(h:(c,a)∈L)(h':(d,a)∈L):c=d:=by
 induction L with
 |nil=>cases h
 |cons x L f=>
  rw[br,eO] at nk na;rcases aT.mp h with e|h
  .rcases aT.mp h' with b | h'
   .rw[<-e] at b;cases b;rfl
   show (na.1\ax.mpr #[_,h',by rw[<-e]]).elim
  rcases aT.mp h' with b | h'
  .exact (na.1\ax.mpr #[_,h,by rw[<-b]]).elim
  show f nk.2 na.2 h h'
section
def lA:aR ["thirds","steps","c","p","q","about"] ["thirds"] (au qI):=.f
def G9{f:pR}(U:Fun K ↑36 ↑36 qI f fd):!aj CX0 1 f fd ["thirds"] z7:=by
 show U.ok lA (!2) λRD A outer s H vs Q E hr h=>?_
 let#[D,es,1,B,a2,hl,q]:=h;let hu:=dA hr;erw[_,af (sx 1 lA.nd nF)
  (af (dC dq rfl (GM\Bu Pi PySem.F.type_dict_items HC (pv 0)) (dn rfl\aV (dn rfl\aV (gx 2 lA.nd) (aV (gx 3 lA.nd) dh)) (aV (gx 4 lA.nd) dh))
   (af (sx 5 lA.nd\dR tF Pm PySem.F.type_dict_setdefault DP (pv 1) (ae (pv 2)\pa1 nF))
   (ak\jh hu (pv 5) (pv 3) (pv 4) rfl)))
  (ak\aF (pv 1))),?_]
 let bX:=line5000;show λS H1 O s1 y1=>?_;let ag:=s1>>B;erw[2,#[D,1,.inr #[_,.inl ag]],D,2,1,.inl ag,True.intro,λv hv=>?_];walk_at"H1 v hv H2 s2 y2";let bc:=s2>>ag;erw[v,D,2,y2,.inl bc,True.intro,λks vs o H3 hk hz=>?_];let#[as,pa,5]:∃as,Paired (λ(p:List Key×V) a=>H2 a*>.tup\p.1.map kV) (es.map bD) as/\ks=as.map V.ref/\vs=(es.map bD).map (·.2):=by
  rcases hk with ⟨kvs,e,_⟩|⟨kvs,as,e,h1,h2,h3⟩
  .cases e
  cases e;erw[as,h1,h2,h3]
 let lk:↑as=↑es:=by rw[<-aE pa,av]
 let bd:Sm H H3:=(Sm.of\s1.trans s2)<*hz.sm;let be:H3 S*>.dK (([]:List (Nat×pR)).map stV):=by rw[hz.ne (λz=>by rw[z,ag] at y1;cases y1)];show s2 _ _ y1
 show FC (d:=D) (o:=o) (u:=.dT\es.map bD) (ks:=as.map V.ref) (vs:=(es.map bD).map (·.2)) (λi Z H'=>∃v2 v3 v4 v5 L,Z=[oy\.ref D,oy\.ref S,v2,v3,v4,v5]/\Sm H H'/\H' D*>.frz o (.dT\es.map bD)/\(∀a xs,H2 a*>.tup xs->H' a*>.tup xs)/\StAt H H' S (es.take i) L)
  #[n7,n7,n7,n7,[],1,bd,hz.at,λa xs e=>hz.sm.keep e λz=>z,#[be,a_ _,ku,ku,∅,∅,∅]] (by rintro i Z H' _ ⟨_,_,_,_,_,_,_,e,_⟩;show e) ?_ ?_
 .rintro i x y pr Z H' hx hy ⟨v2,v3,v4,v5,L,rfl,sm,an,al,st⟩ bi;rw[bu] at hx hy;let#[a,ha,1]:=cA.mp hx;rw[bu] at hy;let#[kv,bl,1]:=cA.mp hy;let#[#[#[c,p],R],he,1]:=cA.mp bl;let bm:H2 a*>.tup [.int (c:Int),.int (p:Int)]:=by
   let#[b0,h1,h2]:=bV pa (show (es.map bD)[i]?*>bD ((c,p),R) by rw[bu,he];rfl);rw[ha] at h1;cases h1;show h2
  let m:es.take (i+1)=es.take i++[((c,p),R)]:=by rw[bE,he];rfl
  let b2:i<↑es:=(aN.mp he).1;let a3:((es.take (i+1)).map (·.1)).Nodup:=by rw[<-gr (i+1) es,aW,cW] at a2;show a2.1
  rw[m] at a3;let#[b3,bn]:=qf a3;let bt:p∉(abt (es.take i) c).map (·.1):=λz=>bn\zX z;rw[show (bD ((c,p),R)).2=V.int (R:Int) from rfl];walk_at"H' pr bi H4 M y4";erw[pr,2,SqT.of y4,1,9,a,2,SqT.of (M>>al>>bm),1,9,6,6,?_];let ap:=M>>st.at_;let lt:↑(es.take i)<=1200:=by rw[bz];lia
  erw[2,.inr\.inr (.inl #[1,.inl #[_,ap]]),2,λz H5 T s5 y5=>?_];let a4:=s5>>ap;let a5:Sm H H5:=(sm.trans\Sm.of M).trans\Sm.of s5;let zH:H z=n7:=(sm.trans\Sm.of M).free T;let aM:H' z=n7:=M.free T;let C:=M<*s5;let la:=A3 (es.take i) c;erw[S,_,Sum.inl (c:Int),.ref z,5,a4,by rw[av];have:=st.len;lia,λu am=>?_,λhn=>?_]
  .let N:c∈L.map (·.1):=iV λg=>by rw[A6 g] at am;cases am
   let#[ad,hL,bw]:=va N;rw[bw] at am;cases am;let a6:H5 ad*>.dK ((abt (es.take i) c).map nmV):=C>>(st.ab _ hL);let#[bb,bx]:H ad=n7/\ad≠S:=st.fr _ hL;erw[3,2,ad,2,DPut.k (k:=Sum.inl (p:Int)) a6 (by rw[av];lia),?_];rw[oh bt];walk_at"H5 ad H6 j y6";erw[8,_,L,1,λb o e=>?_,?_,λb xs e=>?_,#[(j S bx.symm)<*a4,?_,st.nk,st.na,st.fr,λx I=>?_,λX=>?_]]
   .rw[j b\ao e bb];show a5 b o e
   .rw[j D (λg=>by rw[g,bb] at B;cases B)];show C _ _ an
   .let n:=C>>(al b xs e);rw[j b (λg=>by rw[g,a6] at n;cases n)];show n
   .rw[m,bj];have:=st.len;lia
   .let#[X,b]:=x;rw[m,uH];by_cases aS:c=X
    .subst aS;rw[Ry rfl];have:b=ad:=yx st.nk I hL;subst this;show y6
    rw[Rx aS];let nb:b≠ad:=λg=>aS (by subst g;show JY st.nk st.na hL I);rw[j b nb];show C _ _\st.ab _ I
   rw[st.key X,m];constructor
   .rintro⟨p1,l,h1⟩;erw[p1,l,d_ _ h1]
   rintro⟨p1,l,h1⟩;rcases bo.mp h1 with h1|h1
   .exact#[p1,l,h1]
   rw[aG] at h1;cases h1;show (st.key _).mp N
  let N:c∉L.map (·.1):=λg=>by
   let#[0,h]:=va g;rw[hn] at h;cases h
  let bA:cQ (L.map stV) (Sum.inl (c:Int):Key) (V.ref z)=(L++[(c,z)]).map stV:=by rw[nE _ hn,aW];rfl
  rw[bA];let zS:z≠S:=λg=>by rw[g,O] at zH;rw[g] at T;rw[ap] at T;cases T
  walk_at"H5 S H6 j y6";let a0:abt (es.take i) c=[]:=by
   cases e:abt (es.take i) c with
   |nil=>rfl
   |cons x r=>
    let#[p1,l]:=x;have:(p1,l)∈abt (es.take i) c:=by rw[e];simp
    show (N\(st.key c).mpr #[p1,l,qz.mp this]).elim
  let bK:H6 z*>.dK (([]:List (Nat×Nat)).map nmV):=(j z zS)<*y5;erw[3,2,z,2,DPut.k (k:=Sum.inl (p:Int)) bK (by simp;lia),?_];rw[oh ∅];walk_at"H6 z H7 Y y7";let b4:∀b,H b≠n7->b≠S:=λb h g=>h (by rw[g];show O);erw[8,_,L++[(c,z)],1,λb o e=>?_,?_,λb xs e=>?_,#[(Y S zS.symm)<*y6,?_,?_,?_,λx I=>?_,λx I=>?_,λX=>?_]]
  .rw[Y b\ao e zH,j b\ao e O];show a5 b o e
  .let e1:=C>>an;rw[Y D (λg=>by rw[g,zH] at B;cases B),j D (λg=>by rw[g,O] at B;cases B)];show e1
  .let n:=al b xs e;rw[Y b\ao n aM,j b (λg=>by rw[g,st.at_] at n;cases n)];show C _ _ n
  .rw[m,bj,bj];have:=st.len;simp only[cw];lia
  .rw[aW,cW];erw[st.nk,∅,λa1 h1 b1 h2=>?_];simp at h2;subst h2;rintro rfl;show N h1
  .rw[aW,cW];erw[st.na,∅,λa1 h1 b1 h2=>?_];simp at h2;subst h2;rintro rfl;let#[x,bM,bN]:=ax.mp h1;have:=st.ab x bM;rw[bN,aM] at this;cases this
  .rcases bo.mp I with h|h
   .exact st.fr x h
   rw[aG.mp h];erw[zH,zS]
  .rcases bo.mp I with h|h
   .let bS:x.1≠c:=λg=>N\ax.mpr #[x,h,g];rw[m,uH,Rx λg=>bS g.symm];let e1:=st.ab x h;rw[Y x.2\ao e1 aM,j x.2 (st.fr x h).2];show C _ _ e1
   rw[aG.mp h,m,uH,Ry rfl,a0];show y7
  rw[aW,bo,st.key X,m];constructor
  .rintro (⟨p1,l,h1⟩|h1)
   .exact#[p1,l,d_ _ h1]
   simp at h1;subst h1;erw[p,R,∅]
  rintro⟨p1,l,h1⟩;rcases bo.mp h1 with h1|h1
  .exact .inl #[p1,l,h1]
  rw[aG] at h1;cases h1;show .inr ∅
 rintro Z H' ⟨v2,v3,v4,v5,L,rfl,sm,an,al,st⟩;rw[av,lk,cn] at st;erw[2,q S L H' O sm st]
end
end K15
namespace L2
open PySem PySem.Spec PyProof.Rows
section
variable {M:Model}{env:Env}
variable {nm q:Str}{C N:Addr}{bs bm:List Value}{hdct:Bool}{sn:List Str}{sub:List Value}{ab:Bool}{col:Option Bool}{dd:Option Addr}{k0 k1 k2 k3 k5:Option Value}{newId:String}
def Eu{x:Sem pC}{Q:Flow->pS->Prop}(b:bm.contains (.type ↑4)=oD)(c:A.handled=n7)
  (h:q7 M A x (λv s₁=>∃e d vs sl,v=.ref e/\s₁.heap.get? C*>vb nm q C N bs bm hdct sn sub ab col dd k0 k1 k2 k3 k5 newId/\
   s₁.heap.get? e*>{cls:=.ref C,dict:=d,data:=.fields vs,slots:=sl}/\vs[1]?*>.none/\E (.ref e) s₁) E s) :
  q7 M A (raiseStmt env (oy x) n7) Q E s:=by
 let f:(Value.ref C::bm).contains (.type ↑4)=oD:=by rw[sU,b,wj]
 unfold raiseStmt;show aa (bZ h (λv s₁ h₁=>?_) λ_ _ x=>x);let#[e,d,vs,sl,1,a,he,i,j]:=h₁;let#[l,g,m,tk,os]:=s₁;show aa\ai (aa\cX ?_);unfold excFromValue
 repeat (first|with_reducible show gB he ?_|with_reducible show gB a ?_|(with_reducible show mO a ?_;rw[f])|wp_step)
 rw[i];show ai ?_;rw[Rx ⋯];show ai\wpAny_raiseNew_none c j
end
section
variable {prog:Program}{h:Heap}{g:Array GenState}{d:Drawn}{t:Nat}{os:OsState}
variable {nm q:Str}{C N:Addr}{bs bm bmB:List Value}{hdct:Bool}{sn:List Str}{sub:List Value}{ab:Bool}{col:Option Bool}{dd:Option Addr}{k0 k1 k2 k3 k5:Option Value}{B newId initId:String}
def Ft(F:ExcBaseFacts B newId initId bmB)(T:OwnTail h bmB bm){rest:List pC}{f:pR}{Q:Fin->pS->Prop}(X:K.In h)
  (a:h.get? C*>vb nm q C N bs bm hdct sn sub ab col dd k0 k1 k2 k3 k5 newId) (hi:W.findIn K (.ref C) ↑14*>oy\.ref f) (hf:W.typeIn K (.ref f)*>.type "function")
  (l:∀h' e,Heap.MadeExcOf h h' e (.ref C) rest->q7 (rb prog w) A (call (.ref f) (.ref e::rest)) (λr s'=>r=.none/\Q (.done\.ret (.ref e)) s') E #[h',g,d,t,os]) (m:↑rest<=qs) :
  q7 (rb prog w) A (Builtin.«type.__call__» #[.ref C::rest,[]]) Q E #[h,g,d,t,os]:=by
 repeat (first|with_reducible show gB a ?_|with_reducible show wpAny_madeBy_exc a ?_|wp_step)
 show codeAny_call_builtin_code (Ox _ F.quiet)\wpAny_check_new_subT F T a (codeAny_exc_new_subT F T a ?_ m);change q7 _ _ _ _ _ _;generalize i:({cls:=.ref C,data:=.fields\tA [.ref h.objs.size,.none,.none,.none,.bool p6,.none]}:Obj)=c;let kp:∀b o,h.get? b*>o->((h.push {cls:=.type ↑20,data:=.seq rest.toArray}).push c).get? b*>o:=λb o e=>aO _\aO _ e;let a₁:=kp>>a;let j:((h.push {cls:=.type ↑20,data:=.seq rest.toArray}).push c).get? (h.objs.size+1)*>c:=by subst i;heap_get
 let n:c.cls=.ref C:=by subst i;rfl
 let p:(Value.ref C::bm).contains (.ref C)=oD:=∅;unfold isInstance
 repeat (first|(with_reducible show gB j ?_;rw[n])|(with_reducible show mO a₁ ?_;rw[p])|wp_step)
 change q7 _ _ (typeLookup (.ref C) _) _ _ _;show C5 X hi _ _ _ _ kp ?_;show cX\aa (Py X _ hf _ _ _ _ kp ?_);show aa (bZ (l _ (h.objs.size+1) #[kp,jD\mH _,h.objs.size,by subst i;show j,jD\aq _,?_]) (λr s' s=>?_) λ_ _ x=>x)
 .exact aO _\OA rfl rfl
 let#[1,u]:=s
 wp_walk
 show u
def FM(F:ExcBaseFacts B newId initId bmB)(T:OwnTail h bmB bm){rest:List pC}{b:pR}{Q:pC->pS->Prop}(X:K.In h)
  (a:h.get? C*>vb nm q C N bs bm hdct sn sub ab col dd k0 k1 k2 k3 k5 newId) (hi:W.findIn K (.ref C) ↑14*>oy\.ref b) (hf:W.typeIn K (.ref b)*>.type "function")
  (c:∀h' e,Heap.MadeExcOf h h' e (.ref C) rest->q7 (rb prog w) (A.under\.builtin ↑26 #[.ref C::rest,[]]) (call (.ref b) (.ref e::rest)) (λr s'=>r=.none/\Q (.ref e) s') E #[h',g,d,t,os]) (f:↑rest<=qs) :
  q7 (rb prog w) A (call (.ref C) rest) Q E #[h,g,d,t,os]:=by
 let i:=tc_lookup;let j:=tc_bind\.ref C;let l:(#[h,g,d,t,os]:pS).TypeIs (.ref C) "type":=#[_,a,1];show kK\codeAny_of_tree ?_;change q7 _ _ (callAny (.ref C) _) _ _ _
 repeat (any_goals (first|assumption|with_reducible show gB a ?_|wp_step))
 erw[1,?_];show codeAny_call_builtin_at (Ox _ ⋯) entry_typeCall\wpAny_check_type_call_sub a (Ft F T X a hi hf (λh' e hm=>c h' e hm) f)
end
section
variable {prog:Program}{h:Heap}{g:Array GenState}{d:Drawn}{t:Nat}{os:OsState}
variable {nm q:Str}{C N:Addr}{bs bm bmB:List Value}{hdct:Bool}{sn:List Str}{sub:List Value}{ab:Bool}{col:Option Bool}{dd:Option Addr}{k0 k1 k2 k3 k5:Option Value}{B newId initId:String}
def FO(F:ExcBaseFacts B newId initId bmB)(T:OwnTail h bmB bm){e:pR}{dx:Option pR}{vs:Array pC}{sl:Array\Option pC}{rest:List pC}{Q:pC->pS->Prop}
  (f:h.get? C*>vb nm q C N bs bm hdct sn sub ab col dd k0 k1 k2 k3 k5 newId) (he:h.get? e*>#[.ref C,dx,.fields vs,sl]) {t0:pR} (a:vs[0]?*>.ref t0) (n:↑rest<=qs)
  (i:∀h' (j:pR),(∀b o,b≠e->h.get? b*>o->h'.get? b*>o)->h'.get? e*>#[.ref C,dx,.fields\vs.setIfInBounds 0 (.ref j),sl]->Q .none #[h',g,d,t,os]) :
  q7 (rb prog w) A (call (.builtin initId) (.ref e::rest)) Q E #[h,g,d,t,os]:=by
 show kK\w9 F.init.plain F.initEntry (wpAny_check_init_subT F T f he rfl ?_)
 wp_walk
 rw[a];show ai\aa ?_;let c:(h.push {cls:=.type ↑20,data:=.seq rest.toArray}).get? e*>#[.ref C,dx,.fields vs,sl]:=aO _ he;show gC c rfl (f_.mp a).1 ?_
 wp_walk
 show i _ h.objs.size (λb o l m=>?_) ?_
 .rw[dY>>(aA l)];show aO _ m
 show fh _ c rfl
end
def qv:List pC->Bool
 |.ref _::r=>qv r
 |l=>l==bmV
def xy(self:pC):∀{l:List pC},qv l=oD->refuseLoop self ↑65 l=pure .unit
 |.ref c::r,e=>by rw[refuseLoop_ref];show xy self e
 |.type n::r,e=>by rw[show Value.type n::r=bmV from beq_iff_eq.mp e];show PySem.F.store_ValueError.passes self
 | [],e=>by cases e
structure fE(K:W.Frag)(C:pR)(name:Str):Prop where
 sa:W.findIn K (.ref C) ↑65*>oy\.builtin ↑35
 mo:W.mroIn K C (.type ↑87)*>oD
 ov:(W.clsIn K C).any (λcd=>qv cd.mro)=oD
 no:W.findIn K (.ref C) name*>n7
 hd:(W.clsIn K C).any (·.hasDict)=oD
section
variable {prog:Program}{x C:Addr}{vs:Array Value}{sl:Array (Option Value)}{name:Str}{v:Value}
def Kf{Q:Unit->pS->Prop}(X:K.In s.heap)(hx:s.heap.get? x*>#[.ref C,n7,.fields vs,sl])(c:fE K C name)
  (q:∀h' dx tk,s.heap.get? dx=n7->dx≠x->(∀b o,b≠x->s.heap.get? b*>o->h'.get? b*>o)->h'.get? x*>#[.ref C,oy dx,.fields vs,sl]->h'.Ns1 dx (λy=>if y=name then oy v else n7)->Q .unit {s with heap:=h',toks:=tk}) :
  q7 (rb prog w) A (setAttr (.ref x) name v) Q E s:=by
 let I:W.InstAt s.heap x #[.ref C,n7,.fields vs,sl] C n7:=#[hx,5,trivial];show PH X I c.sa ?_;let#[a,g,d,t,os]:=s;let f:=PySem.F.store_object;let#[cd,h,r]:=C0 c.ov;let#[P,l,hd]:=C0 c.hd;rw[h] at l;cases l;let i:=I.type (M:=rb prog w);let u:W.Looks (rb prog w) a (isInstance (.ref x)\.type ↑87) oD:=i.andThen\W.looks_mroIn X c.mo;show w9 f.slot.plain f.entry\@W.check_slot (rb prog w) _ _ #[a,g,d,t+1,os] ↑35 ↑87 ↑65 (.ref x) [.str name t,v] [] _ f.kind f.split u (f.args (.ref x) (.str name t) v) ?_;let hm:W.Looks (rb prog w) a (mroOf\.ref C) cd.mro:=(C4 X h).andThen .now;let ha:=C5 (M:=rb prog w) X c.no;let z:=C4 (M:=rb prog w) X h;rw[W.osa_eq,refuse_eq];show aa\aa (i.at\aa (hm.at ?_));rw[xy _ r];show ai\aa (i.at\aa (ha.at\aa (ai ?_)));change q7 _ _ (Builtin.ObjectAttr.storeInOwnDict _ _ _ _ _ _) _ _ _;unfold Builtin.ObjectAttr.storeInOwnDict Builtin.ObjectAttr.ownDictForStores;show aa\ai ?_;dsimp only;rw[Rx (show ¬((Value.ref C==Value.type "module")=oD) by simp)];unfold instanceDict;show aa\aa (Du hx ?_);show aa\z.at ?_;rw[hd];let m:(a.push {cls:=.type ↑69,data:=.dict\tA []}).get? x*>#[.ref C,n7,.fields vs,sl]:=aO _ hx;let j:x≠a.objs.size:=bB\aJ hx;show aa\wpAny_alloc' ?_;show aa\wpAny_update' m ?_;show ai ?_;let B:((a.push {cls:=.type ↑69,data:=.dict\tA []}).update x λo=>{cls:=o.cls,dict:=oy a.objs.size,data:=o.data,slots:=o.slots}).get? x*>#[.ref C,oy a.objs.size,.fields vs,sl]:=fh _ m rfl;let D:((a.push {cls:=.type ↑69,data:=.dict\tA []}).update x λo=>{cls:=o.cls,dict:=oy a.objs.size,data:=o.data,slots:=o.slots}).Ns a.objs.size (λ_=>n7):=
  #[_,(tA []),_,(sP _ _ _ _ j.symm).trans\OA rfl rfl,1,λe he=>absurd he ∅,λ_=>rfl]
 change q7 _ _ (Builtin.ObjectAttr.storeInDict a.objs.size (.str name t) name v) _ _ _;unfold Builtin.ObjectAttr.storeInDict Builtin.ObjectAttr.newKeyGuard;show aa\ai (aa (wpAny_nsSet1 (Oz D) λh' n p=>?_));let#[R,S,T,H,L,N]:=n.count\Within.cons name v Within.nil;show aa\Ql H (by rw[L];show P4\cR N (by rw[cv,kr,cY];lia)) ?_;show ai ?_;show q h' a.objs.size _ (jD\aq _) j.symm (λb o O e=>?_) ((p.2 x j)<*B) n;show (p.2 b\bB (aJ e)).trans\(sP _ _ _ _ O).trans (aO _ e)
end
open PySem.W
section
variable {prog:Program}{x D:Addr}{ox od:Obj}{name:Str}{v:Value}{expr:Bool}
def Kh{Q:pC->pS->Prop}(X:K.In s.heap)(c:iM K D)(e:fE K D name)(I:W.InstAt s.heap x ox D\oy od)(i:lookIn name od*>oy v)(j:handedIn v=oD)
  (h:Q v {s with toks:=s.toks+1}):q7 (rb prog w) A (getAttr (.ref x) name expr) Q E s:=by
 let#[f,g,d,t,os]:=s;let b:=I.type (M:=rb prog w);let l:=w_ (M:=rb prog w) X c.ga;let L2:=w_ (M:=rb prog w) X c.ha;let hf:findObj K D (oy od) name*>.value v:=findObj_own e.hd e.no rfl i;let n:=looks_find (M:=rb prog w) X I hf;let o:=looks_mroIn (M:=rb prog w) X c.mb;let p:(onTheHeap (Value.ref D)&&Value.builtin ↑2==Value.builtin ↑46)=p6:=by have:(Value.builtin ↑2==Value.builtin ↑46)=p6:=⋯;rw[this];rfl
 unfold getAttr getAttrBy;show aa\wpAny_mkText (cX\aa (b.at\aa (l.at ?_)));dsimp only;rw[p];change q7 _ _ (getAttrByItsOwn _ _ _ _ _ _) _ _ _;unfold getAttrByItsOwn hookBefore;show aa ?_;change q7 _ _ (typeLookup (.ref D) "__getattr__") _ _ _;show L2.at\aa (i5\cX ?_);unfold callGetattribute;rw[show (expr&&onTheHeap (Value.builtin ↑2))=p6 from Bool.and_false _,Rx ⋯];unfold boundAndCalled;rw[F.excAttr_ValueError.ga.bind\.ref x];show aa\ai ?_;show kK\w9 F.excAttr_ValueError.ga.plain F.entry_bexc_ga ?_;let q:builtinKind ↑2*>.slot:=⋯;let r:splitId ↑2*>(↑4,↑33):=⋯;let u:Looks (rb prog w) f (isInstance (.ref x)\.type ↑4) oD:=b.andThen o;show @check_slot (rb prog w) _ _ #[f,g,d,t+1,os] ↑2 ↑4 ↑33 (.ref x) [.str name t] [] _ q r u (F.args_bexc_ga (.ref x)\.str name t) ?_;unfold Builtin.«object.__getattribute__»;show aa (m:=slotArgs _ _ _)\mP (a:=(.ref x,[.str name t])) rfl ?_;show aa\mP (a:=name) rfl ?_;show aa\b.at (aa\n.at ?_);show ai ?_;show handed_on j h
end
def c_(x C:pR)(d:Option pR):HO:=.ext λh=>∃(vs:Array pC)(sl:Array\Option pC)(t0:pR),h.get? x*>#[.ref C,d,.fields vs,sl]/\vs[0]?*>.ref t0/\vs[1]?*>.none/\vs[2]?*>.none
def uY{h:rq}{x C:pR}{d:Option pR}{vs:Array pC}{sl:Array\Option pC}{t0:pR}(e:h.get? x*>#[.ref C,d,.fields vs,sl])(c:vs[0]?*>.ref t0)(h1:vs[1]?*>.none)(h2:vs[2]?*>.none):
  bh P w H h x (c_ x C d):=by
 erw[#[vs,sl,t0,e,c,h1,h2],#[_,e],λa b p k=>?_];let#[vs,sl,t0,e,r]:=p;erw[vs,sl,t0,k _ e,r]
def jZ(K:W.Frag)(C:pR):Bool:=(L2.clsIn K C).any λbm=>tailIn K bmV bm
def zI{h:rq}(X:K.In h)(q:jZ K C=oD):
  ∃bm N nm q bs hdct sn sub ab col dd k0 k1 k2 k3 k5,h.get? C*>vb nm q C N bs bm hdct sn sub ab col dd k0 k1 k2 k3 k5 ↑11/\OwnTail h bmV bm:=by
 unfold jZ at q;cases e:L2.clsIn K C with
 |none=>rw[e] at q;cases q
 |some bm=>
  rw[e] at q;let#[N,nm,a,bs,hd,sn,sub,ab,col,dd,k0,k1,k2,k3,k5,b]:=lH X e;erw[bm,N,nm,a,bs,hd,sn,sub,ab,col,dd,k0,k1,k2,k3,k5,b,tail_of_in X q]
structure BInit(K:W.Frag)(S:pR):Prop where
 sp:specialIn K (.ref S) ↑33*>oy\.builtin "type.__getattribute__"
 rd:readsIn K S (.type "type")=oD
 fd:findCls K (.ref S) (.type "type") ↑14*>.val\.builtin "ValueError.__init__"
section
variable {y:Str}{S:Addr}{p apos pos:Pos}{e o value:Expr}{es:List Expr}{t:TA}{ta tv:TE}{f:Str}
def KW(K:W.Frag)(t:TA):TE:=λZ H Q=>t Z H λvs H1=>∃(x C:pR)(rest:List V),vs=.ref x::rest/\H1 x*>c_ x C n7/\jZ K C=oD/\↑rest<=qs/\Q .non H1
def zG{pl:Sem Bool}(hg:Gl X y)(hm:X.mg y*>.ref S)(b:BInit X.K S)(ha:PA X (e::es) t)(hdb:(y==(↑18 : Str))=p6:=by decide)
  (hst:r6 (e::es) X.env=(p6,sZ e X.env)::r6 es X.env:=by rfl) (hpl:(tD pos\r6 es X.env).any (·.1)=p6:=by rfl)
  (ht:sZ (.Call (.Attribute (.Name y p) ↑14 apos) (e::es) [] pos) X.env=(do
   let ov <-sZ (.Name y p) X.env
   standAt apos.atName
   let (f,first) <-holding [ov] (getMethod ov ↑14 pl)
   callWith pos f first (tD pos\r6 (e::es) X.env) (backToKw pos\keywordEach [] X.env)):=by rfl) :
  PE X (.Call (.Attribute (.Name y p) ↑14 apos) (e::es) [] pos) (KW X.K t):=by
 intro RC s Z H Q I h;show methodCall_KW (pl:=pl) (iH I hg hm ?_ hdb) ht;show method_cls I.kIn b.sp\cls_value I.kIn b.rd b.fd rfl ?_;let hA:=ha pos RC {s with toks:=s.toks+1} Z H _ (I.tok _) h;change q7 _ _ (callWith pos (.builtin "ValueError.__init__") [] _ []) _ _ _;rw[hst] at hA |-;show mv (by change (p6||(tD pos\r6 es X.env).any (·.1))=p6;rw[hpl]<;>rfl)\mw ?_;show thn hA λus s1 hZQ=>?_;let#[vs,H1,I1,r1,x,C,rest,ev,hx,hov,hz,q1]:=hZQ;subst ev
 match us,r1 with
 |u::us',.cons ru rr=>
  obtain rfl:u=Value.ref x:=ru;let#[bm,N,nm,q',bs,hd,sn,sub,ab,col,dd,k0,k1,k2,k3,k5,hC,T]:=zI I1.kIn hov;let#[#[wv,sl,t0,hxo,h0,h1,h2],_]:=(show bh X.prog X.w H1 s1.heap x (c_ x C n7) from I1.hok x _ hx);let#[hh,g,d,tk,os]:=s1;show FO tE T hC hxo h0 (by rw[<-↑rr];show hz) λh' v0 keep here=>?_;let z0:(0:Nat)<wv.size:=(f_.mp h0).1;let I2:=I1.write (x:=x) (e:=x) (o:=c_ x C n7) (h':=h') (t':=tk) (by rw[hx];show True.intro) (.inl rfl) keep #[_,here]
   (uY here (t0:=v0) (by simp[z0]) (by rw[sN ⋯];show h1) (by rw[sN ⋯];show h2))
  let e1:upd H1 x (c_ x C n7)=H1:=by
   funext b;by_cases hb:b=x
   .subst hb;rw[aI,hx]
   rw[ar hb]
  rw[e1] at I2;erw[.non,H1,I2,1,q1]
def Nj(K:W.Frag)(ta tv:TE)(f:Str):TS:=λD Z H=>tv Z H λy H1=>ta Z H1 λx H2=>∃a C,x=.ref a/\H2 a*>c_ a C n7/\fE K C f/\
 ∀dx,H2 dx=n7->dx≠a->D.nx Z\upd (upd H2 a\c_ a C (oy dx)) dx (.xd [(f,y)])
def Ax(ha:PE X o ta)(L:PE X value tv)(M:swapsWith value (oy\.Attribute o f apos) pos.line X.env=pure p6):PS X (.Assign [.Attribute o f apos] value pos) (Nj X.K ta tv f):=by
 intro RC s Z H D I h;show P5 (thn (L RC s Z H _ I h) λu s1 v=>?_) M;let#[y,H1,N,O,q]:=v;show thn (ha RC s1 Z H1 _ N q) λov s2 v=>?_;let#[x,H2,j,P,a,C,ex,i,Q,R]:=v;subst ex;obtain rfl:ov=Value.ref a:=P;let#[#[wv,sl,t0,S,T,h1,h2],_]:=(show bh X.prog X.w H2 s2.heap a (c_ a C n7) from j.hok a _ i);show Kf j.kIn S Q λh' dx tk B U keep here Y=>?_;let E:H2 dx=n7:=j.hok.none_of' B;let nd:∀b ob,s2.heap.get? b*>ob->b≠dx:=λb ob e z=>by rw[z,B] at e;cases e
 let l:∀b ob,H2 b*>ob->b≠dx:=λb ob e z=>by rw[z,E] at e;cases e
 let na:∀b,H2 b=n7->b≠a:=λb e z=>by rw[z,i] at e;cases e
 let up:∀b,b≠dx->b≠a->upd (upd H2 a\c_ a C (oy dx)) dx (.xd [(f,y)]) b=H2 b:=λb z1 z2=>by rw[ar z1,ar z2]
 let un:Un X.fs [] H2 (upd (upd H2 a\c_ a C (oy dx)) dx\.xd [(f,y)]) s2.heap h':=by
  erw[λb ob e n _ _=>keep b ob (na b n) e,λb ob e n _ _=>#[ob.slots,keep b ob (na b n) e],λb ob e n _=>by rw[up b (nd b ob e)\na b n];show n,λb ob e _=>?_,λb xs e=>?_,λb ob xs e=>?_,λb ps e=>#[(tA []),?_]]
  .by_cases d:b=a
   .rw[d];erw[_,here]
   erw[_,keep b ob d e]
  .rw[up b (l b _ e) (λz=>by rw[z,i] at e;cases e)];show e
  .rw[up b (l b _ e) (λz=>by rw[z,i] at e;cases e)];show e
  rw[up b (l b _ e) (λz=>by rw[z,i] at e;cases e),e];simp
 let hok:HOk X.prog X.w (upd (upd H2 a\c_ a C (oy dx)) dx\.xd [(f,y)]) h':=λb ob e=>by
  by_cases d:b=dx
  .subst d;rw[aI] at e;cases e;erw[_,Y,λg=>?_];change dN (List.lookup g [(f,y)]) (if g=f then oy u else n7);by_cases m:g=f
   .let d:(g==f)=oD:=beq_iff_eq.mpr m;simp only[List.lookup,d,Ry m];show O
   let d:(g==f)=p6:=beq_eq_false_iff_ne.mpr m;simp only[List.lookup,d,Rx m];trivial
  by_cases A:b=a
  .subst A;rw[ar d,aI] at e;cases e;show uY here T h1 h2
  rw[up b d A] at e;show (j.hok b ob e).stay (λc w' hc r=>keep c w' (λz=>?_) r) (λc r=>?_) λc xs r=>?_
  .rcases hc with p | p
   .exact A\p.symm.trans z
   rw[z,i] at p;cases p
  .rw[up c (l c _ r) (λz=>by rw[z,i] at r;cases r)];show r
  rw[up c (l c _ r) (λz=>by rw[z,i] at r;cases r)];show r
 erw[Z,_,j.un (t':=tk) un hok,R dx E U]
def Ba(pc:pC->Prop)(K:W.Frag)(ta:TE)(f:Str):TE:=λZ H Q=>ta Z H λx H1=>∃a C dx fs v,x=.ref a/\H1 a*>dU pc a (.ref C) (oy dx)/\H1 dx*>.xd fs/\iM K C/\fE K C f/\fs.lookup f*>v/\Q v H1
abbrev Mx:=Ba (· = .none)
def Az{pc:pC->Prop}(he:PE X e ta)(g:CM e f X.env (sZ e X.env)=sZ e X.env):PE X (.Attribute e f pos) (Ba pc X.K ta f):=by
 intro RC s Z H Q I h;show AZ g (thn (he RC s Z H _ I h) λu s1 i=>?_);let#[x,H1,b,j,a,C,dx,fs,v,ex,m,n,c,p,l,q]:=i;subst ex;obtain rfl:u=Value.ref a:=j;let#[#[L,vs,h1,h2,r,y,_],_]:=(show bh X.prog X.w H1 s1.heap a (dU pc a (.ref C)\oy dx) from b.hok a _ m);let#[mA,z,A]:=(show bh X.prog X.w H1 s1.heap dx (.xd fs) from b.hok dx _ n);let#[od,B,D]:=t_ z;let#[M,E,d]:=dN.some_of (v:=v) (o:=mA f) (by rw[<-l];show A f);show Kh b.kIn c p #[h1,h2,?_,?_] (by rw[D f,E]) (yP d) #[v,H1,b.tok _,d,q]
 .unfold W.notCls;rw[y]
 rw[r];show B
end
structure iR(K:W.Frag)(C f:pR):Prop where
 over:jZ K C=oD
 init:findIn K (.ref C) ↑14*>oy\.ref f
 fn:typeIn K (.ref f)*>.type "function"
 kp:keepIn K (.ref C)=oD
def del(H:Hp)(x:pR):Hp:=λb=>if b=x then n7 else H b
def eS{x b:pR}(h:b≠x):del H x b=H b:=by unfold del;rw[Rx h]
def zQ:del H x x=n7:=by unfold del;rw[Ry rfl]
section
variable {E:XK}{k:Nat}{x:Str}{C f:Addr}{ps:List Str}{sp:Sp}{np cpos pos:Pos}{e:Expr}{es:List Expr}{t:TA}
def zZ(E:XK)(C:pR)(sp:Sp)(t:TA):TS:=λ_ Z H=>t Z H λvs H1=>↑vs<=qs/\∀x,H1 x=n7->sp (.ref x::vs) (upd H1 x\c_ x C n7) (λv H2=>v=.non/\∃d,H2 x*>c_ x C d/\E (.ref C) d\del H2 x) E0
def REnds(X:Cx)(E:XK):Prop:=∀{x:Sem pC}{Q:Flow->pS->Prop}{s:pS}{nm q:Str}{C N:pR}{bs bm:List pC}{hdct:Bool}{sn:List Str}{sub:List pC}{ab:Bool}{col:Option Bool}{dd:Option pR}{k0 k1 k2 k3 k5:Option pC}{newId:String},bm.contains (.type ↑4)=oD->X.Ok->
 q7 ⇑X X.A x (λv s₁=>∃e d vs sl RC Z H,v=.ref e/\s₁.heap.get? C*>vb nm q C N bs bm hdct sn sub ab col dd k0 k1 k2 k3 k5 newId/\s₁.heap.get? e*>{cls:=.ref C,dict:=d,data:=.fields vs,slots:=sl}/\vs[1]?*>.none/\vs[2]?*>.none/\
  Inv X RC Z H s₁/\X.s₀.heap.get? e=n7/\(∀p∈X.pn++RC,p.1≠e)/\H e=n7/\E (.ref C) d H) X.xe s->q7 ⇑X X.A (raiseStmt X.env (oy x) n7) Q X.xe s
def tS(c:Lets X E)(f:X.calm=oD):REnds X E:=λg ok h=>Eu g (ok.hd f) (bZ h (by rintro v s₁ ⟨e,d,vs,sl,RC,Z,H,i,j,a,b,l,I,m,n,o,p⟩;erw[e,d,vs,sl,i,j,a,b,c RC Z H s₁ e _ d I #[_,vs,a,5,1,#[_,l,1],.inl b] m n o p]) λ_ _ z=>z)
def yu(hE:REnds X E)(hnx:X.ex=[])(M:iR X.K C f)(Fl:∀vs H Q E,sp vs H Q E->↑vs=↑ps)(Fr:∀(us0:List pC)(outer:List Env)(s:pS)(H:Hp)(args:Args)(us:List pC)(vs:List V)(Q:VK),fZ X.prog X.w X.K X.mg X.base (X.A.under\.builtin ↑26 #[.ref C::us0,[]]) outer s H->BindsTo s fd args (ps.zip us)->Vals vs us->sp vs H Q E0->vc ⇑X (X.A.under\.builtin ↑26 #[.ref C::us0,[]]) (.call (.ref f) args) (CR CX0 outer X.prog X.w H s Q E0) s)(hb:Binds X.K fd ps [])(hg:Gl X x)(hm:X.mg x*>.ref C)(ha:PA X (e::es) t)
  (he:r6 (e::es) X.env=(p6,sZ e X.env)::r6 es X.env:=by rfl) (hpl:(tD cpos\r6 es X.env).any (·.1)=p6:=by rfl) (hd:(x==(↑18 : Str))=p6:=by decide) :
  PS X (.Raise (oy\.Call (.Name x np) (e::es) [] cpos) n7 pos) (zZ E C sp t):=by
 intro RC s Z H D I h;let#[bm,N,nm,q',bs,hdc,sn,sub,ab,col,dd,k0,k1,k2,k3,k5,hC,T]:=zI I.ok.mod.kin M.over;rw[arm_exec_Raise];change q7 _ _ (do standAt pos;raiseStmt X.env (oy (do let v <-sZ (.Call (.Name x np) (e::es) [] cpos) X.env;standAt pos;pure v)) n7) _ _ _;show aa\kM (hE (nm:=nm) (q:=q') (C:=C) (N:=N) (bs:=bs) (bm:=bm) (hdct:=hdc) (sn:=sn) (sub:=sub) (ab:=ab) (col:=col) (dd:=dd) (k0:=k0) (k1:=k1) (k2:=k2) (k3:=k3) (k5:=k5) (newId:=↑11) (T.hasType tE.hasBase) I.ok ?_);show aa (bZ (pb\iH I hg hm ?_ hd) (λv s₃ h₃=>aa\kM (ai h₃)) λ_ _ z=>z);show callWith_K (h₀:=X.base) I.ok.mod.kin M.kp (thn (ha cpos RC s Z H _ I h) λus s1 ⟨vs,H1,I1,r,hz,q⟩=>#[I1.kIn,?_]) he hpl;let#[hh,g,d,tk,os]:=s1;change q7 _ _ (call (.ref C) us) _ _ _;show FM tE (T.keeps I1.bk) I1.kIn (I1.bk>>hC) M.init M.fn (λh' x' me=>?_) (by rw[<-↑r];show hz);let#[tt,hx',0]:=me.there;let hnew:hh.get? x'=n7:=me.new;let hxH:H1 x'=n7:=I1.hok.none_of' hnew;let hok1:HOk X.prog X.w (upd H1 x'\c_ x' C n7) h':=λb ob e=>by
  by_cases hb:b=x'
  .subst hb;rw[aI] at e;cases e;show uY hx' rfl rfl rfl
  rw[ar hb] at e;show (I1.hok b ob e).stay (λc w' _ r=>me.keeps c w' r) (λc r=>by rw[ar\ao r hxH];show r) λc xs r=>by rw[ar\ao r hxH];show r
 let e0:fZ X.prog X.w X.K X.mg X.base X.A X.stack #[h',g,d,tk,os] (upd H1 x'\c_ x' C n7):=by
  let E1:=I1.env0;erw[E1.frames,E1.mod,λb ob e=>?_,?_,E1.funs.of_keeps λb o hb _=>#[o,me.keeps>>hb,1],λb hb=>?_,hok1,E1.bare]
  .let#[a1,a2]:=E1.bs b ob e;erw[me.keeps>>a1,by rw[ar (λz=>by rw[z] at a1;let a1:hh.get? x'=_:=a1;rw[hnew] at a1;cases a1)];show a2]
  .let#[m,#[o,es,ep,ho,_],_]:=I1.loc;show cR I1.ok.bsz\cR I1.ok.above (oO\aJ (me.keeps>>ho))
  rw[ar λz=>?_];show E1.frf b hb;let#[_,o,ho,_]:=E1.funs.mem hb;rw[z] at ho;let ho:hh.get? x'=_:=ho;rw[hnew] at ho;cases ho
 let hl:↑(Value.ref x'::us++[])=↑ps:=by let e:=↑(show Vals (V.ref x'::vs) (Value.ref x'::us) from .cons rfl r);rw[Fl _ _ _ _\q x' hxH] at e;rw[eX];show e.symm
 let kin':X.K.In h':=I1.kIn.keeps me.keeps;let bb:=hb #[h',g,d,tk,os] (Value.ref x'::us) kin' hl;rw[eX] at bb;show kK (oZ (Fr us X.stack _ _ #[Value.ref x'::us,[]] (Value.ref x'::us) (V.ref x'::vs) _ (e0.make C us []) bb (.cons rfl r)\q x' hxH) λr' s' hq'=>?_);cases r' with
 |error e=>show hq'.elim
 |ok fl=>
  cases fl with
  |next=>show hq'.elim
  |brk=>show hq'.elim
  |cont=>show hq'.elim
  |ret u=>
   let#[v,H',os',bare',un',hok',rv,ev,d',hx2,q2]:=hq';subst ev;let os':s'.os=os:=os';erw[rv,?_];let nx:∀b ob,hh.get? b*>ob->b≠x':=λb ob e z=>by rw[z,hnew] at e;cases e
   let nxH:∀b ob,H1 b*>ob->b≠x':=λb ob e z=>by rw[z,hxH] at e;cases e
   let un:Un (frs X.stack) [] H1 (del H' x') hh s'.heap:=by
    erw[λb ob e n hb hx=>un'.keep b ob (me.keeps>>e) (by rw[ar\nx b ob e];show n) hb hx,λb ob e n hb hx=>un'.slot b ob (me.keeps>>e) (by rw[ar\nx b ob e];show n) hb hx,
     λb ob e n hx=>by rw[eS\nx b ob e];show un'.free b ob (me.keeps>>e) (by rw[ar\nx b ob e];show n) hx,λb ob e hx=>un'.there b ob (me.keeps>>e) hx,
     λb xs e=>by rw[eS\nxH b _ e];show un'.tups b xs (by rw[ar\nxH b _ e];show e),λb ob xs e=>by rw[eS\nxH b _ e];show un'.frzs b ob xs (by rw[ar\nxH b _ e];show e),λb ps e=>?_]
    let#[more,z]:=un'.tbls b ps (by rw[ar\nxH b _ e];show e);erw[more,by rw[eS\nxH b _ e];show z]
   let hok2:HOk X.prog X.w (del H' x') s'.heap:=λb ob e=>by
    let hb:b≠x':=λz=>by rw[z,zQ] at e;cases e
    rw[eS hb] at e;show (hok' b ob e).stay (λ_ _ _ r=>r) (λc r=>?_) λc xs r=>?_
    .rw[eS (λz=>by rw[z,hx2] at r;cases r)];show r
    rw[eS (λz=>by rw[z,hx2] at r;cases r)];show r
   let I3:=I1.call' (ch:=[]) os' un hok2 bare' (λb z=>absurd z ∅);let#[#[wv,sl,t0,hxo,h0,h1,h2],_]:=(show bh X.prog X.w H' s'.heap x' (c_ x' C d') from hok' x' _ hx2);erw[x',d',wv,sl,RC,Z,2,I3.bk>>hC,hxo,h1,h2,I3,I1.oldNone hnew (by rw[hnx];simp),λp hp z=>?_,zQ,q2];let e:=(I1.pin p hp).1;rw[z] at e;let e:hh.get? x'=_:=e;rw[hnew] at e;cases e
def tY(b:REnds X E)(c:X.ex=[])(M:iR X.K C f)(F:aj X.prog X.w X.K X.mg X.base CX0 k f fd ps sp)(d:Room (k+1) X.A)(a:Binds X.K fd ps [])(g:Gl X x)(hm:X.mg x*>.ref C)(ha:PA X (e::es) t)
  (he:r6 (e::es) X.env=(p6,sZ e X.env)::r6 es X.env:=by rfl) (i:(tD cpos\r6 es X.env).any (·.1)=p6:=by rfl) (hd:(x==(↑18 : Str))=p6:=by decide) :
  PS X (.Raise (oy\.Call (.Name x np) (e::es) [] cpos) n7 pos) (zZ E C sp t):=yu b c M F.len (λj outer s H args us vs Q l a m h=>F.run _ outer s H args us vs Q E0 (d.make C j []) l a m h) a g hm ha he i hd
end
section
def NF(K:W.Frag):V->Hp->VK->Prop:=λx H Q=>∃d:vu,Dt K H x d/\d.showable=oD/\d.depth<=60/\d.shown.length<=qs/\Q (.str d.shown) H
def AC{pos:Pos}(p:X.A.units+64<vk)(j:X.A.guards*>[])(he:PE X e te):PE X (.FormattedValue e 114 n7 pos) (tUn (NF []) te):=by
 intro RC s Z H Q I h;show wpAny_FormattedValue_repr (thn (he RC s Z H _ I h) λu s1 o=>?_);let#[x,H1,a,c,d,hd,g,hz,f,q]:=o;let#[as,l]:=Dt.reads a d x u hd c;let m:=PyData.hasDict_of_canLay d\Dt.can d x hd;let fin:∀(s2:pS)(t:Tok),Inv X RC Z H1 s2->q7 ⇑X X.A (formatField (.str d.shown t) Str.empty) (EP X RC Z Q) X.xe s2:=λs2 t n=>
  wpAny_formatField_str #[.str d.shown,H1,n,#[2],q] #[.str d.shown,H1,n.tok _,#[2],q] f
 cases hd with
 |non=>cases c;show pyReprObj_none (fin>>(a.tok _))
 |bl b=>cases c;show pyReprObj_bool (fin>>(a.tok _))
 |int i=>let#[t,1]:=c;show pyReprObj_int (by simpa [PyData.showable] using g) (fin>>(a.tok _))
 |str y r=>let#[t,1]:=c;show pyReprObj_str (fin>>(a.tok _)) (hx:=f)
 |lst h1 h2=>
  cases c;show P6 l g (O7 m) j () (λ_ _ z=>z) (λh' u tk k=>fin>>(a.kept k)) (hsz:=f)
 |tup h1 h2=>
  cases c;show P6 l g (O7 m) j () (λ_ _ z=>z) (λh' u tk k=>fin>>(a.kept k)) (hsz:=f)
end
end L2
namespace K15
open PySem L2 K51 K31
def EX(K:W.Frag)(vs:List V)(H:Hp)(Q:VK)(x C:pR)(v:V)(d:vu):Prop:=vs=[.ref x,v]/\H x*>c_ x C n7/\jZ K C=oD/\fE K C ↑71/\
 (Dt [] H v d/\d.showable=oD/\d.depth<=60/\d.shown.length<=10000)/\∀dx,H dx=n7->dx≠x->Q .non\upd (upd H x\c_ x C (oy dx)) dx (.xd [(↑71,v)])
def nA(K:W.Frag):Sp:=λvs H Q _=>Exists\Ex4 (EX K vs H Q)
section
def Gk:aR [↑67,↑71] [↑67,↑71] (au nU):=.f
def Fg{f S:pR}(U:Fun K ↑14 ↑96 nU f fd)(c:mg ↑22*>.ref S)(b:BInit K S):!aj CX0 1 f fd [↑67,↑71] (nA K):=by
 show U.ok Gk (!4) λl A outer s H vs Q E a h=>?_
 let#[x,C,v,d,1,hx,e,hf,#[g,i,j,m],q]:=h;erw[_,af (dJ\zG rfl c b (ae (pv 0)\pa1 (AB\qu a7 (qu (AC a.units a.gu\pv 1) Bs))))\ak (Ax (pv 0) (pv 1) rfl),?_];let n:↑(Str.empty++("no skin: " : Str))<=20:=⋯;let hz:10020<=sizeLine:=by rw[cY];lia
 let l1:↑((Str.empty++("no skin: " : Str))++d.shown)<=sizeLine:=by rw[kJ];lia
 erw[3,(),2,d,g,i,j,(),2,l1,l1,x,C,2,hx,e,by change 1<=qs;lia,?_];erw[3,x,C,1,hx,hf,λdx h1 h2=>q dx h1 h2]
end
def sI(c:Nat):PyData:=.tuple [.str "round",.int (c:Int)]
def HU{c:Nat}(h:c<10 ^ 160):(sI c).showable=oD/\(sI c).depth<=60/\(sI c).shown.length<=10000:=by
 erw[?_,?_,?_]
 .change (oD&&(decide (((c:Nat):Int).natAbs.log2<1920)&&oD))=oD;rw[Rz\nq h];rfl
 .change max 0 (max 0 0)+1<=60;decide
 let h1:↑((toString ((c:Nat):Int):String):Str)<=160:=by rw[uM,uJ];show pM 159 c h
 change ↑(tupleText [reprText "round",(toString ((c:Nat):Int):String)])<=10000;let h2:↑(reprText "round")<=20:=⋯;unfold tupleText;rw[kJ,kJ];let a:=Df [reprText "round",(toString ((c:Nat):Int):String)] ∅;let b:↑(("(" : Str))=1:=⋯;let d:↑(Str.ofString ")")=1:=⋯;let e:piled [reprText "round",((toString ((c:Nat):Int):String):Str)]<=300:=by generalize ((toString ((c:Nat):Int):String):Str)=z at h1;simp[piled];lia
 change _+_+↑(Str.ofString ")")<=_;lia
def II(C:pR)(vs:List V)(H:Hp)(Q:VK)(E:XK)(S:pR)(ts:List Tri)(L:List (Nat×pR)):Prop:=vs=[.ref S]/\H S*>.dK (L.map stV)/\(L.map (·.1)).Nodup/\(∀x∈L,Rd H x.2\.dK ((abt (ents ts) x.1).map nmV))/\
 (∀c,c∈L.map (·.1)↔Co ts c)/\↑L<5000/\↑ts<=200/\Good ts/\((∀c,Co ts c->One (En ts) c)\/∀c,Co ts c->c<10 ^ 160)/\
 (∀H',Sm H H'->(∀c,Co ts c->One (En ts) c)->Q .non H')/\
 ∀(c:Nat) d t H',Sm H H'->H' d*>.xd [(↑71,.ref t)]->H' t*>.tup [.str "round",.int (c:Int)]->Co ts c->¬One (En ts) c->(∀a,Co ts a->a<c->One (En ts) a)->E (.ref C) (oy d) H'
def Bh(C:pR):Sp:=λvs H Q E=>Exists\Ex3 (II C vs H Q E)
def Mv{ts:List Tri}(g:Good ts)(c:Nat):Abt (En ts) c (abt (ents ts) c):=#[Mw g.nd c,λ_ _=>qz]
section
def Ao:aR ["steps","corner"] ["steps"] (au qM):=.f
def Hq{f f1 R C:pR}{fd d1 T:ro}(U:Fun K ↑23 ↑23 qM f fd)(mS:mg ↑55 = n7)(G:!Use 2 ↑47 ["about"] Bn f1 d1)
  (M:iR K C R) (cf:fE K C ↑71) (F:!aj CX0 1 R T [↑67,↑71] (nA K)) (b2:Binds K T [↑67,↑71] []) (mC:mg "NoSkin"*>.ref C) :
  !aj (CX1 P w) 3 f fd ["steps"] (Bh C):=by
 show U.ok1 Ao (λvs H Q E h=>?_) (λRD A outer s H vs Q E y h=>?_)
 .let#[S,ts,L,1,_]:=h;rfl
 let#[S,ts,L,1,r,nk,am,B,hL,hl,g,an,q1,q2]:=h;let hu:=dA y;erw[_,ak (dC wY rfl (bQ\bP (mW rfl) (by rfl) mS iC (pa1\pv 0)) (gx 1 Ao.nd)
  (ak\a8 (fK\dQ (uc G y\pa1 (ie hu (pv 0) (pv 1) λ_ _=>rfl))) (ak\tY (tS lets1 rfl) rfl M F y b2 rfl mC (pa1\aD (ae a7\pa1 (pv 1)))) aY)),?_]
 let a6:=line5000;erw[2,S,1,.inl #[_,r],λks vs hk=>.inl #[(L.map (·.1)).map λc:Nat=>(c:Int),?_,by rw[av,av];show hL,λp ms hp pm ps=>?_]]
 .rcases hk with ⟨kvs,e,rfl,_⟩|⟨kvs,as,e,_⟩
  .rw[r] at e;cases e;rw[cz,cz,cz];rfl
  rw[r] at e;cases e
 let#[cs,1,pl,pc]:=tQ nk pm ps;let e:(cs.map λc:Nat=>(c:Int)).map V.int=nV cs:=by rw[cz];rfl
 rw[e];walk_at"H p hp H1 s1 X";erw[p,1,#[_,SqL.of X],fq (K:=[]) (a:=p) (xs:=nV cs) (λi Z H'=>∃D,Z=[oy\.ref S,D]/\Sm H1 H'/\∀c∈cs.take i,One (En ts) c) #[n7,1,Sm.refl _,∅] (by rintro i Z H' _ ⟨_,_,e,_⟩;show SqL.of\e.keep X λz=>z) ?_ ?_]
 .rintro i x Z H2 hi ⟨D,rfl,sm,m⟩;rw[nV,bu] at hi;let#[c,d,1]:=cA.mp hi;let Y:c∈L.map (·.1):=pc.mem_iff.mp\a9 d;let u:Co ts c:=(B c).mp Y;let#[a,ha,ap]:=va Y;let ab:Sm H H2:=(Sm.of s1)<*sm;let aM:=ab.rd\am _ ha;let et:cs.take (i+1)=cs.take i++[c]:=by rw[bE,d];rfl
  let aS:abt (ents ts) c≠[]:=λz=>by
   let#[p',q',h]:=u;have:=qz.mpr h;rw[z] at this;cases this
  let hlen:↑(abt (ents ts) c)<=1000:=by have:=A3 (ents ts) c;rw[el] at this;lia
  erw[3,S,2,.inl #[_,Sum.inl (c:Int),ab.rd\.inl r,1,ap.symm],a,_,En ts,c,1,aM,aS,hlen,g.sk,Mv g c,λb H3 ad hb=>?_];erw[2,?_];cases b with
  |true=>
   show ke #[2,sm<*ad,λn v=>?_];rw[et] at v;rcases bo.mp v with h|h
   .exact m n h
   rw[aG.mp h];show hb.mp rfl
  |false=>
   let ag:¬One (En ts) c:=λz=>by have:=hb.mpr z;cases this
   let a0:c<10 ^ 160:=(an.resolve_left λz=>ag\z c u) c u;let#[a1,a2,a3]:=HU a0;show BR #[2,lit2,λt H4 ht s4 l=>?_];erw[lit1,λx hx=>?_];erw[x,C,.ref t,sI c,1,aI,M.over,cf,#[.tup (SqT.of\bL hx _ _ l)\.cons (.str _ ⋯) (.cons (.int _) .nil),a1,a2,a3],λdx al I=>#[1,oy dx,?_,?_]]
   .rw[ar\aA I,aI]
   let N:H4 dx=n7:=by rw[ar I] at al;show al
   show q2 c dx t _ (λb o e=>?_) ?_ ?_ u ag λn v bb=>m n ?_
   .rcases ((Sm.of s1).trans\sm.trans (ad.trans\Sm.of s4)) b o e with z|⟨z1,ob,z⟩
    .refine .inl ?_;rw[eS\ao z hx,ar\ao z N,ar\ao z hx,ar\ao z hx];show z
    show .inr #[z1,ob,?_];rw[eS\ao z hx,ar\ao z N,ar\ao z hx,ar\ao z hx];show z
   .rw[eS I,aI]
   .rw[eS\ao l hx,ar\ao l N,ar\ao l hx,ar\ao l hx];show l
   let hm:n∈cs:=pc.mem_iff.mpr\(B n).mpr v;let#[j,q]:=gj hm;let a4:=(aN.mp q).1;let a5:=(aN.mp d).1;let O:j<i:=by
    show iV λz=>?_;by_cases O:j=i
    .subst O;rw[d] at q;cases q;lia
    have:=wL.mp pl i j a5 a4 ();rw[(aN.mp d).2,(aN.mp q).2] at this;lia
   show a9 (by rw[List.getElem?_take,Ry O];show q)
 rintro Z H2 ⟨D,rfl,sm,m⟩;rw[bH,cn] at m;show q1 H2 ((Sm.of s1)<*sm) λc d=>m c\pc.mem_iff.mpr ((B c).mpr d)
end
def zw{a:Hp}{E:XK}(M:iR K C g)(h:fE K C ↑71)(j:a t*>.tup xs)(hd:∀H',Same a H'->Dt [] H' (.ref t) d)
  (c:d.showable=oD/\d.depth<=60/\d.shown.length<=10000) (q:∀dx H',Same a H'->H' dx*>.xd [(↑71,.ref t)]->E (.ref C) (oy dx) H') :
  [V.ref t].length<=qs/\∀x,a x=n7->nA K [.ref x,.ref t] (upd a x\c_ x C n7) (λv H2=>v=.non/\∃d,H2 x*>c_ x C d/\E (.ref C) d\del H2 x) E0:=by
 erw[lit1,λx hx=>?_];erw[x,C,.ref t,d,1,aI,M.over,h,#[hd _\bL hx,c.1,c.2.1,c.2.2],λdx f e=>#[1,oy dx,?_,?_]]
 .rw[ar\aA e,aI]
 let i:a dx=n7:=by rw[ar e] at f;show f
 show q dx _ (λb o z=>?_) ?_
 .rw[eS\ao z hx,ar\ao z i,ar\ao z hx,ar\ao z hx];show z
 rw[eS e,aI]
def rE(k:Nat):PyData:=.tuple [.str ↑54,.int (k:Int)]
def EU{c:Nat}(h:c<10 ^ 160):(rE c).showable=oD/\(rE c).depth<=60/\(rE c).shown.length<=10000:=by
 erw[?_,?_,?_]
 .change (oD&&(decide (((c:Nat):Int).natAbs.log2<1920)&&oD))=oD;rw[Rz\nq h];rfl
 .change max 0 (max 0 0)+1<=60;decide
 let h1:↑((toString ((c:Nat):Int):String):Str)<=160:=by rw[uM,uJ];show pM 159 c h
 change ↑(tupleText [reprText ↑54,(toString ((c:Nat):Int):String)])<=10000;let h2:↑(reprText ↑54)<=20:=⋯;unfold tupleText;rw[kJ,kJ];let a:=Df [reprText ↑54,(toString ((c:Nat):Int):String)] ∅;let b:↑(("(" : Str))=1:=⋯;let d:↑(Str.ofString ")")=1:=⋯;let e:piled [reprText ↑54,((toString ((c:Nat):Int):String):Str)]<=300:=by generalize ((toString ((c:Nat):Int):String):Str)=z at h1;simp[piled];lia
 change _+_+↑(Str.ofString ")")<=_;lia
def ym{n:Nat}(h:n<=1000):n<10 ^ 160:=wR h ⋯
def ent3(t:Tri):List Ent:=[((t.1,t.2.1),t.2.2),((t.2.1,t.2.2),t.1),((t.2.2,t.1),t.2.1)]
def SdF(ts:List Tri)(k:Nat)(s:Nat×Nat):Prop:=((ents\ts.take k).map (·.1)).Nodup/\∃t j,ts[k]?*>t/\((ent3 t).map (·.1))[j]?*>s/\s∈(ents\ts.take k).map (·.1)/\∀s'∈((ent3 t).map (·.1)).take j,s'∉(ents\ts.take k).map (·.1)
def FltS(H:Hp)(d:pR)(k m n:Nat):Prop:=∃t u,H d*>.xd [(↑71,.ref t)]/\H t*>.tup [.str "side",.int (k:Int),.ref u]/\H u*>.tup [.int (m:Int),.int (n:Int)]
def Em(C:pR)(vs:List V)(H:Hp)(Q:VK)(E:XK)(T:pR)(a:List V)(ts:List Tri):Prop:=vs=[.ref T]/\H T*>.lst a/\ay H a ts/\↑ts<=400/\(∀t∈ts,t.1≠t.2.1/\t.2.1≠t.2.2/\t.2.2≠t.1)/\(((ents ts).map (·.1)).Nodup\/∀t∈ts,t.1<10 ^ 160/\t.2.1<10 ^ 160/\t.2.2<10 ^ 160)/\
 (∀D H',((ents ts).map (·.1)).Nodup->H D=n7->Same H H'->H' D*>.dT ((ents ts).map bD)->Q (.ref D) H')/\
 ∀k m n d H',SdF ts k (m,n)->Same H H'->FltS H' d k m n->E (.ref C) (oy d) H'
def yj(C:pR):Sp:=λvs H Q E=>Exists\Ex3 (Em C vs H Q E)
def yU(ts:List Tri)(t:Tri):ents (ts++[t])=ents ts++ent3 t:=by rw[jS];simp[ents,ent3]
def SdF.not{s:Nat×Nat}(h:SdF ts k s):¬((ents ts).map (·.1)).Nodup:=λnd=>by
 let#[_,t,j,a,b,c,_]:=h;rw[<-gr (k+1) ts,jS,aW,cW] at nd;let nd:=nd.1;rw[bE,a] at nd;let nd:((ents (ts.take k++[t])).map (·.1)).Nodup:=nd;rw[yU,aW,cW] at nd;show nd.2.2 _ c _ (a9 b) rfl
def AN{t:Tri}(h:t.1≠t.2.1/\t.2.1≠t.2.2/\t.2.2≠t.1):((ent3 t).map (·.1)).Nodup:=by let#[a,b,c]:=t;let#[h1,h2,d]:=h;let h1:a≠b:=h1;let h2:b≠c:=h2;let d:c≠a:=d;simp[ent3];lia
def rK(k m n:Nat):PyData:=.tuple [.str "side",.int (k:Int),.tuple [.int (m:Int),.int (n:Int)]]
def uX{c:Nat}(h:c<10 ^ 160):↑((toString ((c:Nat):Int):String):Str)<=160:=by rw[uM,uJ];show pM 159 c h
def zD{n:Nat}:∀{xs:List Str},(∀x∈xs,↑x<=n)->piled xs<=↑xs*(n+2)
 | [],_=>by simp[piled]
 |x::xs,h=>by
  let h1:=h x ∅;let h2:=zD (n:=n) (xs:=xs) λy a=>h y (by simp[a]);let b:piled (x::xs)=↑x+2+piled xs:=by simp[piled]
  rw[b,cv,Nat.succ_mul];lia
def zY{xs:List Str}{n:Nat}(h1:2<=↑xs)(h:∀x∈xs,↑x<=n):↑(tupleText xs)<=↑xs*(n+2)+3:=by unfold tupleText;rw[kJ,kJ];let a:=Df xs (λz=>by rw[z] at h1;simp at h1);let b:↑(("(" : Str))=1:=⋯;let c:↑(Str.ofString ")")=1:=⋯;let d:=zD h;rw[Rx (by simp;lia)];change _+_+↑(Str.ofString ")")<=_;lia
def E5{k m n:Nat}(a:k<10 ^ 160)(hm:m<10 ^ 160)(b:n<10 ^ 160):(rK k m n).showable=oD/\(rK k m n).depth<=60/\(rK k m n).shown.length<=10000:=by
 erw[?_,?_,?_]
 .change (oD&&(decide (((k:Nat):Int).natAbs.log2<1920)&&((decide (((m:Nat):Int).natAbs.log2<1920)&&(decide (((n:Nat):Int).natAbs.log2<1920)&&oD))&&oD)))=oD;rw[Rz\nq a,Rz\nq hm,Rz\nq b];rfl
 .change max 0 (max 0\max (max 0 (max 0 0)+1) 0)+1<=60;decide
 change ↑(tupleText [reprText "side",(toString ((k:Nat):Int):String),tupleText [(toString ((m:Nat):Int):String),(toString ((n:Nat):Int):String)]])<=10000;let h2:↑(reprText "side")<=20:=⋯;let i1:=uX a;let i2:=uX hm;let c:=uX b;let h1:↑(tupleText [((toString ((m:Nat):Int):String):Str),((toString ((n:Nat):Int):String):Str)])<=2*(160+2)+3:=zY ∅ λx hx=>by
  rcases aT.mp hx with rfl|hx
  .exact i2
  rw[aG.mp hx];show c
 show cR (zY (n:=400) ∅ λx hx=>?_) (by change 3*(400+2)+3<=10000;decide);rcases aT.mp hx with rfl|hx
 .lia
 rcases aT.mp hx with rfl|hx
 .lia
 rw[aG.mp hx];lia
section
def EB{f f2 C:pR}{fd d2:ro}(U:Fun K ↑42 ↑42 qo f fd)(T:cu mg)
  (MX:iR K C f2) (cf:fE K C ↑71) (F:!aj CX0 1 f2 d2 [↑67,↑71] (nA K)) (b2:Binds K d2 [↑67,↑71] []) (mC:mg "NoSkin"*>.ref C):!aj (CX1 P w) 3 f fd [↑50] (yj C):=by
 show U.ok1 ja (λvs H Q E h=>?_) (λRD A outer s H vs Q E hr h=>?_)
 .let#[T,vt,ts,1,_]:=h;rfl
 let#[T0,vt,ts,1,hT,ht,hl,a2,a3,q,qE]:=h;let hu:=dA hr;erw[_,af (sx 1 ja.nd uu)
  (af (dC wY rfl (uT rfl T.enum\pa1 (pv 0)) (dn rfl\aV (gx 2 ja.nd) (aV (dn rfl\aV (gx 3 ja.nd) (aV (gx 4 ja.nd)\aV (gx 5 ja.nd) dh)) dh))
   (ak (dC wY rfl (bQ\bO (ae (aD\ae (aD\ae (pv 3) (pa1\pv 4)) (pa1\pv 5))\ae (aD\ae (aD\ae (pv 4) (pa1\pv 5)) (pa1\pv 3)) (pa1\aD (ae (aD\ae (pv 5) (pa1\pv 3))\pa1 (pv 4))))) (dn rfl\aV (gx 6 ja.nd) (aV (gx 7 ja.nd) dh))
    (af (a8 (gL\lU hu (pv 6) (pv 1)) (ak\tY (tS lets1 rfl) rfl MX F hr b2 rfl mC (pa1\aD (ae a7\ae (pv 2) (pa1\pv 6)))) aY)
    (ak\jh hu (pv 1) (pv 6) (pv 7) rfl)))))
  (ak\aF (pv 1))),?_]
 let bl:=line5000;let hlen:=aE ht;show λD H1 h1 s1 y1=>?_;erw[2,T0,vt,1,SqL.of (s1>>hT),uB (K:=[]) (a:=T0) (xs:=vt) (λi Z H2=>∃v2 v3 v4 v5 v6 v7,Z=[oy\.ref T0,oy\.ref D,v2,v3,v4,v5,v6,v7]/\Same H H2/\H2 D*>.dT ((ents\ts.take i).map bD)/\((ents\ts.take i).map (·.1)).Nodup)
  #[n7,n7,n7,n7,n7,n7,1,s1,y1,List.Pairwise.nil] (by rintro i Z H2 _ ⟨_,_,_,_,_,_,_,e,_⟩;show SqL.of (e>>hT)) ?_ ?_]
 .rintro i x p Z H2 hi ⟨v2,v3,v4,v5,v6,v7,rfl,sm,hD,I⟩ hp;let#[#[a,b,c],L,t,1,hb]:=bV ht hi;let hb:H t*>.tup [.int (a:Int),.int (b:Int),.int (c:Int)]:=hb;let et:ts.take (i+1)=ts.take i++[(a,b,c)]:=by rw[bE,L];rfl
  walk_at"H2 p hp H3 s3 y3";erw[p,2,SqT.of y3,1,9,9,t,2,SqT.of (s3>>sm>>hb),1,9,9,6,1,?_];erw[3,lit2,λsa H4 ga s4 y4=>?_];erw[2,lit2,λua H5 bm S X=>?_];erw[3,lit2,λsb H6 gb y y6=>?_];erw[2,lit2,λub H7 bn s7 y7=>?_];erw[3,lit2,λsc H8 gc s8 y8=>?_];erw[2,lit2,λuc H9 bt s9 y9=>?_];erw[lit3,λM r gM sA yM=>?_];let a4:Same H3 H7:=(s4<*S<*y)<*s7;let Y:Same H7 r:=(s8<*s9)<*sA;let am:Same H3 r:=a4<*Y;let en:Paired (EnAt r) [V.ref ua,.ref ub,.ref uc] [((a,b),c),((b,c),a),((c,a),b)]:=
   .cons #[ua,sa,1,Y>>s7>>y>>X,Y>>s7>>y>>S>>y4] (.cons #[ub,sb,1,Y>>y7,Y>>s7>>y6]\.cons #[uc,sc,1,sA>>y9,sA>>s9>>y8] .nil)
  let al:r D*>.dT ((ents\ts.take i).map bD):=am>>s3>>hD;let ee:ents (ts.take (i+1))=ents (ts.take i)++[((a,b),c),((b,c),a),((c,a),b)]:=by rw[et,jS];simp[ents]
  let N:=AN\a2 _ (a9 L);let N:(([((a,b),c),((b,c),a),((c,a),b)]:List Ent).map (·.1)).Nodup:=N;let ab:ent3 (a,b,c)=[((a,b),c),((b,c),a),((c,a),b)]:=rfl;let bw:i<↑ts:=(aN.mp L).1;let l0:=el\ts.take i;rw[bz] at l0;let an:Same H r:=(sm<*s3)<*am;generalize ap:[((a,b),c),((b,c),a),((c,a),b)]=g at en N ee ab;let a5:↑g=3:=by rw[<-ap];rfl
  let a6:M≠D:=λz=>by rw[z,al] at yM;cases yM
  erw[M,1,#[_,SqL.of yM],fq (K:=[]) (a:=M) (xs:=[V.ref ua,.ref ub,.ref uc]) (λj Z H'=>∃w6 w7,Z=[oy\.ref T0,oy\.ref D,oy\.int (i:Int),oy\.int (a:Int),oy\.int (b:Int),oy\.int (c:Int),w6,w7]/\(∀l o,l≠D->r l*>o->H' l*>o)/\H' D*>.dT ((ents (ts.take i)++g.take j).map bD)/\∀s'∈(g.take j).map (·.1),s'∉(ents\ts.take i).map (·.1))
   #[v6,v7,1,λ_ _ _ e=>e,by rw[wM,eX];show al,∅] (by rintro j Z H' _ ⟨_,_,_,e,_⟩;show SqL.of\e _ _ a6 yM) ?_ ?_]
  .rintro j x Z H' hj ⟨w6,w7,rfl,but,O,R⟩;let#[#[#[m,n],o],ho,u,B,1,ad,v]:=bV en hj;let ad:r u*>.tup [.ref B,.int (o:Int)]:=ad;let v:r B*>.tup ((ky m n).map kV):=v;let ej:g.take (j+1)=g.take j++[((m,n),o)]:=by rw[bE,ho];rfl
   let bx:j<↑g:=(aN.mp ho).1;let nu:u≠D:=λz=>by rw[z,al] at ad;cases ad
   let ns:B≠D:=λz=>by rw[z,al] at v;cases v
   erw[u,2,SqT.of\but _ _ nu ad,1,9,6,?_];let bb:Same H H':=λl o e=>but l o (ao e h1) (an>>e);by_cases ag:(m,n)∈(ents\ts.take i).map (·.1)
   .let bc:∀t∈ts,t.1<10 ^ 160/\t.2.1<10 ^ 160/\t.2.2<10 ^ 160:=a3.resolve_left λnd=>by
     let B:SdF ts i (m,n):=#[I,(a,b,c),j,L,by rw[ab,bu,ho];rfl,ag,by rw[ab,<-oM];show R];show B.not nd
    let bd:SdF ts i (m,n):=#[I,(a,b,c),j,L,by rw[ab,bu,ho];rfl,ag,by rw[ab,<-oM];show R];let hc:=bc _\a9 L;let aM:m<10 ^ 160/\n<10 ^ 160:=by
     let hm:=a9 ho;rw[<-ap] at hm;let#[c1,c2,c3]:=hc;simp at hm;rcases hm with ⟨⟨rfl,rfl⟩,_⟩|⟨⟨rfl,rfl⟩,_⟩|⟨⟨rfl,rfl⟩,_⟩
     .exact#[c1,c2]
     .exact#[c2,c3]
     erw[c3,c1]
    let#[x,hx]:∃x,bp ((ents (ts.take i)++g.take j).map bD) (ky m n)*>x:=by
     cases hv:bp ((ents (ts.take i)++g.take j).map bD) (ky m n) with
     |some x=>erw[x,1]
     |none=>show absurd (by rw[aW];show d_ _ ag)\gF.mp hv
    erw[3,D,2,DGet.t (k:=ky m n) O\but _ _ ns v,oD,by rw[hx];rfl,aP ?_];erw[3,lit3,λt5 H5 g5 S X=>?_];let aS:H5 B*>.tup [.int (m:Int),.int (n:Int)]:=S>>(but _ _ ns v);show zw (d:=rK i m n) MX cf X (λH' s'=>.tup (SqT.of (s'>>X))\.cons (.str _ ⋯) (.cons (.int _)\.cons (.tup (SqT.of (s'>>aS))\.cons (.int _) (.cons (.int _) .nil)) .nil)) (E5 (ym ()) aM.1 aM.2) λdx H6 y e6=>?_;show qE i m n dx H6 bd (bb<*S<*y) #[t5,B,e6,y>>X,y>>aS]
   let a0:(m,n)∉(ents (ts.take i)++g.take j).map (·.1):=by
    rw[aW,bo];rintro (z|z)
    .exact ag z
    rw[<-gr (j+1) g,ej,gi,aW,cW] at N;show N.2.2 _ z (m,n) ∅ rfl
   erw[3,D,2,DGet.t (k:=ky m n) O\but _ _ ns v,p6,by rw[gF.mpr a0];rfl,az ?_];erw[3,2,D,2,DPut.t (k:=ky m n) O (but _ _ ns v) (by rw[av,bj,bz];lia),?_];rw[qp a0];walk_at"H' D Hb kb yb";erw[9,λl o e1 e2=>(kb l e1).trans\but l o e1 e2,by rw[yb,ej,gi],λs' a1=>?_];rw[ej,aW] at a1;rcases bo.mp a1 with z|z
   .exact R s' z
   rw[aG.mp z];show ag
  rintro Z H' ⟨w6,w7,rfl,but,O,R⟩;have:g.take [V.ref ua,.ref ub,.ref uc].length=g:=iY (by rw[a5];show aq 3);rw[this] at O R;erw[8,8,1,λl o e=>but l o (ao e h1) (an>>e),by rw[O,ee],?_];rw[ee,aW,cW];erw[I,N,λa' be l bi z=>R l bi (z ▸ be)]
 rintro Z H2 ⟨v2,v3,v4,v5,v6,v7,rfl,sm,hD,I⟩;rw[hlen,cn] at hD I;erw[2,q D H2 I h1 sm hD]
end
structure mn(CX:CXT)(P:rp)(w:sf)(K:W.Frag)(mg:Str->Option pC)(base:rq)(n:Nat)(x:Str)(ps:List Str)(sp:Sp)(f:pR)(fd:ro):Prop where
 g:!aj CX n f fd ps sp
 b:Binds K fd ps []
 m:mg x*>.ref f
 k:W.keepIn K (.ref f)=oD
def wc(H:Hp)(d:pR)(k:Str):Prop:=∃t xs,H d*>.xd [(↑71,.ref t)]/\H t*>.tup (.str k::xs)
abbrev tri3(t:Tri):HO:=.tup [.int (t.1:Int),.int (t.2.1:Int),.int (t.2.2:Int)]
def Ga(vs:List V)(H:Hp)(Q:VK)(t:pR)(x:Tri):Prop:=vs=[.ref t]/\H t*>tri3 x/\Q (.bl (decide (Ne3 x))) H
def Ae:Sp:=λvs H Q _=>Exists\Ex2 (Ga vs H Q)
def Gg(C:pR)(vs:List V)(H:Hp)(Q:VK)(E:XK)(T:pR)(a:List V)(ts:List Tri):Prop:=vs=[.ref T]/\H T*>.lst a/\ay H a ts/\↑ts<=400/\
 (∀r vr H',H r=n7->Same H H'->H' r*>.lst vr->ay H' vr ts->(∀t∈ts,Ne3 t)->Q (.ref r) H')/\
 ∀d H',Same H H'->wc H' d ↑54->(¬∀t∈ts,Ne3 t)->E (.ref C) (oy d) H'
def Aj(C:pR):Sp:=λvs H Q E=>Exists\Ex3 (Gg C vs H Q E)
section
def Ht{f j:pR}{fd l:ro}(U:Fun K ↑88 ↑88 pP f fd)(T:cu mg)(F:oG K)(G:!Use 2 ↑60 [↑43] pJ j l) :
  !aj CX0 3 f fd [↑43] Ae:=by
 show U.ok pK (!2) λm A outer s H vs Q E g h=>?_
 let#[t,#[a,b,c],1,i,q]:=h;erw[_,af (a8 (PW.pt (gQ (fK\dQ (bP (kW (c:=↑20)) (by rfl) T.isi gv\ae (pv 0) (pa1\jU (v:=.ty ↑20) rfl T.tuple jJ rfl)))
    (iK\aQ j8 (pln T.len\pv 0) ah (nomark _)))) (ak\aF il) aY)
  (af (fu (pv 0)\dn rfl (aV (gx 1 pK.nd)\aV (gx 2 pK.nd) (aV (gx 3 pK.nd) dh)))
  (af (a8 (PW.pt\gQ (fK\dQ (uc G g\pa1 (pv 1))) (gQ (fK\dQ (uc G g\pa1 (pv 2)))\iK (fK\dQ (uc G g\pa1 (pv 3))))) (ak\aF il) aY)
  (ak\aF (jY (e_ j8 (pv 1) (pv 2)\nomark _)\jY (e_ j8 (pv 2) (pv 3)\nomark _) (jX\e_ j8 (pv 3) (pv 1) (nomark _)))))),?_]
 erw[2,0,oD,1,.tup i,F.t,2,iu ?_];erw[2,t,2,.inr\SqT.of i,7,?_];show az #[2,t,2,SqT.of i,1,9,9,6,?_];erw[2,a,7,iu #[2,b,7,iu #[2,c,7,ke ?_]]];let ne:∀x y:Nat,(!decide (V.int (x:Int)=V.int (y:Int)))=decide (x≠y):=λx y=>by
  rw[gU,eW];simp;lia
 erw[3,7,?_];rw[ne];by_cases d:a=b
 .rw[RA λz=>z d];show az ?_;rw[RA λz:Ne3 (a,b,c)=>z.1 d] at q;show q
 rw[Rz d];show aP #[3,7,?_];rw[ne];by_cases e:b=c
 .rw[RA λz=>z e];show az ?_;rw[RA λz:Ne3 (a,b,c)=>z.2.1 e] at q;show q
 rw[Rz e];show aP #[3,1,?_];rw[ne,show decide (c≠a)=decide (Ne3 (a,b,c)) from decide_eq_decide.mpr #[λz=>#[d,e,z],λz=>z.2.2]];show q
def HA{f f1 f2 C:pR}{fd d1 d2:ro}(U:Fun K ↑37 ↑37 nC f fd)(T:cu mg)(G:!Use 3 ↑88 [↑43] Ae f1 d1)
  (M:iR K C f2) (cf:fE K C ↑71) (F:!aj CX0 1 f2 d2 [↑67,↑71] (nA K)) (b2:Binds K d2 [↑67,↑71] []) (mC:mg "NoSkin"*>.ref C) :
  !aj (CX1 P w) 4 f fd ["things"] (Aj C):=by
 show U.ok1 jN (λvs H Q E h=>?_) (λRD A outer s H vs Q E hr h=>?_)
 .let#[T,y,ts,1,_]:=h;rfl
 let#[B,y,ts,1,hT,ht,hl,q,qE]:=h;let al:Room 2 _:=hr.mono ⋯;erw[_,af (sx 1 jN.nd\bO fB)
  (af (dC wY rfl (uT rfl T.enum\pa1 (pv 0)) (dn rfl\aV (gx 2 jN.nd) (aV (gx 3 jN.nd) dh))
   (af (a8 (fK\dQ (uc G hr\pa1 (pv 3))) (ak\tY (tS lets1 rfl) rfl M F al b2 rfl mC (pa1\aD (ae a7\pa1 (pv 2)))) aY)
   (af (fu (pv 3)\dn rfl (aV (gx 4 jN.nd)\aV (gx 5 jN.nd) (aV (gx 6 jN.nd) dh)))
   (ak\dJ (dR eG gw gz fm (pv 1)\pa1 (aD\ae (du ib (by rfl) T.int iz\pa1 (pv 4)) (ae (du ib (by rfl) T.int iz\pa1 (pv 5))\pa1 (du ib (by rfl) T.int iz\pa1 (pv 6)))))))))
  (ak\aF (pv 1))),?_]
 let am:=line5000;let hlen:=aE ht;erw[a_ _,λr H1 ab s1 y1=>?_];erw[2,B,y,1,SqL.of (s1>>hT),uB (K:=[]) (a:=B) (xs:=y) (λi Z H'=>∃D I L N O vr,Z=[oy\V.ref B,oy\.ref r,D,I,L,N,O]/\Same H H'/\H' r*>.lst vr/\ay H' vr (ts.take i)/\∀t∈ts.take i,Ne3 t)
  #[n7,n7,n7,n7,n7,[],1,s1,y1,.nil,∅] (by rintro i Z H' _ ⟨_,_,_,_,_,_,_,e,_⟩;show SqL.of (e>>hT)) ?_ ?_]
 .rintro i x p Z H2 hi ⟨D,I,L,N,O,vr,rfl,sm,m,tr,u⟩ hp;let#[#[a,b,c],R,t,1,S]:=bV ht hi;let S:H t*>tri3 (a,b,c):=S;let an:i<↑ts:=(aN.mp R).1;let et:ts.take (i+1)=ts.take i++[(a,b,c)]:=by rw[bE,R];rfl
  walk_at"H2 p hp H3 g y3";let ad:=g>>sm>>S;erw[p,2,SqT.of y3,1,9,6,?_];erw[2,t,(a,b,c),1,ad,2,?_];by_cases v:Ne3 (a,b,c)
  .rw[Rz v];show ke #[2,t,2,SqT.of ad,1,9,9,6,?_];erw[2,.inl #[1,_,SqL.of (g>>m)],2,.inl #[3,.inl #[3,.inl #[2,lit3,λt1 H4 g1 n j=>?_]]]];let X:=n>>g>>m;let l1:=aE tr;rw[bz] at l1;erw[r,6,X,(),λH5 k5 y5=>?_];let n1:∀l o,H l*>o->l≠r:=λl o e=>ao e ab;erw[8,8,1,λl o e=>(k5 l\n1 l o e)<*(n>>g>>sm>>e),y5,?_,?_]
   .rw[et];show bR (Paired.imp' (by rintro v' t' ⟨a',e,Y⟩;erw[a',e,(k5 a' (λz=>by rw[z,m] at Y;cases Y))<*(n>>g>>Y)]) tr)\.cons #[t1,1,(k5 t1 (λz=>by rw[<-z,j] at X;cases X))<*j] .nil
   intro t ag;rw[et] at ag;rcases bo.mp ag with z|z
   .exact u t z
   rw[aG.mp z];show v
  rw[RA v];show BR #[2,lit2,λt' H4 ap n j=>?_];show zw (d:=rE i) M cf j (λH' s'=>.tup (SqT.of (s'>>j))\.cons (.str _ ⋯) (.cons (.int _) .nil)) (EU\ym ()) λdx H' s5 e5=>?_;show qE dx H' (sm<*g<*n<*s5) #[t',_,e5,s5>>j] λz=>v\z _ (a9 R)
 rintro Z H2 ⟨D,I,L,N,O,vr,rfl,sm,m,tr,u⟩;rw[hlen,cn] at tr u;erw[2,q r vr H2 ab sm m tr u]
end
structure SCls(K:W.Frag)(C:pR):Prop where
 cl:Cls K C
 ordered:ig K C "ordered"
 rising:ig K C "rising"
 thirds:ig K C "thirds"
 steps:ig K C "steps"
def sflds(O R D S:pR):List (Str×V):=[("ordered",.ref O),("rising",.ref R),("thirds",.ref D),("steps",.ref S)]
def Srt(us:List Tri):Prop:=us.Pairwise (λa b=>HT.lexLt [(b.1:Int),(b.2.1:Int),(b.2.2:Int)] [(a.1:Int),(a.2.1:Int),(a.2.2:Int)]=p6)
structure SkIn(C:pR)(H:Hp)(x:pR)(ts us:List Tri)(dx O R D S:pR)(vo:List V)(L:List (Nat×pR)):Prop where
 ob:H x*>.ins C dx\sflds O R D S
 od:H O*>.lst vo
 tr:ay H vo us
 th:Rd H D\.dT ((ents ts).map bD)
 st:Rd H S\.dK (L.map stV)
 ab:∀z∈L,Rd H z.2\.dK ((abt (ents ts) z.1).map nmV)
 ri:∃cs:List Nat,H R*>.lst (nV cs)/\cs.Pairwise (· < ·)/\∀c,c∈cs↔Co ts c
structure SkT(ts us:List Tri):Prop where
 sk:Skn ts
 al:Alike us ts
 so:Srt us
 ln:↑ts<=200
 bd:∀c,Co ts c->c<10 ^ 160
def cV(C:pR)(H:Hp)(x:pR)(ts us:List Tri):Prop:=SkT ts us/\∃(dx O R D S:pR)(a:List V)(L:List (Nat×pR)),SkIn C H x ts us dx O R D S a L/\(L.map (·.1)).Nodup/\∀c,c∈L.map (·.1)↔Co ts c
def cV.sm{us:List Tri}(s:Sm H H')(h:cV C H x ts us):cV C H' x ts us:=by let#[t,dx,O,R,D,S,b,L,h,r]:=h;erw[t,dx,O,R,D,S,b,L,#[s.keep h.ob λz=>z,s.keep h.od λz=>z,Paired.imp' (by rintro _ _ ⟨a,c,d⟩;erw[a,c,s.keep d λz=>z]) h.tr,s.rd h.th,s.rd h.st,λz hz=>s.rd\h.ab z hz,h.ri.elim λcs q=>#[cs,s.keep q.1 λz=>z,q.2]],r]
def SmB(x:pR)(H H':Hp):Prop:=∀b o,b≠x->H b*>o->H' b*>o\/(eK o/\∃ob,H' b*>.frz ob o)
def Few(ts:List Tri):Prop:=↑ts<=200/\∀t∈ts,t.1<10 ^ 160/\t.2.1<10 ^ 160/\t.2.2<10 ^ 160
def dX(ts:List Tri)(k:Str):Prop:=k = ↑54/\(¬∀t∈ts,Ne3 t)\/(∀t∈ts,Ne3 t)/\(k = "side"/\¬((ents ts).map (·.1)).Nodup\/((ents ts).map (·.1)).Nodup/\k = "round"/\∃c,Co ts c/\¬One (En ts) c)
def IF(Cs C:pR)(vs:List V)(H:Hp)(Q:VK)(E:XK)(x dx T:pR)(a:List V)(ts:List Tri):Prop:=vs=[.ref x,.ref T]/\H x*>.ins Cs dx []/\H T*>.lst a/\ay H a ts/\Few ts/\
 (∀us H',SmB x H H'->cV Cs H' x ts us->Q .non H')/\∀d H' k,dX ts k->Sm H H'->wc H' d k->E (.ref C) (oy d) H'
def vh(Cs C:pR):Sp:=λvs H Q E=>Exists\Ex5 (IF Cs C vs H Q E)
def Cf(n:Ne3 t)(h:Bg t u):u=bg t:=by
 let#[a,b,c]:=t;let#[d,e,f]:a≠b/\b≠c/\c≠a:=n;let#[h,h1,h2]:=h;rcases h with rfl|rfl|rfl
 .exact (rY #[h1,h2]).symm
 .rw[<-rC #[d,e,f]];show (rY #[h1,h2]).symm
 rw[rC (a:=c) (b:=a) (c:=b) #[f,d,e]];show (rY #[h1,h2]).symm
def rB:∀{ts us:List Tri},(∀t∈ts,Ne3 t)->Paired Bg ts us->us=ts.map bg
 |_,_,_,.nil=>rfl
 |_,_,n,.cons h r=>by rw[Cf (n _ gk) h,rB (λt a=>n t\de _ a) r];rfl
section
def qD:aR [↑67,↑50,"checked","thirds","steps"] [↑67,↑50] (au j7):=.f
def JG{f f1 f2 f3 f4 f5 Cs C:pR}{fd d1 d2 d3 d4 d5:ro}(U:Fun K ↑14 "Skin.__init__" j7 f fd)(T:cu mg)(mS:mg ↑55 = n7){tM:Tok}(mM:mg "MOST_TRIPLES"*>.int 200 tM)(X:SCls K Cs)
  (G1:mn (CX1 P w) P w K mg base 4 ↑37 ["things"] (Aj C) f1 d1) (G2:mn (CX1 P w) P w K mg base 3 ↑42 [↑50] (yj C) f2 d2) (G3:!Use 1 ↑36 ["thirds"] z7 f3 d3)
  (G4:mn (CX1 P w) P w K mg base 3 ↑23 ["steps"] (Bh C) f4 d4) (G5:!Use 1 ↑51 [↑54] uO f5 d5) :
  !aj (CX1 P w) 5 f fd [↑67,↑50] (vh Cs C):=by
 show U.ok1 qD (λvs H Q E h=>?_) (λRD A outer s H vs Q E hr h=>?_)
 .let#[x,dx,T,vt,ts,1,_]:=h;rfl
 let#[x,dx,T0,vt,ts,1,hx,hT,ht,#[hl,am],q1,qE]:=h;let a1:Room 1 _:=hr.mono ⋯;let a2:Room 3 _:=hr.mono ⋯;erw[_,af (a8 (aQ rS (pln T.len\pv 1) (dP (v:=.int 200) rfl mM #[2])\nomark _) tX aY)
  (af (sx 2 qD.nd\jk G1.g hr rfl G1.m G1.k G1.b .nil pass1 (pa1\pv 1))
  (af (sx 3 qD.nd\jk G2.g a2 rfl G2.m G2.k G2.b .nil pass1 (pa1\pv 2))
  (af (sx 4 qD.nd\uc G3 a1 (pa1\pv 3))
  (af (dJ\jk G4.g a2 rfl G4.m G4.k G4.b .nil pass1 (pa1\pv 4))
  (af (qX (pv 0) (bP xq (by rfl) mS iC\pa1 (dv (N:=[↑54]) (fr:=[n7]) (tV ⋯ rfl ⋯ ⋯) rfl (bQ\pv 2)
    (λC s H fp RC=>#[gx 0 (⋯:([↑54]:List Str).Nodup),eu,uc G5 a1\pa1 (pv 0)]))) rfl)
  (af (qX (pv 0) (bP (DC rfl) (by rfl) mS iC\pa1 (pv 4)) rfl)
  (af (qX (pv 0) (pv 3) rfl)
  (ak\qX (pv 0) (pv 4) rfl)))))))),?_]
 let b4:=line5000;let hlen:=aE ht;erw[2,T0,2,.inl\SqL.of hT,6,2,?_];change if decide ((↑vt:Int)>200)=oD then _ else _
 rw[RA ()];show az #[2,T0,vt,ts,1,hT,ht,(),λr vr H1 b5 s1 y1 tr1 ag=>?_,λd H1 s1 y e2=>qE d H1 _ (.inl #[1,e2]) (Sm.of s1) y];erw[2,r,vr,ts,1,y1,tr1,(),ag,.inr am,λD H2 a3 b6 s2 y2=>?_,λk m n d H2 y s2 ⟨t,u,M,e4,_⟩=>qE d H2 _ (.inr #[ag,.inl #[1,y.not]]) (Sm.of\s1.trans s2) #[t,_,M,e4]];let g:Good ts:=#[ag,a3];let a4:∀c,Co ts c->c<10 ^ 160:=λc hc=>by
  let#[p',q',bA]:=hc;rcases cG.mp bA with z|z|z
  .exact (am _ z).1
  .exact (am _ z).2.1
  show (am _ z).2.2
 erw[2,D,ents ts,1,y2,g.nd,by rw[el];lia,λS L H3 b7 ap st=>?_];let lL:↑L<5000:=by have:=st.len;rw[el] at this;lia
 erw[2,S,ts,L,1,st.at_,st.nk,λz hz=>.inl\st.ab z hz,st.key,lL,(),g,.inr a4,λl Y bK=>?_,λc d t l Y y e2 M e4 e5=>qE d l _ (.inr #[ag,.inr #[a3,1,c,M,e4]]) (((Sm.of\s1.trans s2)<*ap)<*Y) #[t,_,y,e2]]
 let a5:Sm H l:=((Sm.of\s1.trans s2)<*ap)<*Y;let a6:l x*>.ins Cs dx []:=a5.keep hx (λz=>z);let aM:Sm H2 l:=ap<*Y;let bb:l r*>.lst vr:=aM.keep (s2>>y1) (λz=>z);let bc:ay l vr ts:=Paired.imp' (by rintro v' t' ⟨a',e,B⟩;erw[a',e,aM.keep (s2>>B) λz=>z]) tr1;let bM:=aE bc;erw[2,r,1,#[_,SqL.of bb],λZ_ hZ=>dG (K:=[]) (a:=r) (xs:=vr) (λi Z ys H'=>∃o us,Z=[o]/\Same l H'/\H' Z_*>.lst ys/\ay H' ys us/\Paired Bg (ts.take i) us) #[n7,[],1,bL hZ,aI,.nil,.nil]
  (by rintro i Z ys H' _ ⟨_,_,_,e,_⟩;show SqL.of (e>>bb)) ?_ ?_]
 .rintro i v Z ys H' hi ⟨o,us,rfl,sm,bd,tr,bg⟩;let#[t3,hs,t,1,p]:=bV bc hi;let be:i<↑ts:=(aN.mp hs).1;let ly:↑ys<=200:=by rw[aE tr,<-aE bg,bz];lia
  erw[2,t,t3,1,sm>>p,λr' u H5 s5 y5 bN=>#[s5>>bd,(),λHn kn yn=>#[oy\.ref t,us++[u],1,λb o e=>(kn b\ao e hZ)<*(s5>>sm>>e),yn,?_,by rw[bE,hs];show bR bg\.cons bN .nil]]];let bS:=s5>>bd;let tn:∀{b':pR}{xs:List V},H5 b'*>.tup xs->b'≠Z_:=λe=>bW e bS ∅;show bR (Paired.imp' (by rintro _ _ ⟨b',y,e2⟩;erw[b',y,by let M:=s5>>e2;show (kn _\tn M)<*M]) tr)\.cons #[r',1,(kn _\tn y5)<*y5] .nil
 rintro Z ys H5 ⟨o,ws,rfl,s5,bX,al,bg⟩;rw[bM,cn] at bg;let b8:↑ys=↑ts:=by rw[aE al,<-aE bg]
 let ly:↑ys<=200:=();erw[Z_,ys,ws.map kyT,1,SqL.of bX,ug al,(),λO ix hO pm ps=>?_];let bi:∀i∈ix,i<↑ys:=λi hi=>iy.mp\pm.mem_iff.mp hi;let aS:=uh al ix bi;let perm:(ix.map λi=>ws.getD i (0,0,0)).Perm ws:=xM (by rw[<-aE al];show pm);let bl:Srt (ix.map λi=>ws.getD i (0,0,0)):=by
  unfold Srt;rw[gq] at ps |-;show ps.imp_of_mem λ{i j} hi hj h=>?_;let gt:∀i,i∈ix->(ws.map kyT).getD i []=kyT (ws.getD i (0,0,0)):=λi hi=>by
   let be:i<↑ws:=by rw[<-aE al];show bi i hi
   simp[List.getD,aU be]
  rw[gt i hi,gt j hj] at h;show h
 generalize (ix.map λi=>ws.getD i (0,0,0))=us at aS perm bl;generalize (ix.map λi=>ys.getD i .non)=vo at aS |-;walk_at"H5 O hO q s6 y6";let I:Same l q:=s5<*s6;let b0:ay q vo us:=Paired.imp' (by rintro v' t' ⟨a',e,B⟩;erw[a',e,s6>>B]) aS;erw[2,x,Cs,dx,2,I>>a6,X.cl,X.ordered,(by change 0<1000;decide),?_];let bm:Rd q S (.dK\L.map stV):=(Sm.of I).rd\Y.rd (.inl st.at_);let an:=I>>a6;walk_at"q x H7 k7 y7";let bn:∀{b:pR}{u:HO},eK u->Rd q b u->b≠x:=λ{b u} hu p z=>by
  subst z;rcases p with e|⟨ob,e⟩
  .rw[an] at e;cases e;show hu
  rw[an] at e;cases e
 let bt:∀{b:pR}{u:HO},eK u->Rd q b u->Rd H7 b u:=λ{b u} hu p=>by
  let n:=bn hu p;rcases p with e|⟨ob,e⟩
  .exact .inl\(k7 b n).trans e
  show .inr #[ob,(k7 b n)<*e]
 let b1:=bt (u:=.dK\L.map stV) True.intro bm;let bw:Rd q D (.dT\(ents ts).map bD):=(Sm.of I).rd\aM.rd (.inl y2);let b9:=bt (u:=.dT\(ents ts).map bD) True.intro bw;erw[2,S,2,b1,True.intro,λks vs hk=>.inl #[(L.map (·.1)).map λc:Nat=>(c:Int),?_,by rw[av,av];show lL,λR ms hR pm ps=>?_]]
 .rcases hk with ⟨kvs,e,rfl,_⟩|⟨kvs,as,e,_⟩
  .cases e;rw[cz,cz,cz];rfl
  cases e
 let#[cs,1,pl,pc]:=tQ st.nk pm ps;let e:(cs.map λc:Nat=>(c:Int)).map V.int=nV cs:=by rw[cz];rfl
 rw[e];walk_at"H7 R hR H8 s8 y8";erw[2,x,Cs,dx,2,s8>>y7,X.cl,X.rising,(by change 1<1000;decide),?_];walk_at"H8 x H9 k9 y9";erw[3,x,Cs,dx,2,y9,X.cl,X.thirds,(by change 2<1000;decide),?_];walk_at"H9 x Ha ka ya";erw[3,x,Cs,dx,2,ya,X.cl,X.steps,(by change 3<1000;decide),?_];walk_at"Ha x Hb kb yb";let bx:∀b,b≠x->Hb b=H8 b:=λb n=>(kb b n).trans\(ka b n).trans (k9 b n);let ad:∀b o,b≠x->q b*>o->Hb b*>o:=λb o n e=>(bx b n)<*(s8>>((k7 b n)<*e));let nO:O≠x:=λz=>by rw[z,an] at y6;cases y6
 let z2:ay Hb vo us:=Paired.imp' (by rintro v' t' ⟨a',e,B⟩;erw[a',e,ad a' _ (λz=>by rw[z,an] at B;cases B) B]) b0;let a0:∀{b:pR}{u:HO},eK u->Rd q b u->Rd Hb b u:=λ{b u} hu p=>by
  let n:=bn hu p;rcases p with e|⟨ob,e⟩
  .exact .inl\ad b _ n e
  show .inr #[ob,ad b _ n e]
 let b2:=a0 (u:=.dT\(ents ts).map bD) True.intro bw;let b3:=a0 (u:=.dK\L.map stV) True.intro bm;show q1 us Hb (λb o n e=>?_) #[#[#[g,bK],(by let e:=rB ag bg;rw[e] at perm;show perm),bl,hl,a4],dx,O,R,D,S,vo,L,#[yb,ad O _ nO y6,z2,b2,b3,λz hz=>a0 (u:=.dK\(abt (ents ts) z.1).map nmV) True.intro\(Sm.of I).rd (Y.rd\.inl (st.ab z hz)),cs,(bx R\aA (ao y7 hR))<*y8,pl,λc=>pc.mem_iff.trans\st.key c],st.nk,st.key];rcases a5 b o e with z|⟨z1,ob,z⟩
 .exact .inl\ad b _ n (I>>z)
 show .inr #[z1,ob,ad b _ n (I>>z)]
end
def Rim(ts:List Tri)(s:Nat×Nat):Prop:=s∈(ents ts).map (·.1)/\(s.2,s.1)∉(ents ts).map (·.1)
def _root_.K31.SdsAt.same{ls:List (Nat×Nat)}(s:Same H H')(h:SdsAt H vs ls):SdsAt H' vs ls:=Paired.imp' (by rintro _ _ ⟨a,e,q⟩;erw[a,e,s>>q]) h
def K0(vs:List V)(H:Hp)(Q:VK)(T:pR)(a:List V)(ts:List Tri):Prop:=vs=[.ref T]/\H T*>.lst a/\ay H a ts/\↑ts<=200/\((ents ts).map (·.1)).Nodup/\
 ∀r zs rs H',H r=n7->Same H H'->H' r*>.lst zs->SdsAt H' zs rs->(∀s∈rs,Rim ts s)->↑rs<=600->rs.Nodup/\(∀s,Rim ts s->s∈rs)->Q (.ref r) H'
def vL:Sp:=λvs H Q _=>Exists\Ex3 (K0 vs H Q)
section
def B0:aR [↑0,↑5] [↑0] (au pL):=.f
def LF{f f1:pR}{fd d1:ro}(U:Fun K ↑34 ↑34 pL f fd)(mS:mg ↑55 = n7)(G:!Use 1 ↑25 [↑0] i_ f1 d1) :
  !aj CX0 2 f fd [↑0] vL:=by
 show U.ok B0 (!3) λRD A outer s H vs Q E hr h=>?_
 let#[T,vt,ts,1,hT,ht,hl,ab,q]:=h;let hu:=dA hr;erw[_,af (sx 1 B0.nd\uc G hr (pa1\pv 0))
  (ak\aF (dv (N:=[↑49,↑70,↑5]) (fr:=[n7,n7,oy 1]) (g:=kh [] 2\fN (cZ 0) (fN (cZ 1) ki)) cpK rfl (bQ\bP (mW rfl) (by rfl) mS iC (pa1\pv 1))
    (λC' s' H' fp RC=>#[dn rfl\aV (gx 0 (⋯:([↑49,↑70,↑5]:List Str).Nodup)) (aV (gx 1 (⋯:([↑49,↑70,↑5]:List Str).Nodup)) dh),
     fU (gL\nv hu (aD\ae (pv 1) (pa1\pv 0)) (pv 2)),aD\ae (pv 0) (pa1\pv 1)]))),?_]
 let ap:=line5000;erw[2,T,vt,ts,1,hT,ht,(),ab,λD H1 aM s1 m=>?_];erw[2,D,1,.inr #[_,m],λks vs X=>.inr #[_,uk\iD (K:=[]) m X,?_,λp ix hp pm _=>?_]]
 .rw[aE\iD (K:=[]) m X,av,el];lia
 let ad:=iD (K:=[]) m X;let lk:=aE ad;walk_at"H1 p hp H2 s2 Y";let al:∀i∈ix,i<↑ks:=λi hi=>iy.mp\pm.mem_iff.mp hi;let I:=pW (Paired.imp' (by rintro _ _ ⟨a,e,h⟩;erw[a,e,s2>>h]) ad:SdsAt H2 ks\(ents ts).map (·.1)) ix al;let n:(ix.map λi=>((ents ts).map (·.1)).getD i (0,0)).Perm ((ents ts).map (·.1)):=yv (by rw[<-lk];show pm);generalize (ix.map λi=>((ents ts).map (·.1)).getD i (0,0))=ss at I n;generalize (ix.map λi=>ks.getD i .non)=zs at I Y;let lz:=aE I;let am:ss.Nodup:=n.nodup_iff.mpr ab;let aS:↑ss<=600:=by rw[n.length_eq,av,el];lia
 erw[p,1,#[_,SqL.of Y],λZ_ hZ=>dG (K:=[]) (a:=p) (xs:=zs) (λi Z ys H'=>∃o1 o2 rs,Z=[o1,o2,oy\.ref D]/\Same H2 H'/\H' Z_*>.lst ys/\SdsAt H' ys rs/\(∀s∈rs,Rim ts s)/\↑rs<=i/\rs.Nodup/\(∀s∈rs,s∈ss.take i)/\∀s∈ss.take i,Rim ts s->s∈rs) #[n7,n7,[],1,bL hZ,aI,.nil,∅,aq _,.nil,∅,∅] (by rintro i Z ys H' _ ⟨_,_,_,_,e,_⟩;show SqL.of (e>>Y)) ?_ ?_]
 .rintro i y Z ys H' hi ⟨o1,o2,rs,rfl,sm,L,r,M,an,O,inr,R⟩;let#[#[a,b],l,c,1,hc]:=bV I hi;let a0:i<↑ss:=(aN.mp l).1;let hm:(a,b)∈(ents ts).map (·.1):=n.mem_iff.mp\a9 l;let u:ss.take (i+1)=ss.take i++[(a,b)]:=by rw[bE,l];rfl
  erw[c,2,SqT.of (sm>>hc),1,9,6,?_];erw[3,lit2,λt1 H3 g1 j y3=>?_];let a1:↑ys<=600:=by rw[aE r];lia
  erw[2,D,2,DGet.t (k:=ky b a) (j>>sm>>s2>>m) y3,?_];by_cases S:(b,a)∈(ents ts).map (·.1)
  .let hv:(bp ((ents ts).map bD)\ky b a).isSome=oD:=by
    cases e:bp ((ents ts).map bD) (ky b a) with
    |none=>show (gF.mp e S).elim
    |some v=>rfl
   erw[p6,by rw[hv];rfl,az #[0,rs,1,sm<*j,j>>L,K31.SdsAt.same j r,M,(),O,λs d=>by rw[u];show d_ _\inr s d,λs d B=>by
    rw[u] at d;rcases bo.mp d with h|h
    .exact R s h B
    rw[aG.mp h] at B;show (B.2 S).elim]]
  erw[oD,by rw[gF.mpr S];rfl,aP #[3,lit2,λt2 H4 g2 s4 y4=>?_]];let ag:=s4>>j>>L;let tn:∀{C:pR}{xs:List V},H4 C*>.tup xs->C≠Z_:=λe=>bW e ag ∅;erw[ag,(),λH5 k5 y5=>#[0,rs++[(a,b)],1,λC o e=>(k5 _\ao e hZ)<*(s4>>j>>sm>>e),y5,?_,?_,by rw[bj,cw];lia,?_,λs d=>?_,λs d B=>?_]]
  .exact bR (Paired.imp' (by rintro _ _ ⟨C,e1,e2⟩;erw[C,e1,by let e3:=s4>>j>>e2;show (k5 _\tn e3)<*e3]) r)\.cons #[t2,1,(k5 _\tn y4)<*y4] .nil
  .intro s d;rcases bo.mp d with h|h
   .exact M s h
   rw[aG.mp h];erw[hm,S]
  .rw[cW];erw[O,∅,λx hx z hz e=>?_];rw[aG.mp hz] at e;rw[e] at hx;let nd:=am;rw[<-gr (i+1) ss,u,cW,cW] at nd;show nd.1.2.2 _ (inr _ hx) _ ∅ rfl
  .rw[u];rcases bo.mp d with h|h
   .exact d_ _\inr s h
   show fj _ h
  rw[u] at d;rcases bo.mp d with h|h
  .exact d_ _\R s h B
  show fj _ h
 rintro Z ys H' ⟨o1,o2,rs,rfl,sm,L,r,M,an,O,inr,R⟩;show q Z_ ys rs H' ?_ (s1<*s2<*sm) L r M () #[O,λs l=>R s (by rw[iY ()];show n.mem_iff.mpr l.1) l];show (s1<*s2).free hZ
end
end K15
namespace L2
open PySem PySem.Spec PyProof.Rows
def qe(J:It)(g:TG)(tt:TT)(tk tv:TE)(D:pR)(Z':St)(H1:Hp)(Q:Hp->Prop):Prop:=
 ∃W:Nat->Nat->St->Hp->Prop,(∃m,W 0 m Z'\upd H1 D (.dK []))/\∀i m Z H,W i m Z H->
  (J.stop i H/\Q H)\/(J.go i H/\∃N:St->Hp->Prop,(∀Z' H',N Z' H'->∃a,a<m/\W (i+1) a Z' H')/\∀x H',J.yld i H x H'->g x Z H' λσ2 H2=>tt σ2 H2 λb c=>
   if b=oD then tk σ2 c λk e=>tv σ2 e λy d=>∃kvs kk,d D*>.dK kvs/\k=kV kk/\↑kvs<qs/\N σ2 (upd d D\.dK (cQ kvs kk y)) else N σ2 c)
def KS(wi:TI)(g:TG)(tt:TT)(tk tv:TE)(fr:List\Option Nat):TE:=λZ H Q=>wi Z H λJ H1=>∀D,H1 D=n7->qe J g tt tk tv D (iL fr Z) H1 λH2=>Q (.ref D) H2
def EI{kx vx target iter:ry}{ifs:List ry}{scope:Scope}{pos:Pos}{it:pC}{D:pR}{env:Env}{R:Result->pS->Prop}(I:Nat->pS->Prop)
  (turn:∀n s,I n s->q7 (rb P w) A (wb it) (λr s1=>match r with
   |none=>R (.ok .next) s1
   |some v=>q7 (rb P w) A (letOwnedTupleGo target it v) (λ_ s1'=>q7 (rb P w) A (assign target env v) (λ_ s2=>
     q7 (rb P w) A (forIn ifs oD λc r=>if r=oD then do let ok <-isTrue c env\sZ c env;pure (ForInStep.yield ok) else pure (ForInStep.yield r)) (λok s3=>
      if ok=oD then q7 (rb P w) A (sZ kx env) (λk s4=>q7 (rb P w) A (sZ vx env) (λx s5=>
       q7 (rb P w) A (dictSet D k x) (λ_ s6=>∃m,m<n/\I m s6) (λ_ _=>False) s5) (λ_ _=>False) s4) (λ_ _=>False) s3
      else ∃m,m<n/\I m s3) (λ_ _=>False) s2) (λ_ _=>False) s1') (λ_ _=>False) s1) (λ_ _=>False) s)
  (n:Nat) (h:I n s) :
  vc (rb P w) A (.compLoop (.DictComp kx vx [#[target,iter,ifs,(0)]] scope pos) 0 it (.ref D) env) R s:=by
 let no:∀(e:pC)(t:pS),False->notedBy (rb P w) A env (λe s'=>R (.error e) s') e t:=λ_ _ z=>z.elim;show codeAny_loop rfl I (λn s hI=>?_) n h;show wpAny_noted ?_;rw[compTurn_dict];show aa\kM (aa\bZ (turn n s hI) (λr s1 h1=>?_) no);cases r with
 |none=>show ai h1
 |some v=>
  show aa\bZ h1 (λ_ s1' h1'=>?_) no;show aa\bZ h1' (λ_ s2 h2=>aa\bZ h2 (λok s3 h3=>?_) no) no;cases ok with
  |false=>show ai #[1,h3]
  |true=>
   show aa\aa (bZ h3 (λk s4 h4=>aa\cX (bZ h4 (λx s5 h5=>aa\kM (cX\bZ h5 (λ_ s6 h6=>ai #[1,h6]) no)) no)) no)
def yV{kvs:List (Key×V)}{k:Key}{Q:Unit->pS->Prop}(I:Inv X RC Z H s)(e:H d*>.dK kvs)(b:aC (kV k) u)(l:↑kvs<qs)(c:aC v r)
  (h:∀s',Inv X RC Z (upd H d\.dK (cQ kvs k v)) s'->Q .unit s'):q7 ⇑X A (dictSet d u r) Q E s:=by
 let#[z,hd,vs,rel,dd]:=ou I.hok e;let hz:↑vs<=sizeLine:=by rw[<-↑rel];show z
 let f:↑(cQ kvs k v)<=sizeLine:=by have:=ng kvs k v;lia
 show wpAny_dictSet_pairs (hsz:=hz) (ip b) dd λh' a g=>h _ ?_;let he:∃q,h'.get? d*>q:=let ⟨q,_,_,i,_⟩:=a;#[q,i];show n6 I (by rw[e];show True.intro) g he\oo f hd (rel.put k c) a
section
variable {N:List Str}{fr:List (Option Nat)}{fp:List Addr}
def FH{kx vx target iter:ry}{ifs:List ry}{pos:Pos}{it D:pR}{z:Nat->rq->Prop}{J:It}{g:TG}{tt:TT}{tk tv:TE}{R:Result->pS->Prop}{s1:pS}{L:St}{H1:Hp}{Q:Hp->Prop}
  {Y:Cx} (hY:Y.xe=λ_ _=>False) (S:Y.calm=oD) (I:Inv Y [] L (upd H1 D\.dK []) s1) (T:Turn Y.prog Y.w Y.K target J fp it z) (ht:z 0 s1.heap) (hf:∀b∈fp,bY Y [] (upd H1 D\.dK []) b)
  (hg:PG Y target g) (hi:PIf Y ifs tt) (hk:PE Y kx tk) (hv:PE Y vx tv) (h:qe J g tt tk tv D L H1 Q) (hR:∀s' Z' H',Inv Y [] Z' H' s'->Q H'->R (.ok .next) s') :
  vc (rb Y.prog Y.w) Y.A (.compLoop (.DictComp kx vx [#[target,iter,ifs,(0)]] scope pos) 0 (.ref it) (.ref D) Y.env) R s1:=by
 let#[W,#[m0,w0],turn]:=h;let M:∀{H':Hp},(∀b∈fp,H' b=n7)->∀b∈fp,bY Y [] H' b:=λhn b a=>#[hn b a,(hf b a).2];show EI (λn s'=>∃i Z' H',Inv Y [] Z' H' s'/\z i s'.heap/\(∀b∈fp,H' b=n7)/\W i n Z' H') ?_ m0 #[(0),L,_,I,ht,λb a=>(hf b a).1,w0];rintro n U ⟨i,l,B,X,Z,ab,w3⟩;let back:∀{α:Type}{t:Sem α}{Q:α->pS->Prop}{s:pS},q7 (rb Y.prog Y.w) Y.A t Q Y.xe s->q7 (rb Y.prog Y.w) Y.A t Q (λ_ _=>False) s:=λh=>by rw[hY] at h;show h
 rcases turn i n l B w3 with ⟨stop,qn⟩|⟨go,N',ad,step⟩
 .refine thn (T.done Y rfl rfl rfl S i [] U l B _ X (M ab) Z stop) λr s4 ⟨N,I4⟩=>?_;subst N;show hR s4 l B I4 qn
 show thn (T.item Y rfl rfl rfl S i [] U l B _ X (M ab) Z go) λr s4 ⟨u,N,h4⟩=>?_;subst N;show thn h4 λ_ s5 q=>?_;let#[x,H5,I5,r5,y5,O,al]:=q;let ag:=I5.pinned (M al) (T.obj>>O);rw[OS] at ag;show thn (back\hg _ s5 l H5 x u _ ag r5 (step x H5 y5)) λ_ s6 ⟨P,H6,I6,q6⟩=>?_;show thn (back\hi _ s6 P H6 _ I6 q6) λb c ⟨f,j,C⟩=>?_;let again:∀{E:St}{f:Hp}{c:pS},Inv Y (lP fp s5.heap) E f c->(∃H,H<n/\W (i+1) H E f)->∃m,m<n/\∃i Z' H',Inv Y [] Z' H' c/\z i c.heap/\(∀b∈fp,H' b=n7)/\W i m Z' H':=λ{E f c} j ⟨H,hm,w7⟩=>by
  erw[H,hm,i+1,E,f,j.pins_of (λp hp=>by simp at hp),T.keep _ _ _ O λb a o e=>(j.pin (b,o)\fj _ (jM a e)).1,λb a=>?_,w7];let#[o,e,d]:=T.obj _ _ O b a;show (j.pin (b,o)\fj _ (jM a e)).2.1
 cases b with
 |false=>
  rw[Rx bG] at C;rw[Rx bG];show again j (ad>>C)
 |true=>
  rw[Ry rfl] at C;rw[Ry rfl];show thn (back\hk _ c P f _ j C) λk s8 q=>?_;let#[yk,H8,I8,r8,q8]:=q;show thn (back\hv _ s8 P H8 _ I8 q8) λv s9 q=>?_;let#[y,H9,I9,r9,kvs,kk,hD,ek,hl,q9]:=q;subst ek;show back (yV I9 hD r8 hl r9 λs' I'=>again I' (ad>>q9))
end
section
variable {N:List Str}{fr:List (Option Nat)}{kx vx tg iter:Expr}{ifs:List Expr}{pos:Pos}{wi:TI}{g:TG}{tt:TT}{tk tv:TE}
def BQ(X:Cx)(N:List Str)(scope:Scope)(tg:ry)(ifs:List ry)(kx vx:ry)(g:TG)(tt:TT)(tk tv:TE):Prop:=
 ∀(C:pR)(s:pS)(H:Hp)(fp:List pR)(RC:List (pR×Obj)),PG (fD X N scope C s H fp RC) tg g/\PIf (fD X N scope C s H fp RC) ifs tt/\PE (fD X N scope C s H fp RC) kx tk/\PE (fD X N scope C s H fp RC) vx tv
def Ee{j:pC}{Z_:pC->pR->Result->pS->Prop}{QQ:pR->Hp->Prop}(S:fJ X N fr scope)(I:X.calm=oD)
  (a:BQ X N scope tg ifs kx vx g tt tk tv) (h2:PIE X RC Z tg (λJ H1=>∀D,H1 D=n7->qe J g tt tk tv D (iL fr Z) H1\QQ D) j s)
  (K:∀D C s' H',Inv X RC Z H' s'->bY X RC H' C->(∃m,s'.heap.Ns C m)->QQ D H'->Z_ (.ref D) C (.ok .next) s') :
  q7 ⇑X X.A newDict (λacc L=>q7 ⇑X X.A (newFunctionEnv scope X.env.globals (eA X.env scope.names []) [] X.env.qual n7 .none\oy X.env) (λl M=>
   vc ⇑X X.A (.compStart (.DictComp kx vx [#[tg,iter,ifs,(0)]] scope pos) 0 j acc {l with scope:=relabel scope X.env}) (Z_ acc l.locals) M) E L) E s:=by
 let#[it,fp,O,J,H1,e,h,T,n,r,q]:=h2;subst e;let P:H1 ↥s=n7:=h.hok.fresh\aq _;let old:∀b∈fp,b<↥s:=λb a=>by
  let#[o,e,_]:=T.obj _ _ n b a;show aJ e
 show eQ\Qm S.nocell (by intro y Q;simp at Q) (λh1 v i=>?_) S.kind;dsimp only at v i |-;let x:Inv X RC Z (upd H1 ↥s\.dK []) {s with heap:=s.heap.push {cls:=.type ↑69,data:=.dict\tA []}}:=by show h.laid (t':=s.toks) (λb u e=>aO _ e) (aq _) ?_;show uD s.heap h.big
 let c:∀b∈fp,bY X RC (upd H1 ↥s\.dK []) b:=λb a=>#[by rw[ar\bB (old b a)];show (r b a).1,(r b a).2];let hsz:(s.heap.push {cls:=.type ↑69,data:=.dict\tA []}).objs.size=↥s+1:=km ..;let d:=xS (C:=(s.heap.push {cls:=.type ↑69,data:=.dict\tA []}).objs.size) (h1:=h1) (t:=s.toks+↑([]:List (Str×pC))) (fp:=fp) S x c (aq _)
  (λb a=>by rw[hsz];show bB\kB (old b a)) v λb o e=>i.extBut b o (bB\aJ e)\aO _ e
 let z:O 0 h1:=T.keep _ _ _ n λb a o e=>by
  let B:=aO {cls:=.type ↑69,data:=.dict\tA []} e;show i.extBut b o (bB\aJ B)\aO _ B
 let U:∀b∈fp,bY (fD X N scope (s.heap.push {cls:=.type ↑69,data:=.dict\tA []}).objs.size {s with heap:=s.heap.push {cls:=.type ↑69,data:=.dict\tA []}} (upd H1 ↥s\.dK []) fp RC) [] (upd H1 ↥s\.dK []) b:=λb a=>by
  erw[(c b a).1,(d.ok.exf b a).1,d.ok.exfs b a,.inl a,(d.ok.exf b a).2,λp f=>?_];let f:p∈(X.pn++RC)++[]:=f;rw[eX] at f;show (c b a).2.2.2.2.2 p f
 let#[b1,b2,b3,b4]:=a (s.heap.push {cls:=.type ↑69,data:=.dict\tA []}).objs.size {s with heap:=s.heap.push {cls:=.type ↑69,data:=.dict\tA []}} (upd H1 ↥s\.dK []) fp RC;let run:=FH (Y:=fD X N scope (s.heap.push {cls:=.type ↑69,data:=.dict\tA []}).objs.size {s with heap:=s.heap.push {cls:=.type ↑69,data:=.dict\tA []}} (upd H1 ↥s\.dK []) fp RC) (kx:=kx) (vx:=vx) (iter:=iter) (pos:=pos) (scope:=scope) (R:=Z_ (.ref ↥s) (s.heap.push {cls:=.type ↑69,data:=.dict\tA []}).objs.size) rfl I d T z U b1 b2 b3 b4 (q _ P) λs' Z' H' H q'=>by
  let#[J1,F1]:=zR x c (aq _) H;let#[m,hm,_]:=H.loc;show K _ _ s' H' J1 F1 #[m,hm] q'
 show codeAny_compStart_dict run\T.self _ 0 _ _ _ z run
def GV(S:fJ X N fr scope)(c:X.calm=oD)(hi:PI X tg iter wi)(a:BQ X N scope tg ifs kx vx g tt tk tv)
  (d:∀x,foldedSetIterable iter X.env x=pure x:=by intro _;rfl):PE X (.DictComp kx vx [#[tg,iter,ifs,(0)]] scope pos) (KS wi g tt tk tv fr):=by
 intro RC s Z H Q I h;rw[arm_eval_DictComp];show Dm (use:=n7) rfl d (tW\S.cells I.ok) S.kind S.names (thn (hi RC s Z H _ I h) λv s1 h1=>thn h1 λi s2 h2=>?_);show Ee (QQ:=λD H2=>Q (.ref D) H2) (Z_:=λacc C=>compPost ⇑X X.A X.xe n7 (EP X RC Z Q) acc C) S c a h2 λD C s' H' J F hm q=>?_;let#[m,hm]:=hm;erw[m,hm,λh' f=>#[.ref D,H',?_,1,q]];show J.turned (t':=s'.toks) (λb o a e=>f.extBut b o a e) F.1 F.2.1 F.2.2.2.1 F.2.2.2.2.1 F.2.2.2.2.2
end
section
variable {a D:Addr}{g:TG}{tt:TT}{tk tv:TE}{Z':St}{H1:Hp}{Q:Hp->Prop}
end
section
variable {d D:Addr}{o:Obj}{u:HO}{ks vs:List V}{g:TG}{tt:TT}{tk tv:TE}{Z':St}{H1:Hp}{Q:Hp->Prop}
def EJ(Pv:Nat->St->Hp->Prop)(h:Pv 0 Z'\upd H1 D (.dK []))(j:∀i Z H,i<=↑ks->Pv i Z H->H d*>.frz o u)
  (l:∀i x Z H,ks[i]?*>x->Pv i Z H->g x Z H λσ2 H2=>tt σ2 H2 λb a=>
   if b=oD then tk σ2 a λk n=>tv σ2 n λy c=>∃kvs kk,c D*>.dK kvs/\k=kV kk/\↑kvs<qs/\Pv (i+1) σ2 (upd c D\.dK (cQ kvs kk y)) else Pv (i+1) σ2 a)
  (hd:∀Z H,Pv ↑ks Z H->Q H):qe (Itk d o ks) g tt tk tv D Z' H1 Q:=by
 erw[λi m Z H=>m=↑ks-i/\i<=↑ks/\Pv i Z H,#[↑ks,∅,a_ _,h],?_];rintro i m Z H ⟨rfl,hi,p⟩;let q:=j i Z H hi p;by_cases f:i<↑ks
 .refine .inr #[#[f,u,q],Pv (i+1),λZ' H' r=>#[↑ks-(i+1),(),1,f,r],λx H' y=>?_];let#[e,y]:=y;subst e;show l i x Z _ y p
 let e:i=↑ks:=();subst e;show .inl #[#[aq _,u,q],hd Z H p]
end
def Eb:typeLookup (.type ↑28) "keys" = pure n7:=am_miss_of_fast (by kernel_rfl)
def JU{prog:rp}{w:sf}{E:pC->pS->Prop}{a:pR}{xs:Array pC}{k:Nat}{sl:Array\Option pC}{Q:Option pC->pS->Prop}
  (hx:s.heap.get? a*>{cls:=.type ↑28,dict:=n7,data:=.seq xs k,slots:=sl}) (f:A.handled=n7)
  (q:∀h' tk,(∀b ob,s.heap.get? b*>ob->h'.get? b*>ob)->Q n7 {s with heap:=h',toks:=tk}):q7 (rb prog w) A (getAttr? (.ref a) "keys") Q E s:=by
 let#[h,g,d,tk,os]:=s;let ty:∀c,(#[h,g,d,c,os]:pS).TypeIs (.ref a) ↑28:=λ_=>#[_,hx,1];let i:=sub_AttributeError;let j:=CW.lookup;let l:=CW.bind\.ref a;let m:=am_list_getattr_none;unfold getAttr? getAttrBy? getAttrBy
 repeat (any_goals (first|assumption|show ty _|((with_reducible show q7 _ _ (call (Value.builtin "list.__getattribute__") _ _) _ _ _);show tI CW (ty _) am_entry_list_getattribute (PySem.F.args_list_getattribute_2 _ _) (meets_getattribute_miss_list a xs k sl "keys" _ Eb ⋯) #[hx,f,λh' c e ne=>?_])|wp_step))
 let#[t',n,o]:=ne.there;change q7 _ _ (getattributeRaised _ _ _ _ _ _ _) _ _ _;unfold getattributeRaised
 repeat (any_goals (first|assumption|wp_step))
 show q _ _ ne.keeps
def xt:entryFor table "dict.update.loop"*>Builtin.«dict.update.loop»:=PZ (by kernel_rfl)
def pE:plainId "dict.update.loop" = oD:=⋯
section
def iP(H:Hp)(ys:List V)(ps:List (Key×V)):Prop:=Paired (λy p=>∃b,y=V.ref b/\H b*>.tup [kV p.1,p.2]) ys ps
def iP.get:∀{ys:List V}{ps:List (Key×V)}{i:Nat}{p:Key×V},iP H ys ps->ps[i]?*>p->∃b,ys[i]?*>.ref b/\H b*>.tup [kV p.1,p.2]
 |_,_,_,_,.nil,e=>by simp at e
 |_,_,0,_,.cons ⟨b,a,c⟩ _,e=>by simp at e;subst e a;erw[b,1,c]
 |_,_,i+1,p,.cons _ t,e=>by
  let#[b,h1,h2]:=iP.get (i:=i) (p:=p) t ‹e›;erw[b,‹h1›,h2]
def iP.len:∀{ys:List V}{ps:List (Key×V)},iP H ys ps->↑ys=↑ps
 |_,_,.nil=>rfl
 |_,_,.cons _ t=>by simp[iP.len t]
def jo(kvs:List (Key×V))(ps:List (Key×V)):List (Key×V):=ps.foldl (λd p=>cQ d p.1 p.2) kvs
def Ey{it:pR}{ps:List (Key×V)}(hc:A.handled=n7)(E:H D=n7)(K:SqL [] H a ys)(S:iP H ys ps)(hz:↑ps<qs)
  {R:Result->pS->Prop} (hR:∀s',Inv X RC Z (upd H D\.dK (jo [] ps)) s'->R (.ok\.ret .none) s') :
  ∀(k i:Nat)(kvs:List (Key×V))(s:pS),↑ps-i=k->i<=↑ps->↑kvs<=i->jo kvs (ps.drop i)=jo [] ps->Inv X RC Z (upd H D\.dK kvs) s->s.heap.IsListIter it a i->bY X RC (upd H D\.dK kvs) it->
   vc ⇑X A (.builtin "dict.update.loop" #[[.ref D,.ref it,vf i,.none],[]]) R s:=by
 let T:∀kvs,SqL [] (upd H D\.dK kvs) a ys:=λkvs=>by
  rcases K with (e|⟨o,e⟩)|h
  .exact .inl\.inl (by rw[ar\ao e E];show e)
  .exact .inl\.inr #[o,by rw[ar\ao e E];show e]
  show .inr h
 intro k;induction k with
 |zero=>
  intro i kvs s hk hi _ g I st hf;let ag:i=↑ps:=();subst ag;show iA xt ?_;rw[iU pE _];let#[al,L,p,am]:=I.list\T kvs;let#[f,m,U,r,y,B]:=hf;let hl:=↑L;let a2:=S.len;change q7 _ A.in1 (wb (.ref it) >>= _) _ _ s;show aa (Qu hc st p.isList (by simp;lia) λh' eb=>?_);rw[Cu] at g;let g:kvs=jo [] ps:=g;subst g;change q7 _ A.in1 (Builtin.Dict.addKeywords D [] >>= _) _ _ _;show aa\ai (ai\hR _ (I.turned (t':=s.toks) (λb o M e=>eb b o M e) f m r y B))
 |succ k ih=>
  intro i kvs s hk hi a3 g I st hf;let Y:i<↑ps:=();show iA xt ?_;rw[iU pE _];let#[al,L,p,am]:=I.list\T kvs;let#[b,an,ab]:=S.get (i:=i) (p:=ps[i]) (by simp[Y]);let#[u,hu,ru]:=L.get an;cases ru;let#[f,m,U,r,y,B]:=id hf;change q7 _ A.in1 (wb (.ref it) >>= _) _ _ s;show aa (Qv st p.isList (x:=.ref b) ‹hu› λh' ad sb=>?_);let I1:Inv X RC Z (upd H D\.dK kvs) {s with heap:=h'}:=I.turned (t':=s.toks) (λb o M e=>(sb.2 b M)<*e) f m r y B;let ap:upd H D (.dK kvs) b*>.tup [kV (ps[i]).1,(ps[i]).2]:=by rw[ar\ao ab E];show ab
  let#[vs,aM,#[ot,p1,p2,n,p3],_]:=I1.tuple\SqT.of ap;let aS:∃j l,vs=[j,l]/\aC (kV (ps[i]).1) j/\aC (ps[i]).2 l:=by
   cases aM with
   |cons N O=>cases O with
    |cons P O=>cases O;erw[9,N,P]
  let#[j,l,1,N,P]:=aS;show aa\cX (aa ?_);show tL ?_;unfold Builtin.Dict.pairItems;show aa\kN #[_,p1,p2] ?_;rw[Ry ⋯];unfold seqItems?;show aa\aa (wpAny_load p1 ?_);rw[p3];show ai\ai ?_;change q7 _ _ (holding [j,l]\dictSet D j l) _ _ _;let ob:∀c∈[it],∃o,h'.get? c*>o/\∀v,o.data≠.cell v:=λc Q=>by
   let e:c=it:=‹Q›
   subst e;let#[o,e,c1,d]:=ad;erw[o,e,λv z=>by rw[d] at z;cases z]
  let I2:=I1.pinned (fp:=[it]) (λc Q=>by rw[aG.mp Q];show hf) ob;show cX (yV I2 aI N () P λs' C=>?_);rw[uI] at C;let J:=C.pins_of (pins':=RC) λq K=>C.pin q\fj _ (d_ _ K);let a0:s'.heap.IsListIter it a (i+1):=ad.at λo e=>(C.pin (it,o)\fj _ (fj _ (jM ∅ e))).1;let hl:=ng kvs (ps[i]).1 (ps[i]).2;let a1:((i:Int)+1)=((i+1:Nat):Int):=by push_cast;rfl
  show ai #[iZ pE _,?_];rw[a1];show ih (i+1) _ s' () () () ?_ J a0 #[?_,m,U,r,y,B]
  .rw[<-g,iW Y];rfl
  have:it≠D:=λz=>by rw[z,aI] at f;cases f
  rw[ar this] at f |-;show f
def Gx(K:W.Frag):List V->Hp->VK->Prop:=λxs H Q=>∃(a:pR)(ys:List V)(ps:List (Key×V)),xs=[.ref a]/\H a*>.lst ys/\iP H ys ps/\↑ps<qs/\∀p,H p=n7->Q (.ref p)\upd H p (.dK\jo [] ps)
def DT(g:X.A.handled=n7):c7 X (.type ↑69) (Gx []):=by
 intro RC s Z H xs us Q I r h;let#[a,ys,ps,1,ha,m,hz,q]:=h;let#[u,1,p]:=Vals.one r;cases p;let#[z,D,n,E,v]:=I.hok>>ha;let d:H ↥s=n7:=I.hok.fresh\aq _;show PV (Q₁:=λobj s₁=>obj=.ref ↥s/\s₁={s with heap:=s.heap.push {cls:=.type ↑69,data:=.dict\tA []}}) PySem.F.kt_called_dict (PySem.F.kt_typeCall_dict_1 _) PySem.F.entry_dict_init (kt_code_dict_new _ #[5]) ?_;rintro obj s₁ ⟨rfl,rfl⟩;let w:Inv X RC Z (upd H ↥s\.dK []) {s with heap:=s.heap.push {cls:=.type ↑69,data:=.dict\tA []}}:=by show I.laid (t':=s.toks) (λb u e=>aO _ e) (aq _) ?_;show uD s.heap I.big
 let i:({s with heap:=s.heap.push {cls:=.type ↑69,data:=.dict\tA []}}:pS).TypeIs (.ref ↥s) ↑69:=#[_,bI _ rfl,1];let j:=aO ({cls:=.type ↑69,data:=.dict\tA []}:Obj) v;erw[i,PySem.F.args_dict_init_2 _ _,?_];unfold Builtin.«dict.__init__» Builtin.Dict.selfAndRest;show aa\aa (Dx i ?_);change q7 _ _ (pure (↥s,[Value.ref a])) _ _ _;show ai ?_;change q7 _ _ (Builtin.Dict.updateFrom "dict.__init__" ↥s (.ref a) [] .none) _ _ _;unfold Builtin.Dict.updateFrom;show aa\kN #[_,j,1] ?_;rw[Ry ⋯];show aa (JU j g λh2 f k2=>?_);let c:Inv X RC Z (upd H ↥s\.dK []) {s with heap:=h2,toks:=f}:=w.kept k2;let#[K,L,x,M,y]:=c.hok>>(show upd H ↥s (.dK []) a*>.lst ys by rw[ar\ao ha d];show ha);simp only[Option.isNone_none,if_true];show aa\tK ?_;show aa\tJ (l:=a) #[_,y,1,x,1] ?_;let B:Inv X RC Z (upd H ↥s\.dK []) {s with heap:=h2.push {cls:=.type "list_iterator",data:=.fields\tA [.ref a,vf 0]},toks:=f}:=c.kept (t':=f) λb o e=>aO _ e;show ai #[iZ pE _,?_];show Ey (X:=X) (A:=X.A.in1) (R:=wants (λr s₂=>r=.none/\EP X RC Z Q (.ref ↥s) s₂) X.xe) g d (.inl\.inl ha) m hz (λs' C=>#[1,.ref ↥s,_,C,1,q _ d]) _ 0 [] _ rfl (a_ _) (aq _) rfl B #[_,bI _ rfl,5] ?_;show c.fpOk (aq _)\c.hok.fresh (aq _)
end
def Inv.turnedL{h':rq}{t':Nat}{ch:List pR}(I:Inv X RC Z H s)(d:∀b∈ch,bY X RC H b)(k:∀b o,b∉ch->s.heap.get? b*>o->h'.get? b*>o):
  Inv X RC Z H {s with heap:=h',toks:=t'}:=by
 let f:∀b u,H b*>u->b∉ch:=λb u e z=>by
  have:=(d b z).1;rw[this] at e;cases e
 show I.step (g':=s.gens) (d':=s.drawn) (ch:=ch) (λb g=>?_) (λb o _ _ a e _=>k b o a e) (λb o _ _ a e _=>#[o.slots,k b o a e]) (λ_ _ _ _ n=>n) (λb o a e=>#[o,k b o a e]) (λ_ _ e=>e) (λ_ _ _ e=>e) (λb ps e=>#[(tA []),by rw[e];simp]) (λm hm=>?_) (λb u e=>?_) I.bare
 .let#[_,h,_,i,j,l]:=d b g;erw[i,h,j,l]
 .let#[o,es,ep,p,r]:=hm;erw[o,es,ep,k _ o (λz=>(d _ z).2.1 rfl) p,r]
 show (I.hok b u e).stay (λc v a q=>k c v ?_ q) (λ_ q=>q) λ_ _ q=>q;rcases a with z|z
 .rw[z];show f b u e
 show f c _ z
def Itz(K:W.Frag)(a b:pR):It:=
 #[λi H=>∃xs ys x y,SqL K H a xs/\SqL K H b ys/\xs[i]?*>x/\ys[i]?*>y,
  λi H v H'=>∃p x y,H p=n7/\v=.ref p/\H'=upd H p (.tup [x,y])/\(∀xs,SqL K H a xs->xs[i]?*>x)/\∀ys,SqL K H b ys->ys[i]?*>y,
  λi H=>∃xs ys,SqL K H a xs/\SqL K H b ys/\(↑xs<=i\/↑ys<=i)]
abbrev Oe(z TI TO i1 i2 a b:pR)(i:Nat)(h:rq):Prop:=IsZip h z TI TO .none/\IsPair h TI (.ref i1) (.ref i2)/\(∃u v,IsPair h TO u v)/\h.IsListIter i1 a i/\h.IsListIter i2 b i
def FS{elts:List ry}{x1}{pos:Pos}{a b z TI TO i1 i2:pR}(D:ZipApart z TI TO i1 i2 a b):
  Turn P w K (.Tuple elts x1 pos) (Itz [] a b) [z,TI,TO,i1,i2] z (Oe z TI TO i1 i2 a b) where
 mem:=∅
 obj:=λi h st c d=>by
  let#[s1,s2,#[u,v,g],#[o4,e4,_,d4],o5,e5,_,d5]:=st;simp only[aT,eZ,or_false] at d;rcases d with rfl|rfl|rfl|rfl|rfl
  .exact#[_,s1,λv z=>by let n:Data.fields _=Data.cell v:=z;cases n]
  .exact#[_,s2,λv z=>by let n:Data.seq _ _=Data.cell v:=z;cases n]
  .exact#[_,g,λv z=>by let n:Data.seq _ _=Data.cell v:=z;cases n]
  .exact#[o4,e4,λv z=>by rw[d4] at z;cases z]
  erw[o5,e5,λv z=>by rw[d5] at z;cases z]
 keep:=λi h h' st k=>by
  let#[s1,s2,#[u,v,g],l,m]:=st;erw[k z ∅ _ s1,k TI ∅ _ s2,#[u,v,k TO ∅ _ g],l.at λo q=>k i1 ∅ o q,m.at λo q=>k i2 ∅ o q]
 item:=by
  intro X C hw L d i RC s Z H E I hf st M;subst C hw L;let#[xs,ys,x,y,r,A,hx,S]:=M;let#[s1,s2,#[u0,v0,g],l,m]:=st;let#[ab,N,p,hz]:=I.list r;let#[its',O,Q,ad]:=I.list A;let#[u,hu,ru]:=N.get hx;let#[B,ag,al]:=O.get S;let lt:∀c o,s.heap.get? c*>o->c≠↥s:=λc o e=>bB\aJ e;let l4:i1≠↥s:=by let#[o,q,_]:=l;show lt _ _ q
  let l5:i2≠↥s:=by let#[o,q,_]:=m;show lt _ _ q
  let l1:=lt>>s1;let l2:=lt>>s2;let l3:=lt>>g;show Qw D s1 s2 g l m p.isList Q.isList (x:=u) (y:=B) ‹hu› ‹ag› λh1 a1 a2 a3 a4 a5 a6 T=>?_;erw[2,?_];show wpAny_letOwnedTupleGo_zip a1 λh2 am j=>?_;replace j:Heap.SameBut z h1 h2:=j;let an:s.heap.get? ↥s=n7:=jD\aq _;let hn:H ↥s=n7:=I.hok.fresh\aq _;let U:h2.get? ↥s*>{cls:=.type ↑20,data:=.seq\tA [u,B]}:=(j.2 _\aA l1)<*a5;let I2:Inv X RC Z (upd H ↥s\.tup [x,y]) {s with heap:=h2,toks:=s.toks}:=by
   show I.turnLaid (ch:=[z,TI,TO,i1,i2]) hf (λb o f q=>?_) an λH'=>?_
   .let Y:b≠z:=λe=>f (by simp[e]);let ap:b≠TO:=λe=>f (by simp[e]);let aM:b≠i1:=λe=>f (by simp[e]);let aS:b≠i2:=λe=>f (by simp[e]);show (j.2 b Y).trans\T b o Y ap aM aS q
   erw[#[by simp;rw[cY];lia,_,U,1],[u,B],.cons ru\.cons al .nil,#[_,U,7]]
  erw[.ref ↥s,_,I2,1,#[↥s,x,y,hn,5,λys R=>by rw[I.list_inj R r];show hx,λys R=>by rw[I.list_inj R A];show S],#[am,?_,#[u,B,?_],?_,?_],λc d=>?_]
  .exact (j.2 TI D.TIz).trans\T TI _ D.TIz D.TITO D.TIi1 D.TIi2 s2
  .exact (j.2 TO D.TOz).trans a2
  .exact a3.at λo q=>(j.2 i1 D.i1z)<*q
  .exact a4.at λo q=>(j.2 i2 D.i2z)<*q
  have:c≠↥s:=by simp only[aT,eZ,or_false] at d;rcases d with rfl|rfl|rfl|rfl|rfl<;>assumption
  rw[ar this];show (hf c d).1
 done:=by intro X C hw L d i RC s Z H E I hf st M;subst C hw L;let#[xs,ys,r,A,hx]:=M;let#[s1,s2,#[u0,v0,g],l,m]:=st;let#[ab,N,p,hz]:=I.list r;let#[its',O,Q,ad]:=I.list A;let hl:=↑N;let a0:=↑O;show wpAny_pyNext_zip_end (I.ok.hd d) D s1 s2 g l m p.isList Q.isList (by simp;lia) λh' eb=>#[1,?_];show I.turnedL (t':=s.toks) hf λb o f q=>?_;show eb b o (λe=>f (by simp[e])) (λe=>f (by simp[e])) (λe=>f (by simp[e])) (λe=>f (by simp[e])) q
 self:=λ_ _ _ _ _ st h=>Dy st.1 h
section
def NU(K:W.Frag)(R:It->Hp->Prop)(vs:List V)(H1:Hp)(a b:pR)(xs ys:List V):Prop:=vs=[.ref a,.ref b]/\SqL K H1 a xs/\SqL K H1 b ys/\R (Itz K a b) H1
def NT(K:W.Frag)(R:It->Hp->Prop):List V->Hp->Prop:=λvs H1=>Exists\Ex4 (NU K R vs H1)
def iZip(K:W.Frag)(ta:TA):TI:=λZ H R=>ta Z H\NT K R
def Ly{elts:List ry}{x1}{tpos:Pos}{a b:ry}{p pos:Pos}(m:Gl X "zip")(hm:X.mg "zip" = n7)(ha:PA X [a,b] ta)(n:r6 [a,b] X.env=[(p6,sZ a X.env),(p6,sZ b X.env)]:=by rfl)(g:r6 [b] X.env=[(p6,sZ b X.env)]:=by rfl):
  PI X (.Tuple elts x1 tpos) (.Call (.Name "zip" p) [a,b] [] pos) (iZip [] ta):=by
 intro RC s Z H R I h;show Call_\jt I m hm boot_zip (oV (thn (ha pos RC s Z H _ I h) λus s1 ⟨vs,H1,d,u,v⟩=>?_) (by rw[n,g]) (by rw[g];rfl));let#[a,b,xs,ys,e,w,x,q]:=v;subst e;cases u with
 |cons r f=>
  cases f with
  |cons y f=>
   cases f;cases r;cases y;let#[L,M,pl,hz]:=d.list w;let#[its',N,i,O]:=d.list x;let z:a<↥s1:=by let#[o,e,_]:=pl.isList;show aJ e
   let A:b<↥s1:=by let#[o,e,_]:=i.isList;show aJ e
   show call_zip_2 pl.isList i.isList λh' h1 h2 B C D hsz E=>?_;show Dy h1 ?_;let K:Inv X RC Z H1 {s1 with heap:=h'}:=d.kept (t':=s1.toks) E;erw[8,_,H1,1,K,FS\zipApart_new z A,#[h1,h2,#[0,B],C,D],λc j=>?_,q];let l:↥s1<=c:=by
    simp only[aT,eZ,or_false] at j;rcases j with rfl|rfl|rfl|rfl|rfl
    all_goals first|show aq _|show oN _ _
   show d.fpOk l\d.hok.fresh l
end
def fQ(p:pC->Prop)(L:pR)(h:rq)(e:pR)(cls:pC)(d:Option pR)(T:pR):Prop:=
 ∃(a:Obj)(vs:Array pC)(oT:Obj)(ts:Array pC),h.get? e*>a/\a.cls=cls/\a.dict=d/\a.data=.fields vs/\(∃c,vs[2]?*>c/\p c)/\vs[1]?*>.ref T/\T≠e/\h.get? T*>oT/\oT.data=.fields ts/\ts[3]?*>vf L
section
variable {M:Model}{e L T:Addr}{cls:Value}{d:Option Addr}{env:Env}{outer:List Env}{p:Value->Prop}
def fQ.keep{h':rq}(x:fQ p L h e cls d T)(k:∀b o,b=e\/b=T->h.get? b*>o->h'.get? b*>o):fQ p L h' e cls d T:=by let#[a,vs,oT,ts,he,c,f,hd,g,h1,i,j,l,m]:=x;erw[a,vs,oT,ts,k _ _ (.inl rfl) he,c,f,hd,g,h1,i,k _ _ (.inr rfl) j,l,m]
def LM{a:Obj}{vs:Array pC}{Q:Unit->pS->Prop}(w:A.frames*>(env::outer))(i:s.heap.FunFrames base (env::outer))(hf:env.frame*>L)(he:s.heap.get? e*>a)(x:a.cls=cls)(y:a.dict=d)(hd:a.data=.fields vs)(j:vs[1]?*>.none)(B:∃c,vs[2]?*>c/\p c)
  (h:∀h' T,fQ p L h' e cls d T->s.heap.get? T=n7->mh (frs (env::outer)) e s.heap h'->Q .unit {s with heap:=h'}):q7 M A (noteFrame (.ref e) env) Q E s:=by
 let hsz:=(f_.mp j).1;unfold noteFrame;simp only[hf];show aa\cD he hd j ?_;rw[Rx ⋯];let C:e∉frs (env::outer):=λhm=>by
  let#[_,o,l,D]:=i.mem hm;rw[he] at l;cases l;show D vs hd
 show aa (Qj w i hf λh1 g=>aa (Qg λpl H=>?_));unfold EntryCells.newEntry newFields;show aa\eQ ?_ (H.sizeOk5 _ _ _ _ _);generalize I:({cls:=.type "traceback",dict:=n7,data:=.fields ([Value.none,.ref L,.none,vf L,.none]++(if pl.isEmpty then List.replicate 6 Value.none else pl)).toArray}:Obj)=oT;let m:oT.data=.fields ([Value.none,.ref L,.none,vf L,.none]++(if pl.isEmpty then List.replicate 6 Value.none else pl)).toArray:=by rw[<-I]
 let n:h1.get? e*>a:=(g.2.1 e C)<*he;let r:(h1.push oT).get? e*>a:=aO _ n;let u:h1.objs.size≠e:=kD\aJ n;let K:(h1.push oT).get? h1.objs.size*>oT:=bI _\kG m;show gC r hd hsz ?_;let v:=kF hd (·.setIfInBounds 1 (Value.ref h1.objs.size));let N:=fh (Obj.mapFields (·.setIfInBounds 1 (Value.ref h1.objs.size))) r\kG v;let O:=(dY (h1.push oT) (Obj.mapFields (·.setIfInBounds 1 (Value.ref h1.objs.size)))\aA u)<*K;let keep:∀b o,b≠e->h1.get? b*>o->((h1.push oT).update e\Obj.mapFields (·.setIfInBounds 1 (Value.ref h1.objs.size))).get? b*>o:=λb o f q=>by
  rw[dY>>(aA f)];show aO _ q
 show h _ h1.objs.size #[8,_,N,(wW _ _)<*x,?_,v,by rw[sN ⋯];show B,by simp[hsz],u,O,m,∅] ?_ #[λb o f P q=>keep b o f\(g.2.1 b P).trans q,λb o f q=>by
  let#[sl,z]:=g.2.2 b o q;erw[sl,keep b _ f z]]
 .let#[c0,S,R,U]:=a;cases R<;>show y
 cases q:s.heap.get? h1.objs.size with
 |none=>rfl
 |some o=>
  let#[sl,z]:=g.2.2 _ o q;show absurd (aJ z)\dD _
def A2{Q:Unit->pS->Prop}(hf:env.frame*>L)(x:fQ p L s.heap e cls d T)(h:Q .unit s):q7 M A (noteFrame (.ref e) env) Q E s:=by let#[f,vs,oT,ts,he,g,i,hd,j,h1,l,a,b,c]:=x;unfold noteFrame;simp only[hf];show aa\cD he hd h1 ?_;rw[Ry (show (Value.ref T != Value.none)=oD by simp)];show aa\cD a b c ?_;rw[Ry ∅];show ai h
def LB{α:Type}{g:String}{Q:α->pS->Prop}(hf:env.frame*>L)(x:fQ p L s.heap e cls d T)(h:∀h',fQ p L h' e cls d T->(∀b,h'.get? b=s.heap.get? b)->E (.ref e) {s with heap:=h'}):q7 M A (PySem.passOn g (.ref e) env:Sem α) Q E s:=by let#[i,vs,oT,ts,he,j,l,hd,m,h1,n,a,c,f]:=id x;unfold PySem.passOn;show aa\cD he hd h1 ?_;rw[Rx ∅];show aa ?_;unfold D0;show aa\cD he hd h1 ?_;rw[Ry (show (Value.ref T != Value.none)=oD by simp),hf];show gC a c (f_.mp f).1\xj ?_;let same:=p7 a\pI c f;show h _ (x.keep λb o _ z=>(same b)<*z) same
def J7{Q:Unit->pS->Prop}(hf:env.frame*>L)(x:fQ p L s.heap e cls d T)(h:∀h',eL p h' e cls d->(∀b,b≠T->h'.get? b=s.heap.get? b)->Q .unit {s with heap:=h'}):q7 M A (leaving env\.ref e) Q E s:=by unfold leaving;show aa\A2 hf x ?_;let#[i,vs,oT,ts,he,j,l,hd,m,h1,a,c,f,n]:=x;let hz:=(f_.mp n).1;unfold D0;show aa\cD he hd h1 ?_;rw[Ry (show (Value.ref T != Value.none)=oD by simp)];show gC c f hz ?_;let g:=kF f (·.setIfInBounds 3 Value.none);let oth:∀b,b≠T->(s.heap.update T\Obj.mapFields (·.setIfInBounds 3 Value.none)).get? b=s.heap.get? b:=λb o=>dY>>(aA o);show h _ #[i,vs,(oth e\aA a)<*he,j,l,hd,m,.inr #[T,0,h1,a,fh _ c\kG g,g,by simp[hz]]] oth
end
section
variable {prog:Program}{env:Env}
variable {nm q:Str}{C N:Addr}{bs bm:List Value}{hdct:Bool}{sn:List Str}{sub:List Value}{ab:Bool}{col:Option Bool}{dd:Option Addr}{k0 k1 k2 k3 k5:Option Value}{newId:String}
def D5{s:pS}{x:Sem pC}{y:pR}{Q:Flow->pS->Prop}(c:bm.contains (.type ↑4)=oD)(f:A.handled*>.ref y)
  (h:q7 (rb prog w) A x (λv s₁=>∃e d vs sl a ws,v=.ref e/\s₁.heap.get? C*>vb nm q C N bs bm hdct sn sub ab col dd k0 k1 k2 k3 k5 newId/\
   s₁.heap.get? e*>{cls:=.ref C,dict:=d,data:=.fields vs,slots:=sl}/\vs[1]?*>.none/\2<vs.size/\y≠e/\s₁.heap.get? y*>a/\a.data=.fields ws/\ws[2]?*>.none/\
   E (.ref e) {s₁ with heap:=s₁.heap.update e\Obj.mapFields (·.setIfInBounds 2 (Value.ref y))}) E s) :
  q7 (rb prog w) A (raiseStmt env (oy x) n7) Q E s:=by
 let i:(Value.ref C::bm).contains (.type ↑4)=oD:=by rw[sU,c,wj]
 unfold raiseStmt;show aa (bZ h (λv s₁ h₁=>?_) λ_ _ x=>x);let#[e,d,vs,sl,a,ws,1,b,he,j,hsz,l,m,n,o,p]:=h₁;let#[r,g,u,tk,os]:=s₁;show aa\ai (aa\cX ?_);unfold excFromValue
 repeat (first|with_reducible show gB he ?_|with_reducible show gB b ?_|(with_reducible show mO b ?_;rw[i])|wp_step)
 rw[j];show ai ?_;rw[Rx ⋯];show ai ?_;simp only[raiseNew];show aa\Dq ?_;rw[f];change q7 _ _ (if (Value.ref y != Value.ref e)=oD then _ else _) _ _ _;rw[Ry ‹l›];show aa\cX (Eg m n o ?_);show aa\gC he rfl hsz (xj p)
end
section
variable {M:Model}{e L T:Addr}{cls:Value}{d:Option Addr}{env:Env}{p:Value->Prop}
def Mr(hf:env.frame*>L)(x:fQ p L s.heap e cls d T)(h:∀h',fQ p L h' e cls d T->(∀b,h'.get? b=s.heap.get? b)->E (.ref e) {s with heap:=h'}):cameBackBy M A env E (.ref e) s:=by let#[g,vs,oT,ts,he,i,j,hd,l,h1,m,a,c,f]:=id x;unfold cameBackBy;show aa\cD he hd h1 ?_;rw[Rx ∅];unfold D0;show aa\cD he hd h1 ?_;rw[Ry (show (Value.ref T != Value.none)=oD by simp),hf];show gC a c (f_.mp f).1 ?_;let same:=p7 a\pI c f;show h _ (x.keep λb o _ z=>(same b)<*z) same
def HX{Q:Bool->pS->Prop}{C Ch:pR}{b:Obj}{nm q:Str}{N:pR}{bs bm:List pC}{hdct:Bool}{sn:List Str}{sub:List pC}{ab:Bool}{col:Option Bool}{dd:Option pR}{k0 k1 k2 k3 k5:Option pC}{newId:String}
  {j l:Str} {m:pR} {n a:List pC} {o:Bool} {p:List Str} {r:List pC} {u:Bool} {v:Option Bool} {w:Option pR} {x l1 l2 y z:Option pC} {B:String}
  (c:s.heap.get? C*>vb nm q C N bs bm hdct sn sub ab col dd k0 k1 k2 k3 k5 newId) (i:s.heap.get? Ch*>vb j l Ch m n a o p r u v w x l1 l2 y z B)
  (he:s.heap.get? e*>b) (D:b.cls=.ref C) (H:a.contains (.type ↑4)=oD) (hm:(Value.ref C::bm).contains (.ref Ch)=p6) (I:Q p6 s) :
  q7 M A (excMatches (.ref e)\.ref Ch) Q E s:=by
 let#[h,g,d,t,os]:=s;let K:(Value.ref Ch::a).contains (.type ↑4)=oD:=by rw[sU,H,wj]
 let f:=tc_notTuple;unfold excMatches
 repeat (first|(with_reducible show gB he ?_;rw[D])|with_reducible show gB i ?_|with_reducible show gB c ?_|(with_reducible show mO i ?_;rw[K])|(with_reducible show mO c ?_;rw[hm])|wp_step)
 show I
end
def LQ{N:List Str}{qual:Str}{f:pR}{cd:pC}{outer:List Env}{s0:pS}{i:Hp}{E:XK}{p:pC->Prop}{x T:pR}{cls:pC}{d:Option pR}
  (I:Inv (eV (CXg p P w) P w K mg base N qual scope f cd A outer s0 i E) RC Z H s) (hx:fQ p ↥s0 s.heap x cls d T) (l:s0.heap.get? x=n7) (m:s0.heap.get? T=n7) (y:H x=n7) (B:H T=n7) (q:E cls d H) :
  (eV (CXg p P w) P w K mg base N qual scope f cd A outer s0 i E).xe (.ref x) s:=by
 change q7 _ _ (leaving _\.ref x) _ _ s;show J7 rfl hx λh' x1 x2=>?_;let g:∀b o,s0.heap.get? b*>o->b≠T:=λb o e z=>by rw[z,m] at e;cases e
 let j:∀b u,H b*>u->b≠T:=λb u e z=>by rw[z,B] at e;cases e
 erw[x,cls,d,H,1,x1,l,y,I.os,I.bare,#[λb o e n h a=>(x2 b\g b o e).trans\I.base.keep b o e n h a,λb o e n h a=>?_,I.base.free,λb o e a=>?_,I.base.tups,I.base.frzs,I.base.tbls],λb u e=>?_,q]
 .let#[sl,z]:=I.base.slot b o e n h a;erw[sl,(x2 b\g b o e)<*z]
 .let#[o',z]:=I.base.there b o e a;erw[o',(x2 b\g b o e)<*z]
 show (I.hok b u e).stay (λc v C r=>?_) (λ_ r=>r) λ_ _ r=>r;rcases C with z|z
 .rw[z] at r |-;show (x2 b\j b u e)<*r
 show (x2 c\j c _ z)<*r
def vR(X:Cx)(E:XK):Prop:=∀(RC:List (pR×Obj))(Z:St)(H:Hp)(s:pS)(x T:pR)(cls:pC)(d:Option pR),Inv X RC Z H s->fQ (λ_=>True) X.env.locals s.heap x cls d T->X.s₀.heap.get? x=n7->X.s₀.heap.get? T=n7->H x=n7->H T=n7->E cls d H->X.xe (.ref x) s
def letsv{N:List Str}{qual:Str}{f:pR}{cd:pC}{outer:List Env}{s0:pS}{a:Hp}{E:XK}:
  vR (eV (CX2 P w) P w K mg base N qual scope f cd A outer s0 a E) E:=λ_ _ _ _ _ _ _ _ I hx b c d e q=>LQ I hx b c d e q
section
def B7{h:rq}{x:pR}(hx:∃a vs,h.get? x*>a/\a.data=.fields vs):∃a,h.get? x*>a/\(∀es ep,a.data≠.dict es ep)/\∀v,a.data≠.cell v:=by let#[a,vs,he,hd]:=hx;erw[a,he,(λ_ _ z=>by rw[hd] at z;cases z),(λ_ z=>by rw[hd] at z;cases z)]
def Inv.left{H':Hp}{x:pR}{h1:rq}(M:X.stack=X.env::X.outer/\X.env.frame*>X.env.locals)(I:Inv X RC Z H s)(hx:∃A,s.heap.get? x*>A/\(∀es ep,A.data≠.dict es ep)/\∀v,A.data≠.cell v)(R:X.s₀.heap.get? x=n7)(N:∀p∈X.pn++RC,p.1≠x)(S:H x=n7)
  (f:∀b,b≠x->H' b=H b) (ob:∀u,H' x*>u->bh X.prog X.w H' h1 x u) (l:mh (frs (X.env::X.outer)) x s.heap h1):Inv X RC Z H' {s with heap:=h1}:=by
 let#[A,he,T,C]:=hx;let B:∀b o,X.s₀.heap.get? b*>o->b≠x:=λb o e z=>by rw[z,R] at e;cases e
 let O:x≠X.env.locals:=λz=>by
  let#[m,#[o,es,ep,g,hd,_],_]:=I.loc;rw[z,g] at he;cases he;show T _ _ hd
 let D:∀y c,X.env.cells.lookup y*>c->c≠x:=λy c e z=>by
  let#[v,o,g,hd]:=I.cell y c e;rw[z,he] at g;cases g;show C _ hd
 let U:∀b,b∈frs (X.env::X.outer)->b∈X.env.locals::X.fs:=λb d=>I.stkSub b (by rw[M.1];show d);let kp:=l.keep;let P:∀b u,H b*>u->b∉frs (X.env::X.outer):=λb u e d=>by
  have:=I.stkFree b (by rw[M.1];show d);rw[e] at this;cases this
 let n:∀b u,H b*>u->b≠x:=λb u e z=>by rw[z,S] at e;cases e
 let hok:HOk X.prog X.w H' h1:=λb u e=>by
  by_cases d:b=x
  .subst d;show ob u e
  rw[f b d] at e;show (I.hok b u e).stay (λc v Y q=>?_) (λc q=>by rw[f c\n c _ q];show q) λc xs q=>by rw[f c\n c _ q];show q
  rcases Y with z|z
  .rw[z] at q |-;show kp b v d (P b u e) q
  show kp c v (n c _ z) (P c _ z) q
 let fs:∀b,b∉X.fs->b≠X.env.locals->b∉frs (X.env::X.outer):=λb h1 h2 hm=>(aT.mp\U b hm).elim h2 h1;erw[I.ok,I.os,I.bare,#[λb o e h d i=>?_,λb o e h d i=>?_,λb o e h i=>?_,λb o e i=>?_,λb xs e=>?_,λb o u e=>?_,λb ps e=>?_],?_,λy c e=>?_,?_,λy c e=>?_,λp E=>?_,hok,I.len]
 .exact kp b o (B b o e) (fs b d λz=>absurd (bU (aJ e) I.ok.above) (by rw[z];show dD _))\I.base.keep b o e h d i
 .let#[sl,z]:=I.base.slot b o e h d i;let#[ab,K]:=l.slot b _ (B b o e) z;erw[ab,K]
 .rw[f b\B b o e];show I.base.free b o e h i
 .let#[o',z]:=I.base.there b o e i;let#[sl,K]:=l.slot b _ (B b o e) z;erw[_,K]
 .let q:=I.base.tups b xs e;rw[f b\n b _ q];show q
 .let q:=I.base.frzs b o u e;rw[f b\n b _ q];show q
 .let#[more,q]:=I.base.tbls b ps e;erw[more,by rw[f b\n b _ q];show q]
 .let#[m,#[o,es,ep,g,r],ad]:=I.loc;let#[sl,z]:=l.slot _ o (aA O) g;erw[m,#[_,es,ep,z,r],λj y v e1 e2 e3=>?_];let#[u,r1,L]:=ad j y v e1 e2 e3;erw[u,r1,?_];rcases L with L|⟨a,c,b,o2,al,C⟩
  .exact .inl L
  let#[sl,z]:=l.slot c o2 (D _ c b) al;show .inr #[a,c,b,_,z,C]
 .let#[v,o,g,hd]:=I.cell y c e;let#[sl,z]:=l.slot c o (D y c e) g;erw[v,_,z,hd]
 .rw[f _\aA O];show I.free
 .rw[f _\D y c e];show I.freeC y c e
 let#[e,h,ne,Q,dd]:=I.pin p E;erw[kp p.1 p.2 (N p E) (fs _ Q ne) e,by rw[f _\N p E];show h,ne,Q,dd]
end
abbrev cxS(X:Cx)(x:pR)(xe:pC->pS->Prop):Cx:={lG X x with xe:=xe}
def XWith(x:pR)(E:XK):XK:=λcls d H=>(∃c d',H x*>gY x c d')/\E cls d H
abbrev DF:Ends:=#[λ_ _=>False,λ_ _=>False,λ_ _=>False,λ_ _=>False]
section
variable {body suite suite0:List Stmt}{b0 c0:Stmt}{cx1 cx n:Str}{np1 np hpos1 hpos pos:Pos}{c1 Ch:Addr}{bm1 bmh:List Value}{i:Nat}{tb:XK->TS}{ts:Addr->TS}{E2:XK}
def Inv.toS(I:Inv X RC Z H s)(x:pR)(xe:pC->pS->Prop):Inv (cxS X x xe) RC Z H s:=by let J:=I.suite x;erw[#[J.ok.mod,J.ok.kind,J.ok.glob,J.ok.blt,J.ok.above,J.ok.inj,J.ok.has,J.ok.cab,J.ok.hd,J.ok.frames,J.ok.stk,J.ok.exf,J.ok.bs,J.ok.bsz,J.ok.noex,J.ok.exfs,J.ok.funs,J.ok.frf],J.os,J.bare,J.base,J.loc,J.cell,J.free,J.freeC,J.pin,J.hok,J.len]
def Inv.ofS{xe:pC->pS->Prop}(J:Inv (cxS X x xe) RC Z H s)(ok:X.Ok):Inv X RC Z H s:=#[ok,J.os,J.bare,J.base,J.loc,J.cell,J.free,J.freeC,J.pin,J.hok,J.len]
def Jh{x:pR}{xe:pC->pS->Prop}(ok:X.Ok) (h:∀(RC:List (pR×Obj))(Z:St)(H:Hp)(s:pS)(e:pR)(cls:pC)(d:Option pR)(a:Obj)(vs:Array pC),Inv X RC Z H s->s.heap.get? e*>a->a.cls=cls->a.dict=d->a.data=.fields vs->vs[1]?*>.none->2<vs.size->
  X.s₀.heap.get? e=n7->(∀p∈X.pn++RC,p.1≠e)->H e=n7->E2 cls d H->xe (.ref e) {s with heap:=s.heap.update e\Obj.mapFields (·.setIfInBounds 2 (Value.ref x))}):REnds (cxS X x xe) (XWith x E2):=λ{_ _ _ nm i C N bs bm hdct sn sub ab col dd k0 k1 k2 k3 k5 newId} j _ q=>by
 show D5 (nm:=nm) (q:=i) (C:=C) (N:=N) (bs:=bs) (hdct:=hdct) (sn:=sn) (sub:=sub) (ab:=ab) (col:=col) (dd:=dd) (k0:=k0) (k1:=k1) (k2:=k2) (k3:=k3) (k5:=k5) (newId:=newId) (y:=x) j rfl (bZ q ?_ λ_ _ z=>z);rintro v s₁ ⟨e,d,vs,sl,RC,Z,H,l,m,b,f,n,I,o,r,g,⟨c,d',ex⟩,u⟩;let#[#[A,ws,B,0,D,_,E,1],_]:=(show bh X.prog X.w H s₁.heap x (gY x c d') from I.hok x _ ex);let h2:=(f_.mp n).1;erw[e,d,vs,sl,A,ws,l,m,b,f,h2,(λz=>by rw[z,g] at ex;cases ex),B,D,E,h RC Z H s₁ e _ d _ vs (I.ofS ok) b rfl rfl rfl f h2 o r g u]
def MA(K:W.Frag)(len:Nat)(c1 Ch:pR)(i:Nat)(tb:XK->TS)(ts:pR->TS):TS:=λD Z H=>∃E:XK,tb E D Z H/\∀cls d H',E cls d H'->
 ∃a bm,cls=.ref a/\clsIn K a*>bm/\(Value.ref a::bm).contains (.ref c1)=p6/\(Value.ref a::bm).contains (.ref Ch)=oD/\∀x,H' x=n7->ts x DF ((List.replicate len n7).set i\oy (.ref x))\upd H' x (gY x cls d)
def NQ{D:Ends}{x:pR}{cls:pC}{d:Option pR}(c:X.stack=X.env::X.outer/\X.env.frame*>X.env.locals)(aS:X.ex=[])(hN:X.N.Nodup)(hi:X.N[i]?*>n)(E:X.env.scope.names.lookup n*>.local)
  (a4:Gl X cx1) (a6:X.mg cx1*>.ref c1) (bb:clsIn X.K c1*>bm1) (bc:bm1.contains (.type ↑4)=oD) (hg:Gl X cx) (hm:X.mg cx*>.ref Ch) (bd:clsIn X.K Ch*>bmh) (be:bmh.contains (.type ↑4)=oD)
  (hs:∀x xe,REnds (cxS X x xe) (XWith x E2)->PSs (cxS X x xe) (b0::suite)\ts x) (hE:vR X E2) (bi:(cx1==(↑18 : Str))=p6) (bl:(cx==(↑18 : Str))=p6)
  (I:Inv X RC Z H s) (hx:Exc s.heap x cls d) (hn:X.s₀.heap.get? x=n7) (bn:∀p∈X.pn++RC,p.1≠x) (hH:H x=n7)
  (hq:∃h bm,cls=.ref h/\clsIn X.K h*>bm/\(Value.ref h::bm).contains (.ref c1)=p6/\(Value.ref h::bm).contains (.ref Ch)=oD/\∀x,H x=n7->ts x DF ((List.replicate X.N.length n7).set i\oy (.ref x))\upd H x (gY x cls d)) :
  q7 ⇑X X.A (noteFrame (.ref x) X.env) (λ_ s2=>q7 ⇑X X.A (D0 (.ref x) n7) (λ_ L=>q7 ⇑X X.A (handleBy (.ref x) X.env [.ExceptHandler (oy\.Name cx1 np1) n7 (c0::suite0) hpos1,.ExceptHandler (oy\.Name cx np) (oy n) (b0::suite) hpos]) (SP X RC D) X.xe L) X.xe s2) X.xe s:=by
 let#[h,bm,1,bt,bw,bx,bA]:=hq;let bK:X.A.frames*>(X.env::X.outer):=by rw[<-c.1];show I.ok.frames
 let bM:s.heap.FunFrames X.base (X.env::X.outer):=by rw[<-c.1];show I.stack
 let bN:∃l vs,s.heap.get? x*>l/\l.data=.fields vs:=by let#[l,vs,he,0,hd,_]:=hx;erw[l,vs,he,hd]
 show uU bK bM c.2 hx λh1 x1 L1=>?_;let j:Inv X RC (List.replicate X.N.length n7) (upd H x\gY x (.ref h) d) {s with heap:=h1}:=I.forget.left c (B7 bN) hn bn hH (λb a=>ar a) (λu e=>by rw[aI] at e;cases e;show AI x1) L1;let#[N1,ci,q1,cj,cl,co,cp,cr,cs,ct,a0,a1,a2,a3,a5,hC]:=lH j.kIn bt;let#[N2,cy,q2,c2,c3,c4,c5,c6,c8,da,db,b1,b2,b3,b5,bS]:=lH j.kIn bd;let#[N3,dc,q3,dd,df,di,dj,dk,dl,dm,d0,d1,d2,d3,d5,bX]:=lH j.kIn bb;let#[l,vs,he,ab,_]:=id x1;show Dp (Da\iH (j.suite x) a4 a6 (HX hC bX he ab bc bw ?_) bi) (λz=>nomatch z);change q7 _ _ (handleBy _ _ _) _ _ _;show Dp (Da\iH (j.suite x) hg hm (yS hC bS he ab be bx ?_) bl) (λz=>nomatch z);change vc _ _ (.handlers (.ref x) [.ExceptHandler n7 (oy n) (b0::suite) hpos] X.env) _ _;show PY (yQ x1 λh2 x2 same=>?_);let I2:Inv X RC (List.replicate X.N.length n7) (upd H x\gY x (.ref h) d) {s with heap:=h2}:=j.kept (t':=s.toks) λb o e=>(same b)<*e;show jP I2 hN hi (.inl E) (v:=.ref x) rfl (λL I3=>?_)\.inr E;show bZ (hs x _ (Jh I.ok ?_) RC L _ _ DF (I3.toS x _)\bA x hH) (λf M r=>?_) λ_ _ z=>z
 .intro pins' Z' H' s1 e ad d' ag b4 J ge gc gd y g1 g2 gn gp B gE;let al:=kF y (·.setIfInBounds 2 (Value.ref x));let e2:=fh (Obj.mapFields (·.setIfInBounds 2 (Value.ref x))) ge\kG al;let oth:∀b,b≠e->(s1.heap.update e\Obj.mapFields (·.setIfInBounds 2 (Value.ref x))).get? b=s1.heap.get? b:=λb a=>dY>>(aA a);let b6:s1.heap.FunFrames X.base (X.env::X.outer):=by rw[<-c.1];show J.stack
  let b7:(s1.heap.update e\Obj.mapFields (·.setIfInBounds 2 (Value.ref x))).FunFrames X.base (X.env::X.outer):=b6.of_keeps λb o a O=>by
   by_cases am:b=e
   .subst am;rw[ge] at a;cases a;show absurd y\O b4
   erw[o,(oth b am)<*a,1]
  show LM (s:={s1 with heap:=s1.heap.update e\Obj.mapFields (·.setIfInBounds 2 (Value.ref x))}) (p:=λ_=>True) (by have:=(J.suite x).ok.frames;rw[c.1] at this;show this) b7 c.2 e2 (wW _ _) rfl al (by rw[sN ⋯];show g1) #[.ref x,by simp[g2],trivial] λP T xv Q lb=>?_;let b8:(Obj.mapFields (·.setIfInBounds 2 (Value.ref x)) ag).dict=d':=by let#[c0,d0,b9,dp]:=ag;cases b9<;>show gd
  rw[b8,gc] at xv;let ca:mh (frs (X.env::X.outer)) e s1.heap P:=#[λb o a hf R=>lb.keep b o a hf\(oth b a).trans R,λb o a R=>lb.slot b o a\(oth b a).trans R];let S:s1.heap.get? T=n7:=by
   by_cases a:T=e
   .subst a;rw[e2] at Q;cases Q
   rw[<-oth T a];show Q
  let an:H' T=n7:=J.hok.none_of' S;let T0:X.s₀.heap.get? T=n7:=J.oldNone S (by rw[aS];simp);let J3:Inv X pins' Z' H' {s1 with heap:=P}:=J.left c (B7 #[0,ge,y]) gn gp B (λb a=>rfl) (λu z=>by rw[B] at z;cases z) ca;let#[U,cb,Y,cc,f1,f2,f3,f4,f5,f6,f7,f8,f9,cd]:=id xv;let nl:∀{b:pR},(∀o,s1.heap.get? b*>o->∃ws,o.data=.fields ws)->b≠X.env.locals/\b∉X.fs:=λ{b} a=>by
   erw[λz=>?_,λhm=>?_]
   .let#[m,#[o,es,ep,g,hd,_],_]:=J.loc;let#[ws,C]:=a o (by rw[z];show g);rw[hd] at C;cases C
   let#[_,o,g,O]:=J.funs.mem hm;let#[ws,C]:=a o g;show O ws C
  let ne:=nl (b:=e) λo g=>by rw[ge] at g;cases g;erw[_,y]
  let ap:=nl (b:=T) λo g=>by rw[S] at g;cases g
  let J4:Inv X [(e,U),(T,Y)] Z' H' {s1 with heap:=P}:=J3.pins_of λp hp=>by
   rcases aT.mp hp with rfl|hp
   .exact#[f1,B,ne.1,ne.2,λv z=>by rw[f4] at z;cases z]
   cases aG.mp hp;erw[f8,an,ap.1,ap.2,λv z=>by rw[f9] at z;cases z]
  show J4.unname hN hi E λM K4=>?_;let ce:fQ (λ_=>True) X.env.locals M.heap e ad d' T:=#[U,cb,Y,cc,(K4.pin (e,U) ∅).1,f2,f3,f4,f5,f6,f7,(K4.pin (T,Y) ∅).1,f9,cd];show LB c.2 ce λh5 aM cf=>?_;change q7 _ _ (noteFrame (.ref e) X.env) _ _ _;show A2 c.2 aM ?_;show Mr c.2 aM λh6 cg ch=>?_;show hE _ _ H' _ e T ad d' (K4.kept (t':=M.toks) λb o z=>(ch b).trans\(cf b).trans z) cg gn T0 B an gE
 cases f with
 |next=>let#[8,q]:=r;show q.elim
 |brk=>let#[8,q]:=r;show q.elim
 |cont=>let#[8,q]:=r;show q.elim
 |ret v=>let#[0,8,q]:=r;show q.elim
def Ju(h:X.stack=X.env::X.outer/\X.env.frame*>X.env.locals)(c:X.ex=[])(j:X.N.Nodup)(hi:X.N[i]?*>n)(l:X.env.scope.names.lookup n*>.local)
  (m:Gl X cx1) (o:X.mg cx1*>.ref c1) (u:clsIn X.K c1*>bm1) (y:bm1.contains (.type ↑4)=oD) (A:Gl X cx) (hm:X.mg cx*>.ref Ch) (B:clsIn X.K Ch*>bmh) (C:bmh.contains (.type ↑4)=oD)
  (L:∀(RC:List (pR×Obj))(xe:pC->pS->Prop)(E:XK),Passes (CX1 X.prog X.w) (j5 X RC xe) E->PSs (j5 X RC xe) body\tb E)
  (M:∀x xe,REnds (cxS X x xe) (XWith x E2)->PSs (cxS X x xe) (b0::suite)\ts x) (O:vR X E2) (P:(cx1==(↑18 : Str))=p6:=by decide) (Q:(cx==(↑18 : Str))=p6:=by decide) :
  PS X (.Try body [.ExceptHandler (oy\.Name cx1 np1) n7 (c0::suite0) hpos1,.ExceptHandler (oy\.Name cx np) (oy n) (b0::suite) hpos] [] [] pos) (MA X.K X.N.length c1 Ch i tb ts):=by
 rintro RC s Z H D I ⟨E,R,S⟩;show Qe ?_;show bZ (L RC _ E ?_ [] s Z H D I.toBody R) (λf s1 a=>?_) λ_ _ z=>z
 .rintro pins' Z' H' s' e ab J ⟨x,cls,d,H2,rfl,hx,g,T,os,bare,un,hok,q⟩;let U:=J.call' (ch:=[]) os un hok bare (λb z=>absurd z ∅);show NQ h c j hi l m o u y A hm B C M O P Q U.ofBody hx (J.ofBody.oldNone g (by rw[c];simp)) (λp Y z=>?_) T\S _ _ _ q;let e:=(J.pin p\d_ _ Y).1;rw[z,g] at e;cases e
 cases f with
 |next=>
  let#[Z',H',J,q]:=a;show ph #[Z',H',J.ofBody,q]
 |brk=>let#[Z',H',J,q]:=a;erw[Z',H',J.ofBody,q]
 |cont=>let#[Z',H',J,q]:=a;erw[Z',H',J.ofBody,q]
 |ret v=>let#[w',Z',H',J,r,q]:=a;erw[w',Z',H',J.ofBody,r,q]
end
abbrev mq(h:rq)(z TI TO T:pR)(b:Bool):Prop:=h.get? z*>{cls:=.type "zip",dict:=n7,data:=.fields\tA [vf T,.bool b,.bool p6,.ref TI,.ref TO],slots:=(tA [])}
section
variable {prog:Program}{z TI TO T i1 i2 l1 l2:Addr}{k1 k2:Nat}{xs ys:Array Value}{b:Bool}{oT:Obj}
def Ir{M:Model}{a:pR}{Q:Option Obj->pS->Prop}(h:Q (s.heap.get? a) s):q7 M A (loadIfAlive a) Q E s:=λ_ _ _=>h
def xV{Q:Bool->pS->Prop}(hz:mq s.heap z TI TO T b)(a:s.heap.get? T*>oT)(h:∀h',mq h' z TI TO T oD->(∀c o,c≠z->s.heap.get? c*>o->h'.get? c*>o)->Q p6 {s with heap:=h'}):
  q7 (rb prog w) A (Builtin.SmallTypes.ownedTupleIsFree\.ref z) Q E s:=by
 unfold Builtin.SmallTypes.ownedTupleIsFree;show aa\cD hz rfl (x:=vf T) rfl ?_;change q7 _ _ (loadIfAlive (T:Int).toNat >>= _) _ _ _;rw[my];show aa\Ir ?_;rw[a];show aa\cD hz rfl (x:=.bool b) rfl ?_;cases b with
 |true=>show ai (h s.heap hz λ_ _ _ e=>e)
 |false=>
  show aa (pA hz ∅ λh₁ hz₁ d₁=>ai (h h₁ hz₁ λc o f e=>d₁.extBut c o f e))
def EO{x y:pC}{Q:Option pC->pS->Prop}(D:ZipApart z TI TO i1 i2 l1 l2)(hz:mq s.heap z TI TO T b)(j:IsPair s.heap TI (.ref i1)\.ref i2)(l:s.heap.get? T*>oT)
  (h1:s.heap.IsListIter i1 l1 k1) (h2:s.heap.IsListIter i2 l2 k2) (m:s.heap.IsList l1 xs) (n:s.heap.IsList l2 ys) (hx:xs[k1]?*>x) (p:ys[k2]?*>y)
  (r:∀h' t,mq h' z TI TO T oD->h'.IsListIter i1 l1 (k1+1)->h'.IsListIter i2 l2 (k2+1)->s.heap.get? t=n7->IsPair h' t x y->(∀c o,c≠z->c≠i1->c≠i2->s.heap.get? c*>o->h'.get? c*>o)->Q (oy\.ref t) {s with heap:=h'}) :
  q7 (rb prog w) A (wb\.ref z) Q E s:=by
 let i:s.TypeIs (.ref z) "zip":=#[_,hz,1];unfold wb;show aa\i5 (jK (name:=Str.ofString "__next__") i F.slot_zip_next\gA F.slot_zip_next i F.entry_zip_next ?_ (F.args_zip_next_1 _));change q7 _ _ (field (.ref z) 2 >>= _) _ _ _;show aa\cD hz rfl (x:=.bool p6) rfl ?_;change q7 _ _ (field (.ref z) 3 >>= _) _ _ _;show aa\cD hz rfl (x:=.ref TI) rfl ?_;show aa\pk j rfl ?_;change q7 _ _ (Builtin.SmallTypes.ownedTupleIsFree (.ref z) >>= _) _ _ _;show aa (xV hz l λh₁ hz₁ d₁=>?_);simp only[jC,if_false];show aa ?_;change q7 _ _ (forIn ((tA [Value.ref i1,.ref i2]):Array pC) _ _) _ _ _;rw[<-Oh];simp only[CC,OM];show aa\aa (cX ?_);change q7 _ _ (Builtin.SmallTypes.nextOf (.ref i1) >>= _) _ _ _;let u:h₁.IsListIter i1 l1 k1:=h1.at λo e=>d₁ i1 o D.i1z e;let v:h₁.IsListIter i2 l2 k2:=h2.at λo e=>d₁ i2 o D.i2z e;let B:h₁.IsList l1 xs:=m.at λo e=>d₁ l1 o D.l1z e;let C:h₁.IsList l2 ys:=n.at λo e=>d₁ l2 o D.l2z e;show aa (Qo u B hx λh₂ h1₂ a₂=>ai\ai ?_);show aa\aa (cX ?_);change q7 _ _ (Builtin.SmallTypes.nextOf (.ref i2) >>= _) _ _ _;show aa (Qo (v.extBut a₂.extBut D.i12.symm) (C.extBut a₂.extBut D.l2i1) p λh₃ h2₃ a₃=>ai\ai (ai ?_));let kp:∀c o,c≠z->c≠i1->c≠i2->s.heap.get? c*>o->h₃.get? c*>o:=λc o c1 c2 f e=>a₃.extBut c o f\a₂.extBut c o c2 (d₁ c o c1 e);show aa\Dw (ai #[2,ai\r _ h₃.objs.size ?_ ?_ ?_ ?_ ?_ ?_]) (by change 2<=qs;rw[cY];decide)
 .exact aO _\a₃.extBut z _ D.i2z.symm (a₂.extBut z _ D.i1z.symm hz₁)
 .exact (h1₂.extBut a₃.extBut D.i12).at λo e=>aO _ e
 .exact h2₃.at λo e=>aO _ e
 .cases q:s.heap.get? h₃.objs.size with
  |none=>rfl
  |some o=>
   let H:h₃.objs.size≠z:=λe=>absurd (aJ\a₃.extBut z _ D.i2z.symm (a₂.extBut z _ D.i1z.symm hz₁)) (by rw[<-e];show dD _);let I:h₃.objs.size≠i1:=λe=>by
    let#[o',g,_]:=h1₂.extBut a₃.extBut D.i12;show absurd (aJ g) (by rw[<-e];show dD _)
   let K:h₃.objs.size≠i2:=λe=>by
    let#[o',g,_]:=h2₃;show absurd (aJ g) (by rw[<-e];show dD _)
   show absurd (aJ\kp _ o H I K q)\dD _
 .exact bI _ rfl
 show λc o c1 c2 f e=>aO _\kp c o c1 c2 f e
def FQ{Q:Option pC->pS->Prop}(f:A.handled=n7)(D:ZipApart z TI TO i1 i2 l1 l2)(hz:mq s.heap z TI TO T b)(g:IsPair s.heap TI (.ref i1)\.ref i2)(i:s.heap.get? T*>oT)
  (h1:s.heap.IsListIter i1 l1 k1) (j:s.heap.IsList l1 xs) (hx:xs[k1]?=n7) (l:∀h',(∀c o,c≠z->c≠i1->c≠i2->s.heap.get? c*>o->h'.get? c*>o)->Q n7 {s with heap:=h'}) :
  q7 (rb prog w) A (wb\.ref z) Q E s:=by
 let d:s.TypeIs (.ref z) "zip":=#[_,hz,1];unfold wb;show aa\i5 (jK (name:=Str.ofString "__next__") d F.slot_zip_next\gA F.slot_zip_next d F.entry_zip_next ?_ (F.args_zip_next_1 _));change q7 _ _ (field (.ref z) 2 >>= _) _ _ _;show aa\cD hz rfl (x:=.bool p6) rfl ?_;change q7 _ _ (field (.ref z) 3 >>= _) _ _ _;show aa\cD hz rfl (x:=.ref TI) rfl ?_;show aa\pk g rfl ?_;change q7 _ _ (Builtin.SmallTypes.ownedTupleIsFree (.ref z) >>= _) _ _ _;show aa (xV hz i λh₁ hz₁ a₁=>?_);simp only[jC,if_false];show aa ?_;change q7 _ _ (forIn ((tA [Value.ref i1,.ref i2]):Array pC) _ _) _ _ _;rw[<-Oh];simp only[CC,OM];show aa\aa (cX ?_);change q7 _ _ (Builtin.SmallTypes.nextOf (.ref i1) >>= _) _ _ _;show aa (wpAny_nextOf_list_end f (h1.at λo e=>a₁ i1 o D.i1z e) (j.at λo e=>a₁ l1 o D.l1z e) hx λh₂ e m₂ he=>?_);let#[o,n,p]:=he;show aa\Dr (T:=↑82) (b:=oD) #[o,n,p] De ?_;show ai (l _ λc o c1 c2 _ x=>m₂ c o c2\a₁ c o c1 x)
end
def Ef:typeLookup (.type "zip") "__len__" = pure n7:=by rw[Qa,PU];kernel_rfl
def DZ:typeLookup (.type "zip") "__length_hint__" = pure n7:=by rw[Qa,PU];kernel_rfl
def zA{α β:Type}{F:α->β->Prop}{x:α}{y:β}(q:F x y):∀{xs:List α}{ys:List β},Paired F xs ys->Paired F (xs++[x]) (ys++[y])
 |_,_,.nil=>.cons q .nil
 |_,_,.cons h r=>.cons h\zA q r
def iq(H:Hp)(v:V)(p:V×V):Prop:=∃t,v=.ref t/\H t*>.tup [p.1,p.2]
def iq.same(s:Same H H'){p:V×V}(h:iq H v p):iq H' v p:=by let#[t,e,h]:=h;erw[t,e,s>>h]
section
variable {z TI TO T i1 i2 a b S:Addr}{xs ys:List V}{tt:List V}
def bY.other{t:pR}(f:bY X RC H c)(h:c≠t):bY X RC (upd H t o) c:=#[by rw[ar h];show f.1,f.2]
abbrev oC(acc:Array pC)(c:Nat):Obj:={cls:=.type ↑28,dict:=n7,data:=.seq acc c,slots:=(tA [])}
def zb{A:z3}{R:Result->pS->Prop}{res:pC}{h1:rq}{acc:Array pC}{c i:Nat}{vr:List V}{t:pR}{x y:V}{u v:pC}(I:Inv X RC Z H s)(hf:∀c∈[z,TI,TO,i1,i2,S],bY X RC H c)(ex:∀c∈[z,TI,TO,i1,i2,S],∃o,s.heap.get? c*>o)
  (C:s.heap.get? S*>oC acc c) (d:S≠z/\S≠TO/\S≠i1/\S≠i2) (l:Vals vr acc.toList) (D:Paired (iq H) vr\(xs.zip ys).take i) (hx:xs[i]?*>x) (E:ys[i]?*>y) (K:aC x u) (L:aC y v) (P:acc.size<=1000)
  (h:s.heap.get? t=n7) (m:IsPair h1 t u v) (kp:∀c o,c≠z->c≠TO->c≠i1->c≠i2->s.heap.get? c*>o->h1.get? c*>o)
  (next:∀h2 j g n,Inv X RC Z (upd H t\.tup [x,y]) {s with heap:=h2}->(∀c∈[z,TI,TO,i1,i2,S],bY X RC (upd H t\.tup [x,y]) c)->h2.get? S*>oC j g->j.size=acc.size+1->Vals n j.toList->Paired (iq\upd H t (.tup [x,y])) n ((xs.zip ys).take (i+1))->(∀c o,c≠S->h1.get? c*>o->h2.get? c*>o)->
   vc ⇑X A (.builtin ↑83 #[[.ref S,.ref z,res],[]]) R {s with heap:=h2}) :
  q7 ⇑X A.in1 (updateSeq S (·.push (.ref t)) >>= λ_=>again\.builtin ↑83 #[[.ref S,.ref z,res],[]]) (λfin s'=>match fin with | .done f=>R (.ok f) s' | .again g=>g.quiet=oD/\vc ⇑X A g R s') (λe s'=>R (.error e) s') {s with heap:=h1}:=by
 let M:H t=n7:=I.hok.none_of h;let hz:1001<=sizeLine:=by rw[cY];decide
 let p:h1.get? S*>oC acc c:=kp S _ d.1 d.2.1 d.2.2.1 d.2.2.2 C;let r:∀c∈[z,TI,TO,i1,i2,S],bY X RC (upd H t\.tup [x,y]) c:=λc B=>(hf c B).other λq=>by
  let#[o,e]:=ex c B;rw[q,h] at e;cases e
 let N:Inv X RC Z (upd H t\.tup [x,y]) {s with heap:=h1,toks:=s.toks}:=I.turnLaid (ch:=[z,TI,TO,i1,i2,S]) hf (λb o a q=>kp b o (λe=>a (by simp[e])) (λe=>a (by simp[e])) (λe=>a (by simp[e])) (λe=>a (by simp[e])) q) h λH'=>#[#[by simp;lia,_,m,1],[u,v],.cons K\.cons L .nil,#[_,m,7]];let O:=↑l;rw[gg] at O;show aa\mT p rfl (ai #[iZ F.plain_extend_loop _,next _ (acc.push\.ref t) _ (vr++[.ref t]) ?_ r (fh _ p rfl) (Om _) ?_ ?_ λb o a e=>(dY>>(aA a))<*e]) () (by change (acc.push _).size<=_;rw[Om];lia)
 .exact Inv.turnedL (s:={s with heap:=h1}) (t':=s.toks) (ch:=[S]) N (λb a=>r b (by simp at a;simp[a])) λb o a e=>(dY>>(λq=>a (by simp[q])))<*e
 .rw[iw];show l.append\.cons rfl .nil
 rw[bE,mE (z:=(x,y)) |>.mpr #[hx,E]];show zA #[t,1,aI]\Paired.imp' (λ_ _ q=>q.same λb o e=>by rw[ar\ao e M];show e) D
def FP(hh:A.in1.handled=n7){R:Result->pS->Prop}{res:pC}(D:ZipApart z TI TO i1 i2 a b)(d:S≠z/\S≠TO/\S≠i1/\S≠i2)(Q:S≠TI)(hl:↑xs=↑ys)(hn:↑xs<=1000):∀(k i:Nat)(s:pS)(H:Hp)(acc:Array pC)(c:Nat)(vr:List V)(r:Bool),↑xs-i=k->i<=↑xs->
  Inv X RC Z H s->(∀c∈[z,TI,TO,i1,i2,S],bY X RC H c)->(∀c∈[z,TI,TO,i1,i2,S],∃o,s.heap.get? c*>o)->mq s.heap z TI TO T r->IsPair s.heap TI (.ref i1) (.ref i2)->H T*>.tup tt->s.heap.IsListIter i1 a i->s.heap.IsListIter i2 b i->H a*>.lst xs->H b*>.lst ys->
  s.heap.get? S*>oC acc c->acc.size=i->Vals vr acc.toList->Paired (iq H) vr ((xs.zip ys).take i)->
  (∀s' H' f h g,Inv X RC Z H' s'->Same H H'->bY X RC H' S->s'.heap.get? S*>oC f h->f.size=↑xs->Vals g f.toList->Paired (iq H') g (xs.zip ys)->R (.ok\.ret res) s')->
  vc ⇑X A (.builtin ↑83 #[[.ref S,.ref z,res],[]]) R s:=by
 intro k;induction k with
 |zero=>
  intro i s H acc c vr r hk hi I hf ex hz j l v U m B C ha E n K;obtain rfl:i=↑xs:=();show iA F.entry_extend_loop ?_;rw[iU F.plain_extend_loop _];change q7 _ A.in1 (wb (.ref z) >>= _) _ _ s;let#[al,L,p,_]:=I.list\SqL.of m;let#[oT,M]:=(I.hok T _ l).there;let a5:=↑L;show aa (FQ hh D hz j M v p.isList (by simp;lia) λh' kp=>ai ?_);rw[iY (by rw[OQ];lia)] at n;show K {s with heap:=h'} H acc c vr (I.turnedL (t':=s.toks) (ch:=[z,TI,TO,i1,i2,S]) hf λb o N e=>kp b o (λq=>N (by simp[q])) (λq=>N (by simp[q])) (λq=>N (by simp[q])) e) (λ_ _ e=>e) (hf S ∅) (kp S _ d.1 d.2.2.1 d.2.2.2 C) ha E n
 |succ k ih=>
  intro i s H acc c vr r hk hi I hf ex hz j l v U m B C ha E n K;let Y:i<↑xs:=();let am:i<↑ys:=();show iA F.entry_extend_loop ?_;rw[iU F.plain_extend_loop _];change q7 _ A.in1 (wb (.ref z) >>= _) _ _ s;let#[al,L,p,_]:=I.list\SqL.of m;let#[its',an,p',_]:=I.list\SqL.of B;let#[oT,M]:=(I.hok T _ l).there;let hx:xs[i]?*>xs[i]:=aU Y;let hy:ys[i]?*>ys[i]:=aU am;let#[u,hu,ru]:=L.get hx;let#[u',ap,aM]:=an.get hy;show aa (EO D hz j M v U p.isList p'.isList (x:=u) (y:=u') ‹hu› ‹ap› λh1 t z1 ab ad nt tp kp=>?_);show zb (xs:=xs) (ys:=ys) (i:=i) I hf ex C d E n hx hy ru aM () nt tp (λc o c1 _ O P e=>kp c o c1 O P e) λh2 f h g I2 aS ag a6 a0 a3 k2=>?_;let hH:H t=n7:=I.hok.none_of nt;let sm:Same H (upd H t\.tup [xs[i],ys[i]]):=λb o e=>by rw[ar\ao e hH];show e
  let old:∀c o,c≠z->c≠i1->c≠i2->c≠S->s.heap.get? c*>o->h2.get? c*>o:=λc o c1 c2 O P e=>k2 c o P\kp c o c1 c2 O e;let a4:∀c∈[z,TI,TO,i1,i2,S],∃o,h2.get? c*>o:=λc hc=>by
   simp only[aT,eZ,or_false] at hc;rcases hc with rfl|rfl|rfl|rfl|rfl|rfl
   .exact#[_,k2 _ _ (aA d.1) z1]
   .exact#[_,old _ _ D.TIz D.TIi1 D.TIi2 (aA Q) j]
   .let#[o,e]:=ex c ∅;erw[_,old _ _ D.TOz D.TOi1 D.TOi2 (aA d.2.1) e]
   .let#[o,e,_]:=ab;erw[_,k2 _ _ (aA d.2.2.1) e]
   .let#[o,e,_]:=ad;erw[_,k2 _ _ (aA d.2.2.2) e]
   erw[_,ag]
  show ih (i+1) {s with heap:=h2} _ f h g oD () Y I2 aS a4 (k2 z _ (aA d.1) z1) (old TI _ D.TIz D.TIi1 D.TIi2 (aA Q) j) (sm>>l) (ab.at λo e=>k2 i1 o (aA d.2.2.1) e) (ad.at λo e=>k2 i2 o (aA d.2.2.2) e) (sm>>m) (sm>>B) ag () a0 a3 λs' H' f h g a1 a2=>K s' H' f h g a1\sm.trans a2
def HH{u0 v0:pC}{Q:VK}(hc:X.calm=oD)(hst:X.stack=X.env::X.outer/\X.env.frame*>X.env.locals)(hnx:X.ex=[])(D:ZipApart z TI TO i1 i2 a b)(hl:↑xs=↑ys)(h0:0<↑xs)(hn:↑xs<=1000)(I:Inv X RC Z H s)(hf:∀c∈[z,TI,TO,i1,i2],bY X RC H c)
  (hz:IsZip s.heap z TI TO .none) (hTI:IsPair s.heap TI (.ref i1)\.ref i2) (hTO:IsPair s.heap TO u0 v0) (g1:s.heap.IsListIter i1 a 0) (g2:s.heap.IsListIter i2 b 0) (qa:H a*>.lst xs) (qb:H b*>.lst ys)
  (q:∀l vl H',H l=n7->Same H H'->H' l*>.lst vl->Paired (iq H') vl (xs.zip ys)->Q (.ref l) H'):q7 ⇑X X.A (call (.type ↑28) [.ref z]) (EP X RC Z Q) X.xe s:=by
 let lt:∀c o,s.heap.get? c*>o->c≠↥s:=λc o e=>bB\aJ e;let hh:=I.ok.hd hc;show PV (Q₁:=λobj s₁=>obj=.ref ↥s/\s₁={s with heap:=s.heap.push {cls:=.type ↑28,data:=.seq\tA []}}) F.called_list (F.typeCall_list_1 _) F.entry_list_init (code_list_new _ #[5]) λobj s₁ h₁=>?_;let#[5]:=h₁;let hS:(s.heap.push {cls:=.type ↑28,data:=.seq\tA []}).get? ↥s*>{cls:=.type ↑28,data:=.seq\tA []}:=bI _ rfl;erw[#[_,hS,1],F.args_list_init_2 _ _,?_];let nz:=lt>>hz;let nTI:=lt>>hTI;let nTO:=lt>>hTO;let n1:i1≠↥s:=by let#[o,e,_]:=g1;show lt _ _ e
 let n2:i2≠↥s:=by let#[o,e,_]:=g2;show lt _ _ e
 let fS:bY X RC H ↥s:=I.fpOk (aq _)\I.hok.fresh (aq _);let s0:X.s₀.heap.get? ↥s=n7:=I.oldNone (jD\aq _) (by rw[hnx];simp);let hHS:H ↥s=n7:=fS.1;generalize hSS:↥s=S at hS nz nTI nTO n1 n2 fS s0 hHS;let I1:Inv X RC Z H {s with heap:=s.heap.push {cls:=.type ↑28,data:=.seq\tA []}}:=I.kept (t':=s.toks) λb o e=>aO _ e;change q7 _ X.A.in1.in1 (do let old <-Builtin.List.listItems\.ref S;Builtin.List.listUpdate (.ref S) (λ_=>(tA []));letGo old.toList.reverse;Builtin.List.listExtendWith (.ref S) (.ref z) .none) _ _ _;show aa ?_;unfold Builtin.List.listItems;show aa\pk hS rfl (ai ?_);change q7 _ _ (updateSeq S (λ_=>(tA [])) >>= λ_=>letGo ((tA []):Array pC).toList.reverse >>= λ_=>Builtin.List.listExtendWith (.ref S) (.ref z) .none) _ _ _;show aa\mT hS rfl ?_;let hS2:=fh (Obj.mapSeq λ_=>((tA []):Array pC)) hS rfl;show aa\pj ?_;let oth:∀c o,c≠S->s.heap.get? c*>o->((s.heap.push {cls:=.type ↑28,data:=.seq\tA []}).update S\Obj.mapSeq λ_=>((tA []):Array pC)).get? c*>o:=λc o hc e=>(dY>>(aA hc)).trans\aO _ e;generalize (s.heap.push {cls:=.type ↑28,data:=.seq\tA []}).update S (Obj.mapSeq λ_=>((tA []):Array pC))=h2 at hS2 oth |-;let hz2:=oth z _ nz hz;let hTy:Shared.TypeIs {s with heap:=h2} (.ref z) "zip":=#[_,hz2,1];unfold Builtin.List.listExtendWith;show aa\kN hTy ?_;let e1:Builtin.List.listSameRef (.ref S) (.ref z)=p6:=by simp[Builtin.List.listSameRef,aA nz]
 let e2:(Value.type "zip"==Value.type ↑28)=p6:=⋯;let e3:(Value.type "zip"==Value.type ↑20)=p6:=⋯;simp only[e1,e2,e3,Ou,jC,if_false];show aa\Dy hz2 ?_;show aa\cX ?_;unfold Builtin.List.listLengthHint;show aa\DA hTy Ef ?_;change q7 _ _ (specialOf (Value.ref z) (Str.ofString "__length_hint__") >>= _) _ _ _;show aa\DA hTy DZ ?_;show ai ?_;change q7 _ _ (rule "list.extend.makes-room" >>= λ_=>Builtin.List.listTouch (.ref S) >>= λ_=>again\.builtin ↑83 #[[.ref S,.ref z,.none],[]]) _ _ _;show aa\tK ?_;show aa ?_;change q7 _ _ (updateSeq S (·.push .none) >>= λ_=>updateSeq S (·.pop)) _ _ _;show aa\mT hS2 rfl ?_;let hS3:=fh (Obj.mapSeq (·.push Value.none)) hS2 rfl;show mT (hz:=by seq_fits) hS3 rfl ?_;let hS4:=fh (Obj.mapSeq (·.pop)) hS3 rfl;let oth4:∀c o,c≠S->s.heap.get? c*>o->((h2.update S\Obj.mapSeq (·.push Value.none)).update S\Obj.mapSeq (·.pop)).get? c*>o:=λc o hc e=>(dY>>(aA hc)).trans\(dY>>(aA hc)).trans (oth c o hc e);generalize (h2.update S\Obj.mapSeq (·.push Value.none)).update S (Obj.mapSeq (·.pop))=h4 at hS4 oth4 |-;let I4:Inv X RC Z H {s with heap:=h4}:=I.turnedL (t':=s.toks) (ch:=[S]) (λb hb=>by rw[aG.mp hb];show fS) λb o hb e=>oth4 b o (λq=>hb (by simp[q])) e;let nS:S≠z/\S≠TO/\S≠i1/\S≠i2:=#[aA nz,aA nTO,aA n1,aA n2];let hf6:∀c∈[z,TI,TO,i1,i2,S],bY X RC H c:=λc hc'=>by
  rcases bo.mp (show c∈[z,TI,TO,i1,i2]++[S] from hc') with m|m
  .exact hf c m
  rw[aG.mp m];show fS
 let g14:h4.IsListIter i1 a 0:=g1.at λo e=>oth4 i1 o n1 e;let g24:h4.IsListIter i2 b 0:=g2.at λo e=>oth4 i2 o n2 e;let ex:∀c∈[z,TI,TO,i1,i2,S],∃o,h4.get? c*>o:=λc hc'=>by
  simp only[aT,eZ,or_false] at hc';rcases hc' with rfl|rfl|rfl|rfl|rfl|rfl
  .exact#[_,oth4 _ _ nz hz]
  .exact#[_,oth4 _ _ nTI hTI]
  .exact#[_,oth4 _ _ nTO hTO]
  .let#[o,e,_]:=g14;erw[_,e]
  .let#[o,e,_]:=g24;erw[_,e]
  erw[_,hS4]
 show ai #[iZ F.plain_extend_loop _,iA F.entry_extend_loop ?_];rw[iU F.plain_extend_loop _];change q7 _ _ (wb (.ref z) >>= _) _ _ _;let#[its,rv,p,_]:=I4.list\SqL.of qa;let#[its',rv',p',_]:=I4.list\SqL.of qb;let hx:xs[0]?*>xs[0]:=aU h0;let hy:ys[0]?*>ys[0]'():=aU ();let#[u,hu,ru]:=rv.get hx;let#[u',hu',ru']:=rv'.get hy;show aa (Qw (s:={s with heap:=h4}) D (oth4 _ _ nz hz) (oth4 _ _ nTI hTI) (oth4 _ _ nTO hTO) g14 g24 p.isList p'.isList (x:=u) (y:=u') ‹hu› ‹hu'› λh5 a1 a2 a3 a4 a5 a6 kp=>?_);show zb (xs:=xs) (ys:=ys) (i:=0) (vr:=[]) I4 hf6 ex hS4 nS (by simp;show .nil) (by rw[wM];show .nil) hx hy ru ru' ∅ (jD\aq _) a5 kp λh6 acc' c' vr' I6 hf7 hS6 ha6 hv6 hp6 k6=>?_;let hHt:H h4.objs.size=n7:=I4.hok.fresh\aq _;let sm:Same H (upd H h4.objs.size\.tup [xs[0],ys[0]'()]):=λb o e=>by rw[ar\ao e hHt];show e
 let k46:∀c o,c≠z->c≠TO->c≠i1->c≠i2->c≠S->h4.get? c*>o->h6.get? c*>o:=λc o c1 c2 c3 c4 c5 e=>k6 c o c5\kp c o c1 c2 c3 c4 e;show FP (A:=X.A.in1) (T:=h4.objs.size) (xs:=xs) (ys:=ys) hh D nS (aA nTI) hl hn _ 1 {s with heap:=h6} _ acc' c' vr' p6 rfl h0 I6 hf7 (λc hc'=>?_) (k6 z _ nz a1) (k46 TI _ D.TIz D.TITO D.TIi1 D.TIi2 nTI\oth4 _ _ nTI hTI) aI (a3.at λo e=>k6 i1 o n1 e) (a4.at λo e=>k6 i2 o n2 e) (sm>>qa) (sm>>qb) hS6 ‹ha6› hv6 hp6 λs' H' acc c vr I' sm' fS' hS' ha' hv' hp'=>?_
 .simp only[aT,eZ,or_false] at hc';rcases hc' with rfl|rfl|rfl|rfl|rfl|rfl
  .exact#[_,k6 _ _ nz a1]
  .exact#[_,k46 _ _ D.TIz D.TITO D.TIi1 D.TIi2 nTI\oth4 _ _ nTI hTI]
  .exact#[_,k6 _ _ nTO a2]
  .let#[o,e,_]:=a3;erw[_,k6 _ _ n1 e]
  .let#[o,e,_]:=a4;erw[_,k6 _ _ n2 e]
  erw[_,hS6]
 erw[1,.ref S,upd H' S\.lst vr,?_,1,q S vr _ hHS (λb o e=>?_) aI\Paired.imp' (λ_ _ z=>z.same λb o e=>?_) hp']
 .refine I'.left hst #[_,hS',(λ_ _ z=>by cases z),(λ_ z=>by cases z)] s0 (λp hp=>fS'.2.2.2.2.2 p hp) fS'.1 (λb hb=>ar hb) (λu e=>?_) #[λ_ _ _ _ e=>e,λb o _ e=>#[o.slots,e]];rw[aI] at e;cases e;let e1:=↑hv';let e2:acc.toList.length=acc.size:=gg;erw[by rw[cY];lia,acc.toList,c,hv',by rw[hS']]
 .rw[ar (λz=>by rw[z,hHS] at e;cases e)];show sm' _ _ (sm>>e)
 rw[ar (λz=>by rw[z,fS'.1] at e;cases e)];show e
def tLZB(Q:VK)(vs:List V)(H1:Hp)(a b:pR)(xs ys:List V):Prop:=vs=[.ref a,.ref b]/\H1 a*>.lst xs/\H1 b*>.lst ys/\↑xs=↑ys/\0<↑xs/\↑xs<=1000/\∀l c H',H1 l=n7->Same H1 H'->H' l*>.lst c->Paired (iq H') c (xs.zip ys)->Q (.ref l) H'
def tLZ(ta:TA):TE:=λZ H Q=>ta Z H λvs H1=>Exists\Ex4 (tLZB Q vs H1)
def Jy{f d:ry}{p p2 pos i:Pos}(v:X.calm=oD)(w:X.stack=X.env::X.outer/\X.env.frame*>X.env.locals)(x:X.ex=[])(y:Gl X ↑28)(z:X.mg ↑28 = n7)(A:Gl X "zip")(hm:X.mg "zip" = n7)(ha:PA X [f,d] ta)(B:r6 [f,d] X.env=[(p6,sZ f X.env),(p6,sZ d X.env)]:=by rfl)(j:r6 [d] X.env=[(p6,sZ d X.env)]:=by rfl):
  PE X (.Call (.Name ↑28 p) [.Call (.Name "zip" p2) [f,d] [] i] [] pos) (tLZ ta):=by
 intro RC s Z H Q I h;show pb\jt I y z oU ?_;show oV ?_ rfl rfl;change q7 _ _ (spliced ((p6,sZ (.Call (.Name "zip" p2) [f,d] [] i) X.env)::tD pos\r6 [] X.env)) _ _ _;show oI ?_;show Call_\jt I A hm boot_zip (oV (thn (ha i RC s Z H _ I h) λus s1 ⟨vs,H1,g,C,D⟩=>?_) (by rw[B,j]) (by rw[j];rfl));let#[a,b,xs,ys,1,l,m,E,K,L,q]:=D;let#[9,M,N]:=C.two;cases M;cases N;let#[ab,rv,pl,hz]:=g.list\SqL.of l;let#[its',ad,n,ag]:=g.list\SqL.of m;let O:a<↥s1:=by let#[o,e,_]:=pl.isList;show aJ e
 let P:b<↥s1:=by let#[o,e,_]:=n.isList;show aJ e
 show call_zip_2 pl.isList n.isList λh' h1 h2 R S T hsz U=>sO ?_;let Y:Inv X RC Z H1 {s1 with heap:=h'}:=g.kept (t':=s1.toks) U;show HH v w x (zipApart_new O P) E K L Y (λc r=>?_) h1 h2 R S T l m q;let u:↥s1<=c:=by
  simp only[aT,eZ,or_false] at r;rcases r with rfl|rfl|rfl|rfl|rfl
  all_goals first|show aq _|show oN _ _
 show g.fpOk u\g.hok.fresh u
end
end L2
namespace K15
open PySem L2 K51 K31
def AH{ps:List Nat}{p:Nat}(h:ps[↑ps-1]?*>p):atI (nV ps) (-1)*>V.int (p:Int):=by let a:=(aN.mp h).1;unfold atI ixN;rw[bH,Rx ⋯,Ry ()];change (nV ps)[_]?=_;rw[show (-1+(↑ps:Int)).toNat=↑ps-1 by lia];show vD h
def HL{l:List Ent}{vs:List V}(b:DKV H (.dT\l.map bD) ks vs):SdsAt H ks (l.map (·.1)):=by
 rcases b with ⟨kvs,e,_⟩|⟨kvs,as,e,a,rfl,_⟩
 .cases e
 cases e;rename_i c;clear c;induction l generalizing as with
 |nil=>cases a;show .nil
 |cons x l d=>
  cases a with
  |cons h t=>show .cons #[2,h]\d _ t
structure rD(R:Nat->Nat->Prop)(l:List (Nat×Nat)):Prop where
 nd:(l.map (·.1)).Nodup
 mem:∀p q,(p,q)∈l↔R p q
def rD.key{R:Nat->Nat->Prop}(h:rD R l)(p:Nat):p∈l.map (·.1)↔∃q,R p q:=by
 constructor
 .intro z;let#[#[a,b],h1,1]:=ax.mp z;erw[b,(h.mem _ _).mp h1]
 rintro⟨q,c⟩;show ax.mpr #[_,(h.mem _ _).mpr c,1]
def El(vs:List V)(H:Hp)(Q:VK)(d:pR)(l:List (Nat×Nat))(R:Nat->Nat->Prop)(s:Nat):Prop:=vs=[.ref d,.int (s:Int)]/\Rd H d (.dK\l.map nmV)/\↑l<=1000/\(∀a b c,R a c->R b c->a=b)/\rD R l/\s∈l.map (·.1)/\
 ∀r ps H',H r=n7->Same H H'->H' r*>.lst (nV ps)->↑ps<=1001->Path R ps->ps[0]?*>s->(∀z,ps[↑ps-1]?*>z->(∀q,¬R z q)\/R z s)->Q (.ref r) H'
def yi:Sp:=λvs H Q _=>Exists\Ex4 (El vs H Q)
def dW(ts:List Tri)(es:List Ent):List (Nat×Nat):=(es.map (·.1)).filter λs=>decide ((s.2,s.1)∉(ents ts).map (·.1))
def BC{ts:List Tri}{a b:Nat}:(a,b)∈(ents ts).map (·.1)↔∃c,En ts a b c:=by
 constructor
 .intro h;let#[#[#[x,y],c],h1,h2]:=ax.mp h;cases h2;erw[c,h1]
 rintro⟨c,h⟩;show ax.mpr #[_,h,1]
def lD:bq (En ts) a b↔Rim ts (a,b):=by unfold bq Rim;rw[BC,BC]
def zt{ts:List Tri}{a b:Nat}:(a,b)∈dW ts (ents ts)↔bq (En ts) a b:=by unfold dW;rw[lD,ef,decide_eq_true_eq];rfl
def Gr{ts:List Tri}{es:List Ent}{a b:Nat}(c:∀e∈es,e∈ents ts)(h:(a,b)∈dW ts es):bq (En ts) a b:=by unfold dW at h;let#[h1,h2]:=ef.mp h;let#[e,he,d]:=ax.mp h1;show lD.mpr #[ax.mpr #[e,c e he,d],RB h2]
def AE{R:Nat->Nat->Prop}(one:∀a b c,R a b->R a c->b=c){l:List (Nat×Nat)}(nd:l.Nodup)(h:∀p∈l,R p.1 p.2):(l.map (·.1)).Nodup:=by
 induction l with
 |nil=>show ku
 |cons x l f=>
  rw[eO] at nd;rw[br,eO];erw[λz=>?_,f nd.2 λp g=>h p\de _ g];let#[y,d,e]:=ax.mp z;let h1:=h x gk;let h2:=h y\de _ d;rw[e] at h2;have:y=x:=mI e\one _ _ _ h2 h1;rw[this] at d;show nd.1 d
def kQ{ts:List Tri}(g:Good ts)(o:∀c,Co ts c->One (En ts) c):(∀a b c,bq (En ts) a b->bq (En ts) a c->b=c)/\(∀a b c,bq (En ts) a c->bq (En ts) b c->a=b)/\(∀a b,bq (En ts) a b->∃c,bq (En ts) b c):=by let f:∀{a b},bq (En ts) a b->Co ts a:=λ⟨⟨q,d⟩,_⟩=>#[_,q,d];let e:∀{a b},bq (En ts) a b->Co ts b:=λ⟨⟨q,d⟩,_⟩=>#[q,_,g.sk.rot d];erw[λa b c h1 h2=>Jd g.sk (o a\f h1) h1 h2,λa b c h1 h2=>Je g.sk (o c\e h1) h1 h2,λa b h=>Gq g.sk (o b\e h) h]
def Jg{ts:List Tri}(g:Good ts)(o:∀c,Co ts c->One (En ts) c):rD (bq\En ts) (dW ts\ents ts):=
 #[AE (kQ g o).1 (g.nd.filter _) λp a=>zt.mp a,λ_ _=>zt]
def zu(ts:List Tri)(es:List Ent):↑(dW ts es)<=↑es:=by unfold dW;have:=dI (λs:Nat×Nat=>decide ((s.2,s.1)∉(ents ts).map (·.1)))\es.map (·.1);rw[av] at this;show this
def zB{α β γ:Type}{F:α->γ->Prop}{f:β->γ}:∀{xs:List α}{ys:List β},Paired F xs (ys.map f)->Paired (λx y=>F x\f y) xs ys
 | [],[],_=>.nil
 |_::_,_::_,.cons h r=>.cons h\zB r
def eI(s:Same H H')(h:H' r=n7):H r=n7:=by
 cases e:H r with
 |none=>rfl
 |some o=>rw[s>>e] at h;cases h
def D2(Cs:pR)(vs:List V)(H:Hp)(Q:VK)(x:pR)(ts us:List Tri):Prop:=vs=[.ref x]/\cV Cs H x ts us/\
 ∀D H',H D=n7->Sm H H'->H' D*>.dK ((dW ts\ents ts).map nmV)->Q (.ref D) H'
def xI(Cs:pR):Sp:=λvs H Q _=>Exists\Ex3 (D2 Cs vs H Q)
def FY(C:pR)(vs:List V)(H:Hp)(Q:VK)(x:pR)(ts us:List Tri)(a b:Nat):Prop:=vs=[.ref x,.int (a:Int),.int (b:Int)]/\cV C H x ts us/\
 ∀H',Same H H'->(∀c,En ts a b c->Q (.int (c:Int)) H')/\((∀c,¬En ts a b c)->Q .non H')
def nP(C:pR):Sp:=λvs H Q _=>Exists\Ex5 (FY C vs H Q)
def KZ(C:pR)(vs:List V)(H:Hp)(Q:VK)(x:pR)(ts us:List Tri):Prop:=vs=[.ref x]/\cV C H x ts us/\∀l a H',H l=n7->Same H H'->H' l*>.lst a->ay H' a us->Q (.ref l) H'
def j6(C:pR):Sp:=λvs H Q _=>Exists\Ex3 (KZ C vs H Q)
def F4(vs:List V)(H:Hp)(Q:VK)(a:pR)(l:List Nat):Prop:=vs=[.ref a]/\H a*>.lst (nV l)/\l≠[]/\↑l<=1000/\
 ∀r vr H',H r=n7->Same H H'->H' r*>.lst vr->SdsAt H' vr (prs l)->Q (.ref r) H'
def z8:Sp:=λvs H Q _=>Exists\Ex2 (F4 vs H Q)
section
def IX:aR [↑67,"a","b"] [↑67,"a","b"] (au n_):=.f
def G8{f C:pR}(U:Fun K "third" "Skin.third" n_ f fd)(X:SCls K C):!aj CX0 1 f fd [↑67,"a","b"] (nP C):=by
 show U.ok IX (!5) λl A outer s H vs Q E e h=>?_
 let#[x,ts,us,a,b,1,#[kt,dx,O,R,D,S,m,L,sk,_],q]:=h;let i:=dA e;erw[_,ak\aF (uv i (lR (pv 0) rfl) (aD\ae (pv 1) (pa1\pv 2)) #[5,5]),?_];erw[2,x,C,dx,9,sk.ob,X.cl,X.thirds,1,D,1,.inr #[_,sk.th],3,lit2,λt H1 n s1 j=>?_];erw[_,.inr #[_,ky a b,t,(Sm.of s1).rd sk.th,1,j,1],?_];let q:=q _ s1;by_cases d:∃c,En ts a b c
 .let#[c,d]:=d;rw[(zd kt.sk.g.nd).mpr d];show q.1 c d
 rw[gF.mpr λz=>d (by
  let#[#[#[o,p],c],h1,h2]:=ax.mp z;cases h2;erw[c,h1])]
 show q.2 λc z=>d #[c,z]
def D4:aR [↑67] [↑67] (au nh):=.f
def LD{f C:pR}(U:Fun K ↑45 "Skin.triangles" nh f fd)(X:SCls K C)(T:cu mg):!aj CX0 1 f fd [↑67] (j6 C):=by
 show U.ok D4 (!3) λc A outer s H vs Q E d h=>?_
 let#[x,ts,us,1,#[kt,dx,O,R,D,S,e,L,sk,_],q]:=h;erw[_,ak\aF (du tO (by rfl) T.list oU\pa1 (lR (pv 0) rfl)),?_];erw[2,x,C,dx,9,sk.ob,X.cl,X.ordered,1,O,2,.inl\SqL.of sk.od,λl H1 a s1 b=>q l _ _ a s1 b\sk.tr.same s1]
def IY:aR ["ring"] ["ring"] (au pH):=.f
def Hk{f:pR}(U:Fun K ↑59 ↑59 pH f fd)(T:cu mg)(j:mg "zip" = n7):!aj CX0 1 f fd ["ring"] z8:=by
 show U.ok IY (!2) λB A outer s H vs Q E C h=>?_
 let#[a,l,1,ha,m,D,q]:=h;erw[_,ak\aF (Jy rfl #[5] rfl rfl T.list rfl j\ae (pv 0) (pa1\aH eJ (jc lx (pv 0) (ji ah) jj) (jc lx (pv 0) jj\ji ah))),?_];erw[3,(1),1,a,2,SqL.of ha,λp H1 I s1 c=>?_];erw[2,(1),1,a,2,SqL.of (s1>>ha),λp2 H2 L s2 d=>?_];rw[show fG (nV l) (oy 1) n7=(nV l).drop 1 from uE (nV l) 1] at c;rw[show fG (nV l) n7 (oy 1)=(nV l).take 1 from BM (nV l) 1] at d;let hz:=line5000;let ll:=bH l;let M:=hU.mpr m;erw[p,p2,6,s2>>c,d,by rw[eF,bz];lia,λn N O b o=>?_];erw[a,n,nV l,2,(s2<*b) _ _ (s1>>ha),o,by rw[bj,eF,bz];lia,(),(),λr vr g u v x i=>?_];show q r vr g (eI (s1.trans\s2.trans b) u) (s1<*s2<*b<*v) x ?_;let e:(nV l).zip ((nV l).drop 1++(nV l).take 1)=(prs l).map λs:Nat×Nat=>(V.int (s.1:Int),V.int (s.2:Int)):=by unfold nV prs;rw[<-CG,<-oM,<-aW,List.zip_map];rfl
 rw[e] at i;show Paired.imp' (by rintro _ _ ⟨t,y,z⟩;erw[t,y,z])\zB (F:=iq g) (f:=λs:Nat×Nat=>(V.int (s.1:Int),V.int (s.2:Int))) i
end
section
def zp:aR ["onward","begin","row"] ["onward","begin"] (au qj):=.f
def Ez{f:pR}(U:Fun K "walked" "walked" qj f fd):!aj CX0 1 f fd ["onward","begin"] yi:=by
 show U.ok zp (!4) λRD A outer s0 H vs Q E0 X h=>?_
 let#[d,l,R,s,1,hd,hl,inj,ab,hs,q]:=h;let M:=dA X;erw[_,af (sx 2 zp.nd\bO (pa1\pv 1))
  (af (jQ dq (aQ j8 (GQ M (pv 0) (ixx cJ (pv 2)\iN iJ ah) (pv 1) #[5,5]) (pv 1)\nomark _)
   (ak\dJ (dR eG gw gz fm (pv 2)\pa1 (ie M (pv 0) (ixx cJ (pv 2)\iN iJ ah) λ_ _=>rfl))))
  (ak\aF (pv 2))),?_]
 let ap:=line5000;let key:∀p,p∈l.map (·.1)↔∃q,R p q:=λp=>by
  constructor
  .intro h;let#[#[a,b],h1,1]:=ax.mp h;erw[b,(ab.mem _ _).mp h1]
  rintro⟨q,g⟩;show ax.mpr #[_,(ab.mem _ _).mpr g,1]
 erw[2,lit1,λr H1 Y s1 y1=>?_];erw[λm Z H'=>∃ps:List Nat,Z=[oy\.ref d,oy\.int (s:Int),oy\.ref r]/\m=↑l+1-↑ps/\Same H H'/\H' r*>.lst (nV ps)/\↑ps<=↑l+1/\ps.Nodup/\ps[0]?*>s/\(∀i p q,ps[i]?*>p->ps[i+1]?*>q->R p q),
  #[_,[s],5,s1,y1,∅,∅,1,λi p q h1 h2=>by simp at h2],?_]
 rintro m Z H' ⟨ps,rfl,rfl,sm,j,aM,nd,u,ch⟩;let v:=(aN.mp u).1;let#[z,hz]:∃z,ps[↑ps-1]?*>z:=#[_,aU ()];let C:Rd H' d (.dK\l.map nmV):=(Sm.of sm).rd hd;let N:=AH hz;let D:H r=n7:=Y;erw[2,d,1,.inl #[_,C],3,r,4,SqL.of j,N,2,_,.inl #[_,Sum.inl (z:Int),C,5],?_];by_cases B:z∈l.map (·.1)
 .let#[i,x,h1,h2,_]:=jr B;let hx:(z,x)∈l:=a9 h1;let E:R z x:=(ab.mem _ _).mp hx;rw[h2];erw[2,7,?_];change if (!decide (V.int (x:Int)=V.int (s:Int)))=oD then _ else _
  rw[gU];by_cases O:x=s
  .subst O;rw[Rz rfl];show az #[2,q r ps H' D sm j () #[λz=>by rw[z] at v;simp at v,nd,ch] u λz' y=>.inr (by rw[hz] at y;cases y;show E)]
  rw[RA ()];let ad:∀p∈ps,p∈l.map (·.1):=λp n=>by
   let#[i,hi]:=gj n;let ag:=(aN.mp hi).1;by_cases al:i+1<↑ps
   .exact (key p).mpr #[_,ch i p _ hi\aU al]
   rw[show i=↑ps-1 by lia,hz] at hi;cases hi;show B
  let hlen:=ia nd ad;rw[av] at hlen;show aP #[λZ' I=>∃c:List Nat,Z'=[oy\.ref d,oy\.int (s:Int),oy\.ref r]/\↑c=↑ps+1/\Same H I/\I r*>.lst (nV c)/\c.Nodup/\c[0]?*>s/\(∀i p q,c[i]?*>p->c[i+1]?*>q->R p q),
   λZ' I ⟨c,e,h1,h2,h3,h4,h5,h6⟩=>#[↑l+1-↑c,(),c,e,1,h2,h3,(),h4,h5,h6],?_]
  erw[2,.inl #[1,_,SqL.of j],3,2,r,4,SqL.of j,N,d,V.int (x:Int),1,.inl #[_,Sum.inl (z:Int),C,1,h2.symm],r,6,j,by rw[bH];lia,λH2 k2 y2=>?_];erw[ps++[x],1,by rw[bj,cw],λb' o e=>?_,by rw[y2,oj,fC],?_,?_,λi p L n g=>?_]
  .rw[k2 _\ao e D];show sm _ _ e
  .rw[cW];erw[nd,∅,λa ha b S=>?_];rw[aG] at S;rintro rfl;subst S;let#[i,hi]:=gj ha;cases i with
   |zero=>rw[u] at hi;cases hi;show O rfl
   |succ i=>
    let ag:=(aN.mp hi).1;let#[o,T]:∃o,ps[i]?*>o:=#[_,aU ()];have:=inj _ _ _ (ch i o a T hi) E;subst this;have:=jO nd T hz;lia
  .rw[dZ v];show u
  by_cases hi:i+1<↑ps
  .rw[dZ ()] at n;rw[dZ hi] at g;show ch i p L n g
  let am:=(aN.mp g).1;rw[bj,cw] at am;rw[dZ (),show i=↑ps-1 by lia,hz] at n;rw[hJ (),show i+1-↑ps=0 by lia] at g;cases n;cases g;show E
 rw[u7 B];erw[2,7,?_];change if (!decide (V.int (s:Int)=V.int (s:Int)))=oD then _ else _
 rw[gU,Rz rfl];show az #[2,q r ps H' D sm j () #[λz=>by rw[z] at v;simp at v,nd,ch] u λz' y=>.inl λL an=>B\(key z).mpr #[L,by rw[hz] at y;cases y;show an]]
def Er:aR [↑39] [↑39] (au pO):=.f
def D7{f Cs:pR}(U:Fun K ↑86 ↑86 pO f fd)(X:SCls K Cs):!aj CX0 1 f fd [↑39] (xI Cs):=by
 show U.ok Er (!3) λRD A outer s H vs Q E hr h=>?_
 let#[x,ts,us,1,sk,q]:=h;let#[kt,dx,O,R,p,S,vo,L,sk,_]:=sk;let g:=kt.sk.g;let ab:=kt.sk.o;let hl:=kt.ln;let hx:=sk.ob;let hD:=sk.th;let hu:=dA hr;let al:=line5000;erw[_,ak\aF (GV (N:=["a","b",↑39]) (fr:=[n7,n7,oy 0]) (g:=kh [] 2\fN (cZ 0) (fN (cZ 1) ki)) (tt:=tB\z5 (oz\ck (aK 1) (ck (aK 0) dH)) (tFld K (aK 2) "thirds")) cpK rfl (Ay\lR (pv 0) rfl)
    (λC' s' H' fp RC=>#[dn rfl\aV (gx 0 (⋯:(["a","b",↑39]:List Str).Nodup)) (aV (gx 1 (⋯:(["a","b",↑39]:List Str).Nodup)) dh),
     fU (gL\nv hu (aD\ae (pv 1) (pa1\pv 0)) (lR (pv 2) rfl)),pv 0,pv 1])),?_]
 erw[2,x,Cs,dx,9,hx,X.cl,X.thirds,1,p,2,hD,True.intro,λks vs o H2 hk fz=>?_];let T:=HL hk;let lk:=aE T;let m:Sm H H2:=fz.sm;let ad:=m.keep hx (λz=>z);let Y:=fz.at;let ag:SdsAt H2 ks ((ents ts).map (·.1)):=Paired.imp' (by rintro _ _ ⟨a,e,h⟩;erw[a,e,m.keep h λz=>z]) T;intro D r;show EJ (d:=p) (o:=o) (u:=.dT\(ents ts).map bD) (ks:=ks) (λi Z H'=>∃B C,Z=[B,C,oy\.ref x]/\Same H2 H'/\H' D*>.dK\(dW ts\(ents ts).take i).map nmV) #[n7,n7,1,bL r,aI] (by rintro i Z H' _ ⟨_,_,_,e,_⟩;show e _ _ Y) ?_ ?_
 .rintro i y Z H' hi ⟨B,C,rfl,sm,n⟩;let#[#[a,b],hs,c,1,hc]:=bV ag hi;rw[bu] at hs;let#[#[#[a',b'],w'],he,hh]:=cA.mp hs;cases hh;let I:(ents ts).take (i+1)=(ents ts).take i++[((a,b),w')]:=by rw[bE,he];rfl
  erw[c,2,SqT.of (sm>>hc),1,9,6,?_];erw[3,lit2,λt1 H3 g1 j y3=>?_];erw[2,x,Cs,dx,9,j>>sm>>ad,X.cl,X.thirds,1,p,2,.inr #[_,ky b a,t1,.inr #[o,j>>sm>>Y],1,y3,1],?_];let ll:=zu ts\(ents ts).take i;let lt:↑((ents ts).take i)<=600:=by rw[bz,el];lia
  by_cases l:(b,a)∈(ents ts).map (·.1)
  .let hv:(bp ((ents ts).map bD)\ky b a).isSome=oD:=by
    cases e:bp ((ents ts).map bD) (ky b a) with
    |none=>show (gF.mp e l).elim
    |some v=>rfl
   let M:dW ts ((ents ts).take (i+1))=dW ts ((ents ts).take i):=by rw[I];unfold dW;rw[aW,fT];change _++List.filter _ [(a,b)]=_;rw[List.filter_cons_of_neg ‹l›];simp
   erw[p6,by rw[hv];rfl,az #[9,sm<*j,by rw[M];show j _ _ n]]
  let M:dW ts ((ents ts).take (i+1))=dW ts ((ents ts).take i)++[(a,b)]:=by rw[I];unfold dW;rw[aW,fT];change _++List.filter _ [(a,b)]=_;rw[List.filter_cons_of_pos ‹l›];rfl
  let hn:a∉(dW ts\(ents ts).take i).map (·.1):=λz=>by
   let#[#[a2,b2],h1,h2]:=ax.mp z;let h2:a2=a:=h2;subst h2;let r1:=Gr (λe he=>OR he) h1;let r2:bq (En ts) a2 b:=lD.mpr #[ax.mpr #[_,a9 he,1],l];let eb:=(kQ g ab).1 _ _ _ r1 r2;subst eb;unfold dW at h1;let h3:=(ef.mp h1).1;let nd:=g.nd;rw[<-gr (i+1)\ents ts,I,aW,aW,cW,cW] at nd;show nd.1.2.2 _ h3 _ ∅ rfl
  erw[oD,by rw[gF.mpr l];rfl,aP #[3,_,Sum.inl (a:Int),j>>n,1,by rw[av];lia,9,λb' o' e=>?_,?_]]
  .rw[ar\ao e r];show j _ _ (sm>>e)
  rw[aI];change oy (HO.dK\cQ _ (Sum.inl (a:Int)) (V.int (b:Int)))=_;rw[oh hn,M]
 rintro Z H' ⟨B,C,rfl,sm,n⟩;show q D H' (m.free r) (m.trans\Sm.of sm) ?_;rw[n,iY (by rw[lk,av];show aq _)]
end
end K15
namespace L2
open PySem PySem.Spec PyProof.Rows
def KTup(K:W.Frag)(p:pR)(xs:List V):Prop:=∃(o:Obj)(a:Array pC)(n:Nat),K.lookup p*>o/\o.cls=.type ↑20/\o.data=.seq a n/\Vals xs a.toList
def NB(K:W.Frag)(x y:V)(H:Hp)(Q:VK)(p:pR)(xs:List V):Prop:=y=.ref p/\KTup K p xs/\fY x=oD/\xs.all fY=oD/\Q (.bl\inV x xs) H
def rInK(K:W.Frag):R2:=λx y H Q=>Exists\Ex2 (NB K x y H Q)
def qZ:OpR X (sD .In) (rInK X.K):=by intro RC s Z H x y v u Q I b c h;let#[p,xs,1,#[o,a,n,lk,d,hd,r],f,fs,q]:=h;cases c;let e:=I.kIn p o lk;show PP (eqU x) (items:=a) #[o,e,d,n,hd] (λw hw=>jR b f r fs w ‹hw›) #[.bl _,H,I,1,?_];rw[show a.any (eqU x)=a.toList.any (eqU x) by simp,lI r fs];show q
end L2
namespace K15
open PySem L2 K51 K31
abbrev sdT(m n:Nat):HO:=.tup [.int (m:Int),.int (n:Int)]
inductive Kd
 |turn|out|draw|inn|on|close
def Kd.sgn:Kd->Str
 |.turn=>"turn" | .out=>"out" | .draw=>"draw" | .inn=>"in" | .on=>"on" | .close=>"close"
def Kd.wis:Kd->Bool
 |.turn=>p6 | .out=>p6 | .draw=>p6 | .inn=>oD | .on=>oD | .close=>oD
def eB(H:Hp)(d:pR)(k:Kd)(m n x:Nat):Prop:=∃a,H a*>sdT m n/\H d*>.tup (.str k.sgn::.ref a::if k.wis then [.int (x:Int)] else [])
def eB.same(s:Same H H')(h:eB H d k m n x):eB H' d k m n x:=by let#[a,h1,h2]:=h;erw[a,s>>h1,s>>h2]
abbrev BZ:List V:=[.str "turn",.str "out",.str "draw"]
abbrev rX:List V:=[.str "in",.str "on",.str "close"]
abbrev rimK:List V:=[.str "on",.str "close"]
def EY(vs:List V)(H:Hp)(Q:VK)(a:pR)(m n:Nat):Prop:=vs=[.ref a]/\H a*>sdT m n/\Q (.bl oD) H
def zi:Sp:=λvs H Q _=>Exists\Ex3 (EY vs H Q)
def EZ(vs:List V)(H:Hp)(Q:VK)(d:pR)(k:Kd)(m n x:Nat):Prop:=vs=[.ref d]/\eB H d k m n x/\∀H',Same H H'->Q (.bl oD) H'
def zj:Sp:=λvs H Q _=>Exists\Ex5 (EZ vs H Q)
def E3(vs:List V)(H:Hp)(Q:VK)(d:pR)(k:Kd)(m n x:Nat):Prop:=vs=[.ref d]/\eB H d k m n x/\∀d' H',Same H H'->eB H' d' k m n x->Q (.ref d') H'
def zk:Sp:=λvs H Q _=>Exists\Ex5 (E3 vs H Q)
section
def um:aR [↑43,"a","b"] [↑43] (au qm):=.f
def Fh{f d:pR}{fd e:ro}(U:Fun K "is_pair" "is_pair" qm f fd)(T:cu mg)(F:oG K)(G:!Use 2 ↑60 [↑43] pJ d e) :
  !aj CX0 3 f fd [↑43] zi:=by
 show U.ok um (!3) λg A outer s H vs Q E b h=>?_
 let#[a,m,n,1,ha,q]:=h;erw[_,af (a8 (PW.pt (gQ (fK\dQ (bP (kW (c:=↑20)) (by rfl) T.isi gv\ae (pv 0) (pa1\jU (v:=.ty ↑20) rfl T.tuple jJ rfl)))
    (iK\aQ j8 (pln T.len\pv 0) ah (nomark _)))) (ak\aF il) aY)
  (af (fu (pv 0)\dn rfl (aV (gx 1 um.nd)\aV (gx 2 um.nd) dh))
  (ak\aF (jY (uc G b\pa1 (pv 1))\jX (uc G b\pa1 (pv 2))))),?_]
 erw[2,0,oD,1,.tup ha,F.t,2,iu ?_];erw[2,a,2,.inr\SqT.of ha,7,?_];show az #[2,a,2,SqT.of ha,1,9,6,?_];erw[2,m,7,aP #[2,n,1,q]]
def Gm:aR [↑43] [↑43] (au lB):=.f
def Fi{f r u b e:pR}{fd y z:ro}(U:Fun K "is_deed" "is_deed" lB f fd)(T:cu mg)(F:oG K)(l:W.kitOne K (.type "str") (.type "str")*>oD)(G:!Use 2 ↑60 [↑43] pJ r y)(B:!Use 3 "is_pair" [↑43] zi u z)
  (C:mg "AT_A_SIDE"*>.ref b) (D:KTup K b BZ) (I:mg "WITH_A_CORNER"*>.ref e) (L:KTup K e rX):!aj CX0 4 f fd [↑43] zj:=by
 show U.ok Gm (!5) λo A outer s H vs Q E p h=>?_
 let#[d,k,m,n,x,1,#[g,h1,h2],q]:=h;let M:Room 3 _:=p.mono ⋯;let N:Room 2 _:=p.mono ⋯;erw[_,af (a8 (PW.pt (gQ (fK\dQ (bP (kW (c:=↑20)) (by rfl) T.isi gv\ae (pv 0) (pa1\jU (v:=.ty ↑20) rfl T.tuple jJ rfl)))
    (iK\aQ i7 (pln T.len\pv 0) (aD\ae ah (pa1 ah)) rfl))) (ak\aF il) aY)
  (af (a8 (PW.pt (gQ (fK\dQ (bP (kW (c:="str")) (by rfl) T.isi gv\ae (ixx bf (pv 0) ah) (pa1\jU (v:=.ty "str") rfl T.str QC rfl)))
    (iK\fK (dQ\uc B M (pa1\ixx bf (pv 0) ah))))) (ak\aF il) aY)
  (af (a8 (aQ cq (pln T.len\pv 0) ah\nomark _) (ak\aF (e_ qZ (ixx bf (pv 0) ah) (dP (v:=.ref b) rfl C rfl) rfl)) aY)
  (ak\aF (jY (e_ qZ (ixx bf (pv 0) ah) (dP (v:=.ref e) rfl I rfl) rfl)\jX (uc G N\pa1 (ixx bf (pv 0) ah)))))),?_]
 let kw:∀k:Kd,inV (.str k.sgn) BZ=!k.wis/\inV (.str k.sgn) rX=k.wis:=λk=>by cases k<;>erw[⋯,⋯]
 cases hw:k.wis with
 |true=>
  rw[hw] at h2;let h2:H d*>.tup [.str k.sgn,.ref g,.int (x:Int)]:=h2;erw[2,0,oD,1,.tup h2,F.t,2,iu ?_];erw[2,d,2,.inr\SqT.of h2,lit2,λi H1 O s1 j=>?_];let a:=s1>>h2;erw[i,2,.inr\SqT.of j,5,2,az ?_];erw[2,d,4,SqT.of a,1,0,oD,1,.str _,l,2,iu ?_];erw[2,d,4,SqT.of a,1,g,m,n,1,s1>>h1,2,ke ?_];erw[2,d,2,.inr\SqT.of a,7,az ?_];erw[2,d,4,SqT.of a,1,e,2,L,5,2,?_];rw[(kw k).2,hw];show aP #[2,d,4,SqT.of a,1,x,1,q _ s1]
 |false=>
  rw[hw] at h2;let h2:H d*>.tup [.str k.sgn,.ref g]:=h2;erw[2,0,oD,1,.tup h2,F.t,2,iu ?_];erw[2,d,2,.inr\SqT.of h2,lit2,λi H1 O s1 j=>?_];let a:=s1>>h2;erw[i,2,.inr\SqT.of j,5,2,az ?_];erw[2,d,4,SqT.of a,1,0,oD,1,.str _,l,2,iu ?_];erw[2,d,4,SqT.of a,1,g,m,n,1,s1>>h1,2,ke ?_];erw[2,d,2,.inr\SqT.of a,7,aP ?_];erw[2,d,4,SqT.of a,1,b,2,D,5,?_];rw[(kw k).1,hw];show q _ s1
def uo:aR [↑43,"a","b"] [↑43] (au pG):=.f
def Fj{f l:pR}{fd o:ro}(U:Fun K ↑53 ↑53 pG f fd)(T:cu mg)(G:!Use 4 "is_deed" [↑43] zj l o):!aj CX0 5 f fd [↑43] zk:=by
 show U.ok uo (!5) λv A outer s H vs Q E p h=>?_
 let#[d,k,m,n,x,1,dd,q]:=h;erw[_,af (a8 (fK\dQ (uc G p\pa1 (pv 0))) tX aY)
  (af (fu (ixx bf (pv 0) ah)\dn rfl (aV (gx 1 uo.nd)\aV (gx 2 uo.nd) dh))
  (af (a8 (aQ cq (pln T.len\pv 0) ah\nomark _) (ak\aF (aD\ae (ixx bf (pv 0) ah) (pa1\aD (ae (du ib (by rfl) T.int iz\pa1 (pv 1))\pa1 (du ib (by rfl) T.int iz\pa1 (pv 2)))))) aY)
  (ak\aF (aD\ae (ixx bf (pv 0) ah) (ae (aD\ae (du ib (by rfl) T.int iz\pa1 (pv 1)) (pa1\du ib (by rfl) T.int iz (pa1\pv 2)))\pa1 (du ib (by rfl) T.int iz\pa1 (ixx bf (pv 0) ah))))))),?_]
 erw[2,d,k,m,n,x,1,dd,λH1 s1=>#[2,ke ?_]];let#[b,h1,h2]:=dd.same s1;cases hw:k.wis with
 |true=>
  rw[hw] at h2;let h2:H1 d*>.tup [.str k.sgn,.ref b,.int (x:Int)]:=h2;erw[2,d,4,SqT.of h2,1,b,2,SqT.of h1,1,9,6,?_];erw[2,d,2,.inr\SqT.of h2,7,az ?_];erw[2,d,4,SqT.of h2,7,.inl #[3,.inl #[2,lit2,λc H2 r s2 e=>?_]]];erw[2,d,4,SqT.of (s2>>h2),1,.inl #[2,lit3,λg i u a j=>?_]];show q g i (s1<*s2<*a) #[c,a>>e,by rw[hw];show j]
 |false=>
  rw[hw] at h2;let h2:H1 d*>.tup [.str k.sgn,.ref b]:=h2;erw[2,d,4,SqT.of h2,1,b,2,SqT.of h1,1,9,6,?_];erw[2,d,2,.inr\SqT.of h2,7,aP ?_];erw[2,d,4,SqT.of h2,7,.inl #[3,.inl #[2,lit2,λc H2 r s2 e=>?_]]];erw[lit2,λg i u a j=>q g i (s1<*s2<*a) #[c,a>>e,by rw[hw];show j]]
end
def cV.obj{us:List Tri}(h:cV C H x ts us):∃dx O R D S,H x*>.ins C dx (sflds O R D S):=by let#[_,dx,O,R,D,S,a,L,h,_]:=h;erw[dx,O,R,D,S,h.ob]
def fX{u:TT}{Q:Bool->Hp->Prop}(h:u Z H Q):vK u Z Q oD H:=aP (B:=Q p6 H) h
def ju{Q:Bool->Hp->Prop}(h:Q p6 H):vK u Z Q p6 H:=az (A:=u Z H Q) h
def Kd.rim:Kd->Bool
 |.on=>oD | .close=>oD|_=>p6
structure Okd(ts:List Tri)(k:Kd)(m n:Nat):Prop where
 a:∃c,En ts m n c
 b:k=.turn->∃c,En ts n m c
 c:k.rim=oD->∀c,¬En ts n m c
def F6(Cs a:pR)(vs:List V)(H:Hp)(Q:VK)(E:XK)(x d:pR)(ts us:List Tri)(k:Kd)(m n y:Nat):Prop:=vs=[.ref x,.ref d]/\cV Cs H x ts us/\eB H d k m n y/\(∀H',Same H H'->Okd ts k m n->Q .non H')/\∀H',Same H H'->¬Okd ts k m n->E (.ref a) n7 H'
def z_(Cs a:pR):Sp:=λvs H Q E=>Exists\Ex8 (F6 Cs a vs H Q E)
def F7(Cs:pR)(vs:List V)(H:Hp)(Q:VK)(x d:pR)(ts us:List Tri)(k:Kd)(m n y:Nat):Prop:=vs=[.ref x,.ref d]/\cV Cs H x ts us/\eB H d k m n y/\(k.wis=oD->¬Co ts y)/\Q .non H
def Aa(Cs:pR):Sp:=λvs H Q _=>Exists\Ex8 (F7 Cs vs H Q)
section
def qh:aR [↑39,"deed","a","b","at_rim"] [↑39,"deed"] (au mV):=.f
def Ho{f N Cs o i:pR}{fd T:ro}(U:Fun K ↑29 ↑29 mV f fd)(X:SCls K Cs)(M:!gW Cs 1 "third" [↑67,"a","b"] (nP Cs) N T)
  (mN:mg "NoSide"*>.ref o) (p:W.excIn K o bmV ↑11 = oD) (Y:mg "AT_A_RIM"*>.ref i) (Z:KTup K i rimK):!aj (CX1 P w) 2 f fd [↑39,"deed"] (z_ Cs o):=by
 show U.ok1 qh (λvs H Q E h=>?_) (λRD A outer s H vs Q E hr h=>?_)
 .let#[x,d,ts,us,k,m,n,y,1,_]:=h;rfl
 let#[x,d,ts,us,k,m,n,y,1,sk,dd,q,r]:=h;let B:Room 1 _:=hr.mono ⋯;erw[_,af (fu (ixx bf (pv 1) ah)\dn rfl (aV (gx 2 qh.nd)\aV (gx 3 qh.nd) dh))
  (af (a8 (gL\Bw (lE (pv 0) X.cl M.m M.g B M.b .nil pass0\ae (pv 2) (pa1\pv 3))) (ak\ur lets1 rfl rfl rfl mN p (pa1 a7)) aY)
  (af (sx 4 qh.nd\Bv (Bw\lE (pv 0) X.cl M.m M.g B M.b .nil pass0 (ae (pv 3)\pa1 (pv 2))))
  (af (a8 (PW.pt\ff (dQ\pv 4) (ft\aQ cq (ixx bf (pv 1) ah) a7 (nomark _))) (ak\ur lets1 rfl rfl rfl mN p (pa1 a7)) aY)
  (ak\a8 (PW.pt\ff (fK\dQ (pv 4)) (ft\aQ qZ (ixx bf (pv 1) ah) (dP (v:=.ref i) rfl Y rfl) rfl)) (ak\ur lets1 rfl rfl rfl mN p (pa1 a7)) aY)))),?_]
 let#[sd,h1,h2]:=id dd;let#[dx,O,R,D,S,hx]:=sk.obj;erw[2,d,4,SqT.of h2,aZ (j:=1) rfl,sd,2,SqT.of h1,1,9,6,?_];erw[2,x,dx,2,hx,7,2,x,ts,us,m,n,1,sk,λH1 s1=>#[λc C=>?_,λl=>#[2,aP #[lit1,r H1 s1 λz=>z.a.elim l]]]];erw[2,az ?_];erw[2,x,dx,2,s1>>hx,7,2,x,ts,us,n,m,1,sk.sm\Sm.of s1,λH2 s2=>#[λc2 I=>?_,λl=>?_]]
 .refine#[3,az #[3,?_]];show fX #[2,d,4,SqT.of (s2>>s1>>h2),aZ (j:=0) rfl,i,2,Z,5,2,?_];let e:inV (.str k.sgn) rimK=k.rim:=by cases k<;>decide +kernel
  rw[e];cases L:k.rim with
  |true=>show aP #[lit1,r H2 (s1<*s2) λz=>z.c L c2 I]
  |false=>show az\q H2 (s1<*s2) #[#[c,C],λ_=>#[c2,I],λz=>absurd (L.symm<*z) ⋯]
 erw[3,fX #[2,d,4,SqT.of (s2>>s1>>h2),aZ (j:=0) rfl,7,?_]];by_cases u:k=.turn
 .subst u;show aP #[lit1,r H2 (s1<*s2) λz=>(z.b rfl).elim l]
 let e:decide (V.str k.sgn=V.str "turn")=p6:=by cases k<;>first|show absurd rfl u|decide +kernel
 rw[e];show az #[3,ju\az (q H2 (s1<*s2) #[#[c,C],λz=>(u z).elim,λ_=>l])]
def IZ:aR [↑39,"deed"] [↑39,"deed"] (au pB):=.f
def Hr{f Cs a:pR}(U:Fun K ↑24 ↑24 pB f fd)(X:SCls K Cs)(b:mg "WITH_A_CORNER"*>.ref a)(c:KTup K a rX):!aj CX0 1 f fd [↑39,"deed"] (Aa Cs):=by
 show U.ok IZ (!8) λp A outer s H vs Q E g h=>?_
 let#[x,d,ts,us,k,m,n,y,1,#[kt,dx,O,R,D,S,r,L,sk,nk,i],dd,l,q]:=h;let o:=dA g;erw[_,ak\a8 (PW.pt\ff (aQ qZ (ixx bf (pv 1) ah) (dP (v:=.ref a) rfl b rfl) rfl) (ft\gL (lU o (ixx bf (pv 1) ah)\lR (pv 0) rfl))) tX aY,?_];let#[u,h1,h2]:=dd;erw[2,d,4,SqT.of h2,aZ (j:=0) rfl,a,2,c,5,2,?_];let e:inV (.str k.sgn) rX=k.wis:=by cases k<;>decide +kernel
 rw[e];cases hw:k.wis with
 |false=>show ju\az q
 |true=>
  rw[hw] at h2;show fX #[2,d,4,SqT.of h2,7,x,Cs,dx,9,sk.ob,X.cl,X.steps,1,S,2,.inl #[_,Sum.inl (y:Int),sk.st,1,(A6 λz=>l hw\(i y).mp z).symm],p6,1,az q]
end
def c9(u:Tri):PyData:=.tuple [.int (u.1:Int),.int (u.2.1:Int),.int (u.2.2:Int)]
def A8(h:H a*>tri3 u):Dt [] H (.ref a) (c9 u):=.tup (SqT.of h)\.cons (.int _) (.cons (.int _)\.cons (.int _) .nil)
def n8{us:List Tri}(h:ay H vs us):Dts [] H vs (us.map c9):=by
 induction h with
 |nil=>show .nil
 |cons q _ b=>
  let#[a,1,ha]:=q;show .cons (A8 ha) b
def ui(u v:Tri):PyData.eqv (c9 u) (c9 v)=decide (u=v):=by let#[a,b,c]:=u;let#[d,e,f]:=v;rw[eW];simp[c9,PyData.eqv,PyData.eqvAll];lia
def Iq(u:Tri)(us:List Tri):((us.map c9).any λz=>PyData.eqv z\c9 u)=decide (u∈us):=by
 rw[wt,eW,decide_eq_true_eq,mz];constructor
 .rintro⟨x,hx,e⟩;let e:PyData.eqv (c9 x) (c9 u)=oD:=e;rw[ui,decide_eq_true_eq] at e;show e ▸ hx
 show λh=>#[u,h,by change PyData.eqv (c9 u) (c9 u)=oD;rw[ui];simp]
def M_(C:pR)(vs:List V)(H:Hp)(Q:VK)(x G:pR)(a:List V)(ts us gone:List Tri):Prop:=vs=[.ref x,.ref G]/\cV C H x ts us/\H G*>.lst a/\ay H a gone/\(∀t∈gone,Ne3 t)/\↑gone<=10/\
 ∀r vr H',H r=n7->Same H H'->H' r*>.lst vr->ay H' vr (wo us gone)->Q (.ref r) H'
def su(C:pR):Sp:=λvs H Q _=>Exists\Ex6 (M_ C vs H Q)
section
def scWo:aR [↑39,"gone","leaving"] [↑39,"gone"] (au mU):=.f
def NK{f f1 f2 C:pR}{fd d1 d2:ro}(U:Fun K ↑19 ↑19 mU f fd)(X:SCls K C)(GB:!Use 1 ↑51 [↑54] uO f1 d1)(M:!gW C 1 ↑45 [↑67] (j6 C) f2 d2) :
  !aj CX0 2 f fd [↑39,"gone"] (su C):=by
 show U.ok scWo (!6) λRD A outer s H vs Q E hr h=>?_
 let#[x,G,vg,ts,us,gone,1,sk,hG,hg,an,hl,q]:=h;let ad:Room 1 _:=hr.mono ⋯;erw[_,af (sx 2 scWo.nd (dv (N:=[↑54]) (fr:=[n7]) (tV ⋯ rfl ⋯ ⋯) rfl (bQ\pv 1)
    (λC s H fp RC=>#[gx 0 (⋯:([↑54]:List Str).Nodup),eu,uc GB ad\pa1 (pv 0)])))
  (ak\aF (dv (N:=["triangle","leaving"]) (fr:=[n7,oy 2]) (tt:=fM\tOp (j_ [] oD) (aK 0) (aK 1)) cpK rfl (bQ\iF (pv 0) X.cl M.m M.g ad M.b .nil pass0)
    (λC s H fp RC=>#[gx 0 (⋯:(["triangle","leaving"]:List Str).Nodup),fU\aQ (tZ hr.units) (pv 0) (pv 1) rfl,pv 0]))),?_]
 let#[dx,O,R,D,S,hx]:=sk.obj;let hlen:=aE hg;let hz:=line5000;let a3:=sk.1.ln;let a4:↑us<=200:=by have:=sk.1.al.length_eq;rw[av] at this;lia
 erw[2,G,1,#[_,SqL.of hG],λZ_ hZ=>dG (K:=[]) (a:=G) (xs:=vg) (λi Z ys H'=>∃o,Z=[o]/\Same H H'/\H' Z_*>.lst ys/\ay H' ys\(gone.take i).map bg) #[n7,1,bL hZ,aI,.nil]
   (by rintro i Z ys H' _ ⟨_,_,e,_⟩;show SqL.of (e>>hG)) ?_ ?_]
 .rintro i v Z ys H' hi ⟨o,rfl,sm,n,tr⟩;let#[d,I,t,1,r]:=bV hg hi;let ly:↑ys<=10:=by rw[aE tr,av,bz];lia
  erw[2,t,d,1,sm>>r,λr' u H5 L T ap=>#[L>>n,(),λHn j Y=>#[oy\.ref t,1,λb o e=>(j b\ao e hZ)<*(L>>sm>>e),Y,?_]]];let aM:=L>>n;let y:∀{c:pR}{xs:List V},H5 c*>.tup xs->c≠Z_:=λe=>bW e aM ∅;rw[bE,I,aW];rw[Cf (an d\a9 I) ap] at T;show bR (Paired.imp' (by rintro _ _ ⟨c,B,p⟩;erw[c,B,by let e3:=L>>p;show (j _\y e3)<*e3]) tr)\.cons #[r',1,(j _\y T)<*T] .nil
 rintro Z ys H1 ⟨o,rfl,s1,aS,tr1⟩;rw[hlen,cn] at tr1;erw[2,x,dx,2,s1>>hx,1,x,ts,us,1,sk.sm\Sm.of s1,λl vo H2 a5 s2 y2 ag=>?_];let a0:=aE ag;erw[l,1,#[_,SqL.of y2],λZ2 ab=>dG (K:=[]) (a:=l) (xs:=vo) (λi Z zs H'=>∃o,Z=[o,oy\.ref Z_]/\Same H2 H'/\H' Z2*>.lst zs/\ay H' zs\wo (us.take i) gone) #[n7,1,bL ab,aI,.nil]
  (by rintro i Z ys H' _ ⟨_,_,e,_⟩;show SqL.of (e>>y2)) ?_ ?_]
 .rintro i v Z zs H' hi ⟨o,rfl,sm,n,tr⟩;let#[d,I,t,1,r]:=bV ag hi;let ew:wo (us.take (i+1)) gone=wo (us.take i) gone++wo [d] gone:=by rw[bE,I];unfold wo;rw[fT];rfl
  let lz:↑zs<=200:=by let h1:=dI (λt=>!decide (t∈gone.map bg))\us.take i;let h2:↑(wo (us.take i) gone)<=↑(us.take i):=h1;rw[bz] at h2;rw[aE tr];lia
  let a1:H' Z_*>.lst ys:=sm>>s2>>aS;erw[3,c9 d,Z_,ys,_,A8 (sm>>r),1,.inl\SqL.of a1,n8\Paired.imp' (by rintro _ _ ⟨c,B,p⟩;erw[c,B,sm>>s2>>p]) tr1,by simp[c9,PyData.depth,PyData.depthAll],2,?_];rw[Iq,Ry rfl];by_cases hm:d∈gone.map bg
  .rw[Rz hm];show az #[2,sm,n,?_];rw[ew,show wo [d] gone=[] from wA.mpr λz hz=>by rw[aG.mp hz,Rz hm];simp,eX];show tr
  rw[RA hm];show aP #[2,n,(),λHn j Y=>#[2,λb o e=>(j b\ao e ab)<*(sm>>e),Y,?_]];rw[ew,show wo [d] gone=[d] from wB.mpr λz hz=>by rw[aG.mp hz,RA hm];rfl];let y:∀{c:pR}{xs:List V},H' c*>.tup xs->c≠Z2:=λe=>bW e n ∅;show bR (Paired.imp' (by rintro _ _ ⟨c,B,p⟩;erw[c,B,(j _\y p)<*p]) tr)\.cons #[t,1,(j _\y (sm>>r))<*(sm>>r)] .nil
 rintro Z zs H3 ⟨o,rfl,s3,a2,am⟩;rw[a0,cn] at am;show q Z2 zs H3 (eI (s1<*s2) ab) (s1<*s2<*s3) a2 am
end
def Outs(H:Hp)(Q:VK)(rs:List Tri):Prop:=∀r vr H',H r=n7->Same H H'->H' r*>.lst vr->ay H' vr rs->Q (.ref r) H'
def ID(C:pR)(vs:List V)(H:Hp)(Q:VK)(x:pR)(ts us:List Tri)(a b c d:Nat):Prop:=vs=[.ref x,.int (a:Int),.int (b:Int)]/\cV C H x ts us/\En ts a b c/\En ts b a d/\Outs H Q\turned us a b c d
def Bc(C:pR):Sp:=λvs H Q _=>Exists\Ex7 (ID C vs H Q)
def K2(C:pR)(vs:List V)(H:Hp)(Q:VK)(x:pR)(ts us:List Tri)(a b c:Nat):Prop:=vs=[.ref x,.int (a:Int),.int (b:Int)]/\cV C H x ts us/\En ts a b c/\Outs H Q\wo us [(a,b,c)]
def BX(C:pR):Sp:=λvs H Q _=>Exists\Ex6 (K2 C vs H Q)
def Nb(C:pR)(vs:List V)(H:Hp)(Q:VK)(x:pR)(ts us:List Tri)(a b c y:Nat):Prop:=vs=[.ref x,.int (a:Int),.int (b:Int),.int (y:Int)]/\cV C H x ts us/\En ts a b c/\Outs H Q\inn us a b c y
def spIn(C:pR):Sp:=λvs H Q _=>Exists\Ex7 (Nb C vs H Q)
def Na(C:pR)(vs:List V)(H:Hp)(Q:VK)(x:pR)(ts us:List Tri)(a b y:Nat):Prop:=vs=[.ref x,.int (a:Int),.int (b:Int),.int (y:Int)]/\cV C H x ts us/\Outs H Q (us++[(b,a,y)])
def spOn(C:pR):Sp:=λvs H Q _=>Exists\Ex6 (Na C vs H Q)
section
def tr1(h:H t*>tri3 x):ay H [.ref t] [x]:=.cons #[t,1,h] .nil
def vp:aR [↑39,"a","b","c","d"] [↑39,"a","b"] (au kP):=.f
def JE{f T Y C:pR}{fd Z d2:ro}(U:Fun K ↑58 ↑58 kP f fd)(X:SCls K C)(GW:!Use 2 ↑19 [↑39,"gone"] (su C) T Z)(M:!gW C 1 "third" [↑67,"a","b"] (nP C) Y d2) :
  !aj CX0 3 f fd [↑39,"a","b"] (Bc C):=by
 show U.ok vp (!7) λu A outer s H vs Q E v h=>?_
 let#[x,ts,us,a,b,c,d,1,sk,e,i,q]:=h;let y:Room 1 _:=v.mono ⋯;let ab:Room 2 _:=v.mono ⋯;erw[_,af (sx 3 vp.nd\lE (pv 0) X.cl M.m M.g y M.b .nil pass0 (ae (pv 1)\pa1 (pv 2)))
  (af (sx 4 vp.nd\lE (pv 0) X.cl M.m M.g y M.b .nil pass0 (ae (pv 2)\pa1 (pv 1)))
  (ak\aF (aH eJ (uc GW ab\ae (pv 0) (pa1\bO (ae (aD\ae (pv 1) (ae (pv 2)\pa1 (pv 3)))\pa1 (aD\ae (pv 2) (ae (pv 1)\pa1 (pv 4))))))
   (bO\ae (aD\ae (pv 1) (ae (pv 4)\pa1 (pv 3))) (pa1\aD (ae (pv 4)\ae (pv 2) (pa1\pv 3))))))),?_]
 let#[dx,O,R,D,S,hx]:=sk.obj;let g:=sk.1.sk.g;let n1:=ne3 g e;let n2:=ne3 g i;let hz:=line5000;let am:↑us<=200:=by have:=sk.1.al.length_eq;have:=sk.1.ln;rw[av] at *;lia
 erw[2,x,dx,2,hx,7,2,x,ts,us,a,b,1,sk,λH1 s1=>#[λc' ad=>?_,λz=>(z c e).elim]];cases g.sk.one ad e;erw[2,x,dx,2,s1>>hx,7,2,x,ts,us,b,a,1,sk.sm\Sm.of s1,λH2 s2=>#[λd' ag=>?_,λz=>(z d i).elim]];cases g.sk.one ag i;erw[3,3,lit3,λt1 H3 g3 s3 y3=>?_];erw[3,2,lit3,λt2 H4 g4 B y4=>?_];erw[lit2,λG H5 g5 j y5=>?_];let I:=(s3<*B)<*j;erw[x,G,_,ts,us,[(a,b,c),(b,a,d)],1,sk.sm\Sm.of (s1<*s2<*I),y5,.cons #[t1,1,j>>B>>y3]\tr1 (j>>y4),?_,∅,λr vr H6 an s6 y6 L=>?_]
 .intro t l;rcases aT.mp l with rfl|l
  .exact n1
  rw[aG.mp l];show n2
 erw[3,2,lit3,λt3 H7 g7 s7 y7=>?_];erw[3,2,lit3,λt4 H8 g8 N y8=>?_];erw[lit2,λG2 H9 g9 n y9=>?_];let o:=(s7<*N)<*n;let ll:=aE L;let lw:↑(wo us [(a,b,c),(b,a,d)])<=↑us:=dI _ _;erw[r,G2,6,o>>y6,y9,by simp;lia,λp Ha ga sa ya=>?_];let all:=(s1<*s2<*I<*s6<*o);show q p _ Ha (eI all ga) (all<*sa) ya\bR ((L.same o).same sa) (.cons #[t3,1,sa>>n>>N>>y7]\tr1 (sa>>n>>y8))
def Ni:aR [↑39,"a","b"] [↑39,"a","b"] (au kT):=.f
def LH{f l n C:pR}{fd o p:ro}(U:Fun K ↑85 ↑85 kT f fd)(X:SCls K C)(u:!Use 2 ↑19 [↑39,"gone"] (su C) l o)(M:!gW C 1 "third" [↑67,"a","b"] (nP C) n p) :
  !aj CX0 3 f fd [↑39,"a","b"] (BX C):=by
 show U.ok Ni (!6) λe A outer s H vs Q E i h=>?_
 let#[x,ts,us,a,b,c,1,sk,d,q]:=h;let v:Room 1 _:=i.mono ⋯;let y:Room 2 _:=i.mono ⋯;erw[_,ak\aF (uc u y\ae (pv 0) (pa1\bO (pa1\aD (ae (pv 1)\ae (pv 2) (pa1\lE (pv 0) X.cl M.m M.g v M.b .nil pass0 (ae (pv 1)\pa1 (pv 2))))))),?_];let#[dx,O,R,D,S,hx]:=sk.obj;let g:=sk.1.sk.g;erw[3,3,x,dx,2,hx,7,2,x,ts,us,a,b,1,sk,λH1 s1=>#[λc' B=>?_,λz=>(z c d).elim]];cases g.sk.one B d;erw[lit3,λt1 H3 g3 I L=>#[lit1,λG H5 g5 j N=>?_]];let all:=(s1<*I)<*j;erw[x,G,_,ts,us,[(a,b,c)],1,sk.sm\Sm.of all,N,tr1 (j>>L),?_,∅,λr vr T Y Z y6 ab=>q r vr T (eI all Y) (all<*Z) y6 ab];intro t ht;rw[aG.mp ht];show ne3 g d
def scIn:aR [↑39,"a","b","x","c"] [↑39,"a","b","x"] (au lO):=.f
def NM{f B I C:pR}{fd L N:ro}(U:Fun K "put_in" "put_in" lO f fd)(X:SCls K C)(T:!Use 2 ↑19 [↑39,"gone"] (su C) B L)(M:!gW C 1 "third" [↑67,"a","b"] (nP C) I N) :
  !aj CX0 3 f fd [↑39,"a","b","x"] (spIn C):=by
 show U.ok scIn (!7) λj A outer s H vs Q E l h=>?_
 let#[x,ts,us,a,b,c,y,1,sk,d,q]:=h;let Y:Room 1 _:=l.mono ⋯;let Z:Room 2 _:=l.mono ⋯;erw[_,af (sx 4 scIn.nd\lE (pv 0) X.cl M.m M.g Y M.b .nil pass0 (ae (pv 1)\pa1 (pv 2)))
  (ak\aF (aH eJ (uc T Z\ae (pv 0) (pa1\bO (pa1\aD (ae (pv 1)\ae (pv 2) (pa1\pv 4)))))
   (bO\ae (aD\ae (pv 1) (ae (pv 2)\pa1 (pv 3))) (ae (aD\ae (pv 2) (ae (pv 4)\pa1 (pv 3)))\pa1 (aD\ae (pv 4) (ae (pv 1)\pa1 (pv 3))))))),?_]
 let#[dx,O,R,D,S,hx]:=sk.obj;let g:=sk.1.sk.g;let hz:=line5000;let ad:↑us<=200:=by have:=sk.1.al.length_eq;have:=sk.1.ln;rw[av] at *;lia
 erw[2,x,dx,2,hx,7,2,x,ts,us,a,b,1,sk,λH1 s1=>#[λc' ab=>?_,λz=>(z c d).elim]];cases g.sk.one ab d;erw[3,3,lit3,λt1 H3 g3 s3 y3=>#[lit1,λG H5 g5 n y5=>?_]];let o:=(s1<*s3)<*n;erw[x,G,_,ts,us,[(a,b,c)],1,sk.sm\Sm.of o,y5,tr1 (n>>y3),λt ht=>by rw[aG.mp ht];show ne3 g d,∅,λr vr H6 ag s6 y6 u=>?_];erw[3,2,lit3,λt3 H7 g7 s7 y7=>?_];erw[3,2,lit3,λt4 H8 g8 v y8=>?_];erw[3,2,lit3,λt5 H9 g9 e y9=>?_];erw[lit3,λG2 Ha ga sa ya=>?_];let i:=(s7<*v<*e)<*sa;let ll:=aE u;let lw:↑(wo us [(a,b,c)])<=↑us:=dI _ _;erw[r,G2,6,i>>y6,ya,by simp;lia,λp Hb gb sb yb=>?_];let all:=(o<*s6)<*i;show q p _ Hb (eI all gb) (all<*sb) yb\bR ((u.same i).same sb) (.cons #[t3,1,sb>>sa>>e>>v>>y7]\.cons #[t4,1,sb>>sa>>e>>y8] (tr1 (sb>>sa>>y9)))
def scOn:aR [↑39,"a","b","x"] [↑39,"a","b","x"] (au og):=.f
def NL{f e C:pR}{fd i:ro}(U:Fun K "put_on" "put_on" og f fd)(X:SCls K C)(M:!gW C 1 ↑45 [↑67] (j6 C) e i):!aj CX0 2 f fd [↑39,"a","b","x"] (spOn C):=by
 show U.ok scOn (!6) λj A outer s H vs Q E l h=>?_
 let#[x,ts,us,a,b,y,1,sk,q]:=h;let n:Room 1 _:=l.mono ⋯;erw[_,ak\aF (aH eJ (iF (pv 0) X.cl M.m M.g n M.b .nil pass0)\bO (pa1\aD (ae (pv 2)\ae (pv 1) (pa1\pv 3)))),?_];let#[dx,O,R,D,S,hx]:=sk.obj;let hz:=line5000;let T:↑us<=200:=by have:=sk.1.al.length_eq;have:=sk.1.ln;rw[av] at *;lia
 erw[2,x,dx,2,hx,1,x,ts,us,1,sk,λr vr Y Z o u d=>?_];erw[3,2,lit3,λt3 H7 g7 c v=>#[lit1,λz Ha ga sa B=>?_]];let ll:=aE d;erw[r,z,6,sa>>c>>u,B,by simp;lia,λp I L sb N=>?_];let all:=(o<*c)<*sa;show q p _ I (eI all L) (all<*sb) N\bR (((d.same c).same sa).same sb) (tr1 (sb>>sa>>v))
end
def clo(y:Nat)(rim:List Nat):List Tri:=(prs rim).map λs=>(s.2,s.1,y)
def Gf(C:pR)(vs:List V)(H:Hp)(Q:VK)(x:pR)(ts us:List Tri)(a y:Nat):Prop:=vs=[.ref x,.int (a:Int),.int (y:Int)]/\cV C H x ts us/\(∃b,bq (En ts) a b)/\
 ∀rim,Cy (bq\En ts) rim->rim[0]?*>a->∀r vr H',H r=n7->Sm H H'->H' r*>.lst vr->ay H' vr (us++clo y rim)->Q (.ref r) H'
def Ai(C:pR):Sp:=λvs H Q _=>Exists\Ex5 (Gf C vs H Q)
section
def Ar:aR [↑39,"a","x","rim"] [↑39,"a","x"] (au nW):=.f
def Hz{f f1 f2 f3 f4 C:pR}{fd d1 d2 d3 d4:ro}(U:Fun K "closed" "closed" nW f fd)(X:SCls K C)(GR:!Use 1 ↑86 [↑39] (xI C) f1 d1)(GW:!Use 1 "walked" ["onward","begin"] yi f2 d2)(GP:!Use 1 ↑59 ["ring"] z8 f3 d3)(M:!gW C 1 ↑45 [↑67] (j6 C) f4 d4) :
  !aj CX0 2 f fd [↑39,"a","x"] (Ai C):=by
 show U.ok Ar (!5) λRD A outer s H vs Q E hr h=>?_
 let#[x,ts,us,a,y,1,sk,#[b,ag],q]:=h;let j:Room 1 _:=hr.mono ⋯;erw[_,af (sx 3 Ar.nd\uc GW j (ae (uc GR j\pa1 (pv 0))\pa1 (pv 1)))
  (ak\aF (aH eJ (iF (pv 0) X.cl M.m M.g j M.b .nil pass0) (dv (N:=["p","q","x"]) (fr:=[n7,n7,oy 2]) (g:=kh [] 2\fN (cZ 0) (fN (cZ 1) ki)) (te:=oz\ck (aK 1) (ck (aK 0)\ck (aK 2) dH)) cpK rfl (bQ\uc GP j (pa1\pv 3))
    (λC s H fp RC=>#[dn rfl\aV (gx 0 (⋯:(["p","q","x"]:List Str).Nodup)) (aV (gx 1 (⋯:(["p","q","x"]:List Str).Nodup)) dh),eu,aD\ae (pv 1) (ae (pv 0)\pa1 (pv 2))])))),?_]
 let#[dx,O,R,D,S,hx]:=sk.obj;let g:=sk.1.sk.g;let o:=sk.1.sk.o;let a5:=sk.1.ln;let hz:=line5000;let a6:↑us<=200:=by have:=sk.1.al.length_eq;rw[av] at this;lia
 let st:=Jg g o;let#[one,inj,aS]:=kQ g o;erw[2,x,ts,us,1,sk,λD1 H1 h1 a0 y1=>?_];let bb:↑(dW ts\ents ts)<=600:=by have:=zu ts\ents ts;rw[el] at this;lia
 erw[2,D1,_,bq\En ts,a,1,.inl y1,(),inj,st,(st.key a).mpr #[b,ag],λr ps H2 bc s2 y2 bd n hd en=>?_];let I:Cy (bq\En ts) ps:=vQ n λz s' u am=>by
  rw[hd] at am;cases am;show (en z u).resolve_left λhn=>?_;have:∃c,bq (En ts) z c:=by
   by_cases c1:↑ps=1
   .rw[c1,hd] at u;cases u;erw[b,ag]
   let hl:0<↑ps:=hU.mpr n.ne;let h3:ps[↑ps-2]?*>ps[↑ps-2]'():=aU _;show aS _ _\n.ch (↑ps-2) _ z h3 (by rw[show ↑ps-2+1=↑ps-1 by lia];show u)
  let#[c,L]:=this;show hn c L
 let be:↑ps<=600:=by have:=ia (m:=(dW ts\ents ts).map (·.1)) I.nd λp hp=>(st.key p).mpr (by let#[q',a1]:=qr hp;erw[q',I.st>>a1]);rw[av] at this;lia
 let T:=a0.trans\Sm.of s2;erw[2,x,dx,2,T.keep hx λz=>z,1,x,ts,us,1,sk.sm T,λl vo H3 bi s3 y3 an=>?_];erw[2,r,ps,1,s3>>y2,n.ne,(),λr2 a2 H4 bl s4 y4 ap=>?_];let l4:=aE ap;rw[iG] at l4;erw[r2,1,#[_,SqL.of y4],λZ_ hZ=>dG (K:=[]) (a:=r2) (xs:=a2) (λi Z ys H'=>∃Y o2,Z=[Y,o2,oy\.int (y:Int)]/\Same H4 H'/\H' Z_*>.lst ys/\ay H' ys (((prs ps).take i).map λs=>(s.2,s.1,y))) #[n7,n7,1,bL hZ,aI,.nil]
   (by rintro i Z ys H' _ ⟨_,_,_,e,_⟩;show SqL.of (e>>y4)) ?_ ?_]
 .rintro i v Z ys H' hi ⟨Y,o2,rfl,sm,aM,tr⟩;let#[#[p,q'],hs,c,1,L]:=bV ap hi;let ly:↑ys<=600:=by rw[aE tr,av,bz,iG];lia
  erw[c,2,SqT.of (sm>>L),1,9,6,?_];erw[3,2,lit3,λt H5 g5 d y5=>#[d>>aM,(),λHn kn yn=>#[9,λb o e=>(kn b\ao e hZ)<*(d>>sm>>e),yn,?_]]];let a3:=d>>aM;let tn:∀{B:pR}{xs:List V},H5 B*>.tup xs->B≠Z_:=λe=>bW e a3 ∅;rw[bE,hs,aW];show bR (Paired.imp' (by rintro _ _ ⟨B,e1,e2⟩;erw[B,e1,by let e3:=d>>e2;show (kn _\tn e3)<*e3]) tr)\.cons #[t,1,(kn _\tn y5)<*y5] .nil
 rintro Z ys H5 ⟨Y,o2,rfl,d,a4,ab⟩;rw[l4,<-iG,cn] at ab;let ly:↑ys=↑ps:=by rw[aE ab,av,iG]
 let lo:=aE an;let ad:=s4<*d;erw[l,Z_,6,ad>>y3,a4,(),λp H6 g6 s6 y6=>?_];let all:Sm H H5:=T.trans\Sm.of (s3<*ad);show q ps I hd p _ H6 (all.free g6) (all.trans\Sm.of s6) y6\bR ((an.same ad).same s6) (ab.same s6)
end
def goOr{Q:Bool->Hp->Prop}(h:Q oD H):r_ u Z Q oD H:=aP (B:=u Z H Q) h
def skOr{u:TT}{Q:Bool->Hp->Prop}(h:u Z H Q):r_ u Z Q p6 H:=az (A:=Q oD H) h
def IT(C:pR)(vs:List V)(H:Hp)(Q:VK)(x:pR)(ts us:List Tri)(a b:Nat):Prop:=vs=[.ref x,.int (a:Int),.int (b:Int)]/\cV C H x ts us/\Outs H Q\dwn us a b
def Bo(C:pR):Sp:=λvs H Q _=>Exists\Ex5 (IT C vs H Q)
section
def Bp:aR [↑39,"a","b","left"] [↑39,"a","b"] (au nR):=.f
def JS{f f4 C:pR}{fd d4:ro}(U:Fun K "drawn" "drawn" nR f fd)(X:SCls K C)(T:cu mg)(M:!gW C 1 ↑45 [↑67] (j6 C) f4 d4) :
  !aj CX0 2 f fd [↑39,"a","b"] (Bo C):=by
 show U.ok Bp (!5) λRD A outer s H vs Q E hr h=>?_
 let#[x,ts,us,a,b,1,sk,q]:=h;let a5:Room 1 _:=hr.mono ⋯;erw[_,af (nY (i:=3) (N:=["triangle","a","b"]) (fr:=[n7,oy 1,oy 2]) (tt:=tOr (fM\tOp (rIn [] oD) (aK 1) (aK 0))\fM (tOp (rIn [] oD) (aK 2)\aK 0)) cpK rfl (bQ\iF (pv 0) X.cl M.m M.g a5 M.b .nil pass0)
    (λC s H fp RC=>#[gx 0 (⋯:(["triangle","a","b"]:List Str).Nodup),fU\PW.pt (gQ (aQ i7 (pv 1) (pv 0) rfl)\iK (aQ i7 (pv 2) (pv 0) rfl)),pv 0]) Bp.nd rfl (.inl rfl))
  (ak\aF (dv (N:=["triangle","a","b"]) (fr:=[n7,oy 1,oy 2]) (te:=tCB (λxs H Q=>∃p ys,xs=[.ref p]/\((SqL [] H p ys/\∀l,H l=n7->Q (.ref l)\upd H l (.tup ys))\/(SqT [] H p ys/\Q (.ref p) H)))\ck (lZ (oE []\aK 0) (cZ 0) (λ_ H Q=>Q oD H) (tIf (fM\tOp rEq (aK 0) (aK 2)) (aK 1)\aK 0) [n7,oy 1,oy 2]) dH) cpK rfl (bQ\pv 3)
    (λC' s' H' fp RC=>#[gx 0 (⋯:(["triangle","a","b"]:List Str).Nodup),eu,du kO (by rfl) T.tuple jJ\pa1 (dv (N:=["corner","a","b"]) (fr:=[n7,oy 1,oy 2]) (te:=tIf (fM\tOp rEq (aK 0) (aK 2)) (aK 1)\aK 0) cpK rfl (lQ\pv 0)
    (λC2 s2 H2 be bi=>#[gx 0 (⋯:(["corner","a","b"]:List Str).Nodup),eu,zE (aQ cq (pv 0) (pv 2)\nomark _) (pv 1)\pv 0]))]))),?_]
 let#[dx,O,R,D,S,hx]:=sk.obj;let bl:=sk.1.ln;let hz:=line5000;let bm:↑us<=200:=by have:=sk.1.al.length_eq;rw[av] at this;lia
 erw[2,x,dx,2,hx,1,x,ts,us,1,sk,λl vo H1 bn s1 y1 tr1=>?_];let a6:=aE tr1;erw[l,1,#[_,SqL.of y1],λZ_ hZ=>dG (K:=[]) (a:=l) (xs:=vo) (λi Z ys H'=>∃o,Z=[o,oy\.int (a:Int),oy\.int (b:Int)]/\Same H1 H'/\H' Z_*>.lst ys/\ay H' ys\(us.take i).filter (both a b)) #[n7,1,bL hZ,aI,.nil]
   (by rintro i Z ys H' _ ⟨_,_,e,_⟩;show SqL.of (e>>y1)) ?_ ?_]
 .rintro i v Z ys H' hi ⟨o,rfl,sm,ap,tr⟩;let#[d,hs,t,1,I]:=bV tr1 hi;let B:=sm>>I;let ew:(us.take (i+1)).filter (both a b)=(us.take i).filter (both a b)++[d].filter (both a b):=by rw[bE,hs,fT];rfl
  let ly:↑ys<=200:=by let h2:=dI (both a b)\us.take i;rw[bz] at h2;rw[aE tr];lia
  let yes:both a b d=oD->H' Z_*>.lst ys/\↑ys<qs/\∀j,(∀c,c≠Z_->j c=H' c)->j Z_*>.lst (ys++[V.ref t])->∃o,([oy\V.ref t,oy\.int (a:Int),oy\.int (b:Int)]:St)=[o,oy\.int (a:Int),oy\.int (b:Int)]/\Same H1 j/\j Z_*>.lst (ys++[V.ref t])/\ay j (ys++[V.ref t]) ((us.take (i+1)).filter\both a b):=λhy=>by
   erw[ap,(),λj L yn=>#[2,λb o e=>(L b\ao e hZ)<*(sm>>e),yn,?_]];let tn:∀{n:pR}{xs:List V},H' n*>.tup xs->n≠Z_:=λe=>bW e ap ∅;rw[ew,fi,Ry hy];show bR (Paired.imp' (by rintro _ _ ⟨n,e1,e2⟩;erw[n,e1,(L _\tn e2)<*e2]) tr)\.cons #[t,1,(L _\tn B)<*B] .nil
  let iv:∀c:Nat,inV (V.int (c:Int)) [V.int (d.1:Int),V.int (d.2.1:Int),V.int (d.2.2:Int)]=decide (c∈[d.1,d.2.1,d.2.2]):=λc=>gP c [d.1,d.2.1,d.2.2];erw[3,t,2,.inr\SqT.of B,5,2,?_];rw[Ry rfl,iv];by_cases ha:a∈[d.1,d.2.1,d.2.2]
  .rw[Rz ha];show skOr #[3,t,2,.inr\SqT.of B,5,2,?_];rw[Ry rfl,iv];by_cases ag:b∈[d.1,d.2.1,d.2.2]
   .rw[Rz ag];let e:both a b d=p6:=by unfold both;rw[Rz ha,Rz ag];rfl
    show az #[2,sm,ap,?_];rw[ew,fi,Rx (by rw[e];simp),mB,eX];show tr
   rw[RA ag];show aP #[2,yes (by unfold both;rw[RA ag];simp)]
  rw[RA ha];show goOr\aP #[2,yes (by unfold both;rw[RA ha];rfl)]
 rintro Z ys H2 ⟨o,rfl,s2,a2,aM⟩;rw[a6,cn] at aM;let bb:=aE aM;let lf:=dI (both a b) us;erw[2,Z_,1,#[_,SqL.of a2],λY hY=>dG (K:=[]) (a:=Z_) (xs:=ys) (λi Z zs H'=>∃o,Z=[o,oy\.int (a:Int),oy\.int (b:Int)]/\ay H' zs (((us.filter\both a b).take i).map\rep a b)/\Same H2 H'/\H' Y*>.lst zs) #[n7,1,.nil,bL hY,aI] (by rintro i Z zs H' _ ⟨_,_,_,e,_⟩;show SqL.of (e>>a2)) ?_ ?_]
 .rintro i v Z zs H' hi ⟨o,rfl,ab,am,aS⟩;let#[#[p,u,r],hs,t,1,I]:=bV aM hi;let I:H2 t*>.tup (nV [p,u,r]):=I;let B:=am>>I;let bt:↑zs<=200:=by rw[aE ab,av,bz];lia
  erw[2,t,1,#[_,SqT.of B],λW hW=>nG (K:=[]) (a:=t) (xs:=nV [p,u,r]) (λk Z ad y=>∃o,Z=[o,oy\.int (a:Int),oy\.int (b:Int)]/\ad=nV (([p,u,r].take k).map\onto a b)/\Same H' y/\y W*>.lst ad) #[n7,5,bL hW,aI] (by rintro k Z ad y _ ⟨_,_,_,e,_⟩;show SqT.of (e>>B)) ?_ ?_]
  .rintro k x' Z ad y hk ⟨o,rfl,rfl,sY,a0⟩;rw[nV,bu] at hk;let#[z,a3,1]:=cA.mp hk;let bw:k<3:=(aN.mp a3).1;let fin:y W*>.lst (nV\([p,u,r].take k).map (onto a b))/\(nV\([p,u,r].take k).map (onto a b)).length<qs/\∀j,(∀c,c≠W->j c=y c)->j W*>.lst (nV (([p,u,r].take k).map\onto a b)++[V.int (onto a b z:Int)])->∃o,([oy\V.int (z:Int),oy\.int (a:Int),oy\.int (b:Int)]:St)=[o,oy\.int (a:Int),oy\.int (b:Int)]/\nV (([p,u,r].take k).map\onto a b)++[V.int (onto a b z:Int)]=nV (([p,u,r].take (k+1)).map\onto a b)/\Same H' j/\j W*>.lst (nV (([p,u,r].take k).map\onto a b)++[V.int (onto a b z:Int)]):=by
    erw[a0,?_,λj L yn=>#[2,?_,λn o e=>(L n\ao e hW)<*(sY>>e),yn]]
    .rw[bH,av,bz];have:↑([p,u,r]:List Nat)=3:=rfl;lia
    rw[bE,a3,aW,<-fC];rfl
   erw[3,7,?_];by_cases an:z=b
   .rw[show decide (V.int (z:Int)=V.int (b:Int))=oD from by rw[an];simp];let e:onto a b z=a:=Ry an;rw[e] at fin;show aP #[2,fin]
   rw[show decide (V.int (z:Int)=V.int (b:Int))=p6 from RA λe=>an (by have:=V.int.inj e;lia)];let e:onto a b z=z:=Rx an;rw[e] at fin;show az #[2,fin]
  rintro Z ad y ⟨o,rfl,rfl,sY,a0⟩;erw[W,2,.inl #[SqL.of a0,λt' bc=>?_]];walk_at"y t' bc H9 s9 y9";let a4:=s9>>sY>>aS;let tn:∀{n:pR}{xs:List V},H9 n*>.tup xs->n≠Y:=λe=>bW e a4 ∅;erw[a4,(),λbx a1 bd=>#[2,?_,λn o e=>(a1 _\ao e hY)<*(s9>>sY>>am>>e),bd]];rw[bE,hs,aW];show bR (Paired.imp' (by rintro _ _ ⟨n,e1,e2⟩;erw[n,e1,by let e3:=s9>>sY>>e2;show (a1 _\tn e3)<*e3]) ab)\.cons #[t',1,(a1 _\tn y9)<*y9] .nil
 rintro Z zs H' ⟨o,rfl,ab,am,aS⟩;rw[bb,cn] at ab;show q Y zs H' (eI (s1<*s2) hY) (s1<*s2<*am) aS ab
end
end K15
namespace L2
open PySem PySem.Spec PyProof.Rows
section
variable {body suite:List Stmt}{b0:Stmt}{x1 x2:Str}{p1 p2 tpos hpos pos:Pos}{kk:Nat}{c1 c2:Addr}{tb:XK->TS}{ts:TS}{p:Value->Prop}
end
def Fun.ok2{x qual:Str}{st:rz}{f:pR}{N ps:List Str}{k:Nat}{sp:Sp}(F:Fun K x qual st f fd)(S:aR N ps\au st)(len:∀vs H Q E,sp vs H Q E->↑vs=↑ps)
  (b:∀(a:pC)(A:z3)(outer:List Env)(s:pS)(H:Hp)(vs:List V)(Q:VK)(E:XK),Room k (A.deeper\envOfC qual (au st) ↥s f a)->sp vs H Q E->
   ∃t,PSs (eV (CX2 P w) P w K mg base N qual (au st) f a A outer s H E) (dS st) t/\t {nx:=λ_ H'=>Q .non H',rt:=Q} (start N vs) H):!aj (CX2 P w) (k+1) f fd ps sp:=by
 let#[g,od,kV,doc,pm,an,a,ct,h,1,lk,c]:=F.ex;show vO lk c S len λA outer s H vs Q E d e=>b a A outer s H vs Q E d e
def B6{p:pC->Prop}:Passes (CXg p X.prog X.w) X E0:=by rintro _ _ _ _ _ _ _ ⟨_,_,_,_,_,_,_,_,_,_,_,_,q⟩;show q.elim
end L2
namespace K15
open PySem L2 K51 K31
def Ak{Cs:pR}(h1:H x=n7)(h2:H dx=n7)(s:SmB x (upd (upd H dx\.own x) x\.ins Cs dx []) H'):Sm H H':=λb o e=>by
 let a:=ao e h1;let c:=ao e h2;show s b o a (by rw[ar a,ar c];show e)
def yq{Cs:pR}(h1:H x=n7)(h2:H dx=n7):Same H (upd (upd H dx\.own x) x\.ins Cs dx []):=λb o e=>by
 rw[ar\ao e h1,ar\ao e h2];show e
def Beh(ts us:List Tri)(m n y:Nat)(rs:List Tri):Kd->Prop
 |.turn=>∃c d,En ts m n c/\En ts n m d/\rs=turned us m n c d
 |.out=>∃c,En ts m n c/\rs=wo us [(m,n,c)]
 |.draw=>rs=dwn us m n
 |.inn=>∃c,En ts m n c/\rs=inn us m n c y
 |.on=>rs=us++[(n,m,y)]
 |.close=>∃rim,Cy (bq\En ts) rim/\rim[0]?*>m/\rs=us++clo y rim
abbrev KdK(k:Str):Prop:=k = ↑54\/k = "side"\/k = "round"
def EW(K:W.Frag)(vs:List V)(H:Hp)(Q:VK)(x C:pR)(k:Str):Prop:=vs=[.ref x,.str k]/\H x*>c_ x C n7/\jZ K C=oD/\fE K C "kind"/\KdK k/\∀dx,H dx=n7->dx≠x->Q .non\upd (upd H x\c_ x C (oy dx)) dx (.xd [("kind",.str k)])
def zh(K:W.Frag):Sp:=λvs H Q _=>Exists\Ex3 (EW K vs H Q)
def K5(Cs:pR)(vs:List V)(H:Hp)(Q:VK)(x d:pR)(ts us:List Tri)(k:Kd)(m n y:Nat):Prop:=vs=[.ref x,.ref d]/\cV Cs H x ts us/\eB H d k m n y/\(∃c,En ts m n c)/\(k=.turn->∃c,En ts n m c)/\(k.rim=oD->∀c,¬En ts n m c)/\
 ∀rs r vr H',H r=n7->Sm H H'->H' r*>.lst vr->ay H' vr rs->Beh ts us m n y rs k->Q (.ref r) H'
def BY(Cs:pR):Sp:=λvs H Q _=>Exists\Ex8 (K5 Cs vs H Q)
def dX.kk(h:dX ts k):KdK k:=by
 rcases h with ⟨h,_⟩|⟨_,⟨h,_⟩|⟨_,h,_⟩⟩
 .exact .inl h
 .exact .inr\.inl h
 show .inr\.inr h
def Nc(Cs a SP:pR)(vs:List V)(H:Hp)(Q:VK)(E:XK)(x d:pR)(ts us:List Tri)(k:Kd)(m n y:Nat):Prop:=vs=[.ref x,.ref d]/\cV Cs H x ts us/\eB H d k m n y/\(k.wis=oD->¬Co ts y)/\(∀rs,Okd ts k m n->Beh ts us m n y rs k->Few rs)/\
 (∀rs b z H',Okd ts k m n->Beh ts us m n y rs k->Sm H H'->cV Cs H' z rs b->Q (.ref z) H')/\(∀H',Sm H H'->¬Okd ts k m n->E (.ref a) n7 H')/\∀d' rs H' kk,Sm H H'->Okd ts k m n->Beh ts us m n y rs k->dX rs kk->H' d'*>.xd [("kind",.str kk)]->E (.ref SP) (oy d') H'
def v9(Cs a SP:pR):Sp:=λvs H Q E=>Exists\Ex8 (Nc Cs a SP vs H Q E)
section
def Gj:aR [↑67,"kind"] [↑67,"kind"] (au m_):=.f
def Ff{f S ex:pR}(U:Fun K ↑14 ↑95 m_ f fd)(c:mg ↑22*>.ref S)(b:BInit K S):!vS 1 f fd [↑67,"kind"] ex (zh K):=by
 show U.okH Gj (λvs H Q E h=>?_) (λl A outer s H vs Q E a h=>?_)
 .let#[x,C,k,1,_]:=h;rfl
 let#[x,C,k,1,hx,d,hf,e,q]:=h;erw[_,af (dJ\zG rfl c b (ae (pv 0)\pa1 (AB\qu a7 (qu (AC a.units a.gu\pv 1) Bs))))\ak (Ax (pv 0) (pv 1) rfl),?_];let hz:10020<=sizeLine:=by rw[cY];lia
 let m:↑(Str.empty++("the deed leaves no skin: " : Str))<=40:=⋯;let#[g,i,j,n]:(PyData.str k).canLay0=oD/\(PyData.str k).showable=oD/\(PyData.str k).depth<=60/\(PyData.str k).shown.length<=40:=by rcases e with rfl|rfl|rfl<;>decide +kernel
 let l1:↑((Str.empty++("the deed leaves no skin: " : Str))++(PyData.str k).shown)<=sizeLine:=by rw[kJ];lia
 erw[3,(),2,.str k,.str k g,i,j,(),2,l1,l1,x,C,2,hx,d,by change 1<=qs;lia,?_];erw[3,x,C,1,hx,hf,λdx h1 h2=>q dx h1 h2]
def vM:aR [↑39,"deed","a","b"] [↑39,"deed"] (au mY):=.f
def LK{f v z B C D I Cs:pR}{fd L M N O R S:ro}(U:Fun K ↑41 ↑41 mY f fd)(T:!Use 3 ↑58 [↑39,"a","b"] (Bc Cs) v L)(X:!Use 3 ↑85 [↑39,"a","b"] (BX Cs) z M)(Y:!Use 2 "drawn" [↑39,"a","b"] (Bo Cs) B N)
  (Z:!Use 3 "put_in" [↑39,"a","b","x"] (spIn Cs) C O) (G5:!Use 2 "put_on" [↑39,"a","b","x"] (spOn Cs) D R) (G6:!Use 2 "closed" [↑39,"a","x"] (Ai Cs) I S) :
  !aj CX0 4 f fd [↑39,"deed"] (BY Cs):=by
 show U.ok vM (!8) λRD A outer s H vs Q E p h=>?_
 let#[x,d,ts,us,k,m,n,y,1,sk,#[sd,h1,h2],#[c,o],ht,hk,q]:=h;let u:Room 2 _:=p.mono ⋯;erw[_,af (fu (ixx bf (pv 1) ah)\dn rfl (aV (gx 2 vM.nd)\aV (gx 3 vM.nd) dh))
  (af (a8 (aQ cq (ixx bf (pv 1) ah) a7\nomark _) (ak\aF (uc T p\ae (pv 0) (ae (pv 2)\pa1 (pv 3)))) aY)
  (af (a8 (aQ cq (ixx bf (pv 1) ah) a7\nomark _) (ak\aF (uc X p\ae (pv 0) (ae (pv 2)\pa1 (pv 3)))) aY)
  (af (a8 (aQ cq (ixx bf (pv 1) ah) a7\nomark _) (ak\aF (uc Y u\ae (pv 0) (ae (pv 2)\pa1 (pv 3)))) aY)
  (af (a8 (aQ cq (ixx bf (pv 1) ah) a7\nomark _) (ak\aF (uc Z p\ae (pv 0) (ae (pv 2)\ae (pv 3) (pa1\ixx bf (pv 1) ah)))) aY)
  (af (a8 (aQ cq (ixx bf (pv 1) ah) a7\nomark _) (ak\aF (uc G5 u\ae (pv 0) (ae (pv 2)\ae (pv 3) (pa1\ixx bf (pv 1) ah)))) aY)
  (ak\aF (uc G6 u\ae (pv 0) (ae (pv 2)\pa1 (ixx bf (pv 1) ah))))))))),?_]
 erw[2,d,4,SqT.of h2,aZ (j:=1) rfl,sd,2,SqT.of h1,1,9,6,?_];let i:=SqT.of (K:=[]) h2;cases k with
 |turn=>
  let#[e,he]:=ht rfl;erw[2,d,4,i,5,2,aP #[3,2,x,ts,us,m,n,c,e,1,sk,o,he,λr vr H' g s l t=>q _ r vr H' g (Sm.of s) l t #[c,e,o,he,1]]]
 |out=>erw[2,d,4,i,5,2,az #[2,d,4,i,5,2,aP #[3,2,x,ts,us,m,n,c,1,sk,o,λr vr H' g s l t=>q _ r vr H' g (Sm.of s) l t #[c,o,1]]]]
 |draw=>erw[2,d,4,i,5,2,az #[2,d,4,i,5,2,az #[2,d,4,i,5,2,aP #[3,2,x,ts,us,m,n,1,sk,λr vr H' g s l t=>q _ r vr H' g (Sm.of s) l t rfl]]]]
 |inn=>erw[2,d,4,i,5,2,az #[2,d,4,i,5,2,az #[2,d,4,i,5,2,az #[2,d,4,i,5,2,aP #[3,3,d,4,i,1,x,ts,us,m,n,c,y,1,sk,o,λr vr H' g s l t=>q _ r vr H' g (Sm.of s) l t #[c,o,1]]]]]]
 |on=>erw[2,d,4,i,5,2,az #[2,d,4,i,5,2,az #[2,d,4,i,5,2,az #[2,d,4,i,5,2,az #[2,d,4,i,5,2,aP #[3,3,d,4,i,1,x,ts,us,m,n,y,1,sk,λr vr H' g s l t=>q _ r vr H' g (Sm.of s) l t rfl]]]]]]
 |close=>erw[2,d,4,i,5,2,az #[2,d,4,i,5,2,az #[2,d,4,i,5,2,az #[2,d,4,i,5,2,az #[2,d,4,i,5,2,az #[3,2,d,4,i,1,x,ts,us,m,y,1,sk,#[n,#[c,o],λ⟨r,p⟩=>hk rfl r p],λrim cy r0 r vr H' g s l t=>q _ r vr H' g s l t #[rim,cy,r0,1]]]]]]]
end
section
def sv:aR [↑39,"deed","checked",↑50,"e"] [↑39,"deed"] (au jb):=.f
def NN{f f1 f2 f3 f4 Y Z Cs C NS SP L:pR}{fd d1 d2 d3 d4 d5 d6:ro}{v bM:List pC}(U:Fun K "changed" "changed" jb f fd)(G1:!Use 5 ↑53 [↑43] zk f1 d1)(B:mn (CX1 P w) P w K mg base 2 ↑29 [↑39,"deed"] (z_ Cs NS) f2 d2)(G3:!Use 1 ↑24 [↑39,"deed"] (Aa Cs) f3 d3)(G4:!Use 4 ↑41 [↑39,"deed"] (BY Cs) f4 d4)
  (MK:Mk K Cs Y) (GK:!aj (CX1 P w) 5 Y d5 [↑67,↑50] (vh Cs C)) (bK:Binds K d5 [↑67,↑50] []) (mK:mg "Skin"*>.ref Cs) (mM:mg "TooMany"*>.ref L) (cM:clsIn K L*>bM) (al:bM.contains (.type ↑4)=oD) (mN:mg "NoSkin"*>.ref C) (cN:clsIn K C*>v) (am:v.contains (.type ↑4)=oD)
  (nM:(Value.ref C::v).contains (.ref L)=p6) (MX:iR K SP Z) (GX:∀x,!vS 1 Z d6 [↑67,"kind"] x (zh K)) (bX:Binds K d6 [↑67,"kind"] []) (mX:mg "Spoilt"*>.ref SP) (xc:iM K C) (xf:fE K C ↑71) (xk:fE K SP "kind") :
  !aj (CX2 P w) 7 f fd [↑39,"deed"] (v9 Cs NS SP):=by
 show U.ok2 sv (λvs H Q E h=>?_) (λD A outer s H vs Q E u h=>?_)
 .let#[x,d,ts,us,k,m,n,y,1,_]:=h;rfl
 let#[x,d,ts,us,k,m,n,y,1,sk,dd,hw,few,q,qN,qS]:=h;let an:Room 5 _:=u.mono ⋯;let ap:Room 4 _:=u.mono ⋯;let ab:Room 2 _:=u.mono ⋯;let aM:Room 1 _:=u.mono ⋯;erw[_,af (sx 2 sv.nd\uc G1 an (pa1\pv 1))
  (af (dJ\jk B.g.weak ab rfl B.m B.k B.b .nil pass1 (ae (pv 0)\pa1 (pv 2)))
  (af (dJ\uc G3 aM (ae (pv 0)\pa1 (pv 2)))
  (af (sx 3 sv.nd\uc G4 ap (ae (pv 0)\pa1 (pv 2)))
  (ak (Ju (i:=4) #[5] rfl sv.nd rfl rfl rfl mM cM al rfl mN cN am (λRC xe E hp=>ak\aF (AA MK GK u rfl mK bK .nil hp\pa1 (pv 3)))
   (λx xe hR=>ak\yu hR rfl MX (GX x).len (λaS outer s H args us vs Q e0 M hv h=>(GX x).run _ outer s H args us vs Q E0 ((ab.suite x).make SP aS []) e0 M hv h) bX rfl mX (pa1\ixx bf (show PE _ _ (Mx K (aK 4) ↑71) from Az (pv 4) rfl) ah)) letsv))))),?_]
 erw[2,d,k,m,n,y,1,dd,λd' H1 s1 N=>?_];erw[3,x,d',ts,us,k,m,n,y,1,sk.sm\Sm.of s1,N,λH2 s2 ok=>?_,λH2 s2 e=>qN H2 (Sm.of\s1.trans s2) e];let O:=Sm.of\s1.trans s2;erw[3,x,d',ts,us,k,m,n,y,1,sk.sm O,N.same s2,hw,?_];erw[3,x,d',ts,us,k,m,n,y,1,sk.sm O,N.same s2,ok.a,ok.b,ok.c,λrs r vr H3 g3 s3 y3 t3 R=>?_];let ad:=O<*s3;erw[λcls d H'=>cls=.ref C/\∃l kk,d*>l/\dX rs kk/\Sm H3 H'/\wc H' l kk,?_,?_]
 .refine#[2,λz dx hz ag S=>?_];let T:=yq (Cs:=Cs) hz ag;erw[z,dx,r,vr,rs,1,aI,T>>y3,t3.same T,few rs ok R,λa0 H' sm a1=>#[1,q rs a0 z H' ok R (ad.trans\Ak hz ag sm) a1],λl H' kk I sm fl=>#[1,l,kk,1,I,(Sm.of T)<*sm,fl]]
 rintro cls d H' ⟨rfl,l,kk,rfl,I,sm,t,xs,e1,e2⟩;erw[C,v,1,cN,nM,by rw[sU];simp,λe he=>?_];let X:=bL (o:=gY e (.ref C)\oy l) he;erw[2,e,C,l,9,aI,X>>e1,xc,xf,1,t,4,SqT.of (X>>e2),aZ (j:=0) rfl,?_];erw[by change 1<=qs;rw[cY];decide,λz hz=>#[z,SP,kk,1,aI,MX.over,xk,I.kk,λdx hx S=>#[1,oy dx,?_,?_]]]
 .rw[ar\aA S,aI]
 let fin:Same H' (del (upd (upd (upd (upd H' e\gY e (.ref C) (oy l)) z\c_ z SP n7) z\c_ z SP (oy dx)) dx\.xd [("kind",.str kk)]) z):=λb o M=>by
  let h1:=X>>M;let p:=ao h1 hz;let h2:upd (upd H' e\gY e (.ref C) (oy l)) z (c_ z SP n7) b*>o:=by rw[ar p];show h1
  rw[eS p,ar\ao h2 hx,ar p];show h2
 erw[#[.ref C,oy l,?_],qS dx rs _ kk (ad.trans\sm.trans (Sm.of fin)) ok R I (by rw[eS S,aI])];let p:e≠z:=λw=>by rw[<-w,aI] at hz;cases hz
 let h2:upd (upd H' e\gY e (.ref C) (oy l)) z (c_ z SP n7) e*>gY e (.ref C) (oy l):=by rw[ar p,aI]
 rw[eS p,ar\ao h2 hx,ar p];show h2
end
section
variable {R:Nat->Nat->Prop}
structure fW(R:Nat->Nat->Prop)(ls:List\List Nat):Prop where
 cyc:∀l∈ls,Cyc R l
 least:∀l∈ls,∀x,l[0]?*>x->∀p∈l,x<=p
 rise:ls.Pairwise λl m=>∀x y,l[0]?*>x->m[0]?*>y->x<y
 nd:ls.flatten.Nodup
def fW.nil:fW R []:=#[∅,∅,.nil,∅]
def fW.step(inj:∀a b c,R a c->R b c->a=b){ls:List\List Nat}{c:Nat}(h:fW R ls)(d:Cyc R l)(g:l[0]?*>c)(u:∀m∈ls,c∉m)
  (low:∀p,(∃q,R p q)->p<c->∃m∈ls,p∈m) (up:∀m∈ls,∀x,m[0]?*>x->x<c):fW R (ls++[l])/\∀x∈l,x∉ls.flatten:=by
 let n:∀x∈l,∀m∈ls,x∉m:=λx hx m hm i=>u m hm\d.toPath.from inj (h.cyc m hm) hx i g;let o:∀x∈l,x∉ls.flatten:=λx hx z=>by
  let#[m,hm,i]:=mG.mp z;show n x hx m hm i
 erw[#[λm hm=>?_,λm hm x hx p f=>?_,?_,?_],o]
 .rcases bo.mp hm with z|z
  .exact h.cyc m z
  rw[aG.mp z];show d
 .rcases bo.mp hm with z|z
  .exact h.least m z x hx p f
  rw[aG.mp z] at hx f;cases g.symm.trans hx;show CN λlt=>?_;let#[q,_,v]:=d.step f;let#[r,j,w]:=low p #[q,v] lt;show n p f r j w
 .rw[wJ];erw[h.rise,tq _ _,λm hm r j x y hx s=>?_];rw[aG.mp j] at s;cases g.symm.trans s;show up m hm x hx
 rw[OI,cW];erw[h.nd,‹d.nd›,λa ha b A e=>?_];subst e;show o a ‹A› ha
def fW.done{ls:List\List Nat}(h:fW R ls)(all:∀p,(∃q,R p q)->∃l∈ls,p∈l):Rims R ls:=#[h.cyc,h.least,all,h.rise]
def fW.in{ls:List\List Nat}(h:fW R ls){p:Nat}(a:p∈ls.flatten):∃q,R p q:=by let#[m,hm,b]:=mG.mp a;let#[q,_,c]:=(h.cyc m hm).step b;erw[q,c]
end
end K15
namespace L2
open PySem PySem.Spec PyProof.Rows PySem.W
def uz:∀{us:List pC}{ns:List Int}{i:Nat},L3 us ns->i<↑us->∃t,us[i]?*>Value.int (ns.getD i 0) t
 |_,_,_,.nil,h=>by simp at h
 |_,_,0,.cons n t _,_=>#[t,1]
 |_,_,i+1,.cons n t r,h=>by
  let#[t',e]:=uz (i:=i) r ‹h›;erw[t',‹e›]
def Ig{ns ms:List Int}{i:Nat}(h1:i<↑ns)(h2:i<↑ms):HT.lexLt (ns.drop i) (ms.drop i)=if ns.getD i 0=ms.getD i 0 then HT.lexLt (ns.drop (i+1)) (ms.drop (i+1)) else decide (ns.getD i 0<ms.getD i 0):=by rw[iW h1,iW h2,HT.lexLt_cons];simp[List.getD,h1,h2]
def JZ(l b:pR)(us ws:List pC)(ns ms:List Int)(n m:Nat)(o:L3 us ns)(hw:L3 ws ms)(k:Nat):
  ∀i:Nat,↑us-i=k->i<=↑us->i<=↑ws->Meets (Builtin.«list.__eq__.loop» #[[.ref l,.ref b,vf i,vf 0],[]])
   (λ_ R s=>s.heap.get? l*>seqObj ↑28 us.toArray n/\s.heap.get? b*>seqObj ↑28 ws.toArray m/\R (.ok\.ret (.bool\HT.lexLt (ns.drop i) (ms.drop i))) s):=by
 let D:=↑o;let lw:=↑hw;let stop:∀i:Nat,i<=↑us->i<=↑ws->(↑us<=i\/↑ws<=i)->Meets (Builtin.«list.__eq__.loop» #[[.ref l,.ref b,vf i,vf 0],[]])
   (λ_ R s=>s.heap.get? l*>seqObj ↑28 us.toArray n/\s.heap.get? b*>seqObj ↑28 ws.toArray m/\R (.ok\.ret (.bool\HT.lexLt (ns.drop i) (ms.drop i))) s):=by
  intro i h1 h2 j prog w A R s h;let#[v,g,d,tk,os]:=s;let#[a,f,h]:=h
  wp_walk using fR a,fR f
  let e:HT.lexLt (ns.drop i) (ms.drop i)=decide (↑us<↑ws):=by
   by_cases c:↑us<=i
   .rw[Ct ()];by_cases c2:↑ws<=i
    .rw[Ct (),RA ()];rfl
    rw[iW (),Rz ()];rfl
   have:↑ws<=i:=();rw[Ct (as:=ms) (),iW (),RA ()];rfl
  rw[e] at h;rcases j with j|j
  .rw[show us.toArray[((i:Nat):Int).toNat]?=n7 by simp;lia]
   wp_walk using fR a,fR f
   change R (.ok\.ret (.bool (decide (us.toArray.size<ws.toArray.size)))) _;simpa using h
  by_cases c:↑us<=i
  .rw[show us.toArray[((i:Nat):Int).toNat]?=n7 by simp;lia]
   wp_walk using fR a,fR f
   change R (.ok\.ret (.bool (decide (us.toArray.size<ws.toArray.size)))) _;simpa using h
  rw[show us.toArray[((i:Nat):Int).toNat]?*>us[i]'() by simp,show ws.toArray[((i:Nat):Int).toNat]?=n7 by simp;lia]
  wp_walk using fR a,fR f
  change R (.ok\.ret (.bool (decide (us.toArray.size<ws.toArray.size)))) _;simpa using h
 induction k with
 |zero=>
  intro i x h1 h2;show stop i h1 h2\.inl ()
 |succ k y=>
  intro i x h1 h2;by_cases c:↑ws<=i
  .exact stop i h1 h2\.inr c
  intro prog w A R s h;let#[v,g,d,tk,os]:=s;let#[a,f,h]:=h
  wp_walk using fR a,fR f
  let#[p,z]:=uz (i:=i) o ();let#[q,B]:=uz (i:=i) hw ();let r:us.toArray[((i:Nat):Int).toNat]?*>Value.int (ns.getD i 0) p:=‹z›
  let u:ws.toArray[((i:Nat):Int).toNat]?*>Value.int (ms.getD i 0) q:=‹B›
  let C:((i:Int)+1)=((i+1:Nat):Int):=by push_cast;rfl
  rw[Ig () ()] at h;rw[r,u];show aa\Do ?_;by_cases e:ns.getD i 0=ms.getD i 0
  .rw[Ry e] at h;rw[show (ns.getD i 0==ms.getD i 0)=oD by simpa using e]
   wp_walk
   rw[C];erw[iZ w5 _,iA Px (by
    rw[iU w5 _];show y (i+1) () () () prog w A R _ #[a,f,h])]
  rw[Rx e] at h;rw[show (ns.getD i 0==ms.getD i 0)=p6 by simpa using e]
  wp_walk using fR a,fR f
  rw[r,u];show aa ?_;show (show q7 (rb prog w) _ (sD .Lt (.int (ns.getD i 0) p)\.int (ms.getD i 0) q) _ _ _ from lt_int ?_)
  wp_walk
  show h
def J5(l b:pR)(us ws:List pC)(ns ms:List Int)(n a:Nat)(f:L3 us ns)(hw:L3 ws ms):
  Meets (Builtin.«list.__lt__» #[[.ref l,.ref b],[]])
   (λ_ R s=>s.heap.get? l*>seqObj ↑28 us.toArray n/\s.heap.get? b*>seqObj ↑28 ws.toArray a/\R (.ok\.ret (.bool\HT.lexLt ns ms)) s):=by
 intro prog w A R s h;let#[i,g,d,tk,os]:=s;let#[c,e,h]:=h;let j:=AutoSeq1.sub_list_list
 wp_walk using fR c,fR e
 erw[iZ w5 _,iA Px (by
  rw[iU w5 _];show JZ l b us ws ns ms n a f hw _ 0 rfl (a_ _) (a_ _) prog w A R _ #[c,e,h])]
section
variable {prog:Program}
def GZ{a b:pR}{us ws:List pC}{ns ms:List Int}{n c:Nat}{C:Bool->pS->Prop}(d:A.units<vk)(h1:s.heap.get? a*>seqObj ↑28 us.toArray n)(h2:s.heap.get? b*>seqObj ↑28 ws.toArray c)(e:L3 us ns)(hw:L3 ws ms)(q:C (HT.lexLt ns ms) s):
  q7 (rb prog w) A (keyLt' oneType' (.ref a)\.ref b) C E s:=by
 rw[keyLt'_oneType,oneLt'_eq];simp only[if_true];show aa\wpAny_cRoomFor d ?_;show aa\wpAny_callSpecialIfBound?_slot #[_,h1,1] Po ?_;show tI Po #[_,h1,1] PySem.F.entry_list_lt (PySem.F.args_list_lt_2 _ _) (J5 a b us ws ns ms n c e hw) #[h1,h2,?_];show iB q
end
def Lsts(K:Frag)(H:Hp)(ys:List V)(ks:List\List Int):Prop:=Paired (λy k=>∃b,y=V.ref b/\H b*>.lst\k.map V.int) ys ks
section
def Lk(K:Frag):List V->Hp->VK->Prop:=λxs H Q=>∃(a:pR)(ys:List V)(ks:List\List Int),xs=[.ref a]/\SqL K H a ys/\Lsts K H ys ks/\↑ys<5000/\
 ∀p (ix:List Nat),H p=n7->ix.Perm (List.range ↑ys)->(ix.map λi=>ks.getD i []).Pairwise (λa b=>HT.lexLt b a=p6)->Q (.ref p)\upd H p (.lst (ix.map λi=>ys.getD i .non))
def DB(hr:X.A.units+2<vk):c7 X (.builtin ↑55) (Lk []):=by
 intro RC s Z H xs us Q I r h;let#[a,ys,ks,1,d,f,hz,q]:=h;let#[u,1,B]:=Vals.one r;cases B;let#[c,g,p,_]:=I.list d;let hl:=↑g;let at_:∀(ks:List\List Int)(ys:List V)(c:List pC),Lsts [] H ys ks->Vals ys c->Paired (λv k=>∃b us n,v=Value.ref b/\L3 us k/\s.heap.get? b*>seqObj ↑28 us.toArray n) c ks:=by
  intro ks;induction ks with
  |nil=>intro ys c a b;cases a;cases b;show .nil
  |cons k ks D=>
   intro ys c a b;cases a with
   |cons K tt=>
    let#[L,M,d]:=K;subst M;cases b with
    |cons r N=>
     cases r;let#[z,us,n,O,R]:=I.hok>>d;show .cons #[L,us,n,1,nj O,R]\D _ _ tt N
 let P:=at_ ks ys c f g;let l:∀{b:pR}{us:List pC}{n:Nat}{k:List Int},L3 us k->s.heap.get? b*>seqObj ↑28 us.toArray n->rkV s.heap (Value.ref b)=k:=λ{b us n k} i1 i2=>by
  change (match s.heap.get? b with|some o=>_|none=>_)=_;rw[i2];show uS i1
 let S:∀i,i<↑c->rkV s.heap (c.getD i Value.none)=ks.getD i []:=λi hi=>by
  let#[k,m,b,us,n,U,i1,i2]:=Paired.getE (i:=i) (x:=c[i]) P (by simp[hi]);rw[show c.getD i Value.none=c[i] by simp[List.getD,hi],U,l i1 i2,List.getD,m];rfl
 show xJ (κ:=oneType') (rk:=rkV s.heap) p.isList (by rw[cY];lia) (λh' old h2 Q q=>?_) (λh' old h2 x hx y f C q=>?_) λout p1 p2=>?_
 .refine kas_kind (T:=.type ↑28) h2 (λv Y=>?_) ⋯ ⋯ q;let#[i,hi]:=eY.mp Y;let#[k,m,b,us,n,1,i1,i2]:=Paired.getE P hi;intro A Q E s' k' q';have:=k'>>old>>i2;show kN #[_,this,1] q'
 .let#[i,hi]:=eY.mp hx;let#[j,hj]:=eY.mp f;let#[k1,_,b1,u1,n1,1,i1,x1]:=Paired.getE P hi;let#[k2,_,b2,u2,n2,1,i2,x2]:=Paired.getE P hj;rw[l i1 x1,l i2 x2] at q;show GZ (by change X.A.units+1+1<_;lia) (old>>x1) (old>>x2) i1 i2 q
 let#[ix,x1,x2,x3]:=vE g S p1 p2;let#[e,he]:=sortedAll_at s.heap c out.toArray;let w:↥s<=↥s+1:=mH _;erw[.ref (↥s+1),upd H (↥s+1)\.lst (ix.map λi=>ys.getD i .non),I.laid (t':=s.toks) (λb o e=>sortedAll_old e) w #[by rw[av,x1.length_eq,mF,cY];lia,out,e,x3,by rw[he]],1,q _ ix (I.hok.fresh w) x1 x2]
end
def rNeE:R2:=λx y H Q=>∃(a b:pR)(kvs:List (Key×V)),x=.ref a/\y=.ref b/\Rd H a (.dK kvs)/\Rd H b (.dK [])/\Q (.bl (!kvs.isEmpty)) H
def LC(c:X.A.units<vk):OpR X (sD .NotEq) rNeE:=by
 intro RC s Z H x y v u Q I d f h;let#[a,b,kvs,5,ha,g,q]:=h;cases d;cases f;let#[n,lo,vs,rel,dd]:=fg I.hok ha;let#[o,i,ms,j,l]:=fg I.hok g;let m:ms=[]:=by have:=↑j;show wG.mp this.symm
 subst m;show W.keq_ne (r:=oD) lo i dd l c (λe=>?_) #[.bl _,H,I,?_,q]
 .let e:vs=[]:=wG.mp e;subst e;show .nil
 change Value.bool _=Value.bool _;have:=↑rel;cases kvs with
 |nil=>cases vs with
  |nil=>rfl
  |cons p r=>simp at this
 |cons p r=>cases vs with
  |nil=>simp at this
  |cons w z=>rfl
end L2
namespace K71
open PySem L2 K51 K31 K15
def NewL(H H':Hp)(T:pR)(v:V)(l:List Nat):Prop:=∃a,v=.ref a/\H a=n7/\a≠T/\H' a*>.lst\nV l
def Kj{ls:List\List Nat}(h:∀l∈ls,l≠[]):↑ls<=ls.flatten.length:=by
 induction ls with
 |nil=>simp
 |cons l ls a=>
  let h1:=a λm hm=>h m\de _ hm;let h2:0<↑l:=hU.mpr\h l gk;rw[List.flatten_cons,bj,cv];lia
def Aw:∀(rs l:List (Nat×Nat)),((l++rs).map (·.1)).Nodup->jo (l.map nmV) (rs.map nmV)=(l++rs).map nmV
 | [],l,_=>by rw[eX];rfl
 |x::rs,l,nd=>by
  let hx:x.1∉l.map (·.1):=λz=>by
   rw[aW,cW] at nd;show nd.2.2 _ z _ ∅ rfl
  change jo (cQ (l.map nmV) (Sum.inl (x.1:Int))\V.int (x.2:Int)) (rs.map nmV)=_;rw[oh hx,Aw rs (l++[(x.1,x.2)]) (by rw[gi];show nd),gi];rfl
def An:∀{vs:List V}{rs:List (Nat×Nat)},SdsAt H vs rs->iP H vs (rs.map nmV)
 |_,_,.nil=>.nil
 |_,_,.cons ⟨a,b,c⟩ t=>.cons #[a,b,c]\An t
def cI(l:List Nat):List Int:=l.map λn:Nat=>(n:Int)
def cI_V(l:List Nat):(cI l).map V.int=nV l:=by unfold cI nV;rw[cz];rfl
def zL{K:W.Frag}:∀{vs:List V}{ls:List\List Nat},iQ H vs ls->Lsts K H vs (ls.map cI)
 |_,_,.nil=>.nil
 |_,_,.cons ⟨a,b,c⟩ t=>.cons #[a,b,by rw[cI_V];show c]\zL (K:=K) t
def Fu{l m:List Nat}{x y:Nat}(h1:l[0]?*>x)(h2:m[0]?*>y)(h:x<y):HT.lexLt (cI l) (cI m)=oD:=by
 cases l with
 |nil=>cases h1
 |cons a l=>cases m with
  |nil=>cases h2
  |cons b m=>
   cases h1;cases h2;change HT.lexLt ((x:Int)::cI l) ((y:Int)::cI m)=oD;rw[HT.lexLt_cons,Rx (),Rz ()]
def J8{ks:List\List Int}{ix:List Nat}(pm:ix.Perm\List.range ↑ks)(f:ks.Pairwise λa b=>HT.lexLt a b=oD)(d:(ix.map λi=>ks.getD i []).Pairwise λa b=>HT.lexLt b a=p6):ix=List.range ↑ks:=by
 rw[gq] at d;let c:∀i∈ix,i<↑ks:=λi hi=>iy.mp\pm.mem_iff.mp hi;let h1:ix.Pairwise (·<=·):=wm (λ{i j} hi e h=>by
  show CN λlt=>?_;have:=wL.mp f j i (c j e) (c i hi) lt;simp only[List.getD,aU\c i hi,aU\c j e,wX] at h;rw[this] at h;cases h) d
 show Cp (λa b _ _ h1 h2=>Nat.le_antisymm h1 h2) h1 (List.pairwise_le_range) pm
def F9(vs:List V)(H:Hp)(Q:VK)(T:pR)(a:List V)(ts:List Tri):Prop:=vs=[.ref T]/\H T*>.lst a/\ay H a ts/\↑ts<=200/\Good ts/\(∀c,Co ts c->One (En ts) c)/\
 ∀p vs ls H',H p=n7->Same H H'->H' p*>.lst vs->iQ H' vs ls->Rims (bq\En ts) ls->Q (.ref p) H'
def Ac:Sp:=λvs H Q _=>Exists\Ex3 (F9 vs H Q)
def FN:yF "min"*>.builtin "min":=⋯
section
def nQ:aR [↑0,"_law_ahead","_law_found",↑98,↑9] [↑0] (au qQ):=.f
def ok_lrims{f f1:pR}{fd d1:ro}(U:Fun K ↑93 ↑93 qQ f fd)(mS:mg ↑55 = n7)(mD:mg ↑69 = n7)(mN:mg "min" = n7)
  (GR:!Use 2 ↑34 [↑0] vL f1 d1) :
  !aj CX0 3 f fd [↑0] Ac:=by
 show U.ok nQ (!3) λRD A outer s H vs Q E S h=>?_
 let#[T,vt,ts,1,hT,tr,hl,g,bA,q]:=h;let hu:=dA S;let cj:=line5000;erw[_,af (sx 1 nQ.nd\du (DT S.hd) (by rfl) mD O9 (pa1\uc GR S (pa1\pv 0)))
  (af (sx 2 nQ.nd\bO fB)
  (af (jQ dq (aQ (LC S.units0) (pv 1) nF\nomark _)
   (af (sx 3 nQ.nd\bO (pa1\bP (xu rfl) (by rfl) mN FN (pa1\pv 1)))
   (af (jQ dq (aQ j8 (ie hu (pv 1) (ixx cJ (pv 3)\iN iJ ah) λ_ _=>rfl) (ixx cJ (pv 3) ah)\nomark _)
    (ak\dJ (dR eG gw gz fm (pv 3)\pa1 (ie hu (pv 1) (ixx cJ (pv 3)\iN iJ ah) λ_ _=>rfl))))
   (af (dC dq rfl (bQ\pv 3) (gx 4 nQ.nd)\ak (dJ\zF (pv 1) (pv 4) #[5,5]))
   (ak\dJ (dR eG gw gz fm (pv 2)\pa1 (pv 3)))))))
  (ak\aF (bP (DB\wR (tu (⋯:2<=64) _) S.units) (by rfl) mS iC\pa1 (pv 2))))),?_]
 let#[bK,aM,bM]:=kQ g bA;erw[2,T,vt,ts,1,hT,tr,hl,g.nd,λr zs rs H1 cl s1 y1 sd a2 bN ⟨bS,bX⟩=>?_];let a3:(rs.map (·.1)).Nodup:=AE bK bS λp d=>lD.mpr\a2 p d;let a4:∀x:Nat×Nat,x∈rs↔bq (En ts) x.1 x.2:=λx=>#[λh=>lD.mpr\a2 x h,λh=>bX x\lD.mp h];erw[r,zs,2,y1,An sd,by rw[av];lia,λu hA=>?_];let b0:jo [] (rs.map nmV)=rs.map nmV:=Aw rs [] a3;rw[b0];walk_at"H1 u hA H2 s2 y2";erw[⋯,λF H3 hF s3 y3=>?_];let b1:=s3>>y2;let a5:u≠F:=ao y2 hF;let b2:=(s1<*s2)<*s3;let b3:H F=n7:=(s1<*s2).free hF;let b4:H u=n7:=s1.free hA;erw[λm Z H'=>∃o3 M vs ls lf,Z=[oy\.ref T,oy\.ref u,oy\.ref F,o3,M]/\m=↑lf/\Same H H'/\H' u*>.dK (lf.map nmV)/\H' F*>.lst vs/\Paired (NewL H H' F) vs ls/\fW (bq\En ts) ls/\
   (∀x:Nat×Nat,x∈lf↔bq (En ts) x.1 x.2/\x.1∉ls.flatten)/\(lf.map (·.1)).Nodup/\↑lf<=600/\(∀m∈ls,∀c,m[0]?*>c->∀p∈lf.map (·.1),c<p),
  #[_,n7,n7,[],[],rs,5,b2,b1,y3,.nil,fW.nil,λx=>by rw[a4 x];simp,a3,bN,∅],?_]
 rintro m Z H' ⟨o3,M,ad,ls,lf,rfl,rfl,sm,a6,bb,pr,N,mem,nd,b5,low⟩;erw[2,λe H4 he I y4=>?_];erw[u,e,2,1,.inl (I>>a6),.inl y4,2,?_];let co:↑ls<=600:=by
  let h1:=Kj λm hm=>(N.cyc m hm).ne;let h2:=ia N.nd (m:=rs.map (·.1)) λz hz=>by
   let#[O,b6]:=N.in hz;show ax.mpr #[(z,O),(a4 _).mpr b6,1]
  rw[av] at h2;lia
 cases am:lf with
 |nil=>
  show az #[2,F,ad,ls.map cI,1,SqL.of (I>>bb),zL\Paired.imp' (by rintro _ _ ⟨a,e1,_,_,e4⟩;erw[a,e1,I>>e4]) pr,by rw[aE pr];lia,λp ix d pm pw=>?_];let b7:Rims (bq\En ts) ls:=N.done λp ⟨O,d⟩=>iV λz=>by
   have:(p,O)∈lf:=(mem (p,O)).mpr #[d,λh=>z\mG.mp h];rw[am] at this;cases this
  let er:ix=List.range ↑(ls.map cI):=J8 (by rw[av,<-aE pr];show pm) (by
   rw[gq];show wm (λ{l m} hl hm h=>?_) N.rise;let#[x,hx,_]:=(N.cyc l hl).toPath.begin;let#[y,L,_]:=(N.cyc m hm).toPath.begin;show Fu hx L\h x y hx L) pw
  let ev:(ix.map λi=>ad.getD i .non)=ad:=by rw[er,av,<-aE pr];show Et ad
  rw[ev];walk_at"H4 p d H5 s5 y5";let bc:=I<*s5;show q p ad ls H5 ((sm<*I).free d) (sm<*bc) y5 (Paired.imp' (by rintro _ _ ⟨a,e1,_,_,e4⟩;erw[a,e1,bc>>e4]) pr) b7
 |cons x0 cp=>
  let bd:lf≠[]:=by rw[am];simp
  rw[<-am];clear am;rw[show (!(lf.map nmV).isEmpty)=oD by cases lf with
   |nil=>show absurd rfl bd
   |cons a b=>rfl]
  let an:=I>>a6;let be:=I>>bb;show aP #[λZ' B=>∃o3 M vs ls X,Z'=[oy\.ref T,oy\.ref u,oy\.ref F,o3,M]/\↑X<↑lf/\Same H B/\B u*>.dK (X.map nmV)/\B F*>.lst vs/\Paired (NewL H B F) vs ls/\fW (bq\En ts) ls/\
    (∀x:Nat×Nat,x∈X↔bq (En ts) x.1 x.2/\x.1∉ls.flatten)/\(X.map (·.1)).Nodup/\↑X<=600/\(∀m∈ls,∀c,m[0]?*>c->∀p∈X.map (·.1),c<p),
   λZ' B ⟨o3,M,vs,ls,X,e,bi,r⟩=>#[_,bi,o3,M,vs,ls,X,e,1,r],?_]
  erw[2,u,_,cI\lf.map (·.1),1,.inl an,by rw[uV,cI_V],by simpa [cI] using bd,λmi b8 b9=>#[lit1,λC H5 ag s5 y5=>?_]];let#[c,hc,1]:=ax.mp b8;let bl:∀p∈lf.map (·.1),c<=p:=λp d=>by
   have:=b9 (p:Int)\ax.mpr #[p,d,1];lia
  let key:∀p,p∈lf.map (·.1)↔(∃q,bq (En ts) p q)/\p∉ls.flatten:=λp=>by
   constructor
   .intro h;let#[#[a,b],h1,1]:=ax.mp h;erw[#[b,((mem _).mp h1).1],((mem _).mp h1).2]
   rintro⟨⟨O,h⟩,n⟩;show ax.mpr #[(p,O),(mem _).mpr #[h,n],1]
  let ca:∀p q,p∈lf.map (·.1)->bq (En ts) p q->q∈lf.map (·.1):=λp O d S=>(key O).mpr #[bM>>S,λz=>by
   let#[m,hm,hz]:=mG.mp z;show ((key p).mp d).2\mG.mpr #[m,hm,(N.cyc m hm).before aM hz S]]
  let rF:C≠F:=λz=>by rw[z,be] at ag;cases ag
  let rA:C≠u:=λz=>by rw[z,an] at ag;cases ag
  let cb:H C=n7:=(sm<*I).free ag;erw[λm Z B=>∃ps:List Nat,Z=[oy\.ref T,oy\.ref u,oy\.ref F,oy\.ref C,M]/\m=↑lf+1-↑ps/\Same H4 B/\B C*>.lst (nV ps)/\Path (bq\En ts) ps/\ps[0]?*>c/\(∀p∈ps,p∈lf.map (·.1)),
   #[_,[c],5,s5,y5,Path.one _ c,1,λp d=>by rw[aG.mp d];show hc],?_]
  rintro m Z H6 ⟨ps,rfl,rfl,s6,Y,path,R,pin⟩;let cc:=(aN.mp R).1;let cr:↑ps<=↑lf:=by have:=ia path.nd pin;rw[av] at this;show this
  let#[z,hz]:∃z,ps[↑ps-1]?*>z:=#[_,aU ()];let#[i,x,h1,h2,_]:=jr\pin z (a9 hz);let ap:bq (En ts) z x:=((mem (z,x)).mp\a9 h1).1;let aS:=s6>>an;let bm:=AH hz;let cd:atI (nV ps) 0*>V.int (c:Int):=aZ (j:=0)\vD R;erw[3,2,C,4,SqL.of Y,bm,u,V.int (x:Int),1,.inl #[_,Sum.inl (z:Int),.inl aS,1,h2.symm],2,C,4,SqL.of Y,cd,7,?_];change if (!decide (V.int (x:Int)=V.int (c:Int)))=oD then _ else _
  rw[gU];by_cases bn:x=c
  .subst bn;rw[Rz rfl];let cyc:Cyc (bq\En ts) ps:=#[path,λp O d hq=>by rw[hz] at d;rw[R] at hq;cases d;cases hq;show ap];let#[ce,dj]:=N.step aM cyc R (λm hm D=>((key x).mp hc).2\mG.mpr #[m,hm,D]) (λp d bi=>iV λD=>by
    have:=bl p\(key p).mpr #[d,λh=>D\mG.mp h];lia) (λm hm y L=>low m hm y L x hc)
   show az #[2,C,1,#[_,SqL.of Y],fq (K:=[]) (a:=C) (xs:=nV ps) (λi Z B=>∃a0,Z=[oy\.ref T,oy\.ref u,oy\.ref F,oy\.ref C,a0]/\(∀b o,b≠u->H6 b*>o->B b*>o)/\B u*>.dK\(lf.filter λy=>decide (y.1∉ps.take i)).map nmV)
    #[M,1,λb o _ e=>e,by rw[aS,wB.mpr ∅]] (by rintro i Z B _ ⟨_,_,e,_⟩;show SqL.of\e _ _ rA Y) ?_ ?_]
   .rintro j y Z H7 hj ⟨a0,rfl,k7,al⟩;rw[nV,bu] at hj;let#[w',hw,1]:=cA.mp hj;let bt:ps.take (j+1)=ps.take j++[w']:=by rw[bE,hw];rfl
    let nz:w'∉ps.take j:=λh=>by
     let nd:=path.nd;rw[<-gr (j+1) ps,bt,cW,cW] at nd;show nd.1.2.2 w' h w' ∅ rfl
    let cf:w'∈(lf.filter λy=>decide (y.1∉ps.take j)).map (·.1):=by let#[y,L,1]:=ax.mp\pin w' (a9 hw);show ax.mpr #[y,ef.mpr #[L,Rz nz],1]
    let#[_,v,_,hv,_]:=jr cf;erw[2,u,1,.inl #[_,.inl al],2,_,Sum.inl (w':Int),_,al,1,hv,λH8 k8 y8=>?_];rw[AQ] at y8;erw[2,λb o n e=>(k8 b n).trans\k7 b o n e,?_];rw[y8,CA,bt]
    congr 3
    show sW λy _=>?_;rw[eW];simp;show And.comm
   rintro Z H7 ⟨a0,rfl,k7,al⟩;rw[bH,cn] at al;let bw:H7 F*>.lst ad:=k7 _ _ a5.symm (s6>>be);erw[2,.inl #[1,_,SqL.of bw],2,F,6,bw,by rw[aE pr];lia,λH8 k8 y8=>?_];let up:∀b o,b≠u->b≠F->H4 b*>o->H8 b*>o:=λb o n n' e=>by rw[k8 b n'];show k7 _ _ n (s6>>e)
   erw[8,ls++[ps],lf.filter λy=>decide (y.1∉ps),1,?_,λb o e=>up b o (ao e b4) (ao e b3) (I>>sm>>e),(k8 _ a5)<*al,y8,?_,ce,λy=>?_,nd.sublist\Cq _ OH,?_,λm hm c' a1 p d=>?_]
   .let#[y,L,cg]:=ax.mp hc;show ue lf _ L ?_;rw[cg];show RA λD=>D\a9 R
   .refine bR (Paired.imp' (by rintro _ _ ⟨a,e1,e2,e3,e4⟩;erw[a,e1,e2,e3,up a _ (bW (I>>e4) an (by intro D;cases D)) e3 (I>>e4)]) pr)\.cons #[C,1,cb,rF,?_] .nil;rw[k8 C rF];show k7 _ _ rA Y
   .rw[ef,mem y,decide_eq_true_eq,OI,bo];constructor
    .rintro⟨⟨a,b⟩,c'⟩;erw[a,λD=>D.elim b λz2=>c' ‹z2›]
    rintro⟨a,b⟩;erw[#[a,λD=>b\.inl D],λD=>b (.inr ‹D›)]
   .exact cR (dI _ _) b5
   let#[y,L,1]:=ax.mp d;let#[ch,ci]:=ef.mp L;let bx:y.1∈lf.map (·.1):=ax.mpr #[y,ch,1];rcases bo.mp hm with hm|hm
   .exact low m hm c' a1 _ bx
   rw[aG.mp hm,R] at a1;cases a1;let h3:=bl _ bx;let h4:y.1≠x:=λD=>RB ci (by rw[D];show a9 R);lia
  rw[RA ()];show aP #[λZ' B=>∃ab:List Nat,Z'=[oy\.ref T,oy\.ref u,oy\.ref F,oy\.ref C,M]/\↑ab=↑ps+1/\Same H4 B/\B C*>.lst (nV ab)/\Path (bq\En ts) ab/\ab[0]?*>c/\(∀p∈ab,p∈lf.map (·.1)),
   λZ' B ⟨ab,e,h1,h2,h3,h4,h5,h6⟩=>#[↑lf+1-↑ab,(),ab,e,1,h2,h3,h4,h5,h6],?_]
  let hx:x∉ps:=λh=>by
   have:=path.home aM hz ap h;rw[R] at this;cases this;show bn rfl
  erw[2,.inl #[1,_,SqL.of Y],3,2,C,4,SqL.of Y,bm,u,V.int (x:Int),1,.inl #[_,Sum.inl (z:Int),.inl aS,1,h2.symm],C,6,Y,by rw[bH];lia,λH7 k7 y7=>?_];erw[ps++[x],1,∅,λb' o e=>(k7 b'\ao e ag)<*(s6>>e),by rw[y7,oj,fC],path.snoc hz ap hx,by rw[dZ cc];show R,λp d=>?_]
  rcases bo.mp d with h|h
  .exact pin p h
  rw[aG.mp h];show ca z x (pin z\a9 hz) ap
end
end K71
namespace HT
open PySem PySem.Spec PyProof.Rows
section
variable {prog:Program}
def getItem_tuple_all{t sl:pR}{items:Array pC}{b c:pC}{lo hi:Option Int}{Q:pC->pS->Prop}(a:IsTup s.heap t items)(d:s.heap.IsSliceOf sl b c .none)(pl:IsPart b lo)(pu:IsPart c hi)
  (hw:sIx items.size 0 lo=0/\sIx items.size items.size hi=items.size) (h:Q (.ref t) s):q7 (rb prog w) A (getItem (.ref t)\.ref sl) Q E s:=by
 let#[os,e,f,i]:=id d;let g:s.TypeIs (.ref sl) "slice":=#[os,e,f];unfold getItem
 try with_reducible show cX ?_
 first|show aa (ai ?_)|skip
 show aa (Dz a.typeIs ⋯ ?_);show aa (jK (name:=Str.ofString "__getitem__") a.typeIs kI
  (gA kI a.typeIs Dc ?_\C8 _ _))
 change q7 _ _ (Builtin.Tuple.tupleItemsOf (.ref t) >>= _) _ _ s;show aa\Di a ?_;show aa\kN g ?_;rw[Ry ⋯];show aa\xp d pl pu ?_;let yes:(((sIx items.size 0 lo:Nat):Int)==0&&(1:Int)==1&&(sIx items.size items.size hi-sIx items.size 0 lo)==items.size)=oD:=by rw[hw.1,hw.2];simp
 change q7 _ _ (if (((sIx items.size 0 lo:Nat):Int)==0&&(1:Int)==1&&(sIx items.size items.size hi-sIx items.size 0 lo)==items.size)=oD then _ else _) _ _ s;rw[Ry yes];unfold Builtin.Tuple.tupleIsExact;show aa\aa (kN a.typeIs\ai ?_);rw[Ry ⋯];show aa\tK (ai #[2,ai h])
end
end HT
namespace L2
open PySem PySem.Spec PyProof.Rows
section
def rSlW(K:W.Frag):V->Option Int->Option Int->Hp->VK->Prop:=λx lo hi H Q=>∃a xs,x=.ref a/\SqT K H a xs/\
 ((HT.sIx ↑xs 0 lo=0/\HT.sIx ↑xs ↑xs hi=↑xs)->Q (.ref a) H)/\(¬(HT.sIx ↑xs 0 lo=0/\HT.sIx ↑xs ↑xs hi=↑xs)->∀p,H p=n7->Q (.ref p)\upd H p (.tup\fG xs lo hi))
def Al:SlR X (rSlW []):=by
 intro RC s Z H x v e f lo hi sl Q I b c pl pu h;let#[a,xs,ex,hx,g,i]:=h;by_cases hw:HT.sIx ↑xs 0 lo=0/\HT.sIx ↑xs ↑xs hi=↑xs
 .subst ex;cases b;let#[j,r,d,hz]:=I.tuple hx;let hlen:j.toArray.size=↑xs:=by rw[bJ];show r.length.symm
  erw[↑20,_,kI.lookup,d.typeIs,?_];show HT.getItem_tuple_all d c pl pu (by rw[hlen];show hw) #[.ref a,H,I,1,g hw]
 show K7 RC s Z H x v e f lo hi sl Q I b c pl pu #[a,xs,ex,hx,hw,i hw]
end
end L2
namespace K15
open PySem L2 K51 K31
def IE(vs:List V)(H:Hp)(Q:VK)(T:pR)(c:List V)(ts:List Tri):Prop:=vs=[.ref T]/\H T*>.lst c/\ay H c ts/\↑ts<=200/\(∀t∈ts,t.1≠t.2.1/\t.2.1≠t.2.2/\t.2.2≠t.1)/\
 ∀r vr us ws H',H r=n7->Same H H'->H' r*>.lst vr->ay H' vr us->us.Perm ws->Paired Bg ts ws->us.Pairwise (λa b=>HT.lexLt [(b.1:Int),(b.2.1:Int),(b.2.2:Int)] [(a.1:Int),(a.2.1:Int),(a.2.2:Int)]=p6)->Q (.ref r) H'
def Bd:Sp:=λvs H Q _=>Exists\Ex3 (IE vs H Q)
section
def qC:aR [↑0,"_law_found",↑6,"_law_at_here"] [↑0] (au rL):=.f
def JF{f:pR}(U:Fun K ↑90 ↑90 rL f fd)(mN:mg "min" = n7)(mS:mg ↑55 = n7):!aj CX0 1 f fd [↑0] Bd:=by
 show U.ok qC (!3) λRD A outer s H vs Q E hr h=>?_
 let#[C,vt,ts,1,hT,ht,hl,a0,Qq]:=h;let hu:=dA hr;erw[_,(af (sx 1 qC.nd\bO fB)
  (af (dC dq rfl (bQ\pv 0) (gx 2 qC.nd) (af (sx 3 qC.nd\B3 Ph CZ Pw (yz hr.units) (pv 2) (pa1\bP (DX rfl) (by rfl) mN uf (pa1\pv 2)))
  (ak\dJ (dR eG gw gz fm (pv 1)\pa1 (aH AD (jc Al (pv 2) (ji\pv 3) jj)\jc Al (pv 2) jj (ji\pv 3))))))
  (ak\aF (bP xq (by rfl) mS iC\pa1 (pv 1))))),?_]
 let bb:=line5000;erw[a_ _,λg H1 a1 s1 y1=>?_];erw[2,C,1,#[_,SqL.of (s1>>hT)],fq (K:=[]) (a:=C) (xs:=vt) (λi Z H'=>∃M N l wf,Z=[oy\V.ref C,oy\.ref g,M,N]/\Same H H'/\H' g*>.lst l/\ay H' l wf/\Paired Bg (ts.take i) wf)
  #[n7,n7,[],[],1,s1,y1,.nil,.nil] (by rintro i Z H' _ ⟨_,_,_,_,_,e,_⟩;show SqL.of (e>>hT)) ?_ ?_]
 .rintro i x Z H2 hi ⟨M,N,l,wf,rfl,sm,r,v,D⟩;let#[#[a,b,c],hs,t,1,hb]:=bV ht hi;let hb:H t*>.tup [.int (a:Int),.int (b:Int),.int (c:Int)]:=hb;let n:=sm>>hb;let#[n1,n2,n3]:a≠b/\b≠c/\c≠a:=a0 _\a9 hs;let a2:↑l<=200:=by
   rw[aE v,<-aE D,bz];lia
  show je (λZ H'=>∃j:Nat,Z=[oy\V.ref C,oy\.ref g,oy\.ref t,oy\.int (j:Int)]/\H'=H2/\(j=0/\a<=b/\a<=c\/j=1/\b<=c/\b<=a\/j=2/\c<=a/\c<=b)) (λNX hOut=>?_) ?_
  .refine#[2,#[t,2,.inl n],2,t,[(a:Int),(b:Int),(c:Int)],1,SqT.of n,∅,λm hm ad=>?_];let dts:Dts [] H2 [V.int (a:Int),.int (b:Int),.int (c:Int)] [.int (a:Int),.int (b:Int),.int (c:Int)]:=.cons (.int _)\.cons (.int _) (.cons (.int _) .nil);let O:∀x y:Int,PyData.eqv (.int x) (.int y)=decide (x=y):=λx y=>by
    rw[eW];simp[PyData.eqv]
   let dd:(PyData.int m).depth<=60:=by simp[PyData.depth]
   let ma:=ad a ∅;let mb:=ad b ∅;let mc:=ad c ∅;by_cases ha:m=a
   .exact#[t,8,_,(0),5,SqT.of n,dts,.int _,dd,∅,by change PyData.eqv (.int (a:Int)) _=oD;rw[O];show Rz ha.symm,λk hk=>(),hOut _ _ #[(0),5,.inl #[1,(),()]]]
   let f0:PyData.eqv (.int (a:Int)) (.int m)=p6:=by rw[O];show RA λz=>ha z.symm
   by_cases ag:m=b
   .refine#[t,8,_,(1),5,SqT.of n,dts,.int _,dd,∅,by change PyData.eqv (.int (b:Int)) _=oD;rw[O];show Rz ag.symm,λk hk=>?_,hOut _ _ #[(1),5,.inr\.inl #[1,(),()]]];obtain rfl:k=0:=();show f0
   let f1:PyData.eqv (.int (b:Int)) (.int m)=p6:=by rw[O];show RA λz=>ag z.symm
   let a3:m=c:=by
    simp only[aT,eZ,or_false] at hm;rcases hm with h|h|h
    .exact (ha h).elim
    .exact (ag h).elim
    show h
   erw[t,8,_,(2),5,SqT.of n,dts,.int _,dd,∅,by change PyData.eqv (.int (c:Int)) _=oD;rw[O];show Rz a3.symm,λk hk=>?_,hOut _ _ #[(2),5,.inr\.inr #[1,(),()]]];obtain rfl|rfl:k=0\/k=1:=()
   .exact f0
   show f1
  rintro Z ab ⟨j,rfl,rfl,hj⟩;let fin:∀(t':pR)(u:Tri)(q:Hp),Same ab q->q t'*>.tup [.int (u.1:Int),.int (u.2.1:Int),.int (u.2.2:Int)]->Bg (a,b,c) u->∀I,(∀b,b≠g->I b=q b)->I g*>.lst (l++[V.ref t'])->∃M N an ap,[oy\V.ref C,oy\.ref g,oy\.ref t,oy\.int (j:Int)]=[oy\V.ref C,oy\.ref g,M,N]/\Same H I/\I g*>.lst an/\ay I an ap/\Paired Bg (ts.take (i+1)) ap:=by
   intro t' u q d aM a4 I kn yn;let a5:=d>>r;let tn:∀{L:pR}{xs:List V},q L*>.tup xs->L≠g:=λe=>bW e a5 ∅;erw[8,wf++[u],1,λL o e=>(kn L\ao e a1)<*(d>>sm>>e),yn,?_,?_]
   .exact bR (Paired.imp' (by rintro _ _ ⟨L,e1,e2⟩;erw[L,e1,(kn _\tn (d>>e2))<*(d>>e2)]) v)\.cons #[t',1,(kn _\tn aM)<*aM] .nil
   rw[bE,hs];show bR D\.cons a4 .nil
  rcases hj with ⟨rfl,h1,h2⟩|⟨rfl,h1,h2⟩|⟨rfl,h1,h2⟩
  .refine#[2,.inl #[1,_,SqL.of r],3,2,t,2,SqT.of n,λ_=>?_,λz=>(z #[by simp[HT.sIx],by simp[HT.sIx]]).elim];erw[3,2,t,2,SqT.of n,λz=>absurd z.2 (by simp[HT.sIx]),λ_ B R=>?_];walk_at"ab B R q d S";erw[t,B,_,[],5,SqT.of (d>>n),SqT.of S,∅,lit3,λ_=>#[g,l,2,1,d>>r,(),fin t (a,b,c) q d (d>>n) #[.inl rfl,h1,h2]],λz=>(z rfl).elim]
  .refine#[2,.inl #[1,_,SqL.of r],3,2,t,2,SqT.of n,λz=>absurd z.1 (by simp[HT.sIx]),λ_ T al=>?_];walk_at"ab T al q d S";erw[3,2,t,2,SqT.of (d>>n),λz=>absurd z.2 (by simp[HT.sIx]),λ_ B R=>?_];walk_at"q B R H4 X y4";erw[T,B,[.int (b:Int),.int (c:Int)],[.int (a:Int)],5,SqT.of (X>>S),SqT.of y4,∅,lit3,λz=>(by cases z),λ_ pn am=>?_];walk_at"H4 pn am H5 s5 y5";let Y:=(d<*X)<*s5;erw[g,l,2,1,Y>>r,(),fin pn (b,c,a) H5 Y y5 #[.inr\.inl rfl,h1,h2]]
  erw[2,.inl #[1,_,SqL.of r],3,2,t,2,SqT.of n,λz=>absurd z.1 (by simp[HT.sIx]),λ_ T al=>?_];walk_at"ab T al q d S";erw[3,2,t,2,SqT.of (d>>n),λz=>absurd z.2 (by simp[HT.sIx]),λ_ B R=>?_];walk_at"q B R H4 X y4";erw[T,B,[.int (c:Int)],[.int (a:Int),.int (b:Int)],5,SqT.of (X>>S),SqT.of y4,∅,lit3,λz=>(by cases z),λ_ pn am=>?_];walk_at"H4 pn am H5 s5 y5";let Y:=(d<*X)<*s5;erw[g,l,2,1,Y>>r,(),fin pn (c,a,b) H5 Y y5 #[.inr\.inr rfl,h1,h2]]
 rintro Z H2 ⟨M,N,l,wf,rfl,sm,r,v,D⟩;rw[aE ht,cn] at D;let a2:↑l<=200:=by rw[aE v,<-aE D];show hl
 erw[2,g,l,wf.map kyT,1,SqL.of r,ug v,(),λp ix hp pm ps=>?_];let aS:∀i∈ix,i<↑l:=λi hi=>iy.mp\pm.mem_iff.mp hi;let d:=bL (o:=.lst (ix.map λi=>l.getD i .non)) hp;show Qq p _ _ wf _ (sm.free hp) (sm<*d) aI ((uh v ix aS).same d) (xM (by rw[<-aE v];show pm)) D ?_;rw[gq] at ps |-;show ps.imp_of_mem λ{i j} hi hj h=>?_;let gt:∀i,i∈ix->(wf.map kyT).getD i []=kyT (wf.getD i (0,0,0)):=λi hi=>by
  let a6:i<↑wf:=by rw[<-aE v];show aS i hi
  simp[List.getD,aU a6]
 rw[gt i hi,gt j hj] at h;show h
end
def N5{g:TG}{x:V}{tb:TS}{rt:VK}{bk P:St->Hp->Prop}(h:∀N:St->Hp->Prop,(∀Z' H',P Z' H'->N Z' H')->g x Z H\tb #[N,rt,bk,N]):g x Z H λσ2 H2=>tb #[P,rt,bk,P] σ2 H2:=h P λ_ _ z=>z
def Gb(vs:List V)(H:Hp)(Q:VK)(p:pR)(q:Int×Int)(m:Nat):Prop:=vs=[.ref p,.int (m:Int)]/\H p*>.lst (bT q)/\cP q/\m<=16/\
 ∀r vr ts a H',H r=n7->But p H H'->H' p*>.lst (bT a)->cP a->H' r*>.lst vr->ay H' vr ts->↑ts<=m->Good ts->Q (.ref r) H'
def Af:Sp:=λvs H Q _=>Exists\Ex3 (Gb vs H Q)
def Cov(ts:List Tri)(n:Nat):Prop:=∀c,Co ts c↔c<n
def Mp(h:Cs ts cs)(b:Cov ts n):↑cs=n:=by
 let nd:cs.Nodup:=h.1.imp λc=>bB c;have:cs.Perm (List.range n):=(CK nd OT).mpr λa=>by
  rw[iy,h.2 a];show Iff.trans ?_\b a;rw[cK];unfold flat;rw[iX];constructor
  .rintro⟨t,h1,h2⟩;erw[t,h1,‹h2›]
  rintro⟨t,h1,h2⟩;erw[t,h1,‹h2›]
 rw[this.length_eq,mF]
def Ij{a b x:Nat}(d:Cov ts n)(ha:a<n)(e:b<n)(hx:x<n\/x=n):Cov (ts++[(b,a,x)]) (if x=n then n+1 else n):=λc=>by
 have:Co (ts++[(b,a,x)]) c↔Co ts c\/c=b\/c=a\/c=x:=by
  rw[cK,cK];constructor
  .rintro⟨t,h1,h2⟩;rcases bo.mp h1 with h|h
   .exact .inl #[t,h,h2]
   rw[aG] at h;subst h;show .inr h2
  rintro (⟨t,h1,h2⟩|h)
  .exact#[t,d_ _ h1,h2]
  erw[(b,a,x),∅,h]
 rw[this,d c]
 split<;>lia
def Kk(a:Cov ts n):Cov (ts++[(n,n+1,n+2)]) (n+3):=λc=>by
 have:Co (ts++[(n,n+1,n+2)]) c↔Co ts c\/c=n\/c=n+1\/c=n+2:=by
  rw[cK,cK];constructor
  .rintro⟨t,h1,h2⟩;rcases bo.mp h1 with h|h
   .exact .inl #[t,h,h2]
   rw[aG] at h;subst h;show .inr h2
  rintro (⟨t,h1,h2⟩|h)
  .exact#[t,d_ _ h1,h2]
  erw[(n,n+1,n+2),∅,h]
 rw[this,a c];lia
def sdD(s:Nat×Nat):PyData:=.tuple [.int (s.1:Int),.int (s.2:Int)]
def lM{ss:List (Nat×Nat)}(h:SdsAt H vs ss):Dts K H vs (ss.map sdD):=by
 induction h with
 |nil=>show .nil
 |cons q _ b=>
  let#[a,1,ha]:=q;show .cons (.tup (SqT.of ha)\.cons (.int _) (.cons (.int _) .nil)) b
def zo(ss:List (Nat×Nat)):(PyData.list\ss.map sdD).depth<=60:=by
 have:PyData.depthAll (ss.map sdD)<=1:=by
  induction ss with
  |nil=>show a_ _
  |cons u us a=>
   rw[br];change max (sdD u).depth _<=1;have:(sdD u).depth=1:=by simp[sdD,PyData.depth,PyData.depthAll]
   lia
 change PyData.depthAll _+1<=60;lia
def AJ(ds:List vu):PyData.eqv (.list ds) (.list [])=ds.isEmpty:=by cases ds<;>simp[PyData.eqv,PyData.eqvAll]
def free_of{ts:List Tri}(g:Good ts){x:Tri}(h:∀s∈b_ x,∀c,¬En ts s.1 s.2 c):jv ts x=oD:=by unfold jv;rw[jF];intro s d;show Rz λz=>?_;let#[#[#[a,b],c],h1,1]:=ax.mp z;show h (a,b) d c h1
section
def gI:aR [↑1,↑30,↑0,↑75,↑98,"_law_come",↑80,↑49,↑70,↑5,"_law_some","_law_near"] [↑1,↑30] (au ql):=.f
def Hu{f f1 f2 f3 f4 f5:pR}{fd d1 d2 d3 d4 d5:ro}(U:Fun K ↑76 ↑76 ql f fd)(T:cu mg)
  (GD:!Use 2 ↑31 [↑1,↑48] jd f1 d1)
  (GT:!Use 2 ↑25 [↑0] i_ f2 d2)
  (GF:!Use 2 ↑77 [↑5,↑6] vn f3 d3)
  (GR:!Use 2 ↑34 [↑0] vL f4 d4)
  (GC:!Use 2 ↑16 [↑0] h_ f5 d5) :
  !aj CX0 3 f fd [↑1,↑30] Af:=by
 show U.ok gI (!3) λRD A outer s H vs Q E C h=>?_
 let#[p,q,m,1,hp,bw,hm,Qq]:=h;let hu:=dA C;erw[_,(af (sx 2 gI.nd\bO fB)
  (af (dC dq rfl (nr rfl T.range\pa1 (uc GD C\ae (pv 0) (pa1\aH dM (pv 1) ah))) (gx 3 gI.nd)
   (af (sx 4 gI.nd\uc GR C (pa1\pv 2))
  (af (sx 5 gI.nd\uc GC C (pa1\pv 2))
  (af (sx 6 gI.nd\pln T.len (pv 5))
  (af (a8 (aQ (vC C.units) (pv 4) (bO fB)\nomark _) (af (dJ\dR eG gw gz fm (pv 2) (pa1\aD (ae (pv 6)\ae (aH dM (pv 6) ah) (pa1\aH dM (pv 6) ah))))
  (ak D6)) aY)
  (af (fu (ixx cJ (pv 4)\uc GD C (ae (pv 0)\pa1 (pln T.len\pv 4)))\dn rfl (aV (gx 7 gI.nd)\aV (gx 8 gI.nd) dh))
  (af (sx 9 gI.nd\uc GT C (pa1\pv 2))
  (af (vy (i:=10) gI.nd rfl (.inl rfl)\aH eJ (dv (N:=["_law_x",↑49,↑70,↑5]) (fr:=[n7,oy 7,oy 8,oy 9])  cpK rfl (bQ\pv 5)
    (λC' s' H' fp RC=>#[(gx 0 (⋯:(["_law_x",↑49,↑70,↑5]:List Str).Nodup)),fU\PW.pt (ff (aQ (show OpR _ (sD .NotIn) (rIn [] oD) from i7) (pv 0) (aD\ae (pv 1) (pa1\pv 2)) rfl)\ft (dQ\uc GF C (ae (pv 3)\pa1 (aD\ae (pv 2) (ae (pv 1)\pa1 (pv 0)))))),(pv 0)])) (bO\pa1 (pv 6)))
  (af (vy (i:=11) gI.nd rfl (.inl rfl)\aH eJ (dv (N:=["_law_x",↑49,↑70,↑98]) (fr:=[n7,oy 7,oy 8,oy 4])  cpK rfl (bQ\pv 10)
    (λC' s' H' fp RC=>#[(gx 0 (⋯:(["_law_x",↑49,↑70,↑98]:List Str).Nodup)),fU\PW.pt (gQ (aQ (show OpR _ (sD .In) (j_ [] p6) from By C.units) (aD\ae (pv 2) (pa1\pv 0)) (pv 3) rfl)\iK (aQ (show OpR _ (sD .In) (j_ [] p6) from By C.units) (aD\ae (pv 0) (pa1\pv 1)) (pv 3) rfl)),(pv 0)])) (pv 10))
  (ak\dJ (dR eG gw gz fm (pv 2)\pa1 (aD\ae (pv 8) (ae (pv 7)\pa1 (ixx cJ (pv 11)\uc GD C (ae (pv 0)\pa1 (pln T.len\pv 11))))))))))))))))
  (ak\aF (pv 2)))),?_]
 let dm:=line5000;erw[a_ _,λl H1 a3 s1 y1=>?_];let#[d3,d4]:=eR (q:=q) (b:=(m:Int)+1) ();erw[3,6,p,q,2,s1>>hp,bw,(),lg20 (),λH2 k2 y2=>#[2,(),(),?_]];let a4:l≠p:=λz=>by rw[z,hp] at a3;cases a3
 let hN:(digO q ((m:Int)+1)).toNat<=m:=();generalize (digO q ((m:Int)+1)).toNat=N at hN;show ny (lo:=0) (n:=N) (λi Z H'=>∃o3 o4 o5 o6 o7 o8 o9 oa ob v g q' n,Z=[oy\V.ref p,oy\.int (m:Int),oy\.ref l,o3,o4,o5,o6,o7,o8,o9,oa,ob]/\But p H H'/\H' p*>.lst (bT q')/\cP q'/\H' l*>.lst v/\ay H' v g/\↑g<=i/\Good g/\Cov g n)
  #[n7,n7,n7,n7,n7,n7,n7,n7,n7,[],[],_,(0),1,λd o nb e=>(k2 d nb)<*(s1>>e),y2,dz bw,(k2 l a4)<*y1,.nil,aq _,#[∅,by simp[ents]],λc=>by simp[cK]] ?_ ?_
 .rintro i Z H4 hi ⟨o3,o4,o5,o6,o7,o8,o9,oa,ob,v,g,R,n,rfl,sm,ad,ap,ab,ag,ch,I,al⟩;show N5 λNX hN=>?_;let dp:↑g<=16:=();let dr:=aE ag;let fin:∀(t:pR)(u:Tri)(r:Hp)(q8:Int×Int)(n':Nat)(x3 x4 x5 x6 x7 x8 x9 xa xb:Option V),But p H r->r p*>.lst (bT q8)->cP q8->r l*>.lst v->ay r v g->r t*>.tup [.int (u.1:Int),.int (u.2.1:Int),.int (u.2.2:Int)]->Good (g++[u])->Cov (g++[u]) n'->∀B:Hp,(∀d,d≠l->B d=r d)->B l*>.lst (v++[V.ref t])->
    ∃o3 o4 o5 o6 o7 o8 o9 oa ob bx a5 q' n',[oy\V.ref p,oy\.int (m:Int),oy\.ref l,x3,x4,x5,x6,x7,x8,x9,xa,xb]=[oy\V.ref p,oy\.int (m:Int),oy\.ref l,o3,o4,o5,o6,o7,o8,o9,oa,ob]/\But p H B/\B p*>.lst (bT q')/\cP q'/\B l*>.lst bx/\ay B bx a5/\↑a5<=i+1/\Good a5/\Cov a5 n':=by
   intro t u r q8 n' x3 x4 x5 x6 x7 x8 x9 xa xb b8 p8 k8 f8 a6 ht g8 c8 B k9 y9;let tn:∀{d:pR}{xs:List V},r d*>.tup xs->d≠l:=λe=>bW e f8 ∅;erw[8,8,8,_,g++[u],q8,n',1,λd o nb e=>(k9 d\ao e a3).trans\b8 d o nb e,(k9 p\aA a4)<*p8,k8,y9,?_,by rw[bj,cw];lia,g8,c8];show bR (Paired.imp' (by rintro _ _ ⟨d,S,X⟩;erw[d,S,(k9 _\tn X)<*X]) a6)\.cons #[t,1,(k9 _\tn ht)<*ht] .nil
  let be:∀{a b c:Nat},En g a b c->a<n/\b<n:=λ{a b c} e=>#[(al a).mp #[b,c,e],(al b).mp #[c,a,I.sk.rot e]];erw[2,l,v,g,1,ab,ag,(),I.nd,λRm zs rs H5 ci s5 y5 sd cj ds _=>?_];erw[2,l,v,g,1,s5>>ab,ag.same s5,(),λL cs H6 bA s6 y6 bK lcs=>?_];let bM:=Mp bK al;erw[2,L,2,.inl\SqL.of y6,?_];rw[bH,bM];let cl:=s5<*s6;erw[2,a_ _,λz H7 hz s7 y7=>?_];let am:=cl<*s7;erw[.list\rs.map sdD,.list [],.lst (SqL.of (s7>>s6>>y5))\lM (K31.SdsAt.same s7\K31.SdsAt.same s6 sd),.lst (SqL.of y7) .nil,zo rs,2,?_];rw[Rx bG,AJ];cases rs with
  |nil=>
   show aP #[2,.inl #[1,_,SqL.of (am>>ab)],3,6,2,6,lit3,λt r ht s8 y8=>?_];let aM:=am<*s8;erw[l,v,2,1,aM>>ab,(),λB k9 y9=>hN _ _ ?_];show fin t (n,n+1,n+2) r R (n+3) _ _ _ _ _ _ _ _ _ (sm.same aM) (aM>>ad) ap (aM>>ab) (ag.same aM) y8 (pT I #[by change n≠n+1;lia,by change n+1≠n+2;lia,by change n+2≠n;lia] (free_of I λs hs c e=>?_)) (Kk al) B k9 y9;have:=be e;simp only[b_,aT,eZ,or_false] at hs;rcases hs with rfl|rfl|rfl<;>simp only at this<;>lia
  |cons r0 rs=>
   show az ?_;generalize co:r0::rs=rl at *;let dt:0<↑rl:=by rw[<-co];simp
   let dx:=aE sd;let#[S,X]:=eR (q:=R) (b:=(↑zs:Int)) ();let#[k,hk]:∃k:Nat,digO R (↑zs:Int)=(k:Int):=#[_,(jE S).symm];let cp:k<↑rl:=();let#[#[a,b],bN]:∃s,rl[k]?*>s:=#[_,aU cp];let#[zv,cr,tt,1,cx]:=vA sd bN;let#[bS,cy]:=cj (a,b)\a9 bN;erw[3,2,Rm,2,.inl\SqL.of (s7>>s6>>y5),p,R,2,am>>ad,ap,(),i9 () (),λr k8 y8=>?_];rw[hk];let c0:∀{d:pR}{o:HO},H4 d=n7->H7 d*>o->d≠p:=λh0 h1 z=>by rw[z,ad] at h0;cases h0
   let an:∀d o,d≠p->H7 d*>o->r d*>o:=λd o nb e=>(k8 d nb)<*e;let bX:H7 Rm*>.lst zs:=s7>>s6>>y5;let b0:=an _ _ (c0 ci bX) bX;let b3:H7 tt*>.tup [.int (a:Int),.int (b:Int)]:=s7>>s6>>cx;let bi:=am>>ad;let c1:=an _ _ (bW b3 bi ∅) b3;let c2:SdsAt r zs rl:=Paired.imp' (by rintro _ _ ⟨d,S,X⟩;erw[d,S,by let M:=s7>>s6>>X;show an _ _ (bW M bi ∅) M]) sd;let bl:=an _ _ a4 (am>>ab);let a6:ay r v g:=Paired.imp' (by rintro _ _ ⟨d,S,X⟩;erw[d,S,by let M:=am>>X;show an _ _ (bW M bi ∅) M]) ag;let c3:H7 L*>.lst (nV cs):=s7>>y6;let c4:L≠p:=λzz=>by rw[zz,s5>>ad] at bA;cases bA
   let b4:=an _ _ c4 c3;let c5:But p H r:=λd o nb e=>an _ _ nb (am>>(sm d o nb e));let#[c6,da]:a<n/\b<n:=by let#[#[#[x,y],c],h1,h2]:=ax.mp bS;cases h2;show be h1
   let b5:a≠b:=by let#[#[#[x,y],c],h1,h2]:=ax.mp bS;cases h2;show I.sk.ne h1
   erw[Rm,zs,(k:Int),2,1,SqL.of b0,aZ cr,tt,2,SqT.of c1,1,9,6,?_];erw[2,l,v,g,1,bl,a6,(),I.nd,λD B dy s9 y9=>?_];erw[2,L,1,#[_,SqL.of (s9>>b4)],λZ_ hZ=>dG (K:=[]) (a:=L) (xs:=nV cs) (λi Z ys H'=>∃o sl,Z=[o,oy\.int (a:Int),oy\.int (b:Int),oy\.ref D]/\Same B H'/\H' Z_*>.lst ys/\ys=nV sl/\(∀x∈sl,x<n/\x≠a/\x≠b/\jv g (b,a,x)=oD)/\↑sl<=i)
    #[n7,[],1,bL hZ,aI,1,∅,aq _] (by rintro i Z ys H' _ ⟨_,_,_,e,_⟩;show SqL.of (e>>s9>>b4)) ?_ ?_]
   .rintro j y Z ys H' hj ⟨o,sl,rfl,sj,b6,rfl,aS,b7⟩;rw[nV,bu] at hj;let#[x,hx,1]:=cA.mp hj;let b9:=(aN.mp hx).1;let db:x<n:=by
     show (al x).mp ?_;have:=(bK.2 x).mp\a9 hx;rw[cK];unfold flat at this;rw[iX] at this;let#[t,h1,h2]:=this;erw[t,h1,‹h2›]
    erw[3,2,lit2,λt1 Ha g1 sA yA=>?_];erw[t1,2,.inr\SqT.of yA,5,2,?_];change if (if oD=oD then !inV (V.int (x:Int)) (nV [a,b]) else _)=oD then _ else _
    rw[Ry rfl,gP];by_cases a0:x∈[a,b]
    .rw[Rz a0];show az\az #[_,sl,1,sj<*sA,sA>>b6,1,aS,()]
    rw[RA a0];show aP #[3,3,lit3,λt2 Hb g2 sB yB=>?_];erw[D,t2,g,(b,a,x),1,sB>>sA>>sj>>y9,yB,λHc sC=>?_];let ca:=(sj<*sA<*sB)<*sC;let cb:=sC>>sB>>sA>>b6;erw[2,?_];by_cases bm:jv g (b,a,x)=oD
    .rw[bm];show aP #[2,cb,by rw[bH];lia,λH3 k3 y3=>#[_,sl++[x],1,λd o e=>(k3 d\ao e hZ)<*(ca>>e),y3,by rw[oj,fC],λy hy=>?_,by rw[bj,cw];lia]]
     .rcases bo.mp hy with h|h
      .exact aS y h
      rw[aG.mp h];simp at a0;erw[db,a0.1,a0.2,bm]
    rw[Os.mpr bm];show az #[_,sl,1,ca,cb,1,aS,()]
   rintro Z ys Ha ⟨o,sl,rfl,sA,dc,rfl,aS,b7⟩;rw[bH,bM] at b7;erw[2,lit1,λl1 Hb g1 sB yB=>?_];erw[Z_,l1,6,sB>>dc,yB,by rw[bH];simp only[cw];lia,λSo Hc g2 sC yC=>?_];rw[oj,fC] at yC;let bb:=(sA<*sB)<*sC;erw[2,So,1,#[_,SqL.of yC],λY hY=>dG (K:=[]) (a:=So) (xs:=nV (sl++[n])) (λi Z ys H'=>∃o nl,Z=[o,oy\.int (a:Int),oy\.int (b:Int),oy\.ref Rm]/\Same Hc H'/\H' Y*>.lst ys/\ys=nV nl/\(∀x∈nl,x∈sl++[n])/\↑nl<=i)
    #[n7,[],1,bL hY,aI,1,∅,aq _] (by rintro i Z ys H' _ ⟨_,_,_,e,_⟩;show SqL.of (e>>yC)) ?_ ?_]
   .rintro j y Z ys H' hj ⟨o,nl,rfl,sj,cc,rfl,bc,cd⟩;rw[nV,bu] at hj;let#[x,hx,1]:=cA.mp hj;let b9:=(aN.mp hx).1;rw[bj,cw] at b9;let dd:=a9 hx;let ce:∀{Hx:Hp},Same H' Hx->Hx Rm*>.lst zs/\SdsAt Hx zs rl:=λsx=>#[sx>>sj>>bb>>s9>>b0,K31.SdsAt.same (s9<*bb<*sj<*sx) c2];let take:∀Hx:Hp,Same H' Hx->Hx Y*>.lst (nV nl)/\(nV nl).length<qs/\∀H3:Hp,(∀d,d≠Y->H3 d=Hx d)->H3 Y*>.lst (nV nl++[V.int (x:Int)])->∃o bn,[oy\V.int (x:Int),oy\.int (a:Int),oy\.int (b:Int),oy\.ref Rm]=[o,oy\.int (a:Int),oy\.int (b:Int),oy\.ref Rm]/\Same Hc H3/\H3 Y*>.lst (nV nl++[V.int (x:Int)])/\nV nl++[V.int (x:Int)]=nV bn/\(∀y∈bn,y∈sl++[n])/\↑bn<=j+1:=λHx sx=>by
     erw[sx>>cc,by rw[bH];lia,λH3 k3 y3=>#[_,nl++[x],1,λd o e=>(k3 d\ao e hY)<*(sx>>sj>>e),y3,by rw[oj,fC],λy hy=>?_,by rw[bj,cw];lia]]
     rcases bo.mp hy with h|h
     .exact bc y h
     rw[aG.mp h];show dd
    erw[3,lit2,λt1 Hd g1 O yD=>?_];let#[r1,r2]:=ce O;erw[2,sdD (b,x),Rm,zs,_,.tup (SqT.of yD)\.cons (.int _) (.cons (.int _) .nil),1,.inl\SqL.of r1,lM r2,by change max 0 (max 0 0)+1<=60;decide,2,?_];rw[Rx bG];generalize (rl.map sdD).any _=b1;cases b1 with
    |true=>show aP\aP #[2,take Hd O]
    |false=>
     show az #[3,lit2,λt2 He g2 sE yE=>?_];let#[r1,r2]:=ce\O.trans sE;erw[2,sdD (x,a),Rm,zs,_,.tup (SqT.of yE)\.cons (.int _) (.cons (.int _) .nil),1,.inl\SqL.of r1,lM r2,by change max 0 (max 0 0)+1<=60;decide,2,?_];rw[Rx bG];generalize (rl.map sdD).any _=b2;cases b2 with
     |true=>show aP #[2,take He\O.trans sE]
     |false=>show az #[_,nl,1,sj.trans\O.trans sE,sE>>O>>cc,1,bc,()]
   rintro Z ys Hd ⟨o,nl,rfl,O,df,rfl,bc,cd⟩;rw[bH,bj,cw] at cd;erw[2,Y,So,6,df,O>>yC,by rw[bH,bH,bj,cw];lia,λNr He g3 sE yE=>?_];rw[fC] at yE;let a1:Same r He:=(s9<*bb<*O)<*sE;let cf:He p*>.lst (bT\nxt R (↑zs:Int)):=a1>>y8;let#[M,e4]:=eR (q:=nxt R (↑zs:Int)) (b:=(↑(nV (nl++(sl++[n]))):Int)) (by rw[bH];simp only[bj,cw];lia);let#[a2,di]:∃k:Nat,digO (nxt R (↑zs:Int)) (↑(nV (nl++(sl++[n]))):Int)=(k:Int):=#[_,(jE M).symm];let dF:↑(nV (nl++(sl++[n])))=↑nl+(↑sl+1):=by rw[bH];simp
   let dj:a2<↑(nl++(sl++[n])):=by let l2:=bH (nl++(sl++[n]));lia
   let bt:(nl++(sl++[n]))[a2]?*>(nl++(sl++[n]))[a2]:=aU dj;generalize (nl++(sl++[n]))[a2]=x at bt;let dk:x∈sl++[n]:=by
    rcases bo.mp (a9 bt) with h|h
    .exact bc x h
    show h
   erw[2,.inl #[1,_,SqL.of (a1>>bl)],3,3,2,Nr,2,.inl\SqL.of yE,p,9,cf,dz ap,(),i9 () (),λHf kf yf=>?_];rw[di];let bd:∀d o,d≠p->He d*>o->Hf d*>o:=λd o nb e=>(kf d nb)<*e;let dl:Nr≠p:=λzz=>by rw[zz,O>>bb>>s9>>y8] at g3;cases g3
   erw[Nr,_,(a2:Int),2,1,SqL.of\bd _ _ dl yE,aZ\vD bt,lit3,λt Hg ht sG yG=>?_];let cg:=sG>>(bd _ _ a4 (a1>>bl));erw[l,v,2,1,cg,(),λB k9 y9=>hN _ _ ?_];let good:Good (g++[(b,a,x)])/\(x<n\/x=n):=by
    rcases bo.mp dk with h|h
    .let#[h1,h2,h3,h4]:=aS x h;erw[pT I #[aA b5,aA h2,h3] h4,.inl h1]
    rw[aG.mp h];erw[pT I #[aA b5,by change a≠n;lia,by change n≠b;lia] (free_of I λs hs c e=>?_),.inr rfl];let hn:=be e;simp only[b_,aT,eZ,or_false] at hs;rcases hs with rfl|rfl|rfl
    .exact cy\ax.mpr #[_,e,1]
    .simp only at hn;lia
    simp only at hn;lia
   show fin t (b,a,x) Hg _ _ _ _ _ _ _ _ _ _ _ (λd o nb e=>sG>>(bd _ _ nb (a1>>(c5 d o nb e)))) (sG>>yf) (dz\dz ap) cg (Paired.imp' (by rintro _ _ ⟨d,S,X⟩;erw[d,S,by let M:=a1>>X;show sG _ _\bd _ _ (bW M cf ∅) M]) a6) yG good.1 (Ij al c6 da good.2) B k9 y9
 rintro Z H4 ⟨o3,o4,o5,o6,o7,o8,o9,oa,ob,v,g,R,n,rfl,sm,ad,ap,ab,ag,ch,I,al⟩;erw[2,Qq l v g R H4 a3 sm ad ap ab ag () I]
end
def Nh{s:Nat×Nat}(h:H a*>sdT s.1 s.2):Dt [] H (.ref a) (sdD s):=.tup (SqT.of h)\.cons (.int _) (.cons (.int _) .nil)
def Mu(ss:List (Nat×Nat))(s:Nat×Nat):((ss.map sdD).any λz=>PyData.eqv z\sdD s)=decide (s∈ss):=by
 let f:∀s u:Nat×Nat,PyData.eqv (sdD s) (sdD u)=decide (s=u):=λ⟨a,b⟩ ⟨c,d⟩=>by
  rw[eW];simp[sdD,PyData.eqv,PyData.eqvAll];lia
 rw[eW,mz,decide_eq_true_iff];constructor
 .rintro⟨z,hz,e⟩;let#[u,g,1]:=ax.mp hz;rw[f] at e;rw[<-RB e];show g
 intro h;erw[sdD s,ax.mpr #[s,h,1],by rw[f];show Rz rfl]
def kg(a b:Nat)(t:Tri):Bool:=decide ((a,b)∈b_ t)
def oth(us:List Tri)(a b:Nat):List Tri:=us.filter λt=>!(kg a b t)
def IJ(vs:List V)(H:Hp)(Q:VK)(T S:pR)(c:List V)(us:List Tri)(a b:Nat):Prop:=vs=[.ref T,.ref S]/\H T*>.lst c/\ay H c us/\↑us<=200/\H S*>sdT a b/\
 ∀r vr H',H r=n7->Same H H'->H' r*>.lst vr->ay H' vr (oth us a b)->Q (.ref r) H'
def Bi:Sp:=λvs H Q _=>Exists\Ex6 (IJ vs H Q)
section
def K9:aR [↑0,↑38] [↑0,↑38] (au pX):=.f
def JK{f M:pR}{fd O:ro}(U:Fun K ↑61 ↑61 pX f fd)(G:!Use 1 ↑44 [↑6] lq M O) :
  !aj CX0 2 f fd [↑0,↑38] Bi:=by
 show U.ok K9 (!6) λRD A outer s H vs Q E x h=>?_
 let#[T,S,R,us,a,b,1,y,tr,hl,X,q]:=h;erw[_,ak\aF (dv (N:=[↑6,↑38]) (fr:=[n7,oy 1]) (tt:=fM\tOp (j_ [] oD) (aK 1) (rH lq [] E0\ck (aK 0) dH)) cpK rfl (bQ\pv 0)
    (λC s H fp RC=>#[gx 0 (⋯:([↑6,↑38]:List Str).Nodup),fU\aQ (tZ x.units) (pv 1) (uc G x\pa1 (pv 0)) rfl,pv 0])),?_]
 let hz:=line5000;let Y:=aE tr;erw[2,T,1,#[_,SqL.of y],λZ_ l=>dG (K:=[]) (a:=T) (xs:=R) (λi Z zs H'=>∃o,Z=[o,oy\.ref S]/\Same H H'/\H' Z_*>.lst zs/\ay H' zs\oth (us.take i) a b) #[n7,1,bL l,aI,.nil]
   (by rintro i Z ys H' _ ⟨_,_,e,_⟩;show SqL.of (e>>y)) ?_ ?_]
 .rintro i v Z zs H' hi ⟨o,rfl,sm,ab,tz⟩;let#[d,hs,t,1,hb]:=bV tr hi;let m:=sm>>hb;let ew:oth (us.take (i+1)) a b=oth (us.take i) a b++oth [d] a b:=by rw[bE,hs];unfold oth;rw[fT];rfl
  let lz:↑zs<=200:=by let h2:↑(oth (us.take i) a b)<=↑(us.take i):=dI _ _;rw[bz] at h2;rw[aE tz];lia
  erw[3,t,d,1,m,λr ss B ag c y5 sd=>?_];erw[sdD (a,b),r,ss,_,Nh (s:=(a,b)) (c>>sm>>X),1,.inl\SqL.of y5,lM sd,by simp[sdD,PyData.depth,PyData.depthAll],2,?_];rw[Mu,Ry rfl,ew];let n:=c>>ab;let D:ay B zs (oth (us.take i) a b):=Paired.imp' (by rintro _ _ ⟨g,p,j⟩;erw[g,p,c>>j]) tz;by_cases hm:(a,b)∈b_ d
  .rw[Rz hm];show az #[2,sm<*c,n,?_];rw[show oth [d] a b=[] from wA.mpr λz hz=>by rw[aG.mp hz,kg,Rz hm];simp,eX];show D
  rw[RA hm];show aP #[2,n,(),λHn u yn=>#[2,λb o e=>(u b\ao e l)<*(c>>sm>>e),yn,?_]];rw[show oth [d] a b=[d] from wB.mpr λz hz=>by rw[aG.mp hz,kg,RA hm];rfl];let I:∀{g:pR}{xs:List V},B g*>.tup xs->g≠Z_:=λe=>bW e n ∅;show bR (Paired.imp' (by rintro _ _ ⟨g,p,j⟩;erw[g,p,(u _\I j)<*j]) D)\.cons #[t,1,(u _\I (c>>m))<*(c>>m)] .nil
 rintro Z zs H3 ⟨o,rfl,s3,ad,L⟩;rw[Y,cn] at L;show q Z_ zs H3 l s3 ad L
end
section
variable {ts us:List Tri}{a b c d:Nat}
def Ka(t:Tri):kg a b t=oD↔∃c,((a,b),c)∈ents [t]:=by
 rw[kg,decide_eq_true_iff];constructor
 .intro h;simp only[b_,aT,eZ,or_false] at h;rcases h with e|e|e<;>cases e
  .exact#[_,cG.mpr\.inl (aG.mpr rfl)]
  .exact#[t.1,cG.mpr\.inr (.inl\aG.mpr rfl)]
  erw[t.2.1,cG.mpr\.inr (.inr\aG.mpr rfl)]
 rintro⟨c,h⟩;rcases cG.mp h with e|e|e<;>(rw[<-aG.mp e];simp[b_])
def vF(g:Good ts)(h:Alike us ts)(e:En ts a b c){t:Tri}(d:t∈us):kg a b t=decide (t=bg (a,b,c)):=by
 rw[eW,Ka,decide_eq_true_iff];constructor
 .rintro⟨x,hx⟩;let ex:En us a b x:=(cG.mpr (by
   rcases cG.mp hx with m|m|m<;>rw[<-aG.mp m] at d
   .exact .inl d
   .exact .inr (.inl d)
   show .inr\.inr d))
  let ex':=(h.en _ _ _).mp ex;obtain rfl:x=c:=g.sk.one ex' e;let f:=ne3 g e;rw[<-As h d];rcases cG.mp hx with m|m|m<;>rw[<-aG.mp m]
  .exact (rC (a:=x) (b:=a) (c:=b) #[f.2.2,f.1,f.2.1]).symm
  show rC f
 rintro rfl;erw[c,?_];rcases Cd (a,b,c) with z|z|z<;>rw[z]
 .exact cG.mpr\.inl (aG.mpr rfl)
 .exact cG.mpr\.inr (.inr\aG.mpr rfl)
 show cG.mpr\.inr (.inl\aG.mpr rfl)
def Bx(g:Good ts)(h:Alike us ts)(e:En ts a b c):oth us a b=wo us [(a,b,c)]:=sW λt d=>by
 rw[vF g h e d];simp
def Jz(g:Good ts)(h:Alike us ts)(e:En ts a b c)(i:En ts b a d):oth (oth us a b) b a=wo us [(a,b,c),(b,a,d)]:=by
 unfold oth;rw[CA];show sW λt f=>by
  rw[vF g h e f,vF g h i f,eW];simp;show And.comm
def GY(g:Good ts)(h:Alike us ts)(f:a≠b):oth (oth us a b) b a=us.filter (both a b):=by
 unfold oth;rw[CA];show sW λt c=>?_;let d:Ne3 t:=by let e:En ts t.1 t.2.1 t.2.2:=(h.en _ _ _).mp\cG.mpr (.inl c);show ne3 g e
 let#[p,q,r]:=t;let#[i,j,l]:p≠q/\q≠r/\r≠p:=d;unfold kg both;rw[eW];simp[b_];lia
end
end K15
namespace L2
open PySem PySem.Spec PyProof.Rows
section
variable {a b:Addr}{xs ys:List V}{g:TG}{tt:TT}{te:TE}{D:Addr}{Z':St}{H1:Hp}{Q:Hp->Prop}
def Ik(Pv:Nat->St->List V->Hp->Prop)(f:Pv 0 Z' []\upd H1 D (.lst []))(h:∀i Z zs H,Pv i Z zs H->SqL K H a xs/\SqL K H b ys)
  (j:∀i x y p Z zs H,xs[i]?*>x->ys[i]?*>y->Pv i Z zs H->H p=n7->g (.ref p) Z (upd H p\.tup [x,y])\oA tt te D zs (Pv (i+1)))
  (hd:∀Z zs H,Pv (min ↑xs ↑ys) Z zs H->Q H):jV (Itz K a b) g tt te D Z' H1 Q:=by
 erw[λi m Z zs H=>m=↑xs-i/\i<=↑xs/\i<=↑ys/\Pv i Z zs H,#[↑xs,∅,a_ _,a_ _,f],?_];rintro i m Z zs H ⟨rfl,hi,w,p⟩;let#[q,d]:=h i Z zs H p;by_cases c:i<↑xs/\i<↑ys
 .refine .inr #[#[xs,ys,xs[i]'c.1,ys[i]'c.2,q,d,aU c.1,aU c.2],Pv (i+1),λZ' z H' l=>#[↑xs-(i+1),(),1,c.1,c.2,l],λx H' y=>?_];let#[n,v,o,r,5,s,u]:=y;show j i v o n Z zs H (s xs q) (u ys d) p r
 let e:min ↑xs ↑ys=i:=();show .inl #[#[xs,ys,q,d,()],hd Z zs H (by rw[e];show p)]
end
end L2
namespace K15
open PySem L2 K51 K31 K71
def gZ(us:List Tri)(m n y:Nat)(rs:List Tri):Kd->Prop
 |.close=>∃rim,Cy (bq\En us) rim/\m∈rim/\rs=us++clo y rim
 |k=>Beh us us m n y rs k
def IL(vs:List V)(H:Hp)(Q:VK)(T d:pR)(a:List V)(us:List Tri)(k:Kd)(m n y:Nat):Prop:=vs=[.ref T,.ref d]/\H T*>.lst a/\ay H a us/\↑us<=200/\Skn us/\Alike us us/\eB H d k m n y/\Okd us k m n/\
 ∀rs r vr H',H r=n7->Same H H'->H' r*>.lst vr->ay H' vr rs->gZ us m n y rs k->Q (.ref r) H'
def Bk:Sp:=λvs H Q _=>Exists\Ex8 (IL vs H Q)
section
def jW:aR [↑0,↑7,↑49,↑70,↑5,"_law_c","_law_d","_law_left",↑98] [↑0,↑7] (au pZ):=.f
def uZ{us:List Tri}(g:Good us)(e:En us a b c):bp ((ents us).map bD) (ky a b)*>V.int (c:Int):=by
 rcases qc g a b with ⟨f,h,d⟩|⟨h,_⟩
 .rw[d,g.sk.one h e]
 show (h c e).elim
def Bq{us:List Tri}(c:Cyc (bq\En us) l){x:Nat}(hx:x∈l):x∈(ents us).map (·.1.1):=by let#[q,a]:=qr hx;let#[r,b]:=((vQ c.toPath λz s h1 h2=>c.back z s h1 h2).st _ _ a).1;show ax.mpr #[_,b,1]
def Jf{us:List Tri}(b:↑us<=200)(c:Cyc (bq\En us) l):↑l<=600:=by have:=ia c.nd λp a=>Bq c a;rw[av,el] at this;lia
def Gp{us:List Tri}(b:↑us<=200){ls:List\List Nat}(r:Rims (bq\En us) ls):↑ls<=600:=by
 let hd:∀l∈ls,l[0]?*>l.headD 0:=λl hm=>by
  cases l with
  |nil=>show ((r.cyc _ hm).ne rfl).elim
  |cons a l=>rfl
 let nd:(ls.map (·.headD 0)).Nodup:=by rw[List.Nodup,gq];show r.rise.imp_of_mem λh1 h2 h=>bB\h _ _ (hd _ h1) (hd _ h2)
 have:=ia (m:=(ents us).map (·.1.1)) nd λx hx=>by
  let#[l,hm,1]:=ax.mp hx;show Bq (r.cyc _ hm)\a9 (hd _ hm)
 rw[av,av,el] at this;lia
def wdT{D:Ends}{a b:Str}{t:TS}(h:H d*>.tup (.str a::xs))(c:Z[1]?*>oy\.ref d)(e:decide (V.str a=V.str b)=oD)(q:t D Z H):vX (fM\tOp rEq (tOp (ir []) (aK 1)\tC (.int 0)) (tC\.str b)) t u D Z H:=
 #[_,c,d,4,SqT.of h,aZ (j:=0) rfl,7,by rw[e];show aP q]
def wdF{D:Ends}{a b:Str}{u:TS}(h:H d*>.tup (.str a::xs))(c:Z[1]?*>oy\.ref d)(e:decide (V.str a=V.str b)=p6)(q:u D Z H):vX (fM\tOp rEq (tOp (ir []) (aK 1)\tC (.int 0)) (tC\.str b)) t u D Z H:=
 #[_,c,d,4,SqT.of h,aZ (j:=0) rfl,7,by rw[e];show az q]
def JM{f f1 f2 f3:pR}{fd d1 d2 d3:ro}(U:Fun K ↑63 ↑63 pZ f fd)(T:cu mg)(mZ:mg "zip" = n7)(GT:!Use 1 ↑25 [↑0] i_ f1 d1)(GO:!Use 2 ↑61 [↑0,↑38] Bi f2 d2)(GR:!Use 3 ↑93 [↑0] Ac f3 d3) :
  !aj CX0 4 f fd [↑0,↑7] Bk:=by
 show U.ok jW (!8) λRD A outer s H vs Q E a3 h=>?_
 let#[T0,d,vt,us,k,m,n,y,1,hT,tr,hl,sk,a4,dd,ok,q]:=h;let b2:=a3.mono (⋯:1<=3);let am:=a3.mono (⋯:2<=3);let hu:=dA a3;erw[_,(af (fu (ixx bf (pv 1) ah)\dn rfl (aV (gx 2 jW.nd)\aV (gx 3 jW.nd) dh))
  (af (sx 4 jW.nd\uc GT b2 (pa1\pv 0))
  (af (Lw (i:=5) (j:=6) rfl jW.nd rfl rfl ⋯ rfl rfl (ae (ie hu (pv 4) (aD\ae (pv 2) (pa1\pv 3)) λ_ _=>rfl)\pa1 (uv hu (pv 4) (aD\ae (pv 3) (pa1\pv 2)) #[5,5])) rfl)
  (af (a8 (aQ cq (ixx bf (pv 1) ah) a7\nomark _) (ak\aF (aH eJ (uc GO am\ae (uc GO am\ae (pv 0) (pa1\aD (ae (pv 2)\pa1 (pv 3)))) (pa1\aD (ae (pv 3)\pa1 (pv 2))))\bO (ae (aD\ae (pv 2) (ae (pv 6)\pa1 (pv 5)))\pa1 (aD\ae (pv 6) (ae (pv 3)\pa1 (pv 5)))))) aY)
  (af (a8 (aQ cq (ixx bf (pv 1) ah) a7\nomark _) (ak\aF (uc GO am\ae (pv 0) (pa1\aD (ae (pv 2)\pa1 (pv 3))))) aY)
  (af (a8 (aQ cq (ixx bf (pv 1) ah) a7\nomark _) (af (sx 7 jW.nd\uc GO am (ae (uc GO am\ae (pv 0) (pa1\aD (ae (pv 2)\pa1 (pv 3))))\pa1 (aD\ae (pv 3) (pa1\pv 2))))
  (ak\aF (dv (N:=[↑6,↑49,↑70]) (fr:=[n7,oy 2,oy 3]) (te:=(tCB (λxs H Q=>∃p ys,xs=[.ref p]/\((SqL [] H p ys/\∀l,H l=n7->Q (.ref l)\upd H l (.tup ys))\/(SqT [] H p ys/\Q (.ref p) H)))\ck (lZ (oE []\aK 0) (cZ 0) (λ_ H Q=>Q oD H) (tOp (sF []) (si\ck (aK 0) (ck (aK 1) dH))\tCB (λxs H Q=>(∃i,xs=[.int i]/\Q (.int i) H)\/∃k,xs=[.bl k]/\Q (.int (if k then 1 else 0)) H) (ck (tOp rEq (aK 0)\aK 2) dH)) [n7,oy 1,oy 2]) dH)) cpK rfl (bQ\pv 7)
    (λC s H fp RC=>#[(gx 0 (⋯:([↑6,↑49,↑70]:List Str).Nodup)),eu,(du kO (by rfl) T.tuple jJ\pa1 (dv (N:=[↑56,↑49,↑70]) (fr:=[n7,oy 1,oy 2]) (te:=(tOp (sF []) (si\ck (aK 0) (ck (aK 1) dH))\tCB (λxs H Q=>(∃i,xs=[.int i]/\Q (.int i) H)\/∃k,xs=[.bl k]/\Q (.int (if k then 1 else 0)) H) (ck (tOp rEq (aK 0)\aK 2) dH))) cpK rfl (lQ\pv 0)
    (λC2 s2 H2 cl co=>#[(gx 0 (⋯:([↑56,↑49,↑70]:List Str).Nodup)),eu,(ixx cJ (bO\ae (pv 0) (pa1\pv 1))\du ib (by rfl) T.int iz (pa1\e_ cq (pv 0) (pv 2) (nomark _)))])))])))) aY)
  (af (a8 (aQ cq (ixx bf (pv 1) ah) a7\nomark _) (ak\aF (aH eJ (uc GO am\ae (pv 0) (pa1\aD (ae (pv 2)\pa1 (pv 3))))\bO (ae (aD\ae (pv 2) (ae (pv 3)\pa1 (ixx bf (pv 1) ah)))\ae (aD\ae (pv 3) (ae (pv 5)\pa1 (ixx bf (pv 1) ah))) (pa1\aD (ae (pv 5)\ae (pv 2) (pa1\ixx bf (pv 1) ah)))))) aY)
  (af (a8 (aQ cq (ixx bf (pv 1) ah) a7\nomark _) (ak\aF (aH eJ (pv 0)\bO (pa1\aD (ae (pv 3)\ae (pv 2) (pa1\ixx bf (pv 1) ah))))) aY)
  (af (sx 8 jW.nd\ixx cJ (dv (N:=[↑98,↑49]) (fr:=[n7,oy 2]) (tt:=fM\tOp (rIn [] p6) (aK 1) (aK 0)) cpK rfl (bQ\uc GR a3 (pa1\pv 0))
    (λC s H fp RC=>#[(gx 0 (⋯:([↑98,↑49]:List Str).Nodup)),(fU\aQ i8 (pv 1) (pv 0) rfl),(pv 0)])) ah)
  (ak\aF (aH eJ (pv 0) (dv (N:=["_law_p","_law_q",↑7]) (fr:=[n7,n7,oy 1]) (g:=kh [] 2\fN (cZ 0) (fN (cZ 1) ki)) (te:=oz\ck (aK 1) (ck (aK 0)\ck (tOp (ir []) (aK 2)\tC (.int 2)) dH)) cpK rfl (Ly rfl mZ\ae (pv 8) (pa1\aH eJ (jc lx (pv 8) (ji ah) jj) (jc lx (pv 8) jj\ji ah)))
    (λC s H fp RC=>#[(dn rfl\aV (gx 0 (⋯:(["_law_p","_law_q",↑7]:List Str).Nodup)) (aV (gx 1 (⋯:(["_law_p","_law_q",↑7]:List Str).Nodup)) dh)),eu,(aD\ae (pv 1) (ae (pv 0)\pa1 (ixx bf (pv 2) ah)))]))))))))))))),?_]
 let cp:=line5000;let g:=sk.g;let#[sd,h1,h2]:=id dd;let#[c,hc]:=ok.a;erw[2,d,4,SqT.of h2,aZ (j:=1) rfl,sd,2,SqT.of h1,1,9,6,?_];erw[2,T0,vt,us,1,hT,tr,(),g.nd,λD H1 cr s1 hD=>?_];erw[3,2,lit2,λt1 H2 g1 s2 y2=>#[D,2,uZ g hc ▸ DGet.t (k:=ky m n) (s2>>hD) y2,?_]];erw[2,D,1,.inr #[_,.inl (s2>>hD)],3,lit2,λt2 H3 g2 s3 y3=>?_];let ag:=(s1<*s2)<*s3;let#[o,ho,b3]:∃o,bp ((ents us).map bD) (ky n m)=o/\∀e,En us n m e->o*>.int (e:Int):=#[2,λe he=>uZ g he];erw[o,ho ▸ DGet.t (k:=ky n m) (s3>>s2>>hD) y3,9,?_];let u:=ag>>h2;let lo:∀a b,↑(oth us a b)<=200:=λa b=>cR (dI _ _) hl;cases k with
 |turn=>
  let#[e,he]:=ok.b rfl;obtain rfl:=b3 e he;show wdT u rfl rfl ?_;erw[3,2,lit2,λt4 H4 g4 s4 R=>?_];let I:=ag<*s4;erw[T0,t4,vt,us,m,n,1,I>>hT,tr.same I,hl,R,λr1 v1 H5 al O y5 ab=>?_];erw[3,lit2,λt6 H6 g6 B y6=>?_];erw[r1,t6,v1,_,n,m,1,B>>y5,ab.same B,lo m n,y6,λr2 v2 H7 b4 S y7 bd=>?_];rw[Jz g a4 hc he] at bd;erw[3,2,lit3,λt8 H8 g8 s8 y8=>?_];erw[3,2,lit3,λt9 H9 g9 M y9=>?_];let y8:H8 t8*>tri3 (m,e,c):=y8;let y9:H9 t9*>tri3 (e,n,c):=y9;erw[lit2,λl Ha ga sa ya=>?_];let a5:=(s8<*M)<*sa;let ap:=(I<*O<*B)<*S;let l2:=aE bd;let l3:↑(wo us [(m,n,c),(n,m,e)])<=↑us:=dI _ _;erw[r2,l,6,a5>>y7,ya,by simp;lia,λp Hb gb sb yb=>?_];show q _ p _ Hb (eI (ap<*a5) gb) (ap<*a5<*sb) yb (bR (bd.same\a5.trans sb)\.cons #[t8,1,sb>>sa>>M>>y8] (.cons #[t9,1,sb>>sa>>y9] .nil)) #[c,e,hc,he,1]
 |out=>
  show wdF u rfl rfl\wdT u rfl rfl ?_;erw[3,2,lit2,λt4 H4 g4 s4 R=>?_];let I:=ag<*s4;erw[T0,t4,vt,us,m,n,1,I>>hT,tr.same I,hl,R,λr1 v1 H5 al O y5 ab=>?_];rw[Bx g a4 hc] at ab;show q _ r1 v1 H5 (eI I al) (I<*O) y5 ab #[c,hc,1]
 |draw=>
  show wdF u rfl rfl\wdF u rfl rfl (wdT u rfl rfl ?_);erw[3,2,lit2,λt4 H4 g4 s4 R=>?_];let I:=ag<*s4;erw[T0,t4,vt,us,m,n,1,I>>hT,tr.same I,hl,R,λr1 v1 H5 al O y5 ab=>?_];erw[3,lit2,λt6 H6 g6 B y6=>?_];erw[r1,t6,v1,_,n,m,1,B>>y5,ab.same B,lo m n,y6,λr2 v2 H2 b4 S bx be=>?_];let b5:m≠n:=(ne3 g hc).1;rw[GY g a4 b5] at be;let ap:=(I<*O<*B)<*S;let b6:=aE be;let lf:=dI (both m n) us;let fv:∀z:Nat,atI [V.int (z:Int),V.int (m:Int)] (if decide ((z:Int)=(n:Int))=oD then 1 else 0)*>V.int (onto m n z:Int):=λz=>by
   unfold onto;by_cases h:z=n
   .rw[Ry\Rz (),Ry h];show aZ (j:=1) rfl
   rw[Rx (by simp;lia),Rx h];show aZ (j:=0) rfl
  erw[2,r2,1,#[_,SqL.of bx],λY hY=>dG (K:=[]) (a:=r2) (xs:=v2) (λi Z zs H'=>∃o,Z=[o,oy\.int (m:Int),oy\.int (n:Int)]/\ay H' zs (((us.filter\both m n).take i).map\rep m n)/\Same H2 H'/\H' Y*>.lst zs) #[n7,1,.nil,bL hY,aI] (by rintro i Z zs H' _ ⟨_,_,_,e,_⟩;show SqL.of (e>>bx)) ?_ ?_]
  .rintro i v Z zs H' hi ⟨o,rfl,aM,a6,aS⟩;let#[#[p,q',r],hs,t,1,hb]:=bV be hi;let hb:H2 t*>.tup (nV [p,q',r]):=hb;let bA:=a6>>hb;let cx:↑zs<=200:=by rw[aE aM,av,bz];lia
   erw[2,t,1,#[_,SqT.of bA],λW hW=>nG (K:=[]) (a:=t) (xs:=nV [p,q',r]) (λk Z a0 an=>∃o,Z=[o,oy\.int (m:Int),oy\.int (n:Int)]/\a0=nV (([p,q',r].take k).map\onto m n)/\Same H' an/\an W*>.lst a0) #[n7,5,bL hW,aI] (by rintro k Z a0 an _ ⟨_,_,_,e,_⟩;show SqT.of (e>>bA)) ?_ ?_]
   .rintro k x' Z a0 an hk ⟨o,rfl,rfl,sY,bi⟩;rw[nV,bu] at hk;let#[z,bK,1]:=cA.mp hk;let c0:k<3:=(aN.mp bK).1;erw[3,lit2,λl2 c1 c2 bM b7=>?_];erw[3,1,.inr #[2,l2,0,V.int (onto m n z:Int),5,SqL.of b7,?_,bM>>bi,?_,λHn kn yn=>#[2,?_,λX o e=>(kn X\ao e hW)<*(bM>>sY>>e),yn]]]
    .rw[gU];show fv z
    .rw[bH,av,bz];have:↑([p,q',r]:List Nat)=3:=rfl;lia
    rw[bE,bK,aW,<-fC];rfl
   rintro Z a0 an ⟨o,rfl,rfl,sY,bi⟩;erw[W,2,.inl #[SqL.of bi,λt' b8=>?_]];walk_at"an t' b8 H9 M y9";let bb:=M>>sY>>aS;let tn:∀{X:pR}{xs:List V},H9 X*>.tup xs->X≠Y:=λe=>bW e bb ∅;erw[bb,(),λc3 bm b9=>#[2,?_,λX o e=>(bm _\ao e hY)<*(M>>sY>>a6>>e),b9]];rw[bE,hs,aW];show bR (Paired.imp' (by rintro _ _ ⟨X,e1,e2⟩;erw[X,e1,by let e3:=M>>sY>>e2;show (bm _\tn e3)<*e3]) aM)\.cons #[t',1,(bm _\tn y9)<*y9] .nil
  rintro Z zs H' ⟨o,rfl,aM,a6,aS⟩;rw[b6,cn] at aM;show q _ Y zs H' (eI ap hY) (ap<*a6) aS aM rfl
 |inn=>
  show wdF u rfl rfl\wdF u rfl rfl (wdF u rfl rfl\wdT u rfl rfl ?_);erw[3,2,lit2,λt4 H4 g4 s4 R=>?_];let I:=ag<*s4;erw[T0,t4,vt,us,m,n,1,I>>hT,tr.same I,hl,R,λr1 v1 H5 al O y5 ab=>?_];rw[Bx g a4 hc] at ab;let ad:=I<*O;let d5:=SqT.of (K:=[]) (ad>>h2);erw[3,2,d,4,d5,1,lit3,λt6 H6 g6 B y6=>?_];let d6:=SqT.of (K:=[]) (B>>ad>>h2);erw[3,2,d,4,d6,1,lit3,λt7 H7 g7 S y7=>?_];let d7:=SqT.of (K:=[]) (S>>B>>ad>>h2);erw[3,2,d,4,d7,1,lit3,λt8 H8 g8 s8 y8=>?_];erw[lit3,λl Ha ga sa ya=>?_];let bc:=(B<*S<*s8)<*sa;let l2:=aE ab;let l3:↑(wo us [(m,n,c)])<=↑us:=dI _ _;erw[r1,l,6,bc>>y5,ya,by simp;lia,λp Hb gb sb yb=>?_];show q _ p _ Hb (eI (ad<*bc) gb) (ad<*bc<*sb) yb (bR (ab.same\bc.trans sb)\.cons #[t6,1,sb>>sa>>s8>>S>>y6] (.cons #[t7,1,sb>>sa>>s8>>y7]\.cons #[t8,1,sb>>sa>>y8] .nil)) #[c,hc,1]
 |on=>
  show wdF u rfl rfl\wdF u rfl rfl (wdF u rfl rfl\wdF u rfl rfl (wdT u rfl rfl ?_));erw[3,3,d,4,SqT.of u,1,lit3,λt4 H4 g4 s4 R=>?_];erw[lit1,λl H5 g5 O y5=>?_];let ca:=s4<*O;let ad:=ag<*ca;let l2:=aE tr;erw[T0,l,6,ad>>hT,y5,by simp;lia,λp H6 g6 B y6=>?_];show q _ p _ H6 (eI ad g6) (ad<*B) y6 (bR (tr.same\ad.trans B)\.cons #[t4,1,B>>O>>R] .nil) rfl
 |close=>
  show wdF u rfl rfl\wdF u rfl rfl (wdF u rfl rfl\wdF u rfl rfl (wdF u rfl rfl ?_));erw[2,T0,vt,us,1,ag>>hT,tr.same ag,hl,g,sk.o,λL ws ls H4 c4 s4 R bN rm=>?_];let lw:=aE bN;let l6:=Gp hl rm;erw[L,1,#[_,SqL.of R],λZ_ hZ=>dG (K:=[]) (a:=L) (xs:=ws) (λi Z zs H'=>∃o,Z=[o,oy\.int (m:Int)]/\Same H4 H'/\H' Z_*>.lst zs/\iQ H4 zs ((ls.take i).filter λl=>decide (m∈l))) #[n7,1,bL hZ,aI,.nil] (by rintro i Z zs H' _ ⟨_,_,e,_⟩;show SqL.of (e>>R)) ?_ ?_]
  .rintro i v Z zs H' hi ⟨o,rfl,sm,bS,tz⟩;let#[l,hs,r,1,hr]:=bV bN hi;let ew:(ls.take (i+1)).filter (λl=>decide (m∈l))=(ls.take i).filter (λl=>decide (m∈l))++[l].filter λl=>decide (m∈l):=by rw[bE,hs,fT];rfl
   let lz:=aE tz;let cb:=dI (λl=>decide (m∈l))\ls.take i;rw[bz] at cb;erw[3,r,2,.inl\SqL.of (sm>>hr),1,iI _,2,?_];change if (if p6=oD then _ else inV (V.int (m:Int)) (nV l))=oD then _ else _
   rw[Rx bG,gP];by_cases hm:m∈l
   .rw[Rz hm];show aP #[2,bS,(),λHn kn yn=>#[2,λb o e=>(kn b\ao e hZ)<*(sm>>e),yn,?_]];rw[ew,show [l].filter (λl=>decide (m∈l))=[l] from wB.mpr λz hz=>by rw[aG.mp hz];show Rz hm];show bR tz\.cons #[r,1,hr] .nil
   rw[RA hm];show az #[2,sm,bS,?_];rw[ew,show [l].filter (λl=>decide (m∈l))=[] from wA.mpr λz hz=>by rw[aG.mp hz,RA hm];simp,eX];show tz
  rintro Z zs H5 ⟨o,rfl,O,cc,tz⟩;rw[lw,cn] at tz;let#[l,fl,bX]:∃l fl,ls.filter (λl=>decide (m∈l))=l::fl:=by
   let#[l0,cd,ce]:=rm.all m #[n,#[c,hc],λ⟨e,he⟩=>ok.c rfl e he];cases hf:ls.filter (λl=>decide (m∈l)) with
   |nil=>show absurd (wA.mp hf l0 cd) (by simp[ce])
   |cons l fl=>erw[l,fl,1]
  rw[bX] at tz;let b0:=ef.mp (show l∈ls.filter (λl=>decide (m∈l)) by rw[bX];show gk);let cf:m∈l:=RB b0.2;let cyc:=rm.cyc l b0.1;let cy:Cy (bq\En us) l:=vQ cyc.toPath λz s h1 h2=>cyc.back z s h1 h2;let c5:=Jf hl cyc;let cg:=cyc.ne;cases tz with
  |cons hh _=>
  let#[r,1,hr]:=hh;erw[Z_,_,(0),V.ref r,5,SqL.of cc,aZ (j:=0) rfl,?_];let ch:=s4<*O;let al:=O>>hr;erw[3,2,(1),1,r,2,SqL.of al,λp H6 hp B y6=>?_];erw[2,(1),1,r,2,SqL.of (B>>al),λp2 H7 c6 S y7=>?_];rw[show fG (nV l) (oy 1) n7=(nV l).drop 1 from uE (nV l) 1] at y6;rw[show fG (nV l) n7 (oy 1)=(nV l).take 1 from BM (nV l) 1] at y7;let ll:=bH l;erw[p,p2,6,S>>y6,y7,by rw[eF,bz];lia,λp3 H8 c8 s8 y8=>?_];let bn:=(ag<*ch<*B).trans\S.trans s8;rw[show (nV l).drop 1++(nV l).take 1=nV (l.drop 1++l.take 1) by unfold nV;rw[<-CG,<-oM,<-aW]] at y8;let ci:=bH (l.drop 1++l.take 1);let h0:=hU.mpr cg;rw[bj,eF,bz] at ci;erw[r,p3,nV l,2,SqL.of\(B.trans\S.trans s8) _ _ al,SqL.of y8,λY hY=>Ik (K:=[]) (λi Z zs H'=>∃o1 o2,Z=[o1,o2,oy\.ref d]/\Same H8 H'/\H' Y*>.lst zs/\ay H' zs (((prs l).take i).map λs=>(s.2,s.1,y))) #[n7,n7,1,bL hY,aI,.nil]
   (by rintro i Z zs H' ⟨_,_,_,e,_⟩;erw[SqL.of (e>>((B.trans\S.trans s8) _ _ al)),SqL.of (e>>y8)]) ?_ ?_]
  .rintro i x x' p0 Z zs H' hx bt ⟨o1,o2,rfl,sm,aS,tz⟩ cj;unfold nV at hx bt;rw[bu] at hx bt;let#[a1,e1,1]:=cA.mp hx;let#[a2,e2,1]:=cA.mp bt;let hs:(prs l)[i]?*>(a1,a2):=by unfold prs;show mE.mpr #[e1,e2]
   let ly:↑zs<=600:=by rw[aE tz,av,bz,iG];lia
   walk_at"H' p0 cj H9 M y9";erw[p0,2,SqT.of y9,1,9,6,?_];erw[3,2,d,4,SqT.of (M>>sm>>bn>>h2),1,lit3,λt Ha ga sa ya=>?_];let b1:=sa>>M>>aS;erw[b1,(),λHn kn yn=>#[9,λb o e=>(kn b\ao e hY)<*(sa>>M>>sm>>e),yn,?_]];let tn:∀{X:pR}{xs:List V},Ha X*>.tup xs->X≠Y:=λe=>bW e b1 ∅;rw[bE,hs,aW];show bR (Paired.imp' (by rintro _ _ ⟨X,e1,e2⟩;erw[X,e1,by let e3:=sa>>M>>e2;show (kn _\tn e3)<*e3]) tz)\.cons #[t,1,(kn _\tn ya)<*ya] .nil
  rintro Z zs H9 ⟨o1,o2,rfl,M,bb,tz⟩;rw[show min ↑(nV l) ↑(nV (l.drop 1++l.take 1))=↑(prs l) by rw[iG];lia,cn] at tz;let lz:=aE tz;rw[av,iG] at lz;let l2:=aE tr;erw[T0,Y,6,M>>bn>>hT,bb,(),λpz Hb gb sb yb=>?_];let bw:=bn<*M;show q _ pz _ Hb (eI bw gb) (bw<*sb) yb (bR (tr.same\bw.trans sb)\tz.same sb) #[l,cy,cf,1]
end
def jA(s:Nat×Nat):List Key×V:=(ky s.1 s.2,V.bl oD)
def uF{l:List (Nat×Nat)}:bp (l.map jA) (ky p q)=n7↔(p,q)∉l:=by
 induction l with
 |nil=>simp[bp]
 |cons e l a=>
  rw[br,aT];by_cases h:(jA e).1=ky p q
  .rw[iE h];have:e=(p,q):=lV.mp h;simp[this]
  rw[gG h,a];have:(p,q)≠e:=λz=>h\lV.mpr (by rw[z]);simp[this]
def Jt{l:List (Nat×Nat)}{a b:Nat}(h:(a,b)∉l):cQ (l.map jA) (ky a b) (V.bl oD)=(l++[(a,b)]).map jA:=by rw[nE _\uF.mpr h,aW];rfl
def dg(t:Tri):Bool:=decide (t.1=t.2.1)||(decide (t.2.1=t.2.2)||decide (t.2.2=t.1))
def Cb:dg t=p6↔Ne3 t:=by unfold dg;simp
def ow{ts:List Tri}{c:Nat}:c∈flat ts↔Co ts c:=by rw[cK,flat,iX];show exists_congr λt=>and_congr_right λ_=>∅
def IM(vs:List V)(H:Hp)(Q:VK)(T:pR)(a:List V)(ts:List Tri):Prop:=vs=[.ref T]/\H T*>.lst a/\ay H a ts/\↑ts<=200/\(∀H',Same H H'->Skn ts->Q .non H')/\∀k H',Same H H'->dX ts k->Q (.str k) H'
def Bl:Sp:=λvs H Q _=>Exists\Ex3 (IM vs H Q)
section
def qF:aR [↑0,"_law_come",↑6,↑38] [↑0] (au rN):=.f
def JN{f f1 f2 f3:pR}{fd d1 d2 d3:ro}(U:Fun K "_law_bad" "_law_bad" rN f fd)(T:cu mg)(mA:mg "any" = n7)(GS:!Use 1 ↑44 [↑6] lq f1 d1)(GC:!Use 2 ↑16 [↑0] h_ f2 d2)(GF:!Use 2 ↑78 [↑0,↑9] qB f3 d3) :
  !aj CX0 3 f fd [↑0] Bl:=by
 show U.ok qF (!3) λRD A outer s H vs Q E al h=>?_
 let#[l,vt,ts,1,O,tr,hl,q0,q1]:=h;let bn:=al.mono (⋯:1<=2);let hu:=dA al;erw[_,(af (a8 (dQ\bP (xw rfl) (by rfl) mA O8 (pa1 (dv (N:=[↑56]) (fr:=[n7]) (te:=vW (tOp rEq (tOp (ir []) (aK 0)\tC (.int 0))\tOp (ir []) (aK 0) (tC\.int 1))\vW (tOp rEq (tOp (ir []) (aK 0)\tC (.int 1))\tOp (ir []) (aK 0) (tC\.int 2)) (tOp rEq (tOp (ir []) (aK 0)\tC (.int 2))\tOp (ir []) (aK 0) (tC\.int 0))) (tV ⋯ rfl ⋯ ⋯) rfl (bQ\pv 0)
    (λC s H fp RC=>#[(gx 0 (⋯:([↑56]:List Str).Nodup)),eu,(B4 (e_ cq (ixx bf (pv 0) ah) (ixx bf (pv 0) ah)\nomark _)\B4 (e_ cq (ixx bf (pv 0) ah) (ixx bf (pv 0) ah)\nomark _) (jX\e_ cq (ixx bf (pv 0) ah) (ixx bf (pv 0) ah) (nomark _)))])))) (ak\aF a7) aY)
  (af (sx 1 qF.nd uu)
  (af (dC dq rfl (bQ\pv 0) (gx 2 qF.nd)\ak (dC dq rfl (bQ\uc GS bn (pa1\pv 2)) (gx 3 qF.nd) (af (a8 (gL\lU hu (pv 3) (pv 1)) (ak\aF a7) aY)
  (ak\jh hu (pv 1) (pv 3) il rfl))))
  (af (a8 (dQ\bP (xw rfl) (by rfl) mA O8 (pa1 (dv (N:=[↑9,↑0]) (fr:=[n7,oy 0]) (te:=tOp (rI0 λi j=>.bl (decide (j<i))) (tCB (vN [])\ck (rH qB [] E0\ck (aK 1) (ck (aK 0) dH)) dH)\tC (.int 1)) cpK rfl (bQ\uc GC al (pa1\pv 0))
    (λC s H fp RC=>#[(gx 0 (⋯:([↑9,↑0]:List Str).Nodup)),eu,(e_ rS (pln T.len\uc GF al (ae (pv 1)\pa1 (pv 0))) ah\nomark _)])))) (ak\aF a7) aY)
  (ak\aF Bt))))),?_]
 let b3:=line5000;let hlen:=aE tr;erw[2,l,1,#[_,SqL.of O],λZ_ hZ=>dG (K:=[]) (a:=l) (xs:=vt) (λi Z ys H'=>∃o,Z=[o]/\ys=((ts.take i).map dg).map V.bl/\Same H H'/\H' Z_*>.lst ys) #[n7,5,bL hZ,aI] (by rintro i Z ys H' _ ⟨_,_,_,e,_⟩;show SqL.of (e>>O)) ?_ ?_]
 .rintro i v Z ys H' hi ⟨o,rfl,rfl,sm,ap⟩;let#[#[a,b,c],R,t,1,y]:=bV tr hi;let y:H t*>.tup (nV [a,b,c]):=y;let S:=SqT.of (K:=[]) (sm>>y);let fin:H' Z_*>.lst (((ts.take i).map dg).map V.bl)/\(((ts.take i).map dg).map V.bl).length<qs/\∀X,(∀c,c≠Z_->X c=H' c)->X Z_*>.lst (((ts.take i).map dg).map V.bl++[V.bl\dg (a,b,c)])->∃o,([oy\V.ref t]:St)=[o]/\((ts.take i).map dg).map V.bl++[V.bl\dg (a,b,c)]=((ts.take (i+1)).map dg).map V.bl/\Same H X/\X Z_*>.lst (((ts.take i).map dg).map V.bl++[V.bl\dg (a,b,c)]):=
   #[ap,by rw[av,av,bz];lia,λX kn yn=>#[2,by rw[bE,R,aW,aW];rfl,λu o e=>(kn u\ao e hZ)<*(sm>>e),yn]]
  erw[2,t,4,S,aZ (j:=0) rfl,2,t,4,S,aZ (j:=1) rfl,7,?_];rw[gU,show decide ((a:Int)=(b:Int))=decide (a=b) from decide_eq_decide.mpr Cn];cases Y:decide (a=b) with
  |true=>
   rw[show dg (a,b,c)=oD by unfold dg;rw[Y];rfl] at fin;show aP fin
  |false=>
   show az #[2,t,4,S,aZ (j:=1) rfl,2,t,4,S,aZ (j:=2) rfl,7,?_];rw[gU,show decide ((b:Int)=(c:Int))=decide (b=c) from decide_eq_decide.mpr Cn];cases e2:decide (b=c) with
   |true=>
    rw[show dg (a,b,c)=oD by unfold dg;rw[Y,e2];rfl] at fin;show aP fin
   |false=>
    show az #[2,t,4,S,aZ (j:=2) rfl,2,t,4,S,aZ (j:=0) rfl,1,?_];rw[gU,show decide ((c:Int)=(a:Int))=decide (c=a) from decide_eq_decide.mpr Cn];rw[show dg (a,b,c)=decide (c=a) by unfold dg;rw[Y,e2];rfl] at fin;show fin
 rintro Z ys H1 ⟨o,rfl,rfl,s1,a2⟩;rw[hlen,cn] at a2;erw[Z_,ts.map dg,1,SqL.of a2,2,ite2 (λB=>?_) λB=>?_]
 .refine q1 _ H1 s1\.inl #[1,λhn=>?_];let#[b,y,bt]:=mz.mp B;let#[t,ht,1]:=ax.mp y;have:=Cb.mpr\hn t ht;rw[show dg t=oD from bt] at this;cases this
 let am:∀t∈ts,Ne3 t:=λt ht=>Cb.mp (by
  cases hd:dg t with
  |false=>rfl
  |true=>show (B\mz.mpr #[_,ax.mpr #[t,ht,hd],1]).elim)
 show λC H2 bw s2 yC=>?_;let a3:=s1<*s2;erw[2,l,1,#[_,SqL.of (a3>>O)],fq (K:=[]) (a:=l) (xs:=vt) (λi Z H'=>∃o2 D,Z=[oy\V.ref l,oy\.ref C,o2,D]/\Same H H'/\H' C*>.dT (((ents\ts.take i).map (·.1)).map jA)/\((ents\ts.take i).map (·.1)).Nodup)
  #[n7,n7,1,a3,yC,List.Pairwise.nil] (by rintro i Z H' _ ⟨_,_,_,e,_⟩;show SqL.of (e>>O)) ?_ ?_]
 .rintro i v Z H3 hi ⟨o2,D,rfl,a4,hC,nd⟩;let#[d,R,t,1,y]:=bV tr hi;let bx:i<↑ts:=(aN.mp R).1;let a5:H C=n7:=eI s1 bw;erw[2,t,d,1,a4>>y,λr zr H5 b4 I y5 sr=>?_];let a6:=a4<*I;let aM:=I>>hC;let bA:=aE sr;let aS:(b_ d).Nodup:=AN\am _ (a9 R);let l0:=el\ts.take i;rw[bz] at l0;let ee:(ents\ts.take (i+1)).map (·.1)=(ents\ts.take i).map (·.1)++b_ d:=by rw[bE,R];change (ents (ts.take i++[d])).map (·.1)=_;rw[yU,aW];rfl
  let bK:r≠C:=λz=>by rw[z,aM] at y5;cases y5
  erw[r,1,#[_,SqL.of y5],fq (K:=[]) (a:=r) (xs:=zr) (λj Z H'=>(∃D,Z=[oy\V.ref l,oy\.ref C,oy\.ref t,D])/\(∀b o,b≠C->H5 b*>o->H' b*>o)/\H' C*>.dT (((ents\ts.take i).map (·.1)++(b_ d).take j).map jA)/\∀s'∈(b_ d).take j,s'∉(ents\ts.take i).map (·.1))
   #[#[2],λ_ _ _ e=>e,by rw[wM,eX];show aM,∅] (by rintro j Z H' _ ⟨_,e,_⟩;show SqL.of\e _ _ bK y5) ?_ ?_]
  .rintro j x Z H' hj ⟨⟨D,rfl⟩,but,ab,ad⟩;let#[#[m,n],ho,sd,1,L]:=bV sr hj;let L:H5 sd*>.tup ((ky m n).map kV):=L;let a0:sd≠C:=λz=>by rw[z,aM] at L;cases L
   let ej:(b_ d).take (j+1)=(b_ d).take j++[(m,n)]:=by rw[bE,ho];rfl
   let bM:Same H H':=λb o e=>but b o (ao e a5) (a6>>e);by_cases an:(m,n)∈(ents\ts.take i).map (·.1)
   .let#[x,hx]:∃x,bp (((ents\ts.take i).map (·.1)++(b_ d).take j).map jA) (ky m n)*>x:=by
     cases hv:bp (((ents\ts.take i).map (·.1)++(b_ d).take j).map jA) (ky m n) with
     |some x=>erw[x,1]
     |none=>show absurd (d_ _ an)\uF.mp hv
    erw[3,C,2,DGet.t (k:=ky m n) ab\but _ _ a0 L,oD,by rw[hx];rfl,aP ?_];let bN:SdF ts i (m,n):=#[nd,d,j,R,ho,an,ad];show q1 _ H' bM\.inr #[am,.inl #[1,bN.not]]
   let bb:(m,n)∉(ents\ts.take i).map (·.1)++(b_ d).take j:=by
    rw[bo];rintro (z|z)
    .exact an z
    rw[<-gr (j+1)\b_ d,ej,gi,cW] at aS;show aS.2.2 _ z (m,n) ∅ rfl
   erw[3,C,2,DGet.t (k:=ky m n) ab\but _ _ a0 L,p6,by rw[uF.mpr bb];rfl,az ?_];let lj:↑((b_ d).take j)<=3:=by rw[bz];show CP _ _
   erw[3,C,2,DPut.t (k:=ky m n) ab (but _ _ a0 L) (by rw[av,bj,av];lia),?_];rw[Jt bb];walk_at"H' C Hb kb yb";erw[#[2],λu o Y e2=>(kb u Y).trans\but u o Y e2,by rw[yb,ej,gi],λs' bc=>?_];rw[ej] at bc;rcases bo.mp bc with z|z
   .exact ad s' z
   rw[aG.mp z];show an
  rintro Z H' ⟨⟨D,rfl⟩,but,ab,ad⟩;rw[bA,cn] at ab ad;erw[9,λb o e=>but b o (ao e a5) (a6>>e),by rw[ee];show ab,?_];rw[ee,cW];erw[nd,aS,λa' bS u bX z=>ad u bX (z ▸ bS)]
 rintro Z H3 ⟨o2,D,rfl,s3,hC,nd⟩;rw[hlen,cn] at nd;let g:Good ts:=#[am,nd];erw[2,l,vt,ts,1,s3>>O,tr.same s3,hl,λr cs H4 b5 s4 y4 b0 lcs=>?_];let bd:=s3<*s4;let lc:=bH cs;let a1:∀c,c∈cs↔Co ts c:=λc=>(b0.2 c)<*ow;erw[r,1,#[_,SqL.of y4],λZ2 be=>dG (K:=[]) (a:=r) (xs:=nV cs) (λi Z ys H'=>∃o bs,Z=[o,oy\.ref l]/\ys=bs.map V.bl/\↑bs=i/\Same H4 H'/\H' Z2*>.lst ys/\(bs.any id=oD↔∃c∈cs.take i,¬One (En ts) c)) #[n7,[],5,1,bL be,aI,∅] (by rintro i Z ys H' _ ⟨_,_,_,_,_,e,_⟩;show SqL.of (e>>y4)) ?_ ?_]
 .rintro i v Z ys H' hi ⟨o,bs,rfl,rfl,lb,sm,ap,ag⟩;rw[nV,bu] at hi;let#[c,M,1]:=cA.mp hi;let bx:=(aN.mp M).1;let sT:=bd<*sm;erw[3,l,vt,ts,c,1,sT>>O,tr.same sT,hl,g,λq gs fs H5 hq I y5 lp fans lf=>?_];let b1:=(a1 c).mp\a9 M;let bi:fs≠[]:=λz=>by
   let#[p,q',e]:=b1;let#[F,hF,_]:=fans.all p #[q',e];rw[z] at hF;cases hF
  let h1:=JC g.sk fans bi;let h0:=hU.mpr bi;let lg:=aE lp;erw[q,2,.inl\SqL.of y5,6,I>>ap,by rw[av];lia,λX kn yn=>#[_,bs++[decide ((1:Int)<(↑gs:Int))],1,by rw[aW];rfl,by rw[bj,lb];rfl,λu o e=>(kn u\ao e be)<*(I>>sm>>e),yn,?_]];rw[List.any_append,Bool.or_eq_true,ag,bE,M];simp only[Option.toList_some,bo,aG,oJ,List.any_nil,Ou,id,decide_eq_true_eq];rw[lg];constructor
  .rintro (⟨c',h2,h3⟩|h2)
   .exact#[c',.inl h2,h3]
   erw[c,.inr rfl,λz=>by have:=h1.mp z;lia]
  rintro⟨c',h2|rfl,h3⟩
  .exact .inl #[c',h2,h3]
  show .inr (by have:¬↑fs=1:=λz=>h3\h1.mpr z;lia)
 rintro Z ys H5 ⟨o,bs,rfl,rfl,lb,I,b2,ag⟩;rw[lc,cn] at ag;let bm:=bd<*I;erw[Z2,bs,1,SqL.of b2,2,ite2 (λB=>?_) λB=>?_]
 .let#[c,M,hn]:=ag.mp B;show q1 _ H5 bm\.inr #[am,.inr #[nd,1,c,(a1 c).mp M,hn]]
 show q0 H5 bm #[g,λc M=>iV λhn=>B\ag.mpr #[c,(a1 c).mpr M,hn]]
end
def dX.no(h:dX ts k)(s:Skn ts):False:=by
 rcases h with ⟨_,h⟩|⟨_,⟨_,h⟩|⟨_,_,c,h1,h2⟩⟩
 .exact h λt a=>s.g.ne t a
 .exact h s.g.nd
 show h2\s.o c h1
inductive Due
 |side
 |spoilt (k:Str)
 |skin (rs:List Tri)
def Of(us:List Tri)(k:Kd)(m n y:Nat):Due->Prop
 |.side=>¬Okd us k m n
 |.spoilt kk=>Okd us k m n/\∃rs,gZ us m n y rs k/\dX rs kk
 |.skin rs=>Okd us k m n/\gZ us m n y rs k/\Skn rs
def jx(H:Hp)(r:pR):Due->Prop
 |.side=>H r*>.tup [.str "side"]
 |.spoilt kk=>H r*>.tup [.str "spoilt",.str kk]
 |.skin rs=>∃l a,H r*>.tup [.str ↑39,.ref l]/\H l*>.lst a/\ay H a rs
def IK(vs:List V)(H:Hp)(Q:VK)(T d:pR)(a:List V)(us:List Tri)(k:Kd)(m n y:Nat):Prop:=vs=[.ref T,.ref d]/\H T*>.lst a/\ay H a us/\↑us<=200/\Skn us/\Alike us us/\eB H d k m n y/\(k.wis=oD->¬Co us y)/\(∀rs,Okd us k m n->gZ us m n y rs k->↑rs<=200)/\
 ∀b r H',H r=n7->Same H H'->jx H' r b->Of us k m n y b->Q (.ref r) H'
def Bj:Sp:=λvs H Q _=>Exists\Ex8 (IK vs H Q)
section
def n9:aR [↑0,↑7,↑49,↑70,↑5,"_law_made"] [↑0,↑7] (au rM):=.f
def JL{f f1 f2 f3 f4:pR}{fd d1 d2 d3 d4:ro}(U:Fun K "_law_due" "_law_due" rM f fd)(T:cu mg)(GT:!Use 1 ↑25 [↑0] i_ f1 d1)(GC:!Use 2 ↑16 [↑0] h_ f2 d2)(GB:!Use 3 "_law_bad" [↑0] Bl f3 d3)(GH:!Use 4 ↑63 [↑0,↑7] Bk f4 d4) :
  !aj CX0 5 f fd [↑0,↑7] Bj:=by
 show U.ok n9 (!8) λRD A outer s H vs Q E C h=>?_
 let#[v,d,O,us,k,m,n,y,1,R,tr,hl,sk,a4,dd,hw,few,q]:=h;let a5:=C.mono (⋯:1<=4);let a6:=C.mono (⋯:2<=4);let aM:=C.mono (⋯:3<=4);let S:=dA C;erw[_,(af (fu (ixx bf (pv 1) ah)\dn rfl (aV (gx 2 n9.nd)\aV (gx 3 n9.nd) dh))
  (af (sx 4 n9.nd\uc GT a5 (pa1\pv 0))
  (af (a8 (PW.pt\gQ (gL\nv S (aD\ae (pv 2) (pa1\pv 3)) (pv 4)) (iK\PW.pt (ff (aQ cq (ixx bf (pv 1) ah) a7\nomark _)\ft (gL\nv S (aD\ae (pv 3) (pa1\pv 2)) (pv 4))))) (ak\aF (aD\pa1 a7)) aY)
  (af (a8 (PW.pt\ff (aQ i8 (ixx bf (pv 1) ah) (aD\ae a7 (pa1 a7)) rfl) (ft\gL (lU S (aD\ae (pv 3) (pa1\pv 2))\pv 4))) (ak\aF (aD\pa1 a7)) aY)
  (af (a8 (PW.pt\ff (aQ cq (pln T.len\pv 1) ah\nomark _) (ft\aQ i8 (ixx bf (pv 1) ah) (uc GC a6\pa1 (pv 0)) rfl)) (ak\aF (aD\pa1 a7)) aY)
  (af (sx 5 n9.nd\uc GH C (ae (pv 0)\pa1 (pv 1)))
  (af (a8 (aQ rS (pln T.len\pv 5) ah\nomark _) (ak\aF (aD\ae a7 (pa1 a7))) aY)
  (af (a8 (aQ JA (uc GB aM\pa1 (pv 5)) Bt\nomark _) (ak\aF (aD\ae a7 (pa1\uc GB aM (pa1\pv 5)))) aY)
  (ak\aF (aD\ae a7 (pa1\pv 5))))))))))),?_]
 let g:=sk.g;let#[X,h1,h2]:=id dd;erw[2,d,4,SqT.of h2,aZ (j:=1) rfl,X,2,SqT.of h1,1,9,6,?_];erw[2,v,O,us,1,R,tr,(),g.nd,λD H1 bi s1 Y=>?_];let side:∀{Hx:Hp}(r:pR)(H':Hp),Same H Hx->¬Okd us k m n->Hx r=n7->Same Hx H'->H' r*>.tup [.str "side"]->Q (.ref r) H':=λr H' s0 no g0 s' o=>q .side r H' (eI s0 g0) (s0<*s') o no;let ab:∀a b,(∃c,En us a b c)->(bp ((ents us).map bD)\ky a b).isSome=oD:=λa b ⟨c,i⟩=>by rw[uZ g i];rfl
 let ad:∀a b,(¬∃c,En us a b c)->(bp ((ents us).map bD)\ky a b).isSome=p6:=λa b h=>by
  rcases qc g a b with ⟨c',h',_⟩|⟨_,e⟩
  .exact (h #[c',h']).elim
  rw[e];rfl
 show p9 ?_;show je (λZ H'=>Z=[oy\V.ref v,oy\.ref d,oy\.int (m:Int),oy\.int (n:Int),oy\.ref D,n7]/\Same H1 H'/\(∃c,En us m n c)/\(k=.turn->∃c,En us n m c)) (λNX z=>?_) ?_
 .refine#[3,lit2,λt1 H2 g1 s2 y2=>?_];let ag:=s1<*s2;erw[2,D,2,DGet.t (k:=ky m n) (s2>>Y) y2,?_];by_cases i:∃c,En us m n c
  .refine#[p6,by rw[ab>>i];rfl,skOr #[2,d,4,SqT.of (ag>>h2),aZ (j:=0) rfl,7,?_]];by_cases I:k=.turn
   .subst I;show fX #[3,lit2,λt2 H3 g2 l y3=>?_];erw[2,D,2,DGet.t (k:=ky n m) (l>>s2>>Y) y3,?_];by_cases he:∃c,En us n m c
    .exact#[p6,by rw[ab>>he];rfl,az\z _ _ #[1,s2<*l,i,λ_=>he]]
    erw[oD,by rw[ad>>he];rfl,aP #[lit1,λr H' g' s' o=>side r H' (ag<*l) (λok=>he\ok.b rfl) g' s' o]]
   let e:decide (V.str k.sgn=V.str "turn")=p6:=by cases k<;>first|show absurd rfl I|decide +kernel
   rw[e];show ju\az (z _ _ #[1,s2,i,λz=>(I z).elim])
  erw[oD,by rw[ad>>i];rfl,goOr\aP #[lit1,λr H' g' s' o=>side r H' ag (λok=>i ok.a) g' s' o]]
 rintro Z H2 ⟨rfl,s2,i,ht⟩;let al:=s1<*s2;show je (λZ H'=>Z=[oy\V.ref v,oy\.ref d,oy\.int (m:Int),oy\.int (n:Int),oy\.ref D,n7]/\Same H2 H'/\Okd us k m n) (λNX z=>?_) ?_
 .refine#[2,d,4,SqT.of (al>>h2),aZ (j:=0) rfl,lit2,λt1 H3 g1 l y3=>?_];erw[t1,2,.inr\SqT.of y3,5,2,?_];let e:inV (V.str k.sgn) [V.str "on",V.str "close"]=k.rim:=by cases k<;>decide +kernel
  rw[Rx bG,e];cases aS:k.rim with
  |false=>show ju\az (z _ _ #[1,l,#[i,ht,λz=>absurd (aS.symm<*z) ⋯]])
  |true=>
   show fX #[3,lit2,λt2 H4 g2 s4 y4=>?_];let am:=l<*s4;erw[2,D,2,DGet.t (k:=ky n m) (am>>s2>>Y) y4,?_];by_cases he:∃c,En us n m c
   .exact#[oD,by rw[ab>>he],aP #[lit1,λr H' g' s' o=>side r H' (al<*am) (λok=>he.elim\ok.c aS) g' s' o]]
   erw[p6,by rw[ad>>he],az\z _ _ #[1,am,#[i,ht,λ_ c bb=>he #[c,bb]]]]
 rintro Z H3 ⟨rfl,l,ok⟩;let L:=al<*l;show je (λZ H'=>Z=[oy\V.ref v,oy\.ref d,oy\.int (m:Int),oy\.int (n:Int),oy\.ref D,n7]/\Same H3 H') (λNX z=>?_) ?_
 .cases an:k.wis with
  |false=>
   rw[an] at h2;let h2:H d*>.tup [.str k.sgn,.ref X]:=h2;erw[2,d,2,.inr\SqT.of (L>>h2),7,ju\az (z _ _ #[1,Same.refl _])]
  |true=>
   rw[an] at h2;let h2:H d*>.tup [.str k.sgn,.ref X,.int (y:Int)]:=h2;let sq:=SqT.of (K:=[]) (L>>h2);erw[2,d,2,.inr sq,7,fX #[2,d,4,sq,aZ (j:=2) rfl,2,v,O,us,1,L>>R,tr.same L,hl,λr cs H5 bc s5 x bd lcs=>?_]];erw[r,2,.inl\SqL.of x,1,iI _,2,?_];rw[Rx bG,gP,RA λz=>hw an\ow.mp ((bd.2 y).mp z)];show az\z _ _ #[1,s5]
 rintro Z H4 ⟨rfl,s4⟩;let M:=L<*s4;erw[3,v,d,O,us,k,m,n,y,1,M>>R,tr.same M,hl,sk,a4,dd.same M,ok,λrs r vr H5 bc s5 x N bl=>?_];let a0:=M<*s5;let lr:=aE N;let a1:=few rs ok bl;erw[2,r,2,.inl\SqL.of x,6,2,?_];change if decide ((↑vr:Int)>200)=oD then _ else _
 rw[RA ()];show az #[2,r,vr,rs,1,x,N,a1,λH6 u ap=>?_,λkk H6 u I=>?_]
 .let a2:=a0<*u;erw[7,az #[2,lit2,λp H7 g7 B y7=>q (.skin rs) p H7 (eI a2 g7) (a2<*B) #[r,vr,y7,B>>u>>x,N.same\u.trans B] #[ok,bl,ap]]]
 erw[7,aP #[2,r,vr,rs,1,u>>x,N.same u,a1,λH7 B ap=>(I.no ap).elim,λk2 H7 B be=>#[lit2,λp H8 g8 s8 y8=>?_]]];let a3:=(a0<*u)<*B;show q (.spoilt k2) p H8 (eI a3 g8) (a3<*s8) y8 #[ok,rs,bl,be]
end
def F_(vs:List V)(H:Hp)(Q:VK)(p T:pR)(q:Int×Int)(a:List V)(us:List Tri):Prop:=vs=[.ref p,.ref T]/\H p*>.lst (bT q)/\cP q/\H T*>.lst a/\ay H a us/\↑us<=200/\((ents us).map (·.1)).Nodup/\
 ∀d k m n y b H',But p H H'->H' p*>.lst (bT b)->cP b->eB H' d k m n y->¬Co us y->(∀B,0<B->(∀c,Co us c->c<B)->y<=B)->Q (.ref d) H'
def Ad:Sp:=λvs H Q _=>Exists\Ex5 (F_ vs H Q)
section
def jg:aR [↑1,↑0,↑5,"_law_corners_here",↑80,"_law_word",↑98,↑38] [↑1,↑0] (au qR):=.f
def NR{j:Nat}(h:j<6):∃k:Kd,atI [V.str "turn",.str "in",.str "on",.str "out",.str "close",.str "draw"] (j:Int)*>.str k.sgn:=by
 obtain rfl|rfl|rfl|rfl|rfl|rfl:j=0\/j=1\/j=2\/j=3\/j=4\/j=5:=()
 .exact#[.turn,aZ (j:=0) rfl]
 .exact#[.inn,aZ (j:=1) rfl]
 .exact#[.on,aZ (j:=2) rfl]
 .exact#[.out,aZ (j:=3) rfl]
 .exact#[.close,aZ (j:=4) rfl]
 erw[.draw,aZ (j:=5) rfl]
def Hs{f f1 f2 f3:pR}{fd d1 d2 d3:ro}(U:Fun K ↑94 ↑94 qR f fd)(T:cu mg)(mS:mg ↑55 = n7)(mM:mg "max" = n7)(GT:!Use 1 ↑25 [↑0] i_ f1 d1)(GC:!Use 2 ↑16 [↑0] h_ f2 d2)(GD:!Use 1 ↑31 [↑1,↑48] jd f3 d3) :
  !aj CX0 3 f fd [↑1,↑0] Ad:=by
 show U.ok jg (!5) λRD A outer s H vs Q E hr h=>?_
 let#[p,T0,R,vt,us,1,hp,a5,hT,tr,hl,nd,qq]:=h;let an:=hr.mono (⋯:1<=2);erw[_,(af (sx 2 jg.nd\aH eJ (bP (mW rfl) (by rfl) mS iC\pa1 (uc GT an\pa1 (pv 1))) (bO\pa1 (aD\ae ah (pa1 ah))))
  (af (sx 3 jg.nd\uc GC hr (pa1\pv 1))
  (af (sx 4 jg.nd\aH dM (bP (pF rfl) (by rfl) mM wZ\pa1 (aH eJ (pv 3)\bO (pa1 ah))) ah)
  (af (sx 5 jg.nd\ixx cJ (bO\ae a7 (ae a7\ae a7 (ae a7\ae a7 (pa1 a7)))) (uc GD an\ae (pv 0) (pa1 ah)))
  (af (nY (N:=[↑38,↑5]) (fr:=[n7,oy 2]) (i:=6) (tt:=fM\tOp (j_ [] oD) (Bb (aK 0)\tUn (rU λi=>.int (-i)) (tC\.int 1)) (aK 1)) cpK rfl (bQ\pv 2)
    (λC s H fp RC=>#[(gx 0 (⋯:([↑38,↑5]:List Str).Nodup)),(fU\aQ (tZ hr.units) (Jx (pv 0)\iN iJ ah) (pv 1) rfl),(pv 0)]) jg.nd rfl (.inl rfl))
  (af (a8 (PW.pt\ff (aQ i8 (pv 5) (aD\ae a7 (pa1 a7)) rfl) (ft\aQ (oi hr.units) (pv 6) (bO fB) (nomark _))) (ak\sx 2 jg.nd (pv 6)) aY)
  (af (sx 7 jg.nd\ixx cJ (pv 2) (uc GD an\ae (pv 0) (pa1\pln T.len (pv 2))))
  (af (a8 (aQ i8 (pv 5) (aD\ae a7 (ae a7\pa1 a7)) rfl) (ak\aF (aD\ae (pv 5) (pa1\pv 7))) aY)
  (ak\aF (aD\ae (pv 5) (ae (pv 7)\pa1 (pv 4)))))))))))),?_]
 let cd:=line5000;erw[2,T0,vt,us,1,hT,tr,(),nd,λD H1 ce s1 hD=>?_];erw[D,1,.inr #[_,hD],λks vs I=>.inr #[_,uk\iD (K:=[]) hD I,?_,λL0 ix hL pm _=>?_]]
 .rw[aE\iD (K:=[]) hD I,av,el];lia
 let ap:=iD (K:=[]) hD I;let lk:=aE ap;walk_at"H1 L0 hL H2 s2 y2";let a6:∀i∈ix,i<↑ks:=λi hi=>iy.mp\pm.mem_iff.mp hi;let ag:=pW (Paired.imp' (by rintro _ _ ⟨a,e,h⟩;erw[a,e,s2>>h]) ap:SdsAt H2 ks\(ents us).map (·.1)) ix a6;let aM:=pm.length_eq;rw[mF,lk,av,el] at aM;let bb:↑(ix.map λi=>ks.getD i .non)=3*↑us:=by rw[av];show aM
 generalize (ix.map λi=>((ents us).map (·.1)).getD i (0,0))=b4 at ag;generalize (ix.map λi=>ks.getD i .non)=cf at ag y2 bb;let bc:=s1<*s2;erw[lit2,λb5 H3 g3 s3 y3=>#[lit1,λl3 H4 g4 s4 y4=>?_]];erw[L0,l3,6,(s3<*s4) _ _ y2,y4,by rw[cw];lia,λL H5 g5 s5 y5=>?_];let bd:=(s3<*s4)<*s5;let aS:=bc<*bd;let#[zs,ss,be,bi,bl,bm]:∃zs ss,H5 L*>.lst zs/\SdsAt H5 zs ss/\0<↑zs/\↑zs<=601:=
  #[_,b4++[(0,1)],y5,bR (K31.SdsAt.same bd ag)\.cons #[b5,1,s5>>s4>>y3] .nil,∅,by rw[bj,cw];lia]
 clear y5 y4 y3 y2 ag ap pm a6 aM bb;erw[2,T0,vt,us,1,aS>>hT,tr.same aS,hl,λLc cs H6 g6 s6 y6 bn lcs=>?_];erw[2,lit1,λl7 H7 g7 s7 y7=>?_];erw[Lc,l7,6,s7>>y6,y7,by rw[bH];simp only[cw];lia,λl8 H8 g8 s8 y8=>?_];erw[l8,cs.map (λc:Nat=>(c:Int))++[0],1,SqL.of (by rw[y8];simp[nV]),∅,λmx hm a0=>#[6,?_]];let h0:=a0 0 ∅;let#[y,hy]:∃y:Nat,mx+1=(y:Int):=#[(mx+1).toNat,()];let bt:∀c,c∈cs↔Co us c:=λc=>(bn.2 c)<*ow;let b6:¬Co us y:=λhc=>by
  have:=a0 (y:Int)\d_ _ (ax.mpr #[y,(bt y).mpr hc,1]);lia
 let b7:∀B,0<B->(∀c,Co us c->c<B)->y<=B:=λB cg hB=>by
  rcases bo.mp hm with h|h
  .let#[c,h1,h2]:=ax.mp h;have:=hB c\(bt c).mp h1;lia
  have:=aG.mp h;lia
 change cZ 4 (V.int (mx+1)) _ _ _;rw[hy];let a1:=(s6<*s7)<*s8;let bw:=aS<*a1;let bx:=a1>>be;let bA:=K31.SdsAt.same a1 bi;clear a0 hm h0 hy y8 y7 bn;erw[by rw[cY];decide,λlw H9 g9 s9 y9=>?_];let bK:=bw<*s9;let a2:=bK>>hp;let#[w1,w2]:=eR (q:=R) (b:=6) ⋯;let#[j,hj]:∃j:Nat,digO R 6=(j:Int):=#[(digO R 6).toNat,()];let#[k,I]:=NR (j:=j) ();erw[2,p,R,2,a2,a5,⋯,i9 ⋯ ⋯,λM ka ya=>?_];let a3:=dz (b:=6) a5;generalize nxt R 6=S at ya a3;rw[hj];erw[lw,4,SqL.of\(ka _\aA (ao (bw>>hp) g9)).trans y9,I,?_];let but:But p H M:=λb o n e=>(ka b n)<*(bK>>e);let a4:L≠p:=aA\ao ((bc.trans\s3.trans s4) _ _ hp) g5;let X:M L*>.lst zs:=(ka L a4)<*(s9>>bx);let al:SdsAt M zs ss:=Paired.imp' (by rintro _ _ ⟨b',e1,e2⟩;erw[b',e1,by let e3:=s9>>e2;show (ka _ (bW e3 a2 ∅))<*e3]) bA;clear hj w1 w2 I y9 a2 bA bx bi be;erw[2,L,1,#[_,SqL.of X],λZ_ hZ=>dG (K:=[]) (a:=L) (xs:=zs) (λi Z ys H'=>∃o rs,Z=[o,oy\.ref L]/\Same M H'/\H' Z_*>.lst ys/\SdsAt M ys rs/\↑ys<=i) #[n7,[],1,bL hZ,aI,.nil,a_ _] (by rintro i Z ys H' _ ⟨_,_,_,e,_⟩;show SqL.of (e>>X)) ?_ ?_]
 .rintro i v Z ys H' hi ⟨o,rs,rfl,sm,bM,Y,ly⟩;let#[#[m,n],hs,r,1,u]:=bV al hi;let ch:=(aN.mp hi).1;erw[3,1,r,9,SqT.of (sm>>u),λpr b8=>?_];walk_at"H' pr b8 Hg sg yg";erw[2,sdD (n,m),L,zs,_,.tup (SqT.of yg)\.cons (.int _) (.cons (.int _) .nil),1,.inl\SqL.of (sg>>sm>>X),lM\K31.SdsAt.same (sm<*sg) al,by change max 0 (max 0 0)+1<=60;decide,2,ite2 (λ_=>?_) λ_=>?_]
  .exact#[2,sg>>bM,(),λHn kn yn=>#[_,rs++[(m,n)],1,λb o e=>(kn b\ao e hZ)<*(sg>>sm>>e),yn,bR Y\.cons #[r,1,u] .nil,by rw[bj,cw];lia]]
  erw[_,rs,1,sm<*sg,sg>>bM,Y,()]
 rintro Z ys Hb ⟨o,rs,rfl,sb,bN,Y,ly⟩;let ci:=sb>>ya;let b9:Z_≠p:=aA\ao ya hZ;show p9 ?_;show je (λZ H'=>∃O g bS,Z=[oy\V.ref p,oy\.ref T0,oy\.ref O,oy\.ref Lc,oy\.int (y:Int),oy\.str k.sgn,oy\.ref Z_,n7]/\Same M H'/\H' O*>.lst g/\SdsAt H' g bS/\0<↑g/\↑g<=601/\O≠p) (λNX z=>?_) ?_
 .refine#[2,lit2,λt1 Hc gc sc yc=>?_];erw[t1,2,.inr\SqT.of yc,5,2,?_];rw[Rx bG];let am:=sb<*sc;cases inV (V.str k.sgn) [V.str "on",V.str "close"] with
  |false=>show ju\az (z _ _ #[L,zs,ss,1,am,am>>X,K31.SdsAt.same am al,bl,bm,a4])
  |true=>
   show fX #[2,a_ _,λpe Hd gd ab yd=>?_];let ad:=am<*ab;let bX:=K31.SdsAt.same ad Y;erw[0,.lst (SqL.of (ab>>sc>>bN))\lM bX,.lst (SqL.of yd) .nil,zo rs,2,?_];rw[Ry rfl,AJ];cases rs with
   |nil=>show az\z _ _ #[L,zs,ss,1,ad,ad>>X,K31.SdsAt.same ad al,bl,bm,a4]
   |cons r0 rs=>
    let l1:=aE Y;show aP #[2,z _ _ #[Z_,ys,2,ad,ab>>sc>>bN,bX,by rw[l1];simp,(),b9]]
 rintro Z Hc ⟨O,g,bS,rfl,sc,b0,ab,cj,cl,ca⟩;let b1:=sc>>ya;let#[w1,w2]:=eR (q:=S) (b:=(↑g:Int)) ();let#[j,hj]:∃j:Nat,digO S (↑g:Int)=(j:Int):=#[(digO S (↑g:Int)).toNat,()];let b2:j<↑g:=();let#[#[m,n],hs,r,ez,u]:=bV ab\aU b2;let u:Hc r*>sdT m n:=u;erw[3,2,O,2,.inl\SqL.of b0,p,S,2,b1,a3,(),i9 () (wk (show ((↑g:Nat):Int)<=601 by lia) ⋯),λHd kd yd=>?_];let b3:=dz (b:=(↑g:Int)) a3;generalize nxt S (↑g:Int)=q2 at yd b3;rw[hj];erw[O,4,SqL.of\(kd _ ca).trans b0,aZ (j:=j) (by rw[aU b2,ez]),?_];let cb:Hd r*>sdT m n:=(kd _ (bW u b1 ∅))<*u;let cc:But p H Hd:=λb o nb e=>(kd b nb)<*(sc>>(but b o nb e));erw[2,lit3,λt2 He ge se ye=>?_];erw[t2,2,.inr\SqT.of ye,5,2,?_];rw[Rx bG,show inV (V.str k.sgn) [V.str "turn",V.str "out",V.str "draw"]=!k.wis by cases k<;>decide +kernel];let fin:∀d l,Same He l->l d*>.tup (.str k.sgn::.ref r::if k.wis then [.int (y:Int)] else [])->Q (.ref d) l:=λd l x yf=>
  qq d k m n y q2 l (λb o nb e=>x>>(se>>(cc b o nb e))) (x>>se>>yd) b3 #[r,x>>se>>cb,yf] b6 b7
 cases hw:k.wis with
 |false=>
  rw[hw] at fin;show aP #[3,lit2,λd l gf x yf=>fin d l x yf]
 |true=>
  rw[hw] at fin;show az #[3,2,lit3,λd l gf x yf=>fin d l x yf]
end
end K15
namespace L2
open PySem PySem.Spec PyProof.Rows
section
def xX:∀{cs:List pR}{us:List pC},Vals (cs.map V.ref) us->us=cs.map Value.ref
 | [],_,r=>by cases r;rfl
 |c::cs,_,r=>by
  rw[br] at r;cases r with
  |cons h t=>
   rw[br,<-xX t];cases (show _=Value.ref c from h);rfl
end
open PySem.W
section
variable {prog:Program}{x D:Addr}{ox:Obj}{od:Option Obj}
def EH{Q:Option pC->pS->Prop}(X:K.In s.heap)(c:iM K D)(I:W.InstAt s.heap x ox D od)(h:Q (oy\.ref D) {s with toks:=s.toks+1}):q7 (rb prog w) A (getAttr? (.ref x) ↑66) Q E s:=by
 let#[b,g,d,t,os]:=s;let e:=I.type (M:=rb prog w);let f:=w_ (M:=rb prog w) X c.ga;let L2:=w_ (M:=rb prog w) X c.ha;let hf:findObj K D od ↑66*>.bind (.builtin ↑27) (.builtin ↑13):=by let#[cd,i]:=oQ.mp c.cd;unfold findObj;rw[i,O3,c.cl,O3];simp[c.gt,c.tk]
 let j:=looks_find (M:=rb prog w) X I hf;let l:=looks_mroIn (M:=rb prog w) X c.mb;let n:(onTheHeap (Value.ref D)&&Value.builtin ↑2==Value.builtin ↑46)=p6:=by have:(Value.builtin ↑2==Value.builtin ↑46)=p6:=⋯;rw[this];rfl
 unfold getAttr? getAttrBy? getAttrBy;show aa\wpAny_mkText (aa\i5 (cX\aa (e.at\aa (f.at ?_))));dsimp only;rw[n];change q7 _ _ (getAttrByItsOwn _ _ _ _ _ _) _ _ _;unfold getAttrByItsOwn hookBefore;show aa ?_;change q7 _ _ (typeLookup (.ref D) "__getattr__") _ _ _;show L2.at\aa (i5\cX ?_);change q7 _ _ (boundAndCalled _ _ _) _ _ _;unfold boundAndCalled;rw[F.excAttr_ValueError.ga.bind\.ref x];show aa\ai ?_;show kK\w9 F.excAttr_ValueError.ga.plain F.entry_bexc_ga ?_;let o:builtinKind ↑2*>.slot:=⋯;let p:splitId ↑2*>(↑4,↑33):=⋯;let ha:=F.args_bexc_ga (.ref x)\.str ↑66 t;let q:Looks (rb prog w) b (isInstance (.ref x)\.type ↑4) oD:=e.andThen l;let r:∀(A:z3)(E:pC->pS->Prop)(Q:Unit->pS->Prop),Q .unit #[b,g,d,t+1,os]->q7 (rb prog w) A (checkBuiltinCall ↑2 #[[.ref x,.str ↑66 t],[]]) Q E #[b,g,d,t+1,os]:=by
  intro A E Q u;simp only[checkBuiltinCall,o,p];show aa\q.at ?_
  repeat (any_goals (first|assumption|wp_step))
 show r _ _ _ ?_;unfold Builtin.«object.__getattribute__»;show aa (m:=slotArgs _ _ _)\mP (a:=(.ref x,[.str ↑66 t])) rfl ?_;show aa\mP (a:=(↑66 : Str)) rfl ?_;show aa\e.at (aa\j.at ?_);change q7 _ _ (Builtin.ObjectAttr.bindTo (.builtin ↑27) (.builtin ↑13) (.ref x)\.ref D) _ _ _;unfold Builtin.ObjectAttr.bindTo;dsimp only;show aa\cX (kK\class_get (s:=#[b,g,d,t+1,os]) X I c.mo ?_);show ai\handed_on rfl (ai h)
def yK(c:iM K D):W.KitX K (.ref x) (.ref D) (λh=>∃ox od,W.InstAt h x ox D od) where
 ty:=λ_ _ _ ⟨_,_,I⟩=>I.type
 it:=λ_ _ X _=>by
  let#[d,a]:=oQ.mp c.cd;unfold W.clsIn at a
  split at a
  .rename_i f d' g i b;intro m o p s' k q;unfold isType loadHead;show aa\Du (k>>X>>b) (ai q)
  cases a
 ne:=λh j dd r n sl X l=>by
  let#[d,a]:=oQ.mp c.cd;show Os.mpr λq=>?_;let e:D=j:=Value.ref.inj\beq_iff_eq.mp q;subst e;unfold W.clsIn at a
  split at a
  .rename_i f d' g i b;let z:=(X>>b).symm.trans l;cases z
  cases a
 ca:=λX ⟨_,_,I⟩ k=>EH X c I k
end
section
def jw(H:Hp)(x D:pR):Prop:=∃pc,H x*>dU pc x (.ref D) n7\/∃d fs,H x*>dU pc x (.ref D) (oy d)/\H d*>.xd fs
def jw.inst(I:Inv X RC Z H s)(h:jw H x D):∃ox od,W.InstAt s.heap x ox D od:=by
 let#[pc,h]:=h;rcases h with h|⟨d,fs,h,hd⟩
 .let#[#[a,vs,h1,h2,b,c,_],_]:=(show bh X.prog X.w H s.heap x (dU pc x (.ref D) n7) from I.hok x _ h);erw[a,n7,h1,h2,?_,?_]
  .unfold W.notCls;rw[c]
  rw[b];trivial
 let#[#[a,vs,h1,h2,b,c,_],_]:=(show bh X.prog X.w H s.heap x (dU pc x (.ref D)\oy d) from I.hok x _ h);let#[mA,e,g]:=(show bh X.prog X.w H s.heap d (.xd fs) from I.hok d _ hd);let#[od,f,i]:=t_ e;erw[a,oy od,h1,h2,?_,?_]
 .unfold W.notCls;rw[c]
 rw[b];show f
def jw.same(s:Same H H')(h:jw H x D):jw H' x D:=by
 let#[pc,h]:=h;rcases h with h|⟨d,fs,h,hd⟩
 .exact#[pc,.inl (s>>h)]
 erw[pc,.inr #[d,fs,s>>h,s>>hd]]
def NA(K:W.Frag)(y:V)(c:pC):List V->Hp->VK->Prop:=λxs H Q=>∃(x D:pR)(b:Bool),xs=[.ref x,y]/\jw H x D/\iM K D/\W.kitOne K (.ref D) c*>b/\Q (.bl b) H
def kX{c:pC}(a:∀u,aC y u->u=c):c7 X (.builtin ↑97) (NA X.K y c):=by intro RC s Z H xs us Q I r h;let#[x,D,b,1,hx,d,e,q]:=h;let#[u,f,1,g,i]:=vals2 r;cases (show u=Value.ref x from g);cases a f i;show hX (yK d) I.kIn (hx.inst I) e (λz=>nomatch z) λtk=>#[.bl b,H,I.tok _,1,q]
def Ls(K:W.Frag):List V->Hp->VK->Prop:=λxs H Q=>∃(x D a:pR)(cs:List pR)(b:Bool),xs=[.ref x,.ref a]/\jw H x D/\iM K D/\H a*>.tup (cs.map V.ref)/\W.kitAny K (.ref D) (cs.map Value.ref)*>b/\Q (.bl b) H
def EL:c7 X (.builtin ↑97) (Ls X.K):=by
 intro RC s Z H xs us Q I r h;let#[x,D,a,cs,b,1,hx,d,f,e,q]:=h;let#[u,g,1,i,j]:=vals2 r;cases (show u=Value.ref x from i);cases (show g=Value.ref a from j);let#[w,l,#[o,m,c1,n,c],_]:=I.tuple\SqT.of f;let p:=xX l;subst p;let v:s.heap.get? a*>#[.type ↑20,o.dict,.seq (cs.map Value.ref).toArray n,o.slots]:=by rw[m];cases o;simp only at c1 c;subst c1 c;rfl
 show W.kia_tup (yK d) I.kIn (hx.inst I) v e (λz=>nomatch z) λtk=>#[.bl b,H,I.tok _,1,q]
end
section
def yX(h:rq):∀{bs:List Bool}{us:List pC},Vals (bs.map V.bl) us->∃as,ReadsAll h us (bs.map PyData.bool) as
 | [],_,r=>by cases r;erw[_,.nil]
 |b::bs,_,r=>by
  rw[br] at r;cases r with
  |cons a t=>
   let#[as,q]:=yX h t;cases (show _=Value.bool b from a);erw[_,.cons (.bool b) q]
def Jr:V->List V->Hp->VK->Prop:=λx vs H Q=>∃(a:pR)(bs:List Bool)(b:Bool),x=.ref a/\vs=[.bl b]/\H a*>.lst (bs.map V.bl)/\Q (.int (bs.count b:Nat)) H
def FG(bs:List Bool)(b:Bool):(Spec.countIn (.bool b) (bs.map PyData.bool):Int)=(bs.count b:Nat):=by
 induction bs with
 |nil=>rfl
 |cons c bs a=>
  rw[br,List.count_cons];change (if Spec.same (.bool c) (.bool b) then (1:Int) else 0)+Spec.countIn (.bool b) (bs.map PyData.bool)=_;rw[a];let e:Spec.same (.bool c) (.bool b)=(c==b):=by cases b<;>cases c<;>decide
  rw[e];cases h:(c==b)<;>simp<;>lia
def Fq:MtM X "list.count" Jr:=by intro RC s Z H x vs v us Q I c d h;let#[a,bs,b,5,e,q]:=h;cases c;let#[u,1,f]:=d.one;cases (show u=Value.bool b from f);let#[i,r,p,hz]:=I.list\SqL.of e;let#[as,g]:=yX s.heap r;show count_list_bools p.isList g (by simp[Shape.has]) #[.int _,H,I.tok _,#[2],?_];rw[FG];show q
end
section
def Jq:V->List V->Hp->VK->Prop:=λx vs H Q=>∃(a:pR)(bs:List Bool)(b:Bool)(j:Nat),x=.ref a/\vs=[.bl b]/\H a*>.lst (bs.map V.bl)/\bs[j]?*>b/\(∀i,i<j->bs[i]?≠oy b)/\Q (.int (j:Int)) H
def Fp:MtM X "list.index" Jq:=by
 intro RC s Z H x vs v us Q I p w h;let#[a,bs,m,j,5,A,d,B,q]:=h;cases p;let#[u,1,C]:=w.one;let#[z,b,n,r,D,e]:=I.lstM A;rw[av] at z D;let N:=(aN.mp d).1;let at_:∀i (h:i<b.toArray.size) k,bs[i]?*>k->eqU (V.bl m) b.toArray[i]=eqV (.bl k) (.bl m):=λi h k E=>by
  let#[K,f,c]:=r.get (i:=i) (x:=V.bl k) (by rw[bu,E];rfl);let c:K=Value.bool k:=c;subst c;have:b.toArray[i]=.bool k:=by
   let h':i<↑b:=‹h›
   rw[aU h'] at f;simpa using f
  rw[this];cases k<;>cases m<;>rfl
 let g:j<b.toArray.size:=by rw[bJ];lia
 let sm:(j:Int)<2 ^ 63-1:=by rw[cY] at z;lia
 show C_ F.slot_list_index #[_,e,1] F.entry_list_index (F.args_list_index_2 _ _) (SeqAt.list_indexAt a b.toArray n n7 (tA []) u (eqU\V.bl m) j g sm ?_ λi hi L=>?_) #[e,λy M=>?_,?_]
 .rw[at_ j g m d];cases m<;>simp[eqV]
 .let l:i<↑bs:=();rw[at_ i hi _\aU l];have:=B i L;rw[aU l] at this;let o:bs[i]≠m:=λz=>this (by rw[z]);generalize bs[i]=k at o;cases k<;>cases m<;>first|show absurd rfl o|simp[eqV]
 .exact jR C rfl r (by simp[fY]) y ‹M›
 erw[.int (j:Int),H,I.tok _,#[2],q]
end
end L2
namespace K15
open PySem L2 K51 K31
structure sL(K:W.Frag)(D S:pR)(ks gs:List pR)(i:Nat):Prop where
 xc:iM K D
 cls:∃bm,clsIn K D*>bm/\(Value.ref D::bm).contains (.ref S)=oD
 k:∀j c,ks[j]?*>c->W.kitOne K (.ref D) (.ref c)*>(i==j)
 val:W.kitOne K (.ref D) (.type ↑21)*>oD
 odd:W.kitAny K (.ref D) (gs.map Value.ref)*>p6
def Cj(ts us:List Tri)(k:Kd)(m n y:Nat):Due->Prop
 |.side=>¬Okd ts k m n
 |.spoilt kk=>Okd ts k m n/\∃rs,Beh ts us m n y rs k/\dX rs kk
 |.skin vs=>Okd ts k m n/\∃rs,Beh ts us m n y rs k/\SkT rs vs
def IP(Cs:pR)(vs:List V)(H:Hp)(Q:VK)(x d:pR)(ts us:List Tri)(k:Kd)(m n y:Nat):Prop:=vs=[.ref x,.ref d]/\cV Cs H x ts us/\eB H d k m n y/\(k.wis=oD->¬Co ts y)/\(∀rs,Okd ts k m n->Beh ts us m n y rs k->Few rs)/\
 ∀a r H',Sm H H'->jx H' r a->Cj ts us k m n y a->Q (.ref r) H'
def Bm(Cs:pR):Sp:=λvs H Q _=>Exists\Ex8 (IP Cs vs H Q)
def lit4:4<=sizeLine:=by change 4<=qs;decide
def lit10:10<=sizeLine:=by change 10<=qs;decide
def knD(i:Nat):List Bool:=[i==0,i==1,i==2,i==3]
section
def jn:aR [↑52,↑7,"_law_told_here","e","_law_kinds","_law_beside_here"] [↑52,↑7] (au p4):=.f
def JO{f f1 f2 Cs S M a N SP g1 g2 g3 Y g5 r u Z g9 ab:pR}{fd d1 d2:ro}(U:Fun K ↑64 ↑64 p4 f fd)(T:cu mg)(X:SCls K Cs)
  (G:mn (CX2 P w) P w K mg base 7 "changed" [↑39,"deed"] (v9 Cs a SP) f1 d1) (GT:!gW Cs 1 ↑45 [↑67] (j6 Cs) f2 d2)
  (mS:mg ↑22*>.ref S) (cS:∃bm,clsIn K S*>bm/\bm.contains (.type ↑4)=oD) (aS:mg "NoDeed"*>.ref M) (a0:mg "NoSide"*>.ref a) (a1:mg "Taken"*>.ref N) (al:mg "Spoilt"*>.ref SP)
  (m1:mg "Gone"*>.ref g1) (m2:mg "NoCaps"*>.ref g2) (m3:mg "NoCode"*>.ref g3) (m4:mg "NoCorner"*>.ref Y) (m5:mg "NoLetter"*>.ref g5) (m6:mg "NoPast"*>.ref r) (m7:mg "NoSkin"*>.ref u) (m8:mg "NoText"*>.ref Z) (m9:mg "NoWord"*>.ref g9) (a2:mg "TooMany"*>.ref ab)
  (xf:fE K SP "kind") (k1:sL K a S [M,a,N,SP] [g1,g2,g3,Y,g5,r,u,Z,g9,ab] 1) (k3:sL K SP S [M,a,N,SP] [g1,g2,g3,Y,g5,r,u,Z,g9,ab] 3) :
  !aj CX0 8 f fd [↑52,↑7] (Bm Cs):=by
 show U.ok jn (!8) λRD A outer s H vs Q E am h=>?_
 let#[x,d,ts,us,k,m,n,y,1,sk,dd,hw,few,q]:=h;let#[bm,a3,a4]:=cS;let a5:=am.mono (⋯:1<=7);erw[_,(af (sx 2 jn.nd\aD (pa1 a7))
  (af (Lv (i:=3) #[5] rfl jn.nd rfl rfl rfl mS a3 a4
   (λRC xe E hp=>(ak\sx 2 jn.nd (aD\ae a7 (pa1\iF (jk G.g am rfl G.m G.k G.b .nil hp\ae (pv 0) (pa1\pv 1)) X.cl GT.m GT.g a5 GT.b .nil pass0))))
   (λx=>(af (sx 4 jn.nd\bO (ae (bP (kX (y:=.ref M) (c:=.ref M) λ_ e=>e) (by rfl) T.isi gv\ae (pv 3) (pa1\dP (v:=.ref M) rfl aS rfl))\ae (bP (kX (y:=.ref a) (c:=.ref a) λ_ e=>e) (by rfl) T.isi gv\ae (pv 3) (pa1\dP (v:=.ref a) rfl a0 rfl)) (ae (bP (kX (y:=.ref N) (c:=.ref N) λ_ e=>e) (by rfl) T.isi gv\ae (pv 3) (pa1\dP (v:=.ref N) rfl a1 rfl))\pa1 (bP (kX (y:=.ref SP) (c:=.ref SP) λ_ e=>e) (by rfl) T.isi gv\ae (pv 3) (pa1\dP (v:=.ref SP) rfl al rfl)))))
  (af (sx 5 jn.nd\bP EL (by rfl) T.isi gv (ae (pv 3)\pa1 (aD\ae (dP (v:=.ref g1) rfl m1 rfl) (ae (dP (v:=.ref g2) rfl m2 rfl)\ae (dP (v:=.ref g3) rfl m3 rfl) (ae (dP (v:=.ref Y) rfl m4 rfl)\ae (dP (v:=.ref g5) rfl m5 rfl) (ae (dP (v:=.ref r) rfl m6 rfl)\ae (dP (v:=.ref u) rfl m7 rfl) (ae (dP (v:=.ref Z) rfl m8 rfl)\ae (dP (v:=.ref g9) rfl m9 rfl) (pa1\dP (v:=.ref ab) rfl a2 rfl))))))))
  (af (a8 (PW.pt\ff (dQ\bP (kX (y:=.ty ↑21) (c:=.type ↑21) λ_ e=>e) (by rfl) T.isi gv (ae (pv 3)\pa1 (jU (v:=.ty ↑21) rfl T.ve rfl rfl))) (ff (fK\dQ (pv 5))\ft (aQ cq (dR eG PySem.F.slot_list_count PySem.F.type_list_count Fq (pv 4)\pa1 il) ah\nomark _))) (ak\sx 2 jn.nd (aD\pa1 (ixx cJ (bO\ae a7 (ae a7\ae a7 (pa1 a7)))\dR eG PySem.F.slot_list_index PySem.F.type_list_index Fp (pv 4) (pa1 il)))) aY)
  (ak\a8 (dQ\bP (kX (y:=.ref SP) (c:=.ref SP) λ_ e=>e) (by rfl) T.isi gv (ae (pv 3)\pa1 (dP (v:=.ref SP) rfl al rfl))) (ak\sx 2 jn.nd (aH AD (pv 2)\aD (pa1\Az (pc:=λ_=>True) (pv 3) rfl))) aY))))))
  (ak\aF (pv 2)))),?_]
 erw[lit1,λt0 H1 g0 s1 y1=>?_];let a6:=sk.sm\Sm.of s1;erw[λcls e H'=>Sm H1 H'/\(cls=.ref a/\e=n7/\¬Okd ts k m n\/∃dx rs kk,cls=.ref SP/\e*>dx/\H' dx*>.xd [("kind",.str kk)]/\Okd ts k m n/\Beh ts us m n y rs k/\dX rs kk),?_,?_]
 .refine#[3,x,d,ts,us,k,m,n,y,1,a6,dd.same s1,hw,few,λrs an z H2 ok b sm sz=>?_,λH2 sm no=>#[sm,.inl #[5,no]],λdx rs H2 kk sm ok b hk hd=>#[sm,.inr #[dx,rs,kk,5,hd,ok,b,hk]]];let#[dx,O,R,D,S',hz]:=sz.obj;erw[z,dx,2,hz,1,z,rs,an,1,sz,λl vo H3 hl s3 y3 tr=>#[lit2,λt H4 Y B y4=>#[2,?_]]];show q (.skin an) t H4 ((Sm.of s1).trans\sm.trans (Sm.of\s3.trans B)) #[l,vo,y4,B>>y3,tr.same B] #[ok,rs,b,sz.1]
 rintro cls e H2 ⟨sm,hh⟩;let#[D,i,1,kn,hD]:∃D i,cls=.ref D/\sL K D S [M,a,N,SP] [g1,g2,g3,Y,g5,r,u,Z,g9,ab] i/\(i=1/\e=n7/\¬Okd ts k m n\/i=3/\D=SP/\∃dx rs kk,e*>dx/\H2 dx*>.xd [("kind",.str kk)]/\Okd ts k m n/\Beh ts us m n y rs k/\dX rs kk):=by
  rcases hh with ⟨e1,e2,e3⟩|⟨dx,rs,kk,e1,e2⟩
  .exact#[a,(1),e1,k1,.inl #[1,e2,e3]]
  erw[SP,(3),e1,k3,.inr #[5,dx,rs,kk,e2]]
 let#[xc,#[bb,bc,bd],kk,val,odd]:=kn;erw[D,bb,1,bc,bd,λx hx=>?_];let s2:=bL (o:=dU (λ_=>True) x (.ref D) e) hx;let ha:jw (upd H2 x\dU (λ_=>True) x (.ref D) e) x D:=by
  rcases hD with ⟨_,rfl,_⟩|⟨_,_,d0,rs,kk,rfl,e1,_⟩
  .exact#[_,.inl aI]
  erw[_,.inr #[d0,_,aI,s2>>e1]]
 let be:upd H2 x (dU (λ_=>True) x (.ref D) e) x*>dU (λ_=>True) x (.ref D) e:=aI;let bi:Sm H (upd H2 x\dU (λ_=>True) x (.ref D) e):=((Sm.of s1)<*sm).trans\Sm.of s2;generalize upd H2 x (dU (λ_=>True) x (.ref D) e)=H3 at *;erw[2,x,D,2,ha,xc,kk 0 _ rfl,2,x,D,2,ha,xc,kk 1 _ rfl,2,x,D,2,ha,xc,kk 2 _ rfl,2,x,D,2,ha,xc,kk 3 _ rfl,lit4,λL H4 bw B y4=>?_];let ap:=ha.same B;let y4:H4 L*>.lst ((knD i).map V.bl):=y4;erw[2,lit10,λtp H5 bx s5 y5=>#[x,D,tp,[g1,g2,g3,Y,g5,r,u,Z,g9,ab],p6,1,ap.same s5,xc,y5,odd,?_]];let ad:=ap.same s5;let C:=s5>>y4;let aM:Sm H H5:=bi.trans\Sm.of (B<*s5);let bn:=s5>>B>>be;rcases hD with ⟨rfl,rfl,no⟩|⟨rfl,rfl,d0,rs,kd,rfl,e1,ok,b,hk⟩
 .refine#[2,x,D,2,ad,xc,val,2,fX #[3,fX #[2,.inl #[1,_,SqL.of C],L,knD 1,oD,5,C,7,aP #[lit4,λl H6 r I y6=>?_]]]];erw[2,.inl #[1,_,SqL.of (I>>C)],L,knD 1,oD,(1),5,I>>C,1,⋯,l,4,SqL.of y6,aZ (j:=1) rfl,lit1,λt H7 u s7 y7=>?_];erw[2,x,D,2,ad.same\I.trans s7,xc,kk 3 _ rfl,2,az #[2,?_]];show q .side t H7 (aM.trans\Sm.of (I<*s7)) y7 no
 erw[2,x,D,2,ad,xc,val,2,fX #[3,fX #[2,.inl #[1,_,SqL.of C],L,knD 3,oD,5,C,7,aP #[lit4,λl H6 r I y6=>?_]]]];erw[2,.inl #[1,_,SqL.of (I>>C)],L,knD 3,oD,(3),5,I>>C,1,⋯,l,4,SqL.of y6,aZ (j:=3) rfl,lit1,λt H7 u s7 y7=>?_];let ag:=I<*s7;let bt:=ag>>s5>>B>>s2>>e1;erw[2,x,D,2,ad.same ag,xc,kk 3 _ rfl,2,aP #[3,x,D,d0,9,ag>>bn,bt,xc,xf,1,lit1,λt2 H8 Z s8 y8=>?_]];erw[t,t2,6,SqT.of (s8>>y7),SqT.of y8,(λz=>nomatch z),lit2,(λz=>nomatch z),λ_ p hp=>#[2,?_]];show q (.spoilt kd) p _ (aM.trans\Sm.of ((ag<*s8).trans\bL hp)) aI #[ok,rs,b,hk]
end
def BL{R:Nat->Nat->Prop}(one:∀a b c,R a b->R a c->b=c)(c:Cy R l)(o:Cy R e){m:Nat}(hm:m∈l)(r:m∈e){p:Nat}(s:p∈l):p∈e:=by
 let nx:∀{a b},(a,b)∈prs l->a∈e->b∈e:=λ{a b} h ha=>by
  let#[q,f]:=qr ha;rw[one _ _ _ (c.st>>h) (o.st>>f)];unfold prs at f;have:=(tm f).2;rcases bo.mp this with z|z
  .exact List.mem_of_mem_drop z
  show OR z
 let fwd:∀(d i a b:Nat),l[i]?*>a->l[i+d]?*>b->a∈e->b∈e:=by
  intro d;induction d with
  |zero=>intro i a b h1 h2 ha;rw[wO,h1] at h2;cases h2;show ha
  |succ d u=>
   intro i a b h1 h2 ha;let y:=(aN.mp h2).1;let g:l[i+d]?*>l[i+d]'():=aU _;show nx (a9\Jv g h2)\u i a _ h1 g ha
 let#[i,hi]:=eY.mp hm;let#[j,v]:=eY.mp s;let A:=(aN.mp hi).1;let hz:l[↑l-1]?*>l[↑l-1]'():=aU _;let n:l[0]?*>l[0]'():=aU _;let w:=fwd (↑l-1-i) i m _ hi (by rw[show i+(↑l-1-i)=↑l-1 by lia];show hz) r;let x:=nx (GJ (by rw[jG];show hz) n) w;show fwd j 0 _ p n (by rw[kE];show v) x
def Mo{R:Nat->Nat->Prop}(one:∀a b c,R a b->R a c->b=c)(c:Cy R l)(e:Cy R d){m:Nat}(hm:m∈l)(f:m∈d):(prs l).Perm (prs d):=by
 let sub:∀{l d:List Nat},Cy R l->Cy R d->m∈l->m∈d->∀s∈prs l,s∈prs d:=λ{l d} c e hm f ⟨a,b⟩ h=>by
  let ha:a∈l:=by rw[<-qt l];show ax.mpr #[_,h,1]
  let#[q,g]:=qr\BL one c e hm f ha;rw[one _ _ _ (c.st>>h) (e.st>>g)];show g
 show (CK (vz c.nd)\vz e.nd).mpr λs=>#[sub c e hm f s,sub e c f hm s]
def zW{us:List Tri}(sk:Skn ts)(al:Alike us ts)(h:Beh ts us m n y rs k)(h':gZ us m n y i k):i.Perm rs:=by
 let en:=al.en;cases k with
 |turn=>
  let#[c,d,h1,h2,1]:=h;let#[e,d',f,j,1]:=h';rw[sk.g.sk.one h1\(en _ _ _).mp f,sk.g.sk.one h2\(en _ _ _).mp j]
 |out=>
  let#[c,h1,1]:=h;let#[e,f,1]:=h';rw[sk.g.sk.one h1\(en _ _ _).mp f]
 |draw=>rw[show rs=_ from h,show i=_ from h']
 |inn=>
  let#[c,h1,1]:=h;let#[e,f,1]:=h';rw[sk.g.sk.one h1\(en _ _ _).mp f]
 |on=>rw[show rs=_ from h,show i=_ from h']
 |close=>
  let#[r,c,l,1]:=h;let#[w,e,h1,1]:=h';let s:=(kQ sk.g sk.o).1;let u:∀a b,bq (En us) a b->bq (En ts) a b:=λa b ⟨⟨c,v⟩,h⟩=>#[#[c,(en _ _ _).mp v],λ⟨d,hd⟩=>h #[d,(en _ _ _).mpr hd]];show ((Mo s #[e.nd,λp q h=>u>>(e.st p q h)] c h1\a9 l).map _).append_left us
def dX.pm{d:List Tri}(h:dX ts k)(p:ts.Perm d):dX d k:=by
 let e:=AL p;let ne:(∀t∈ts,Ne3 t)↔∀t∈d,Ne3 t:=#[λh t f=>h t\p.mem_iff.mpr f,λh t f=>h t\p.mem_iff.mp f];let nd:=(e.map (·.1)).nodup_iff;rcases h with ⟨h1,h2⟩|⟨h1,⟨h2,g⟩|⟨h2,g,c,⟨a,b,i⟩,j⟩⟩
 .exact .inl #[h1,λz=>h2\ne.mpr z]
 .exact .inr #[ne.mp h1,.inl #[h2,λz=>g\nd.mpr z]]
 show .inr #[ne.mp h1,.inr #[nd.mp h2,g,c,#[a,b,e.mem_iff.mp i],λz=>j\(yw (λa b c=>(e.mem_iff:((a,b),c)∈_↔_)) c).mpr z]]
def dX.one(h:dX ts k)(h':dX ts a):k=a:=by
 rcases h with ⟨rfl,h2⟩|⟨h1,⟨rfl,c⟩|⟨h2,rfl,_⟩⟩<;>rcases h' with ⟨rfl,b⟩|⟨d,⟨rfl,e⟩|⟨b,rfl,_⟩⟩
 all_goals first|rfl|show absurd (by assumption:∀t∈ts,Ne3 t) (by assumption)|show absurd (by assumption:((ents ts).map (·.1)).Nodup) (by assumption)
def xx(S:List (Nat×Nat)):∀l:List Tri,(∀t∈l,∃s∈b_ t,s∉S)->↑((ents l).filter λe=>decide (e.1∈S))<=2*↑l
 | [],_=>aq _
 |t::l,h=>by
  let d:=xx S l λt b=>h t\de _ b;let f:↑((ents [t]).filter λe=>decide (e.1∈S))<=2:=by
   let#[s,a,c]:=h t gk;let#[e,he,1]:∃e∈ents [t],e.1=s:=by
    simp only[b_,aT,eZ,or_false] at a;rcases a with rfl|rfl|rfl
    .exact#[((t.1,t.2.1),t.2.2),cG.mpr\.inl (aG.mpr rfl),1]
    .exact#[((t.2.1,t.2.2),t.1),cG.mpr\.inr (.inl\aG.mpr rfl),1]
    erw[((t.2.2,t.1),t.2.1),cG.mpr\.inr (.inr\aG.mpr rfl),1]
   have:=ue (ents [t]) (λe=>decide (e.1∈S)) he\RA c;rw[el,cw] at this;lia
  rw[kU,fT,bj,cv];lia
def Jc{us:List Tri}(s:Skn us)(c:Cy (bq\En us) rim):↑rim<=3\/↑rim<=2*↑us:=by
 by_cases a:↑rim<=3
 .exact .inl a
 show .inr ?_;let b:=(kQ s.g s.o).1;let h2:=xx (prs rim) us λt d=>iV λf=>by
  let all:∀s∈b_ t,s∈prs rim:=λs i=>iV λz=>f #[s,i,z];let#[j,l,n]:=s.g.ne t d;let u:Cy (bq\En us) [t.1,t.2.1,t.2.2]:=#[by simp[j,l,aA n],λp q h=>c.st p q\all _ h];let hm:t.1∈rim:=by rw[<-qt rim];show ax.mpr #[_,all (t.1,t.2.1) (by simp[b_]),1]
  show a (ia (m:=[t.1,t.2.1,t.2.2]) c.nd λp v=>BL b c u hm ∅ v)
 have:=ia (m:=((ents us).filter λe=>decide (e.1∈prs rim)).map (·.1)) (vz c.nd) λ⟨p,q⟩ h=>by
  let#[r,w]:=(c.st p q h).1;show ax.mpr #[_,ef.mpr #[w,Rz h],1]
 rw[av,iG] at this;lia
def Km{us:List Tri}(sk:Skn us)(x:↑us<=60){B:Nat}(h:gZ us m n y rs k)(i:∀c,Co us c->c<B)(j:y<B)(A:∃c,En us m n c):↑rs<=200/\∀t∈rs,t.1<B/\t.2.1<B/\t.2.2<B:=by
 let tb:∀t∈us,t.1<B/\t.2.1<B/\t.2.2<B:=λt f=>#[i _\cK.mpr #[t,f,.inl rfl],i _\cK.mpr #[t,f,.inr\.inl rfl],i _\cK.mpr #[t,f,.inr\.inr rfl]];let l:∀{a b c},En us a b c->a<B/\b<B/\c<B:=λ{a b c} e=>#[i _ #[0,e],i _ #[0,sk.g.sk.rot e],i _ #[0,sk.g.sk.rot\sk.g.sk.rot e]];let wl:∀g,↑(wo us g)<=60:=λg=>cR (dI _ _) x;let s:∀g,∀t∈wo us g,t.1<B/\t.2.1<B/\t.2.2<B:=λg t f=>tb t (ef.mp f).1;let#[c0,C]:=A;let#[bm,bn,_]:=l C;cases k with
 |turn=>
  let#[c,d,h1,h2,1]:=h;let#[0,o]:=l h1;let#[0,bd]:=l h2;erw[by have:=wl [(m,n,c),(n,m,d)];unfold turned;simp;lia,λt f=>?_];rcases bo.mp f with z|z
  .exact s _ t z
  simp at z;rcases z with rfl|rfl
  .exact#[bm,bd,o]
  erw[bd,bn,o]
 |out=>
  let#[c,h1,1]:=h;erw[cR (wl _) ⋯,s _]
 |draw=>
  let h:rs=dwn us m n:=h;subst h;erw[by unfold dwn;rw[av];show cR (dI _ _) (),λt f=>?_];let#[u,D,1]:=ax.mp f;let#[v,w,E]:=tb u (ef.mp D).1;let ob:∀{c},c<B->onto m n c<B:=λ{c} h=>by unfold onto;split<;>assumption
  erw[ob v,ob w,ob E]
 |inn=>
  let#[c,h1,1]:=h;let#[0,o]:=l h1;erw[by have:=wl [(m,n,c)];unfold inn;simp;lia,λt f=>?_];rcases bo.mp f with z|z
  .exact s _ t z
  simp at z;rcases z with rfl|rfl|rfl
  .exact#[bm,bn,j]
  .exact#[bn,o,j]
  erw[o,bm,j]
 |on=>
  let h:rs=us++[(n,m,y)]:=h;subst h;erw[by simp;lia,λt f=>?_];rcases bo.mp f with z|z
  .exact tb t z
  rw[aG.mp z];erw[bn,bm,j]
 |close=>
  let#[r,c,I,1]:=h;erw[by have:=Jc sk c;rw[bj];unfold clo;rw[av,iG];lia,λt f=>?_];rcases bo.mp f with z|z
  .exact tb t z
  let#[#[p,q],H,1]:=ax.mp z;let#[e,he]:=(c.st p q H).1;let#[v,w,_]:=l he;erw[w,v,j]
def Ek{us:List Tri}{q:Int×Int}(h:ay H (bT q) us):False:=by
 cases h with
 |cons h _=>let#[a,e,_]:=h;cases e
def cV.but{q:Int×Int}{us:List Tri}(s:H p*>.lst\bT q)(b:But p H H')(h:cV C H x ts us):cV C H' x ts us:=by
 let#[t,dx,O,R,D,S,v,L,h,r]:=h;let nd:∀{b:pR}{o:HO},H b*>o->o≠.lst (bT q)->b≠p:=λe n z=>by rw[z,s] at e;cases e;show n rfl
 let rd:∀{b:pR}{u:HO},eK u->Rd H b u->Rd H' b u:=λ{a u} d w=>by
  rcases w with e|⟨ob,e⟩
  .exact .inl\b _ _ (nd e λz=>by rw[z] at d;show d) e
  show .inr #[ob,b _ _ (nd e λz=>nomatch z) e]
 let#[cs,f,pl,pc]:=h.ri;erw[t,dx,O,R,D,S,v,L,#[b _ _ (nd h.ob λz=>nomatch z) h.ob,b _ _ (nd h.od λz=>?_) h.od,Paired.imp' (by rintro _ _ ⟨a,y,i⟩;erw[a,y,b _ _ (nd i λz=>nomatch z) i]) h.tr,rd trivial h.th,rd trivial h.st,λz hz=>rd trivial\h.ab z hz,cs,b _ _ (nd f λz=>?_) f,pl,pc],r]
 .let j:=h.tr;injection z with z;rw[z] at j;show Ek j
 injection z with z;let l2:=congrArg List.length z;rw[bH] at l2;let l2:↑cs=2:=l2;cases cs with
 |nil=>cases l2
 |cons c0 cs=>
  let#[A,B,e]:=(pc c0).mp gk;let g:=t.sk.g;let n:=ne3 g e;let E:([c0,A,B]:List Nat).Nodup:=by simp[n.1,n.2.1,aA n.2.2]
  have:=ia (m:=c0::cs) E λc l=>by
   simp only[aT,eZ,or_false] at l;rcases l with rfl|rfl|rfl
   .exact gk
   .exact (pc _).mpr #[0,g.sk.rot e]
   show (pc _).mpr #[0,g.sk.rot\g.sk.rot e]
  rw[l2] at this;show absurd (show 3<=2 from this) ⋯
def yt{us:List Tri}(h:Alike us ts):us.map bg=us:=by have:us.map bg=us.map id:=tj λt a=>As h a;rw[this,CI]
def EM{us:List Tri}(h:Alike us ts):Alike us us:=by unfold Alike;rw[yt h]
def lex3{a b:Tri}(h1:HT.lexLt [(b.1:Int),(b.2.1:Int),(b.2.2:Int)] [(a.1:Int),(a.2.1:Int),(a.2.2:Int)]=p6)(h2:HT.lexLt [(a.1:Int),(a.2.1:Int),(a.2.2:Int)] [(b.1:Int),(b.2.1:Int),(b.2.2:Int)]=p6):a=b:=by
 let#[c,d,e]:=a;let#[f,g,h]:=b;simp[HT.lexLt] at h1 h2;let i:c=f:=by split at h1<;>split at h2<;>lia
 subst i;rw[Ry rfl] at h1 h2;let j:d=g:=by split at h1<;>split at h2<;>lia
 subst j;rw[Ry rfl] at h1 h2;let l:e=h:=();rw[l]
def zg{us vs:List Tri}(p:us.Perm vs)(h1:Srt us)(h2:Srt vs):us=vs:=Cp (λa b _ _ x y=>lex3 x y) h1 h2 p
def x_(us:List Tri):PyData.depthAll (us.map c9)<=1:=by
 induction us with
 |nil=>show a_ _
 |cons u us a=>
  rw[br];change max (c9 u).depth _<=1;have:(c9 u).depth=1:=by simp[c9,PyData.depth,PyData.depthAll]
  lia
def ze(us:List Tri):PyData.eqv (.list\us.map c9) (.list\us.map c9)=oD:=by
 change PyData.eqvAll _ _=oD;induction us with
 |nil=>rfl
 |cons u us a=>
  rw[br];change (PyData.eqv (c9 u) (c9 u)&&_)=oD;rw[ui,a];simp
def AK{us:List Tri}{a b:List V}{neg:Bool}{Q:VK}(h1:H l*>.lst a)(c:ay H a us)(h2:H m*>.lst b)(d:ay H b us)(q:Q (.bl (!neg)) H):ml [] neg (.ref l) (.ref m) H Q:=by
 erw[0,.lst (SqL.of h1)\n8 c,.lst (SqL.of h2)\n8 d,?_,?_]
 .have:=x_ us;change PyData.depthAll (us.map c9)+1<=60;lia
 rw[ze];cases neg<;>show q
def BE{ts:List Tri}{neg:Bool}{Q:VK}(h1:H l*>.lst\nV cs)(h2:H m*>.lst\nV ds)(d:cs.Pairwise (· < ·))(f:ds.Pairwise (· < ·))(m1:∀c,c∈cs↔Co ts c)(m2:∀c,c∈ds↔Co ts c)(q:Q (.bl (!neg)) H):ml [] neg (.ref l) (.ref m) H Q:=by
 let e:cs=ds:=Cp (λa b _ _ x y=>absurd x\Nat.lt_asymm y) d f ((CK (d.imp bB)\f.imp bB).mpr λc=>(m1 c).trans (m2 c).symm);rw[<-e] at h2;erw[0,.lst (SqL.of h1)\vG cs,.lst (SqL.of h2)\vG cs,cR (BH cs) ⋯,?_];have:PyData.eqv (.list (cs.map λn:Nat=>PyData.int (n:Int))) (.list (cs.map λn:Nat=>PyData.int (n:Int)))=oD:=by
  change PyData.eqvAll _ _=oD;clear d f m1 m2 e h1 h2;induction cs with
  |nil=>rfl
  |cons c cs g=>
   rw[br];change (PyData.eqv (.int (c:Int)) (.int (c:Int))&&_)=oD;rw[g];simp[PyData.eqv]
 rw[this];cases neg<;>show q
def Okd.en{ts us:List Tri}(en:∀a b c,En us a b c↔En ts a b c)(o:Okd ts k m n):Okd us k m n:=
 #[o.a.imp λ_=>(en _ _ _).mpr,λe=>(o.b e).imp λ_=>(en _ _ _).mpr,λe c h=>o.c e c\(en _ _ _).mp h]
def Od{ts us:List Tri}(en:∀a b c,En us a b c↔En ts a b c)(h:Beh ts us m n y rs k):gZ us m n y rs k:=by
 cases k with
 |turn=>
  let#[c,d,h1,h2,e]:=h;erw[c,d,(en _ _ _).mpr h1,(en _ _ _).mpr h2,e]
 |out=>
  let#[c,h1,e]:=h;erw[c,(en _ _ _).mpr h1,e]
 |draw=>show h
 |inn=>
  let#[c,h1,e]:=h;erw[c,(en _ _ _).mpr h1,e]
 |on=>show h
 |close=>
  let#[r,c,f,e]:=h;erw[r,#[c.nd,λp q h=>let ⟨⟨a,h1⟩,h2⟩:=c.st p q h;#[#[a,(en _ _ _).mpr h1],λ⟨b,g⟩=>h2 #[b,(en _ _ _).mp g]]],a9 f,e]
def DueF(us:List Tri)(k:Kd)(m n y:Nat):Due->Prop
 |.side=>¬Okd us k m n
 |.spoilt kk=>Okd us k m n/\∃rs,gZ us m n y rs k/\dX rs kk
 |.skin vs=>Okd us k m n/\∃rs,gZ us m n y rs k/\Skn rs/\Alike vs rs/\Srt vs
def AO{us:List Tri}(t:SkT ts us){a b:Due}(ha:Cj ts us k m n y a)(d:DueF us k m n y b):a=b:=by
 let en:=t.al.en;let pm:∀{rs f},Beh ts us m n y rs k->gZ us m n y f k->f.Perm rs:=λh h'=>zW t.sk t.al h h';cases a with
 |side=>cases b with
  |side=>rfl
  |spoilt _=>show (ha (d.1.en λa b c=>(en a b c).symm)).elim
  |skin _=>show (ha (d.1.en λa b c=>(en a b c).symm)).elim
 |spoilt kk=>
  let#[o,rs,g,j]:=ha;cases b with
  |side=>show (d\o.en en).elim
  |spoilt k2=>
   let#[_,f,e,i]:=d;rw[j.one\i.pm (pm g e)]
  |skin ws=>
   let#[_,f,e,s,_]:=d;show ((j.pm (pm g e).symm).no s).elim
 |skin vs=>
  let#[o,rs,g,st]:=ha;cases b with
  |side=>show (d\o.en en).elim
  |spoilt k2=>
   let#[_,f,e,i]:=d;show ((i.pm\pm g e).no st.sk).elim
  |skin ws=>
   let#[_,f,e,s,al,so]:=d;rw[zg (List.Perm.trans st.al\((pm g e).symm.map bg).trans (List.Perm.symm al)) st.so so]
def Mh{a:Due}{neg:Bool}{Q:VK}(h:jx H r a)(h':jx H b a)(f:∀kk,a=.spoilt kk->KdK kk)(q:Q (.bl (!neg)) H):ml [] neg (.ref r) (.ref b) H Q:=by
 let fin:∀d:vu,PyData.eqv d d=oD->Dt [] H (.ref r) d->Dt [] H (.ref b) d->d.depth<=60->ml [] neg (.ref r) (.ref b) H Q:=λd e h1 h2 l=>#[d,d,h1,h2,l,by rw[e];cases neg<;>show q];cases a with
 |side=>
  show fin (.tuple [.str "side"]) ⋯ (.tup (SqT.of h)\.cons (.str _ ⋯) .nil) (.tup (SqT.of h')\.cons (.str _ ⋯) .nil) ⋯
 |spoilt kk=>
  let#[c,e,l]:(PyData.str kk).canLay0=oD/\PyData.eqv (.tuple [.str "spoilt",.str kk]) (.tuple [.str "spoilt",.str kk])=oD/\(PyData.tuple [.str "spoilt",.str kk]).depth<=60:=by rcases f kk rfl with rfl|rfl|rfl<;>decide +kernel
  show fin (.tuple [.str "spoilt",.str kk]) e (.tup (SqT.of h)\.cons (.str _ ⋯) (.cons (.str _ c) .nil)) (.tup (SqT.of h')\.cons (.str _ ⋯) (.cons (.str _ c) .nil)) l
 |skin vs=>
  let#[l,n,h1,h2,g]:=h;let#[o,p,i,j,m]:=h';show fin (.tuple [.str ↑39,.list\vs.map c9]) ?_ (.tup (SqT.of h1)\.cons (.str _ ⋯) (.cons (.lst (SqL.of h2)\n8 g) .nil)) (.tup (SqT.of i)\.cons (.str _ ⋯) (.cons (.lst (SqL.of j)\n8 m) .nil)) ?_
  .change (PyData.eqv (.str ↑39) (.str ↑39)&&(PyData.eqv (.list\vs.map c9) (.list\vs.map c9)&&oD))=oD;rw[ze,show PyData.eqv (.str ↑39) (.str ↑39)=oD by decide +kernel];rfl
  have:=x_ vs;change max 0 (max (PyData.depthAll (vs.map c9)+1) 0)+1<=60;lia
def A7(s:Sm H H'){a:List V}{ts:List Tri}(h:ay H a ts):ay H' a ts:=Paired.imp' (by rintro _ _ ⟨b,c,d⟩;erw[b,c,s.keep d λz=>z]) h
def eB.sm(s:Sm H H')(h:eB H d k m n x):eB H' d k m n x:=h.elim λa q=>#[a,s.keep q.1 λz=>z,s.keep q.2 λz=>z]
def jx.sm(s:Sm H H'){a:Due}(h:jx H r a):jx H' r a:=by
 cases a with
 |side=>show s.keep h (λz=>z)
 |spoilt _=>show s.keep h (λz=>z)
 |skin _=>
  let#[l,b,h1,h2,c]:=h;erw[l,b,s.keep h1 λz=>z,s.keep h2 λz=>z,A7 s c]
def rtF(i:Nat):List Tri:=[(i,(i+1)%7,(i+3)%7),(i,(i+3)%7,(i+2)%7)]
def rt:List Tri:=(List.range 7).flatMap rtF
def uR:Good rt:=#[⋯,⋯]
def Lh:∀i:Fin 14,∀j:Fin 13,∃t∈(rt.eraseIdx i).eraseIdx j,6=t.1\/6=t.2.1\/6=t.2.2:=⋯
def B1:∀t∈rt,t.1<7/\t.2.1<7/\t.2.2<7:=⋯
def tU{α:Type}:∀{l:List α}{i:Nat}{x:α},l[i]?*>x->(l.eraseIdx i++[x]).Perm l
 | [],i,x,h=>by simp at h
 |a::l,0,x,h=>by
  simp at h;subst h;show (jI (l₁:=l) (l₂:=[a]))
 |a::l,i+1,x,h=>(tU (l:=l) (i:=i) ‹h›).cons a
def FD{as bs:List Tri}(h:as.Perm bs):(ents as).Perm (ents bs):=h.flatMap_right _
def pV{H H1:Hp}{d:List V}{f:List Tri}{u:Tri}(hf:H c*>.lst d)(k:∀b,b≠c->H1 b=H b)(tr:ay H d f)(g:H t*>.tup [.int (u.1:Int),.int (u.2.1:Int),.int (u.2.2:Int)]):
  ay H1 (d++[V.ref t]) (f++[u]):=by
 let h:∀{a:pR}{xs:List V},H a*>.tup xs->a≠c:=λe=>bW e hf ∅;show bR (Paired.imp' (by rintro _ _ ⟨a,j,i⟩;erw[a,j,(k _\h i)<*i]) tr)\.cons #[t,1,(k _\h g)<*g] .nil
def uK{a pv:List V}{c:List Tri}(b:But p H H')(e:H p*>.lst pv)(h:ay H a c):ay H' a c:=
 Paired.imp' (by rintro _ _ ⟨f,g,d⟩;erw[f,g,b _ _ (bW d e ∅) d]) h
def zC{α β:Type}{F:α->β->Prop}:∀{xs:List α}{ys:List β}(k:Nat),Paired F xs ys->Paired F (xs.eraseIdx k) (ys.eraseIdx k)
 |_,_,_,.nil=>.nil
 |_,_,0,.cons _ t=>t
 |_,_,k+1,.cons h t=>.cons h\zC k t
def IH(vs:List V)(H:Hp)(Q:VK)(p:pR)(q:Int×Int):Prop:=vs=[.ref p]/\H p*>.lst (bT q)/\cP q/\
 ∀r vr ts a H',H r=n7->But p H H'->H' p*>.lst (bT a)->cP a->H' r*>.lst vr->ay H' vr ts->↑ts<=16->Good ts->Q (.ref r) H'
def Bf:Sp:=λvs H Q _=>Exists\Ex2 (IH vs H Q)
section
def jm:aR [↑1,↑0,"_law_i","_law_way",↑75,"_law_gone",↑80] [↑1] (au qP):=.f
def JJ{f f1 f2 f3:pR}{fd d1 d2 d3:ro}(U:Fun K ↑92 ↑92 qP f fd)(T:cu mg)(mM:mg "max" = n7)
  (GD:!Use 2 ↑31 [↑1,↑48] jd f1 d1)
  (GC:!Use 2 ↑16 [↑0] h_ f2 d2)
  (GS:!Use 2 ↑44 [↑6] lq f3 d3) :
  !aj CX0 3 f fd [↑1] Bf:=by
 show U.ok jm (!2) λRD A outer s H vs Q E hr h=>?_
 let#[p,q,1,hp,a5,Qq]:=h;let hu:=dA hr;erw[_,(af (sx 1 jm.nd\bO fB)
  (af (dC dq rfl (nr rfl T.range\pa1 ah) (gx 2 jm.nd)
   (af (dJ\dR eG gw gz fm (pv 1) (pa1\aD (ae (pv 2)\ae (aH fV (aH dM (pv 2) ah) ah) (pa1\aH fV (aH dM (pv 2) ah) ah))))
  (ak\dJ (dR eG gw gz fm (pv 1)\pa1 (aD\ae (pv 2) (ae (aH fV (aH dM (pv 2) ah) ah)\pa1 (aH fV (aH dM (pv 2) ah) ah)))))))
  (af (sx 3 jm.nd\uc GD hr (ae (pv 0)\pa1 ah))
  (af (dC dq rfl (nr rfl T.range\pa1 (aH fV (pv 3) ah)) (gx 4 jm.nd)
   (af (sx 5 jm.nd\dR eG Pp Pu zJ (pv 1) (pa1\uc GD hr (ae (pv 0)\pa1 (pln T.len\pv 1))))
  (ak\a8 (aQ cq (pv 4) ah\nomark _) (af (sx 6 jm.nd\aH dM (bP (pF rfl) (by rfl) mM wZ\pa1 (uc GC hr\pa1 (pv 1))) ah)
  (ak\sx 1 jm.nd (aH eJ (pv 1) (dv (N:=["_law_p","_law_q",↑80]) (fr:=[n7,n7,oy 6]) (g:=kh [] 2\fN (cZ 0) (fN (cZ 1) ki)) (te:=oz\ck (aK 0) (ck (aK 1)\ck (aK 2) dH)) cpK rfl (bQ\uc GS hr (pa1\pv 5))
    (λC' s' H' fp RC=>#[(dn rfl\aV (gx 0 (⋯:(["_law_p","_law_q",↑80]:List Str).Nodup)) (aV (gx 1 (⋯:(["_law_p","_law_q",↑80]:List Str).Nodup)) dh)),eu,(aD\ae (pv 0) (ae (pv 1)\pa1 (pv 2)))]))))) aY)))
  (ak\aF (pv 1)))))),?_]
 let b9:=line5000;erw[a_ _,λD H1 ag s1 y1=>?_];let bn:D≠p:=λz=>by rw[z,hp] at ag;cases ag
 erw[2,⋯,⋯,?_];show ny (lo:=0) (n:=7) (λi Z H'=>∃v B,Z=[oy\V.ref p,oy\.ref D,v,n7,n7,n7,n7]/\Same H H'/\H' D*>.lst B/\ay H' B\(List.range i).flatMap rtF)
  #[n7,[],1,s1,y1,.nil] ?_ ?_
 .rintro i Z H2 hi ⟨v,B,rfl,sm,ap,O⟩;let ca:↑B<=100:=by
   rw[aE O,List.length_flatMap];have:((List.range i).map λa=>↑(rtF a)).sum=2*i:=by
    let e:(List.range i).map (λa=>↑(rtF a))=List.replicate i 2:=by rw[List.eq_replicate_iff];erw[∅,λb hb=>by let#[x,2]:=ax.mp hb;rfl]
    rw[e];clear e;have:∀n:Nat,(List.replicate n 2).sum=2*n:=λn=>by
     induction n with
     |zero=>rfl
     |succ n ih=>rw[List.replicate_succ,List.sum_cons,ih];lia
    show this i
   lia
  erw[2,.inl #[1,_,SqL.of ap],3,6,6,(⋯:(0:Int)<7),2,6,6,(⋯:(0:Int)<7),lit3,λt H3 ht s3 y3=>?_];let bt:H3 t*>.tup [.int (i:Int),.int (((i+1)%7:Nat):Int),.int (((i+3)%7:Nat):Int)]:=by rw[show (0+(i:Int))=(i:Int) by lia] at y3;show y3
  let a6:=s3>>ap;erw[D,B,2,1,a6,(),λH4 k4 y4=>?_];let I:=pV (u:=(i,(i+1)%7,(i+3)%7)) a6 k4 (O.same s3) bt;let bw:Same H H4:=λd o e=>(k4 d\ao e ag)<*(s3>>sm>>e);erw[2,.inl #[1,_,SqL.of y4],3,6,6,(⋯:(0:Int)<7),2,6,6,(⋯:(0:Int)<7),lit3,λt2 H5 cb s5 y5=>?_];let bx:H5 t2*>.tup [.int (i:Int),.int (((i+3)%7:Nat):Int),.int (((i+2)%7:Nat):Int)]:=by rw[show (0+(i:Int))=(i:Int) by lia] at y5;show y5
  let bb:=s5>>y4;erw[D,6,bb,by rw[bj,cw];lia,λH6 L y6=>?_];let S:=pV (u:=(i,(i+3)%7,(i+2)%7)) bb L (I.same s5) bx;erw[9,λd o e=>(L d\ao e ag)<*(s5>>bw>>e),y6,?_];rw[List.range_succ,List.flatMap_append];simpa [rtF] using S
 rintro Z H2 ⟨v,B,rfl,sm,ap,O⟩;let O:ay H2 B rt:=O;let#[d1,d2]:=eR (q:=q) (b:=4) ⋯;let#[wy,ew]:∃wy:Nat,digO q 4=(wy:Int):=#[_,(jE d1).symm];erw[2,p,q,(4),1,sm>>hp,a5,⋯,⋯,λH3 k3 y3=>?_];rw[ew] at d2 |-;erw[2,6,(⋯:(0:Int)<3),2,(),(),?_];let hw:((wy:Int)%3).toNat<=2:=();generalize ((wy:Int)%3).toNat=W at hw;let b3:But p H H3:=λd o n e=>(k3 d n)<*(sm>>e);show ny (lo:=0) (n:=W) (λi Z H'=>∃v o4 o5 o6 l r tc q',Z=[oy\V.ref p,oy\.ref l,v,oy\.int (wy:Int),o4,o5,o6]/\But p H H'/\H' p*>.lst (bT q')/\cP q'/\H l=n7/\H' l*>.lst r/\ay H' r tc/\(i=0/\tc=rt\/(i=1/\∃j:Fin 14,tc=rt.eraseIdx j)\/i=2/\↑tc<=16/\Good tc))
  #[_,n7,n7,n7,D,B,rt,2,b3,y3,dz a5,ag,(k3 D bn)<*ap,Paired.imp' (by rintro _ _ ⟨d,M,y⟩;erw[d,M,(k3 d (bW y (sm>>hp) ∅))<*y]) O,.inl #[5]] ?_ ?_
 .rintro i Z H4 hi ⟨v,o4,o5,o6,l,r,tc,X,rfl,b4,al,am,ab,an,I,ad⟩;let ad:i=0/\tc=rt\/(i=1/\∃j:Fin 14,tc=rt.eraseIdx j):=ad.imp_right λh=>h.resolve_right λ⟨z,_⟩=>();let cc:13<=↑tc/\↑tc<=14:=by
   rcases ad with ⟨_,rfl⟩|⟨_,j,rfl⟩
   .decide
   rw[wH (show (j:Nat)<↑rt from j.2)];decide
  let cd:=aE I;let#[M,y]:=eR (q:=X) (b:=(↑r:Int)) ();let#[k,hk]:∃k:Nat,digO X (↑r:Int)=(k:Int):=#[_,(jE M).symm];let a0:k<↑tc:=();let#[#[a,b,c],a1]:∃s,tc[k]?*>s:=#[_,aU a0];let#[zv,bA,tt,1,bc]:=vA I a1;let bd:l≠p:=λz=>by rw[z,hp] at ab;cases ab
  erw[2,.inl #[1,_,SqL.of an],3,l,2,.inl\SqL.of an,p,X,2,al,am,(),i9 () (),λH5 k5 y5=>?_];rw[hk];let a2:=(k5 l bd)<*an;erw[l,r,(k:Int),k,2,1,a2,(),(),Am (),bA,λH6 L y6=>?_];let b5:But p H H5:=λd o n e=>(k5 d n).trans\b4 _ _ n e;let bK:ay H5 r tc:=Paired.imp' (by rintro _ _ ⟨d,M,y⟩;erw[d,M,(k5 d (bW y al ∅))<*y]) I;let be:H5 tt*>.tup [.int (a:Int),.int (b:Int),.int (c:Int)]:=(k5 tt (bW bc al ∅))<*bc;let b6:But p H H6:=λd o n e=>(L d\ao e ab).trans\b5 _ _ n e;let a3:H6 p*>.lst (bT\nxt X (↑r:Int)):=(L p\aA bd)<*y5;let S:ay H6 (r.eraseIdx k) (tc.eraseIdx k):=Paired.imp' (by rintro _ _ ⟨d,M,y⟩;erw[d,M,(L d (bW y a2 ∅))<*y])\zC k bK;let bM:=(L tt (bW be a2 ∅))<*be;erw[2,7,?_];rcases ad with ⟨rfl,rfl⟩|⟨rfl,j,rfl⟩
  .exact az #[8,_,l,8,1,b6,a3,dz am,ab,y6,S,.inr\.inl #[1,#[k,a0],1]]
  show aP ?_;let bN:↑(rt.eraseIdx j)=13:=by rw[wH (show (j:Nat)<↑rt from j.2)];rfl
  let bS:↑((rt.eraseIdx j).eraseIdx k)=12:=by rw[wH a0,bN]
  let ce:=aE S;erw[2,l,9,y6,S,(),λrc cs H7 cf s7 y7 bi lcs=>?_];let six:6∈cs:=by rw[bi.2];let#[t,h1,h2]:=Lh j #[k,()];show iX.mpr #[t,h1,‹h2›]
  let hle:∀x∈cs,x<7:=λx hx=>by
   rw[bi.2] at hx;let#[t,h1,h2]:=iX.mp hx;let h3:=B1 t\(ko _ _).subset ((ko _ _).subset h1);let h2:x=t.1\/x=t.2.1\/x=t.2.2:=‹h2›
   lia
  erw[rc,cs.map λc:Nat=>(c:Int),1,SqL.of (by rw[y7];simp[nV]),λz=>?_,λm hm bX=>#[6,?_]]
  .rw[CH.mp z] at six;cases six
  let em:m=6:=by let#[x,hx,1]:=ax.mp hm;have:=bX 6\ax.mpr #[(6),six,1];have:=hle x hx;lia
  subst em;erw[3,tt,(a,b,c),1,s7>>bM,λZ_ zs H8 cg s8 y8 sd=>?_];let b0:=s7<*s8;erw[Z_,1,#[_,SqL.of y8],λY hY=>dG (K:=[]) (a:=Z_) (xs:=zs) (λi Z ys H'=>∃o1 v,Z=[o1,v,oy\.int 7]/\Same H8 H'/\H' Y*>.lst ys/\ay H' ys (((b_ (a,b,c)).take i).map λs=>(s.1,s.2,7)))
   #[n7,n7,1,bL hY,aI,.nil] (by rintro i Z ys H' _ ⟨_,_,_,e,_⟩;show SqL.of (e>>y8)) ?_ ?_]
  .rintro i x Z ys H' hi ⟨o1,b1,rfl,aM,a4,C⟩;let#[#[x1,x2],hs,c',1,b2]:=bV sd hi;erw[c',2,SqT.of (aM>>b2),1,9,6,?_];erw[3,2,lit3,λt H9 ht s9 y9=>?_];let bl:=s9>>a4;erw[bl,?_,λHn kn yn=>#[9,λd o e=>(kn d\ao e hY)<*(s9>>aM>>e),yn,?_]]
   .rw[aE C,av,bz];simp[b_];lia
   rw[bE,hs,aW];show pV (u:=(x1,x2,7)) bl kn (C.same s9) y9
  rintro Z ys H9 ⟨o1,b1,rfl,aM,a4,C⟩;let l3:↑zs=3:=aE sd;rw[l3] at C;let C:ay H9 ys [(a,b,7),(b,c,7),(c,a,7)]:=C;let aS:=b0<*aM;erw[l,Y,6,aS>>y6,a4,by have:=aE C;simp at this;lia,λR ch hR bm b7=>?_];let st:=aS<*bm;let b8:H R=n7:=by
   cases e:H R with
   |none=>rfl
   |some o=>
    by_cases ep:R=p
    .rw[ep,aS>>a3] at hR;cases hR
    rw[aS>>(b6 _ _ ep e)] at hR;cases hR
  erw[8,_,R,8,1,λd o n e=>st>>(b6 _ _ n e),st>>a3,dz am,b8,b7,bR (S.same st)\C.same bm,.inr\.inr #[1,?_,?_]]
  .rw[bj,bS];show (⋯:12+3<=16)
  show FB (FA (uA uR\ko rt j)\FD (tU a1)) λz=>?_;let#[t,h1,h2]:=cK.mp z;let h3:=B1 t\(ko _ _).subset ((tU a1).mem_iff.mp h1);lia
 rintro Z H4 ⟨v,o4,o5,o6,l,r,tc,X,rfl,b4,al,am,ab,an,I,ad⟩;let hh:↑tc<=16/\Good tc:=by
  rcases ad with ⟨_,rfl⟩|⟨_,j,rfl⟩|⟨_,h⟩
  .exact#[⋯,uR]
  .exact#[cR (ko rt j).length_le ⋯,uA uR\ko rt j]
  show h
 erw[2,Qq l r tc X H4 ab b4 al am an I hh.1 hh.2]
end
def E4(vs:List V)(H:Hp)(Q:VK)(S T:pR)(a b:List V)(ss ts:List Tri):Prop:=vs=[.ref S,.ref T]/\H S*>.lst a/\ay H a ss/\↑ss<=10/\Good ss/\H T*>.lst b/\ay H b ts/\↑ts<=10/\Good ts/\
 ∀r vr rs H',H r=n7->Same H H'->H' r*>.lst vr->ay H' vr rs->↑rs<=20->Good rs->Q (.ref r) H'
def zl:Sp:=λvs H Q _=>Exists\Ex6 (E4 vs H Q)
section
def zq:aR [↑56,"_law_other","_law_more"] [↑56,"_law_other"] (au pY):=.f
def Fk{f f2:pR}{fd d2:ro}(U:Fun K ↑62 ↑62 pY f fd)(T:cu mg)(mM:mg "max" = n7)
  (GC:!Use 2 ↑16 [↑0] h_ f2 d2) :
  !aj CX0 3 f fd [↑56,"_law_other"] zl:=by
 show U.ok zq (!6) λRD A outer s H vs Q E hr h=>?_
 let#[S,T0,am,vt,ss,ts,1,hS,B,lS,gS,hT,an,lT,gT,Qq]:=h;let hu:=dA hr;erw[_,(af (sx 2 zq.nd\aH dM (bP (pF rfl) (by rfl) mM wZ\pa1 (aH eJ (uc GC hr\pa1 (pv 0))\bO (pa1\iN iJ ah))) ah)
  (ak\aF (aH eJ (pv 0) (dv (N:=[↑6,"_law_more"]) (fr:=[n7,oy 2]) (te:=tCB (λxs H Q=>∃p ys,xs=[.ref p]/\((SqL [] H p ys/\∀l,H l=n7->Q (.ref l)\upd H l (.tup ys))\/(SqT [] H p ys/\Q (.ref p) H)))\ck (lZ (oE []\aK 0) (cZ 0) (λ_ H Q=>Q oD H) (tOp (rI0 λi j=>.int (i+j)) (aK 0)\aK 1) [n7,oy 1]) dH) cpK rfl (bQ\pv 1)
    (λC' s' H' fp RC=>#[(gx 0 (⋯:([↑6,"_law_more"]:List Str).Nodup)),eu,(du kO (by rfl) T.tuple jJ\pa1 (dv (N:=[↑9,"_law_more"]) (fr:=[n7,oy 1]) (te:=tOp (rI0 λi j=>.int (i+j)) (aK 0)\aK 1) cpK rfl (lQ\pv 0)
    (λC' s' H' fp RC=>#[(gx 0 (⋯:([↑9,"_law_more"]:List Str).Nodup)),eu,(aH dM (pv 0)\pv 1)])))]))))),?_]
 let a0:=line5000;erw[2,S,am,ss,1,hS,B,(),λL cs H1 a1 s1 y1 ap lcs=>?_];erw[2,lit1,λl1 H2 g1 s2 y2=>?_];erw[L,l1,6,s2>>y1,y2,by rw[bH];simp only[cw];lia,λl2 H3 g2 s3 y3=>?_];erw[l2,cs.map (λc:Nat=>(c:Int))++[-1],1,SqL.of (by rw[y3];simp[nV]),∅,λm hm ab=>#[6,?_]];let#[n,hn]:∃n:Nat,m+1=(n:Int):=by have:=ab (-1) ∅;erw[(m+1).toNat,()]
 let aM:∀c,Co ss c->c<n:=λc hc=>by
  have:c∈cs:=by rw[ap.2];let#[t,h1,h2]:=cK.mp hc;show iX.mpr #[t,h1,‹h2›]
  have:=ab (c:Int)\d_ _ (ax.mpr #[c,this,1]);lia
 change cZ 2 (V.int (m+1)) _ _ _;rw[hn];let C:=(s1<*s2)<*s3;let ad:=C>>hT;let ag:=an.same C;let gN:Good (ts.map\nam (· + n)):=zO gT (λa b _ _ h=>‹h›);erw[3,T0,1,#[_,SqL.of ad],λZ_ hZ=>dG (K:=[]) (a:=T0) (xs:=vt) (λi Z ys H'=>∃o,Z=[o,oy\.int (n:Int)]/\Same H3 H'/\H' Z_*>.lst ys/\ay H' ys\(ts.take i).map (nam (· + n)))
  #[n7,1,bL hZ,aI,.nil] (by rintro i Z ys H' _ ⟨_,_,e,_⟩;show SqL.of (e>>ad)) ?_ ?_]
 .rintro i x Z ys H' hi ⟨o,rfl,sm,D,d⟩;let#[#[a,b,c],hs,t,1,g]:=bV ag hi;let g:H3 t*>.tup [.int (a:Int),.int (b:Int),.int (c:Int)]:=g;let a2:=(aN.mp hs).1;erw[2,t,1,#[_,SqT.of (sm>>g)],λY hY=>nG (K:=[]) (a:=t) (xs:=nV [a,b,c]) (λi Z ys I=>∃o,Z=[o,oy\.int (n:Int)]/\ys=nV (([a,b,c].take i).map (· + n))/\Same H' I/\I Y*>.lst ys) #[n7,5,bL hY,aI] (by rintro i Z ys I _ ⟨_,_,_,e,_⟩;show SqT.of (e>>sm>>g)) ?_ ?_]
  .rintro j x Z zs M hj ⟨o,rfl,rfl,O,X⟩;rw[nV,bu] at hj;let#[z,hz,1]:=cA.mp hj;let a3:j<3:=(aN.mp hz).1;erw[3,6,X,?_,λHn r yn=>#[2,?_,λv o e=>(r v\ao e hY)<*(O>>e),yn]]
   .rw[bH,av,bz];simp;lia
   rw[bE,hz,aW,<-fC];rfl
  rintro Z zs M ⟨o,rfl,rfl,O,X⟩;erw[Y,2,.inl #[SqL.of X,λt' aS=>?_]];walk_at"M t' aS H5 q y5";let st:=O<*q;let al:=st>>D;erw[al,?_,λHn r yn=>#[2,λv o e=>(r v\ao e hZ)<*(st>>sm>>e),yn,?_]]
  .rw[aE d,av,bz];lia
  rw[bE,hs,aW];show pV (u:=(a+n,b+n,c+n)) al r (d.same st) y5
 rintro Z ys M ⟨o,rfl,sm,D,d⟩;rw[aE ag,cn] at d;let lz:=aE d;rw[av] at lz;let lv:=aE B;let y:=C<*sm;erw[S,Z_,6,y>>hS,D,(),λR H5 hR q y5=>?_];show Qq R _ _ H5 (y.free hR) (y<*q) y5 (bR (B.same\y.trans q)\d.same q) ?_ ?_
 .rw[bj,av];lia
 show HR gS gN λa ha g=>?_;have:=aM a ha;let#[b,c,e]:=g;let#[a',v,c',_,h2,_]:=BG gT (λa b _ _ h=>‹h›) e;let h2:a=a' + n:=h2;lia
end
def qd{vr:List V}{ts:List Tri}{q:Int×Int}(a:H r*>.lst vr)(tr:ay H vr ts)(c:H p*>.lst\bT q):r≠p:=λz=>by
 rw[z,c] at a;cases a;cases tr with
 |cons h _=>
  let#[b,e,_]:=h;cases e
def F8(vs:List V)(H:Hp)(Q:VK)(p:pR)(q:Int×Int):Prop:=vs=[.ref p,.int 16]/\H p*>.lst (bT q)/\cP q/\
 ∀r vr ts a H',r≠p->But p H H'->H' p*>.lst (bT a)->cP a->H' r*>.lst vr->ay H' vr ts->↑ts<=20->Good ts->(∀c,Co ts c->One (En ts) c)->Q (.ref r) H'
def Ab:Sp:=λvs H Q _=>Exists\Ex2 (F8 vs H Q)
section
def Ap:aR [↑1,↑30,"_law_way"] [↑1,↑30] (au qO):=.f
def Hm{f f1 f2 f3 f4 f5 f6:pR}{fd N O d3 d4 d5 d6:ro}(U:Fun K ↑91 ↑91 qO f fd)
  (GD:!Use 3 ↑31 [↑1,↑48] jd f1 N)
  (GR:!Use 3 ↑92 [↑1] Bf f2 O)
  (C:!Use 3 ↑73 [↑0] uN f3 d3)
  (GB:!Use 3 ↑62 [↑56,"_law_other"] zl f4 d4)
  (S:!Use 3 ↑76 [↑1,↑30] Af f5 d5)
  (T:!Use 3 ↑79 [↑1,↑30] Ah f6 d6) :
  !aj CX0 4 f fd [↑1,↑30] Ab:=by
 show U.ok Ap (!2) λRD A outer s H vs Q E a h=>?_
 let#[p,q,1,hp,v,Qq]:=h;erw[_,(af (sx 2 Ap.nd\uc GD a (ae (pv 0)\pa1 ah))
  (af (a8 (PW.pt\ff (aQ cq (pv 2) ah\nomark _) (ft\aQ rS (pv 1) ah (nomark _))) (ak\aF (uc C a\pa1 (uc GR a\pa1 (pv 0)))) aY)
  (af (a8 (aQ cq (pv 2) ah\nomark _) (ak\aF (uc C a\pa1 (uc GB a\ae (uc S a\ae (pv 0) (pa1\aH kY (pv 1) ah)) (pa1\uc T a (ae (pv 0)\pa1 (aH kY (pv 1) ah)))))) aY)
  (af (a8 (aQ oq (pv 2) ah\nomark _) (ak\aF (uc C a\pa1 (uc T a\ae (pv 0) (pa1\pv 1)))) aY)
  (ak\aF (uc C a\pa1 (uc S a\ae (pv 0) (pa1\pv 1)))))))),?_]
 let#[N,O]:=eR (q:=q) (b:=8) ⋯;erw[2,p,q,(8),1,hp,v,⋯,⋯,λH1 k1 x=>?_];let b1:But p H H1:=λl o n e=>(k1 l n)<*e;let end_:∀(R:pR)(vr:List V)(ts:List Tri)(D:Int×Int)(H2:Hp),But p H1 H2->H2 p*>.lst (bT D)->cP D->H2 R*>.lst vr->ay H2 vr ts->↑ts<=20->Good ts->uN [.ref R] H2 Q E:=by intro R vr ts D H2 d c g i tr y j;erw[R,vr,ts,1,i,tr,y,j,λr ab ad X L Y I l3 g3 o3=>?_];show Qq r ab ad D X (qd Y I (L>>c)) (λl o n e=>L>>(d l o n\b1 l o n e)) (L>>c) g Y I () g3 o3
 erw[2,7,?_];generalize digO q 8=m at *;by_cases Z:m=0
 .subst Z;show aP #[2,6,2,aP ?_];erw[2,p,2,x,dz v,λR vr ts u H2 B d c g i tr y j=>?_];show end_ R vr ts u H2 d c g i tr () j
 rw[show decide (V.int m=V.int 0)=p6 from RA λz=>Z\V.int.inj z];show az\az #[2,7,?_];by_cases h1:m=1
 .subst h1;show aP ?_;erw[3,6,#[⋯,⋯],p,_,(8),1,x,dz v,⋯,λR vr ts u H2 B d c g i tr y j=>?_];erw[3,6,#[⋯,⋯],p,_,(8),1,c,g,⋯,λR3 ag al q3 X a5 M am an ap I a6 aM=>?_];let aS:R≠p:=λz=>by rw[z,x] at B;cases B
  erw[R,R3,vr,ag,ts,al,1,M _ _ aS i,uK M c tr,(),j,ap,I,(),aM,λR4 a0 a1 H4 bb s4 a2 a3 bc a4=>?_];show end_ R4 a0 a1 q3 H4 (λl o n e=>s4>>(M l o n\d l o n e)) (s4>>am) an a2 a3 () a4
 rw[show decide (V.int m=V.int 1)=p6 from RA λz=>h1\V.int.inj z];show az #[2,6,2,?_];change if decide (m<5)=oD then _ else _
 by_cases h5:m<5
 .rw[Rz h5];show aP ?_;erw[3,p,_,(16),1,x,dz v,⋯,λR vr ts u H2 B d c g i tr y j=>?_];show end_ R vr ts u H2 d c g i tr () j
 rw[RA h5];show az ?_;erw[3,p,_,(16),1,x,dz v,⋯,λR vr ts u H2 B d c g i tr y j=>?_];show end_ R vr ts u H2 d c g i tr () j
end
def IG(C:pR)(vs:List V)(H:Hp)(Q:VK)(x:pR)(ts us:List Tri):Prop:=vs=[.ref x]/\cV C H x ts us/\∀l cs H',H l=n7->Same H H'->H' l*>.lst (nV cs)->cs.Pairwise (· < ·)->(∀c,c∈cs↔Co ts c)->Q (.ref l) H'
def Be(C:pR):Sp:=λvs H Q _=>Exists\Ex3 (IG C vs H Q)
def K3(K:W.Frag)(vs:List V)(H:Hp)(Q:VK)(a:pR)(ns:List Int):Prop:=vs=[.ref a]/\SqL [] H a (ns.map V.int)/\↑ns<=63/\∀H',Q (.bl oD) H'
def rJ(K:W.Frag):Sp:=λvs H Q _=>Exists\Ex2 (K3 K vs H Q)
def vd(h:SqL [] H a xs)(k:∀b o,H b*>o->H' b*>o):SqL [] H' a xs:=by
 rcases h with (e|⟨o,e⟩)|h
 .exact .inl\.inl (k>>e)
 .exact .inl\.inr #[o,k>>e]
 show .inr h
def KY(h:SqL [] H a xs)(s:Sm H H'):SqL [] H' a xs:=by
 rcases h with (e|⟨o,e⟩)|h
 .exact .inl\.inl (s.keep e λz=>z)
 .exact .inl\.inr #[o,s.keep e λz=>z]
 show .inr h
section
def K8:aR [↑67] [↑67] (au ni):=.f
def JI{f C:pR}(U:Fun K "corners" "Skin.corners" ni f fd)(X:SCls K C)(T:cu mg):!aj CX0 1 f fd [↑67] (Be C):=by
 show U.ok K8 (!3) λd A outer s H vs Q E e h=>?_
 let#[x,ts,us,1,#[kt,dx,O,R,D,S,g,L,sk,_],q]:=h;let#[cs,a,pl,pc]:=sk.ri;erw[_,ak\aF (du tO (by rfl) T.list oU\pa1 (lR (pv 0) rfl)),?_];erw[2,x,C,dx,9,sk.ob,X.cl,X.rising,1,R,2,.inl\SqL.of a,λl H1 b s1 c=>q l _ _ b s1 c pl pc]
def ik:aR [↑12,↑0,↑52,↑1,↑75,↑7,"_law_due_here"] [↑12] (au jz):=.f
def LJ{f f1 f2 f3 f4 f5 f6 f7 f8 f9 c6 c8 db Cs C NS SP:pR}{d d1 d2 d3 d4 d5 d6 d7 d8 d9 dj dk dl:ro}(U:Fun K "law" "law" jz f d)(T:cu mg)(X:SCls K Cs)
  (GP:!Use 2 "_law_pot" [↑12,↑75] (BW K) f1 d1) (GN:!Use 2 ↑74 [↑1,↑0] z9 f2 d2) (GS:!Use 4 ↑91 [↑1,↑30] Ab f3 d3) (MK:Mk K Cs f4) (GK:!aj (CX1 P w) 5 f4 d4 [↑67,↑50] (vh Cs C)) (bK:Binds K d4 [↑67,↑50] []) (mK:mg "Skin"*>.ref Cs)
  (GO:!Use 1 ↑90 [↑0] Bd f5 d5) (GC:!Use 2 ↑16 [↑0] h_ f6 d6) (GD:!Use 1 ↑31 [↑1,↑48] jd f7 d7) (GE:!Use 3 ↑94 [↑1,↑0] Ad f8 d8) (GU:!Use 5 "_law_due" [↑0,↑7] Bj f9 d9) (GA:!Use 8 ↑64 [↑52,↑7] (Bm Cs) c6 dj)
  (G:mn (CX2 P w) P w K mg base 7 "changed" [↑39,"deed"] (v9 Cs NS SP) c8 dk) (MT:!gW Cs 1 ↑45 [↑67] (j6 Cs) db dl) {fc:pR} {dc:ro} (MC:!gW Cs 1 "corners" [↑67] (Be Cs) fc dc) :
  !aj CX0 9 f d [↑12] (rJ K):=by
 show U.ok ik (!2) λRD A outer s H vs Q E B h=>?_
 let#[a,ns,1,a1,eM,q]:=h;let ab:=B.mono (⋯:1<=8);let am:=B.mono (⋯:2<=8);let b6:=B.mono (⋯:3<=8);let b7:=B.mono (⋯:4<=8);let dm:=B.mono (⋯:5<=8);let dp:=B.mono (⋯:6<=8);let dr:=B.mono (⋯:7<=8);let eN:=line5000;erw[_,(af (sx 1 ik.nd\uc GO ab (pa1\uc GN am (ae (uc GP am\ae (pv 0) (pa1 ah))\pa1 (uc GS b7\ae (uc GP am\ae (pv 0) (pa1 ah)) (pa1 ah)))))
  (af (sx 2 ik.nd\AA MK GK dp rfl mK bK .nil B6 (pa1\du tO (by rfl) T.list oU (pa1\pv 1)))
  (af (sx 3 ik.nd\uc GP am (ae (pv 0)\pa1 ah))
  (af (dC dq rfl (nr rfl T.range\pa1 (uc GD ab\ae (pv 3) (pa1 ah))) (gx 4 ik.nd) (af (sx 5 ik.nd\uc GE b6 (ae (pv 3)\pa1 (pv 1)))
  (af (sx 6 ik.nd\uc GU dm (ae (pv 1)\pa1 (pv 5)))
  (af (a8 (aQ cq (ixx bf (pv 6) ah) a7\nomark _) (ak\sx 6 ik.nd (aD\ae a7 (pa1\uc GO ab (pa1\ixx bf (pv 6) ah)))) aY)
  (af (a8 (PW.pt\gQ (aQ (oi B.units) (uc GA B\ae (pv 2) (pa1\pv 5)) (pv 6)\nomark _) (gQ (aQ (oi B.units) (iF (pv 2) X.cl MT.m MT.g ab MT.b .nil pass0) (pv 1)\nomark _)\iK (aQ (oi B.units) (iF (pv 2) X.cl MC.m MC.g ab MC.b .nil pass0) (uc GC am\pa1 (pv 1))\nomark _))) (ak\aF il) aY)
  (ak\a8 (PW.pt\ff (aQ cq (ixx bf (pv 6) ah) a7\nomark _) (ft\aQ oq (pln T.len\ixx bf (pv 6) ah) ah (nomark _))) (af (sx 1 ik.nd\ixx bf (pv 6) ah)
  (ak\sx 2 ik.nd (jk G.g dr rfl G.m G.k G.b .nil B6\ae (pv 2) (pa1\pv 5)))) aY))))))
  (ak\aF (jY (e_ (vC B.units) (iF (pv 2) X.cl MT.m MT.g ab MT.b .nil pass0) (pv 1)\nomark _)\jX (e_ (vC B.units) (iF (pv 2) X.cl MC.m MC.g ab MC.b .nil pass0) (uc GC am\pa1 (pv 1))\nomark _))))))),?_]
 erw[2,a,ns,(2),1,a1,⋯,⋯,λp2 H1 ds s1 y1=>?_];erw[2,a,ns,(1),1,vd a1 λb o e=>s1>>e,⋯,⋯,λp1 H2 b8 s2 y2=>?_];erw[p1,2,y2,uy ns ⋯ ⋯,λr vr dt q1 H3 eT bl dy dF yr tr dK g0 b9=>?_];let y3:=bl _ _ (ao y1 b8) (s2>>y1);erw[p2,r,_,vr,dt,1,y3,uy ns ⋯ ⋯,yr,qd yr tr y3,tr,(),g0,λR vt ts q2 H4 e0 ca dL dT yR tR ll g hb one=>?_];let sn:Skn ts:=#[g,one b9];let cb:SqL [] H4 a (ns.map V.int):=vd a1 λb o e=>ca _ _ (ao e ds)\bl _ _ (ao (s1>>e) b8) (s2>>s1>>e);let dV:↑ts<=20:=();clear a1 s1 y1 s2 y2 bl dy dF yr tr dK g0 b9 y3 ca dL dT one ll;erw[R,vt,ts,1,yR,tR,(),g.ne,λT0 bm ad ws H5 e3 s5 Y tT pm a2 bn=>?_];rw[rB g.ne a2] at pm;let al:Alike ad ts:=pm;let cc:SqL [] H5 a (ns.map V.int):=vd cb λb o e=>s5>>e;let d0:Skn ad:=sn.pm al.ents;let l0:↑ad<=20:=by have:=al.length_eq;rw[av] at this;lia
 let a3:∀c,Co ad c->c<10 ^ 60:=λc ⟨I,L,e⟩=>hb c #[I,L,(al.en _ _ _).mp e];clear yR tR cb s5 a2 sn dV hb g;erw[2,T0,2,.inl\SqL.of Y,λea H6 eb v y6=>λx0 dx hx bt ec=>?_];let bw:=yq (Cs:=Cs) hx bt;let few:Few ad:=#[(),λt ht=>#[oP (a3 _\cK.mpr #[t,ht,.inl rfl]) ⋯,oP (a3 _\cK.mpr #[t,ht,.inr\.inl rfl]) ⋯,oP (a3 _\cK.mpr #[t,ht,.inr\.inr rfl]) ⋯]];erw[x0,dx,ea,bm,ad,1,aI,bw>>y6,(tT.same v).same bw,few,λa4 H7 sm a5=>#[1,?_],λd H' kk hk _ _=>(hk.no d0).elim];let a6:=(Sm.of v).trans\Ak hx bt sm;obtain rfl:a4=ad:=zg (by have:=a5.1.al;unfold Alike at this;rwa [yt al] at this) a5.1.so bn;let cd:=a6.keep Y (λz=>z);let ce:ay H7 bm a4:=Paired.imp' (by rintro _ _ ⟨b',e1,e2⟩;erw[b',e1,a6.keep e2 λz=>z]) tT;let cf:SqL [] H7 a (ns.map V.int):=KY cc a6;clear Y tT cc v y6 eb hx bt ec bw sm few a6;erw[2,a,ns,(3),1,cf,⋯,⋯,λp H8 hp s8 y8=>?_];let cg:cP (potOf ns 3):=uy ns ⋯ ⋯;generalize potOf ns 3=q0 at *;erw[2,p,q0,(13),1,y8,cg,⋯,⋯,λH9 k9 y9=>?_];let#[v1,v2]:=eR (q:=q0) (b:=13) ⋯;let#[N,hN]:∃N:Nat,digO q0 13=(N:Int):=#[(digO q0 13).toNat,()];rw[hN];let bb:But p H8 H9:=λb o n e=>(k9 b n)<*e;let bx:=s8>>cd;let bA:=ce.same s8;let ed:=bb _ _ (qd bx bA y8) bx;let ee:=uK bb y8 bA;let eh:=(a5.sm\Sm.of s8).but y8 bb;let ch:=dz (b:=13) cg;generalize nxt q0 13=q1 at y9 ch;clear bx bA bb cd ce a5 s8 y8 k9 cf;erw[2,(),(),ny (lo:=0) (n:=((N:Nat):Int).toNat) (λi Z H'=>∃T M x ts us o4 o5 o6 q,Z=[oy\V.ref a,oy\.ref T,oy\.ref x,oy\.ref p,o4,o5,o6]/\H' T*>.lst M/\ay H' M us/\cV Cs H' x ts us/\↑us<=60/\(∀c,Co us c->c<10 ^ 60+i)/\H' p*>.lst (bT q)/\cP q) #[T0,bm,x0,a4,a4,n7,n7,n7,q1,1,ed,ee,eh,(),λc hc=>by rw[wO];show a3 c hc,y9,ch] ?_ ?_]
 .rintro i Z Ha hi ⟨T,M,x,ts,us,o4,o5,o6,q3,rfl,Y,tT,sk,bM,bc,yp,pq⟩;let t:=sk.1;let bN:Skn us:=t.sk.pm t.al.ents;let ei:=EM t.al;let en:=t.al.en;let hB:10 ^ 60+i+1<=10 ^ 160:=cR (Nat.add_le_add_right (tu (show i<=20 by lia) _) 1) ⋯;erw[3,p,T,q3,M,us,1,yp,pq,Y,tT,(),bN.g.nd,λd k m n y q4 Hb bd ci cj dd co cp=>?_];let bS:=bd _ _ (qd Y tT yp) Y;let bX:=uK bd yp tT;let b0:=sk.but yp bd;let few:∀rs,Okd us k m n->gZ us m n y rs k->↑rs<=200/\∀t∈rs,t.1<10 ^ 60+i+1/\t.2.1<10 ^ 60+i+1/\t.2.2<10 ^ 60+i+1:=λrs ok b=>Km bN bM b (λc hc=>kB\bc c hc) (Nat.lt_succ_of_le\cp _ (Nat.add_pos_left (Nat.pow_pos ⋯) _) bc) ok.a;let cr:∀rs,Okd ts k m n->Beh ts us m n y rs k->Few rs:=λrs ok b=>by
   let#[l,h]:=few rs (ok.en en)\Od en b;erw[l,λt ht=>#[bU (h t ht).1 hB,bU (h t ht).2.1 hB,bU (h t ht).2.2 hB]]
  let ct:k.wis=oD->¬Co ts y:=λ_ ⟨I,L,e⟩=>co #[I,L,(en _ _ _).mpr e];clear Y tT sk yp pq bd cp hB;erw[3,T,d,M,us,k,m,n,y,1,bS,bX,(),bN,ei,dd,λ_=>co,λrs ok b=>(few rs ok b).1,λaS r Hc b6 s3 da di=>?_];show p9 ?_;show je (λZ H'=>∃o4 aS r,Z=[oy\V.ref a,oy\.ref T,oy\.ref x,oy\.ref p,o4,oy\.ref d,oy\.ref r]/\Same Hb H'/\jx H' r aS/\DueF us k m n y aS) (λNX z=>?_) ?_
  .cases aS with
   |side=>erw[2,r,4,SqT.of da,aZ (j:=0) rfl,7,az\z _ _ #[_,.side,r,1,s3,da,di]]
   |spoilt kk=>erw[2,r,4,SqT.of da,aZ (j:=0) rfl,7,az\z _ _ #[_,.spoilt kk,r,1,s3,da,di]]
   |skin rs=>
    let#[ok,b,s]:=di;let#[l,vl,an,ag,be]:=da;erw[2,r,4,SqT.of an,aZ (j:=0) rfl,7,aP #[2,r,4,SqT.of an,aZ (j:=1) rfl,l,vl,rs,1,ag,be,(few rs ok b).1,s.g.ne,λr2 ej ek ws H4 b7 s4 y4 t4 pm a2 bn=>#[lit2,λtp H5 g5 s5 y5=>?_]]];rw[rB s.g.ne a2] at pm;show z _ _ #[_,.skin ek,tp,1,s3.trans\s4.trans s5,#[r2,ej,y5,s5>>y4,t4.same s5],ok,rs,b,s,pm,bn]
  rintro Z Hd ⟨cx,aS,r,rfl,s4,da,df⟩;let cy:=b0.sm\Sm.of s4;erw[3,x,d,ts,us,k,m,n,y,1,cy,dd.same s4,ct,cr,λem r2 He b1 ag c0=>?_];obtain rfl:=AO t c0 df;let c1:=da.sm b1;erw[2,Mh ag c1 (λkk e=>by subst e;let#[_,rs,_,h]:=df;show h.kk) #[2,iu ?_]];let ap:=(Sm.of s4)<*b1;let bi:=b0.sm ap;let b2:=ap.keep bS (λz=>z);let b3:ay He M us:=Paired.imp' (by rintro _ _ ⟨b',e1,e2⟩;erw[b',e1,ap.keep e2 λz=>z]) bX;let eo:=ap.keep ci (λz=>z);let ep:eB He d k m n y:=dd.sm ap;clear cy s4 da b1 ag c0 ap b0 bS bX ci dd;let#[dx,O,R,D,S,hx]:=bi.obj;erw[2,x,dx,2,hx,1,x,ts,us,1,bi,λl3 eq Hf er v y6 t6=>#[2,AK y6 t6 (v>>b2) (b3.same v) #[2,iu ?_]]];erw[2,x,dx,2,v>>hx,1,x,ts,us,1,bi.sm\Sm.of v,λl4 cs Hg es s7 y7 pl pc=>?_];let aM:=v<*s7;erw[2,T,M,us,1,aM>>b2,b3.same aM,(),λLc et Hh ev s8 y8 a0 lcs=>BE (s8>>y7) y8 pl a0.1 pc (λc=>((a0.2 c)<*ow).trans #[λ⟨I,L,e⟩=>#[I,L,(en _ _ _).mp e],λ⟨I,L,e⟩=>#[I,L,(en _ _ _).mpr e]]) #[2,ke ?_]];let sh:=aM<*s8;let b4:=c1.sm\Sm.of sh;let c2:=bi.sm\Sm.of sh;let c3:=sh>>eo;let ew:=sh>>b2;let ex:=b3.same sh;let stay:∀o4 o5 o6:Option V,∃T' M x' ts us cx ey ez q,[oy\V.ref a,oy\.ref T,oy\.ref x,oy\.ref p,o4,o5,o6]=[oy\V.ref a,oy\.ref T',oy\.ref x',oy\.ref p,cx,ey,ez]/\Hh T'*>.lst M/\ay Hh M us/\cV Cs Hh x' ts us/\↑us<=60/\(∀c,Co us c->c<10 ^ 60+(i+1))/\Hh p*>.lst (bT q)/\cP q:=λo4 o5 o6=>#[T,M,x,ts,us,o4,o5,o6,q4,1,ew,ex,c2,bM,λc hc=>kB\bc c hc,c3,cj];cases em with
  |side=>erw[2,r,4,SqT.of b4,aZ (j:=0) rfl,7,ju\az (stay _ _ _)]
  |spoilt kk=>erw[2,r,4,SqT.of b4,aZ (j:=0) rfl,7,ju\az (stay _ _ _)]
  |skin vs=>
   let#[l,vl,an,ag,be]:=b4;let lv:=aE be;erw[2,r,4,SqT.of an,aZ (j:=0) rfl,7,fX #[2,r,4,SqT.of an,aZ (j:=1) rfl,l,2,.inl\SqL.of ag,6,2,?_]];change if decide ((↑vl:Int)<61)=oD then _ else _
   show ite2 (λh=>?_) (λ_=>stay _ _ _);let h:=RB h;clear stay;erw[2,r,4,SqT.of an,aZ (j:=1) rfl,?_];erw[3,x,d,ts,us,k,m,n,y,1,c2,ep.same sh,ct,cr,λrs b5 z Hi ok b sm c4=>?_,λH' _ no=>(no (df.1.en λa b c=>(en a b c).symm)).elim,λd' rs H' kk _ ok b hk _=>?_]
   .let#[eE,c5,b',s',eH,e4]:=id df;let e:=AO t (a:=.skin b5) #[ok,rs,b,c4.1] df;obtain rfl:b5=vs:=by injection e
    erw[l,vl,z,rs,b5,8,q4,1,sm.keep ag λz=>z,A7 sm be,c4,(),λc ⟨I,L,e⟩=>?_,sm.keep c3 λz=>z,cj];let#[u,hu,e]:=cK.mp #[I,L,(eH.en _ _ _).mp e];let#[g1,g2,g3]:=(few c5 eE b').2 u hu;rcases e with rfl|rfl|rfl
    .exact g1
    .exact g2
    show g3
   let#[_,c5,b',s',_]:=df;show ((hk.pm (zW t.sk t.al b b').symm).no s').elim
 rintro Z Ha ⟨T,M,x,ts,us,o4,o5,o6,q3,rfl,Y,tT,sk,bM,bc,yp,pq⟩;let en:=sk.1.al.en;let#[dx,O,R,D,S,hx]:=sk.obj;erw[2,x,dx,2,hx,1,x,ts,us,1,sk,λl3 eq Hf er v y6 t6=>#[2,AK y6 t6 (v>>Y) (tT.same v) #[2,aP ?_]]];erw[2,x,dx,2,v>>hx,1,x,ts,us,1,sk.sm\Sm.of v,λl4 cs Hg es s7 y7 pl pc=>?_];let aM:=v<*s7;erw[2,T,M,us,1,aM>>Y,tT.same aM,(),λLc et Hh ev s8 y8 a0 lcs=>BE (s8>>y7) y8 pl a0.1 pc (λc=>((a0.2 c)<*ow).trans #[λ⟨I,L,e⟩=>#[I,L,(en _ _ _).mp e],λ⟨I,L,e⟩=>#[I,L,(en _ _ _).mpr e]])\q Hh]
end
def len1(h:↑us=1):∃a,us=[a]:=List.length_eq_one_iff.mp h
def len2(h:↑us=2):∃a b,us=[a,b]:=by let#[a,r,1]:=Cw h;let#[b,1]:=len1\CT h;erw[a,b,1]
def len3(h:↑us=3):∃a b c,us=[a,b,c]:=by let#[a,r,1]:=Cw h;let#[b,c,1]:=len2\CT h;erw[a,b,c,1]
def len4(h:↑us=4):∃a b c d,us=[a,b,c,d]:=by let#[a,r,1]:=Cw h;let#[b,c,d,1]:=len3\CT h;erw[a,b,c,d,1]
def bdA(x q:Str)(st:rz)(us:List pC)(kV doc pm:pC)(an:Option pR)(a ct:pC):=bindArgs (W.fnOf x q (fe st) (dS st) (au st) .none kV doc pm an a ct) #[us,[]]
section
variable {x q:Str}{st:Stmt}{f:Addr}(F:Fun K x q st f fd)
include F
theorem bd1(a:Str)(h:(λu=>bdA x q st [u])=λu _ _ _ _ _ _=>pure [(a,u)]):Binds K fd [a] []:=F.binds λk d p n c t us b=>by
 let#[u,1]:=len1 b;show congrArg (· u k d p n c t) h
theorem bd2(a b:Str)(h:(λu v=>bdA x q st [u,v])=λu v _ _ _ _ _ _=>pure [(a,u),(b,v)]):Binds K fd [a,b] []:=F.binds λk d p n c t us e=>by
 let#[u,v,1]:=len2 e;show congrArg (· u v k d p n c t) h
theorem bd3(a b e:Str)(h:(λu v w=>bdA x q st [u,v,w])=λu v w _ _ _ _ _ _=>pure [(a,u),(b,v),(e,w)]):Binds K fd [a,b,e] []:=F.binds λk d p n c t us f=>by
 let#[u,v,w,1]:=len3 f;show congrArg (· u v w k d p n c t) h
theorem bd4(a b e g:Str)(h:(λu v w y=>bdA x q st [u,v,w,y])=λu v w y _ _ _ _ _ _=>pure [(a,u),(b,v),(e,w),(g,y)]):Binds K fd [a,b,e,g] []:=F.binds λk d p n c t us f=>by
 let#[u,v,w,y,1]:=len4 f;show congrArg (· u v w y k d p n c t) h
end
structure Top(K:W.Frag)(mg:Str->Option pC)(x:Str)(st:rz)(f:pR)(fd:ro):Prop where
 u:Fun K x x st f fd
 m:mg x*>.ref f
structure InC(K:W.Frag)(C:pR)(x q:Str)(st:rz)(f:pR)(fd:ro):Prop where
 u:Fun K x q st f fd
 m:Meth K C x f
def A_{h:rq}{x:Str}{st:rz}{f:pR}{d:pC}{od an:Option pR}{e:Array\Option pC}{kV doc pm b ct:pC}(X:K.In h)(G:h.Ns r4 mg)
  (a:W.nsIn K r4 x*>oy\.ref f) (l:K.lookup f*>#[d,od,.func\W.fnOf x x (fe st) (dS st) (au st) .none kV doc pm an b ct,e]) (c:W.codeIn K b x=oD) (k:W.keepIn K (.ref f)=oD) :
  Top K mg x st f (W.fnOf x x (fe st) (dS st) (au st) .none kV doc pm an b ct):=#[BD (st:=st) l c k,dO X G a]
def lW{C:pR}{x q:Str}{st:rz}{f:pR}{d:pC}{od an:Option pR}{e:Array\Option pC}{kV doc pm b ct:pC}
  (a:W.findIn K (.ref C) x*>oy\.ref f) (i:W.isFn K (.ref f)=oD) (l:K.lookup f*>#[d,od,.func\W.fnOf x q (fe st) (dS st) (au st) .none kV doc pm an b ct,e]) (c:W.codeIn K b q=oD) (k:W.keepIn K (.ref f)=oD) :
  InC K C x q st f (W.fnOf x q (fe st) (dS st) (au st) .none kV doc pm an b ct):=#[BD (st:=st) l c k,#[a,i,k]]
def aX(K:W.Frag)(x:Str)(st:rz):Prop:=∃(f:pR)(a:pC)(od an:Option pR)(sl:Array\Option pC)(kV b pm cd ct:pC),W.nsIn K r4 x*>oy (.ref f)/\K.lookup f*>#[a,od,.func\W.fnOf x x (fe st) (dS st) (au st) .none kV b pm an cd ct,sl]/\W.codeIn K cd x=oD/\W.keepIn K (.ref f)=oD
def top_in{x:Str}{st:rz}{f:pR}{b:pC}{od an:Option pR}{sl:Array\Option pC}{kV d pm cd ct:pC}(a:W.nsIn K r4 x*>oy\.ref f)(l:K.lookup f*>#[b,od,.func\W.fnOf x x (fe st) (dS st) (au st) .none kV d pm an cd ct,sl])(c:W.codeIn K cd x=oD)(k:W.keepIn K (.ref f)=oD):aX K x st:=#[f,b,od,an,sl,kV,d,pm,cd,ct,a,l,c,k]
def ba{h:rq}{st:rz}(X:K.In h)(G:h.Ns r4 mg)(t:aX K x st):∃f d,Top K mg x st f d:=by let#[f,b,od,an,sl,kV,e,pm,cd,ct,a,l,c,k]:=t;erw[0,A_ (st:=st) X G a l c k]
def InK(K:W.Frag)(C:pR)(x q:Str)(st:rz):Prop:=∃(f:pR)(a:pC)(od an:Option pR)(sl:Array\Option pC)(kV b pm cd ct:pC),W.findIn K (.ref C) x*>oy (.ref f)/\W.isFn K (.ref f)=oD/\K.lookup f*>#[a,od,.func\W.fnOf x q (fe st) (dS st) (au st) .none kV b pm an cd ct,sl]/\W.codeIn K cd q=oD/\W.keepIn K (.ref f)=oD
def in_in{C:pR}{x q:Str}{st:rz}{f:pR}{b:pC}{od an:Option pR}{sl:Array\Option pC}{kV d pm cd ct:pC}(a:W.findIn K (.ref C) x*>oy\.ref f)(i:W.isFn K (.ref f)=oD)(l:K.lookup f*>#[b,od,.func\W.fnOf x q (fe st) (dS st) (au st) .none kV d pm an cd ct,sl])(c:W.codeIn K cd q=oD)(k:W.keepIn K (.ref f)=oD):InK K C x q st:=#[f,b,od,an,sl,kV,d,pm,cd,ct,a,i,l,c,k]
def ckF(K:W.Frag)(D:pR)(f:Str):Bool:=W.findIn K (.ref D) ↑65==oy (oy\.builtin ↑35)&&(W.mroIn K D (.type ↑87)==oy oD&&((W.clsIn K D).any (λcd=>qv cd.mro)&&(W.findIn K (.ref D) f==oy n7&&(W.clsIn K D).any (·.hasDict))))
def ckM(K:W.Frag)(D:pR):Bool:=jZ K D&&W.keepIn K (.ref D)
def ckS(K:W.Frag)(S:pR):Bool:=W.specialIn K (.ref S) ↑33==oy (oy\.builtin "type.__getattribute__")&&W.readsIn K S (.type "type")
def ckE(K:W.Frag)(C:pR):Bool:=W.findIn K (.ref C) ↑33==oy (oy\.builtin ↑2)&&(W.findIn K (.ref C) "__getattr__"==oy n7&&(W.findIn K (.ref C) ↑66==oy (oy\.builtin ↑13)&&(W.mroIn K C (.type ↑87)==oy oD&&(W.mroIn K C (.type ↑4)==oy oD&&((W.clsIn K C).isSome &&
 (W.specialIn K (.builtin ↑13) "__get__"==oy (oy\.builtin ↑27)&&W.takesIn K (.builtin ↑13)==oy oD))))))
def ckC(K:W.Frag)(C M:pR):Bool:=(L2.clsIn K C).any λbm=>bm.contains (.type ↑4)&&!(Value.ref C::bm).contains (.ref M)
def ckK(K:W.Frag)(D S a b c d:pR)(e:List pR)(i:Nat):Bool:=ckE K D&&((L2.clsIn K D).any (λbm=>(Value.ref D::bm).contains\.ref S)&&(W.kitOne K (.ref D) (.ref a)==oy (i==0)&&(W.kitOne K (.ref D) (.ref b)==oy (i==1)&&(W.kitOne K (.ref D) (.ref c)==oy (i==2)&&(W.kitOne K (.ref D) (.ref d)==oy (i==3)&&(W.kitOne K (.ref D) (.type ↑21)==oy oD&&W.kitAny K (.ref D) (e.map Value.ref)==oy p6))))))
def ckB(K:W.Frag)(M:pR):Bool:=(L2.clsIn K M).any λbm=>bm.contains\.type ↑4
def BV:pC->Option Str
 |.str x _=>oy x
 |_=>n7
def Ng:Data->Option (List pC)
 |.seq a _=>oy a.toList
 |_=>n7
def ckT(K:W.Frag)(p:pR)(ks:List Str):Bool:=(K.lookup p).any λo=>o.cls==.type ↑20&&(Ng o.data).any λus=>us.map BV==ks.map oy
section
variable {C M D:Addr}
def lY{α:Type}{o:Option α}{p:α->Bool}(h:o.any p=oD):∃a,o*>a/\p a=oD:=by
 cases o with
 |none=>cases h
 |some a=>erw[a,1,h]
def vH(h:ckF K D f=oD):fE K D f:=by simp only[ckF,g_,beq_iff_eq] at h;erw[h.1,h.2.1,h.2.2.1,h.2.2.2.1,h.2.2.2.2]
def BP(h:ckE K C=oD):iM K C:=by simp only[ckE,g_,beq_iff_eq] at h;let#[h1,h2,a,b,c,d,e,f]:=h;erw[h1,h2,a,e,f,b,c,d]
def Mq(h:ckC K C M=oD):∃bm,L2.clsIn K C*>bm/\bm.contains (.type ↑4)=oD/\(Value.ref C::bm).contains (.ref M)=p6:=by let#[bm,e,h]:=lY h;let#[x,y]:=wg.mp h;erw[bm,e,x,‹y›]
def BO(h:ckK K D S a b c d f i=oD):sL K D S [a,b,c,d] f i:=by
 simp only[ckK,g_,beq_iff_eq] at h;let#[h1,h2,g,l,m,n,o,p]:=h;erw[BP h1,lY h2,λj x e=>?_,o,p]
 match j,e with
 |0,e=>cases e;show g
 |1,e=>cases e;show l
 |2,e=>cases e;show m
 |3,e=>cases e;show n
 |j+4,e=>cases e
def zc:∀{us:List pC}{ks:List Str},us.map BV=ks.map oy->Vals (ks.map V.str) us
 | [],[],_=>.nil
 | [],_::_,h=>by cases h
 |_::_,[],h=>by cases h
 |u::us,k::ks,h=>by
  rw[br,br] at h;let#[h1,h2]:=List.cons.inj h;show .cons ?_\zc h2;cases u<;>first|cases h1;done|(cases h1;erw[2])
def rj(h:ckT K D ks=oD):KTup K D (ks.map V.str):=by
 let#[o,e,h]:=lY h;let#[h1,h2]:=wg.mp h;let#[us,a,b]:=lY h2;cases d:o.data with
 |seq c n=>rw[d] at a;cases a;erw[o,c,n,e,beq_iff_eq.mp h1,d,zc\beq_iff_eq.mp b]
 |_=>rw[d] at a;cases a
end
section
end
def all_mk{h:rq}{fa Cs S c1 c2 n O c5 c6 u1 u2 u3 u4 u5 u6 u8 u9 t1 t2 t3:pR}{tM:Tok}(Y:K.In h)(G:h.Ns r4 mg)(d6:mg "law"*>.ref fa)
  (d7:W.nsIn K r4 "Skin"*>oy\.ref Cs)
  (aS:W.nsIn K r4 ↑22*>oy\.ref S)
  (d8:W.nsIn K r4 "TooMany"*>oy\.ref c1)
  (d9:W.nsIn K r4 "NoSkin"*>oy\.ref c2)
  (ea:W.nsIn K r4 "Spoilt"*>oy\.ref n)
  (eb:W.nsIn K r4 "NoSide"*>oy\.ref O)
  (ec:W.nsIn K r4 "NoDeed"*>oy\.ref c5)
  (ed:W.nsIn K r4 "Taken"*>oy\.ref c6)
  (ee:W.nsIn K r4 "Gone"*>oy\.ref u1)
  (eh:W.nsIn K r4 "NoCaps"*>oy\.ref u2)
  (ei:W.nsIn K r4 "NoCode"*>oy\.ref u3)
  (ej:W.nsIn K r4 "NoCorner"*>oy\.ref u4)
  (ek:W.nsIn K r4 "NoLetter"*>oy\.ref u5)
  (em:W.nsIn K r4 "NoPast"*>oy\.ref u6)
  (eo:W.nsIn K r4 "NoText"*>oy\.ref u8)
  (ep:W.nsIn K r4 "NoWord"*>oy\.ref u9)
  (eq:W.nsIn K r4 "AT_A_SIDE"*>oy\.ref t1)
  (er:W.nsIn K r4 "WITH_A_CORNER"*>oy\.ref t2)
  (es:W.nsIn K r4 "AT_A_RIM"*>oy\.ref t3)
  (aM:W.nsIn K r4 "MOST_TRIPLES"*>oy\.int 200 tM)
  (h1:aX K "is_whole" qH)
  (h2:aX K ↑60 pQ)
  (h3:aX K "first_of" qT)
  (h4:aX K "walked" qj)
  (h5:aX K ↑59 pH)
  (h6:aX K ↑86 pO)
  (h7:aX K "is_pair" qm)
  (h8:aX K ↑88 pP)
  (h9:aX K ↑37 nC)
  (et:aX K ↑42 qo)
  (ev:aX K ↑36 qI)
  (ew:aX K ↑47 rO)
  (ex:aX K ↑23 qM)
  (ey:aX K ↑51 qW)
  (ez:aX K "is_deed" lB)
  (eE:aX K ↑53 pG)
  (eH:aX K ↑29 mV)
  (eT:aX K ↑24 pB)
  (e0:aX K ↑19 mU)
  (e1:aX K ↑58 kP)
  (e2:aX K ↑85 kT)
  (e3:aX K "drawn" nR)
  (e4:aX K "put_in" lO)
  (e5:aX K "put_on" og)
  (e6:aX K "closed" nW)
  (e7:aX K ↑41 mY)
  (e8:aX K "changed" jb)
  (e9:aX K "_law_at" sAt)
  (fb:aX K "_law_pot" sy)
  (fc:aX K ↑31 qV)
  (fl:aX K ↑44 qK)
  (fn:aX K ↑25 qk)
  (fo:aX K ↑77 rP)
  (fp:aX K ↑16 p5)
  (fv:aX K ↑78 rQ)
  (fw:aX K ↑73 qJ)
  (fx:aX K ↑79 qU)
  (fy:aX K ↑34 pL)
  (fA:aX K ↑76 ql)
  (fF:aX K ↑92 qP)
  (fI:aX K ↑62 pY)
  (fS:aX K ↑91 qO)
  (f0:aX K ↑74 qL)
  (f1:aX K ↑90 rL)
  (f2:aX K ↑93 qQ)
  (f3:aX K ↑61 pX)
  (f4:aX K ↑63 pZ)
  (f5:aX K "_law_bad" rN)
  (f6:aX K "_law_due" rM)
  (f7:aX K ↑64 p4)
  (f8:aX K ↑94 qR)
  (f9:aX K "law" jz)
  (ga:InK K Cs ↑14 "Skin.__init__" j7)
  (gb:InK K c2 ↑14 ↑96 nU)
  (gc:InK K n ↑14 ↑95 m_)
  (gd:InK K Cs ↑45 "Skin.triangles" nh)
  (ge:InK K Cs "third" "Skin.third" n_)
  (gf:InK K Cs "corners" "Skin.corners" ni)
  (pg:W.plainGet K Cs Str.empty=oD)
  (hd:W.hasDictIn K Cs=oD)
  (po:W.plainOver K Cs=oD)
  (sa:W.findIn K (.ref Cs) ↑65*>oy\.builtin ↑35)
  (mk:W.makesIn K Cs=oD)
  (kc:W.keepIn K (.ref Cs)=oD)
  (gh:W.findIn K (.ref Cs) "ordered"*>n7)
  (gl:W.findIn K (.ref Cs) "rising"*>n7)
  (gm:W.findIn K (.ref Cs) "thirds"*>n7)
  (gn:W.findIn K (.ref Cs) "steps"*>n7)
  (go:W.nsIn K r4 "len"*>n7)
  (gp:W.nsIn K r4 "int"*>n7)
  (gs:W.nsIn K r4 "str"*>n7)
  (gt:W.nsIn K r4 ↑97*>n7)
  (gu:W.nsIn K r4 "range"*>n7)
  (gy:W.nsIn K r4 ↑28*>n7)
  (gE:W.nsIn K r4 ↑20*>n7)
  (gM:W.nsIn K r4 "bool"*>n7)
  (gN:W.nsIn K r4 "all"*>n7)
  (gS:W.nsIn K r4 ↑21*>n7)
  (gT:W.nsIn K r4 "reversed"*>n7)
  (gV:W.nsIn K r4 ↑89*>n7)
  (g0:W.nsIn K r4 ↑55*>n7)
  (ha:W.nsIn K r4 "min"*>n7)
  (hb:W.nsIn K r4 "max"*>n7)
  (hc:W.nsIn K r4 ↑69*>n7)
  (he:W.nsIn K r4 "zip"*>n7)
  (hf:W.nsIn K r4 "any"*>n7)
  (y3:W.findCls K (.ref S) (.type "type") ↑14*>.val\.builtin "ValueError.__init__")
  (cS:ckS K S=oD)
  (cC:ckC K c2 c1=oD)
  (cE:ckE K c2=oD)
  (cB:ckB K c1=oD)
  (hg:ckB K S=oD)
  (o2:ckF K c2 ↑71 = oD)
  (o3:ckF K n "kind" = oD)
  (r2:ckM K c2=oD)
  (r3:ckM K n=oD)
  (n4:W.excIn K O bmV ↑11 = oD)
  (x1:ckK K O S c5 O c6 n [u1,u2,u3,u4,u5,u6,c2,u8,u9,c1] 1=oD)
  (x3:ckK K n S c5 O c6 n [u1,u2,u3,u4,u5,u6,c2,u8,u9,c1] 3=oD)
  (hh:ckT K t1 ["turn","out","draw"]=oD)
  (cy:ckT K t2 ["in","on","close"]=oD)
  (hi:ckT K t3 ["on","close"]=oD)
  : ∃fd:ro,(∀(s:pS)(v:pC),BindsTo s fd #[[v],[]] [(↑12,v)])/\∀base:rq,K.In base->base.Ns r4 mg->!aj CX0 9 fa fd [↑12] (rJ K):=by
 let#[l4,oc,od,an,sl,kV,dc,pm,cd,ct,a,lk,c,k]:=f9;let e:=d6.symm.trans\dO Y G a;cases e;let T:cu mg:=#[eP Y G go,eP Y G gp,eP Y G gs,eP Y G gt,eP Y G gu,eP Y G gy,eP Y G gE,eP Y G gM,eP Y G gN,eP Y G gS,eP Y G gT,eP Y G gV];let X:SCls K Cs:=#[#[pg,hd,po,sa],gh,gl,gm,gn];simp only[ckM,g_] at r2 r3;let#[0,R]:=ba Y G h1;let#[0,o]:=ba Y G h2;let#[0,U]:=ba Y G h3;let#[0,Z]:=ba Y G h4;let#[0,U5]:=ba Y G h5;let#[0,U6]:=ba Y G h6;let#[0,U7]:=ba Y G h7;let#[0,U8]:=ba Y G h8;let#[0,U9]:=ba Y G h9;let#[0,ab]:=ba Y G et;let#[0,ad]:=ba Y G ev;let#[0,ag]:=ba Y G ew;let#[0,al]:=ba Y G ex;let#[0,C]:=ba Y G ey;let#[0,am]:=ba Y G ez;let#[0,ap]:=ba Y G eE;let#[0,a0]:=ba Y G eH;let#[0,a1]:=ba Y G eT;let#[0,p]:=ba Y G e0;let#[0,a2]:=ba Y G e1;let#[0,a3]:=ba Y G e2;let#[0,a4]:=ba Y G e3;let#[0,a5]:=ba Y G e4;let#[0,a6]:=ba Y G e5;let#[0,bb]:=ba Y G e6;let#[0,bc]:=ba Y G e7;let#[0,D]:=ba Y G e8;let#[0,bd]:=ba Y G e9;let#[0,be]:=ba Y G fb;let#[0,f]:=ba Y G fc;let#[0,i]:=ba Y G fl;let#[0,g]:=ba Y G fn;let#[0,E]:=ba Y G fo;let#[0,d]:=ba Y G fp;let#[0,H]:=ba Y G fv;let#[0,bi]:=ba Y G fw;let#[0,bl]:=ba Y G fx;let#[0,I]:=ba Y G fy;let#[0,bm]:=ba Y G fA;let#[0,bn]:=ba Y G fF;let#[0,bt]:=ba Y G fI;let#[0,bw]:=ba Y G fS;let#[0,bx]:=ba Y G f0;let#[0,bA]:=ba Y G f1;let#[0,bK]:=ba Y G f2;let#[0,bX]:=ba Y G f3;let#[0,b0]:=ba Y G f4;let#[0,ca]:=ba Y G f5;let#[0,cb]:=ba Y G f6;let#[0,cc]:=ba Y G f7;let#[0,ce]:=ba Y G f8;let#[hj,l5,l6,l7,l8,ma,mb,mc,md,me,c0,c8,hk,hl,hm]:=ga;let#[hn,mf,mi,mj,mo,mr,ms,mt,mu,mx,da,db,ho,hp,hq]:=gb;let#[hr,mA,mC,mD,mK,mN,mR,mX,mZ,m3,dd,df,hs,ht,hu]:=gc;let#[m4,m5,m6,m7,m8,m9,na,nb,nc,nd,hv,hw,hx,hy,hz]:=gd;let#[nf,nk,nl,nm,nn,np,ns,nt,nu,nw,hA,hB,hC,hD,hE]:=ge;let#[nz,nD,nH,nI,nL,nM,nO,nS,nT,n0,hF,hG,hH,hI,hK]:=gf;let q:=eP Y G g0;let cf:=eP Y G ha;let cg:=eP Y G hb;let di:=eP Y G hc;let dj:=eP Y G he;let hL:=eP Y G hf;let dk:=dO Y G d7;let mS:=dO Y G aS;let dl:=dO Y G d8;let Q:=dO Y G d9;let dm:=dO Y G ea;let dp:=dO Y G eb;let hM:=dO Y G ec;let hN:=dO Y G ed;let hO:=dO Y G ee;let hP:=dO Y G eh;let hQ:=dO Y G ei;let hR:=dO Y G ej;let hS:=dO Y G ek;let hT:=dO Y G em;let hW:=dO Y G eo;let hY:=dO Y G ep;let hZ:=dO Y G eq;let dr:=dO Y G er;let h0:=dO Y G es;let mM:=dO Y G aM;let ih:=A_ (st:=jz) Y G a lk c k;let ds:=lW (st:=j7) c0 c8 hk hl hm;let dt:=lW (st:=nU) da db ho hp hq;let dx:=lW (st:=m_) dd df hs ht hu;let r:=lW (st:=nh) hv hw hx hy hz;let L:=lW (st:=n_) hA hB hC hD hE;let co:=lW (st:=ni) hF hG hH hI hK;let MF:Mk K Cs hj:=#[mk,c0,c8,kc];let M2:iR K c2 hn:=#[r2.1,da,beq_iff_eq.mp db,r2.2];let M3:iR K n hr:=#[r3.1,dd,beq_iff_eq.mp df,r3.2];erw[W.fnOf "law" "law" (fe jz) (dS jz) (au jz) .none kV dc pm an cd ct,λs v=>.of_eq rfl,λbase _ _=>?_];let b1:=bd1 R.u ↑43 rfl;let b2:=bd1 o.u ↑43 rfl;let b3:=bd1 U.u "onward" rfl;let b4:=bd2 Z.u "onward" "begin" rfl;let b5:=bd1 U5.u "ring" rfl;let b6:=bd1 U6.u ↑39 rfl;let b7:=bd1 U7.u ↑43 rfl;let b8:=bd1 U8.u ↑43 rfl;let b9:=bd1 U9.u "things" rfl;let ii:=bd1 ab.u ↑50 rfl;let ij:=bd1 ad.u "thirds" rfl;let im:=bd1 ag.u "about" rfl;let io:=bd1 al.u "steps" rfl;let dy:=bd1 C.u ↑54 rfl;let it:=bd1 am.u ↑43 rfl;let iv:=bd1 ap.u ↑43 rfl;let ix:=bd2 a0.u ↑39 "deed" rfl;let i0:=bd2 a1.u ↑39 "deed" rfl;let cp:=bd2 p.u ↑39 "gone" rfl;let i1:=bd3 a2.u ↑39 "a" "b" rfl;let i2:=bd3 a3.u ↑39 "a" "b" rfl;let i3:=bd3 a4.u ↑39 "a" "b" rfl;let i4:=bd4 a5.u ↑39 "a" "b" "x" rfl;let jl:=bd4 a6.u ↑39 "a" "b" "x" rfl;let jp:=bd3 bb.u ↑39 "a" "x" rfl;let js:=bd2 bc.u ↑39 "deed" rfl;let dF:=bd2 D.u ↑39 "deed" rfl;let jy:=bd2 bd.u ↑12 ↑75 rfl;let j0:=bd2 be.u ↑12 ↑75 rfl;let y:=bd2 f.u ↑1 ↑48 rfl;let ch:=bd1 i.u ↑6 rfl;let z:=bd1 g.u ↑0 rfl;let dK:=bd2 E.u ↑5 ↑6 rfl;let j:=bd1 d.u ↑0 rfl;let dL:=bd2 H.u ↑0 ↑9 rfl;let j1:=bd1 bi.u ↑0 rfl;let j2:=bd2 bl.u ↑1 ↑30 rfl;let dT:=bd1 I.u ↑0 rfl;let ka:=bd2 bm.u ↑1 ↑30 rfl;let kd:=bd1 bn.u ↑1 rfl;let kn:=bd2 bt.u ↑56 "_law_other" rfl;let ks:=bd2 bw.u ↑1 ↑30 rfl;let kv:=bd2 bx.u ↑1 ↑0 rfl;let kw:=bd1 bA.u ↑0 rfl;let kx:=bd1 bK.u ↑0 rfl;let kz:=bd2 bX.u ↑0 ↑38 rfl;let kA:=bd2 b0.u ↑0 ↑7 rfl;let kC:=bd1 ca.u ↑0 rfl;let kR:=bd2 cb.u ↑0 ↑7 rfl;let kS:=bd2 cc.u ↑52 ↑7 rfl;let k0:=bd2 ce.u ↑1 ↑0 rfl;let dV:=bd2 ds.u ↑67 ↑50 rfl;let cr:=bd2 dt.u ↑67 ↑71 rfl;let k1:=bd2 dx.u ↑67 "kind" rfl;let M:=bd1 r.u ↑67 rfl;let ci:=bd3 L.u ↑67 "a" "b" rfl;let k2:=bd1 co.u ↑67 rfl;let kt:oG K:=#[5,1];let xc:=BP cE;let#[bN,eN,k3,k4]:=Mq cC;let#[bM,eM,k5]:=lY cB;let xf:=vH o2;simp only[ckS,g_,beq_iff_eq] at cS;let bS:BInit K S:=#[cS.1,cS.2,y3];let g1:!aj CX0 _ _ _ _ _:=G7 R.u T kt;let g2:!aj CX0 _ _ _ _ _:=D8 o.u #[g1,b1,R.m,R.u.kp];let g3:!aj CX0 _ _ _ _ _:=Hv U.u T cf;let g4:!aj CX0 _ _ _ _ _:=Ez Z.u;let g5:!aj CX0 _ _ _ _ _:=Hk U5.u T dj;let g6:!aj CX0 _ _ _ _ _:=D7 U6.u X;let g7:!aj CX0 _ _ _ _ _:=Fh U7.u T kt #[g2,b2,o.m,o.u.kp];let g8:!aj CX0 _ _ _ _ _:=Ht U8.u T kt #[g2,b2,o.m,o.u.kp];let cs:!aj CX0 _ _ _ _ _:=Fg dt.u mS bS;let g9:!aj (CX1 P w) _ _ _ _ _:=HA U9.u T #[g8,b8,U8.m,U8.u.kp] M2 xf cs cr Q;let k6:!aj (CX1 P w) _ _ _ _ _:=EB ab.u T M2 xf cs cr Q;let k7:!aj CX0 _ _ _ _ _:=G9 ad.u;let k8:!aj CX0 _ _ _ _ _:=JP ag.u T di #[g3,b3,U.m,U.u.kp];let k9:!aj (CX1 P w) _ _ _ _ _:=Hq al.u q #[k8,im,ag.m,ag.u.kp] M2 xf cs cr Q;let d0:!aj CX0 _ _ _ _ _:=HB C.u cf;let d1:!aj (CX1 P w) _ _ _ _ _:=JG ds.u T q mM X #[g9,b9,U9.m,U9.u.kp] #[k6,ii,ab.m,ab.u.kp] #[k7,ij,ad.m,ad.u.kp] #[k9,io,al.m,al.u.kp] #[d0,dy,C.m,C.u.kp];let N:!aj CX0 _ _ _ _ _:=LD r.u X T;let cj:!aj CX0 _ _ _ _ _:=G8 L.u X;let la:!aj CX0 _ _ _ _ _:=Fi am.u T kt rfl #[g2,b2,o.m,o.u.kp] #[g7,b7,U7.m,U7.u.kp] hZ (rj hh) dr\rj cy;let lb:!aj CX0 _ _ _ _ _:=Fj ap.u T #[la,it,am.m,am.u.kp];let lc:!aj (CX1 P w) _ _ _ _ _:=Ho a0.u X #[cj,ci,L.m] dp n4 h0\rj hi;let ld:!aj CX0 _ _ _ _ _:=Hr a1.u X dr\rj cy;let cx:!aj CX0 _ _ _ _ _:=NK p.u X #[d0,dy,C.m,C.u.kp] #[N,M,r.m];let le:!aj CX0 _ _ _ _ _:=JE a2.u X #[cx,cp,p.m,p.u.kp] #[cj,ci,L.m];let lf:!aj CX0 _ _ _ _ _:=LH a3.u X #[cx,cp,p.m,p.u.kp] #[cj,ci,L.m];let lg:!aj CX0 _ _ _ _ _:=JS a4.u X T #[N,M,r.m];let li:!aj CX0 _ _ _ _ _:=NM a5.u X #[cx,cp,p.m,p.u.kp] #[cj,ci,L.m];let lj:!aj CX0 _ _ _ _ _:=NL a6.u X #[N,M,r.m];let ll:!aj CX0 _ _ _ _ _:=Hz bb.u X #[g6,b6,U6.m,U6.u.kp] #[g4,b4,Z.m,Z.u.kp] #[g5,b5,U5.m,U5.u.kp] #[N,M,r.m];let lm:!aj CX0 _ _ _ _ _:=LK bc.u #[le,i1,a2.m,a2.u.kp] #[lf,i2,a3.m,a3.u.kp] #[lg,i3,a4.m,a4.u.kp] #[li,i4,a5.m,a5.u.kp] #[lj,jl,a6.m,a6.u.kp] #[ll,jp,bb.m,bb.u.kp];let d2:!aj (CX2 P w) _ _ _ _ _:=NN D.u #[lb,iv,ap.m,ap.u.kp] #[lc,ix,a0.m,a0.u.kp] #[ld,i0,a1.m,a1.u.kp] #[lm,js,bc.m,bc.u.kp] MF d1 dV dk dl eM k5 Q eN k3 k4 M3 (λx=>Ff dx.u mS bS) k1 dm xc xf\vH o3;let ln:!aj CX0 _ _ _ _ _:=JI co.u X T;let lo:!aj CX0 _ _ _ _ _:=LG be.u bd.u jy bd.m bd.u.kp T;let A:!aj CX0 _ _ _ _ _:=Hy f.u;let cl:!aj CX0 _ _ _ _ _:=Hj i.u;let B:!aj CX0 _ _ _ _ _:=Fe g.u;let d3:!aj CX0 _ _ _ _ _:=JQ E.u T #[cl,ch,i.m,i.u.kp];let l:!aj CX0 _ _ _ _ _:=EA d.u q;let d4:!aj CX0 _ _ _ _ _:=JR H.u q #[B,z,g.m,g.u.kp];let lp:!aj CX0 _ _ _ _ _:=G_ bi.u T cg #[l.mono ⋯,j,d.m,d.u.kp] #[d4,dL,H.m,H.u.kp];let lr:!aj CX0 _ _ _ _ _:=Hw bl.u T #[A.mono ⋯,y,f.m,f.u.kp] #[B.mono ⋯,z,g.m,g.u.kp] #[d3,dK,E.m,E.u.kp];let d5:!aj CX0 _ _ _ _ _:=LF I.u q #[B,z,g.m,g.u.kp];let ls:!aj CX0 _ _ _ _ _:=Hu bm.u T #[A.mono ⋯,y,f.m,f.u.kp] #[B.mono ⋯,z,g.m,g.u.kp] #[d3,dK,E.m,E.u.kp] #[d5,dT,I.m,I.u.kp] #[l.mono ⋯,j,d.m,d.u.kp];let lu:!aj CX0 _ _ _ _ _:=JJ bn.u T cg #[A.mono ⋯,y,f.m,f.u.kp] #[l.mono ⋯,j,d.m,d.u.kp] #[cl.mono ⋯,ch,i.m,i.u.kp];let lv:!aj CX0 _ _ _ _ _:=Fk bt.u T cg #[l.mono ⋯,j,d.m,d.u.kp];let lw:!aj CX0 _ _ _ _ _:=Hm bw.u #[A.mono ⋯,y,f.m,f.u.kp] #[lu,kd,bn.m,bn.u.kp] #[lp,j1,bi.m,bi.u.kp] #[lv,kn,bt.m,bt.u.kp] #[ls,ka,bm.m,bm.u.kp] #[lr,j2,bl.m,bl.u.kp];let ly:!aj CX0 _ _ _ _ _:=Hl bx.u T #[A,y,f.m,f.u.kp] #[l,j,d.m,d.u.kp];let lz:!aj CX0 _ _ _ _ _:=JF bA.u cf q;let lL:!aj CX0 _ _ _ _ _:=K71.ok_lrims bK.u q di cf #[d5,dT,I.m,I.u.kp];let lS:!aj CX0 _ _ _ _ _:=JK bX.u #[cl,ch,i.m,i.u.kp];let lT:!aj CX0 _ _ _ _ _:=JM b0.u T dj #[B,z,g.m,g.u.kp] #[lS,kz,bX.m,bX.u.kp] #[lL,kx,bK.m,bK.u.kp];let l0:!aj CX0 _ _ _ _ _:=JN ca.u T hL #[cl,ch,i.m,i.u.kp] #[l.mono ⋯,j,d.m,d.u.kp] #[d4.mono ⋯,dL,H.m,H.u.kp];let l1:!aj CX0 _ _ _ _ _:=JL cb.u T #[B,z,g.m,g.u.kp] #[l.mono ⋯,j,d.m,d.u.kp] #[l0,kC,ca.m,ca.u.kp] #[lT,kA,b0.m,b0.u.kp];let l2:!aj CX0 _ _ _ _ _:=Hs ce.u T q cg #[B,z,g.m,g.u.kp] #[l.mono ⋯,j,d.m,d.u.kp] #[A,y,f.m,f.u.kp];let l3:!aj CX0 _ _ _ _ _:=JO cc.u T X #[d2,dF,D.m,D.u.kp] #[N,M,r.m] mS (lY hg) hM dp hN dm hO hP hQ hR hS hT Q hW hY dl (vH o3) (BO x1)\BO x3;show LJ ih.u T X #[lo,j0,be.m,be.u.kp] #[ly,kv,bx.m,bx.u.kp] #[lw,ks,bw.m,bw.u.kp] MF d1 dV dk #[lz,kw,bA.m,bA.u.kp] #[l.mono ⋯,j,d.m,d.u.kp] #[A,y,f.m,f.u.kp] #[l2,k0,ce.m,ce.u.kp] #[l1,kR,cb.m,cb.u.kp] #[l3,kS,cc.m,cc.u.kp] #[d2,dF,D.m,D.u.kp] #[N,M,r.m] #[ln,k2,co.m]
def walk{l:W.OpenLaw}{q:rp}{loose:List Str}{XP:(Str->Option pC)->rq->Prop}{YP:sf->rq->Prop}{d:DefRec}{K:Params->W.Frag}(b:l.most*>63)(c:d.params.defaults=[])
  (e:∀(w:sf)(h:rq),YP w h->(K w.params).In h) (g:∀(w:sf)(a:pR)(o:Obj),(K w.params).lookup a*>o->o.cls≠.type ↑28)
  (F:∀(w:sf)(mg:Str->Option pC)(fa:pR)(h:rq),(K w.params).In h->h.Ns r4 mg->mg d.name*>.ref fa->
   ∃fd:ro,(∀(s:pS)(u:pC),BindsTo s fd #[[u],[]] [(↑12,u)])/\∀base:rq,(K w.params).In base->base.Ns r4 mg->aj l.prog w (K w.params) mg base CX0 9 fa fd [↑12]\rJ (K w.params)) :
  W.WalkO q loose XP YP l.row.toRowW d [] (λf vs=>PySem.call f vs):=
 L2.walk_of (n:=63) (k:=9) (x:=↑12) (CX:=λ_=>CX0) (sp:=λw=>rJ\K w.params) b ⋯ c #[1,⋯,⋯,1] e F g (λ_ _ a ns i _ j=>#[a,ns,1,j,i,λ_=>rfl]) λ_ _ _ _ _ z=>z
open PySem.W
def kf_nl(P:Params)(a:pR)(o:Obj)(h:(kf P).lookup a*>o):o.cls≠.type ↑28:=B8 (show _=oD by kernel_rfl) h
end K15
def PySem.W.Fast.tw15483847639059105134:PySem.Program:=PySem.Challenge.pw_shapestring_k61_deeds_told
theorem PySem.W.Fast.te15483847639059105134:PySem.Challenge.pw_shapestring_k61_deeds_told=PySem.W.Fast.tw15483847639059105134:=rfl
open PySem PySem.W PyProof.Rows
set_option maxRecDepth 100000 in
set_option maxHeartbeats 0 in
theorem PySem.Challenge.cw_shapestring_k61_deeds_told_holds : PySem.Challenge.rw_shapestring_k61_deeds_told.Holds := by
 w_on;o_law
 show W.holds_open (q:=K15.view) (loose:=[]) (Xt:=λs=>xlAt K15.view [] s&&recOk [] s) (XP:=XL K15.view []) (Yf:=Hook.obs\kHook K15.kf K15.ads (λ_=>by kernel_rfl)) (Ya:=Hook.val\kHook K15.kf K15.ads (λ_=>by kernel_rfl)) (YP:=Hook.says\kHook K15.kf K15.ads (λ_=>by kernel_rfl)) (N:=10702) K15.left (Hook.of _) (Hook.keeps _)
  (λs e=>xl_of s (wg.mp e).1) XL.keeps (by rfl) (by rfl) (by rfl) (λs e=>recFacts_of (wg.mp e).2) (by rfl) (by assumption) ⋯ #[5,5,1,⋯] ?hw ?hc
 case hw=>w_witness2
 k_fill
 show K15.walk (l:=PySem.Challenge.rw_shapestring_k61_deeds_told) rfl rfl (λw h Y=>W.kIn_of Y) (λw=>K15.kf_nl w.params) ?F
 case F=>
  intro w mg fa h KX G hmg
  refine' K15.all_mk KX G hmg ?aCs ?aS ?ac1 ?ac2 ?ac3 ?ac4 ?ac5 ?ac6 ?au1 ?au2 ?au3 ?au4 ?au5 ?au6 ?au8 ?au9 ?at1 ?at2 ?at3 ?aM ?_ ?_ ?_ ?_ ?_ ?_ ?_ ?_ ?_ ?_ ?_ ?_ ?_ ?_ ?_ ?_ ?_ ?_ ?_ ?_ ?_ ?_ ?_ ?_ ?_ ?_ ?_ ?_ ?_ ?_ ?_ ?_ ?_ ?_ ?_ ?_ ?_ ?_ ?_ ?_ ?_ ?_ ?_ ?_ ?_ ?_ ?_ ?_ ?_ ?_ ?_ ?_ ?_ ?_ ?_ ?_ ?_ ?_ ?_ ?_ ?_ ?_ ?_ ?_ ?_ ?_ ?_ ?_ ?_ ?_ ?_ ?_ ?_ ?_ ?_ ?_ ?_ ?_ ?_ ?_ ?_ ?_ ?_ ?_ ?_ ?_ ?_ ?_ ?_ ?_ ?_ ?_ ?_ ?_ ?_ ?_ ?_ ?_ ?_ ?_ ?_ ?_
  (case aCs=>k_is);(case aS=>k_is);(case ac1=>k_is);(case ac2=>k_is);(case ac3=>k_is);(case ac4=>k_is);(case ac5=>k_is);(case ac6=>k_is);(case au1=>k_is);(case au2=>k_is);(case au3=>k_is);(case au4=>k_is);(case au5=>k_is);(case au6=>k_is);(case au8=>k_is);(case au9=>k_is);(case at1=>k_is);(case at2=>k_is);(case at3=>k_is);(case aM=>k_is)
  all_goals first|k_is|(refine' K15.top_in ?a ?l ?c ?k;(case a=>k_is);(case l=>k_is);(case c=>k_is);(case k=>k_is))|(refine' K15.in_in ?a ?i ?l ?c ?k;(case a=>k_is);(case i=>k_is);(case l=>k_is);(case c=>k_is);(case k=>k_is))|kernel_rfl
#print axioms PySem.Challenge.cw_shapestring_k61_deeds_told_holds
